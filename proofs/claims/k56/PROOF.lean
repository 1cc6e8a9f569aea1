import PyProof.Rows.All
import Wide.All
import OpenK.AllK
import Wide.FinOn
import Lean
import PyProof.EqAt
import PyProof.EqKinds
import PyProof.TupleCall
import PySem.Challenge.RW_oneglance_k56_tables_of_waits
local macro_rules|`(tactic|let⟨$a,*⟩:=$e)=>do
 let f s:=match s with|.node i `Lean.Parser.Term.anonymousCtor #[a,b,c]=>.node i `Lean.Parser.Tactic.rcasesPat.tuple #[a,.node i `null (b.getArgs.mapIdx λk x=>if k%2==1 then x else .node i `Lean.Parser.Tactic.rcasesPatLo #[.node i `Lean.Parser.Tactic.rcasesPatMed #[.node i `null #[x]],.node i `null #[]]),c]|.ident i _ _ _=>.node i `Lean.Parser.Tactic.rcasesPat.one #[s]|.node i `Lean.Parser.Term.hole a=>.node i `Lean.Parser.Tactic.rcasesPat.ignore a|s=>s
 let p:Lean.TSyntax `rcasesPat:=⟨(←`(⟨$a,*⟩)).raw.rewriteBottomUp f⟩
 `(tactic|obtain $p:rcasesPat:=$e)
local macro_rules|`(‹$t›)=>`(by simpa using $t)
local macro_rules|`(tactic|trivial)=>`(tactic|exact Or.inl rfl)
local macro_rules|`(tactic|trivial)=>`(tactic|exact Or.inr rfl)
set_option maxHeartbeats 4000000
set_option Elab.async false
set_option linter.all false
set_option maxRecDepth 100000
set_option bootstrap.genMatcherCode false
set_option genSizeOf false
set_option compiler.extract_closed false
noncomputable section
open Option renaming bind_eq_some_iff→Z0, bind_some→Z4, map_eq_some_iff→X1, getD_some→X9, map_some→XU, isSome_map→XS
open PySem renaming wpAny_bind→Z2, Value→Z5, Shared→Z6, wpAny_pure→Z8, starEach→ZU, sizeLine→ZC, Expr→ZN, model→ZS, Program→Zq, World→Zr, Around→Ze, Stmt→Zn, bootBuiltins→Zi, backTo→X8, wpAny_mono→XZ, swapsWith→XE, FuncData→XF, Scope→XA
open PySem.W renaming Frag→Z3
open PySem.Heap renaming get?_push_of_some→Z7, get?_push_size→ZG, lt_size→ZH, get?_update_self→XD, SameBut→XC, size_push→Xw
open List renaming getElem?_eq_some_iff→Z9, length_map→ZQ, getElem?_set_ne→ZZ, append_assoc→ZJ, length_append→ZV, getElem?_eq_getElem→ZK, mem_cons_of_mem→ZY, map_cons→ZR, getElem?_set_self→ZE, mem_cons_self→ZD, length_cons→ZM, size_toArray→ZP, mem_cons→ZT, replicate→ZO, getElem?_map→Zz, getElem?_cons_succ→Zx, append_nil→Zj, not_mem_nil→Zv, getElem?_append_left→Zk, mem_map→Zy, mem_singleton→Zw, cons_append→Zu, map_append→Zb, mem_append_right→Zg, getElem?_eq_none→Zd, getElem?_append_right→Zf, map_map→Za, map_nil→Zm, range→Zp, find?_cons→Zl, getD_eq_getElem?_getD→Zo, ext_getElem?→Zs, mem_of_getElem?→X3, mem_append→X4, nil_append→X6, length_nil→XX, all_eq_true→XJ, replicate_succ→XY, map_congr_left→XW, any_cons→XR, getElem?_replicate→XB, set_set→XG, mem_range→XH, lookup_cons→XM, length_take→XN, getElem_mem→XT, length_set→XO, nodup_append→Xz, mem_append_left→Xx, flatten_cons→Xj, getElem?_range→Xk, getElem?_cons_zero→Xy, nodup_cons→Xb
open Nat renaming le_refl→ZW, ne_of_lt→ZL, lt_of_lt_of_le→ZI, le_trans→X2, zero_le→X5, le_of_ble_eq_true→XI, zero_add→Xq, lt_irrefl→Xv, le_succ→Xu
open Bool renaming false_ne_true→ZF, false_eq_true→Zt, and_eq_true→Xr, not_true→Xh
open Array renaming length_toList→Zh, getElem?_eq_getElem→Zc, getElem?_toList→X7
open Int renaming toNat_natCast→XQ, emod_nonneg→Xg
theorem Xe{c:Prop}{_:Decidable c}(h:c){α}{t e:α}:ite c t e=t:=if_pos h
theorem Xd{c:Prop}{_:Decidable c}(h:¬c){α}{t e:α}:ite c t e=e:=if_neg h
theorem Xf{p:Prop}[Decidable p](h:¬p):decide p=false:=decide_eq_false h
theorem Xa{p:Prop}[Decidable p](h:p):decide p=true:=decide_eq_true h
set_option hygiene false
local macro_rules
|`(24)=>`(by omega)
|`(28)=>`(.tup [.int n,.int w])
|`(39)=>`(by decide +kernel)
|`(46)=>`(cC (.int 1))
|`(47)=>`(Inv X a_ σ H s)
|`(48)=>`(cC (.int 0))
|`(49)=>`(ZS X.prog X.w)
|`(51)=>`(by simp)
|`(54)=>`(by decide)
|`(55)=>`(["world","state","dealings","thing"])
|`(56)=>`(.tup (st0.map U.int))
|`(57)=>`(List (Addr×Obj))
|`(58)=>`(cxC X Nc scope cl s3 H3 fp)
|`(59)=>`(.lst (Ds.map dlU))
|`(61)=>`(bR (cC (.bl false)))
|`(65)=>`(.cons ⟨rfl,rfl,rfl,_,rfl⟩ .nil)
|`(66)=>`([some (.ref i),some (.tup (first.map U.int)),some (.ref ll),r3])
|`(67)=>`(TC K ao ["wheel","held","puts","part"])
|`(68)=>`(qx hu (qv 1) qI)
|`(69)=>`(ZS prog w)
|`(70)=>`(cxC X Nc scope cl s3 (upd H2 D (.lst [])) fp)
|`(71)=>`(cC (.int 2))
|`(72)=>`(by simp;omega)
|`(73)=>`(.ListComp elt [⟨tg,iter,[c],0⟩] scope pos)
|`(74)=>`(ae (af 1) (ae (af 2) (ae (af 0) aq)))
|`(75)=>`(∀d∈Ds,OkL n w 2 d)
|`(76)=>`(by trivial)
|`(77)=>`(.Call (.Name x p) (e::es) [] pos)
|`(78)=>`(aB aw hr rfl (ab (qv 0) (ab qI ak)))
|`(79)=>`(Str->Option Z5)
|`(80)=>`([.tup [.int n,.int w],.tup (st0.map U.int),.ref ld,.ref lt])
|`(81)=>`(by with_unfolding_all rfl)
|`(82)=>`(first.map U.int)
|`(83)=>`((beh first m.ps 0).map U.int)
|`(84)=>`(.ref ld)
|`(85)=>`(.frz ob (dNo a kvs))
|`(86)=>`(.ref s.heap.objs.size)
|`(87)=>`(aP eF eE rfl B.len PySem.boot_len (ab (qx hu (qv 0) qI) ak))
|`(88)=>`(∀{f:Addr} {cdv:Z5} {A:Ze} {outer:List Env} {s:Z6} {H:Hp} {E:XK},(hr:eQ k (A.deeper (envOfC q (ay st) s.heap.objs.size f cdv)))->(A.deeper (envOfC q (ay st) s.heap.objs.size f cdv)).units+1<cLine->N.Nodup->WSs (mJ CX0 P w K mg base N q (ay st) f cdv A outer s H E).nox (cK st) (tS K c))
|`(89)=>`(ae (af 1) aq)
|`(91)=>`(ae (cOp D1 (cOp fIx (af 6) 46) (um 46)) (ae (cOp eJ (cOp fIx (af 6) 46) (cSl (cOp fIx (af 6) 46) (some (um 46)) none)) aq))
|`(92)=>`([.int n,.int w])
|`(93)=>`(bh P w K mg base "_law_take" (k) ["pen","many"] ag)
|`(94)=>`(qx hu (qv 2) qI)
|`(95)=>`(Cf cD w n.toNat i ll m (pt ds q A B) S)
namespace L2
open PySem PySem.Spec PyProof.Rows
abbrev Key:=Sum Int Str
def uX:Key->Z5->Bool
 |.inl k,v=>Value.isInt k v
 |.inr x,v=>Value.isStrOf x v
def RI(w:Zr):Key->Int
 |.inl k=>hashInt k
 |.inr x=>hashStr w x
theorem bM:∀{k:Key} {v:Z5},uX k v=true->(∃i t,k=Sum.inl i/\v=Value.int i t)\/(∃x t,k=Sum.inr x/\v=Value.str x t)
 |.inl i,v,h=>by
  let⟨t,e⟩:=Value.isInt_shape (k:=i) (v:=v) h;exact .inl ⟨i,t,rfl,e⟩
 |.inr x,v,h=>by
  let⟨t,e⟩:=Value.isStrOf_shape (x:=x) (v:=v) h;exact .inr ⟨x,t,rfl,e⟩
def Ax(i:Int)(t:Tok):uX (.inl i) (.int i t)=true:=by simp[uX,Value.isInt]
def Aw(x:Str)(t:Tok):uX (.inr x) (.str x t)=true:=by simp[uX,Value.isStrOf]
theorem LP(a b:Int):decide ((Sum.inl a:Key)=Sum.inl b)=(a == b):=by
 by_cases e:a=b;subst e;simp;have h:¬(Sum.inl a:Key)=Sum.inl b:=λq=>e (Sum.inl.inj q);rw[Xf h];exact(beq_eq_false_iff_ne.mpr e).symm
theorem LM(a b:Str):decide ((Sum.inr a:Key)=Sum.inr b)=decide (a=b):=by
 by_cases e:a=b;subst e;simp;have h:¬(Sum.inr a:Key)=Sum.inr b:=λq=>e (Sum.inr.inj q);rw[Xf h,Xf e]
def LO(a:Int)(b:Str):decide ((Sum.inl a:Key)=Sum.inr b)=false:=Xf (λq=>nomatch q)
def LN(a:Str)(b:Int):decide ((Sum.inr a:Key)=Sum.inl b)=false:=Xf (λq=>nomatch q)
def cX(prog:Zq)(w:Zr):PySem.KeyKind prog w Key where
 is:=uX
 hash:=RI w
 inj:=λv a b ha hb=>by
  rcases bM ha with⟨i,t,rfl,rfl⟩|⟨x,t,rfl,rfl⟩;rcases bM hb with⟨j,u,rfl,e⟩|⟨y,u,rfl,e⟩;injection e with e1 _;rw[e1];exact nomatch e;rcases bM hb with⟨j,u,rfl,e⟩|⟨y,u,rfl,e⟩;exact nomatch e;injection e with e1 _;rw[e1]
 byValue:=λk v h=>by
  rcases bM h with⟨i,t,rfl,rfl⟩|⟨x,t,rfl,rfl⟩<;>rfl
 pyHash:=λhv h=>by
  rcases bM hv with⟨i,t,rfl,rfl⟩|⟨x,t,rfl,rfl⟩;exact wpAny_pyHash_int h;exact wpAny_pyHash_str h
 eqBool:=λhu hv h=>by
  rcases bM hu with⟨i,t,rfl,rfl⟩|⟨x,t,rfl,rfl⟩;rcases bM hv with⟨j,u,rfl,rfl⟩|⟨y,u,rfl,rfl⟩;rw[LP]at h;exact wpAny_eqBool_int h;rw[LO]at h;exact SeqAt.EqAt.int_str i t y u _ _ _ _ h;rcases bM hv with⟨j,u,rfl,rfl⟩|⟨y,u,rfl,rfl⟩;rw[LN]at h;exact SeqAt.EqAt.str_int x t j u _ _ _ _ h;rw[LM]at h;exact wpAny_eqBool_str h
 «strs»:=λk x t v h=>by
  rcases bM h with⟨i,u,rfl,e⟩|⟨y,u,rfl,e⟩;exact nomatch e
  ·injection e with e1 _;subst e1;cases v<;>rfl
def uQ(prog:Zq)(w:Zr)(i:Int)(t:Tok):(cX prog w).is (.inl i) (.int i t)=true:=Ax i t
def uP(prog:Zq)(w:Zr)(x:Str)(t:Tok):(cX prog w).is (.inr x) (.str x t)=true:=Aw x t
inductive V where
 |non|bl (b:Bool)|int (i:Int)|str (x:Str)|byt (b:Array UInt8)|flt (b:UInt64)|ref (a:Addr)|ty (n:String)
 deriving DecidableEq
def cP:V->Z5->Prop
 |.non,u=>u=Value.none
 |.bl b,u=>u=Value.bool b
 |.int i,u=>∃t,u=Value.int i t
 |.str x,u=>∃t,u=Value.str x t
 |.byt b,u=>∃t,u=Value.bytes b t
 |.flt b,u=>∃t,u=Value.float b t
 |.ref a,u=>u=Value.ref a
 |.ty n,u=>u=Value.type n
abbrev bS:List V->List Z5->Prop:=Paired cP
def bS.length{xs:List V}{us:List Z5}(r:bS xs us):xs.length=us.length:=Paired.length r
theorem bS.get:∀{xs:List V} {us:List Z5} {i:Nat} {x:V},bS xs us->xs[i]?=some x->∃u,us[i]?=some u/\cP x u
 |_,_,_,_,.nil,e=>by simp at e
 |_,_,0,_,.cons r _,e=>by simp at e;subst e;exact⟨_,rfl,r⟩
 |_,_,i+1,x,.cons _ t,e=>by
  let⟨u,h1,h2⟩:=bS.get (i:=i) (x:=x) t ‹e›;exact⟨u,by simpa using h1,h2⟩
theorem bS.set{x:V}{u:Z5}(r:cP x u):∀{xs:List V} {us:List Z5} (i:Nat),bS xs us->bS (xs.set i x) (us.set i u)
 |_,_,_,.nil=>.nil
 |_,_,0,.cons _ t=>.cons r t
 |_,_,i+1,.cons q t=>.cons q (bS.set r i t)
theorem bS.append:∀{xs ys:List V} {us ws:List Z5},bS xs us->bS ys ws->bS (xs++ys) (us++ws)
 |_,_,_,_,.nil,s=>s
 |_,_,_,_,.cons r t,s=>.cons r (bS.append t s)
theorem bS.take:∀{xs:List V} {us:List Z5} (n:Nat),bS xs us->bS (xs.take n) (us.take n)
 |_,_,0,_=>.nil
 |_,_,_+1,.nil=>.nil
 |_,_,n+1,.cons r t=>.cons r (bS.take n t)
theorem bS.drop:∀{xs:List V} {us:List Z5} (n:Nat),bS xs us->bS (xs.drop n) (us.drop n)
 |_,_,0,r=>r
 |_,_,_+1,.nil=>.nil
 |_,_,n+1,.cons _ t=>bS.drop n t
def rS:Option V->Option Z5->Prop
 |some v,some u=>cP v u
 |none,none=>True
 |_,_=>False
def KV{κ:Type}:List (κ×V)->List (κ×Z5)->Prop:=Paired λ(p:κ×V) (q:κ×Z5)=>p.1=q.1/\cP p.2 q.2
def kV:Key->V
 |.inl i=>.int i
 |.inr x=>.str x
inductive HO where
 |lst (xs:List V)
 |tup (xs:List V)
 |dK (kvs:List (Key×V))|dT (kvs:List (List Key×V))
 |set (S:Int->Bool) (n:Nat)
 |ins (C dx:Addr) (fs:List (Str×V))
 |own (x:Addr)
 |xd (fs:List (Str×V))
 |met (f x:Addr)
 |rng (lo hi:Int)
 |frz (o:Obj) (u:HO)
 |tbl (ps:Array Z5)
 |ext (φ:Heap->Prop)
abbrev Hp:=Addr->Option HO
def upd(H:Hp)(a:Addr)(o:HO):Hp:=λb=>if b=a then some o else H b
def ax{H:Hp}{a:Addr}{o:HO}:upd H a o a=some o:=by unfold upd;rw[Xe rfl]
def aD{H:Hp}{a b:Addr}{o:HO}(h:b≠a):upd H a o b=H b:=by unfold upd;rw[Xd h]
theorem yZ{H:Hp}{a:Addr}{o u:HO}:upd (upd H a o) a u=upd H a u:=by
 funext b;unfold upd;split<;>rfl
theorem Pe{H:Hp}{a b:Addr}{o u:HO}(h:H a=some o)(h':H b=some u)(d:o≠u):a≠b:=by
 intro e;subst e;rw[h]at h';exact d (Option.some.inj h')
theorem cQ{H:Hp}{a b:Addr}{o:HO}(h:H a=some o)(h':H b=none):a≠b:=by
 intro e;subst e;rw[h]at h';cases h'
def EC(h:Heap)(a:Addr)(items:Array Z5):Prop:=∃o,h.get? a=some o/\(o.cls=.type "tuple"/\o.dict=none)/\∃n,o.data=.seq items n
def EC.tup{h:Heap}{a:Addr}{items:Array Z5}(x:EC h a items):IsTup h a items:=let ⟨o,g,c,d⟩:=x;⟨o,g,c.1,d⟩
theorem EC.new(h:Heap)(items:Array Z5):EC (h.push { cls:=.type "tuple",data:=.seq items }) h.objs.size items:=⟨_,ZG _ rfl,⟨rfl,rfl⟩,_,rfl⟩
section
variable(P:Zq)(w:Zr)
def bU(H:Hp)(h:Heap)(a:Addr):HO->Prop
 |.lst xs=>xs.length<=ZC/\∃(its:List Z5) (n:Nat),bS xs its/\h.get? a=some { cls:=.type "list",data:=.seq its.toArray n }
 |.tup xs=>xs.length<=ZC/\∃its:List Z5,bS xs its/\EC h a its.toArray
 |.dK kvs=>kvs.length<=ZC/\(a == sysModules)=false/\∃vs,KV kvs vs/\h.DictOf (cX P w) a vs
 | .dT kvs=>kvs.length<=ZC/\(a == sysModules)=false/\∃xs:List (List Key×Addr×Z5),
   Paired (λ(p:List Key×V) (q:List Key×Addr×Z5)=>p.1=q.1/\H q.2.1=some (.tup (p.1.map kV))/\cP p.2 q.2.2) kvs xs/\
   ∃o es ep,h.get? a=some o/\o.ExactDict/\o.data=.dict es ep/\es.toList=xs.map (entryOfKey (tupleKind (cX P w)))/\(xs.map (·.1)).Nodup
 |.set S n=>h.SetOf (intKind P w) a S n
 | .ins C dx fs=>H dx=some (.own a)/\fs.length<=1000/\dx≠a/\h.get? a=some (PySem.W.instObj C dx)/\
   ∃mA,h.Ns1 dx mA/\(∀f,rS (fs.lookup f) (mA f))/\PySem.Within mA (fs.map (·.1))
 |.own _=>∃o,h.get? a=some o
 |.xd fs=>∃mA,h.Ns1 a mA/\∀f,rS (fs.lookup f) (mA f)
 |.rng lo hi=>∃t u v,h.get? a=some { cls:=.type "range",data:=.fields #[.int lo t,.int hi u,.int 1 v] }
 |.frz o u=>h.get? a=some o/\bU H h a u
 |.tbl ps=>h.get? a=some { cls:=.none,data:=.fields ps }
 |.met f x=>h.get? a=some (PySem.W.methodObj (.ref f) (.ref x))
 |.ext φ=>φ h/\(∃o,h.get? a=some o)/\∀h1 h2:Heap,φ h1->(∀o,h1.get? a=some o->h2.get? a=some o)->φ h2
def HOk(H:Hp)(h:Heap):Prop:=∀a o,H a=some o->bU P w H h a o
end
variable{P:Zq}{w:Zr}{H H':Hp}{h h':Heap}{a:Addr}{o:HO}
theorem bU.lt(x:bU P w H h a o):a<h.objs.size:=by
 cases o with
 |lst xs=>let⟨_,_,_,_,e⟩:=x;exact ZH e
 |tup xs=>let⟨_,_,_,p⟩:=x;exact p.tup.lt
 |dK kvs=>let⟨_,_,_,_,o,_,_,e,_⟩:=x;exact ZH e
 |dT kvs=>let⟨_,_,_,_,o,_,_,e,_⟩:=x;exact ZH e
 |set S n=>let⟨o,_,_,_,e,_⟩:=x;exact ZH e
 |ins C dx fs=>let⟨_,_,_,e,_⟩:=x;exact ZH e
 |own y=>let⟨_,e⟩:=x;exact ZH e
 |xd fs=>let⟨_,⟨_,_,_,e,_⟩,_⟩:=x;exact ZH e
 |rng lo hi=>let⟨_,_,_,e⟩:=x;exact ZH e
 |frz ob u=>let⟨e,_⟩:=x;exact ZH e
 |tbl ps=>exact ZH (show h.get? a=some _ from x)
 |met f y=>exact ZH (show h.get? a=some _ from x)
 |ext φ=>let⟨_,⟨_,e⟩,_⟩:=x;exact ZH e
theorem Paired.mapP{α β:Type}{F G:α->β->Prop}:∀{l₁:List α} {l₂:List β},Paired F l₁ l₂->(∀a b,F a b->G a b)->Paired G l₁ l₂
 |_,_,.nil,_=>.nil
 |_,_,.cons r t,f=>.cons (f _ _ r) (Paired.mapP t f)
theorem bU.stay(x:bU P w H h a o)(k:∀b u,(b=a\/H b=some (.own a))->h.get? b=some u->h'.get? b=some u)
  (ho:∀b,H b=some (.own a)->H' b=some (.own a)) (ht:∀b xs,H b=some (.tup xs)->H' b=some (.tup xs)):bU P w H' h' a o:=by
 induction o with
 |lst xs=>let⟨z,its,n,r,e⟩:=x;exact⟨z,its,n,r,k _ _ (.inl rfl) e⟩
 |tup xs=>let⟨z,its,r,ob,e,c⟩:=x;exact⟨z,its,r,ob,k _ _ (.inl rfl) e,c⟩
 |dK kvs=>let⟨z,y,vs,r,ob,es,ep,e,c⟩:=x;exact⟨z,y,vs,r,ob,es,ep,k _ _ (.inl rfl) e,c⟩
 |dT kvs=>
  let⟨z,y,xs,r,ob,es,ep,e,c⟩:=x;exact⟨z,y,xs,Paired.mapP r λp q z=>⟨z.1,ht _ _ z.2.1,z.2.2⟩,ob,es,ep,k _ _ (.inl rfl) e,c⟩
 |set S n=>let⟨ob,es,ep,t,e,c⟩:=x;exact⟨ob,es,ep,t,k _ _ (.inl rfl) e,c⟩
 |ins C dx fs=>
  let⟨d,z,ne,e,mA,⟨od,es,ep,e2,c⟩,r⟩:=x;exact⟨ho _ d,z,ne,k _ _ (.inl rfl) e,mA,⟨od,es,ep,k _ _ (.inr d) e2,c⟩,r⟩
 |own y=>let⟨ob,e⟩:=x;exact⟨ob,k _ _ (.inl rfl) e⟩
 |xd fs=>let⟨mA,⟨od,es,ep,e,c⟩,r⟩:=x;exact⟨mA,⟨od,es,ep,k _ _ (.inl rfl) e,c⟩,r⟩
 |rng lo hi=>let⟨t,u,v,e⟩:=x;exact⟨t,u,v,k _ _ (.inl rfl) e⟩
 |frz ob u ih=>let⟨e,q⟩:=x;exact⟨k _ _ (.inl rfl) e,ih q⟩
 |tbl ps=>
  have e:h.get? a=some { cls:=.none,data:=.fields ps }:=x;show h'.get? a=some { cls:=.none,data:=.fields ps };exact k a _ (.inl rfl) e
 |met f y=>
  have e:h.get? a=some (PySem.W.methodObj (.ref f) (.ref y)):=x;show h'.get? a=some (PySem.W.methodObj (.ref f) (.ref y));exact k a _ (.inl rfl) e
 |ext φ=>let⟨p,⟨o,e⟩,st⟩:=x;exact⟨st _ _ p λo q=>k _ _ (.inl rfl) q,⟨o,k _ _ (.inl rfl) e⟩,st⟩
def HOk.lt(x:HOk P w H h)(e:H a=some o):a<h.objs.size:=(x a o e).lt
theorem HOk.fresh(x:HOk P w H h)(e:h.objs.size<=a):H a=none:=by
 cases q:H a with
 |none=>rfl
 |some u=>exact absurd (ZI (x.lt q) e) (Xv _)
theorem HOk.kept(x:HOk P w H h)(k:∀b u,h.get? b=some u->h'.get? b=some u):HOk P w H h':=λa o e=>
 (x a o e).stay (λb u _ q=>k b u q) (λ_ q=>q) λ_ _ q=>q
theorem HOk.laid(x:HOk P w H h)(k:∀b u,h.get? b=some u->h'.get? b=some u)(hp:h.objs.size<=a)(new:bU P w (upd H a o) h' a o):HOk P w (upd H a o) h':=λb u e=>by
 have hn:=x.fresh hp;by_cases hb:b=a;subst hb;rw[ax]at e;cases e;exact new;rw[aD hb]at e;exact(x b u e).stay (λc v _ q=>k c v q) (λc q=>by rw[aD (cQ q hn)];exact q) λc xs q=>by rw[aD (cQ q hn)];exact q
def Rd(H:Hp)(a:Addr)(u:HO):Prop:=H a=some u\/∃o,H a=some (.frz o u)
theorem Rd.ok{P:Zq}{w:Zr}{H:Hp}{h:Heap}{a:Addr}{u:HO}(r:Rd H a u)(x:HOk P w H h):bU P w H h a u:=by
 rcases r with r|⟨o,r⟩;exact x a u r;let⟨_,q⟩:=x a _ r;exact q
def Mut:Option HO->Prop
 |some (.lst _)=>True
 |some (.dK _)=>True
 |some (.dT _)=>True
 |some (.set _ _)=>True
 |some (.ins _ _ _)=>True
 |some (.ext _)=>True
 |_=>False
variable{x e:Addr}
section
variable{o':HO}
theorem HOk.write(ok:HOk P w H h)(mu:Mut (H x))(he:e=x\/H e=some (.own x))(k:∀b u,b≠e->h.get? b=some u->h'.get? b=some u)(heo:∃u,h'.get? e=some u)
  (new:bU P w (upd H x o') h' x o'):HOk P w (upd H x o') h':=λb u q=>by
 have nown:∀c y,H c=some (.own y)->c≠x:=λc y r z=>by subst z;rw[r]at mu;exact mu
 have ntup:∀c xs,H c=some (.tup xs)->c≠x:=λc xs r z=>by subst z;rw[r]at mu;exact mu
 by_cases hb:b=x;subst hb;rw[ax]at q;cases q;exact new;rw[aD hb]at q;by_cases hbe:b=e;have q':H b=some (.own x):=by
  rcases he with z|z;exact absurd (hbe.trans z) hb;rw[hbe];exact z
 rw[q]at q';cases q';let⟨v,hv⟩:=heo;exact⟨v,by rw[hbe];exact hv⟩;refine(ok b u q).stay (λc v hc r=>k c v ?_ r) (λc r=>by rw[aD (nown c b r)];exact r) λc xs r=>by rw[aD (ntup c xs r)];exact r
 rcases hc with rfl|hc;exact hbe;rintro rfl;rcases he with z|z;exact nown c b hc z;rw[hc]at z;cases z;exact hb rfl
end
structure Un(fs ex:List Addr)(H H':Hp)(h h':Heap):Prop where
 keep:∀b o,h.get? b=some o->H b=none->b∉fs->b∉ex->h'.get? b=some o
 slot:∀b o,h.get? b=some o->H b=none->b∈fs->b∉ex->∃sl,h'.get? b=some { o with slots:=sl }
 free:∀b o,h.get? b=some o->H b=none->b∉ex->H' b=none
 there:∀b o,h.get? b=some o->b∉ex->∃o',h'.get? b=some o'
 tups:∀b xs,H b=some (.tup xs)->H' b=some (.tup xs)
 frzs:∀b o u,H b=some (.frz o u)->H' b=some (.frz o u)
 tbls:∀b ps,H b=some (.tbl ps)->∃x_,H' b=some (.tbl (ps++x_))
section
variable{fs ex:List Addr}{H1:Hp}{h1:Heap}
theorem Un.any(u:Un fs ex H H1 h h1){b:Addr}{ob:Obj}(q:h.get? b=some ob)(n:H b=none)(hx:b∉ex):∃sl,h1.get? b=some { ob with slots:=sl }:=by
 by_cases hb:b∈fs;exact u.slot b ob q n hb hx;exact⟨ob.slots,u.keep b ob q n hb hx⟩
theorem Un.kept(k:∀b u,h.get? b=some u->h'.get? b=some u):Un fs ex H H h h':=
 ⟨λb ob q _ _ _=>k b ob q,λb ob q _ _ _=>⟨ob.slots,k b ob q⟩,λ_ _ _ n _=>n,λb ob q _=>⟨ob,k b ob q⟩,λ_ _ q=>q,λ_ _ _ q=>q,λ_ ps q=>⟨#[],by rw[q];simp⟩⟩
def Un.refl:Un fs ex H H h h:=Un.kept λ_ _ q=>q
theorem Un.laid(k:∀b u,h.get? b=some u->h'.get? b=some u)(hp:h.objs.size<=a)(hn:H a=none):Un fs ex H (upd H a o) h h' where
 keep:=λb u q _ _ _=>k b u q
 slot:=λb u q _ _ _=>⟨u.slots,k b u q⟩
 free:=λb u q n _=>by rw[aD (ZL (ZI (ZH q) hp))];exact n
 there:=λb u q _=>⟨u,k b u q⟩
 tups:=λb xs q=>by rw[aD (cQ q hn)];exact q
 frzs:=λb u xs q=>by rw[aD (cQ q hn)];exact q
 tbls:=λb ps q=>⟨#[],by rw[aD (cQ q hn),q];simp⟩
theorem Un.write(mu:Mut (H x))(he:e=x\/H e=some (.own x))(k:∀b u,b≠e->h.get? b=some u->h'.get? b=some u)(heo:∃u,h'.get? e=some u):Un fs ex H (upd H x o) h h':=by
 have hx:∀b,H b=none->b≠x:=λb n z=>by subst z;rw[n]at mu;exact mu
 have hb:∀b,H b=none->b≠e:=λb n z=>by
  subst z;rcases he with r|r;exact hx b n r;rw[n]at r;cases r
 have hm:∀b u,H b=some u->¬Mut (some u)->b≠x:=λb u q nm z=>by subst z;rw[q]at mu;exact nm mu
 refine⟨λb u q n _ _=>k b u (hb b n) q,λb u q n _ _=>⟨u.slots,k b u (hb b n) q⟩,λb u q n _=>by rw[aD (hx b n)];exact n,λb u q _=>?_,
  λb xs q=>by rw[aD (hm b _ q λz=>z)];exact q,λb u xs q=>by rw[aD (hm b _ q λz=>z)];exact q,λb ps q=>⟨#[],by rw[aD (hm b _ q λz=>z),q];simp⟩⟩
 by_cases hbe:b=e;subst hbe;exact heo;exact⟨u,k b u hbe q⟩
end
def trk(h:Heap)(H:Hp):List Addr:=(Zp h.objs.size).filter λa=>(H a).isSome
def DV(h:Heap)(H:Hp):Heap:=PySem.W.hideAll h (trk h H)
def AM(h:Heap)(H:Hp):(DV h H).objs.size=h.objs.size:=PySem.W.hideAll_size _ _
theorem qZ{h:Heap}{H:Hp}{b:Addr}{o:Obj}(e:h.get? b=some o)(n:H b=none):(DV h H).get? b=some o:=
 PySem.W.hideAll_get _ e λhm=>by
  have q:(H b).isSome=true:=(List.mem_filter.mp hm).2;rw[n]at q;simp at q
theorem HB{h:Heap}{H:Hp}{b:Addr}{o:Obj}(e:(DV h H).get? b=some o):h.get? b=some o/\H b=none:=by
 have e':h.get? b=some o:=PySem.W.of_hideAll (trk h H) e;refine⟨e',?_⟩;cases q:H b with
 |none=>rfl
 |some x=>
  have hm:b∈trk h H:=List.mem_filter.mpr ⟨XH.mpr (ZH e'),by simp[q]⟩;have z:(DV h H).get? b=none:=PySem.W.hideAll_none (trk h H) hm;rw[z]at e;cases e
structure Mod(K:Z3)(mg:Str->Option Z5)(base:Heap):Prop where
 kin:K.In base
 glob:base.Ns mainGlobals mg
 blt:∃mb,base.Ns builtinsNs mb/\∀x:Str,x≠"__name__"->mb x=Zi x
 nolimit:base.NoLimit
structure Cx where
 prog:Zq
 w:Zr
 K:Z3
 mg:Str->Option Z5
 base:Heap
 A:Ze
 N:List Str
 s₀:Z6
 H₀:Hp
 env:Env
 outer:List Env
 stack:List Env
 ex:List Addr
 fn:Str->Bool
 calm:Bool
 pn:List (Addr×Obj)
 xe:Z5->Z6->Prop
def frs(l:List Env):List Addr:=l.filterMap (·.frame)
abbrev Cx.fs(X:Cx):List Addr:=frs X.outer
def Vis(sc:XA)(x:Str):Prop:=sc.names.lookup x=some .local\/sc.names.lookup x=some .cell\/sc.names.lookup x=some .free
def Loc(sc:XA)(x:Str):Prop:=sc.names.lookup x=some .local\/sc.names.lookup x=some .cell
def RV(env:Env)(h:Heap)(m:79)(x:Str)(u:Z5):Prop:=
 (env.kindOf x=some .local/\m x=some u)\/((env.kindOf x=some .cell\/env.kindOf x=some .free)/\∃c,env.cells.lookup x=some c/\h.IsCell c (some u))
structure Cx.Ok(X:Cx):Prop where
 mod:Mod X.K X.mg X.base
 kind:X.env.scope.kind=.function
 glob:X.env.globals=mainGlobals
 blt:X.env.builtins=builtinsNs
 above:X.s₀.heap.objs.size<=X.env.locals
 inj:∀x y c,X.env.cells.lookup x=some c->X.env.cells.lookup y=some c->x=y
 has:∀x,(X.env.kindOf x=some .cell\/X.env.kindOf x=some .free)->∃c,X.env.cells.lookup x=some c
 cab:∀x c,X.fn x=true->X.env.cells.lookup x=some c->X.s₀.heap.objs.size<=c
 hd:X.calm=true->X.A.handled=none
 frames:X.A.frames=some X.stack
 stk:X.stack=X.outer\/(X.stack=X.env::X.outer/\X.env.frame=some X.env.locals)
 exf:∀b∈X.ex,b≠X.env.locals/\∀x c,X.env.cells.lookup x=some c->c≠b
 bs:∀b o,X.base.get? b=some o->X.s₀.heap.get? b=some o/\X.H₀ b=none
 bsz:X.base.objs.size<=X.s₀.heap.objs.size
 noex:∀b o,X.base.get? b=some o->b∉X.ex
 exfs:∀b∈X.ex,b∉X.fs
 funs:X.s₀.heap.FunFrames X.base X.outer
 frf:∀b∈X.fs,X.H₀ b=none
structure Inv(X:Cx)(a_:List (Addr×Obj))(σ:List (Option V))(H:Hp)(s:Z6):Prop where
 ok:X.Ok
 os:s.os=X.s₀.os
 bare:AllBare s.gens
 base:Un X.fs X.ex X.H₀ H X.s₀.heap s.heap
 loc:∃m,s.heap.Ns X.env.locals m/\∀(i:Nat) (x:Str) (v:V),X.N[i]?=some x->σ[i]?=some (some v)->Vis X.env.scope x->∃u,cP v u/\RV X.env s.heap m x u
 cell:∀x c,X.env.cells.lookup x=some c->∃v,s.heap.IsCell c v
 free:H X.env.locals=none
 freeC:∀x c,X.env.cells.lookup x=some c->H c=none
 pin:∀p∈X.pn++a_,s.heap.get? p.1=some p.2/\H p.1=none/\p.1≠X.env.locals/\p.1∉X.fs/\∀v,p.2.data≠.cell v
 hok:HOk X.prog X.w H s.heap
 len:σ.length=X.N.length
variable{X:Cx}{a_:List (Addr×Obj)}{s:Z6}
section
variable{σ:List (Option V)}
theorem Cx.Ok.nofr(ok:X.Ok){b:Addr}{o:Obj}(e:X.base.get? b=some o):b∉X.fs:=λhb=>by
 have:=(ok.funs.mem hb).1;rw[e]at this;cases this
theorem Inv.bs(I:47):∀b o,X.base.get? b=some o->s.heap.get? b=some o/\H b=none:=λb o e=>
 ⟨I.base.keep b o (I.ok.bs b o e).1 (I.ok.bs b o e).2 (I.ok.nofr e) (I.ok.noex b o e),I.base.free b o (I.ok.bs b o e).1 (I.ok.bs b o e).2 (I.ok.noex b o e)⟩
def Inv.bk(I:47):∀b o,X.base.get? b=some o->s.heap.get? b=some o:=λb o e=>(I.bs b o e).1
def Inv.mod(I:47):Mod X.K X.mg X.base:=I.ok.mod
def Inv.kIn(I:47):X.K.In s.heap:=I.ok.mod.kin.keeps I.bk
def Inv.lt(I:47):X.env.locals<s.heap.objs.size:=let ⟨_,hn,_⟩:=I.loc;hn.lt
def Inv.sz(I:47):X.s₀.heap.objs.size<=s.heap.objs.size:=X2 I.ok.above (Nat.le_of_lt I.lt)
theorem Inv.nofs(I:47){a:Addr}(h:s.heap.objs.size<=a):a∉X.fs:=λhb=>by
 let⟨_,o,ho,_⟩:=I.ok.funs.mem hb;exact absurd (ZI (ZH ho) (X2 I.sz h)) (Xv _)
theorem Inv.cne(I:47):∀x c,X.env.cells.lookup x=some c->c≠X.env.locals:=λx c e z=>by
 let⟨v,o,ho,hd⟩:=I.cell x c e;let⟨m,⟨o',es,ep,ho',hd',_⟩,_⟩:=I.loc;rw[z,ho']at ho;cases ho;rw[hd']at hd;cases hd
theorem Inv.funs(I:47):s.heap.FunFrames X.base X.outer:=by
 have all:∀(l:List Env),(∀b∈frs l,b∈X.fs)->X.s₀.heap.FunFrames X.base l->s.heap.FunFrames X.base l:=by
  intro l;induction l with
  |nil=>intro _ _;trivial
  |cons env r ih=>
   intro hs hl;let⟨hk,⟨L,o,hf,hn,ho,hd⟩,hr⟩:=hl;have hL:L∈X.fs:=hs L (by unfold frs;rw[List.filterMap_cons,hf];exact ZD);let⟨sl,e⟩:=I.base.slot L o ho (I.ok.frf L hL) hL λz=>I.ok.exfs L z hL;exact⟨hk,⟨L,_,hf,hn,e,hd⟩,ih (λb hb=>hs b (by unfold frs;rw[List.filterMap_cons,hf];exact ZY _ hb)) hr⟩
 exact all X.outer (λ_ hb=>hb) I.ok.funs
theorem Inv.stack(I:47):s.heap.FunFrames X.base X.stack:=by
 rcases I.ok.stk with e|⟨e,hf⟩;rw[e];exact I.funs;rw[e];let⟨m,hn,_⟩:=I.loc;refine .cons (by rw[I.ok.kind];decide) hf hn ?_ I.funs;exact Heap.get?_none_of_le (X2 I.ok.bsz I.ok.above)
theorem Inv.stkSub(I:47):∀b∈frs X.stack,b∈X.env.locals::X.fs:=λb hb=>by
 rcases I.ok.stk with e|⟨e,hf⟩;rw[e]at hb;exact ZY _ hb;rw[e]at hb;unfold frs at hb;rw[List.filterMap_cons,hf]at hb;exact hb
theorem Inv.stkFree(I:47):∀b∈frs X.stack,H b=none:=λb hb=>by
 rcases ZT.mp (I.stkSub b hb)with e|hb;rw[e];exact I.free;let⟨_,o,ho,_⟩:=I.ok.funs.mem hb;exact I.base.free b o ho (I.ok.frf b hb) λz=>I.ok.exfs b z hb
theorem Inv.step{g':Array GenState}{t':Nat}{d':Drawn}{ch:List Addr}(I:47)
  (hch:∀b∈ch,(b∈X.ex\/X.s₀.heap.objs.size<=b)/\b≠X.env.locals/\(∀x c,X.env.cells.lookup x=some c->c≠b)/\∀p∈X.pn++a_,p.1≠b)
  (keep:∀b o,b≠X.env.locals->b∉X.fs->b∉ch->s.heap.get? b=some o->H b=none->h'.get? b=some o)
  (slot:∀b o,b≠X.env.locals->b∈X.fs->b∉ch->s.heap.get? b=some o->H b=none->∃sl,h'.get? b=some { o with slots:=sl }) (free:∀b o,b∉ch->s.heap.get? b=some o->H b=none->H' b=none)
  (there:∀b o,b∉ch->s.heap.get? b=some o->∃o',h'.get? b=some o')
  (tups:∀b xs,H b=some (.tup xs)->H' b=some (.tup xs)) (frzs:∀b o u,H b=some (.frz o u)->H' b=some (.frz o u)) (tbls:∀b ps,H b=some (.tbl ps)->∃x_,H' b=some (.tbl (ps++x_)))
  (ns:∀m,s.heap.Ns X.env.locals m->h'.Ns X.env.locals m) (hok:HOk X.prog X.w H' h') (hg:AllBare g') :
  Inv X a_ σ H' { s with heap:=h',gens:=g',drawn:=d',toks:=t' }:=by
 have neL:∀b o,X.s₀.heap.get? b=some o->b≠X.env.locals:=λb o e=>ZL (ZI (ZH e) I.ok.above);have neC:∀b o,X.s₀.heap.get? b=some o->b∉X.ex->b∉ch:=λb o e hx hb=>by
  rcases(hch b hb).1 with z|z;exact hx z;exact absurd (ZI (ZH e) z) (Xv _)
 have cellK:∀x c,X.env.cells.lookup x=some c->∀v,s.heap.IsCell c v->h'.IsCell c v:=λx c e v ⟨o,ho,hd⟩=>by
  have nch:c∉ch:=λz=>(hch c z).2.2.1 x c e rfl;by_cases hc:c∈X.fs;let⟨sl,q⟩:=slot c o (I.cne x c e) hc nch ho (I.freeC x c e);exact⟨_,q,hd⟩;exact⟨o,keep c o (I.cne x c e) hc nch ho (I.freeC x c e),hd⟩
 refine⟨I.ok,I.os,hg,⟨λb o e n hb hx=>?_,λb o e n hb hx=>?_,λb o e n hx=>?_,λb o e hx=>?_,λb xs e=>tups b xs (I.base.tups b xs e),λb o xs e=>frzs b o xs (I.base.frzs b o xs e),λb ps e=>?_⟩,?_,λx c e=>?_,?_,λx c e=>?_,λp hp=>?_,hok,I.len⟩;exact keep b o (neL b o e) hb (neC b o e hx) (I.base.keep b o e n hb hx) (I.base.free b o e n hx);let⟨sl,e1⟩:=I.base.slot b o e n hb hx;let⟨sl',e2⟩:=slot b _ (neL b o e) hb (neC b o e hx) e1 (I.base.free b o e n hx);exact⟨sl',e2⟩;let⟨o',e1⟩:=I.base.there b o e hx;exact free b o' (neC b o e hx) e1 (I.base.free b o e n hx);let⟨o',e1⟩:=I.base.there b o e hx;exact there b o' (neC b o e hx) e1;let⟨m1,e1⟩:=I.base.tbls b ps e;let⟨m2,e2⟩:=tbls b _ e1;exact⟨m1++m2,by rw[e2,Array.append_assoc]⟩;let⟨m,hn,hl⟩:=I.loc;refine⟨m,ns m hn,λi x v e1 e2 e3=>?_⟩;let⟨u,r,l⟩:=hl i x v e1 e2 e3;refine⟨u,r,?_⟩;rcases l with l|⟨k,c,e,z⟩;exact .inl l;exact .inr ⟨k,c,e,cellK x c e _ z⟩;let⟨v,z⟩:=I.cell x c e;exact⟨v,cellK x c e v z⟩;let⟨m,⟨o,_,_,ho,_⟩,_⟩:=I.loc;exact free _ o (λz=>(hch _ z).2.1 rfl) ho I.free;let⟨v,o,ho,hd⟩:=I.cell x c e;exact free c o (λz=>(hch c z).2.2.1 x c e rfl) ho (I.freeC x c e);let⟨e,n,ne,nf,d⟩:=I.pin p hp;have nch:p.1∉ch:=λz=>(hch p.1 z).2.2.2 p hp rfl;exact⟨keep p.1 p.2 ne nf nch e n,free p.1 p.2 nch e n,ne,nf,d⟩
theorem Inv.un{t':Nat}(I:47)(u:Un X.fs [] H H' s.heap h')(hok:HOk X.prog X.w H' h'):Inv X a_ σ H' { s with heap:=h',toks:=t' }:=by
 let⟨m,⟨o,es,ep,ho,r⟩,_⟩:=id I.loc;let⟨sl,hL⟩:=u.any ho I.free 51;exact I.step (g':=s.gens) (d':=s.drawn) (ch:=[]) (λ_ z=>nomatch z) (λb o _ hb _ e n=>u.keep b o e n hb 51) (λb o _ hb _ e n=>u.slot b o e n hb 51) (λb o _ e n=>u.free b o e n 51) (λb o _ e=>u.there b o e 51) u.tups u.frzs u.tbls (λm' hm=>by
  let⟨o',es',ep',ho',r'⟩:=hm;rw[ho]at ho';cases ho';exact⟨_,es',ep',hL,r'⟩) hok I.bare
theorem Inv.call{g':Array GenState}{t':Nat}{d':Drawn}{ch:List Addr}(I:47)(u:Un (frs X.stack) ch H H' s.heap h')(hok:HOk X.prog X.w H' h')(hg:AllBare g')
  (hch:∀b∈ch,(b∈X.ex\/X.s₀.heap.objs.size<=b)/\b≠X.env.locals/\(∀x c,X.env.cells.lookup x=some c->c≠b)/\∀p∈X.pn++a_,p.1≠b) :
  Inv X a_ σ H' { s with heap:=h',gens:=g',drawn:=d',toks:=t' }:=by
 let⟨m,⟨o,es,ep,ho,r⟩,_⟩:=id I.loc;let⟨sl,hL⟩:=u.any ho I.free λz=>(hch _ z).2.1 rfl;exact I.step (ch:=ch) hch (λb o hL hb hc e n=>u.keep b o e n (λz=>(ZT.mp (I.stkSub b z)).elim hL hb) hc) (λb o _ _ hc e n=>u.any e n hc) (λb o hc e n=>u.free b o e n hc) (λb o hc e=>u.there b o e hc) u.tups u.frzs u.tbls (λm' hm=>by
  let⟨o',es',ep',ho',r'⟩:=hm;rw[ho]at ho';cases ho';exact⟨_,es',ep',hL,r'⟩) hok hg
theorem Inv.turned{t':Nat}{it:Addr}(I:47)(k:∀b o,b≠it->s.heap.get? b=some o->h'.get? b=some o)(hn:H it=none)(hL:it≠X.env.locals)
  (h1:it∈X.ex\/X.s₀.heap.objs.size<=it) (h2:∀x c,X.env.cells.lookup x=some c->c≠it) (h3:∀p∈X.pn++a_,p.1≠it):Inv X a_ σ H { s with heap:=h',toks:=t' }:=by
 have nit:∀b u,H b=some u->b≠it:=λb u e z=>by rw[z,hn]at e;cases e
 refine I.step (g':=s.gens) (d':=s.drawn) (ch:=[it]) (λb hb=>?_) (λb o _ _ hc e _=>k b o (λz=>hc (by simp[z])) e) (λb o _ _ hc e _=>⟨o.slots,k b o (λz=>hc (by simp[z])) e⟩) (λ_ _ _ _ n=>n)
  (λb o hc e=>⟨o,k b o (λz=>hc (by simp[z])) e⟩) (λ_ _ e=>e) (λ_ _ _ e=>e) (λb ps e=>⟨#[],by rw[e];simp⟩) (λm hm=>?_) (λb u e=>?_) I.bare
 have e:b=it:=by simpa using hb
 subst e;exact⟨h1,hL,h2,h3⟩;let⟨o,es,ep,ho,r⟩:=hm;exact⟨o,es,ep,k _ o (Ne.symm hL) ho,r⟩;refine(I.hok b u e).stay (λc v hc q=>k c v ?_ q) (λ_ q=>q) λ_ _ q=>q;rcases hc with z|z;rw[z];exact nit b u e;exact nit c _ z
def Inv.tok(I:47)(t:Nat):Inv X a_ σ H { s with toks:=t }:=I.un (h':=s.heap) (t':=t) Un.refl I.hok
theorem Inv.kept{t':Nat}(I:47)(k:∀b u,s.heap.get? b=some u->h'.get? b=some u):Inv X a_ σ H { s with heap:=h',toks:=t' }:=I.un (Un.kept k) (I.hok.kept k)
theorem Inv.laid{a:Addr}{o:HO}{t':Nat}(I:47)(k:∀b u,s.heap.get? b=some u->h'.get? b=some u)(hp:s.heap.objs.size<=a)(new:bU X.prog X.w (upd H a o) h' a o) :
  Inv X a_ σ (upd H a o) { s with heap:=h',toks:=t' }:=I.un (Un.laid k hp (I.hok.fresh hp)) (I.hok.laid k hp new)
theorem Inv.write{x e:Addr}{o:HO}{t':Nat}(I:47)(mu:Mut (H x))(he:e=x\/H e=some (.own x))(k:∀b u,b≠e->s.heap.get? b=some u->h'.get? b=some u)(heo:∃u,h'.get? e=some u)
  (new:bU X.prog X.w (upd H x o) h' x o):Inv X a_ σ (upd H x o) { s with heap:=h',toks:=t' }:=I.un (Un.write mu he k heo) (I.hok.write mu he k heo new)
theorem Inv.pins_of{RZ:57}(I:47)(h:∀p∈RZ,s.heap.get? p.1=some p.2/\H p.1=none/\p.1≠X.env.locals/\p.1∉X.fs/\∀v,p.2.data≠.cell v):Inv X RZ σ H s:=
 ⟨I.ok,I.os,I.bare,I.base,I.loc,I.cell,I.free,I.freeC,λp hp=>(X4.mp hp).elim (λz=>I.pin p (Xx _ z)) (h p),I.hok,I.len⟩
theorem wH{N:List Str}(hN:N.Nodup){i j:Nat}{x:Str}(a:N[i]?=some x)(b:N[j]?=some x):i=j:=by
 let⟨h1,e1⟩:=Z9.mp a;let⟨h2,e2⟩:=Z9.mp b;exact(List.getElem_inj hN).mp (e1.trans e2.symm)
theorem sC{M:Model}{A:Ze}{E:Z5->Z6->Prop}{i:Nat}{x:Str}{v:V}{u:Z5}{Q:Unit->Z6->Prop}(I:47)(hN:X.N.Nodup)(hi:X.N[i]?=some x)(hx:Loc X.env.scope x)(r:cP v u)
  (h:∀s',Inv X a_ (σ.set i (some v)) H s'->(∃a,XC a s.heap s'.heap/\(a=X.env.locals\/X.env.cells.lookup x=some a))->Q () s') (hf:X.fn x=true\/X.env.scope.names.lookup x=some .local:=by first|exact .inl rfl|exact .inr rfl|assumption):wpAny M A (storeName X.env x u) Q E s:=by
 let⟨m,hn,hl⟩:=id I.loc;have hcls:(X.env.scope.kind == .class||(X.env.scope.kind == .module&&X.env.locals !=X.env.globals))=false:=by rw[I.ok.kind];rfl
 have hiσ:i < σ.length:=by rw[I.len];exact(Z9.mp hi).1
 have cne:=I.cne;have tracked:∀{a:Addr} {h':Heap},(∃o,s.heap.get? a=some o/\H a=none)->XC a s.heap h'->HOk X.prog X.w H h':=λ{a h'} ha hs b ob e=>by
  let⟨_,_,hfree⟩:=ha;refine(I.hok b ob e).stay (λc w' hc q=>(hs.2 c ?_).trans q) (λ_ q=>q) λ_ _ q=>q;rintro rfl;rcases hc with rfl|hc;rw[hfree]at e;cases e;rw[hfree]at hc;cases hc
 rcases hx with hk|hk;refine wpAny_storeName_local hk hn (λh' hn' hs=>?_) hcls;let⟨oL,_,_,hoL,_⟩:=id hn;refine h _ ⟨I.ok,I.os,I.bare,⟨λb o e n hb hx=>?_,λb o e n hb hx=>?_,I.base.free,λb o e hx=>?_,I.base.tups,I.base.frzs,I.base.tbls⟩,⟨_,hn',λj y v' e1 e2 e3=>?_⟩,λy c e=>?_,I.free,I.freeC,λp hp=>?_,tracked ⟨oL,hoL,I.free⟩ hs,by simpa using I.len⟩ ⟨_,hs,.inl rfl⟩;exact(hs.2 b (ZL (ZI (ZH e) I.ok.above))).trans (I.base.keep b o e n hb hx);let⟨sl,e1⟩:=I.base.slot b o e n hb hx;exact⟨sl,(hs.2 b (ZL (ZI (ZH e) I.ok.above))).trans e1⟩;let⟨o',e1⟩:=I.base.there b o e hx;exact⟨o',(hs.2 b (ZL (ZI (ZH e) I.ok.above))).trans e1⟩;by_cases hj:j=i;subst hj;rw[hi]at e1;cases e1;rw[ZE hiσ]at e2;cases e2;exact⟨u,r,.inl ⟨hk,by simp⟩⟩;rw[ZZ (Ne.symm hj)]at e2;let⟨u',r',q⟩:=hl j y v' e1 e2 e3;refine⟨u',r',?_⟩;rcases q with⟨k,e⟩|⟨k,c,e,z⟩;refine .inl ⟨k,?_⟩;have:y≠x:=λe=>hj (wH hN e1 (e▸hi));simp[this,e];exact .inr ⟨k,c,e,z.sameBut hs (cne y c e)⟩;let⟨w',z⟩:=I.cell y c e;exact⟨w',z.sameBut hs (cne y c e)⟩;let⟨e,n,ne,nf,d⟩:=I.pin p hp;exact⟨(hs.2 p.1 ne).trans e,n,ne,nf,d⟩;have hfn:X.fn x=true:=by
  rcases hf with z|z;exact z;rw[z]at hk;cases hk
 let⟨c,hc⟩:=I.ok.has x (.inl hk);let⟨w',z⟩:=I.cell x c hc;refine wpAny_storeName_cell I.ok.kind hk hc z (λh' hc' hs=>?_);let⟨oc,hoc,hocd⟩:=id z;refine h { s with heap:=h' } ⟨I.ok,I.os,I.bare,⟨λb o e n hb hx=>?_,λb o e n hb hx=>?_,I.base.free,λb o e hx=>?_,I.base.tups,I.base.frzs,I.base.tbls⟩,⟨m,hn.sameBut hs (Ne.symm (cne x c hc)),λj y v' e1 e2 e3=>?_⟩,λy c' e=>?_,I.free,I.freeC,λp hp=>?_,tracked ⟨oc,hoc,I.freeC x c hc⟩ hs,by simpa using I.len⟩ ⟨c,hs,.inr hc⟩;exact(hs.2 b (ZL (ZI (ZH e) (I.ok.cab x c hfn hc)))).trans (I.base.keep b o e n hb hx);let⟨sl,e1⟩:=I.base.slot b o e n hb hx;exact⟨sl,(hs.2 b (ZL (ZI (ZH e) (I.ok.cab x c hfn hc)))).trans e1⟩;let⟨o',e1⟩:=I.base.there b o e hx;exact⟨o',(hs.2 b (ZL (ZI (ZH e) (I.ok.cab x c hfn hc)))).trans e1⟩;by_cases hj:j=i;subst hj;rw[hi]at e1;cases e1;rw[ZE hiσ]at e2;cases e2;exact⟨u,r,.inr ⟨.inl hk,c,hc,hc'⟩⟩;rw[ZZ (Ne.symm hj)]at e2;let⟨u',r',q⟩:=hl j y v' e1 e2 e3;refine⟨u',r',?_⟩;rcases q with q|⟨k,c',e,z'⟩;exact .inl q;refine .inr ⟨k,c',e,z'.sameBut hs ?_⟩;rintro rfl;exact hj (wH hN e1 (I.ok.inj _ _ _ e hc▸hi));by_cases hcc:c'=c;subst hcc;exact⟨_,hc'⟩;let⟨w2,z2⟩:=I.cell y c' e;exact⟨w2,z2.sameBut hs hcc⟩;let⟨e,n,ne,nf,d⟩:=I.pin p hp;refine⟨(hs.2 p.1 ?_).trans e,n,ne,nf,d⟩;intro q;rw[q,hoc]at e;have q':oc=p.2:=Option.some.inj e;exact d w' (by rw[<-q'];exact hocd)
theorem wa{M:Model}{A:Ze}{E:Z5->Z6->Prop}{i:Nat}{x:Str}{v:V}{u:Z5}{Q:Unit->Z6->Prop}(I:47)(hN:X.N.Nodup)(hi:X.N[i]?=some x)(hx:Loc X.env.scope x)(r:cP v u)
  (h:∀s',Inv X a_ (σ.set i (some v)) H s'->Q () s') (hf:X.fn x=true\/X.env.scope.names.lookup x=some .local:=by first|exact .inl rfl|exact .inr rfl|assumption):wpAny M A (storeName X.env x u) Q E s:=
 sC I hN hi hx r (λs' I' _=>h s' I') hf
theorem Inv.call'{s':Z6}{ch:List Addr}(I:47)(ho:s'.os=s.os)(u:Un (frs X.stack) ch H H' s.heap s'.heap)(hok:HOk X.prog X.w H' s'.heap)(hg:AllBare s'.gens)
  (hch:∀b∈ch,(b∈X.ex\/X.s₀.heap.objs.size<=b)/\b≠X.env.locals/\(∀x c,X.env.cells.lookup x=some c->c≠b)/\∀p∈X.pn++a_,p.1≠b):Inv X a_ σ H' s':=by
 let⟨h',g',d',t',o'⟩:=s';have e:o'=s.os:=ho;subst e;exact I.call (g':=g') (t':=t') (d':=d') u hok hg hch
end
abbrev XK:=Z5->Option Addr->Hp->Prop
abbrev St:=List (Option V)
abbrev VK:=V->Hp->Prop
abbrev TE:=St->Hp->VK->Prop
abbrev TT:=St->Hp->(Bool->Hp->Prop)->Prop
abbrev TA:=St->Hp->(List V->Hp->Prop)->Prop
structure yB where
 nx:St->Hp->Prop
 rt:VK
 bk:St->Hp->Prop:=λ_ _=>False
 ct:St->Hp->Prop:=λ_ _=>False
abbrev TS:=yB->St->Hp->Prop
def EP(X:Cx)(a_:57)(σ:St)(Q:VK)(u:Z5)(s':Z6):Prop:=∃v H',Inv X a_ σ H' s'/\cP v u/\Q v H'
def TP(X:Cx)(a_:57)(σ:St)(Q:Bool->Hp->Prop)(b:Bool)(s':Z6):Prop:=∃H',Inv X a_ σ H' s'/\Q b H'
def AP(X:Cx)(a_:57)(σ:St)(Q:List V->Hp->Prop)(us:List Z5)(s':Z6):Prop:=∃vs H',Inv X a_ σ H' s'/\bS vs us/\Q vs H'
def SP(X:Cx)(a_:57)(D:yB)(f:Flow)(s':Z6):Prop:=
 match f with
 |.next=>∃σ' H',Inv X a_ σ' H' s'/\D.nx σ' H'
 |.brk=>∃σ' H',Inv X a_ σ' H' s'/\D.bk σ' H'
 |.cont=>∃σ' H',Inv X a_ σ' H' s'/\D.ct σ' H'
 |.ret u=>∃v σ' H',Inv X a_ σ' H' s'/\cP v u/\D.rt v H'
def PE(X:Cx)(e:ZN)(t:TE):Prop:=
 ∀(a_:57) (s:Z6) (σ:St) (H:Hp) (Q:VK),Inv X a_ σ H s->t σ H Q->wpAny 49 X.A (eval e X.env) (EP X a_ σ Q) X.xe s
def PT(X:Cx)(e:ZN)(t:TT):Prop:=
 ∀(a_:57) (s:Z6) (σ:St) (H:Hp) (Q:Bool->Hp->Prop),Inv X a_ σ H s->t σ H Q->wpAny 49 X.A (isTrue e X.env (eval e X.env)) (TP X a_ σ Q) X.xe s
def PW(X:Cx)(e:ZN)(t:TT):Prop:=
 ∀(A_:Sem Z5) (a_:57) (s:Z6) (σ:St) (H:Hp) (Q:Bool->Hp->Prop),Inv X a_ σ H s->t σ H Q->wpAny 49 X.A (isTrue e X.env A_) (TP X a_ σ Q) X.xe s
def PW.pt{X:Cx}{e:ZN}{t:TT}(h:PW X e t):PT X e t:=h _
def PA(X:Cx)(es:List ZN)(t:TA):Prop:=
 ∀(pos:Pos) (a_:57) (s:Z6) (σ:St) (H:Hp) (Q:List V->Hp->Prop),Inv X a_ σ H s->t σ H Q->wpAny 49 X.A (spliced (X8 pos (ZU es X.env))) (AP X a_ σ Q) X.xe s
def PS(X:Cx)(st:Zn)(t:TS):Prop:=
 ∀(a_:57) (s:Z6) (σ:St) (H:Hp) (D:yB),Inv X a_ σ H s->t D σ H->wpAny 49 X.A (exec st X.env) (SP X a_ D) X.xe s
def PSs(X:Cx)(st:List Zn)(t:TS):Prop:=
 ∀(a_:57) (s:Z6) (σ:St) (H:Hp) (D:yB),Inv X a_ σ H s->t D σ H->wpAny 49 X.A (execs st X.env) (SP X a_ D) X.xe s
theorem thn{α:Type}{t:Sem α}{Q Q':α->Z6->Prop}{M:Model}{A:Ze}{E:Z5->Z6->Prop}{s:Z6}(h:wpAny M A t Q E s)(hQ:∀a s,Q a s->Q' a s):wpAny M A t Q' E s:=XZ h hQ λ_ _ x=>x
variable{b:ZN}{ta tb:TE}{pos:Pos}
section
def MX(i:Nat):TE:=λσ H Q=>∃v,σ[i]?=some (some v)/\Q v H
def tC(v:V):TE:=λ_ H Q=>Q v H
theorem K8{i:Nat}{x:Str}{pos:Pos}(hN:X.N[i]?=some x)(hv:Vis X.env.scope x)(hd:(x == ("__debug__":Str))=false:=by decide)(hcd:(x == ("__classdict__":Str))=false:=by decide):PE X (.Name x pos) (MX i):=by
 intro a_ s σ H Q I h;let⟨v,e,h⟩:=h;let⟨m,hn,hl⟩:=I.loc;let⟨u,r,l⟩:=hl i x v hN e hv;have fin:EP X a_ σ Q u s:=⟨v,H,I,r,h⟩;rcases l with⟨hk,hm⟩|⟨hk,c,hc,k_⟩;exact wpAny_Name (wpAny_loadName_local I.ok.kind hk hn hm fin) hd;rcases hk with hk|hk;exact wpAny_Name (wpAny_loadName_cell I.ok.kind hk hc k_ fin) hd;exact wpAny_Name (wpAny_loadName_free I.ok.kind hk hc k_ fin hcd) hd
theorem Lg{i j pos}:PE X (.Constant (.int i) j pos) (tC (.int i)):=λ_ _ _ H _ I h=>wpAny_Constant_int ⟨.int i,H,I.tok _,⟨_,rfl⟩,h⟩
def O7{b j pos}:PE X (.Constant (.bool b) j pos) (tC (.bl b)):=λ_ _ _ H _ I h=>Constant_bool ⟨.bl b,H,I,rfl,h⟩
def Ld{j pos}:PE X (.Constant .none j pos) (tC .non):=λ_ _ _ H _ I h=>Constant_none ⟨.non,H,I,rfl,h⟩
theorem La{x j pos}:PE X (.Constant (.str x) j pos) (tC (.str x)):=λ_ _ _ H _ I h=>Calls.Constant_str ⟨.str x,H,I.tok _,⟨_,rfl⟩,h⟩
def Gl(X:Cx)(x:Str):Prop:=X.env.kindOf x=some .globalImplicit
theorem uU{E:Z5->Z6->Prop}{a_:57}{s:Z6}{σ:St}{H:Hp}{x:Str}{u:Z5}{pos:Pos}{Q:Z5->Z6->Prop}(I:47)(hg:Gl X x)(hm:X.mg x=some u)(h:Q u s)
  (hd:(x == ("__debug__":Str))=false:=by decide):wpAny 49 X.A (eval (.Name x pos) X.env) Q E s:=
 Calls.Name_function_global I.ok.kind hg (Calls.loadGlobal_global (by rw[I.ok.glob];exact I.mod.glob.keeps I.bk) hm h) hd
theorem oe{E:Z5->Z6->Prop}{a_:57}{s:Z6}{σ:St}{H:Hp}{x:Str}{u:Z5}{pos:Pos}{Q:Z5->Z6->Prop}(I:47)(hg:Gl X x)(hm:X.mg x=none)(hv:Zi x=some u)(h:Q u s)
  (hn:x≠"__name__":=by decide) (hd:(x == ("__debug__":Str))=false:=by decide):wpAny 49 X.A (eval (.Name x pos) X.env) Q E s:=by
 let⟨mb,h1,h2⟩:=I.mod.blt;exact Calls.Name_function_global I.ok.kind hg (Calls.loadGlobal_builtin (by rw[I.ok.glob];exact I.mod.glob.keeps I.bk) hm (by rw[I.ok.blt];exact h1.keeps I.bk) ((h2 x hn).trans hv) h) hd
theorem Hn{x:Str}{v:V}{u:Z5}{pos:Pos}(hg:Gl X x)(hm:X.mg x=none)(hv:Zi x=some u)(r:cP v u)(hn:x≠"__name__":=by decide)(hd:(x == ("__debug__":Str))=false:=by decide):PE X (.Name x pos) (tC v):=
 λ_ _ _ H _ I h=>oe I hg hm hv ⟨v,H,I,r,h⟩ hn hd
variable{a:ZN}
def PC(X:Cx)(op:CmpOp)(a b:ZN)(t:TE):Prop:=
 ∀(a_:57) (s:Z6) (σ:St) (H:Hp) (Q:VK),Inv X a_ σ H s->t σ H Q->
  wpAny 49 X.A (eval a X.env) (λv s₁=>wpAny 49 X.A (eval b X.env) (λu s₂=>wpAny 49 X.A (compareOp op v u) (EP X a_ σ Q) X.xe s₂) X.xe s₁) X.xe s
def tB(t:TE):TT:=λσ H Q=>t σ H λx H1=>∃c,x=.bl c/\Q c H1
theorem Li{op:CmpOp}{t:TE}(h:PC X op a b t)(h1:behindInMarks op b=false:=by first|exact nobehind _ 54 (by decide)|rfl):PE X (.Compare a [op] [b] pos) t:=λa_ s σ H Q I hw=>wpAny_Compare1 (h a_ s σ H Q I hw) h1
theorem KY{op:CmpOp}{t:TE}(h:PC X op a b t)(h1:behindInMarks op b=false:=by first|exact nobehind _ 54 (by decide)|rfl):PT X (.Compare a [op] [b] pos) (tB t):=by
 intro a_ s σ H Q I hw;refine wpAny_isTrue_Compare1 (thn (h a_ s σ H _ I hw) λv s1 h1=>thn h1 λu s2 h2=>thn h2 λc s3 hz=>?_) h1;let⟨x,H1,I1,r1,q1⟩:=hz;let⟨d,rfl,q⟩:=q1;cases r1;exact wpAny_truthy_bool ⟨H1,I1,q⟩
theorem KU{e:ZN}{t:TE}(h:PE X e t)(he:∀A_,isTrue e X.env A_=(do let v <-A_;standAt e.pos;holding [v] (truthy v)):=by intro _;rfl):PT X e (tB t):=by
 intro a_ s σ H Q I hw;refine isTrue_plain (thn (h a_ s σ H _ I hw) λv s1 ⟨x,H1,I1,r1,q1⟩=>?_) (he _);let⟨d,rfl,q⟩:=q1;cases r1;exact wpAny_truthy_bool ⟨H1,I1,q⟩
variable{tA tB':TT}{e_:List ZN}
def Qw(t u:TT):TT:=λσ H Q=>t σ H λc H1=>if c=true then u σ H1 Q else Q false H1
def tOr(t u:TT):TT:=λσ H Q=>t σ H λc H1=>if c=true then Q true H1 else u σ H1 Q
def Qq(t:TT):TT:=λσ H Q=>t σ H λc H1=>Q (!c) H1
theorem GX(ha:PT X a tA):PW X (.BoolOp .And [a] pos) tA:=by
 intro wh a_ s σ H Q I h;refine isTrue_and (thn (ha a_ s σ H Q I h) λc s1 e=>?_);cases c with
 |true=>exact isTrue_and_nil e
 |false=>exact e
theorem KQ(ha:PT X a tA):PW X (.BoolOp .Or [a] pos) tA:=by
 intro wh a_ s σ H Q I h;refine isTrue_or (thn (ha a_ s σ H Q I h) λc s1 e=>?_);cases c with
 |false=>exact isTrue_or_nil e
 |true=>exact e
theorem KR(ha:PT X a tA)(hb:PW X (.BoolOp .And (b::e_) pos) tB'):PW X (.BoolOp .And (a::b::e_) pos) (Qw tA tB'):=by
 intro wh a_ s σ H Q I h;refine isTrue_and (thn (ha a_ s σ H _ I h) λc s1 ⟨H1,I1,q1⟩=>?_);cases c with
 |true=>exact hb wh a_ s1 σ H1 Q I1 q1
 |false=>exact⟨H1,I1,q1⟩
theorem OZ(ha:PT X a tA)(hb:PW X (.BoolOp .Or (b::e_) pos) tB'):PW X (.BoolOp .Or (a::b::e_) pos) (tOr tA tB'):=by
 intro wh a_ s σ H Q I h;refine isTrue_or (thn (ha a_ s σ H _ I h) λc s1 ⟨H1,I1,q1⟩=>?_);cases c with
 |true=>exact⟨H1,I1,q1⟩
 |false=>exact hb wh a_ s1 σ H1 Q I1 q1
theorem KW(ha:PT X a tA):PT X (.UnaryOp .Not a pos) (Qq tA):=by
 intro a_ s σ H Q I h;exact isTrue_not (ha a_ s σ H (λc H1=>Q (!c) H1) I h)
def Kq(ta tb:TE):TE:=λσ H Q=>ta σ H λx H1=>∃c,x=.bl c/\if c=true then tb σ H1 Q else Q (.bl false) H1
def Kc(ta:TE):TE:=λσ H Q=>ta σ H λx H1=>∃c,x=.bl c/\Q (.bl (!c)) H1
def Lb{op}{t:TE}(h:PE X a t):PE X (.BoolOp op [a] pos) t:=λa_ s σ H Q I hw=>BoolOp_one (h a_ s σ H Q I hw)
theorem Lj(ha:PE X a ta)(hb:PE X (.BoolOp .And (b::e_) pos) tb):PE X (.BoolOp .And (a::b::e_) pos) (Kq ta tb):=by
 intro a_ s σ H Q I h;refine BoolOp_and (thn (ha a_ s σ H _ I h) λv s1 hz=>?_);let⟨x,H1,I1,r1,q1⟩:=hz;let⟨c,rfl,q1⟩:=q1;cases r1;refine wpAny_truthy_bool ?_;cases c with
 |true=>exact hb a_ s1 σ H1 Q I1 q1
 |false=>exact⟨.bl false,H1,I1,rfl,q1⟩
theorem Lc(ha:PE X a ta):PE X (.UnaryOp .Not a pos) (Kc ta):=by
 intro a_ s σ H Q I h;refine UnaryOp_ (thn (ha a_ s σ H _ I h) λv s1 hz=>?_);let⟨x,H1,I1,r1,q1⟩:=hz;let⟨c,rfl,q1⟩:=q1;cases r1;exact not_of (wpAny_truthy_bool ⟨.bl (!c),H1,I1,rfl,q1⟩)
end
def SqL(K:Z3)(H:Hp)(a:Addr)(xs:List V):Prop:=
 Rd H a (.lst xs)\/
  ∃(o:Obj) (its:Array Z5) (n:Nat),K.lookup a=some o/\o.cls=.type "list"/\o.dict=none/\o.data=.seq its n/\its.size<=ZC/\bS xs its.toList
def SqT(K:Z3)(H:Hp)(a:Addr)(xs:List V):Prop:=
 Rd H a (.tup xs)\/
  ∃(o:Obj) (its:Array Z5) (n:Nat),K.lookup a=some o/\(o.cls=.type "tuple"/\o.dict=none)/\o.data=.seq its n/\its.size<=ZC/\bS xs its.toList
def RT:Z5->Option V
 |.none=>some .non
 |.bool b=>some (.bl b)
 |.int i _=>some (.int i)
 |.str x _=>some (.str x)
 |.bytes b _=>some (.byt b)
 |.float b _=>some (.flt b)
 |.ref a=>some (.ref a)
 |.type n=>some (.ty n)
 |_=>none
theorem cP.abs{x:V}{u:Z5}(r:cP x u):RT u=some x:=by
 cases x with
 |non=>cases r;rfl
 |bl _=>cases r;rfl
 |int _=>let⟨t,rfl⟩:=r;rfl
 |str _=>let⟨t,rfl⟩:=r;rfl
 |byt _=>let⟨t,rfl⟩:=r;rfl
 |flt _=>let⟨t,rfl⟩:=r;rfl
 |ref _=>cases r;rfl
 |ty _=>cases r;rfl
def cP.inj{x y:V}{u:Z5}(r:cP x u)(q:cP y u):x=y:=Option.some.inj (r.abs.symm.trans q.abs)
theorem bS.inj:∀{xs ys:List V} {us:List Z5},bS xs us->bS ys us->xs=ys
 |_,_,_,.nil,.nil=>rfl
 |_,_,_,.cons r t,.cons r' t'=>by rw[r.inj r',bS.inj t t']
variable{σ:St}
section
variable{xs ys:List V}
def SqL.of{K:Z3}(h:H a=some (.lst xs)):SqL K H a xs:=.inl (.inl h)
def SqT.of{K:Z3}(h:H a=some (.tup xs)):SqT K H a xs:=.inl (.inl h)
theorem Inv.list(I:47)(h:SqL X.K H a xs):∃its:List Z5,bS xs its/\PlainL s.heap a its.toArray/\xs.length<=ZC:=by
 rcases h with h|⟨o,its,n,hk,hc,hd,hs,hz,r⟩;let⟨z,its,n,r,e⟩:=h.ok I.hok;exact⟨its,r,⟨_,n,e,rfl,rfl,rfl⟩,z⟩;refine⟨its.toList,r,⟨o,n,I.kIn a o hk,hc,hd,by simpa using hs⟩,?_⟩;have e:=r.length;simp only[Zh]at e;omega
theorem Inv.tuple(I:47)(h:SqT X.K H a xs):∃its:List Z5,bS xs its/\IsTup s.heap a its.toArray/\xs.length<=ZC:=by
 rcases h with h|⟨o,its,n,hk,hc,hs,hz,r⟩;let⟨z,its,r,p⟩:=h.ok I.hok;exact⟨its,r,p.tup,z⟩;refine⟨its.toList,r,⟨o,I.kIn a o hk,hc.1,n,by simpa using hs⟩,?_⟩;have e:=r.length;simp only[Zh]at e;omega
theorem Inv.list_inj(I:47)(h:SqL X.K H a xs)(h':SqL X.K H a ys):xs=ys:=by
 let⟨its,r,⟨o,n,e,_,_,d⟩,_⟩:=I.list h;let⟨its',r',⟨o',n',e',_,_,d'⟩,_⟩:=I.list h';rw[e]at e';cases e';rw[d]at d';injection d' with d1 _;have:its=its':=by simpa using congrArg Array.toList d1
 subst this;exact r.inj r'
theorem Inv.tuple_inj(I:47)(h:SqT X.K H a xs)(h':SqT X.K H a ys):xs=ys:=by
 let⟨its,r,⟨o,e,_,n,d⟩,_⟩:=I.tuple h;let⟨its',r',⟨o',e',_,n',d'⟩,_⟩:=I.tuple h';rw[e]at e';cases e';rw[d]at d';injection d' with d1 _;have:its=its':=by simpa using congrArg Array.toList d1
 subst this;exact r.inj r'
end
abbrev Cx.wish(X:Cx)(E:Z5->Z6->Prop):Cx:={ X with xe:=E }
abbrev Cx.nox(X:Cx):Cx:=X.wish λ_ _=>False
theorem Cx.Ok.wish{X:Cx}(ok:X.Ok)(E:Z5->Z6->Prop):(X.wish E).Ok:=
 ⟨ok.mod,ok.kind,ok.glob,ok.blt,ok.above,ok.inj,ok.has,ok.cab,ok.hd,ok.frames,ok.stk,ok.exf,ok.bs,ok.bsz,ok.noex,ok.exfs,ok.funs,ok.frf⟩
theorem Cx.Ok.unwish{X:Cx}{E:Z5->Z6->Prop}(ok:(X.wish E).Ok):X.Ok:=
 ⟨ok.mod,ok.kind,ok.glob,ok.blt,ok.above,ok.inj,ok.has,ok.cab,ok.hd,ok.frames,ok.stk,ok.exf,ok.bs,ok.bsz,ok.noex,ok.exfs,ok.funs,ok.frf⟩
variable{E:Z5->Z6->Prop}
theorem Inv.wish(I:47)(E:Z5->Z6->Prop):Inv (X.wish E) a_ σ H s:=⟨I.ok.wish E,I.os,I.bare,I.base,I.loc,I.cell,I.free,I.freeC,I.pin,I.hok,I.len⟩
theorem Inv.unwish(I:Inv (X.wish E) a_ σ H s):Inv X a_ σ H s:=⟨I.ok.unwish,I.os,I.bare,I.base,I.loc,I.cell,I.free,I.freeC,I.pin,I.hok,I.len⟩
theorem SP.unwish{D:yB}{f:Flow}{s':Z6}(h:SP (X.wish E) a_ D f s'):SP X a_ D f s':=by
 cases f with
 |next=>let⟨σ',H',I,q⟩:=h;exact⟨σ',H',I.unwish,q⟩
 |brk=>let⟨σ',H',I,q⟩:=h;exact⟨σ',H',I.unwish,q⟩
 |cont=>let⟨σ',H',I,q⟩:=h;exact⟨σ',H',I.unwish,q⟩
 |ret u=>let⟨v,σ',H',I,r,q⟩:=h;exact⟨v,σ',H',I.unwish,r,q⟩
theorem PSs.nox{st:List Zn}{t:TS}(h:PSs X.nox st t):PSs X st t:=λa_ s σ H D I hw=>
 XZ (h a_ s σ H D (I.wish _) hw) (λ_ _ q=>q.unwish) λ_ _ z=>False.elim z
variable{te:TE}
section
variable{st:Zn}{e_:List Zn}{t u:TS}{e:ZN}
def Ke:TS:=λD σ H=>D.nx σ H
def Qo(t u:TS):TS:=λD σ H=>t { D with nx:=u D } σ H
def G5:PSs X [] Ke:=λ_ _ σ H _ I h=>wpAny_execs_nil ⟨σ,H,I,h⟩
theorem C5(h1:PS X st t)(h2:PSs X e_ u):PSs X (st::e_) (Qo t u):=by
 intro a_ s σ H D I h;refine wpAny_execs_cons (thn (h1 a_ s σ H { D with nx:=u D } I h) λf s1 q=>?_);cases f with
 |next=>
  let⟨σ',H',I',q⟩:=q;exact h2 a_ s1 σ' H' D I' q
 |ret v=>exact q
 |brk=>exact q
 |cont=>exact q
theorem GZ(h1:PS X st t):PSs X [st] t:=by
 intro a_ s σ H D I h;refine wpAny_execs_cons (thn (h1 a_ s σ H D I h) λf s1 q=>?_);cases f with
 |next=>exact wpAny_execs_nil q
 |ret v=>exact q
 |brk=>exact q
 |cont=>exact q
theorem Inv.quiet{a_:57}{σ:St}{H:Hp}{s:Z6}(I:47):interactive X.env=false:=by simp[interactive,I.ok.kind]
def Kh(te:TE):TS:=λD σ H=>te σ H λ_ H1=>D.nx σ H1
theorem G7(he:PE X e te)(hs:XE e none pos.line X.env=pure false:=by rfl):PS X (.Expr e pos) (Kh te):=by
 intro a_ s σ H D I h;exact wpAny_Expr_any (thn (he a_ s σ H _ I h) λv s1 ⟨x,H1,I1,r1,q1⟩=>⟨σ,H1,I1,q1⟩) I.quiet hs
def Qp(te:TE):TS:=λD σ H=>te σ H D.rt
theorem K0(he:PE X e te):PS X (.Return (some e) pos) (Qp te):=by
 intro a_ s σ H D I h;exact wpAny_Return_some (thn (he a_ s σ H _ I h) λv s1 ⟨x,H1,I1,r1,q1⟩=>⟨x,σ,H1,I1,r1,q1⟩)
def Qu(c:TT)(t u:TS):TS:=λD σ H=>c σ H λb H1=>if b=true then t D σ H1 else u D σ H1
theorem O0{c:ZN}{a b:List Zn}{tc:TT}(hc:PT X c tc)(ha:PSs X a t)(hb:PSs X b u):PS X (.If c a b pos) (Qu tc t u):=by
 intro a_ s σ H D I h;refine wpAny_If (thn (hc a_ s σ H _ I h) λd s1 ⟨H1,I1,q1⟩=>?_);cases d with
 |true=>exact ha a_ s1 σ H1 D I1 q1
 |false=>exact hb a_ s1 σ H1 D I1 q1
end
abbrev TG:=V->St->Hp->(St->Hp->Prop)->Prop
abbrev TGs:=List V->St->Hp->(St->Hp->Prop)->Prop
def PG(X:Cx)(r_:ZN)(t:TG):Prop:=
 ∀(a_:57) (s:Z6) (σ:St) (H:Hp) (v:V) (u:Z5) (Q:St->Hp->Prop),Inv X a_ σ H s->cP v u->t v σ H Q->
  wpAny 49 X.A (assign r_ X.env u) (λ_ s'=>∃σ' H',Inv X a_ σ' H' s'/\Q σ' H') X.xe s
def PGs(X:Cx)(ts:List ZN)(t:TGs):Prop:=
 ∀(a_:57) (s:Z6) (σ:St) (H:Hp) (vs:List V) (us:List Z5) (Q:St->Hp->Prop),Inv X a_ σ H s->bS vs us->t vs σ H Q->
  wpAny 49 X.A (assignInOrder ((assignEach ts X.env).map (·.2)) us) (λ_ s'=>∃σ' H',Inv X a_ σ' H' s'/\Q σ' H') X.xe s
abbrev Nh:=V->V->V->Hp->(Hp->Prop)->Prop
def Qg(X:Cx)(t:Nh):Prop:=
 ∀(a_:57) (s:Z6) (σ:St) (H:Hp) (o i v:V) (ov iv u:Z5) (Q:Hp->Prop),Inv X a_ σ H s->cP o ov->cP i iv->cP v u->t o i v H Q->
  wpAny 49 X.A (setItem ov iv u) (λ_ s'=>∃H',Inv X a_ σ H' s'/\Q H') X.xe s
def yh(i:Nat):TG:=λv σ H Q=>Q (σ.set i (some v)) H
theorem Hg{i:Nat}{x:Str}(hN:X.N.Nodup)(hi:X.N[i]?=some x)(hx:Loc X.env.scope x)(hf:X.fn x=true\/X.env.scope.names.lookup x=some .local:=by first|exact .inl rfl|exact .inr rfl|assumption):PG X (.Name x pos) (yh i):=by
 intro a_ s σ H v u Q I r h;exact wpAny_assign_Name (wa I hN hi hx r (λs' I'=>⟨_,H,I',h⟩) hf)
def QX:TGs:=λvs σ H Q=>vs=[]/\Q σ H
def Mj(t:TG)(u:TGs):TGs:=λvs σ H Q=>∃v r,vs=v::r/\t v σ H λσ' H'=>u r σ' H' Q
theorem Hf:PGs X [] QX:=by
 intro a_ s σ H vs us Q I r h;let⟨e,h⟩:=h;subst e;cases r;exact assignInOrder_nil ⟨σ,H,I,h⟩
theorem Dc{e:ZN}{es:List ZN}{t:TG}{u:TGs}(h1:PG X e t)(h2:PGs X es u)
  (hs:(assignEach (e::es) X.env).map (·.2)=assign e X.env::(assignEach es X.env).map (·.2):=by rfl):PGs X (e::es) (Mj t u):=by
 intro a_ s σ H vs us Q I r h;let⟨v,vr,e1,h⟩:=h;subst e1;cases r with
 |cons r rr=>
  rw[hs];refine assignInOrder_cons (thn (h1 a_ s σ H _ _ _ I r h) λ_ s1 hz=>?_);let⟨σ1,H1,I1,q1⟩:=hz;exact h2 a_ s1 σ1 H1 _ _ Q I1 rr q1
def QU(K:Z3)(n:Nat)(t:TGs):TG:=λv σ H Q=>∃a xs,v=.ref a/\SqT K H a xs/\xs.length=n/\t xs σ H Q
theorem K6{es:List ZN}{k:Nat}{t:TGs}{n:Nat}(hc:X.calm=true)(h:PGs X es t)
  (hn:(assignEach es X.env).length=n:=by rfl) (hst:(assignEach es X.env).findIdx? (·.1)=none:=by rfl):PG X (.Tuple es k pos) (QU X.K n t):=by
 intro a_ s σ H v u Q I r hw;let⟨a,xs,e1,hq,hl,hw⟩:=hw;subst e1;cases r;let⟨its,rv,ht,hz⟩:=I.tuple hq;refine assign_Tuple_tuple (I.ok.hd hc) ht (by simp[hn,<-hl,rv.length]) hst λh' hx=>?_;have I1:Inv X a_ σ H { s with heap:=h' }:=I.kept (t':=s.toks) λb o e=>hx b o (ZL (ZH e)) e;exact h a_ _ σ H xs _ Q I1 ‹rv› hw
def QV(to ti:TE)(t:Nh):TG:=λv σ H Q=>to σ H λo H1=>ti σ H1 λi H2=>t o i v H2 λH3=>Q σ H3
theorem K7{o i:ZN}{to ti:TE}{t:Nh}(ho:PE X o to)(hi:PE X i ti)(hs:Qg X t)
  (ha:∀v,assign (.Subscript o i pos) X.env v=(do
   let ov <-holding [v] (eval o X.env)
   let iv <-holding [v,ov] (eval i X.env)
   standAt pos
   holding [v,ov,iv] (setItem ov iv v)
   release [v,ov,iv] []):=by intro _;rfl):PG X (.Subscript o i pos) (QV to ti t):=by
 intro a_ s σ H v u Q I r h;rw[ha];refine Z2 (wpAny_holding (thn (ho a_ s σ H _ I h) λov s1 hz=>?_));let⟨x,H1,I1,r1,q1⟩:=hz;refine Z2 (wpAny_holding (thn (hi a_ s1 σ H1 _ I1 q1) λiv s2 hz=>?_));let⟨y,H2,I2,r2,q2⟩:=hz;refine Z2 (wpAny_standAt (Z2 (wpAny_holding (thn (hs a_ s2 σ H2 x y v ov iv u _ I2 r1 r2 r q2) λ_ s3 ⟨H3,I3,q3⟩=>?_))));exact wpAny_release ⟨σ,H3,I3,q3⟩
def Ko(te:TE)(g:TG):TS:=λD σ H=>te σ H λx H1=>g x σ H1 D.nx
theorem K3{tg e:ZN}{te:TE}{g:TG}(he:PE X e te)(hg:PG X tg g)(hs:swapsWithSole [tg] e pos.line X.env=pure false:=by rfl)(hw:swappedStores [tg] e X.env=pure none:=by rfl)
  (h1:(assignEach [tg] X.env).map (·.2)=[assign tg X.env]:=by rfl):PS X (.Assign [tg] e pos) (Ko te g):=by
 intro a_ s σ H D I h;refine wpAny_Assign_stores (thn (he a_ s σ H _ I h) λv s1 hz=>?_) hs hw;let⟨x,H1,I1,r1,q1⟩:=hz;rw[h1];exact thn (hg a_ s1 σ H1 x v _ I1 r1 q1) λ_ s2 q=>q
theorem KZ{i:Nat}{x:Str}{e:ZN}{te:TE}{g_:Pos}(hN:X.N.Nodup)(hi:X.N[i]?=some x)(hx:Loc X.env.scope x)(he:PE X e te)(hs:XE e (some (.Name x g_)) pos.line X.env=pure false:=by rfl)(hf:X.fn x=true\/X.env.scope.names.lookup x=some .local:=by first|exact .inl rfl|exact .inr rfl|assumption) :
  PS X (.Assign [.Name x g_] e pos) (Ko te (yh i)):=by
 intro a_ s σ H D I h;refine wpAny_Assign_Name (thn (he a_ s σ H _ I h) λv s1 hz=>?_) hs;let⟨y,H1,I1,r1,q1⟩:=hz;exact wa I1 hN hi hx r1 (λs2 I2=>⟨_,H1,I2,q1⟩) hf
def zc(c:TT)(tb:TS):TS:=λD σ H=>∃W:Nat->St->Hp->Prop,(∃m,W m σ H)/\∀m σ H,W m σ H->
 c σ H λb H1=>if b=true then ∃N:St->Hp->Prop,(∀σ' H',N σ' H'->∃m',m'<m/\W m' σ' H')/\tb { D with nx:=N,ct:=N,bk:=D.nx } σ H1 else D.nx σ H1
theorem C6{c:ZN}{body:List Zn}{tc:TT}{tb:TS}(hp:PassesOwn 49 X.A X.env X.xe)(hc:PT X c tc)(hb:PSs X body tb):PS X (.While c body [] pos) (zc tc tb):=by
 intro a_ s σ H D I h;let⟨W,⟨m0,w0⟩,E_⟩:=h;refine wpAny_While (codeAny_whileLoop (λn s'=>∃σ' H',Inv X a_ σ' H' s'/\W n σ' H') ?_ m0 ⟨σ,H,I,w0⟩);rintro n s1 ⟨σ1,H1,I1,w1⟩;refine wpAny_passesOwn hp (thn (hc a_ s1 σ1 H1 _ I1 (E_ n σ1 H1 w1)) λb s2 ⟨H2,I2,q2⟩=>?_);cases b with
 |true=>
  let⟨N,hN,q2⟩:=q2;rw[Xe rfl];refine wpAny_passesOwn hp (thn (hb a_ s2 σ1 H2 _ I2 q2) λf s3 q3=>?_);cases f with
  |next=>
   let⟨σ3,H3,I3,n3⟩:=q3;let⟨m',hm,w3⟩:=hN σ3 H3 n3;exact⟨m',hm,σ3,H3,I3,w3⟩
  |cont=>
   let⟨σ3,H3,I3,n3⟩:=q3;let⟨m',hm,w3⟩:=hN σ3 H3 n3;exact⟨m',hm,σ3,H3,I3,w3⟩
  |brk=>exact q3
  |ret v=>exact q3
 |false=>
  rw[Xd ZF];exact wpAny_execs_nil ⟨σ1,H2,I2,q2⟩
structure It where
 go:Nat->Hp->Prop
 yld:Nat->Hp->V->Hp->Prop
 stop:Nat->Hp->Prop
def yA(X:Cx)(a_:57)(H:Hp)(b:Addr):Prop:=
 H b=none/\b≠X.env.locals/\b∉X.fs/\(b∈X.ex\/X.s₀.heap.objs.size<=b)/\(∀x c,X.env.cells.lookup x=some c->c≠b)/\∀p∈X.pn++a_,p.1≠b
theorem Inv.fpOk{X:Cx}{a_:57}{σ:St}{H H':Hp}{s:Z6}{b:Addr}(I:47)(hb:s.heap.objs.size<=b)(hn:H' b=none):yA X a_ H' b:=by
 refine⟨hn,Nat.ne_of_gt (ZI I.lt hb),I.nofs hb,.inr (X2 I.sz hb),λx c e z=>?_,λp hp z=>?_⟩;let⟨v,q⟩:=I.cell x c e;exact absurd (ZI q.lt (by rw[z];exact hb)) (Xv _);exact absurd (ZI (ZH (I.pin p hp).1) (by rw[z];exact hb)) (Xv _)
structure IT(P:Zq)(w:Zr)(K:Z3)(tg:ZN)(J:It)(fp:List Addr)(it:Addr)(tn:Nat->Heap->Prop):Prop where
 mem:it∈fp
 obj:∀i h,tn i h->∀b∈fp,∃o,h.get? b=some o/\∀v,o.data≠.cell v
 keep:∀i h h',tn i h->(∀b∈fp,∀o,h.get? b=some o->h'.get? b=some o)->tn i h'
 item:∀(X:Cx),X.prog=P->X.w=w->X.K=K->X.calm=true->∀(i:Nat) (a_:57) (s:Z6) (σ:St) (H:Hp) (E:Z5->Z6->Prop),Inv X a_ σ H s->(∀b∈fp,yA X a_ H b)->tn i s.heap->J.go i H->
  wpAny (ZS P w) X.A (pyNext (.ref it)) (λr s1=>∃u,r=some u/\
   wpAny (ZS P w) X.A (letOwnedTupleGo tg (.ref it) u) (λ_ s2=>∃x H',Inv X a_ σ H' s2/\cP x u/\J.yld i H x H'/\tn (i+1) s2.heap/\∀b∈fp,H' b=none) E s1) E s
 done:∀(X:Cx),X.prog=P->X.w=w->X.K=K->X.calm=true->∀(i:Nat) (a_:57) (s:Z6) (σ:St) (H:Hp) (E:Z5->Z6->Prop),Inv X a_ σ H s->(∀b∈fp,yA X a_ H b)->tn i s.heap->J.stop i H->
  wpAny (ZS P w) X.A (pyNext (.ref it)) (λr s1=>r=none/\Inv X a_ σ H s1) E s
 self:∀(A:Ze) (i:Nat) (s:Z6) (Q:Z5->Z6->Prop) (E:Z5->Z6->Prop),tn i s.heap->Q (.ref it) s->wpAny (ZS P w) A (pyIter (.ref it)) Q E s
abbrev TI:=St->Hp->(It->Hp->Prop)->Prop
def PIE(X:Cx)(a_:57)(σ:St)(tg:ZN)(R:It->Hp->Prop)(itv:Z5)(s2:Z6):Prop:=
 ∃(it:Addr) (fp:List Addr) (tn:Nat->Heap->Prop) (J:It) (H':Hp),itv=.ref it/\Inv X a_ σ H' s2/\IT X.prog X.w X.K tg J fp it tn/\tn 0 s2.heap/\(∀b∈fp,yA X a_ H' b)/\R J H'
def PI(X:Cx)(tg iter:ZN)(wi:TI):Prop:=
 ∀(a_:57) (s:Z6) (σ:St) (H:Hp) (R:It->Hp->Prop),Inv X a_ σ H s->wi σ H R->
  wpAny 49 X.A (eval iter X.env) (λv s1=>wpAny 49 X.A (pyIter v) (PIE X a_ σ tg R) X.xe s1) X.xe s
theorem AS {M : Model} {A : Ze} {E : Z5 -> Z6 -> Prop} {s : Z6} {tg : ZN} {it : Addr} {u : Z5} {o : Obj} {n : String} {vs : Array Z5} {Q : Unit -> Z6 -> Prop} (ho : s.heap.get? it = some o) (hc : o.cls = .type n) (hd : o.data = .fields vs)
    (hn:["enumerate","zip","dict_itemiterator","dict_reverseitemiterator","odict_iterator","itertools.zip_longest","itertools.pairwise"].contains n=false) (hQ:Q () s):wpAny M A (letOwnedTupleGo tg (.ref it) u) Q E s:=by
  unfold letOwnedTupleGo;cases tg<;>first
    |exact Z8 hQ
    | (cases u <;> first
        |exact Z8 hQ
        | (refine Z2 (wpAny_load ho ?_)
           rw[hc,hd];show wpAny M A (if (["enumerate","zip","dict_itemiterator","dict_reverseitemiterator","odict_iterator","itertools.zip_longest","itertools.pairwise"].contains n&&vs[0]? == some (rawInt _))=true then _ else _) Q E s;rw[Xd (by intro h;rw[hn,Bool.false_and]at h;cases h)];exact Z8 hQ))
def Itl(K:Z3)(a:Addr):It:=
 ⟨λi H=>∃xs x,SqL K H a xs/\xs[i]?=some x,λi H x H'=>H'=H/\∀xs,SqL K H a xs->xs[i]?=some x,λi H=>∃xs,SqL K H a xs/\xs.length<=i⟩
def Itt(K:Z3)(a:Addr):It:=
 ⟨λi H=>∃xs x,SqT K H a xs/\xs[i]?=some x,λi H x H'=>H'=H/\∀xs,SqT K H a xs->xs[i]?=some x,λi H=>∃xs,SqT K H a xs/\xs.length<=i⟩
def Itr(lo:Int)(n:Nat):It:=⟨λi _=>i<n,λi H x H'=>H'=H/\x=.int (lo+i),λi _=>n<=i⟩
theorem y4{P:Zq}{w:Zr}{K:Z3}{tg:ZN}(a it:Addr):IT P w K tg (Itl K a) [it] it (λi h=>h.IsListIter it a i) where
 mem:=by simp
 obj:=λi h st b hb=>by
  have e:b=it:=by simpa using hb
  subst e;let⟨o,e,c,d⟩:=st;exact⟨o,e,λv z=>by rw[d]at z;cases z⟩
 keep:=λi h h' st k=>st.at λo e=>k it 51 o e
 item:=by
  intro X hP hw hK hc i a_ s σ H E I hf st hg;subst hP hw hK;let⟨xs,x,hq,hx⟩:=hg;let⟨its,rv,p,hz⟩:=I.list hq;let⟨u,hu,ru⟩:=rv.get hx;let⟨f0,f1,f2,f3,f4,f5⟩:=hf it 51;refine wpAny_pyNext_list_item st p.isList (x:=u) ‹hu› λh' st' sb=>?_;have I1:Inv X a_ σ H { s with heap:=h' }:=I.turned (t':=s.toks) (λb o hb e=>(sb.2 b hb).trans e) f0 f1 f3 f4 f5;let⟨o,e,c,d⟩:=id st';exact⟨u,rfl,AS (s:={ s with heap:=h' }) e c d 54 ⟨x,H,I1,ru,⟨rfl,λys hy=>by rw[I.list_inj hy hq];exact hx⟩,st',λb hb=>(hf b hb).1⟩⟩
 done:=by
  intro X hP hw hK hc i a_ s σ H E I hf st hg;subst hP hw hK;let⟨xs,hq,hx⟩:=hg;let⟨its,rv,p,hz⟩:=I.list hq;let⟨f0,f1,f2,f3,f4,f5⟩:=hf it 51;have hl:=rv.length;exact wpAny_pyNext_list_end (I.ok.hd hc) st p.isList 72 λh' eb=>⟨rfl,I.turned (t':=s.toks) (λb o hb e=>eb b o hb e) f0 f1 f3 f4 f5⟩
 self:=λ_ _ _ _ _ st h=>wpAny_pyIter_listiter st h
theorem xF{P:Zq}{w:Zr}{K:Z3}{tg:ZN}(a it:Addr):IT P w K tg (Itt K a) [it] it (λi h=>h.IsTupleIter it a i) where
 mem:=by simp
 obj:=λi h st b hb=>by
  have e:b=it:=by simpa using hb
  subst e;let⟨o,e,c,d⟩:=st;exact⟨o,e,λv z=>by rw[d]at z;cases z⟩
 keep:=λi h h' st k=>st.at λo e=>k it 51 o e
 item:=by
  intro X hP hw hK hc i a_ s σ H E I hf st hg;subst hP hw hK;let⟨xs,x,hq,hx⟩:=hg;let⟨its,rv,p,hz⟩:=I.tuple hq;let⟨u,hu,ru⟩:=rv.get hx;let⟨f0,f1,f2,f3,f4,f5⟩:=hf it 51;refine wpAny_pyNext_tuple_item st (show s.heap.IsTuple a its.toArray from p) (x:=u) ‹hu› λh' st' sb=>?_;have I1:Inv X a_ σ H { s with heap:=h' }:=I.turned (t':=s.toks) (λb o hb e=>(sb.2 b hb).trans e) f0 f1 f3 f4 f5;let⟨o,e,c,d⟩:=id st';exact⟨u,rfl,AS (s:={ s with heap:=h' }) e c d 54 ⟨x,H,I1,ru,⟨rfl,λys hy=>by rw[I.tuple_inj hy hq];exact hx⟩,st',λb hb=>(hf b hb).1⟩⟩
 done:=by
  intro X hP hw hK hc i a_ s σ H E I hf st hg;subst hP hw hK;let⟨xs,hq,hx⟩:=hg;let⟨its,rv,p,hz⟩:=I.tuple hq;let⟨f0,f1,f2,f3,f4,f5⟩:=hf it 51;have hl:=rv.length;exact wpAny_pyNext_tuple_end (I.ok.hd hc) st (show s.heap.IsTuple a its.toArray from p) 72 λh' eb=>⟨rfl,I.turned (t':=s.toks) (λb o hb e=>eb b o hb e) f0 f1 f3 f4 f5⟩
 self:=λ_ _ _ _ _ st h=>wpAny_pyIter_tupleiter st h
theorem xG{P:Zq}{w:Zr}{K:Z3}{tg:ZN}(it:Addr)(lo:Int)(n:Nat):IT P w K tg (Itr lo n) [it] it (λi h=>IsRangeIter h it (lo+(i:Nat)*1) ((n:Int)-(i:Nat)) 1) where
 mem:=by simp
 obj:=λi h st b hb=>by
  have e:b=it:=by simpa using hb
  subst e;exact⟨_,st,λv z=>by
   have z':Data.fields _=Data.cell v:=z;cases z'⟩
 keep:=λi h h' st k=>k it 51 _ st
 item:=by
  intro X hP hw hK hc i a_ s σ H E I hf st hg;subst hP hw hK;let⟨f0,f1,f2,f3,f4,f5⟩:=hf it 51;have W:=Walks.range (prog:=X.prog) (w:=X.w) (I.ok.hd hc) it lo 1 n;refine W.item i s _ _ hg st λv h' tk hv st' kk=>?_;let⟨t,rfl⟩:=hv;have I1:Inv X a_ σ H { s with heap:=h',toks:=tk }:=I.turned (λb o hb e=>kk b o ‹hb› e) f0 f1 f3 f4 f5;refine⟨_,rfl,AS (s:={ s with heap:=h',toks:=tk }) (n:="range_iterator") st' rfl rfl 54 ⟨.int (lo+i),H,I1,⟨t,?_⟩,⟨rfl,rfl⟩,st',λb hb=>(hf b hb).1⟩⟩;rw[Int.mul_one]
 done:=by
  intro X hP hw hK hc i a_ s σ H E I hf st hg;subst hP hw hK;let⟨f0,f1,f2,f3,f4,f5⟩:=hf it 51;exact wpAny_pyNext_range_end (I.ok.hd hc) st (by have:n<=i:=hg;omega) λh' eb=>⟨rfl,I.turned (t':=s.toks) (λb o hb e=>eb b o hb e) f0 f1 f3 f4 f5⟩
 self:=λ_ _ _ _ _ st h=>wpAny_pyIter_rangeiter st h
section
variable{tg:ZN}
def Md(K:Z3)(tl:TE):TI:=λσ H R=>tl σ H λx H1=>∃a,x=.ref a/\(∃xs,SqL K H1 a xs)/\R (Itl K a) H1
def QR(K:Z3)(tl:TE):TI:=λσ H R=>tl σ H λx H1=>∃a,x=.ref a/\(∃xs,SqT K H1 a xs)/\R (Itt K a) H1
theorem He{l:ZN}{tl:TE}(hl:PE X l tl):PI X tg l (Md X.K tl):=by
 intro a_ s σ H R I h;refine thn (hl a_ s σ H _ I h) λv s1 hz=>?_;let⟨x,H1,I1,r1,q1⟩:=hz;let⟨a,e,⟨xs,hq⟩,q⟩:=q1;subst e;cases r1;let⟨its,rv,p,hz⟩:=I1.list hq;refine wpAny_pyIter_list p.isList ?_;refine⟨s1.heap.objs.size,[s1.heap.objs.size],_,_,H1,rfl,I1.kept (t':=s1.toks) λb o e=>Z7 _ e,y4 a _,⟨_,ZG _ rfl,rfl,rfl⟩,λb hb=>?_,q⟩;have e:b=s1.heap.objs.size:=by simpa using hb
 subst e;exact I1.fpOk (ZW _) (I1.hok.fresh (ZW _))
theorem K5{l:ZN}{tl:TE}(hl:PE X l tl):PI X tg l (QR X.K tl):=by
 intro a_ s σ H R I h;refine thn (hl a_ s σ H _ I h) λv s1 hz=>?_;let⟨x,H1,I1,r1,q1⟩:=hz;let⟨a,e,⟨xs,hq⟩,q⟩:=q1;subst e;cases r1;let⟨its,rv,p,hz⟩:=I1.tuple hq;refine wpAny_pyIter_tuple (show s1.heap.IsTuple a its.toArray from p) ?_;refine⟨s1.heap.objs.size,[s1.heap.objs.size],_,_,H1,rfl,I1.kept (t':=s1.toks) λb o e=>Z7 _ e,xF a _,⟨_,ZG _ rfl,rfl,rfl⟩,λb hb=>?_,q⟩;have e:b=s1.heap.objs.size:=by simpa using hb
 subst e;exact I1.fpOk (ZW _) (I1.hok.fresh (ZW _))
theorem CW{a_:57}{σ:St}{H:Hp}{s:Z6}{R:It->Hp->Prop}{E:Z5->Z6->Prop}{lo hi:Int}{t u v:Tok}{tk:Nat}(I:47)(h1:-(2^62)<=lo)(h2:lo<2^62)(h3:-(2^62)<=hi)(h4:hi<2^62)
  (q:R (Itr lo (hi-lo).toNat) H):wpAny 49 X.A (pyIter 86) (PIE X a_ σ tg R) E { s with heap:=s.heap.push { cls:=.type "range",data:=.fields #[.int lo t,.int hi u,.int 1 v] },toks:=tk }:=by
 refine wpAny_pyIter_range (IsRange.new ..) (small_one h1 h2 h3 h4) ?_;have I1:Inv X a_ σ H { s with heap:=s.heap.push { cls:=.type "range",data:=.fields #[.int lo t,.int hi u,.int 1 v] },toks:=tk }:=I.kept λb o e=>Z7 _ e;refine⟨(s.heap.push { cls:=.type "range",data:=.fields #[.int lo t,.int hi u,.int 1 v] }).objs.size,[(s.heap.push { cls:=.type "range",data:=.fields #[.int lo t,.int hi u,.int 1 v] }).objs.size],_,_,H,rfl,
  I1.kept (t':=tk) λb o e=>Z7 _ e,xG _ lo (hi-lo).toNat,?_,λb hb=>?_,q⟩
 ·have e1:lo+((0:Nat):Int)*1=lo:=by simp
  have e2:(((hi-lo).toNat:Nat):Int)-((0:Nat):Int)=Builtin.Range.rangeSize lo hi 1:=by rw[rangeSize_one];split<;>omega
  show IsRangeIter _ _ (lo+((0:Nat):Int)*1) ((((hi-lo).toNat:Nat):Int)-((0:Nat):Int)) 1;rw[e1,e2];exact ZG _ rfl
 have e:b=(s.heap.push { cls:=.type "range",data:=.fields #[.int lo t,.int hi u,.int 1 v] }).objs.size:=by simpa using hb
 subst e;exact I1.fpOk (ZW _) (I1.hok.fresh (ZW _))
def Mc(ta:TA):TI:=λσ H R=>ta σ H λvs H1=>∃j:Int,vs=[.int j]/\-(2^62)<=j/\j<2^62/\R (Itr 0 j.toNat) H1
theorem zU{a:ZN}{ta:TA}{p pos:Pos}(hg:Gl X "range")(hm:X.mg "range"=none)(ha:PA X [a] ta)(hs:ZU [a] X.env=[(false,eval a X.env)]:=by rfl):PI X tg (.Call (.Name "range" p) [a] [] pos) (Mc ta):=by
 intro a_ s σ H R I h;refine Call_ (oe I hg hm boot_range (PyProof.Rows.callWith_type1 (thn (ha pos a_ s σ H _ I h) λus s1 ⟨vs,H1,I1,r1,q1⟩=>?_) hs rfl));let⟨j,e,q1,q2,q⟩:=q1;subst e;cases r1 with
 |cons r rr=>
  cases rr;let⟨t,rfl⟩:=r;exact call_range_1 (CW I1 24 24 q1 q2 ‹q›)
def Kg(wi:TI)(g:TG)(tb:TS):TS:=λD σ H=>wi σ H λJ H1=>∃W:Nat->Nat->St->Hp->Prop,(∃m,W 0 m σ H1)/\∀i m σ H,W i m σ H->
 (J.stop i H/\D.nx σ H)\/(J.go i H/\∃N:St->Hp->Prop,(∀σ' H',N σ' H'->∃m',m'<m/\W (i+1) m' σ' H')/\∀x H',J.yld i H x H'->g x σ H' λσ2 H2=>tb { D with nx:=N,ct:=N,bk:=D.nx } σ2 H2)
def wB(fp:List Addr)(h:Heap):List (Addr×Obj):=fp.filterMap λb=>(h.get? b).map λo=>(b,o)
theorem fq{fp:List Addr}{h:Heap}{b:Addr}{o:Obj}(hb:b∈fp)(e:h.get? b=some o):(b,o)∈wB fp h:=List.mem_filterMap.mpr ⟨b,hb,by rw[e];rfl⟩
theorem Aa{fp:List Addr}{h:Heap}{p:Addr×Obj}(hp:p∈wB fp h):p.1∈fp/\h.get? p.1=some p.2:=by
 let⟨b,hb,e⟩:=List.mem_filterMap.mp hp;cases q:h.get? b with
 |none=>rw[q]at e;cases e
 |some o=>
  rw[q]at e;have e':(b,o)=p:=Option.some.inj e;subst e';exact⟨hb,q⟩
theorem Inv.pinned{a_:57}{σ:St}{H:Hp}{s:Z6}{fp:List Addr}(I:47)(hf:∀b∈fp,yA X a_ H b)(ho:∀b∈fp,∃o,s.heap.get? b=some o/\∀v,o.data≠.cell v):Inv X (a_++wB fp s.heap) σ H s:=
 I.pins_of λp hp=>(X4.mp hp).elim (λz=>I.pin p (Zg _ z)) λz=>by
  let⟨hb,e⟩:=Aa z;let⟨f0,f1,f2,_⟩:=hf p.1 hb;let⟨o,e',d⟩:=ho p.1 hb;rw[e]at e';cases e';exact⟨e,f0,f1,f2,d⟩
theorem Inv.unpinned{a_ pl:57}{σ:St}{H:Hp}{s:Z6}(I:Inv X (a_++pl) σ H s):Inv X a_ σ H s:=I.pins_of λp hp=>I.pin p (Zg _ (Xx _ hp))
theorem K1{iter:ZN}{body:List Zn}{wi:TI}{g:TG}{tb:TS}{pos:Pos}(hp:PassesOwn 49 X.A X.env X.xe)(hc:X.calm=true)(hi:PI X tg iter wi)(hg:PG X tg g)(hb:PSs X body tb)
  (hs:∀x,foldedSetIterable iter X.env x=pure x:=by intro _;rfl):PS X (.For tg iter body [] pos) (Kg wi g tb):=by
 intro a_ s σ H D I h;refine wpAny_For (thn (hi a_ s σ H _ I h) λv s1 h1=>thn h1 λitv s2 h2=>?_) hs;let⟨it,fp,tn,J,H2,e,I2,T,st2,f2,W,⟨m0,w0⟩,E_⟩:=h2;subst e;have stat:∀{H':Hp},(∀b∈fp,H' b=none)->∀b∈fp,yA X a_ H' b:=λhn b hb=>⟨hn b hb,(f2 b hb).2⟩;refine codeAny_forLoop_any (λn s'=>∃i σ' H',Inv X a_ σ' H' s'/\tn i s'.heap/\(∀b∈fp,H' b=none)/\W i n σ' H') ?_ m0 ⟨0,σ,H2,I2,st2,λb hb=>(f2 b hb).1,w0⟩;rintro n s3 ⟨i,σ3,H3,I3,st3,fr3,w3⟩;rcases E_ i n σ3 H3 w3 with⟨stop,qn⟩|⟨go,N,hN,step⟩;refine wpAny_passesOwn hp (thn (T.done X rfl rfl rfl hc i a_ s3 σ3 H3 X.xe I3 (stat fr3) st3 stop) λr s4 ⟨hr,I4⟩=>?_);subst hr;exact wpAny_execs_nil ⟨σ3,H3,I4,qn⟩
 ·refine wpAny_passesOwn hp (thn (T.item X rfl rfl rfl hc i a_ s3 σ3 H3 X.xe I3 (stat fr3) st3 go) λr s4 ⟨u,hr,h4⟩=>?_);subst hr;refine wpAny_passesOwn hp (thn h4 λ_ s5 hz=>?_);let⟨x,H5,I5,r5,y5,st5,fr5⟩:=hz;have I5':=I5.pinned (stat fr5) (T.obj _ _ st5);refine wpAny_passesOwn hp (thn (hg _ s5 σ3 H5 x u _ I5' r5 (step x H5 y5)) λ_ s6 hz=>?_);let⟨σ6,H6,I6,q6⟩:=hz;refine wpAny_passesOwn hp (thn (hb _ s6 σ6 H6 _ I6 q6) λf s7 q7=>?_);have again:∀{σ7:St} {H7:Hp},Inv X (a_++wB fp s5.heap) σ7 H7 s7->N σ7 H7->∃m,m<n/\∃i σ' H',Inv X a_ σ' H' s7/\tn i s7.heap/\(∀b∈fp,H' b=none)/\W i m σ' H':=λ{σ7 H7} I7 n7=>by
   let⟨m',hm,w7⟩:=hN σ7 H7 n7;refine⟨m',hm,i+1,σ7,H7,I7.unpinned,T.keep _ _ _ st5 λb hb o e=>(I7.pin (b,o) (Zg _ (Zg _ (fq hb e)))).1,λb hb=>?_,w7⟩;let⟨o,e,d⟩:=T.obj _ _ st5 b hb;exact(I7.pin (b,o) (Zg _ (Zg _ (fq hb e)))).2.1
  cases f with
  |next=>let⟨σ7,H7,I7,n7⟩:=q7;exact again I7 n7
  |cont=>let⟨σ7,H7,I7,n7⟩:=q7;exact again I7 n7
  |brk=>let⟨σ7,H7,I7,q7⟩:=q7;exact⟨σ7,H7,I7.unpinned,q7⟩
  |ret v=>let⟨x7,σ7,H7,I7,r7,q7⟩:=q7;exact⟨x7,σ7,H7,I7.unpinned,r7,q7⟩
end
abbrev R2:=V->V->Hp->VK->Prop
def OpR(X:Cx)(f:Z5->Z5->Sem Z5)(r:R2):Prop:=
 ∀(a_:57) (s:Z6) (σ:St) (H:Hp) (x y:V) (v u:Z5) (Q:VK),Inv X a_ σ H s->cP x v->cP y u->r x y H Q->
  wpAny 49 X.A (f v u) (EP X a_ σ Q) X.xe s
def UnR(X:Cx)(f:Z5->Sem Z5)(r:V->Hp->VK->Prop):Prop:=
 ∀(a_:57) (s:Z6) (σ:St) (H:Hp) (x:V) (v:Z5) (Q:VK),Inv X a_ σ H s->cP x v->r x H Q->
  wpAny 49 X.A (f v) (EP X a_ σ Q) X.xe s
def eU(X:Cx)(f:Z5)(r:List V->Hp->VK->Prop):Prop:=
 ∀(a_:57) (s:Z6) (σ:St) (H:Hp) (xs:List V) (us:List Z5) (Q:VK),Inv X a_ σ H s->bS xs us->r xs H Q->
  wpAny 49 X.A (call f us) (EP X a_ σ Q) X.xe s
def tOp(r:R2)(ta tb:TE):TE:=λσ H Q=>ta σ H λx H1=>tb σ H1 λy H2=>r x y H2 Q
def tUn(r:V->Hp->VK->Prop)(ta:TE):TE:=λσ H Q=>ta σ H λx H1=>r x H1 Q
def rI(C:Int->Int->Prop)(g:Int->Int->V):R2:=λx y H Q=>∃i j,x=.int i/\y=.int j/\C i j/\Q (g i j) H
def rI0(g:Int->Int->V):R2:=λx y H Q=>∃i j,x=.int i/\y=.int j/\Q (g i j) H
section
variable{a:ZN}
theorem P9(ha:PE X a ta)(hb:PE X b tb){a_:57}{s:Z6}{σ:St}{H:Hp}{R:V->V->Hp->Prop}(I:47)
  (h:ta σ H λx H1=>tb σ H1 λy H2=>R x y H2) {Q:Z5->Z6->Prop} {f:Z5->Z5->Sem Z5}
  (hf:∀v u s2 x y H2,Inv X a_ σ H2 s2->cP x v->cP y u->R x y H2->wpAny 49 X.A (f v u) Q X.xe s2) :
  wpAny 49 X.A (eval a X.env) (λv s₁=>wpAny 49 X.A (eval b X.env) (λu s₂=>wpAny 49 X.A (f v u) Q X.xe s₂) X.xe s₁) X.xe s:=by
 refine thn (ha a_ s σ H _ I h) λv s1 hz=>?_;let⟨x,H1,I1,r1,q1⟩:=hz;refine thn (hb a_ s1 σ H1 _ I1 q1) λu s2 hz=>?_;let⟨y,H2,I2,r2,q2⟩:=hz;exact hf v u s2 x y H2 I2 r1 r2 q2
theorem O4{op:Operator}{r:R2}(ho:OpR X (binaryOp op) r)(ha:PE X a ta)(hb:PE X b tb):PE X (.BinOp a op b pos) (tOp r ta tb):=by
 intro a_ s σ H Q I h;exact wpAny_BinOp (P9 ha hb I h λv u s2 x y H2 I2 rx ry q=>ho a_ s2 σ H2 x y v u Q I2 rx ry q)
theorem O3{op:UnaryOp}{r:V->Hp->VK->Prop}(ho:UnR X (unaryOp op) r)(ha:PE X a ta):PE X (.UnaryOp op a pos) (tUn r ta):=by
 intro a_ s σ H Q I h;exact UnaryOp_ (thn (ha a_ s σ H _ I h) λv s1 ⟨x,H1,I1,r1,q1⟩=>ho a_ s1 σ H1 x v Q I1 r1 q1)
theorem opI{f:Z5->Z5->Sem Z5}{C:Int->Int->Prop}{g:Int->Int->Int}
  (R4:∀(i j:Int) (t u:Tok) (s:Z6) (Q:Z5->Z6->Prop) (E:Z5->Z6->Prop),C i j->Q (.int (g i j) s.toks) { s with toks:=s.toks+1 }->wpAny 49 X.A (f (.int i t) (.int j u)) Q E s) :
  OpR X f (rI C λi j=>.int (g i j)):=by
 intro a_ s σ H x y v u Q I rx ry h;let⟨i,j,rfl,rfl,hc,q⟩:=h;let⟨t,rfl⟩:=rx;let⟨t',rfl⟩:=ry;exact R4 i j t t' s _ _ hc ⟨.int (g i j),H,I.tok _,⟨_,rfl⟩,q⟩
theorem Qz{f:Z5->Z5->Sem Z5}{g:Int->Int->Int}
  (R4:∀(i j:Int) (t u:Tok) (s:Z6) (Q:Z5->Z6->Prop) (E:Z5->Z6->Prop),Q (.int (g i j) s.toks) { s with toks:=s.toks+1 }->wpAny 49 X.A (f (.int i t) (.int j u)) Q E s) :
  OpR X f (rI0 λi j=>.int (g i j)):=by
 intro a_ s σ H x y v u Q I rx ry h;let⟨i,j,rfl,rfl,q⟩:=h;let⟨t,rfl⟩:=rx;let⟨t',rfl⟩:=ry;exact R4 i j t t' s _ _ ⟨.int (g i j),H,I.tok _,⟨_,rfl⟩,q⟩
theorem M4{f:Z5->Z5->Sem Z5}{g:Int->Int->Bool}
  (R4:∀(i j:Int) (t u:Tok) (s:Z6) (Q:Z5->Z6->Prop) (E:Z5->Z6->Prop),Q (.bool (g i j)) s->wpAny 49 X.A (f (.int i t) (.int j u)) Q E s) :
  OpR X f (rI0 λi j=>.bl (g i j)):=by
 intro a_ s σ H x y v u Q I rx ry h;let⟨i,j,rfl,rfl,q⟩:=h;let⟨t,rfl⟩:=rx;let⟨t',rfl⟩:=ry;exact R4 i j t t' s _ _ ⟨.bl (g i j),H,I,rfl,q⟩
def Ji(i j:Int):Prop:=0<=j/\j<=1000000/\i.natAbs<2^64
def yC(i j:Int):Prop:=(-(2^64)<i/\i<2^64)\/(-(2^64)<j/\j<2^64)
theorem yC.ok{i j:Int}(h:yC i j):IntMulOk i j:=by
 rcases h with⟨h1,h2⟩|⟨h1,h2⟩;exact .of_left (intBits_le_64 h1 h2);exact .of_right (intBits_le_64 h1 h2)
def Lx:OpR X (binaryOp .Add) (rI0 λi j=>.int (i+j)):=Qz λ_ _ _ _ _ _ _ q=>add_int q
def jn:OpR X (binaryOp .Sub) (rI0 λi j=>.int (i-j)):=Qz λ_ _ _ _ _ _ _ q=>sub_int q
def jo:OpR X (binaryOp .Mult) (rI yC λi j=>.int (i*j)):=opI λ_ _ _ _ _ _ _ hc q=>mul_int q hc.ok
theorem km:OpR X (binaryOp .Mod) (rI (λ_ j=>0<j) λi j=>.int (i % j)):=opI λi j _ _ _ _ _ hc q=>by
 have h1:(0:Int)<j:=hc;exact mod_int' 24 (by rw[Int.fmod_eq_emod_of_nonneg i 24];exact q)
theorem EZ:OpR X (binaryOp .Pow) (rI Ji λi j=>.int (i^j.toNat)):=opI λ_ _ _ _ _ _ _ hc q=>pow_int_small hc.1 hc.2.1 hc.2.2 q
end
def OK:V->V->Bool
 |.non,.non=>true|.non,.int _=>true|.int _,.non=>true|.non,.bl _=>true|.bl _,.non=>true|.non,.str _=>true|.str _,.non=>true
 |.int _,.int _=>true|.bl _,.bl _=>true|.str _,.str _=>true|.byt _,.byt _=>true
 |.int _,.str _=>true|.str _,.int _=>true|.bl _,.str _=>true|.str _,.bl _=>true
 |_,_=>false
def rEq:R2:=λx y H Q=>OK x y=true/\Q (.bl (decide (x=y))) H
def rNe:R2:=λx y H Q=>OK x y=true/\Q (.bl (!decide (x=y))) H
theorem Be{i j:Int}:decide (V.int i=V.int j)=(i == j):=by
 rw[Bool.eq_iff_iff];simp
theorem Fm{i j:Bool}:decide (V.bl i=V.bl j)=(i == j):=by
 rw[Bool.eq_iff_iff];simp
theorem Bc{i j:Str}:decide (V.str i=V.str j)=(i == j):=by
 rw[Bool.eq_iff_iff];simp
theorem Bf{i j:Array UInt8}:decide (V.byt i=V.byt j)=(i.toList == j.toList):=by
 rw[Bool.eq_iff_iff];cases i;cases j;simp
section
variable{a c:ZN}{tc:TE}
theorem bI{a_:57}{σ:St}{H:Hp}{s:Z6}{Q:VK}{k k':Bool}(I:47)(q:Q (.bl k) H)(e:k=k'):EP X a_ σ Q (.bool k') s:=by
 subst e;exact⟨.bl k,H,I,rfl,q⟩
theorem d7:OpR X (compareOp .Eq) rEq:=by
 intro a_ s σ H x y v u Q I rx ry h;let⟨hs,q⟩:=h;cases x with
 |non=>
  cases rx;cases y with
  |non=>cases ry;exact PySem.EqNone.eq_none_none (bI I q 51)
  |bl j=>cases ry;exact PySem.EqNone.eq_none_bool (bI I q 51)
  |int j=>let⟨t',rfl⟩:=ry;exact PySem.EqNone.eq_none_int (bI I q 51)
  |str j=>let⟨t',rfl⟩:=ry;exact PySem.EqNone.eq_none_str (bI I q 51)
  |_=>exact absurd (show false=true from hs) ZF
 |bl i=>
  cases rx;cases y with
  |non=>cases ry;exact PySem.EqNone.eq_bool_none (bI I q 51)
  |bl j=>cases ry;exact eq_bool (bI I q Fm)
  |str j=>let⟨t',rfl⟩:=ry;exact PySem.EqMixed.eq_bool_str (bI I q 51)
  |_=>exact absurd (show false=true from hs) ZF
 |int i=>
  let⟨t,rfl⟩:=rx;cases y with
  |non=>cases ry;exact PySem.EqNone.eq_int_none (bI I q 51)
  |int j=>let⟨t',rfl⟩:=ry;exact eq_int (bI I q Be)
  |str j=>let⟨t',rfl⟩:=ry;exact PySem.EqMixed.eq_int_str (bI I q 51)
  |_=>exact absurd (show false=true from hs) ZF
 |str i=>
  let⟨t,rfl⟩:=rx;cases y with
  |non=>cases ry;exact PySem.EqNone.eq_str_none (bI I q 51)
  |bl j=>cases ry;exact PySem.EqMixed.eq_str_bool (bI I q 51)
  |int j=>let⟨t',rfl⟩:=ry;exact PySem.EqMixed.eq_str_int (bI I q 51)
  |str j=>let⟨t',rfl⟩:=ry;exact eq_str (bI I q Bc)
  |_=>exact absurd (show false=true from hs) ZF
 |byt i=>
  let⟨t,rfl⟩:=rx;cases y with
  |byt j=>let⟨t',rfl⟩:=ry;exact PySem.W.eq_bytes (bI I q Bf)
  |_=>exact absurd (show false=true from hs) ZF
 |_=>cases y<;>exact absurd (show false=true from hs) ZF
theorem z7:OpR X (compareOp .NotEq) rNe:=by
 intro a_ s σ H x y v u Q I rx ry h;let⟨hs,q⟩:=h;cases x with
 |non=>
  cases rx;cases y with
  |non=>cases ry;exact PySem.EqNone.ne_none_none (bI I q 51)
  |bl j=>cases ry;exact PySem.EqNone.ne_none_bool (bI I q 51)
  |int j=>let⟨t',rfl⟩:=ry;exact PySem.EqNone.ne_none_int (bI I q 51)
  |str j=>let⟨t',rfl⟩:=ry;exact PySem.EqNone.ne_none_str (bI I q 51)
  |_=>exact absurd (show false=true from hs) ZF
 |bl i=>
  cases rx;cases y with
  |non=>cases ry;exact PySem.EqNone.ne_bool_none (bI I q 51)
  |bl j=>cases ry;exact ne_bool (bI I q (congrArg not Fm))
  |str j=>let⟨t',rfl⟩:=ry;exact PySem.EqMixed.ne_bool_str (bI I q 51)
  |_=>exact absurd (show false=true from hs) ZF
 |int i=>
  let⟨t,rfl⟩:=rx;cases y with
  |non=>cases ry;exact PySem.EqNone.ne_int_none (bI I q 51)
  |int j=>let⟨t',rfl⟩:=ry;exact ne_int (bI I q (congrArg not Be))
  |str j=>let⟨t',rfl⟩:=ry;exact PySem.EqMixed.ne_int_str (bI I q 51)
  |_=>exact absurd (show false=true from hs) ZF
 |str i=>
  let⟨t,rfl⟩:=rx;cases y with
  |non=>cases ry;exact PySem.EqNone.ne_str_none (bI I q 51)
  |bl j=>cases ry;exact PySem.EqMixed.ne_str_bool (bI I q 51)
  |int j=>let⟨t',rfl⟩:=ry;exact PySem.EqMixed.ne_str_int (bI I q 51)
  |str j=>let⟨t',rfl⟩:=ry;exact ne_str (bI I q (congrArg not Bc))
  |_=>exact absurd (show false=true from hs) ZF
 |byt i=>
  let⟨t,rfl⟩:=rx;cases y with
  |byt j=>let⟨t',rfl⟩:=ry;exact PySem.W.ne_bytes (bI I q (congrArg not Bf))
  |_=>exact absurd (show false=true from hs) ZF
 |_=>cases y<;>exact absurd (show false=true from hs) ZF
def jG:OpR X (compareOp .Lt) (rI0 λi j=>.bl (decide (i<j))):=M4 λ_ _ _ _ _ _ _ q=>lt_int q
def Hx:OpR X (compareOp .LtE) (rI0 λi j=>.bl (decide (i<=j))):=M4 λ_ _ _ _ _ _ _ q=>le_int q
def sZ:OpR X (compareOp .Gt) (rI0 λi j=>.bl (decide (j<i))):=M4 λ_ _ _ _ _ _ _ q=>gt_int q
def Hy:OpR X (compareOp .GtE) (rI0 λi j=>.bl (decide (j<=i))):=M4 λ_ _ _ _ _ _ _ q=>ge_int q
theorem E1:OpR X (compareOp .Is) (λx y H Q=>y=.non/\Q (.bl (decide (x=.non))) H):=by
 intro a_ s σ H x y v u Q I rx ry h;let⟨rfl,q⟩:=h;cases ry;refine is_none_gen (bI I q ?_);cases x<;>first
  |(cases rx;rfl)
  |(let⟨t,rfl⟩:=rx;rfl)
theorem nX:OpR X (compareOp .IsNot) (λx y H Q=>y=.non/\Q (.bl (!decide (x=.non))) H):=by
 intro a_ s σ H x y v u Q I rx ry h;let⟨rfl,q⟩:=h;cases ry;refine isnot_none_gen (bI I q ?_);cases x<;>first
  |(cases rx;rfl)
  |(let⟨t,rfl⟩:=rx;rfl)
theorem OpR.or{f:Z5->Z5->Sem Z5}{r r':R2}(h:OpR X f r)(h':OpR X f r'):OpR X f (λx y H Q=>r x y H Q\/r' x y H Q):=by
 intro a_ s σ H x y v u Q I rx ry q;rcases q with q|q;exact h a_ s σ H x y v u Q I rx ry q;exact h' a_ s σ H x y v u Q I rx ry q
theorem aE(b:ZN){op:CmpOp}(h:op≠.In:=by decide)(h2:op≠.NotIn:=by decide):behindInMarks op b=false:=by
 have e1:(op == CmpOp.In)=false:=by cases op<;>first|rfl|exact absurd rfl h
 have e2:(op == CmpOp.NotIn)=false:=by cases op<;>first|rfl|exact absurd rfl h2
 cases b<;>simp[behindInMarks,e1,e2]
theorem Hl{op:CmpOp}{r:R2}(ho:OpR X (compareOp op) r)(ha:PE X a ta)(hb:PE X b tb)(hm:behindInMarks op b=false):PE X (.Compare a [op] [b] pos) (tOp r ta tb):=by
 intro a_ s σ H Q I h;exact wpAny_Compare1 (P9 ha hb I h λv u s2 x y H2 I2 rx ry q=>ho a_ s2 σ H2 x y v u Q I2 rx ry q) hm
def Ka(t:TE):TT:=λσ H Q=>t σ H λx H'=>∃k,x=.bl k/\Q k H'
theorem GY{op:CmpOp}{r:R2}(ho:OpR X (compareOp op) r)(ha:PE X a ta)(hb:PE X b tb)(hm:behindInMarks op b=false):PT X (.Compare a [op] [b] pos) (Ka (tOp r ta tb)):=by
 intro a_ s σ H Q I h;refine wpAny_isTrue_Compare1 (thn (ha a_ s σ H _ I h) λv s1 ⟨x,H1,I1,r1,q1⟩=>thn (hb a_ s1 σ H1 _ I1 q1) λu s2 ⟨y,H2,I2,r2,q2⟩=>
  thn (ho a_ s2 σ H2 x y v u _ I2 r1 r2 q2) λc s3 ⟨z,H3,I3,r3,k,e,q3⟩=>?_) hm
 subst e;cases r3;exact wpAny_truthy_bool ⟨H3,I3,q3⟩
def zg(r r':R2)(ta tb tc:TE):TE:=λσ H Q=>ta σ H λx H1=>tb σ H1 λy H2=>r x y H2 λz H3=>∃k,z=.bl k/\
 (if k=true then tc σ H3 λw' H4=>r' y w' H4 Q else Q (.bl false) H3)
theorem Dh{op op':CmpOp}{r r':R2}(ho:OpR X (compareOp op) r)(ho':OpR X (compareOp op') r')(ha:PE X a ta)(hb:PE X b tb)(hc:PE X c tc)
  (hm:lastMarks [op,op'] [b,c]=false:=by with_unfolding_all rfl):PE X (.Compare a [op,op'] [b,c] pos) (zg r r' ta tb tc):=by
 intro a_ s σ H Q I h;refine Compare_chain (thn (ha a_ s σ H _ I h) λv s1 ⟨x,H1,I1,r1,q1⟩=>chain_link (thn (hb a_ s1 σ H1 _ I1 q1) λu s2 ⟨y,H2,I2,r2,q2⟩=>
  thn (ho a_ s2 σ H2 x y v u _ I2 r1 r2 q2) λd s3 ⟨z,H3,I3,r3,k,e,q3⟩=>?_)) hm
 subst e;cases r3;refine wpAny_truthy_bool ?_;cases k with
 |false=>exact ite_ff ⟨.bl false,H3,I3,rfl,q3⟩
 |true=>exact ite_tt (chain_last (thn (hc a_ s3 σ H3 _ I3 q3) λw' s4 ⟨z',H4,I4,r4,q4⟩=>ho' a_ s4 σ H4 y z' u w' Q I4 r2 r4 q4))
def wJ:(ZC:Nat)<2^63:=by rw[sizeLine_eq];decide
theorem xR:OpR X (binaryOp .Add) (λx y H Q=>∃i j,x=.str i/\y=.str j/\i.length+j.length<=ZC/\Q (.str (i++j)) H):=by
 intro a_ s σ H x y v u Q I rx ry h;let⟨i,j,rfl,rfl,hz,q⟩:=h;let⟨t,rfl⟩:=rx;let⟨t',rfl⟩:=ry;exact add_str (λt' tk=>⟨.str (i++j),H,I.tok _,⟨_,rfl⟩,q⟩) hz
theorem jv{x:V}{us:List Z5}(r:bS [x] us):∃u,us=[u]/\cP x u:=by
 cases r with
 |cons r1 r2=>cases r2;exact⟨_,rfl,r1⟩
theorem CD{x y:V}{us:List Z5}(r:bS [x,y] us):∃u w',us=[u,w']/\cP x u/\cP y w':=by
 cases r with
 |cons r1 r2=>
  cases r2 with
  |cons r3 r4=>cases r4;exact⟨_,_,rfl,r1,r3⟩
theorem Bn(hc:X.calm=true):eU X (.builtin "min") (λxs H Q=>∃i j,xs=[.int i,.int j]/\Q (.int (if j<i then j else i)) H):=by
 intro a_ s σ H xs us Q I r h;let⟨i,j,rfl,q⟩:=h;let⟨u,w',rfl,⟨t,rfl⟩,⟨t',rfl⟩⟩:=CD r;refine min_two_ints (I.ok.hd hc) λh' tk k=>⟨_,H,I.kept k,?_,q⟩;by_cases hj:j<i;rw[Xe hj,Xe hj];exact⟨_,rfl⟩;rw[Xd hj,Xd hj];exact⟨_,rfl⟩
theorem ua:eU X (.type "int") (λxs H Q=>(∃i,xs=[.int i]/\Q (.int i) H)\/∃k,xs=[.bl k]/\Q (.int (if k then 1 else 0)) H):=by
 intro a_ s σ H xs us Q I r h;rcases h with⟨i,rfl,q⟩|⟨k,rfl,q⟩;let⟨u,rfl,t,rfl⟩:=jv r;exact call_int_int ⟨.int i,H,I,⟨_,rfl⟩,q⟩;let⟨u,rfl,r1⟩:=jv r;cases r1;exact call_int_bool ⟨.int (if k then 1 else 0),H,I.tok _,⟨_,rfl⟩,q⟩
end
structure IW(h:Heap)(x dx C:Addr)(mA:Str->Option Z5):Prop where
 obj:h.get? x=some (PySem.W.instObj C dx)
 ns:h.Ns1 dx mA
 ne:dx≠x
theorem Ak{h:Heap}{dx:Addr}{mA:79}(n:h.Ns1 dx mA):∃od,h.get? dx=some od/\∀name,PySem.W.lookIn name od=some (mA name):=by
 let⟨o,es,ep,ho,hd,hk,_,hm⟩:=n;refine⟨o,ho,λname=>?_⟩;have e:=hm name;unfold nsFind findBy at e;rw[<-Array.find?_toList]at e;unfold PySem.W.lookIn;rw[hd];dsimp only;split;rename_i y q;rw[q]at e;exact congrArg some e;rename_i q;rw[q]at e;have a:es.toList.any (·.refKey)=false:=by
  rw[List.any_eq_false];intro y hy;let⟨z,t,hkey⟩:=hk y (Array.mem_toList_iff.mp hy);simp[DictEntry.refKey,hkey]
 have a':¬es.toList.any (·.refKey)=true:=by rw[a];exact ZF
 rw[Xd a'];exact congrArg some e
theorem IW.look{h:Heap}{x dx C:Addr}{mA:79}(I:IW h x dx C mA):∃od,PySem.W.InstAt h x (PySem.W.instObj C dx) C (some od)/\∀name,PySem.W.lookIn name od=some (mA name):=
 let ⟨od,ho,hl⟩:=Ak I.ns
 ⟨od,⟨I.obj,rfl,rfl,ho⟩,hl⟩
variable{A:Ze}{dx C f:Addr}
section
variable{prog:Zq}{K:Z3}{mA:Str->Option Z5}{name:Str}{v:Z5}
theorem Im{expr:Bool}{Q:Z5->Z6->Prop}(X:K.In s.heap)(I:IW s.heap x dx C mA)(hg:PySem.W.plainGet K C name=true)(hh:PySem.W.hasDictIn K C=true)
  (ha:PySem.W.findIn K (.ref C) name=some none) (hv:mA name=some v) (hv':PySem.W.handedIn v=true) (h:Q v { s with toks:=s.toks+1 }) :
  wpAny 69 A (getAttr (.ref x) name expr) Q E s:=by
 let⟨od,J,hl⟩:=I.look;exact PySem.W.get_value X J (PySem.W.plainGet_of hg).1 (PySem.W.findObj_own hh ha rfl (by rw[hl,hv])) hv' h
theorem DW{pl:Sem Bool}{Q:Z5×List Z5->Z6->Prop}(X:K.In s.heap)(I:IW s.heap x dx C mA)(hg:PySem.W.plainGet K C name=true)
  (hf:PySem.W.findIn K (.ref C) name=some (some (.ref f))) (ht:PySem.W.isFn K (.ref f)=true) (hv:mA name=none) (h:Q (.ref f,[.ref x]) s) :
  wpAny 69 A (getMethod (.ref x) name pl) Q E s:=by
 let⟨od,J,hl⟩:=I.look;exact PySem.W.method_fn X J (PySem.W.plainGet_of hg).1 (PySem.W.plainGet_of hg).2 hf (beq_iff_eq.mp ht) (by show(PySem.W.lookIn name od).map (·.isSome)=some false;rw[hl,hv];rfl) h
theorem GI{ns:List Str}{Q:Unit->Z6->Prop}(X:K.In s.heap)(I:IW s.heap x dx C mA)
  (hs:PySem.W.findIn K (.ref C) "__setattr__"=some (some (.builtin "object.__setattr__"))) (hp:PySem.W.plainOver K C=true) (ht:PySem.W.takerIn K C name=some none) (hh:PySem.W.hasDictIn K C=true)
  (hw:PySem.Within mA ns) (hsz:ns.length<=ZC)
  (h:∀h',IW h' x dx C (λy=>if y=name then some v else mA y)->XC dx s.heap h'->Q () { s with heap:=h',toks:=s.toks+2 }) :
  wpAny 69 A (setAttr (.ref x) name v) Q E s:=by
 let⟨od,J,hl⟩:=I.look;refine PySem.W.set_plain X J hs (PySem.W.osa_open (s:={ s with toks:=s.toks+1 }) (r:=none) X J hp ht λb=>?_);let⟨cd,hc,hd'⟩:=PySem.W.any_some hh;have hx:s.heap.get? x=some ⟨.ref C,some dx,.plain,#[]⟩:=I.obj;refine Z2 (Z8 (Z2 (Z2 (wpAny_loadPart hx (Z2 (PySem.W.Looks.here (s:={ s with toks:=s.toks+1 }) (PySem.W.looks_clsIn X hc) ?_))))));rw[hd'];refine Z8 (a:=some dx) (Z2 (Z8 (Z2 ?_)));refine wpAny_nsSet1 (s:={ s with toks:=s.toks+1 }) I.ns λh' hn2 hs2=>?_;let⟨oD,esD,epD,hoD,hdD,hcD⟩:=hn2.count (PySem.Within.cons name v hw);refine Z2 (wpAny_lookBehind hoD (by rw[hdD];exact pastItsLine_dict (X2 hcD (by rw[ZM];omega))) ?_);exact Z8 (h _ ⟨(hs2.2 _ (Ne.symm I.ne)).trans I.obj,hn2,I.ne⟩ hs2)
theorem DG{R:Result->Z6->Prop}{vs:List Z5}{kw:List (Str×Z5)}(X:K.In s.heap)(hm:PySem.W.makesIn K C=true)
  (hi:PySem.W.findIn K (.ref C) "__init__"=some (some (.ref f))) (hf:PySem.W.typeIn K (.ref f)=some (.type "function"))
  (h:codeAny 69 (A.under (.builtin "type.__call__" ⟨.ref C::vs,kw⟩)) (.call (.ref f) ⟨.ref (s.heap.objs.size+1)::vs,kw⟩) (PySem.W.InitBack (s.heap.objs.size+1) R)
   { s with heap:=(s.heap.push PySem.W.emptyDict).push (PySem.W.instObj C s.heap.objs.size) }) :
  codeAny 69 A (.call (.ref C) ⟨vs,kw⟩) R s:=by
 let⟨hh,g,d,t,os⟩:=s;exact PySem.W.make_core (PySem.W.makes_of X hm) (PySem.W.looks_findIn X hi) (λself=>PySem.W.bind_fn X self hf) (.inl rfl) h
end
def o5(f:Str)(v:V):List (Str×V)->List (Str×V)
 |[]=>[(f,v)]
 |(g,x)::r=>if g=f then(g,v)::r else(g,x)::o5 f v r
theorem jI(f g:Str)(v:V):∀fs:List (Str×V),(o5 f v fs).lookup g=if g=f then some v else fs.lookup g
 |[]=>by
  show List.lookup g [(f,v)]=_;by_cases h:g=f;have hb:(g == f)=true:=beq_iff_eq.mpr h;simp only[List.lookup,hb,Xe h];have hb:(g == f)=false:=beq_eq_false_iff_ne.mpr h;simp only[List.lookup,hb,Xd h]
 |(k,x)::r=>by
  have ih:=jI f g v r;rw[show o5 f v ((k,x)::r)=(if k=f then(k,v)::r else(k,x)::o5 f v r)from rfl];by_cases hk:k=f
  ·rw[Xe hk];by_cases h:g=k;have hb:(g == k)=true:=beq_iff_eq.mpr h;simp only[List.lookup,hb,Xe (h.trans hk)];have hb:(g == k)=false:=beq_eq_false_iff_ne.mpr h;simp only[List.lookup,hb,Xd (λe:g=f=>h (e.trans hk.symm))]
  ·rw[Xd hk];by_cases h:g=k;have hb:(g == k)=true:=beq_iff_eq.mpr h;simp only[List.lookup,hb,Xd (λe:g=f=>hk (h.symm.trans e))];have hb:(g == k)=false:=beq_eq_false_iff_ne.mpr h;simp only[List.lookup,hb];exact ih
theorem fD(f:Str)(v:V):∀fs:List (Str×V),f∈(o5 f v fs).map (·.1)/\∀g,g∈fs.map (·.1)->g∈(o5 f v fs).map (·.1)
 |[]=>⟨by simp[o5],λg h=>by simp at h⟩
 |(k,x)::r=>by
  let⟨i1,i2⟩:=fD f v r;rw[show o5 f v ((k,x)::r)=(if k=f then(k,v)::r else(k,x)::o5 f v r)from rfl];by_cases hk:k=f
  ·rw[Xe hk];subst hk;exact⟨by simp,λg h=>by simpa using h⟩
  ·rw[Xd hk];refine⟨?_,λg h=>?_⟩;rw[ZR];exact ZY _ i1;rw[ZR]at h ⊢;rcases ZT.mp h with e|e;exact ZT.mpr (.inl e);exact ZY _ (i2 g e)
theorem n9(f:Str)(v:V):∀fs:List (Str×V),(o5 f v fs).length<=fs.length+1
 |[]=>by simp[o5]
 |(k,x)::r=>by
  have ih:=n9 f v r;rw[show o5 f v ((k,x)::r)=(if k=f then(k,v)::r else(k,x)::o5 f v r)from rfl];by_cases hk:k=f
  ·rw[Xe hk,ZM,ZM];omega
  ·rw[Xd hk,ZM,ZM];omega
theorem rS.some_of{v:V}{o:Option Z5}(r:rS (some v) o):∃u,o=some u/\cP v u:=by
 cases o with
 |none=>exact(show False from r).elim
 |some u=>exact⟨u,rfl,r⟩
theorem rS.none_of{o:Option Z5}(r:rS none o):o=none:=by
 cases o with
 |none=>rfl
 |some u=>exact(show False from r).elim
theorem AN{v:V}{u:Z5}(r:cP v u):PySem.W.handedIn u=true:=by
 cases v with
 |non=>cases (show u=Value.none from r);rfl
 |bl b=>cases (show u=Value.bool b from r);rfl
 |int i=>let⟨t,e⟩:=(show ∃t,u=Value.int i t from r);cases e;rfl
 |str x=>let⟨t,e⟩:=(show ∃t,u=Value.str x t from r);cases e;rfl
 |byt b=>let⟨t,e⟩:=(show ∃t,u=Value.bytes b t from r);cases e;rfl
 |flt b=>let⟨t,e⟩:=(show ∃t,u=Value.float b t from r);cases e;rfl
 |ref a=>cases (show u=Value.ref a from r);rfl
 |ty n=>cases (show u=Value.type n from r);rfl
section
variable{fs:List (Str×V)}
theorem qX(hok:HOk P w H h)(e:H a=some (.ins C dx fs)):∃mA,IW h a dx C mA/\(∀f,rS (fs.lookup f) (mA f))/\PySem.Within mA (fs.map (·.1))/\fs.length<=1000/\H dx=some (.own a):=by
 let⟨d,z,ne,ob,mA,n,r,q⟩:=(show bU P w H h a (.ins C dx fs)from hok a _ e);exact⟨mA,⟨ob,n,ne⟩,r,q,z,d⟩
end
structure Cls(K:Z3)(C:Addr):Prop where
 pg:PySem.W.plainGet K C Str.empty=true
 hd:PySem.W.hasDictIn K C=true
 po:PySem.W.plainOver K C=true
 sa:PySem.W.findIn K (.ref C) "__setattr__"=some (some (.builtin "object.__setattr__"))
def Cls.get{K:Z3}{C:Addr}(c:Cls K C)(f:Str):PySem.W.plainGet K C f=true:=c.pg
def ju(K:Z3)(C:Addr)(f:Str):Prop:=PySem.W.findIn K (.ref C) f=some none
theorem ju.taker{K:Z3}{C:Addr}{f:Str}(n:ju K C f):PySem.W.takerIn K C f=some none:=by
 unfold PySem.W.takerIn;rw[show PySem.W.findIn K (.ref C) f=some none from n];rfl
structure IY(K:Z3)(C:Addr)(m:Str)(f:Addr):Prop where
 at_:PySem.W.findIn K (.ref C) m=some (some (.ref f))
 fn:PySem.W.isFn K (.ref f)=true
 kp:PySem.W.keepIn K (.ref f)=true
section
variable{fs:List (Str×V)}{f:Str}{v:V}
theorem yf{b:Bool}{Q:Z5->Z6->Prop}(I:47)(e:H a=some (.ins C dx fs))(c:Cls X.K C)(n:ju X.K C f)(l:fs.lookup f=some v)
  (h:∀u s',Inv X a_ σ H s'->cP v u->Q u s'):wpAny 49 A (getAttr (.ref a) f b) Q E s:=by
 let⟨mA,O,r,_,_,_⟩:=qX I.hok e;let⟨u,hu,ru⟩:=rS.some_of (v:=v) (o:=mA f) (by rw[<-l];exact r f);exact Im I.kIn O (c.get f) c.hd n hu (AN ru) (h u _ (I.tok _) ru)
theorem pL{m:Str}{g:Addr}{pl:Sem Bool}{Q:Z5×List Z5->Z6->Prop}(I:47)(e:H a=some (.ins C dx fs))(c:Cls X.K C)(k:IY X.K C m g)(l:fs.lookup m=none)
  (h:Q (.ref g,[.ref a]) s):wpAny 49 A (getMethod (.ref a) m pl) Q E s:=by
 let⟨mA,O,r,_,_,_⟩:=qX I.hok e;have hn:mA m=none:=rS.none_of (by rw[<-l];exact r m);exact DW I.kIn O (c.get m) k.at_ k.fn hn h
theorem xK{y:V}{u:Z5}{Q:Unit->Z6->Prop}(I:47)(e:H a=some (.ins C dx fs))(c:Cls X.K C)(n:ju X.K C f)(hl:fs.length<1000)(ry:cP y u)
  (h:∀s',Inv X a_ σ (upd H a (.ins C dx (o5 f y fs))) s'->Q () s'):wpAny 49 A (setAttr (.ref a) f u) Q E s:=by
 let⟨mA,O,r,wi,_,ho⟩:=qX I.hok e;have hz:(fs.map (·.1)).length<=ZC:=by rw[ZQ,sizeLine_eq];omega
 refine GI I.kIn O c.sa c.po n.taker c.hd wi hz λh' O' sb=>h _ ?_;have hd:∃o,h'.get? dx=some o:=let ⟨o,_,_,e',_⟩:=O'.ns;⟨o,e'⟩
 refine I.write (x:=a) (e:=dx) (by rw[e];exact True.intro) (.inr ho) (λb q hb z=>(sb.2 b hb).trans z) hd ?_;refine⟨by rw[aD O.ne];exact ho,?_,O.ne,O'.obj,_,O'.ns,λg=>?_,λg hg=>?_⟩;have:=n9 f y fs;omega;show rS ((o5 f y fs).lookup g) (if g=f then some u else mA g);rw[jI];by_cases q:g=f;rw[Xe q,Xe q];exact ry;rw[Xd q,Xd q];exact r g;by_cases q:g=f;rw[q];exact(fD f y fs).1;refine(fD f y fs).2 g (wi g λz=>hg ?_);show(if g=f then some u else mA g)=none;rw[Xd q];exact z
theorem Inv.made(I:47):Inv X a_ σ (upd (upd H s.heap.objs.size (.own (s.heap.objs.size+1))) (s.heap.objs.size+1) (.ins C s.heap.objs.size []))
  { s with heap:=(s.heap.push PySem.W.emptyDict).push (PySem.W.instObj C s.heap.objs.size) }:=by
 have e1:(s.heap.push PySem.W.emptyDict).get? s.heap.objs.size=some PySem.W.emptyDict:=ZG s.heap rfl;have e2:((s.heap.push PySem.W.emptyDict).push (PySem.W.instObj C s.heap.objs.size)).get? (s.heap.objs.size+1)=some (PySem.W.instObj C s.heap.objs.size):=by
  have:=ZG (s.heap.push PySem.W.emptyDict) (o:=PySem.W.instObj C s.heap.objs.size) rfl;rwa[Xw]at this
 have e3:(s.heap.push PySem.W.emptyDict).Ns s.heap.objs.size (λ_=>none):=⟨PySem.W.emptyDict,#[],_,e1,rfl,(λe he=>absurd he 51),λ_=>rfl⟩;have I1:=I.laid (a:=s.heap.objs.size) (o:=.own (s.heap.objs.size+1)) (h':=s.heap.push PySem.W.emptyDict) (t':=s.toks) (λb u q=>Z7 _ q) (ZW _) ⟨_,e1⟩;refine I1.laid (a:=s.heap.objs.size+1) (o:=.ins C s.heap.objs.size []) (t':=s.toks) (λb u q=>Z7 _ q) (Nat.le_of_eq (Xw _ _)) ?_;have ne:s.heap.objs.size≠s.heap.objs.size+1:=ZL (Nat.lt_succ_self _);refine⟨by rw[aD ne,ax],X5 _,ne,e2,λ_=>none,(Heap.Ns1.of_empty e3).at λo q=>Z7 _ q,λ_=>True.intro,λy hy=>absurd rfl hy⟩
theorem IP{prog:Zq}{w:Zr}{env:Env}{e:ZN}{f:Str}{pos:Pos}{s:Z6}{Q:Z5->Z6->Prop}(hb:attributeBase e f env (eval e env)=eval e env)
  (h:wpAny 69 A (eval e env) (λo s₁=>wpAny 69 A (getAttr o f true) Q E s₁) E s):wpAny 69 A (eval (.Attribute e f pos) env) Q E s:=
 Attribute_any_ h (by rw[arm_eval_Attribute,hb])
end
def Qv(K:Z3)(ta:TE)(f:Str):TE:=λσ H Q=>ta σ H λx H1=>∃a C dx fs v,x=.ref a/\H1 a=some (.ins C dx fs)/\Cls K C/\ju K C f/\fs.lookup f=some v/\Q v H1
def Qx(K:Z3)(ta tv:TE)(f:Str):TS:=λD σ H=>tv σ H λy H1=>ta σ H1 λx H2=>∃a C dx fs,x=.ref a/\H2 a=some (.ins C dx fs)/\Cls K C/\ju K C f/\fs.length<1000/\
 D.nx σ (upd H2 a (.ins C dx (o5 f y fs)))
section
variable{o e value:ZN}{f:Str}{g_:Pos}{tv:TE}
theorem Lh(he:PE X e ta)(hb:attributeBase e f X.env (eval e X.env)=eval e X.env):PE X (.Attribute e f pos) (Qv X.K ta f):=by
 intro a_ s σ H Q I h;refine IP hb (thn (he a_ s σ H _ I h) λu s1 hz=>?_);let⟨x,H1,I1,rx,a,C,dx,fs,v,ex,ea,c,n,l,q⟩:=hz;subst ex;obtain rfl:u=Value.ref a:=rx;exact yf I1 ea c n l λu' s2 I2 ru=>⟨v,H1,I2,ru,q⟩
theorem K2(ha:PE X o ta)(hv:PE X value tv)(hs:XE value (some (.Attribute o f g_)) pos.line X.env=pure false):PS X (.Assign [.Attribute o f g_] value pos) (Qx X.K ta tv f):=by
 intro a_ s σ H D I h;refine plainObj_wpAny_Assign_Attribute (thn (hv a_ s σ H _ I h) λu s1 ⟨y,H1,I1,ry,q⟩=>thn (ha a_ s1 σ H1 _ I1 q) λov s2 hz=>?_) hs;let⟨x,H2,I2,rx,a,C,dx,fs,ex,ea,c,n,l,q2⟩:=hz;subst ex;obtain rfl:ov=Value.ref a:=rx;exact xK I2 ea c n l ry λs3 I3=>⟨σ,_,I3,q2⟩
end
section
variable{Q:Z5->Z6->Prop}{c:Z5}{b:Bool}
inductive xk(K:Z3)(H:Hp):V->Z5->Prop where
 |non:xk K H .non (.type "NoneType")
 |bl (x:Bool):xk K H (.bl x) (.type "bool")
 |int (i:Int):xk K H (.int i) (.type "int")
 |str (x:Str):xk K H (.str x) (.type "str")
 |flt (x:UInt64):xk K H (.flt x) (.type "float")
 |lst {a:Addr} {xs:List V} (e:H a=some (.lst xs)):xk K H (.ref a) (.type "list")
 |frz {a:Addr} {o:Obj} {xs:List V} (e:H a=some (.frz o (.lst xs))):xk K H (.ref a) (.type "list")
 |tup {a:Addr} {xs:List V} (e:H a=some (.tup xs)):xk K H (.ref a) (.type "tuple")
 |dK {a:Addr} {kvs:List (Key×V)} (e:H a=some (.dK kvs)):xk K H (.ref a) (.type "dict")
 |dT {a:Addr} {kvs:List (List Key×V)} (e:H a=some (.dT kvs)):xk K H (.ref a) (.type "dict")
 | ins {a C dx:Addr} {fs:List (Str×V)} (e:H a=some (.ins C dx fs)) (cl:Cls K C) (ha:PySem.W.findIn K (.ref C) "__class__"=some (some (.builtin "object.__class__")))
   (hn:PySem.W.specialIn K (.builtin "object.__class__") "__get__"=some (some (.builtin "getset_descriptor.__get__"))) (htk:PySem.W.takesIn K (.builtin "object.__class__")=some true)
   (hm:PySem.W.mroIn K C (.type "object")=some true):xk K H (.ref a) (.ref C)
theorem AD{x:V}{u t:Z5}(I:47)(rx:cP x u)(ty:xk X.K H x t)(e:PySem.W.kitOne X.K t c=some b)(h:∀tk,Q (.bool b) { s with toks:=tk }) :
  wpAny 49 A (call (.builtin "isinstance") [u,c]) Q E s:=by
 cases ty with
 |non=>cases (show u=Value.none from rx);exact PySem.W.kia_one PySem.W.kitx_none I.kIn True.intro e (λz=>nomatch z) h
 |bl y=>cases (show u=Value.bool y from rx);exact PySem.W.kia_one PySem.W.kitx_bool I.kIn True.intro e (λz=>nomatch z) h
 |int i=>let⟨t,q⟩:=(show ∃t,u=Value.int i t from rx);cases q;exact PySem.W.kia_one PySem.W.kitx_int I.kIn True.intro e (λz=>nomatch z) h
 |str y=>let⟨t,q⟩:=(show ∃t,u=Value.str y t from rx);cases q;exact PySem.W.kia_one PySem.W.kitx_str I.kIn True.intro e (λz=>nomatch z) h
 |flt y=>let⟨t,q⟩:=(show ∃t,u=Value.float y t from rx);cases q;exact PySem.W.kia_one PySem.W.kitx_float I.kIn True.intro e (λz=>nomatch z) h
 |@lst a xs ea=>
  cases (show u=Value.ref a from rx);let⟨_,_,n,_,h1⟩:=(show bU X.prog X.w H s.heap a (.lst xs)from I.hok a _ ea);exact PySem.W.kia_one PySem.W.kitx_list I.kIn ⟨_,h1,rfl⟩ e (λz=>nomatch z) h
 |@frz a ob xs ea=>
  cases (show u=Value.ref a from rx);let⟨_,_,_,n,_,h1⟩:=(show bU X.prog X.w H s.heap a (.frz ob (.lst xs))from I.hok a _ ea);exact PySem.W.kia_one PySem.W.kitx_list I.kIn ⟨_,h1,rfl⟩ e (λz=>nomatch z) h
 |@tup a xs ea=>
  cases (show u=Value.ref a from rx);let⟨_,_,_,p⟩:=(show bU X.prog X.w H s.heap a (.tup xs)from I.hok a _ ea);let⟨o,h1,h2,_⟩:=p;exact PySem.W.kia_one PySem.W.kitx_tuple I.kIn ⟨o,h1,h2.1⟩ e (λz=>nomatch z) h
 |@dK a kvs ea=>
  cases (show u=Value.ref a from rx);let⟨_,_,vs,_,p⟩:=(show bU X.prog X.w H s.heap a (.dK kvs)from I.hok a _ ea);let⟨o,es,ep,h1,h2,_⟩:=p;exact PySem.W.kia_one PySem.W.kitx_dict I.kIn ⟨o,h1,h2.1⟩ e (λz=>nomatch z) h
 |@dT a kvs ea=>
  cases (show u=Value.ref a from rx);let⟨_,_,xs,_,o,es,ep,h1,h2,_⟩:=(show bU X.prog X.w H s.heap a (.dT kvs)from I.hok a _ ea);exact PySem.W.kia_one PySem.W.kitx_dict I.kIn ⟨o,h1,h2.1⟩ e (λz=>nomatch z) h
 |@ins a C dx fs ea cl ha hn htk hm=>
  cases (show u=Value.ref a from rx);let⟨mA,O,_⟩:=qX I.hok ea;let⟨od,J,_⟩:=O.look;exact PySem.W.kia_one (PySem.W.kitx_own (cl.get _) cl.hd ha hn htk hm) I.kIn J e (λz=>nomatch z) h
end
structure eQ(k:Nat)(A:Ze):Prop where
 hd:A.handled=none
 dp:A.depth+3*k+5<recursionLimit
 un:A.units+16*k+200<cLine
 gd:A.guards=some []
def eQ.mono{j k:Nat}{A:Ze}(r:eQ k A)(h:j<=k):eQ j A:=⟨r.hd,by have:=r.dp;omega,by have:=r.un;omega,r.gd⟩
theorem eQ.deeper{k:Nat}{A:Ze}(r:eQ (k+1) A)(env:Env):eQ k (A.deeper env):=
 ⟨r.hd,by have:=r.dp;show A.depth+1+3*k+5<_;omega,by have:=r.un;show A.units+3+16*k+200<_;omega,r.gd⟩
theorem xV{A:Ze}{C:Addr}{us:List Z5}{kw:List (Str×Z5)}:(A.under (.builtin "type.__call__" ⟨.ref C::us,kw⟩)).depth=A.depth+1:=by
 first|rfl|simp[Around.under,Code.weight,Code.isCreation,Code.isGuard,Code.isCaller,Code.frames,Code.isFrame,guardIds]
theorem xU{A:Ze}{C:Addr}{us:List Z5}{kw:List (Str×Z5)}:(A.under (.builtin "type.__call__" ⟨.ref C::us,kw⟩)).units=A.units+1:=by
 first|rfl|simp[Around.under,Code.cUnits,Code.frames,Code.isFrame]
theorem eQ.make{k:Nat}{A:Ze}(r:eQ (k+1) A)(C:Addr)(us:List Z5)(kw:List (Str×Z5)):eQ k (A.under (.builtin "type.__call__" ⟨.ref C::us,kw⟩)):=
 ⟨r.hd,by have:=r.dp;rw[xV];omega,by have:=r.un;rw[xU];omega,r.gd⟩
def eQ.depth{k:Nat}{A:Ze}(r:eQ k A):A.depth<recursionLimit:=by have:=r.dp;omega
def eQ.units{k:Nat}{A:Ze}(r:eQ k A):A.units+64<cLine:=by have:=r.un;omega
def MY:TA:=λ_ H Q=>Q [] H
def Kl(ta:TE)(tr:TA):TA:=λσ H Q=>ta σ H λx H1=>tr σ H1 λxs H2=>Q (x::xs) H2
variable{es:List ZN}{t:TA}
section
variable{e:ZN}
def zX:PA X [] MY:=λ_ _ _ _ H Q I h=>Calls.spliced_nil ⟨[],H,I,.nil,h⟩
theorem qH(ha:PE X e te)(hr:PA X es t)(hs:ZU (e::es) X.env=(false,eval e X.env)::ZU es X.env:=by rfl):PA X (e::es) (Kl te t):=by
 intro pos a_ s σ H Q I h;rw[hs];show wpAny _ _ (spliced ((false,eval e X.env)::X8 pos (ZU es X.env))) _ _ s;refine Calls.spliced_cons (thn (ha a_ s σ H _ I h) λu s1 hz=>?_);let⟨x,H1,I1,r1,q1⟩:=hz;exact thn (hr pos a_ s1 σ H1 _ I1 q1) λus s2 ⟨xs,H2,I2,r2,q2⟩=>⟨x::xs,H2,I2,.cons r1 r2,q2⟩
def Qn(t:TA):TE:=λσ H Q=>t σ H λxs H1=>xs.length<=ZC/\∀p,H1 p=none->Q (.ref p) (upd H1 p (.tup xs))
def Qs(t:TA):TE:=λσ H Q=>t σ H λxs H1=>xs.length<=ZC/\∀p,H1 p=none->Q (.ref p) (upd H1 p (.lst xs))
theorem K9{x1}(h:PA X es t):PE X (.Tuple es x1 pos) (Qn t):=by
 intro a_ s σ H Q I hq;refine wpAny_Tuple_spliced (thn (h pos a_ s σ H _ I hq) λus s1 ⟨xs,H1,I1,r,z,q⟩=>⟨by rw[<-r.length];exact z,?_⟩);have hf:H1 s1.heap.objs.size=none:=I1.hok.fresh (ZW _);refine⟨.ref s1.heap.objs.size,upd H1 s1.heap.objs.size (.tup xs),I1.laid (t':=s1.toks) (λb u e=>Z7 _ e) (ZW _) ?_,rfl,q _ hf⟩;exact⟨z,us,r,⟨_,ZG _ rfl,⟨rfl,rfl⟩,_,rfl⟩⟩
theorem Le(h:PA X es t):PE X (.List es pos) (Qs t):=by
 intro a_ s σ H Q I hq;refine wpAny_List_spliced (thn (h pos a_ s σ H _ I hq) λus s1 ⟨xs,H1,I1,r,z,q⟩=>⟨by rw[<-r.length];exact z,?_⟩);have hf:H1 s1.heap.objs.size=none:=I1.hok.fresh (ZW _);refine⟨.ref s1.heap.objs.size,upd H1 s1.heap.objs.size (.lst xs),I1.laid (t':=s1.toks) (λb u e=>Z7 _ e) (ZW _) ?_,rfl,q _ hf⟩;exact⟨z,us,0,r,ZG _ rfl⟩
end
abbrev Sp:=List V->Hp->VK->XK->Prop
abbrev CXT:=List Env->Hp->Z6->XK->Z5->Z6->Prop
structure BX(P:Zq)(w:Zr)(K:Z3)(mg:Str->Option Z5)(base:Heap)(A:Ze)(outer:List Env)(s:Z6)(H:Hp):Prop where
 frames:A.frames=some outer
 mod:Mod K mg base
 bs:∀b o,base.get? b=some o->s.heap.get? b=some o/\H b=none
 bsz:base.objs.size<=s.heap.objs.size
 funs:s.heap.FunFrames base outer
 frf:∀b∈frs outer,H b=none
 hok:HOk P w H s.heap
 bare:AllBare s.gens
def CE(outer:List Env)(P:Zq)(w:Zr)(H:Hp)(s:Z6)(Q:VK)(u:Z5)(s':Z6):Prop:=
 ∃v H',s'.os=s.os/\AllBare s'.gens/\Un (frs outer) [] H H' s.heap s'.heap/\HOk P w H' s'.heap/\cP v u/\Q v H'
def CR(CX:CXT)(outer:List Env)(P:Zq)(w:Zr)(H:Hp)(s:Z6)(Q:VK)(E:XK)(r:Result)(s':Z6):Prop:=
 match r with
 |.ok (.ret u)=>CE outer P w H s Q u s'
 |.ok _=>False
 |.error e=>CX outer H s E e s'
structure kX(P:Zq)(w:Zr)(K:Z3)(mg:Str->Option Z5)(base:Heap)(CX:CXT)(k:Nat)(f:Addr)(fd:XF)(ps:List Str)(sp:Sp):Prop where
 len:∀vs H Q E,sp vs H Q E->vs.length=ps.length
 run:∀(A:Ze) (outer:List Env) (s:Z6) (H:Hp) (args:Args) (us:List Z5) (vs:List V) (Q:VK) (E:XK),eQ k A->BX P w K mg base A outer s H->BindsTo s fd args (ps.zip us)->bS vs us->sp vs H Q E->
  codeAny (ZS P w) A (.call (.ref f) args) (CR CX outer P w H s Q E) s
theorem kX.mono{P:Zq}{w:Zr}{K:Z3}{mg:79}{base:Heap}{CX:CXT}{j k:Nat}{f:Addr}{fd:XF}{ps:List Str}{sp:Sp}(F:kX P w K mg base CX j f fd ps sp)(h:j<=k) :
  kX P w K mg base CX k f fd ps sp:=⟨F.len,λA outer s H args us vs Q E hr=>F.run A outer s H args us vs Q E (hr.mono h)⟩
theorem kX.imp{P:Zq}{w:Zr}{K:Z3}{mg:79}{base:Heap}{CX:CXT}{k:Nat}{f:Addr}{fd:XF}{ps:List Str}{sp sp':Sp}(F:kX P w K mg base CX k f fd ps sp)
  (h:∀vs H Q E,sp' vs H Q E->sp vs H Q E):kX P w K mg base CX k f fd ps sp':=
 ⟨λvs H Q E q=>F.len vs H Q E (h _ _ _ _ q),λA outer s H args us vs Q E hr he hb hv hs=>F.run A outer s H args us vs Q E hr he hb hv (h _ _ _ _ hs)⟩
theorem BX.make{P:Zq}{w:Zr}{K:Z3}{mg:79}{base:Heap}{A:Ze}{outer:List Env}{s:Z6}{H:Hp}(e:BX P w K mg base A outer s H)(C:Addr)(us:List Z5)(kw:List (Str×Z5)) :
  BX P w K mg base (A.under (.builtin "type.__call__" ⟨.ref C::us,kw⟩)) outer s H:=⟨by first|exact e.frames|(simpa [Around.under,Code.envs,Code.isFrame,pushEnvs] using e.frames),e.mod,e.bs,e.bsz,e.funs,e.frf,e.hok,e.bare⟩
section
variable{s':Z6}
theorem Inv.env0(I:47):BX X.prog X.w X.K X.mg X.base X.A X.stack s H:=
 ⟨I.ok.frames,I.ok.mod,I.bs,X2 I.ok.bsz I.sz,I.stack,I.stkFree,I.hok,I.bare⟩
theorem Inv.after{Q:VK}{u:Z5}(I:47)(h:CE X.stack X.prog X.w H s Q u s'):EP X a_ σ Q u s':=by
 let⟨v,H',os,bare,un,hok,r,q⟩:=h;let⟨hh,g,d,t,os'⟩:=s';obtain rfl:os'=s.os:=os;exact⟨v,H',I.call (h':=hh) (g':=g) (d':=d) (t':=t) (ch:=[]) un hok bare (λb z=>absurd z 51),r,q⟩
end
def Km(sp:Sp)(dvs:List V)(E:XK)(t:TA):TE:=λσ H Q=>t σ H λvs H1=>sp (vs++dvs) H1 Q E
def zf(C:Addr)(m:Str)(sp:Sp)(dvs:List V)(E:XK)(ta:TE)(t:TA):TE:=λσ H Q=>ta σ H λx H1=>∃a dx fs,x=.ref a/\H1 a=some (.ins C dx fs)/\fs.lookup m=none/\
 t σ H1 λvs H2=>sp (x::(vs++dvs)) H2 Q E
def Gs(C:Addr)(sp:Sp)(dvs:List V)(E:XK)(t:TA):TE:=λσ H Q=>t σ H λvs H1=>∀x dx,H1 x=none->H1 dx=none->dx≠x->
 sp (.ref x::(vs++dvs)) (upd (upd H1 dx (.own x)) x (.ins C dx [])) (λv H2=>v=.non/\Q (.ref x) H2) E
def ig(K:Z3)(fd:XF)(ps:List Str)(ds:List Z5):Prop:=
 ∀(s:Z6) (us:List Z5),K.In s.heap->(us++ds).length=ps.length->BindsTo s fd ⟨us,[]⟩ (ps.zip (us++ds))
theorem ig.all{K:Z3}{fd:XF}{ps:List Str}(h:∀us:List Z5,us.length=ps.length->bindArgs fd ⟨us,[]⟩=pure (ps.zip us)):ig K fd ps []:=λs us _ hl=>by
 rw[Zj]at hl ⊢;exact .of_eq (h us hl)
def jr(CX:CXT)(X:Cx)(E:XK):Prop:=∀(a_:57) (σ:St) (H:Hp) (s:Z6) (e:Z5) (s':Z6),Inv X a_ σ H s->CX X.stack H s E e s'->X.xe e s'
variable{p:Pos}
section
variable{CX:CXT}{k:Nat}{fd:XF}{ps:List Str}{sp:Sp}{dvs:List V}{ds:List Z5}{E:XK}{x m:Str}{l_:Pos}{e o:ZN}
theorem zx{a_:57}{σ:St}{H:Hp}{s:Z6}{Q:VK}{us:List Z5}{vs:List V}(F:kX X.prog X.w X.K X.mg X.base CX k f fd ps sp)(hr:eQ k X.A)(hb:ig X.K fd ps ds)(hd:bS dvs ds)(hx:jr CX X E)
  (I:47) (r:bS vs us) (h:sp (vs++dvs) H Q E):wpAny 49 X.A (call (.ref f) us) (EP X a_ σ Q) X.xe s:=by
 have r2:bS (vs++dvs) (us++ds):=r.append hd;have hl:(us++ds).length=ps.length:=by rw[<-r2.length];exact F.len _ _ _ _ h
 refine wpAny_call (codeAny_mono (F.run X.A X.stack s H ⟨us,[]⟩ (us++ds) (vs++dvs) Q E hr I.env0 (hb s us I.kIn hl) r2 h) λr s' hq=>?_);cases r with
 |error e=>exact hx a_ σ H s e s' I hq
 |ok fl=>
  cases fl with
  |ret u=>exact I.after hq
  |next=>exact False.elim hq
  |brk=>exact False.elim hq
  |cont=>exact False.elim hq
theorem Hm(F:kX X.prog X.w X.K X.mg X.base CX k f fd ps sp)(hr:eQ k X.A)(hg:Gl X x)(hm:X.mg x=some (.ref f))(hk:PySem.W.keepIn X.K (.ref f)=true)(hb:ig X.K fd ps ds)(hd:bS dvs ds)(hx:jr CX X E)
  (ha:PA X (e::es) t) (hdb:(x == ("__debug__":Str))=false:=by decide) (he:ZU (e::es) X.env=(false,eval e X.env)::ZU es X.env:=by rfl) (hpl:(X8 pos (ZU es X.env)).any (·.1)=false:=by rfl) :
  PE X 77 (Km sp dvs E t):=by
 intro a_ s σ H Q I h;refine wpAny_Call_Name_kw (uU I hg hm ?_ hdb);refine PySem.W.callWith_K (h₀:=X.base) I.ok.mod.kin hk (thn (ha pos a_ s σ H _ I h) λus s1 ⟨vs,H1,I1,r,q⟩=>⟨I1.kIn,?_⟩) he hpl;exact zx F hr hb hd hx I1 r q
theorem Hh{pl:Sem Bool}(he:PE X o ta)(c:Cls X.K C)(hm:IY X.K C m f)(F:kX X.prog X.w X.K X.mg X.base CX k f fd ps sp)(hr:eQ k X.A)(hb:ig X.K fd ps ds)(hd:bS dvs ds)(hx:jr CX X E)(ha:PA X (e::es) t)
  (hst:ZU (e::es) X.env=(false,eval e X.env)::ZU es X.env:=by rfl) (hpl:(X8 pos (ZU es X.env)).any (·.1)=false:=by rfl)
  (ht:eval (.Call (.Attribute o m l_) (e::es) [] pos) X.env=(do
   let ov <-eval o X.env
   standAt l_.atName
   let (f,first) <-holding [ov] (getMethod ov m pl)
   callWith pos f first (X8 pos (ZU (e::es) X.env)) (backToKw pos (keywordEach [] X.env))):=by rfl) :
  PE X (.Call (.Attribute o m l_) (e::es) [] pos) (zf C m sp dvs E ta t):=by
 intro a_ s σ H Q I h;refine PySem.W.methodCall_KW (pl:=pl) (thn (he a_ s σ H _ I h) λu s1 hz=>?_) ht;let⟨x,H1,I1,rx,a,dx,fs,ex,ea,l,q⟩:=hz;subst ex;obtain rfl:u=Value.ref a:=rx;refine pL I1 ea c hm l ?_;refine PySem.W.callWith_K (first:=[.ref a]) (h₀:=X.base) I.ok.mod.kin hm.kp (thn (ha pos a_ s1 σ H1 _ I1 q) λus s2 ⟨vs,H2,I2,r,q2⟩=>⟨I2.kIn,?_⟩) hst hpl;exact zx (us:=.ref a::us) (vs:=.ref a::vs) F hr hb hd hx I2 (.cons rfl r) q2
theorem De{pl:Sem Bool}(he:PE X o ta)(c:Cls X.K C)(hm:IY X.K C m f)(F:kX X.prog X.w X.K X.mg X.base CX k f fd ps sp)(hr:eQ k X.A)(hb:ig X.K fd ps ds)(hd:bS dvs ds)(hx:jr CX X E)
  (ht:eval (.Call (.Attribute o m l_) [] [] pos) X.env=(do
   let ov <-eval o X.env
   standAt l_.atName
   let (f,first) <-holding [ov] (getMethod ov m pl)
   callWith pos f first (X8 pos (ZU [] X.env)) (backToKw pos (keywordEach [] X.env))):=by rfl) :
  PE X (.Call (.Attribute o m l_) [] [] pos) (zf C m sp dvs E ta MY):=by
 intro a_ s σ H Q I h;refine PySem.W.methodCall_KW (pl:=pl) (thn (he a_ s σ H _ I h) λu s1 hz=>?_) ht;let⟨x,H1,I1,rx,a,dx,fs,ex,ea,l,q⟩:=hz;subst ex;obtain rfl:u=Value.ref a:=rx;refine pL I1 ea c hm l ?_;exact PySem.W.callWith_K0 (first:=[.ref a]) I1.kIn hm.kp (zx (us:=[.ref a]) (vs:=[.ref a]) F hr hb hd hx I1 (.cons rfl .nil) q)
structure Mk(K:Z3)(C f:Addr):Prop where
 makes:PySem.W.makesIn K C=true
 init:PySem.W.findIn K (.ref C) "__init__"=some (some (.ref f))
 fn:PySem.W.isFn K (.ref f)=true
 kp:PySem.W.keepIn K (.ref C)=true
theorem CQ{a_:57}{σ:St}{H:Hp}{s:Z6}{Q:VK}{us:List Z5}{vs:List V}(M:Mk X.K C f)(F:kX X.prog X.w X.K X.mg X.base CX k f fd ps sp)(hr:eQ (k+1) X.A)(hb:ig X.K fd ps ds)(hd:bS dvs ds)
  (hx:jr CX X E) (I:47) (r:bS vs us)
  (h:∀x dx,H x=none->H dx=none->dx≠x->sp (.ref x::(vs++dvs)) (upd (upd H dx (.own x)) x (.ins C dx [])) (λv H2=>v=.non/\Q (.ref x) H2) E) :
  wpAny 49 X.A (call (.ref C) us) (EP X a_ σ Q) X.xe s:=by
 have hq:=h (s.heap.objs.size+1) s.heap.objs.size (I.hok.fresh (Xu _)) (I.hok.fresh (ZW _)) (ZL (Nat.lt_succ_self _));have I2:=Inv.made (C:=C) I;have r2:bS (V.ref (s.heap.objs.size+1)::(vs++dvs)) (Value.ref (s.heap.objs.size+1)::(us++ds)):=.cons rfl (r.append hd);have hl:(Value.ref (s.heap.objs.size+1)::us++ds).length=ps.length:=by
  have e:=r2.length;rw[F.len _ _ _ _ hq]at e;exact e.symm
 refine wpAny_call (DG (f:=f) I.kIn M.makes M.init (beq_iff_eq.mp M.fn) (codeAny_mono (F.run _ X.stack _ _ ⟨Value.ref (s.heap.objs.size+1)::us,[]⟩ (Value.ref (s.heap.objs.size+1)::(us++ds)) _ _ E (hr.make C us [])
  (I2.env0.make C us []) (hb _ (Value.ref (s.heap.objs.size+1)::us) I2.kIn hl) r2 hq) λr s' hq'=>?_))
 cases r with
 |error e=>exact hx a_ σ _ _ e s' I2 hq'
 |ok fl=>
  cases fl with
  |ret u=>
   let⟨v,H',I3,rv,ev,q3⟩:=I2.after hq';subst ev;exact⟨rv,⟨V.ref (s.heap.objs.size+1),H',I3,rfl,q3⟩⟩
  |next=>exact False.elim hq'
  |brk=>exact False.elim hq'
  |cont=>exact False.elim hq'
theorem Hi(M:Mk X.K C f)(F:kX X.prog X.w X.K X.mg X.base CX k f fd ps sp)(hr:eQ (k+1) X.A)(hg:Gl X x)(hm:X.mg x=some (.ref C))(hb:ig X.K fd ps ds)(hd:bS dvs ds)(hx:jr CX X E)
  (ha:PA X (e::es) t) (hdb:(x == ("__debug__":Str))=false:=by decide) (he:ZU (e::es) X.env=(false,eval e X.env)::ZU es X.env:=by rfl) (hpl:(X8 pos (ZU es X.env)).any (·.1)=false:=by rfl) :
  PE X 77 (Gs C sp dvs E t):=by
 intro a_ s σ H Q I h;refine wpAny_Call_Name_kw (uU I hg hm ?_ hdb);refine PySem.W.callWith_K (h₀:=X.base) I.ok.mod.kin M.kp (thn (ha pos a_ s σ H _ I h) λus s1 ⟨vs,H1,I1,r,q⟩=>⟨I1.kIn,?_⟩) he hpl;exact CQ M F hr hb hd hx I1 r q
end
structure cN(N P:List Str)(sc:XA):Prop where
 kind:sc.kind=.function
 co:sc.isCoroutine=false
 gen:sc.isGenerator=false
 nd:N.Nodup
 pre:N.take P.length=P
 par:∀x∈P,sc.names.lookup x=some .local\/sc.names.lookup x=some .cell
 nofree:∀y∈sc.names,y.2≠.free
theorem uf{kindOf:Str->Option NameKind}{x:Str}:∀{binds:List (Str×Z5)} {m:79},(∀v,(x,v)∉binds)->bindL kindOf binds m x=m x
 |[],_,_=>rfl
 |(n,v)::r,m,h=>by
  unfold bindL;rw[uf λw hw=>h w (ZY _ hw)];split
  ·have:x≠n:=by rintro rfl;exact h v ZD
   simp[this]
  ·rfl
theorem uh{kindOf:Str->Option NameKind}{x:Str}:∀{binds:List (Str×Z5)} {m:79},(∀v,(x,v)∉binds)->bindC kindOf binds m x=m x
 |[],_,_=>rfl
 |(n,v)::r,m,h=>by
  unfold bindC;rw[uh λw hw=>h w (ZY _ hw)];split
  ·rfl
  ·have:x≠n:=by rintro rfl;exact h v ZD
   simp[this]
theorem ug{kindOf:Str->Option NameKind}{x:Str}{v:Z5}:∀{P:List Str} {vs:List Z5} {i:Nat} {m:79},P.Nodup->P[i]?=some x->vs[i]?=some v->kindOf x=some .local->
  bindL kindOf (P.zip vs) m x=some v
 |[],_,_,_,_,h,_,_=>by simp at h
 |_::_,[],_,_,_,_,h,_=>by simp at h
 |p::P,w::vs,0,m,nd,h1,h2,hk=>by
  simp at h1 h2;subst h1;subst h2;show bindL kindOf ((p,w)::P.zip vs) m p=_;unfold bindL;rw[uf λv hv=>(Xb.mp nd).1 (List.of_mem_zip hv).1,Xe hk];simp
 |p::P,w::vs,i+1,m,nd,h1,h2,hk=>by
  show bindL kindOf ((p,w)::P.zip vs) m x=_;unfold bindL;exact ug (i:=i) (Xb.mp nd).2 ‹h1› ‹h2› hk
theorem ui{kindOf:Str->Option NameKind}{x:Str}{v:Z5}:∀{P:List Str} {vs:List Z5} {i:Nat} {m:79},P.Nodup->P[i]?=some x->vs[i]?=some v->kindOf x≠some .local->
  bindC kindOf (P.zip vs) m x=some v
 |[],_,_,_,_,h,_,_=>by simp at h
 |_::_,[],_,_,_,_,h,_=>by simp at h
 |p::P,w::vs,0,m,nd,h1,h2,hk=>by
  simp at h1 h2;subst h1;subst h2;show bindC kindOf ((p,w)::P.zip vs) m p=_;unfold bindC;rw[uh λv hv=>(Xb.mp nd).1 (List.of_mem_zip hv).1,Xd hk];simp
 |p::P,w::vs,i+1,m,nd,h1,h2,hk=>by
  show bindC kindOf ((p,w)::P.zip vs) m x=_;unfold bindC;exact ui (i:=i) (Xb.mp nd).2 ‹h1› ‹h2› hk
def jg(N:List Str)(vs:List V):St:=vs.map some++ZO (N.length-vs.length) none
def mJ(CX:CXT)(P:Zq)(w:Zr)(K:Z3)(mg:79)(base:Heap)(N:List Str)(qual:Str)(scope:XA)(f:Addr)(cd:Z5)(A:Ze)(outer:List Env)(s:Z6)(H:Hp)(E:XK):Cx where
 prog:=P
 w:=w
 K:=K
 mg:=mg
 base:=base
 A:=A.deeper (envOfC qual scope s.heap.objs.size f cd)
 N:=N
 s₀:=s
 H₀:=H
 env:=envOfC qual scope s.heap.objs.size f cd
 outer:=outer
 stack:=envOfC qual scope s.heap.objs.size f cd::outer
 ex:=[]
 calm:=true
 fn:=λ_=>true
 pn:=[]
 xe:=λe s'=>wpAny (ZS P w) (A.deeper (envOfC qual scope s.heap.objs.size f cd)) (leaving (envOfC qual scope s.heap.objs.size f cd) e) (λ_ s''=>CX outer H s E e s'') (λe' s''=>CX outer H s E e' s'') s'
theorem xc{sc:XA}{n:Nat}{x:Str}(h:sc.names.lookup x=some .cell):∃c,(cellsFrom n sc.names []).lookup x=some c:=by
 have q:=PySem.W.cellsFrom_some sc.names n [] (.inl h);exact Option.isSome_iff_exists.mp q
theorem tJ{CX:CXT}{P:Zq}{w:Zr}{K:Z3}{mg:79}{base:Heap}{N ps:List Str}{qual:Str}{scope:XA}{f:Addr}{cd:Z5}{A:Ze}{outer:List Env}{s s1:Z6}{H:Hp}{E:XK}{us:List Z5}{vs:List V}
  (S:cN N ps scope) (hd:A.handled=none) (e0:BX P w K mg base A outer s H) (hl:vs.length=ps.length) (r:bS vs us)
  (x:InCallC s s.heap.objs.size (bindL (envOfC qual scope s.heap.objs.size f cd).kindOf (ps.zip us) λ_=>none) (cellsFrom (s.heap.objs.size+1) scope.names []) (bindC (envOfC qual scope s.heap.objs.size f cd).kindOf (ps.zip us) λ_=>none) s1) :
  Inv (mJ CX P w K mg base N qual scope f cd A outer s H E) [] (jg N vs) H s1:=by
 have hpl:ps.length<=N.length:=by have:=congrArg List.length S.pre;rw[XN]at this;omega
 let⟨h1,tk,rfl,hk⟩:=x.done;have noA:∀b:Addr,b∉(mJ CX P w K mg base N qual scope f cd A outer s H E).ex:=λb z=>absurd (show b∈([]:List Addr)from z) 51;refine⟨⟨e0.mod,S.kind,rfl,rfl,ZW _,λy z c h1 h2=>?_,λy hy=>?_,λy c _ h=>?_,λ_=>hd,Around.frames_deeper e0.frames,.inr ⟨rfl,rfl⟩,λb z=>absurd z (noA b),e0.bs,e0.bsz,λb _ _=>noA b,λb z=>absurd z (noA b),e0.funs,e0.frf⟩,
  rfl,e0.bare,Un.kept hk,⟨_,x.toInCall.ns,λi y v h1 h2 h3=>?_⟩,λy c h=>⟨_,x.cell y c h⟩,e0.hok.fresh (ZW _),λy c h=>?_,λp hp=>absurd (show p∈([]:List (Addr×Obj))from hp) 51,e0.hok.kept hk,?_⟩
 exact name_of_addr x.apart (PySem.mem_of_lookup h1) (PySem.mem_of_lookup h2);have hy:scope.names.lookup y=some .cell\/scope.names.lookup y=some .free:=hy;rcases hy with hy|hy;exact xc hy;exact absurd rfl (S.nofree _ (PySem.mem_of_lookup hy));exact Nat.le_of_lt (x.above y c (PySem.mem_of_lookup h))
 ·have hi:i<vs.length:=by
   unfold jg at h2;by_cases hi:i<vs.length;exact hi
   ·rw[Zf ‹hi›]at h2;rw[XB]at h2;split at h2<;>cases h2
  have ha:vs[i]?=some v:=by
   unfold jg at h2;rw[Zk ‹hi›,Zz]at h2;cases e:vs[i]? with
   |none=>rw[e]at h2;cases h2
   |some a=>rw[e]at h2;cases h2;rfl
  let⟨u,hu,rv⟩:=r.get ha;have hp:ps[i]?=some y:=by
   rw[<-S.pre,List.getElem?_take_of_lt 24];exact h1
  have ndP:ps.Nodup:=by rw[<-S.pre];exact S.nd.sublist (List.take_sublist _ _)
  refine⟨u,rv,?_⟩;rcases S.par y (X3 hp)with k|k;exact .inl ⟨k,ug ndP hp hu k⟩;let⟨c,e⟩:=xc (n:=s.heap.objs.size+1) k;refine .inr ⟨.inl k,c,e,?_⟩;have q:=x.cell y c e;rw[ui ndP hp hu (by show scope.names.lookup y≠_;rw[k];decide)]at q;exact q
 exact e0.hok.fresh (Nat.le_of_lt (x.above y c (PySem.mem_of_lookup h)));unfold jg;show _=N.length;rw[ZV,ZQ,List.length_replicate];omega
theorem Mm{CX:CXT}{P:Zq}{w:Zr}{K:Z3}{mg:79}{base:Heap}{k:Nat}{f:Addr}{name qual:Str}{params:Arguments}{body:List Zn}{scope:XA}{dV kV doc pm cdv ct oc:Z5}{an od:Option Addr}
  {osl:Array (Option Z5)} {N ps:List Str} {sp:Sp} (lk:K.lookup f=some ⟨oc,od,.func (PySem.W.fnOf name qual params body scope dV kV doc pm an cdv ct),osl⟩) (hcd:PySem.W.codeIn K cdv qual=true) (S:cN N ps scope)
  (len:∀vs H Q E,sp vs H Q E->vs.length=ps.length)
  (C_:∀(A:Ze) (outer:List Env) (s:Z6) (H:Hp) (vs:List V) (Q:VK) (E:XK),eQ k (A.deeper (envOfC qual scope s.heap.objs.size f cdv))->sp vs H Q E->
   ∃t,PSs (mJ CX P w K mg base N qual scope f cdv A outer s H E) body t/\t { nx:=λ_ H'=>Q .non H',rt:=Q } (jg N vs) H) :
  kX P w K mg base CX (k+1) f (PySem.W.fnOf name qual params body scope dV kV doc pm an cdv ct) ps sp:=by
 refine⟨len,λA outer s H args us vs Q E hr e0 hb r hsp=>?_⟩;have hl:=len _ _ _ _ hsp;have KX:K.In s.heap:=e0.mod.kin.keeps λb o e=>(e0.bs b o e).1;have lim:s.heap.NoLimit:=e0.mod.nolimit.keeps λb o e=>(e0.bs b o e).1;have i_:∀y∈ps.zip us,scope.names.lookup y.1=some .local\/(scope.names.lookup y.1=some .cell/\((cellsFrom (s.heap.objs.size+1) scope.names []).lookup y.1).isSome=true):=λ⟨n,v⟩ hy=>by
  rcases S.par n (List.of_mem_zip hy).1 with q|q;exact .inl q;exact .inr ⟨q,PySem.W.cellsFrom_some _ _ _ (.inl q)⟩
 refine codeAny_call_function hr.depth (KX _ _ lk) rfl S.co S.gen rfl (PySem.W.codeRec_of KX hcd) (hb _ _ _ _ ?_);refine wpAny_newFunctionEnv_cells S.kind i_ λenv he s1 x=>?_;subst he;refine⟨lim.keeps x.toInCall.keep,codeAny_func ?_⟩;let⟨t,ht,hq⟩:=C_ A outer s H vs Q E (hr.deeper _) hsp;have I:Inv (mJ CX P w K mg base N qual scope f cdv A outer s H E) [] (jg N vs) H s1:=tJ S hr.hd e0 hl r x;refine XZ (ht [] s1 (jg N vs) H _ I hq) (λfl s' hs=>?_) λe s' hs=>hs;have fin:∀{σ':St} {H':Hp} {v:V} {u:Z5},Inv (mJ CX P w K mg base N qual scope f cdv A outer s H E) [] σ' H' s'->cP v u->Q v H'->CE outer P w H s Q u s':=
  λ{σ' H' v u} J rv q=>⟨v,H',J.os,J.bare,J.base,J.hok,rv,q⟩
 cases fl with
 |ret u=>
  let⟨v,σ',H',J,rv,q⟩:=hs;exact fin J rv q
 |next=>
  let⟨σ',H',J,q⟩:=hs;exact fin (v:=V.non) (u:=Value.none) J rfl q
 |brk=>
  let⟨_,_,_,q⟩:=hs;exact False.elim q
 |cont=>
  let⟨_,_,_,q⟩:=hs;exact False.elim q
section
variable{x:Str}{e:ZN}{id T:String}{r:List V->Hp->VK->Prop}
def tCB(r:List V->Hp->VK->Prop)(t:TA):TE:=λσ H Q=>t σ H λvs H1=>r vs H1 Q
theorem Di(hc:eU X (.builtin id) r)(hg:Gl X x)(hm:X.mg x=none)(hv:Zi x=some (.builtin id))(ha:PA X (e::es) t)(hn:x≠"__name__":=by decide)(hdb:(x == ("__debug__":Str))=false:=by decide)
  (he:ZU (e::es) X.env=(false,eval e X.env)::ZU es X.env:=by rfl) (hpl:(X8 pos (ZU es X.env)).any (·.1)=false:=by rfl):PE X 77 (tCB r t):=by
 intro a_ s σ H Q I h;refine wpAny_Call_Name_kw (oe I hg hm hv ?_ hn hdb);exact PyProof.Rows.callWith_builtin1 (thn (ha pos a_ s σ H _ I h) λus s1 ⟨vs,H1,I1,r1,q1⟩=>hc a_ s1 σ H1 vs us Q I1 r1 q1) he hpl
theorem zV(hc:eU X (.type T) r)(hg:Gl X x)(hm:X.mg x=none)(hv:Zi x=some (.type T))(ha:PA X (e::es) t)(hn:x≠"__name__":=by decide)(hdb:(x == ("__debug__":Str))=false:=by decide)
  (he:ZU (e::es) X.env=(false,eval e X.env)::ZU es X.env:=by rfl) (hpl:(X8 pos (ZU es X.env)).any (·.1)=false:=by rfl):PE X 77 (tCB r t):=by
 intro a_ s σ H Q I h;refine wpAny_Call_Name_kw (oe I hg hm hv ?_ hn hdb);exact PyProof.Rows.callWith_type1 (thn (ha pos a_ s σ H _ I h) λus s1 ⟨vs,H1,I1,r1,q1⟩=>hc a_ s1 σ H1 vs us Q I1 r1 q1) he hpl
end
end L2
namespace HT
open PySem PyProof.Rows
section
variable{prog:Zq}{w:Zr}{A:Ze}{E:Z5->Z6->Prop}{s:Z6}
theorem cat_tup{t b:Addr}{vs ws:List Z5}{Q:Z5->Z6->Prop}(ht:IsTup s.heap t vs.toArray)(hb:IsTup s.heap b ws.toArray)(hv:vs≠[])
  (h1:ws=[]->Q (.ref t) s) (h2:ws≠[]->Q 86 { s with heap:=s.heap.push { cls:=.type "tuple",data:=.seq (vs++ws).toArray } })
  (hsz:vs.length+ws.length<=ZC):wpAny 69 A (binaryOp .Add (.ref t) (.ref b)) Q E s:=by
 let⟨⟨cls,dd,data,sl⟩,ho,hc,n,hd⟩:=id ht;let⟨⟨cls2,dd2,data2,sl2⟩,ho2,hc2,n2,hd2⟩:=id hb;simp only at hc hd hc2 hd2;subst hc hd hc2 hd2;have e:vs.toArray++ws.toArray=(vs++ws).toArray:=by simp
 by_cases hw:ws=[];exact concat_meets ⟨_,ho,rfl⟩ ⟨_,ho2,rfl⟩ noFill_tuple_add seq_tuple_add PySem.F.slot_tuple_add PySem.F.entry_tuple_add (PySem.F.args_tuple_add_2 _ _)
  (tuple_addW1 t b vs.toArray ws.toArray n n2 dd dd2 sl sl2 ‹hv› (by simp[hw])) ⟨ho,ho2,h1 hw⟩
 refine concat_meets ⟨_,ho,rfl⟩ ⟨_,ho2,rfl⟩ noFill_tuple_add seq_tuple_add PySem.F.slot_tuple_add PySem.F.entry_tuple_add (PySem.F.args_tuple_add_2 _ _)
  (tuple_addW2 t b vs.toArray ws.toArray n n2 dd dd2 sl sl2 ‹hv› ‹hw› (by rw[ZP,ZP];exact hsz)) ⟨ho,ho2,?_⟩
 rw[e];exact h2 hw
def sIx(n d:Nat):Option Int->Nat
 |none=>d
 |some v=>if v<0 then(v+(n:Int)).toNat else min v.toNat n
def sIx_none(n d:Nat):sIx n d none=d:=rfl
theorem sIx_nat(n d k:Nat):sIx n d (some (k:Int))=min k n:=by
 show(if (k:Int)<0 then((k:Int)+(n:Int)).toNat else min (k:Int).toNat n)=min k n;rw[Xd 24,XQ]
theorem Ku(n d:Nat)(hd:d<=n)(o:Option Int):sIx n d o<=n:=by
 cases o with
 |none=>exact hd
 |some v=>
  show(if v<0 then(v+(n:Int)).toNat else min v.toNat n)<=n;by_cases hv:v<0;rw[Xe hv];omega;rw[Xd hv];exact Nat.min_le_right _ _
theorem Bk(v:Int)(n d:Nat):(if v<0 then max (v+(n:Int)) 0 else min v (n:Int))=((sIx n d (some v):Nat):Int):=by
 show(if v<0 then max (v+(n:Int)) 0 else min v (n:Int))=(((if v<0 then(v+(n:Int)).toNat else min v.toNat n):Nat):Int);by_cases hv:v<0;simp only[Xe hv];omega;simp only[Xd hv];omega
theorem yo(lo hi:Option Int)(n:Nat):Builtin.Slice.sliceAdjust lo hi 1 (n:Int)=(((sIx n 0 lo:Nat):Int),((sIx n n hi:Nat):Int)):=by
 have h1:¬((1:Int)<0):=by omega
 unfold Builtin.Slice.sliceAdjust;simp only[h1,if_false];refine Prod.ext ?_ ?_;cases lo with
 |none=>rfl
 |some v=>exact Bk v n 0
 cases hi with
 |none=>rfl
 |some v=>exact Bk v n n
theorem xO(i j:Nat):Builtin.Slice.slicePlaces (i:Int) (j:Int) 1=j-i:=by
 unfold Builtin.Slice.slicePlaces;have h1:(1:Int)>0:=by omega
 simp only[h1,if_true,Int.ediv_one];split<;>omega
theorem pB{v:Z5}{o:Option Int}{Q:Option Int->Z6->Prop}(p:IsPart v o)(h:Q o s):wpAny 69 A (Builtin.Slice.slicePartIndex v) Q E s:=by
 cases p with
 |none=>exact slicePart_none h
 |int i t=>exact slicePart_int h
theorem mE{sl:Addr}{vl vu:Z5}{lo hi:Option Int}{n:Nat}{Q:Int×Int×Nat->Z6->Prop}(hs:s.heap.IsSliceOf sl vl vu .none)(pl:IsPart vl lo)(pu:IsPart vu hi)
  (h:Q (((sIx n 0 lo:Nat):Int),1,sIx n n hi-sIx n 0 lo) s):wpAny 69 A (Builtin.Slice.sliceApplied (.ref sl) (pure (n:Int))) Q E s:=by
 let⟨os,hos,hcs,hds⟩:=id hs;unfold Builtin.Slice.sliceApplied Builtin.Slice.sliceFields;refine Z2 (Z2 (wpAny_field hos hds (x:=vl) rfl (Z2 (wpAny_field hos hds (x:=vu) rfl (Z2 (wpAny_field hos hds (x:=.none) rfl (Z8 ?_)))))));refine Z2 (slicePart_none ?_);show wpAny _ _ (if ((1:Int) == 0)=true then _ else _) _ _ s;rw[Xd 54];refine Z2 (pB pl (Z2 (pB pu (Z2 (Z8 ?_)))));show wpAny _ _ (match Builtin.Slice.sliceAdjust lo hi 1 (n:Int)with|(lo,hi)=>pure (lo,(1:Int),Builtin.Slice.slicePlaces lo hi 1)) _ _ s;rw[yo lo hi n];show wpAny _ _ (pure (((sIx n 0 lo:Nat):Int),(1:Int),Builtin.Slice.slicePlaces ((sIx n 0 lo:Nat):Int) ((sIx n n hi:Nat):Int) 1)) _ _ s;rw[xO];exact Z8 h
theorem C8(xs:Array Z5)(i k:Nat):((Zp k).filterMap λ(m:Nat)=>xs[((i:Int)+(m:Int)*1).toNat]?).toArray=((xs.toList.drop i).take k).toArray:=by
 have e:(λ(m:Nat)=>xs[((i:Int)+(m:Int)*1).toNat]?)=λm=>xs[i+m]?:=by
  funext m;have:((i:Int)+(m:Int)*1).toNat=i+m:=by omega
  rw[this]
 rw[e];have:=pick_run xs i k;rw[List.filterMap_map]at this;have e2:((λx=>xs[x]?) ∘ λx=>i+x)=λm=>xs[i+m]?:=rfl;rw[e2]at this;rw[this]
theorem getItem_tuple_cut{t sl:Addr}{items:Array Z5}{vl vu:Z5}{lo hi:Option Int}{Q:Z5->Z6->Prop}(ht:IsTup s.heap t items)(hs:s.heap.IsSliceOf sl vl vu .none)(pl:IsPart vl lo)(pu:IsPart vu hi)
  (hw:¬(sIx items.size 0 lo=0/\sIx items.size items.size hi=items.size))
  (h:Q 86 { s with heap:=s.heap.push { cls:=.type "tuple",data:=.seq ((items.toList.drop (sIx items.size 0 lo)).take (sIx items.size items.size hi-sIx items.size 0 lo)).toArray } })
  (hsz:items.size<=ZC):wpAny 69 A (getItem (.ref t) (.ref sl)) Q E s:=by
 have htake:sizeOk (.seq ((items.toList.drop (sIx items.size 0 lo)).take (sIx items.size items.size hi-sIx items.size 0 lo)).toArray):=by
  show((items.toList.drop (sIx items.size 0 lo)).take (sIx items.size items.size hi-sIx items.size 0 lo)).toArray.size<=ZC;rw[ZP,XN,List.length_drop,Zh];omega
 have hj:sIx items.size items.size hi<=items.size:=Ku _ _ (ZW _) hi;let⟨os,hos,hcs,hds⟩:=id hs;have hTs:s.TypeIs (.ref sl) "slice":=⟨os,hos,hcs⟩;unfold getItem;try with_reducible refine wpAny_holding ?_
 first|refine Z2 (Z8 ?_)|skip
 refine Z2 (wpAny_sequenceKey ht.typeIs 54 ?_);refine Z2 (wpAny_callSpecial?_slot (name:=Str.ofString "__getitem__") ht.typeIs PyProof.Rows.slot_tuple_getitem
  (wpAny_call_entry PyProof.Rows.slot_tuple_getitem ht.typeIs entry_tuple_getitem ?_ (args_tuple_getitem _ _)))
 show wpAny _ _ (Builtin.Tuple.tupleItemsOf (.ref t) >>= _) _ _ s;refine Z2 (tupleItemsOf_ ht ?_);refine Z2 (wpAny_typeOf hTs ?_);rw[Xe 54];refine Z2 (mE hs pl pu ?_);have hno:¬((((sIx items.size 0 lo:Nat):Int) == 0&&(1:Int) == 1&&(sIx items.size items.size hi-sIx items.size 0 lo) == items.size)=true):=by
  intro q;rw[Xr,Xr]at q;have q1:((sIx items.size 0 lo:Nat):Int)=0:=eq_of_beq q.1.1;have q2:sIx items.size items.size hi-sIx items.size 0 lo=items.size:=eq_of_beq q.2;exact hw ⟨by omega,by omega⟩
 show wpAny _ _ (if (((sIx items.size 0 lo:Nat):Int) == 0&&(1:Int) == 1&&(sIx items.size items.size hi-sIx items.size 0 lo) == items.size)=true then _ else _) _ _ s;rw[Xd hno,C8];first
  |exact Z2 (m:=Builtin.Tuple.tupleExact _) (wpAny_newObj_type (Z8 ⟨_,rfl,Z8 h⟩) htake)
  |exact Z2 (m:=Builtin.Tuple.tupleExact _) (wpAny_newObj_type (Z2 (Z8 (Z8 ⟨_,rfl,Z8 h⟩))) htake)
  |exact Z2 (Z2 (m:=Builtin.Tuple.tupleExact _) (wpAny_newObj_type (Z8 (Z8 ⟨_,rfl,Z8 h⟩)) htake))
  |exact Z2 (Z2 (m:=Builtin.Tuple.tupleExact _) (wpAny_newObj_type (Z8 ⟨_,rfl,Z8 h⟩) htake))
end
end HT
namespace L2
open PySem PySem.Spec PyProof.Rows
abbrev TO:=St->Hp->(Option Int->Hp->Prop)->Prop
def PO(X:Cx)(e:Option ZN)(t:TO):Prop:=
 ∀(a_:57) (s:Z6) (σ:St) (H:Hp) (Q:Option Int->Hp->Prop),Inv X a_ σ H s->t σ H Q->
  wpAny 49 X.A (evalPart e X.env) (λu s'=>∃o H',Inv X a_ σ H' s'/\IsPart u o/\Q o H') X.xe s
def ze:TO:=λ_ H Q=>Q none H
def Kb(t:TE):TO:=λσ H Q=>t σ H λx H1=>∃i,x=.int i/\Q (some i) H1
variable{X:Cx}{e:ZN}{pos:Pos}
section
variable{te:TE}{lo hi:Option ZN}{tl th:TO}{p2:Pos}
theorem Hb:PO X none ze:=by
 intro a_ s σ H Q I h;rw[evalPart_none];exact Z8 ⟨none,H,I,.none,h⟩
theorem Ha(h:PE X e te):PO X (some e) (Kb te):=by
 intro a_ s σ H Q I hw;rw[evalPart_some];refine thn (h a_ s σ H _ I hw) λu s1 hz=>?_;let⟨x,H1,I1,r1,q1⟩:=hz;let⟨i,rfl,q⟩:=q1;let⟨t,rfl⟩:=r1;exact⟨some i,H1,I1,.int i t,q⟩
def SlR(X:Cx)(r:V->Option Int->Option Int->Hp->VK->Prop):Prop:=
 ∀(a_:57) (s:Z6) (σ:St) (H:Hp) (x:V) (v vl vu:Z5) (lo hi:Option Int) (sl:Addr) (Q:VK),Inv X a_ σ H s->cP x v->s.heap.IsSliceOf sl vl vu .none->IsPart vl lo->IsPart vu hi->r x lo hi H Q->
  ∃T id,typeLookup (.type T) "__getitem__"=pure (some (.builtin id))/\s.TypeIs v T/\wpAny 49 X.A (getItem v (.ref sl)) (EP X a_ σ Q) X.xe s
theorem SlR.or{r r':V->Option Int->Option Int->Hp->VK->Prop}(h:SlR X r)(h':SlR X r'):SlR X (λx lo hi H Q=>r x lo hi H Q\/r' x lo hi H Q):=by
 intro a_ s σ H x v vl vu lo hi sl Q I rx hs pl pu q;rcases q with q|q;exact h a_ s σ H x v vl vu lo hi sl Q I rx hs pl pu q;exact h' a_ s σ H x v vl vu lo hi sl Q I rx hs pl pu q
def tSl(r:V->Option Int->Option Int->Hp->VK->Prop)(te:TE)(tl th:TO):TE:=λσ H Q=>te σ H λx H1=>tl σ H1 λl H2=>th σ H2 λu H3=>r x l u H3 Q
theorem Dd{r:V->Option Int->Option Int->Hp->VK->Prop}(hr:SlR X r)(he:PE X e te)(hl:PO X lo tl)(hu:PO X hi th):PE X (.Subscript e (.Slice lo hi none p2) pos) (tSl r te tl th):=by
 intro a_ s σ H Q I h;refine Subscript_ (thn (he a_ s σ H _ I h) λv s1 hz=>?_);let⟨x,H1,I1,r1,q1⟩:=hz;refine wpAny_Slice (thn (hl a_ s1 σ H1 _ I1 q1) λvl s2 ⟨l,H2,I2,pl,q2⟩=>thn (hu a_ s2 σ H2 _ I2 q2) λvu s3 hz=>?_);let⟨u,H3,I3,pu,q3⟩:=hz;rw[evalPart_none];refine Z8 ?_;have I4:Inv X a_ σ H3 { s3 with heap:=s3.heap.push { cls:=.type "slice",data:=.fields #[vl,vu,.none] } }:=I3.kept (t':=s3.toks) λb ob q=>Z7 _ q;let⟨T,id,hT,ht,hg⟩:=hr a_ { s3 with heap:=s3.heap.push { cls:=.type "slice",data:=.fields #[vl,vu,.none] } } σ H3 x v vl vu l u s3.heap.objs.size Q I4 r1 (Heap.IsSliceOf.new ..) pl pu q3;show wpAny 49 X.A (subscriptTail e (.Slice lo hi none p2) v (.ref s3.heap.objs.size)) (EP X a_ σ Q) X.xe { s3 with heap:=s3.heap.push { cls:=.type "slice",data:=.fields #[vl,vu,.none] } };exact tail_any (ops:=[.ref s3.heap.objs.size,v]) ht hT hg 81
def Bi(xs:List V)(lo hi:Option Int):List V:=(xs.drop (HT.sIx xs.length 0 lo)).take (HT.sIx xs.length xs.length hi-HT.sIx xs.length 0 lo)
theorem oz(xs:List V)(lo hi:Option Int):(Bi xs lo hi).length<=xs.length:=by
 unfold Bi;rw[XN,List.length_drop];omega
def Rx(K:Z3):V->Option Int->Option Int->Hp->VK->Prop:=λx lo hi H Q=>∃a xs,x=.ref a/\SqT K H a xs/\
 ¬(HT.sIx xs.length 0 lo=0/\HT.sIx xs.length xs.length hi=xs.length)/\∀p,H p=none->Q (.ref p) (upd H p (.tup (Bi xs lo hi)))
theorem Kr:SlR X (Rx X.K):=by
 intro a_ s σ H x v vl vu lo hi sl Q I rx hs pl pu h;let⟨a,xs,rfl,hx,hw,q⟩:=h;cases rx;let⟨its,r,ht,hz⟩:=I.tuple hx;have h_:its.toArray.size=xs.length:=by rw[ZP];exact r.length.symm
 refine⟨"tuple",_,PyProof.Rows.slot_tuple_getitem.lookup,ht.typeIs,?_⟩;refine HT.getItem_tuple_cut ht hs pl pu (by rw[h_];exact hw) ?_ (by rw[h_];exact hz);rw[h_];refine⟨.ref s.heap.objs.size,_,I.laid (t':=s.toks) (o:=.tup (Bi xs lo hi)) (λb ob q=>Z7 _ q) (ZW _) ?_,rfl,q _ (I.hok.fresh (ZW _))⟩;exact⟨X2 (oz xs lo hi) hz,_,(r.drop (HT.sIx xs.length 0 lo)).take (HT.sIx xs.length xs.length hi-HT.sIx xs.length 0 lo),EC.new _ _⟩
def OS(K:Z3):R2:=λx y H Q=>∃a b xs ys,x=.ref a/\y=.ref b/\SqT K H a xs/\SqT K H b ys/\xs≠[]/\xs.length+ys.length<=ZC/\
 (ys=[]->Q (.ref a) H)/\(ys≠[]->∀p,H p=none->Q (.ref p) (upd H p (.tup (xs++ys))))
theorem bS.nil_iff{xs:List V}{us:List Z5}(r:bS xs us):us=[]↔xs=[]:=by
 cases r with
 |nil=>simp
 |cons _ _=>simp
theorem Hz:OpR X (binaryOp .Add) (OS X.K):=by
 intro a_ s σ H x y v u Q I rx ry h;let⟨a,b,xs,ys,rfl,rfl,ha,hb,hx,hz,q1,q2⟩:=h;cases rx;cases ry;let⟨its,r1,p1,_⟩:=I.tuple ha;let⟨its2,r2,p2,_⟩:=I.tuple hb;refine HT.cat_tup p1 p2 (λz=>hx (r1.nil_iff.mp z)) (λz=>⟨.ref a,H,I,rfl,q1 (r2.nil_iff.mp z)⟩) (λz=>?_) (by rw[<-r1.length,<-r2.length];exact hz);refine⟨.ref s.heap.objs.size,_,I.laid (t':=s.toks) (o:=.tup (xs++ys)) (λb ob q=>Z7 _ q) (ZW _) ?_,rfl,q2 (λw=>z (r2.nil_iff.mpr w)) _ (I.hok.fresh (ZW _))⟩;exact⟨by rw[ZV];exact hz,_,r1.append r2,EC.new _ _⟩
end
def ixN(n:Nat)(i:Int):Option Nat:=if 0<=i then(if i<n then some i.toNat else none)else if -(n:Int)<=i then some (i+n).toNat else none
def atI{α:Type}(xs:List α)(i:Int):Option α:=(ixN xs.length i).bind λj=>xs[j]?
theorem Az{n:Nat}{i:Int}{j:Nat}(h:ixN n i=some j):seqIndex? i n=some j/\j<n/\-(n:Int)<=i/\i<n:=by
 unfold ixN at h;by_cases h0:0<=i;rw[Xe h0]at h;by_cases h1:i<n;rw[Xe h1]at h;have e:i.toNat=j:=Option.some.inj h;exact⟨by rw[seqIndex_of h0 h1,e],by omega,by omega,h1⟩;rw[Xd h1]at h;cases h;rw[Xd h0]at h;by_cases h1:-(n:Int)<=i;rw[Xe h1]at h;have e:(i+n).toNat=j:=Option.some.inj h;exact⟨by rw[seqIndex_neg 24 h1,e],by omega,h1,by omega⟩;rw[Xd h1]at h;cases h
theorem BC{α:Type}{xs:List α}{i:Int}{v:α}(h:atI xs i=some v):∃j,seqIndex? i xs.length=some j/\xs[j]?=some v/\j<xs.length/\-(xs.length:Int)<=i/\i<xs.length:=by
 unfold atI at h;cases e:ixN xs.length i with
 |none=>rw[e]at h;cases h
 |some j=>
  rw[e]at h;let⟨h1,h2,h3,h4⟩:=Az e;exact⟨j,h1,h,h2,h3,h4⟩
theorem oN{α:Type}{xs:List α}{j:Nat}{v:α}(h:xs[j]?=some v):atI xs (j:Int)=some v:=by
 have hj:j<xs.length:=(Z9.mp h).1;have e:ixN xs.length (j:Int)=some j:=by
  unfold ixN;rw[Xe 24,Xe 24];simp
 unfold atI;rw[e];exact h
def vI(b:ZN):Prop:=∀o i,subscripted b false o i=operate [o,i] (getItem o i)
def IxR(X:Cx)(r:R2):Prop:=
 ∀(value z_:ZN) (a_:57) (s:Z6) (σ:St) (H:Hp) (x y:V) (v u:Z5) (Q:VK),Inv X a_ σ H s->cP x v->cP y u->r x y H Q->
  subscripted z_ false v u=operate [v,u] (getItem v u)->wpAny 49 X.A (subscriptTail value z_ v u) (EP X a_ σ Q) X.xe s
def MtR(X:Cx)(id:String)(r:V->List V->Hp->VK->Prop):Prop:=
 ∀(a_:57) (s:Z6) (σ:St) (H:Hp) (x:V) (xs:List V) (v:Z5) (us:List Z5) (Q:VK),Inv X a_ σ H s->cP x v->bS xs us->r x xs H Q->
  wpAny 49 X.A (call (.builtin id) (v::us)) (EP X a_ σ Q) X.xe s
variable{o:ZN}
section
variable{a b:ZN}{ta tb:TE}
theorem IxR.or{r r':R2}(h:IxR X r)(h':IxR X r'):IxR X (λx y H Q=>r x y H Q\/r' x y H Q):=by
 intro value z_ a_ s σ H x y v u Q I rx ry q hs;rcases q with q|q;exact h value z_ a_ s σ H x y v u Q I rx ry q hs;exact h' value z_ a_ s σ H x y v u Q I rx ry q hs
theorem O5{r:R2}(hr:IxR X r)(ha:PE X a ta)(hb:PE X b tb)(hs:vI b):PE X (.Subscript a b pos) (tOp r ta tb):=by
 intro a_ s σ H Q I h;exact Subscript_ (P9 ha hb I h λv u s2 x y H2 I2 rx ry q=>hr a b a_ s2 σ H2 x y v u Q I2 rx ry q (hs _ _))
def RB(K:Z3):R2:=λx y H Q=>∃p xs i v,x=.ref p/\y=.int i/\SqL K H p xs/\atI xs i=some v/\Q v H
def Rz(K:Z3):R2:=λx y H Q=>∃p xs i v,x=.ref p/\y=.int i/\SqT K H p xs/\atI xs i=some v/\Q v H
theorem HW:IxR X (RB X.K):=by
 intro value z_ a_ s σ H x y v u Q I rx ry h hs;let⟨p,xs,i,z,rfl,rfl,hq,he,q⟩:=h;cases rx;let⟨t,rfl⟩:=ry;let⟨its,r,pl,hz⟩:=I.list hq;let⟨j,h1,h2,h3,h4,h5⟩:=BC he;let⟨w,ew,rw'⟩:=r.get h2;have hl:=r.length;have hn:=wJ;have fin:EP X a_ σ Q w s:=⟨z,H,I,rw',q⟩;by_cases h0:0<=i;have hj:i.toNat=j:=by
  rw[seqIndex_of h0 h5]at h1;exact Option.some.inj h1
 exact item_listR pl.isList h0 24 (by rw[hj];simpa using ew) fin hs
 ·have hj:(i+(its.toArray.size:Int)).toNat=j:=by
   rw[seqIndex_neg 24 h4]at h1;rw[ZP,<-hl];exact Option.some.inj h1
  exact subscriptTail_builtinR (x:=w) pl.isList.typeIs slot_list_getitem.lookup
   (wpAny_getItem_list_neg (Q:=λr s'=>r=w/\EP X a_ σ Q r s') pl.isList 24 (by rw[ZP]<;>omega) 24 (by rw[hj];simpa using ew) ⟨rfl,fin⟩) hs
theorem LZ:IxR X (Rz X.K):=by
 intro value z_ a_ s σ H x y v u Q I rx ry h hs;let⟨p,xs,i,z,rfl,rfl,hq,he,q⟩:=h;cases rx;let⟨t,rfl⟩:=ry;let⟨its,r,pl,hz⟩:=I.tuple hq;let⟨j,h1,h2,h3,h4,h5⟩:=BC he;let⟨w,ew,rw'⟩:=r.get h2;have hl:=r.length;have hn:=wJ;have fin:EP X a_ σ Q w s:=⟨z,H,I,rw',q⟩;exact subscriptTail_builtinR (x:=w) pl.typeIs slot_tuple_getitem.lookup
  (getItem_tuple (j:=j) (Q:=λr s'=>r=w/\EP X a_ σ Q r s') pl 24 24 (by rw[ZP,<-hl];exact h1) ‹ew› ⟨rfl,fin⟩) hs
theorem xT(its:List Z5)(n j:Nat)(u:Z5):Obj.mapSeq (·.setIfInBounds j u) { cls:=.type "list",data:=.seq its.toArray n }={ cls:=.type "list",data:=.seq (its.set j u).toArray n }:=by
 simp[Obj.mapSeq]
theorem Inv.lst{a_:57}{σ:St}{H:Hp}{s:Z6}{p:Addr}{xs:List V}(I:47)(h:H p=some (.lst xs)) :
  ∃(its:List Z5) (n:Nat),bS xs its/\s.heap.get? p=some { cls:=.type "list",data:=.seq its.toArray n }/\xs.length<=ZC:=by
 let⟨z,its,n,r,e⟩:=I.hok p _ h;exact⟨its,n,r,e,z⟩
theorem Inv.lstUpd{a_:57}{σ:St}{H:Hp}{s:Z6}{p:Addr}{xs ys:List V}{its its':List Z5}{n n':Nat}{f:Obj->Obj}(I:47)(h:H p=some (.lst xs))
  (ho:s.heap.get? p=some { cls:=.type "list",data:=.seq its.toArray n }) (hf:f { cls:=.type "list",data:=.seq its.toArray n }={ cls:=.type "list",data:=.seq its'.toArray n' }) (r:bS ys its') (hz:ys.length<=ZC) (t:Nat) :
  Inv X a_ σ (upd H p (.lst ys)) { s with heap:=s.heap.update p f,toks:=t }:=by
 have e:(s.heap.update p f).get? p=some { cls:=.type "list",data:=.seq its'.toArray n' }:=by
  rw[XD f ho (by rw[hf]<;>rfl),hf]
 refine I.write (x:=p) (e:=p) (by rw[h];trivial) (.inl rfl) (λb u hb q=>(Heap.get?_update_other _ _ (Ne.symm hb)).trans q) ⟨_,e⟩ ?_;exact⟨hz,its',n',r,e⟩
def ON:V->V->V->Hp->(Hp->Prop)->Prop:=λo i v H Q=>∃p xs k j,o=.ref p/\i=.int k/\H p=some (.lst xs)/\ixN xs.length k=some j/\Q (upd H p (.lst (xs.set j v)))
theorem CO:Qg X ON:=by
 intro a_ s σ H o i v ov iv u Q I ro ri rv h;let⟨p,xs,k,j,rfl,rfl,hp,hj,q⟩:=h;cases ro;let⟨t,rfl⟩:=ri;let⟨its,n,r,ho,hz⟩:=I.lst hp;let⟨h1,h2,h3,h4⟩:=Az hj;have hl:=r.length;have hn:=wJ;have I':Inv X a_ σ (upd H p (.lst (xs.set j v))) { s with heap:=s.heap.update p (Obj.mapSeq (·.setIfInBounds j u)) }:=
  I.lstUpd hp ho (xT its n j u) (r.set rv j) (by rw[XO];exact hz) s.toks
 by_cases h0:0<=k;have hk:k.toNat=j:=by
  rw[seqIndex_of h0 h4]at h1;exact Option.some.inj h1
 exact PySem.W.ki_setAt ho h0 24 (by rw[ZP,<-hl];exact h4) (by rw[hk];exact⟨_,I',q⟩);have hk:(k+(its.toArray.size:Int)).toNat=j:=by
  rw[seqIndex_neg 24 h3]at h1;rw[ZP,<-hl];exact Option.some.inj h1
 exact PySem.W.ki_setBack ho 24 (by rw[ZP,<-hl];exact h3) 24 (by rw[hk];exact⟨_,I',q⟩)
theorem sG(lo hi:Option Int)(n:Nat):(sliceBounds lo hi none n).1=((HT.sIx n 0 lo:Nat):Int)/\(sliceBounds lo hi none n).2.1=((HT.sIx n n hi:Nat):Int)/\(sliceBounds lo hi none n).2.2=1:=by
 refine⟨?_,?_,rfl⟩
 ·cases lo with
  |none=>simp[sliceBounds,HT.sIx]
  |some i=>
   simp only[sliceBounds,HT.sIx,Option.getD_none,show(1:Int)>0 by decide,if_true];by_cases h:i<0
   ·simp only[h,if_true]<;>omega
   ·simp only[h,if_false]<;>omega
 ·cases hi with
  |none=>simp[sliceBounds,HT.sIx]
  |some i=>
   simp only[sliceBounds,HT.sIx,Option.getD_none,show(1:Int)>0 by decide,if_true];by_cases h:i<0
   ·simp only[h,if_true]<;>omega
   ·simp only[h,if_false]<;>omega
theorem qw(its:List Z5)(lo hi:Option Int):slicePick its.toArray lo hi none=((its.drop (HT.sIx its.length 0 lo)).take (HT.sIx its.length its.length hi-HT.sIx its.length 0 lo)).toArray:=by
 let⟨h1,h2,h3⟩:=sG lo hi its.toArray.size;unfold slicePick;rw[h1,h2,h3];simp only[sliceRange_one,pick_run,ZP]<;>rfl
def Ry(K:Z3):V->Option Int->Option Int->Hp->VK->Prop:=λx lo hi H Q=>∃a xs,x=.ref a/\SqL K H a xs/\∀p,H p=none->Q (.ref p) (upd H p (.lst (Bi xs lo hi)))
theorem zp:SlR X (Ry X.K):=by
 intro a_ s σ H x v vl vu lo hi sl Q I rx hs pl pu h;let⟨a,xs,rfl,hx,q⟩:=h;cases rx;let⟨its,r,ht,hz⟩:=I.list hx;have h_:=r.length;refine⟨"list",_,slot_list_getitem.lookup,ht.isList.typeIs,?_⟩;refine wpAny_getItem_list_slice ht.isList hs pl pu .none 51 ?_ (by rw[ZP]<;>omega);rw[qw,<-h_];refine⟨.ref s.heap.objs.size,_,I.laid (t':=s.toks) (o:=.lst (Bi xs lo hi)) (λb ob q=>Z7 _ q) (ZW _) ?_,rfl,q _ (I.hok.fresh (ZW _))⟩;exact⟨X2 (oz xs lo hi) hz,_,0,(r.drop (HT.sIx xs.length 0 lo)).take (HT.sIx xs.length xs.length hi-HT.sIx xs.length 0 lo),ZG _ rfl⟩
def o9:V->Bool
 |.non=>true
 |.bl _=>true
 |.int _=>true
 |.str _=>true
 |_=>false
def eqV:V->V->Bool
 |.non,.non=>true
 |.bl a,.bl b=>a == b
 |.bl a,.int b=>(if a then 1 else 0) == b
 |.int a,.bl b=>a == (if b then 1 else 0)
 |.int a,.int b=>a == b
 |.str a,.str b=>a == b
 |_,_=>false
theorem Ms{A:Ze}{s:Z6}{y x:V}{u v:Z5}(ry:cP y u)(rx:cP x v)(fy:o9 y=true)(fx:o9 x=true):SeqAt.EqAt A s u v (eqV y x):=by
 cases y with
 |non=>
  cases ry;cases x with
  |non=>cases rx;exact SeqAt.EqAt.same _
  |bl b=>cases rx;exact SeqAt.EqAt.none_bool b
  |int b=>let⟨t,rfl⟩:=rx;exact SeqAt.EqAt.none_int b t
  |str b=>let⟨t,rfl⟩:=rx;exact SeqAt.EqAt.none_str b t
  |_=>exact absurd (show false=true from fx) ZF
 |bl a=>
  cases ry;cases x with
  |non=>cases rx;exact SeqAt.EqAt.bool_none a
  |bl b=>cases rx;exact SeqAt.EqAt.bool_bool a b
  |int b=>let⟨t,rfl⟩:=rx;exact SeqAt.EqAt.bool_int a b t
  |str b=>let⟨t,rfl⟩:=rx;exact SeqAt.EqAt.bool_str a b t
  |_=>exact absurd (show false=true from fx) ZF
 |int a=>
  let⟨t',rfl⟩:=ry;cases x with
  |non=>cases rx;exact SeqAt.EqAt.int_none a t'
  |bl b=>cases rx;exact SeqAt.EqAt.int_bool a t' b
  |int b=>let⟨t,rfl⟩:=rx;exact SeqAt.EqAt.int_int a t' b t
  |str b=>let⟨t,rfl⟩:=rx;exact SeqAt.EqAt.int_str a t' b t
  |_=>exact absurd (show false=true from fx) ZF
 |str a=>
  let⟨t',rfl⟩:=ry;cases x with
  |non=>cases rx;exact SeqAt.EqAt.str_none a t'
  |bl b=>cases rx;exact SeqAt.EqAt.str_bool a t' b
  |int b=>let⟨t,rfl⟩:=rx;exact SeqAt.EqAt.str_int a t' b t
  |str b=>let⟨t,rfl⟩:=rx;exact SeqAt.EqAt.str_str a t' b t
  |_=>exact absurd (show false=true from fx) ZF
 |_=>exact absurd (show false=true from fy) ZF
def eqU(x:V)(u:Z5):Bool:=match u with
 |.none=>eqV .non x
 |.bool b=>eqV (.bl b) x
 |.int i _=>eqV (.int i) x
 |.str z _=>eqV (.str z) x
 |_=>false
theorem Fh{x y:V}{u:Z5}(r:cP y u)(f:o9 y=true):eqU x u=eqV y x:=by
 cases y with
 |non=>cases r;rfl
 |bl b=>cases r;rfl
 |int i=>let⟨t,rfl⟩:=r;rfl
 |str z=>let⟨t,rfl⟩:=r;rfl
 |_=>exact absurd (show false=true from f) ZF
theorem oO{x:V}:∀{xs:List V} {us:List Z5},bS xs us->xs.all o9=true->us.any (eqU x)=xs.any λy=>eqV y x
 |_,_,.nil,_=>rfl
 |y::xs,u::us,.cons r t,f=>by
  rw[List.all_cons,Xr]at f;rw[XR,XR,Fh r f.1,oO t f.2]
theorem kx{A:Ze}{s:Z6}{x:V}{v:Z5}(rx:cP x v)(fx:o9 x=true):∀{xs:List V} {us:List Z5},bS xs us->xs.all o9=true->∀u∈us,SeqAt.EqAt A s u v (eqU x u)
 |_,_,.nil,_=>λu hu=>by cases hu
 |y::xs,u::us,.cons r t,f=>λu' hu=>by
  rw[List.all_cons,Xr]at f;rcases ZT.mp hu with rfl|hu;rw[Fh r f.1];exact Ms r rx f.1 fx;exact kx rx fx t f.2 u' hu
def inV(x:V)(xs:List V):Bool:=xs.any λy=>eqV y x
def rIn(K:Z3)(neg:Bool):R2:=λx y H Q=>∃p xs,y=.ref p/\(SqL K H p xs\/SqT K H p xs)/\o9 x=true/\xs.all o9=true/\Q (.bl (if neg then !inV x xs else inV x xs)) H
theorem z8:OpR X (compareOp .In) (rIn X.K false):=by
 intro a_ s σ H x y v u Q I rx ry h;let⟨p,xs,rfl,hq,fx,fs,q⟩:=h;cases ry;rcases hq with hq|hq;let⟨its,r,pl,hz⟩:=I.list hq;refine SeqAt.in_listAt (eqU x) pl.isList (λw hw=>kx rx fx r fs w ‹hw›) ⟨.bl _,H,I,rfl,?_⟩;rw[show its.toArray.any (eqU x)=its.any (eqU x)by simp,oO r fs];exact q;let⟨its,r,pl,hz⟩:=I.tuple hq;refine SeqAt.in_tupleAt (eqU x) pl (λw hw=>kx rx fx r fs w ‹hw›) ⟨.bl _,H,I,rfl,?_⟩;rw[show its.toArray.any (eqU x)=its.any (eqU x)by simp,oO r fs];exact q
theorem mv:OpR X (compareOp .NotIn) (rIn X.K true):=by
 intro a_ s σ H x y v u Q I rx ry h;let⟨p,xs,rfl,hq,fx,fs,q⟩:=h;cases ry;rcases hq with hq|hq;let⟨its,r,pl,hz⟩:=I.list hq;refine SeqAt.notIn_listAt (eqU x) pl.isList (λw hw=>kx rx fx r fs w ‹hw›) ⟨.bl _,H,I,rfl,?_⟩;rw[show its.toArray.any (eqU x)=its.any (eqU x)by simp,oO r fs];exact q;let⟨its,r,pl,hz⟩:=I.tuple hq;refine SeqAt.notIn_tupleAt (eqU x) pl (λw hw=>kx rx fx r fs w ‹hw›) ⟨.bl _,H,I,rfl,?_⟩;rw[show its.toArray.any (eqU x)=its.any (eqU x)by simp,oO r fs];exact q
theorem t9:eU X (.builtin "len") (λxs H Q=>∃p ys,xs=[.ref p]/\(SqL X.K H p ys\/SqT X.K H p ys)/\Q (.int ys.length) H):=by
 intro a_ s σ H xs us Q I r h;let⟨p,ys,rfl,hq,q⟩:=h;let⟨u,rfl,rx⟩:=jv r;cases rx;have hn:=wJ;rcases hq with hq|hq
 ·let⟨its,r',pl,hz⟩:=I.list hq;have h_:=r'.length;exact Calls.call_len_list pl.isList (by simp only[ZP]<;>omega) ⟨.int ys.length,H,I.tok _,⟨s.toks+1,by rw[ZP,h_]⟩,q⟩
 ·let⟨its,r',pl,hz⟩:=I.tuple hq;have h_:=r'.length;exact len_tuple pl (by simp only[ZP]<;>omega) ⟨.int ys.length,H,I.tok _,⟨s.toks+1,by rw[ZP,h_]⟩,q⟩
theorem eU.or{f:Z5}{r r':List V->Hp->VK->Prop}(h:eU X f r)(h':eU X f r'):eU X f (λxs H Q=>r xs H Q\/r' xs H Q):=by
 intro a_ s σ H xs us Q I rs q;rcases q with q|q;exact h a_ s σ H xs us Q I rs q;exact h' a_ s σ H xs us Q I rs q
theorem bJ:eU X (.type "list") (λxs H Q=>∃p ys,xs=[.ref p]/\(SqL X.K H p ys\/SqT X.K H p ys)/\∀l,H l=none->Q (.ref l) (upd H l (.lst ys))):=by
 intro a_ s σ H xs us Q I r h;let⟨p,ys,rfl,hq,q⟩:=h;let⟨u,rfl,rx⟩:=jv r;cases rx;have fin:∀(its:List Z5),bS ys its->ys.length<=ZC->∀(h':Heap) (c':Nat),(∀b o',s.heap.get? b=some o'->h'.get? b=some o')->
   h'.get? s.heap.objs.size=some { cls:=.type "list",dict:=none,data:=.seq its.toArray c',slots:=#[] }->EP X a_ σ Q 86 { s with heap:=h' }:=λits r' hz h' c' kp e=>
  ⟨.ref s.heap.objs.size,_,I.laid (t':=s.toks) kp (ZW _) (show bU X.prog X.w _ h' _ (.lst ys)from⟨hz,its,c',r',e⟩),rfl,q _ (I.hok.fresh (ZW _))⟩
 rcases hq with hq|hq
 ·let⟨its,r',pl,hz⟩:=I.list hq;have h_:=r'.length;let⟨o,ho,hc,n,hd⟩:=pl.isList;exact call_list_seq p (.inl rfl) ho hc hd (λh' c' kp e=>fin its r' hz h' c' kp e) (by simp only[ZP]<;>omega)
 ·let⟨its,r',pl,hz⟩:=I.tuple hq;have h_:=r'.length;let⟨o,ho,hc,n,hd⟩:=pl;exact call_list_seq p (.inr rfl) ho hc hd (λh' c' kp e=>fin its r' hz h' c' kp e) (by simp only[ZP]<;>omega)
theorem cL:eU X (.type "tuple") (λxs H Q=>∃p ys,xs=[.ref p]/\((SqL X.K H p ys/\∀l,H l=none->Q (.ref l) (upd H l (.tup ys)))\/(SqT X.K H p ys/\Q (.ref p) H))):=by
 intro a_ s σ H xs us Q I r h;let⟨p,ys,rfl,h⟩:=h;let⟨u,rfl,rx⟩:=jv r;cases rx;rcases h with⟨hq,q⟩|⟨hq,q⟩
 ·let⟨its,r',pl,hz⟩:=I.list hq;have h_:=r'.length;refine call_tuple_list pl.isList (λh' kp=>?_) (by simp only[ZP]<;>omega);have I1:Inv X a_ σ H { s with heap:=h' }:=I.kept (t':=s.toks) kp;have I2:Inv X a_ σ (upd H h'.objs.size (.tup ys)) { s with heap:=h'.push { cls:=.type "tuple",data:=.seq its.toArray } }:=
   I1.laid (t':=s.toks) (λb o e=>Z7 _ e) (ZW _) (show bU X.prog X.w _ _ _ (.tup ys)from⟨hz,its,r',EC.new _ _⟩)
  exact⟨.ref h'.objs.size,_,I2,rfl,q _ (I1.hok.fresh (ZW _))⟩
 let⟨its,r',pl,hz⟩:=I.tuple hq;exact call_tuple_same pl ⟨.ref p,H,I,rfl,q⟩
def tyV(K:Z3)(T:String)(x:V)(H:Hp):Prop:=match x with
 |.str _=>T="str"
 |.int _=>T="int"
 | .ref p=>(T="list"/\∃xs,SqL K H p xs)\/(T="tuple"/\∃o,K.lookup p=some o/\o.cls=.type "tuple"/\o.dict=none)\/
   (T="dict"/\((∃kvs,H p=some (.dK kvs))\/∃kvs,H p=some (.dT kvs)))\/(T="set"/\∃S n,H p=some (.set S n))
 |_=>False
theorem J9{a_:57}{σ:St}{H:Hp}{s:Z6}{T:String}{x:V}{v:Z5}(I:47)(r:cP x v)(ty:tyV X.K T x H) :
  s.TypeIs v T/\∀a,v=.ref a->∃ob,s.heap.get? a=some ob/\ob.dict=none:=by
 cases x with
 |str z=>
  let⟨t,rfl⟩:=r;cases (show T="str" from ty);exact⟨typeIs_str s z t,λ_ e=>nomatch e⟩
 |int i=>
  let⟨t,rfl⟩:=r;cases (show T="int" from ty);exact⟨typeIs_int s i t,λ_ e=>nomatch e⟩
 |ref p=>
  cases r;rcases ty with⟨rfl,xs,hq⟩|⟨rfl,o,hk,hc,hd⟩|⟨rfl,hk⟩|⟨rfl,S,n,hk⟩;let⟨its,_,pl,_⟩:=I.list hq;refine⟨pl.isList.typeIs,λa e=>?_⟩;cases e;let⟨o,n,e,c,hd,_⟩:=pl;exact⟨o,e,hd⟩;refine⟨⟨o,I.kIn p o hk,hc⟩,λa e=>?_⟩;cases e;exact⟨o,I.kIn _ o hk,hd⟩;have z:∃o,s.heap.get? p=some o/\o.ExactDict:=by
   rcases hk with⟨kvs,hk⟩|⟨kvs,hk⟩;let⟨_,_,_,_,o,_,_,e,ex,_⟩:=I.hok p _ hk;exact⟨o,e,ex⟩;let⟨_,_,_,_,o,_,_,e,ex,_⟩:=I.hok p _ hk;exact⟨o,e,ex⟩
  let⟨o,e,ex⟩:=z;refine⟨⟨o,e,ex.1⟩,λa e2=>?_⟩;cases e2;exact⟨o,e,ex.2.1⟩;let⟨o,_,_,_,e,ex,_⟩:=I.hok p _ hk;refine⟨⟨o,e,ex.1⟩,λa e2=>?_⟩;cases e2;exact⟨o,e,ex.2.1⟩
 |_=>exact False.elim ty
def tBM(K:Z3)(T:String)(r:V->List V->Hp->VK->Prop)(to:TE)(t:TA):TE:=λσ H Q=>to σ H λx H1=>tyV K T x H1/\t σ H1 λxs H2=>r x xs H2 Q
variable{es:List ZN}{to:TE}{t:TA}{name:Str}{l_ n_:Pos}{T id:String}{r:V->List V->Hp->VK->Prop}
theorem O6(pa:PlainAttrs T)(slot:Slot T name id)(hty:typeOf (.builtin id)=pure (.type "method_descriptor"))(hm:MtR X id r)(ho:PE X o to)(ha:PA X (e::es) t)
  (F_:attributeBase o name X.env (eval o X.env)=eval o X.env:=by rfl)
  (P_:((X8 n_ (ZU (e::es) X.env)).all (λx=>!x.1)&&(backToKw n_ (keywordEach [] X.env)).all (λx=>x.1.isSome)
   && decide ((e::es).length+([]:List Keyword).length+(if ([]:List Keyword).isEmpty then 0 else 1)<30))=true:=by rfl)
  (D_:(l_.endLine == n_.line)=true:=by rfl) (hs:ZU (e::es) X.env=(false,eval e X.env)::ZU es X.env:=by rfl) (B_:(X8 n_ (ZU es X.env)).any (·.1)=false:=by rfl) :
  PE X (.Call (.Attribute o name l_) (e::es) [] n_) (tBM X.K T r to t):=by
 intro a_ s σ H Q I h;refine wpAny_Call_method_late F_ P_ D_ rfl (thn (ho a_ s σ H _ I h) λv s1 hz=>?_);let⟨x,H1,I1,r1,ty,q1⟩:=hz;let⟨h1,h2⟩:=J9 I1 r1 ty;refine⟨T,id,pa,slot,hty,h1,h2,?_⟩;have hA:=ha n_ a_ s1 σ H1 _ I1 q1;rw[hs]at hA ⊢;refine Calls.callWith_builtin (by show(false||(X8 n_ (ZU es X.env)).any (·.1))=false;rw[B_]<;>rfl) (Calls.evalArgs_plain ?_);exact thn hA λus s2 ⟨vs,H2,I2,r2,q2⟩=>hm a_ s2 σ H2 x vs v us Q I2 r1 r2 q2
end
def MtM(X:Cx)(id:String)(r:V->List V->Hp->VK->Prop):Prop:=
 ∀(a_:57) (s:Z6) (σ:St) (H:Hp) (x:V) (xs:List V) (v:Z5) (us:List Z5) (Q:VK),Inv X a_ σ H s->cP x v->bS xs us->r x xs H Q->
  wpAny 49 X.A (call (.builtin id) (v::us)) (EP X a_ σ Q) X.xe s
theorem bS.one:∀{x:V} {us:List Z5},bS [x] us->∃u,us=[u]/\cP x u
 |_,_,.cons r .nil=>⟨_,rfl,r⟩
theorem bS.eraseIdx:∀{xs:List V} {us:List Z5} (i:Nat),bS xs us->bS (xs.eraseIdx i) (us.eraseIdx i)
 |_,_,_,.nil=>.nil
 |_,_,0,.cons _ t=>t
 |_,_,i+1,.cons r t=>.cons r (bS.eraseIdx i t)
theorem bS.rep{xs:List V}{us:List Z5}(h:bS xs us):∀k:Nat,bS (ZO k xs).flatten (ZO k us).flatten
 |0=>.nil
 |k+1=>by
  rw[XY,XY,Xj,Xj];exact bS.append h (bS.rep h k)
theorem tu{α:Type}:∀(l:List α) (i:Nat),(l.eraseIdx i).length<=l.length
 |[],_=>ZW _
 |_::_,0=>Xu _
 |_::r,i+1=>Nat.succ_le_succ (tu r i)
theorem ow(its:List Z5):∀(k:Nat) (acc:List Z5),
  List.foldl (λx1 x2=>x1++x2) acc.toArray (ZO k its.toArray)=(acc++(ZO k its).flatten).toArray
 |0,acc=>by simp
 |k+1,acc=>by
  have e:acc.toArray++its.toArray=(acc++its).toArray:=by simp
  have e2:(acc++its)++(ZO k its).flatten=acc++(ZO (k+1) its).flatten:=by
   rw[XY,Xj,ZJ]
  rw[<-e2,<-ow its k (acc++its),<-e,XY,List.foldl_cons]
variable{a_:List (Addr×Obj)}{σ:St}{H:Hp}{s:Z6}
section
variable{l:Addr}{xs ys:List V}
theorem Inv.lset{its its':List Z5}{n:Nat}{f:Array Z5->Array Z5}{t':Nat}(I:47)(hH:H l=some (.lst xs))
  (e:s.heap.get? l=some { cls:=.type "list",data:=.seq its.toArray n }) (hf:f its.toArray=its'.toArray) (hv:bS ys its') (hz:ys.length<=ZC) :
  Inv X a_ σ (upd H l (.lst ys)) { s with heap:=s.heap.update l (Obj.mapSeq f),toks:=t' }:=by
 have q:=PySem.IsL.update e f;rw[hf]at q;refine I.write (x:=l) (e:=l) (by rw[hH];exact trivial) (.inl rfl) (λb' u hb hu=>(Heap.get?_update_other s.heap (Obj.mapSeq f) (Ne.symm hb)).trans hu) ⟨_,q⟩ ?_;exact⟨hz,its',_,hv,q⟩
theorem Inv.lnew{its:List Z5}{t':Nat}(I:47)(hv:bS ys its)(hz:ys.length<=ZC) :
  Inv X a_ σ (upd H s.heap.objs.size (.lst ys)) { s with heap:=s.heap.push { cls:=.type "list",data:=.seq its.toArray },toks:=t' }:=
 I.laid (λ_ _ q=>Z7 _ q) (ZW _) ⟨hz,its,0,hv,ZG _ rfl⟩
def Inv.fresh(I:47):H s.heap.objs.size=none:=I.hok.fresh (ZW _)
theorem Inv.lstM(I:47)(hH:H l=some (.lst xs)):xs.length<=ZC/\∃(its:List Z5) (n:Nat),bS xs its/\xs.length=its.length/\s.heap.get? l=some { cls:=.type "list",data:=.seq its.toArray n }:=by
 let⟨z,its,n,r,e⟩:=I.hok l _ hH;exact⟨z,its,n,r,r.length,e⟩
theorem Dx{n:Nat}(h:n<=ZC):Builtin.List.listTooLong n=false:=by
 unfold Builtin.List.listTooLong;exact Xf 24
end
def zH:V->List V->Hp->VK->Prop:=λx vs H Q=>∃l xs y,x=.ref l/\vs=[y]/\H l=some (.lst xs)/\xs.length<ZC/\Q .non (upd H l (.lst (xs++[y])))
theorem nZ:MtM X "list.append" zH:=by
 intro a_ s σ H x vs v us Q I rx rv h;let⟨l,xs,y,rfl,rfl,hH,hz,q⟩:=h;cases rx;let⟨u,rfl,ru⟩:=rv.one;let⟨z,its,n,r,hl,e⟩:=I.lstM hH;refine call_meets F.slot_list_append ⟨_,e,rfl⟩ F.entry_list_append (F.args_list_append_2 _ _) (PySem.list_append l its.toArray n u (by rw[ZP];omega)) ⟨e,?_⟩;refine⟨.non,_,I.lset (its':=its++[u]) hH e 51 (r.append (.cons ru .nil)) ?_,rfl,q⟩;rw[ZV,List.length_singleton];omega
def ET:V->List V->Hp->VK->Prop:=λx vs H Q=>∃l xs i k y,x=.ref l/\vs=[.int i]/\H l=some (.lst xs)/\-(2^63)<=i/\i<2^63/\seqIndex? i xs.length=some k/\xs[k]?=some y/\Q y (upd H l (.lst (xs.eraseIdx k)))
theorem DC:MtM X "list.pop" ET:=by
 intro a_ s σ H x vs v us Q I rx rv h;let⟨l,xs,i,k,y,rfl,rfl,hH,h1,h2,hk,hy,q⟩:=h;cases rx;let⟨u,rfl,ru⟩:=rv.one;let⟨t,rfl⟩:=ru;let⟨z,its,n,r,hl,e⟩:=I.lstM hH;let⟨w,hw,rw'⟩:=r.get hy;refine call_meets F.slot_list_pop ⟨_,e,rfl⟩ F.entry_list_pop (F.args_list_pop_2 _ _)
  (MeetsSeq.list_pop_at l its.toArray n i t k w (fitsIndex_both h1 h2) (by rw[ZP,<-hl];exact hk) (by rw[<-X7];exact hw) (by rw[ZP];omega)) ⟨e,?_⟩
 refine⟨y,_,I.lset (its':=its.eraseIdx k) hH e ?_ (r.eraseIdx k) ?_,rw',q⟩;show its.toArray.eraseIdxIfInBounds k=(its.eraseIdx k).toArray;rw[List.eraseIdxIfInBounds_toArray];have:=tu xs k;omega
def MZ:R2:=λx y H Q=>∃l b xs zs,x=.ref l/\y=.ref b/\H l=some (.lst xs)/\H b=some (.lst zs)/\xs.length+zs.length<=ZC/\∀p,H p=none->Q (.ref p) (upd H p (.lst (xs++zs)))
theorem Lw:OpR X (binaryOp .Add) MZ:=by
 intro a_ s σ H x y v u Q I rx ry h;let⟨l,b,xs,zs,rfl,rfl,hH,hB,hz,q⟩:=h;cases rx;cases ry;let⟨z,its,n,r,hl,e⟩:=I.lstM hH;let⟨z2,its2,n2,r2,hl2,e2⟩:=I.lstM hB;refine PySem.P.add_list e e2 ?_ (by rw[ZP,ZP];omega);have ea:its.toArray++its2.toArray=(its++its2).toArray:=by simp
 rw[ea];exact⟨.ref _,_,I.lnew (t':=s.toks) (r.append r2) (by rw[ZV];omega),rfl,q _ I.fresh⟩
def OO:R2:=λx y H Q=>∃l k xs,x=.ref l/\y=.int k/\H l=some (.lst xs)/\-(2^63)<=k/\k<2^63/\xs.length*k.toNat<=ZC/\
 ∀p,H p=none->Q (.ref p) (upd H p (.lst (ZO k.toNat xs).flatten))
theorem uT{α:Type}(xs:List α)(k:Nat):(ZO k xs).flatten.length=k*xs.length:=by
 induction k with
 |zero=>simp
 |succ k ih=>rw[XY,Xj,ZV,ih,Nat.succ_mul,Nat.add_comm]
theorem Lu:OpR X (binaryOp .Mult) OO:=by
 intro a_ s σ H x y v u Q I rx ry h;let⟨l,k,xs,rfl,rfl,hH,h1,h2,hz,q⟩:=h;cases rx;let⟨t,rfl⟩:=ry;let⟨z,its,n,r,hl,e⟩:=I.lstM hH;have h_:its.toArray.size*k.toNat<=ZC:=by rw[ZP,<-hl];exact hz
 have s_:¬its.toArray.size*k.toNat>(2^63-1) / 8:=by
  have:(ZC:Nat)<=(2^63-1) / 8:=by decide
  omega
 have hfit:¬(!Builtin.List.listFitsIndex k)=true:=by
  rw[fitsIndex_both h1 h2];exact ZF
 have hlong:¬Builtin.List.listTooLong (its.toArray.size*k.toNat)=true:=by
  rw[Dx h_];exact ZF
 have hnew:List.foldl (λx1 x2=>x1++x2) #[] (ZO (if its.toArray.isEmpty=true then 0 else k.toNat) its.toArray)=(ZO k.toNat its).flatten.toArray:=by
  have f0:∀m:Nat,List.foldl (λx1 x2=>x1++x2) #[] (ZO m its.toArray)=(ZO m its).flatten.toArray:=λm=>by
   have:=ow its m [];rw[X6]at this;exact this
  rw[f0];cases its with
  |nil=>simp
  |cons a r'=>rw[Xd 51]
 refine wpAny_binaryOp_repeat_ref (T:="list") (U:="int") 54 ⟨_,e,rfl⟩ (λs'=>typeIs_int s' k t) noFill_list_mul F.fills_int_mul F.slot_int_rmul repeat_list F.slot_int_index.lookup
  (call_meets F.slot_int_rmul (typeIs_int s k t) F.entry_int_rmul (F.args_int_rmul_2 _ _) (int___rmul___int_list k t l its.toArray n)
   ⟨e,rfl,⟨_,e,rfl⟩,call_meets F.slot_list_mul ⟨_,e,rfl⟩ F.entry_list_mul (F.args_list_mul_2 _ _) (AutoListH.list___mul___list_int_3 l its.toArray n k t hfit s_ hlong) ⟨e,?_⟩⟩)
 rw[hnew];exact⟨.ref _,_,I.lnew (t':=s.toks) (r.rep k.toNat) (by rw[uT,Nat.mul_comm];exact hz),rfl,q _ I.fresh⟩
section
variable{κ:Type}[DecidableEq κ]
def fk(kvs:List (κ×V))(k:κ):Option V:=(kvs.find? λkv=>decide (kv.1=k)).map (·.2)
def mL(kvs:List (κ×V))(k:κ)(v:V):List (κ×V):=
 if (kvs.any λkv=>decide (kv.1=k))=true then kvs.map (λkv=>if kv.1=k then(kv.1,v)else kv)else kvs++[(k,v)]
def d3{p:κ×V}{r:List (κ×V)}{k:κ}(e:p.1=k):fk (p::r) k=some p.2:=by simp[fk,Zl,e]
def d4{p:κ×V}{r:List (κ×V)}{k:κ}(e:¬p.1=k):fk (p::r) k=fk r k:=by simp[fk,Zl,e]
theorem jZ(k:κ):∀kvs:List (κ×V),(kvs.any λkv=>decide (kv.1=k))=(fk kvs k).isSome
 |[]=>rfl
 |p::r=>by
  rw[XR];by_cases e:p.1=k;simp only[d3 e,Xa e,Bool.true_or,Option.isSome_some];rw[d4 e,Xf e,Bool.false_or];exact jZ k r
theorem vX(k j:κ)(y:V):∀kvs:List (κ×V),fk (kvs.map λkv=>if kv.1=k then(kv.1,y)else kv) j=(fk kvs j).map λx=>if j=k then y else x
 |[]=>rfl
 |p::r=>by
  have ih:=vX k j y r;rw[ZR];by_cases h:p.1=k;rw[Xe h];by_cases e:p.1=j;rw[d3 (p:=(p.1,y)) e,d3 e,XU,Xe (e.symm.trans h)];rw[d4 (p:=(p.1,y)) e,d4 e,ih];rw[Xd h];by_cases e:p.1=j;rw[d3 (p:=p) e,d3 e,XU,Xd (λz=>h (e.trans z))];rw[d4 (p:=p) e,d4 e,ih]
theorem sj(k j:κ)(y:V):∀kvs:List (κ×V),fk kvs k=none->fk (kvs++[(k,y)]) j=if j=k then some y else fk kvs j
 |[],_=>by
  by_cases e:k=j;rw[Xe e.symm];exact d3 (p:=(k,y)) e;rw[Xd (λz=>e z.symm)];exact d4 (p:=(k,y)) e
 |p::r,hn=>by
  rw[Zu];have hk:¬p.1=k:=λz=>by rw[d3 z]at hn;cases hn
  rw[d4 hk]at hn;have ih:=sj k j y r hn;by_cases e:p.1=j;rw[d3 e,d3 e,Xd (λz=>hk (e.trans z))];rw[d4 e,d4 e,ih]
theorem CF(kvs:List (κ×V))(k j:κ)(y:V):fk (mL kvs k y) j=if j=k then some y else fk kvs j:=by
 unfold mL;by_cases a:(kvs.any λkv=>decide (kv.1=k))=true;rw[Xe a,vX];rw[jZ]at a;by_cases e:j=k;let⟨x,hx⟩:=Option.isSome_iff_exists.mp a;rw[Xe e,e,hx,XU,Xe rfl];rw[Xd e];cases fk kvs j with
 |none=>rfl
 |some x=>rw[XU,Xd e]
 rw[Xd a];refine sj k j y kvs ?_;rw[jZ]at a;cases q:fk kvs k with
 |none=>rfl
 |some x=>rw[q]at a;exact(a rfl).elim
theorem jJ(kvs:List (κ×V))(k:κ)(v:V):(mL kvs k v).length<=kvs.length+1:=by
 unfold mL;split;rw[ZQ];omega;rw[ZV,ZM,XX];omega
theorem rS.isSome_eq{o:Option V}{u:Option Z5}(r:rS o u):o.isSome=u.isSome:=by
 cases o with
 |none=>cases u with
  |none=>rfl
  |some _=>exact(show False from r).elim
 |some _=>cases u with
  |none=>exact(show False from r).elim
  |some _=>rfl
theorem KV.val{kvs:List (κ×V)}{vs:List (κ×Z5)}(r:KV kvs vs)(k:κ):rS (fk kvs k) (valueAt vs k):=by
 unfold KV at r;induction r with
 |nil=>exact True.intro
 |@cons p q ps qs h t ih=>
  let⟨h1,h2⟩:=h;by_cases e:p.1=k;have e':q.1=k:=h1.symm.trans e;have b:valueAt (q::qs) k=some q.2:=by simp[valueAt,Zl,e']
  rw[d3 e,b];exact h2;have e':¬q.1=k:=λz=>e (h1.trans z);have b:valueAt (q::qs) k=valueAt qs k:=by simp[valueAt,Zl,e']
  rw[d4 e,b];exact ih
theorem KV.any{kvs:List (κ×V)}{vs:List (κ×Z5)}(r:KV kvs vs)(k:κ):(kvs.any λkv=>decide (kv.1=k))=vs.any λkv=>decide (kv.1=k):=by
 unfold KV at r;induction r with
 |nil=>rfl
 |cons h t ih=>rw[XR,XR,ih,h.1]
theorem KV.repl{kvs:List (κ×V)}{vs:List (κ×Z5)}(r:KV kvs vs)(k:κ){y:V}{u:Z5}(ry:cP y u) :
  KV (kvs.map λkv=>if kv.1=k then(kv.1,y)else kv) (vs.map λkv=>if kv.1=k then(kv.1,u)else kv):=by
 unfold KV at r ⊢;induction r with
 |nil=>exact .nil
 |@cons p q ps qs h t ih=>
  rw[ZR,ZR];refine .cons ?_ ih;let⟨h1,h2⟩:=h;by_cases e:p.1=k;rw[Xe e,Xe (h1.symm.trans e)];exact⟨h1,ry⟩;rw[Xd e,Xd (λz=>e (h1.trans z))];exact⟨h1,h2⟩
theorem KV.put{kvs:List (κ×V)}{vs:List (κ×Z5)}(r:KV kvs vs)(k:κ){y:V}{u:Z5}(ry:cP y u):KV (mL kvs k y) (stored vs k u):=by
 unfold mL stored;rw[r.any k];by_cases e:(vs.any λkv=>decide (kv.1=k))=true;rw[Xe e,Xe e];exact r.repl k ry;rw[Xd e,Xd e];exact Paired.snoc r ⟨rfl,ry⟩
def KV.length{kvs:List (κ×V)}{vs:List (κ×Z5)}(r:KV kvs vs):kvs.length=vs.length:=Paired.length r
end
theorem xZ{P:Zq}{w:Zr}{k:Key}{u:Z5}(r:cP (kV k) u):(cX P w).is k u=true:=by
 cases k with
 |inl i=>let⟨t,e⟩:=(show ∃t,u=Value.int i t from r);subst e;exact uQ P w i t
 |inr x=>let⟨t,e⟩:=(show ∃t,u=Value.str x t from r);subst e;exact uP P w x t
theorem tH{P:Zq}{w:Zr}:∀{ks:List Key} {us:List Z5},bS (ks.map kV) us->ItemsAre (cX P w) ks us
 |[],_,r=>by rw[Zm]at r;cases r;exact .nil
 |k::ks,_,r=>by
  rw[ZR]at r;cases r with
  |cons h t=>exact .cons (xZ h) (tH t)
abbrev KT(H:Hp):List (List Key×V)->List (List Key×Addr×Z5)->Prop:=Paired λp q=>p.1=q.1/\H q.2.1=some (.tup (p.1.map kV))/\cP p.2 q.2.2
theorem KT.val{H:Hp}{kvs:List (List Key×V)}{xs:List (List Key×Addr×Z5)}(r:KT H kvs xs)(k:List Key):rS (fk kvs k) ((atKey xs k).map (·.2)):=by
 induction r with
 |nil=>exact True.intro
 |@cons p q ps qs h t ih=>
  let⟨h1,_,h2⟩:=h;by_cases e:p.1=k;have e':q.1=k:=h1.symm.trans e;have b:atKey (q::qs) k=some q.2:=by simp[atKey,Zl,e']
  rw[d3 e,b];exact h2;have e':¬q.1=k:=λz=>e (h1.trans z);have b:atKey (q::qs) k=atKey qs k:=by simp[atKey,Zl,e']
  rw[d4 e,b];exact ih
theorem KT.repl{H:Hp}{kvs:List (List Key×V)}{xs:List (List Key×Addr×Z5)}(r:KT H kvs xs)(k:List Key){y:V}{u:Z5}(ry:cP y u) :
  KT H (kvs.map λkv=>if kv.1=k then(kv.1,y)else kv) (xs.map (putAt k u)):=by
 induction r with
 |nil=>exact .nil
 |@cons p q ps qs h t ih=>
  rw[ZR,ZR];refine .cons ?_ ih;let⟨h1,h2,h3⟩:=h;unfold putAt;by_cases e:p.1=k;rw[Xe e,Xe (h1.symm.trans e)];exact⟨h1,h2,ry⟩;rw[Xd e,Xd (λz=>e (h1.trans z))];exact⟨h1,h2,h3⟩
theorem KT.put{H:Hp}{kvs:List (List Key×V)}{xs:List (List Key×Addr×Z5)}(r:KT H kvs xs)(k:List Key){b:Addr}{y:V}{u:Z5}(hb:H b=some (.tup (k.map kV)))(ry:cP y u) :
  KT H (mL kvs k y) (storedH xs k b u):=by
 have e:(kvs.any λkv=>decide (kv.1=k))=(atKey xs k).isSome:=by
  rw[jZ,(r.val k).isSome_eq,XS]
 unfold mL storedH;rw[e];by_cases q:(atKey xs k).isSome=true;rw[Xe q,Xe q];exact r.repl k ry;rw[Xd q,Xd q];exact Paired.snoc r ⟨rfl,hb,ry⟩
theorem KT.keeps{H H':Hp}{kvs:List (List Key×V)}{xs:List (List Key×Addr×Z5)}(r:KT H kvs xs)(ht:∀b ys,H b=some (.tup ys)->H' b=some (.tup ys)):KT H' kvs xs:=
 Paired.mapP r λ_ _ z=>⟨z.1,ht _ _ z.2.1,z.2.2⟩
variable{a:Addr}
section
variable{P:Zq}{w:Zr}{h:Heap}
def Ky{u:HO}(ok:HOk P w H h)(e:Rd H a u):bU P w H h a u:=e.ok ok
theorem yl{kvs:List (Key×V)}(ok:HOk P w H h)(e:Rd H a (.dK kvs)):kvs.length<=ZC/\(a == sysModules)=false/\∃vs,KV kvs vs/\h.DictOf (cX P w) a vs:=
 show bU P w H h a (.dK kvs)from Ky ok e
theorem Ec{kvs:List (Key×V)}(ok:HOk P w H h)(e:H a=some (.dK kvs)):kvs.length<=ZC/\(a == sysModules)=false/\∃vs,KV kvs vs/\h.DictOf (cX P w) a vs:=yl ok (.inl e)
theorem tF{ks:List Key}(ok:HOk P w H h)(e:H a=some (.tup (ks.map kV))):(tupleKind (cX P w)).is h ks a:=by
 let⟨_,its,r,o,h1,h2,n,h3⟩:=(show bU P w H h a (.tup (ks.map kV))from ok a _ e);exact⟨o,its.toArray,n,h1,h2.1,h3,by simpa using tH r⟩
theorem Ba{kvs:List (List Key×V)}(ok:HOk P w H h)(e:Rd H a (.dT kvs)):kvs.length<=ZC/\(a == sysModules)=false/\
  ∃xs,KT H kvs xs/\h.DictOfH (tupleKind (cX P w)) a xs:=by
 let⟨z,y,xs,r,o,es,ep,h1,h2,h3,h4,h5⟩:=(show bU P w H h a (.dT kvs)from Ky ok e);refine⟨z,y,xs,r,o,es,ep,h1,h2,h3,h4,λx hx=>?_,h5⟩;have all:∀{l:List (List Key×V)} {m:List (List Key×Addr×Z5)},KT H l m->∀x∈m,(tupleKind (cX P w)).is h x.1 x.2.1:=by
  intro l m q;induction q with
  |nil=>intro x hx;exact nomatch hx
  |@cons p q ps qs hq t ih=>
   intro x hx;rcases ZT.mp hx with e|hx;subst e;exact tF ok (by rw[<-hq.1];exact hq.2.1);exact ih x hx
 exact all r x hx
theorem P6{kvs:List (List Key×V)}(ok:HOk P w H h)(e:H a=some (.dT kvs)):kvs.length<=ZC/\(a == sysModules)=false/\
  ∃xs,KT H kvs xs/\h.DictOfH (tupleKind (cX P w)) a xs:=Ba ok (.inl e)
end
def DGet(H:Hp)(a:Addr)(y:V)(r:Option V):Prop:=
 (∃kvs k,Rd H a (.dK kvs)/\y=kV k/\r=fk kvs k)\/∃kvs k b,Rd H a (.dT kvs)/\y=.ref b/\H b=some (.tup (k.map kV))/\r=fk kvs k
def MT(H:Hp)(a:Addr)(y v:V)(H':Hp):Prop:=
 (∃kvs k,H a=some (.dK kvs)/\y=kV k/\kvs.length<ZC/\H'=upd H a (.dK (mL kvs k v)))\/
 ∃kvs k b,H a=some (.dT kvs)/\y=.ref b/\H b=some (.tup (k.map kV))/\kvs.length<ZC/\H'=upd H a (.dT (mL kvs k v))
theorem DGet.k{H:Hp}{a:Addr}{kvs:List (Key×V)}{k:Key}(e:H a=some (.dK kvs)):DGet H a (kV k) (fk kvs k):=.inl ⟨kvs,k,.inl e,rfl,rfl⟩
theorem MT.k{H:Hp}{a:Addr}{kvs:List (Key×V)}{k:Key}{v:V}(e:H a=some (.dK kvs))(hl:kvs.length<ZC):MT H a (kV k) v (upd H a (.dK (mL kvs k v))):=.inl ⟨kvs,k,e,rfl,hl,rfl⟩
variable{A:Ze}{E:Z5->Z6->Prop}
section
variable{y v:V}{u r:Z5}{o:Option V}
theorem Inv.big(I:47):sysModules<s.heap.objs.size:=by
 have h:mainGlobals<s.heap.objs.size:=(I.mod.glob.keeps I.bk).lt;exact Nat.lt_trans 54 h
theorem Bh{Q:Z5->Z6->Prop}(hu:A.units+1<cLine)(I:47)(g:DGet H a y (some v))(ry:cP y u)(h:∀w' s',Inv X a_ σ H s'->cP v w'->Q w' s') :
  wpAny 49 A (getItem (.ref a) u) Q E s:=by
 rcases g with⟨kvs,k,e,ey,l⟩|⟨kvs,k,b,e,ey,eb,l⟩;subst ey;let⟨z,hd,vs,rel,dd⟩:=yl I.hok e;let⟨w',hw,rw'⟩:=rS.some_of (v:=v) (o:=valueAt vs k) (by rw[l];exact rel.val k);exact wpAny_getItem_of (xZ ry) dd.mapOf hw (h w' _ (I.tok _) rw');subst ey;cases (show u=Value.ref b from ry);let⟨z,hd,xs,rel,dd⟩:=Ba I.hok e;let⟨w',hw,rw'⟩:=rS.some_of (v:=v) (o:=(atKey xs k).map (·.2)) (by rw[l];exact rel.val k);let⟨p,hp,hp2⟩:=X1.mp hw;refine wpAny_getItem_heap (tupleKind_room_in1 hu) (tF I.hok eb) dd hp ?_;rw[hp2];exact h w' _ (I.tok _) rw'
theorem RP{Q:Z5->Z6->Prop}(hu:A.units+1<cLine)(I:47)(g:DGet H a y o)(ry:cP y u)(h:∀s',Inv X a_ σ H s'->Q (.bool o.isSome) s') :
  wpAny 49 A (compareOp .In u (.ref a)) Q E s:=by
 rcases g with⟨kvs,k,e,ey,l⟩|⟨kvs,k,b,e,ey,eb,l⟩;subst ey;let⟨z,hd,vs,rel,dd⟩:=yl I.hok e;refine wpAny_in_of (xZ ry) hd dd.mapOf ?_;rw[<-(rel.val k).isSome_eq,<-l];exact h _ (I.tok _);subst ey;cases (show u=Value.ref b from ry);let⟨z,hd,xs,rel,dd⟩:=Ba I.hok e;refine wpAny_in_heap (tupleKind_room_in1 hu) (tF I.hok eb) hd dd ?_;have q:=(rel.val k).isSome_eq;rw[XS]at q;rw[<-q,<-l];exact h _ (I.tok _)
theorem ID{Q:Z5->Z6->Prop}(hu:A.units+1<cLine)(I:47)(g:DGet H a y o)(ry:cP y u)(h:∀s',Inv X a_ σ H s'->Q (.bool (!o.isSome)) s') :
  wpAny 49 A (compareOp .NotIn u (.ref a)) Q E s:=by
 rcases g with⟨kvs,k,e,ey,l⟩|⟨kvs,k,b,e,ey,eb,l⟩;subst ey;let⟨z,hd,vs,rel,dd⟩:=yl I.hok e;refine wpAny_notIn_of (xZ ry) hd dd.mapOf ?_;rw[<-(rel.val k).isSome_eq,<-l];exact h _ (I.tok _);subst ey;cases (show u=Value.ref b from ry);let⟨z,hd,xs,rel,dd⟩:=Ba I.hok e;refine wpAny_notIn_heap (tupleKind_room_in1 hu) (tF I.hok eb) hd dd ?_;have q:=(rel.val k).isSome_eq;rw[XS]at q;rw[<-q,<-l];exact h _ (I.tok _)
theorem lG{h':Heap}{t':Nat}{ob:HO}(I:47)(mu:Mut (H a))(hs:XC a s.heap h')(he:∃q,h'.get? a=some q)(new:bU X.prog X.w (upd H a ob) h' a ob) :
  Inv X a_ σ (upd H a ob) { s with heap:=h',toks:=t' }:=
 I.write (x:=a) (e:=a) mu (.inl rfl) (λb q hb z=>(hs.2 b hb).trans z) he new
theorem Fl{P:Zq}{w:Zr}{H':Hp}{h':Heap}{kvs:List (Key×V)}{vs:List (Key×Z5)}(z:kvs.length<=ZC)(hd:(a == sysModules)=false)(rel:KV kvs vs)(dd:h'.DictOf (cX P w) a vs) :
  bU P w H' h' a (.dK kvs):=⟨z,hd,vs,rel,dd⟩
theorem Bg{H':Hp}{Q:Unit->Z6->Prop}(hu:A.units+1<cLine)(I:47)(g:MT H a y v H')(ry:cP y u)(rv:cP v r)(h:∀s',Inv X a_ σ H' s'->Q () s') :
  wpAny 49 A (setItem (.ref a) u r) Q E s:=by
 rcases g with⟨kvs,k,e,ey,l,eH⟩|⟨kvs,k,b,e,ey,eb,l,eH⟩;subst ey eH;let⟨z,hd,vs,rel,dd⟩:=Ec I.hok e;have hz:vs.length<=ZC:=by rw[<-rel.length];exact z
 have hl:(mL kvs k v).length<=ZC:=by have:=jJ kvs k v;omega
 refine wpAny_setItem_pairs (hsz:=hz) (xZ ry) dd λh' dd' hs=>h _ ?_;have he:∃q,h'.get? a=some q:=let ⟨q,_,_,hq,_⟩:=dd';⟨q,hq⟩
 exact lG I (by rw[e];exact True.intro) hs he (Fl hl hd (rel.put k rv) dd');subst ey eH;cases (show u=Value.ref b from ry);let⟨z,hd,xs,rel,dd⟩:=P6 I.hok e;have hz:xs.length<=ZC:=by rw[<-Paired.length rel];exact z
 have hl:(mL kvs k v).length<=ZC:=by have:=jJ kvs k v;omega
 refine wpAny_setItem_heap (hsz:=hz) (tupleKind_room_in1 hu) (tF I.hok eb) dd λh' dd' hs=>h _ ?_;let⟨q,es,ep,hq,h2,h3,h4,_,h5⟩:=dd';refine lG I (by rw[e];exact True.intro) hs ⟨q,hq⟩ ⟨hl,hd,_,(rel.put k eb rv).keeps λc ys ec=>?_,q,es,ep,hq,h2,h3,h4,h5⟩;rw[aD (Pe ec e (λz=>nomatch z))];exact ec
end
section
variable{kvs:List (Key×V)}
theorem P7{Q:Z5->Z6->Prop}(I:47)(e:Rd H a (.dK kvs))(h:∀t s',Inv X a_ σ H s'->Q (.int kvs.length t) s'):wpAny 49 A (call (.builtin "len") [.ref a]) Q E s:=by
 let⟨z,hd,vs,rel,dd⟩:=yl I.hok e;refine call_len_dict hd dd (by rw[<-rel.length];rw[sizeLine_eq]at z;omega) ?_;rw[<-rel.length];exact h _ _ (I.tok _)
end
def IX(i:ZN):Prop:=∀ov iv,subscripted i false ov iv=operate [ov,iv] (getItem ov iv)
theorem zh{prog:Zq}{w:Zr}{A:Ze}{E:Z5->Z6->Prop}{s:Z6}{env:Env}{value z_:ZN}{pos:Pos}{T id:String}{Q:Z5->Z6->Prop}
  (hl:typeLookup (.type T) "__getitem__"=pure (some (.builtin id))) (hs:IX z_)
  (h:wpAny 69 A (eval value env) (λo s₁=>wpAny 69 A (eval z_ env) (λi s₂=>s₂.TypeIs o T/\wpAny 69 A (getItem o i) Q E s₂) E s₁) E s) :
  wpAny 69 A (eval (.Subscript value z_ pos) env) Q E s:=by
 refine Subscript_ (XZ h (λo s₁ h₁=>XZ h₁ (λi s₂ h₂=>?_) λ_ _ x=>x) λ_ _ x=>x);let⟨hT,h₂⟩:=h₂;unfold subscriptTail;refine Z2 ?_;rw[getitemInPython_of_ne hT.not_modules];refine Z2 (wpAny_specialOf hT hl ?_);have fin:wpAny 69 A (subscripted z_ false o i) (λr s₃=>wpAny 69 A (letTemporaryGo value o r >>= λ_=>pure r) Q E s₃) E s₂:=by
  rw[hs o i];exact wpAny_operating (XZ h₂ (λr s₃ h₃=>Z2 (wpAny_letTemporaryGo (Z8 h₃))) λ_ _ x=>x)
 first
  |exact Z8 (Z2 fin)
  |exact Z2 (Z8 (Z2 fin))
  |exact Z2 fin
theorem vw{X:Cx}{a_:57}{σ:St}{H:Hp}{s:Z6}{a:Addr}{y:V}{o:Option V}(I:47)(g:DGet H a y o):s.TypeIs (.ref a) "dict":=by
 rcases g with⟨kvs,k,e,_,_⟩|⟨kvs,k,b,e,_,_,_⟩;let⟨_,_,vs,_,dd⟩:=yl I.hok e;exact dd.typeIs;let⟨_,_,xs,_,dd⟩:=Ba I.hok e;exact dd.typeIs
def Kk(td ty:TE):TE:=λσ H Q=>td σ H λx H1=>ty σ H1 λy H2=>∃a v,x=.ref a/\DGet H2 a y (some v)/\Q v H2
def OA(ty td:TE):TE:=λσ H Q=>ty σ H λy H1=>td σ H1 λx H2=>∃a o,x=.ref a/\DGet H2 a y o/\Q (.bl o.isSome) H2
def qo(ty td:TE):TE:=λσ H Q=>ty σ H λy H1=>td σ H1 λx H2=>∃a o,x=.ref a/\DGet H2 a y o/\Q (.bl (!o.isSome)) H2
def Kv(td ty tv:TE):TS:=λD σ H=>tv σ H λv H1=>td σ H1 λx H2=>ty σ H2 λy H3=>∃a H4,x=.ref a/\MT H3 a y v H4/\D.nx σ H4
section
variable{i value:ZN}{g_:Pos}{td ty tv:TE}
theorem Hk(hu:X.A.units+1<cLine)(ho:PE X o td)(hi:PE X i ty)(hs:IX i):PE X (.Subscript o i pos) (Kk td ty):=by
 intro a_ s σ H Q I h;refine zh PySem.F.slot_dict_getitem.lookup hs (thn (ho a_ s σ H _ I h) λu s1 ⟨x,H1,I1,rx,q1⟩=>thn (hi a_ s1 σ H1 _ I1 q1) λiv s2 hz=>?_);let⟨y,H2,I2,ry,a,v,ex,g,q2⟩:=hz;subst ex;obtain rfl:u=Value.ref a:=rx;exact⟨vw I2 g,Bh hu I2 g ry λw' s3 I3 rw'=>⟨v,H2,I3,rw',q2⟩⟩
theorem Lk(hu:X.A.units+1<cLine)(hi:PE X i ty)(ho:PE X o td):PC X .In i o (OA ty td):=by
 intro a_ s σ H Q I h;refine thn (hi a_ s σ H _ I h) λiv s1 ⟨y,H1,I1,ry,q1⟩=>thn (ho a_ s1 σ H1 _ I1 q1) λu s2 hz=>?_;let⟨x,H2,I2,rx,a,ov,ex,g,q2⟩:=hz;subst ex;obtain rfl:u=Value.ref a:=rx;exact RP hu I2 g ry λs3 I3=>⟨.bl ov.isSome,H2,I3,rfl,q2⟩
theorem zW(hu:X.A.units+1<cLine)(hi:PE X i ty)(ho:PE X o td):PC X .NotIn i o (qo ty td):=by
 intro a_ s σ H Q I h;refine thn (hi a_ s σ H _ I h) λiv s1 ⟨y,H1,I1,ry,q1⟩=>thn (ho a_ s1 σ H1 _ I1 q1) λu s2 hz=>?_;let⟨x,H2,I2,rx,a,ov,ex,g,q2⟩:=hz;subst ex;obtain rfl:u=Value.ref a:=rx;exact ID hu I2 g ry λs3 I3=>⟨.bl (!ov.isSome),H2,I3,rfl,q2⟩
theorem G8(hu:X.A.units+1<cLine)(ho:PE X o td)(hi:PE X i ty)(hv:PE X value tv)(hs:XE value (some (.Subscript o i g_)) pos.line X.env=pure false) :
  PS X (.Assign [.Subscript o i g_] value pos) (Kv td ty tv):=by
 intro a_ s σ H D I h;refine wpAny_Assign_Subscript (thn (hv a_ s σ H _ I h) λr s1 ⟨v,H1,I1,rv,q1⟩=>thn (ho a_ s1 σ H1 _ I1 q1) λu s2 ⟨x,H2,I2,rx,q2⟩=>thn (hi a_ s2 σ H2 _ I2 q2) λiv s3 hz=>?_) hs;let⟨y,H3,I3,ry,a,H4,ex,g,q3⟩:=hz;subst ex;obtain rfl:u=Value.ref a:=rx;exact Bg hu I3 g ry rv λs4 I4=>⟨σ,H4,I4,q3⟩
end
theorem w8{P:Zq}{w:Zr}{H:Hp}(h:Heap)(hb:sysModules<h.objs.size):bU P w H (h.push { cls:=.type "dict",data:=.dict #[] }) h.objs.size (.dK []):=
 ⟨X5 _,beq_eq_false_iff_ne.mpr (Ne.symm (ZL hb)),[],.nil,Heap.DictOf.new h⟩
def EN:TE:=λ_ H Q=>∀p,H p=none->Q (.ref p) (upd H p (.dK []))
theorem Dg:PE X (.Dict [] [] pos) EN:=λa_ s σ H Q I h=>
 wpAny_Dict_empty ⟨.ref s.heap.objs.size,_,I.laid (a:=s.heap.objs.size) (o:=.dK []) (t':=s.toks) (λ_ _ q=>Z7 _ q) (ZW _) (w8 s.heap I.big),rfl,h _ (I.hok.fresh (ZW _))⟩
def sx:List (TE×TE)->St->Hp->(List (V×V)->Hp->Prop)->Prop
 |[],_,H,Q=>Q [] H
 |(tk,tv)::r,σ,H,Q=>tk σ H λx H1=>tv σ H1 λy H2=>sx r σ H2 λps H3=>Q ((x,y)::ps) H3
abbrev VV:List (V×V)->List (Z5×Z5)->Prop:=Paired λp q=>cP p.1 q.1/\cP p.2 q.2
def PPs(X:Cx)(pos:Pos)(keys:List (Option ZN))(m_:List ZN)(trs:List (TE×TE)):Prop:=
 ∀(a_:57) (s:Z6) (σ:St) (H:Hp) (Q:List (V×V)->Hp->Prop),Inv X a_ σ H s->sx trs σ H Q->
  wpAny 49 X.A (evalPairs (pairTrees keys m_ X.env pos)) (λvs s'=>∃ps H',Inv X a_ σ H' s'/\VV ps vs/\Q ps H') X.xe s
def zP{X:Cx}{pos:Pos}:PPs X pos [] [] []:=λa_ s σ H Q I h=>pairTrees_nil_walk ⟨[],H,I,.nil,h⟩
theorem wA{X:Cx}{pos:Pos}{k v:ZN}{ks:List (Option ZN)}{vs:List ZN}{tk tv:TE}{trs:List (TE×TE)}(hk:PE X k tk)(hv:PE X v tv)(hr:PPs X pos ks vs trs) :
  PPs X pos (some k::ks) (v::vs) ((tk,tv)::trs):=λa_ s σ H Q I h=>
 pairTrees_cons_walk (thn (hk a_ s σ H _ I h) λu s1 ⟨x,H1,I1,rx,q1⟩=>thn (hv a_ s1 σ H1 _ I1 q1) λw2 s2 ⟨y,H2,I2,ry,q2⟩=>
  thn (hr a_ s2 σ H2 _ I2 q2) λws s3 ⟨ps,H3,I3,rel,q3⟩=>⟨(x,y)::ps,H3,I3,.cons ⟨rx,ry⟩ rel,q3⟩)
def mw(kvs x_:List (Key×V)):List (Key×V):=x_.foldl (λacc kv=>mL acc kv.1 kv.2) kvs
theorem KV.merge:∀{x_:List (Key×V)} {rs:List (Key×Z5)} {kvs:List (Key×V)} {vs:List (Key×Z5)},KV x_ rs->KV kvs vs->KV (mw kvs x_) (merged vs rs):=by
 intro x_ rs kvs vs r;unfold KV at r;induction r generalizing kvs vs with
 |nil=>intro q;exact q
 |@cons p q ps qs h t ih=>
  intro r0;have e:KV (mL kvs p.1 p.2) (stored vs q.1 q.2):=by
   have:=r0.put p.1 h.2;rw[<-h.1];exact this
  exact ih e
theorem kC:∀(x_ kvs:List (Key×V)),(mw kvs x_).length<=kvs.length+x_.length
 |[],kvs=>by show kvs.length<=kvs.length+0;omega
 |p::r,kvs=>by
  have h1:=kC r (mL kvs p.1 p.2);have h2:=jJ kvs p.1 p.2;show(mw (mL kvs p.1 p.2) r).length<=_;rw[ZM];omega
theorem pT{P:Zq}{w:Zr}:∀{kvs:List (Key×V)} {ws:List (Z5×Z5)},VV (kvs.map λkv=>(kV kv.1,kv.2)) ws->∃rs,Carries (cX P w) ws rs/\KV kvs rs
 |[],_,r=>by rw[Zm]at r;cases r;exact⟨[],True.intro,.nil⟩
 |p::kvs,_,r=>by
  rw[ZR]at r;cases r with
  |@cons a b as bs h t=>
   let⟨rs,c,q⟩:=pT (P:=P) (w:=w) t;let⟨b1,b2⟩:=b;exact⟨(p.1,b2)::rs,⟨xZ h.1,rfl,c⟩,.cons ⟨rfl,h.2⟩ q⟩
def Ki(trs:List (TE×TE)):TE:=λσ H Q=>∀p,H p=none->sx trs σ (upd H p (.dK [])) λps H2=>H2 p=some (.dK [])/\∃kvs:List (Key×V),ps=kvs.map (λkv=>(kV kv.1,kv.2))/\kvs.length<=15/\Q (.ref p) (upd H2 p (.dK (mw [] kvs)))
theorem Hj{X:Cx}{pos:Pos}{keys:List (Option ZN)}{m_:List ZN}{trs:List (TE×TE)}(h:PPs X pos keys m_ trs)(M_:keys.all (·.isSome)=true)(hl:keys.length=m_.length)(h0:keys≠[])
  (h15:keys.length<=15):PE X (.Dict keys m_ pos) (Ki trs):=by
 intro a_ s σ H Q I q;have hn:=I.hok.fresh (ZW s.heap.objs.size);have I1:=I.laid (a:=s.heap.objs.size) (o:=.dK []) (h':=s.heap.push { cls:=.type "dict",data:=.dict #[] }) (t':=s.toks) (λ_ _ q=>Z7 _ q) (ZW _) (w8 s.heap I.big);refine wpAny_Dict_walk (knd:=cX X.prog X.w) M_ hl h0 h15 (thn (h a_ _ σ _ _ I1 (q _ hn)) λws s2 hz=>?_);let⟨ps,H2,I2,rel,e,kvs,ep,lk,q2⟩:=hz;subst ep;let⟨rs,c,rk⟩:=pT (P:=X.prog) (w:=X.w) rel;let⟨z,hd,vs0,r0,dd⟩:=Ec I2.hok e;cases r0;refine⟨rs,c,dd,λh' dd' hs=>⟨.ref s.heap.objs.size,_,?_,rfl,q2⟩⟩;have hz:(mw [] kvs).length<=ZC:=by
  have h1:=kC kvs [];rw[XX]at h1;rw[sizeLine_eq];omega
 have he:∃q,h'.get? s.heap.objs.size=some q:=let ⟨q,_,_,hq,_⟩:=dd';⟨q,hq⟩
 exact lG I2 (by rw[e];exact True.intro) hs he (Fl hz hd (rk.merge .nil) dd')
end L2
namespace Att
open PySem PySem.W PySem.Calls PyProof.Rows
theorem oh{P:Params}{h:Heap}:∀(ns:List Int) (vs:List Z5),WellAll P h vs (ns.map WData.int)->IntsAre vs ns:=by
 intro ns;induction ns with
 |nil=>
  intro vs w;rw[Zm]at w;cases w;exact .nil
 |cons n ns ih=>
  intro vs w;rw[ZR]at w;cases w with
  |cons a b=>
   cases a;exact .cons _ _ (ih _ b)
theorem zu{l:OpenLaw}{n:Nat}(hn:l.most=some n){P:Params}{h:Heap}{args:List WData}{S9:List Z5}
  (R7:l.row.toRowW.claim.pre args=true) (hwl:WellAll P h S9 args) :
  ∃a vs ns,S9=[Value.ref a]/\args=[WData.list (ns.map WData.int)]/\h.get? a=some { cls:=.type "list",data:=.seq vs.toArray }/\IntsAre vs ns/\ns.length<=n:=by
 have hsh:WShape.hasAll [] args [.list .int]=true:=(pre_splitW R7).1;have hc:l.pre.holds [] { args:=args }=true:=(pre_splitW R7).2;let⟨d,r,rfl,h1,h2⟩:=hasAllW_cons hsh;obtain rfl:=hasAllW_nil h2;let⟨xs,rfl,h3⟩:=hasW_list h1;let⟨ns,rfl⟩:=items_int h3;have h_:ns.length<=n:=by
  unfold OpenLaw.pre at hc;have h4:(WTm.not (.lt (.lit (.int (n:Int))) (.len (.arg 0)))).holds [] { args:=[.list (ns.map .int)] }=true:=by
   have h4:=(holds_andW hc).1;rw[hn]at h4;exact h4
  have h5:=condW_of h4 (w_not (w_lt w_lit (w_len_list (w_arg rfl))));rw[ZQ]at h5;refine Nat.le_of_not_lt λq=>?_;have q':(n:Int)<((ns.length:Nat):Int):=by omega
  first
   |(rw[Xa q']at h5;exact absurd h5 54)
   |(simp at h5;omega)
 cases hwl with
 |cons w1 w2=>
  cases w2;cases w1 with
  |list ho M_=>exact⟨_,_,ns,rfl,rfl,ho,oh ns _ M_,h_⟩
theorem zQ(l:OpenLaw)(args:List WData):l.row.toRowW.claim.post args (.bool true) args=true:=
 postW_of (r:=l.row.toRowW) (X:=(true == true))
  (show WShape.has [] (.bool true) .bool=true by first|rfl|decide|simp[WShape.has,WShape.arms,WShape.armsAll])
  (show(WTm.eq .res (.lit (.bool true))).value [] { args:=args,res:=some (.bool true),after:=args }=some (.bool (true == true))from w_eq_bool (w_res rfl) w_lit) rfl
theorem attach_call{l:OpenLaw}{n:Nat}{q:Zq}{I_:List Str}{XP:(Str->Option Z5)->Heap->Prop}{YP:Zr->Heap->Prop}{d:DefRec}
  (hn:l.most=some n) (hdf:d.params.defaults=[])
  (call:∀(w:Zr) (s₀ s₁:Z6) (mg mb:79) (fa:Addr) (o:Obj) (pm cd doc:Z5) (a:Addr) (vs:List Z5) (ns:List Int),
   Ground q I_ [] XP w s₀ mg mb s₁.heap->YP w s₁.heap->
   s₁.heap.get? fa=some o->o.data=.func (docDef d.name d.params d.body d.scope pm cd doc)->s₁.heap.CodeRec cd d.name->mg d.name=some (.ref fa)->
   s₁.heap.get? a=some { cls:=.type "list",data:=.seq vs.toArray }->IntsAre vs ns->ns.length<=n->s₁.gens=#[]->
   codeAny (ZS l.prog w) callerA (.call (.ref fa) ⟨[.ref a],[]⟩) (λr s'=>r=.ok (.ret (.bool true))/\OldK s₁.heap s'.heap/\s'.os=s₁.os/\AllBare s'.gens) s₁) :
  WalkO q I_ XP YP l.row.toRowW d [] (λf vs=>PySem.call f vs):=by
 intro w s₀ s₁ mg mb G Y fa o pm cd doc dV kV ho hd hcd hD hmg hg args S9 as R7 hlay hrd hwl hlo;obtain rfl:dV=.none:=Dflts.none hD hdf;obtain rfl:kV=.none:=Dflts.noKw hD;let⟨a,vs,ns,rfl,rfl,Sd,R5,h_⟩:=zu hn R7 hwl;refine enter_call (codeAny_mono (call w s₀ s₁ mg mb fa o pm cd doc a vs ns G Y ho (fd_plain hd) hcd hmg Sd R5 h_ hg) λr s' hq=>?_);let⟨rfl,h2,h3,h4⟩:=hq;exact⟨.inl ⟨.bool true,.bool true,[],rfl,λ_=>rfl,.bool true,zQ l _,λ_=>⟨List.Pairwise.nil,λ_ hm=>nomatch hm⟩⟩,h2,h3,h4⟩
end Att
namespace L2
open PySem PySem.Spec PyProof.Rows
theorem gA:∀{vs:List Z5} {ns:List Int},IntsAre vs ns->bS (ns.map V.int) vs
 |_,_,.nil=>.nil
 |_,_,.cons n t h=>.cons ⟨t,rfl⟩ (gA h)
def fE(s:Zn)(j:Nat):Zn:=match s with
 |.ClassDef _ _ _ body _ _ _ _ _ _ _=>body.getD j (.Pass ⟨0,0,0,0⟩)
 |_=>.Pass ⟨0,0,0,0⟩
def jN(s:Zn):Arguments:=match s with
 |.FunctionDef _ a _ _ _ _ _ _ _ _=>a
 |_=>{ posonlyargs:=[],args:=[],vararg:=none,kwonlyargs:=[],kw_defaults:=[],kwarg:=none,defaults:=[] }
def cK(s:Zn):List Zn:=match s with
 |.FunctionDef _ _ b _ _ _ _ _ _ _=>b
 |_=>[]
def ay(s:Zn):XA:=match s with
 |.FunctionDef _ _ _ _ _ _ sc _ _ _=>sc
 |_=>{ kind:=.function,names:=[],isGenerator:=false,isCoroutine:=false }
abbrev CX0:CXT:=λ_ _ _ _ _ _=>False
abbrev E0:XK:=λ_ _ _=>False
def Dj{X:Cx}:jr CX0 X E0:=λ_ _ _ _ _ _ _ h=>h.elim
structure Fun(K:Z3)(x qual:Str)(st:Zn)(f:Addr)(fd:XF):Prop where
 ex:∃(oc:Z5) (od:Option Addr) (kV doc pm:Z5) (an:Option Addr) (cdv ct:Z5) (osl:Array (Option Z5)),
  fd=PySem.W.fnOf x qual (jN st) (cK st) (ay st) .none kV doc pm an cdv ct/\K.lookup f=some ⟨oc,od,.func fd,osl⟩/\PySem.W.codeIn K cdv qual=true
 kp:PySem.W.keepIn K (.ref f)=true
section
variable{P:Zq}{w:Zr}{K:Z3}{mg:Str->Option Z5}{base:Heap}
theorem Fun.ok{x qual:Str}{st:Zn}{f:Addr}{fd:XF}{N ps:List Str}{k:Nat}{sp:Sp}(F:Fun K x qual st f fd)(S:cN N ps (ay st))(len:∀vs H Q E,sp vs H Q E->vs.length=ps.length)
  (C_:∀(cdv:Z5) (A:Ze) (outer:List Env) (s:Z6) (H:Hp) (vs:List V) (Q:VK) (E:XK),eQ k (A.deeper (envOfC qual (ay st) s.heap.objs.size f cdv))->sp vs H Q E->
   ∃t,PSs (mJ CX0 P w K mg base N qual (ay st) f cdv A outer s H E).nox (cK st) t/\t { nx:=λ_ H'=>Q .non H',rt:=Q } (jg N vs) H):kX P w K mg base CX0 (k+1) f fd ps sp:=by
 let⟨oc,od,kV,doc,pm,an,cdv,ct,osl,rfl,lk,hcd⟩:=F.ex;refine Mm lk hcd S len λA outer s H vs Q E hr hsp=>?_;let⟨t,h,q⟩:=C_ cdv A outer s H vs Q E hr hsp;exact⟨t,h.nox,q⟩
theorem Fun.binds{x qual:Str}{st:Zn}{f:Addr}{fd:XF}{ps:List Str}(F:Fun K x qual st f fd)
  (h:∀(kV doc pm:Z5) (an:Option Addr) (cdv ct:Z5) (us:List Z5),us.length=ps.length->bindArgs (PySem.W.fnOf x qual (jN st) (cK st) (ay st) .none kV doc pm an cdv ct) ⟨us,[]⟩=pure (ps.zip us)):ig K fd ps []:=by
 let⟨oc,od,kV,doc,pm,an,cdv,ct,osl,rfl,lk,hcd⟩:=F.ex;exact .all (h kV doc pm an cdv ct)
theorem Fd{x qual:Str}{st:Zn}{f:Addr}{oc:Z5}{od an:Option Addr}{osl:Array (Option Z5)}{kV doc pm cdv ct:Z5}(l:K.lookup f=some ⟨oc,od,.func (PySem.W.fnOf x qual (jN st) (cK st) (ay st) .none kV doc pm an cdv ct),osl⟩)
  (c:PySem.W.codeIn K cdv qual=true) (k:PySem.W.keepIn K (.ref f)=true):Fun K x qual st f (PySem.W.fnOf x qual (jN st) (cK st) (ay st) .none kV doc pm an cdv ct):=⟨⟨oc,od,kV,doc,pm,an,cdv,ct,osl,rfl,l,c⟩,k⟩
end
theorem x6{A:Ze}{k:Nat}(hr:eQ k A):A.units+1<cLine:=Nat.lt_of_le_of_lt (Nat.add_le_add_left (by decide:1<=64) _) hr.units
def zo{n:Nat}(h:n<=1000):n<ZC:=Nat.lt_of_le_of_lt h 54
section
variable{X:Cx}
theorem pv(i:Nat){x:Str}{pos:Pos}(hN:X.N[i]?=some x:=by rfl)(hv:Vis X.env.scope x:=by first|exact Or.inl rfl|exact Or.inr (Or.inl rfl)|exact Or.inr (Or.inr rfl))(hd:(x == ("__debug__":Str))=false:=by decide)
  (hcd:(x == ("__classdict__":Str))=false:=by decide):PE X (.Name x pos) (MX i):=K8 hN hv hd hcd
theorem Bo:eU X (.builtin "len") (λxs H Q=>∃a kvs,xs=[V.ref a]/\H a=some (.dK kvs)/\Q (.int kvs.length) H):=by
 intro a_ s σ H xs us Q I r h;let⟨a,kvs,rfl,ha,q⟩:=h;let⟨u,rfl,ru⟩:=jv r;cases ru;exact P7 I (.inl ha) λt s' I'=>⟨.int kvs.length,H,I',⟨t,rfl⟩,q⟩
end
theorem Jc{A B:Prop}(h:B):if false=true then A else B:=by
 rw[Xd ZF];exact h
theorem Jb{A B:Prop}(h:A):if true=true then A else B:=by
 rw[Xe rfl];exact h
def uo(H H':Hp):Prop:=∀b o,H b=some o->H' b=some o
def uo.refl(H:Hp):uo H H:=λ_ _ h=>h
def uo.trans{H H1 H2:Hp}(a:uo H H1)(b:uo H1 H2):uo H H2:=λc o h=>b c o (a c o h)
theorem uo.free{H H':Hp}(e:uo H H'){l:Addr}(h:H' l=Option.none):H l=Option.none:=by
 cases q:H l with
 |none=>rfl
 |some o=>
  rw[e l o q]at h;cases h
end L2
namespace OG
open PySem PySem.Spec PyProof.Rows L2
structure WE(X:Cx)(e:ZN)(t:TE):Prop where
 h:PE X e t
structure WT(X:Cx)(e:ZN)(t:TT):Prop where
 h:PT X e t
structure WW(X:Cx)(e:ZN)(t:TT):Prop where
 h:PW X e t
structure WA(X:Cx)(es:List ZN)(t:TA):Prop where
 h:PA X es t
structure WS(X:Cx)(st:Zn)(t:TS):Prop where
 h:PS X st t
structure WSs(X:Cx)(st:List Zn)(t:TS):Prop where
 h:PSs X st t
structure WI(X:Cx)(tg iter:ZN)(wi:TI):Prop where
 h:PI X tg iter wi
structure WG(X:Cx)(r_:ZN)(t:TG):Prop where
 h:PG X r_ t
structure WGs(X:Cx)(ts:List ZN)(t:TGs):Prop where
 h:PGs X ts t
structure WC(X:Cx)(op:CmpOp)(a b:ZN)(t:TE):Prop where
 h:PC X op a b t
structure WO(X:Cx)(e:Option ZN)(t:TO):Prop where
 h:PO X e t
variable{X:Cx}
def qg{i j pos}:WE X (.Constant (.int i) j pos) (tC (.int i)):=⟨Lg ⟩
def J2{b j pos}:WE X (.Constant (.bool b) j pos) (tC (.bl b)):=⟨O7 ⟩
def Ge{j pos}:WE X (.Constant .none j pos) (tC .non):=⟨Ld ⟩
def F9{x j pos}:WE X (.Constant (.str x) j pos) (tC (.str x)):=⟨La ⟩
variable{a b:ZN}{pos:Pos}
theorem yR{op:CmpOp}{t:TE}(h:WC X op a b t)(h1:behindInMarks op b=false:=by first|exact nobehind _ 54 (by decide)|rfl):WE X (.Compare a [op] [b] pos) t:=⟨Li h.h h1⟩
theorem ur{op:CmpOp}{t:TE}(h:WC X op a b t)(h1:behindInMarks op b=false:=by first|exact nobehind _ 54 (by decide)|rfl):WT X (.Compare a [op] [b] pos) (tB t):=⟨KY h.h h1⟩
theorem F2{e:ZN}{t:TE}(h:WE X e t)(he:∀A_,isTrue e X.env A_=(do let v <-A_;standAt e.pos;holding [v] (truthy v)):=by intro _;rfl):WT X e (tB t):=⟨KU h.h he⟩
section
variable{tA:TT}
def Cd(ha:WT X a tA):WW X (.BoolOp .And [a] pos) tA:=⟨GX ha.h⟩
def F0(ha:WT X a tA):WW X (.BoolOp .Or [a] pos) tA:=⟨KQ ha.h⟩
end
variable{e_:List ZN}
section
variable{tA tB':TT}
theorem F1(ha:WT X a tA)(hb:WW X (.BoolOp .And (b::e_) pos) tB'):WW X (.BoolOp .And (a::b::e_) pos) (Qw tA tB'):=⟨KR ha.h hb.h⟩
theorem JX(ha:WT X a tA)(hb:WW X (.BoolOp .Or (b::e_) pos) tB'):WW X (.BoolOp .Or (a::b::e_) pos) (tOr tA tB'):=⟨OZ ha.h hb.h⟩
end
section
variable{tA:TT}
def F3(ha:WT X a tA):WT X (.UnaryOp .Not a pos) (Qq tA):=⟨KW ha.h⟩
end
def Gb{op}{t:TE}(h:WE X a t):WE X (.BoolOp op [a] pos) t:=⟨Lb h.h⟩
variable{ta tb:TE}
theorem Gg(ha:WE X a ta)(hb:WE X (.BoolOp .And (b::e_) pos) tb):WE X (.BoolOp .And (a::b::e_) pos) (Kq ta tb):=⟨Lj ha.h hb.h⟩
def Gd(ha:WE X a ta):WE X (.UnaryOp .Not a pos) (Kc ta):=⟨Lc ha.h⟩
def Ce :WSs X [] Ke:=⟨G5 ⟩
variable{st:Zn}{t:TS}
section
variable{e_:List Zn}{u:TS}
def se(h1:WS X st t)(h2:WSs X e_ u):WSs X (st::e_) (Qo t u):=⟨C5 h1.h h2.h⟩
end
def vP(h1:WS X st t):WSs X [st] t:=⟨GZ h1.h⟩
variable{e:ZN}{te:TE}
def Cg(he:WE X e te)(hs:XE e none pos.line X.env=pure false:=by rfl):WS X (.Expr e pos) (Kh te):=⟨G7 he.h hs⟩
def yL(he:WE X e te):WS X (.Return (some e) pos) (Qp te):=⟨K0 he.h⟩
section
variable{u:TS}
theorem JY{c:ZN}{a b:List Zn}{tc:TT}(hc:WT X c tc)(ha:WSs X a t)(hb:WSs X b u):WS X (.If c a b pos) (Qu tc t u):=⟨O0 hc.h ha.h hb.h⟩
end
theorem aF{i:Nat}{x:Str}(hN:X.N.Nodup)(hi:X.N[i]?=some x)(hx:Loc X.env.scope x)(hf:X.fn x=true\/X.env.scope.names.lookup x=some .local:=by first|exact .inl rfl|exact .inr rfl|assumption):WG X (.Name x pos) (yh i):=⟨Hg hN hi hx hf⟩
def Cn :WGs X [] QX:=⟨Hf ⟩
theorem yN{e:ZN}{es:List ZN}{t:TG}{u:TGs}(h1:WG X e t)(h2:WGs X es u)(hs:(assignEach (e::es) X.env).map (·.2)=assign e X.env::(assignEach es X.env).map (·.2):=by rfl):WGs X (e::es) (Mj t u):=⟨Dc h1.h h2.h hs⟩
theorem F6{es:List ZN}{k:Nat}{t:TGs}{n:Nat}(hc:X.calm=true)(h:WGs X es t)(hn:(assignEach es X.env).length=n:=by rfl)(hst:(assignEach es X.env).findIdx? (·.1)=none:=by rfl):WG X (.Tuple es k pos) (QU X.K n t):=⟨K6 hc h.h hn hst⟩
theorem F7 {o i : ZN} {to ti : TE} {t : Nh} (ho : WE X o to) (hi : WE X i ti) (hs : Qg X t) (ha : ∀ v, assign (.Subscript o i pos) X.env v = (do
   let ov <-holding [v] (eval o X.env)
   let iv <-holding [v,ov] (eval i X.env)
   standAt pos
   holding [v,ov,iv] (setItem ov iv v)
   release [v,ov,iv] []):=by intro _;rfl):WG X (.Subscript o i pos) (QV to ti t):=⟨K7 ho.h hi.h hs ha⟩
theorem yM{tg e:ZN}{te:TE}{g:TG}(he:WE X e te)(hg:WG X tg g)(hs:swapsWithSole [tg] e pos.line X.env=pure false:=by rfl)(hw:swappedStores [tg] e X.env=pure none:=by rfl)(h1:(assignEach [tg] X.env).map (·.2)=[assign tg X.env]:=by rfl):WS X (.Assign [tg] e pos) (Ko te g):=⟨K3 he.h hg.h hs hw h1⟩
theorem yK{i:Nat}{x:Str}{e:ZN}{te:TE}{g_:Pos}(hN:X.N.Nodup)(hi:X.N[i]?=some x)(hx:Loc X.env.scope x)(he:WE X e te)(hs:XE e (some (.Name x g_)) pos.line X.env=pure false:=by rfl)(hf:X.fn x=true\/X.env.scope.names.lookup x=some .local:=by first|exact .inl rfl|exact .inr rfl|assumption):WS X (.Assign [.Name x g_] e pos) (Ko te (yh i)):=⟨KZ hN hi hx he.h hs hf⟩
theorem yJ{c:ZN}{body:List Zn}{tc:TT}{tb:TS}(hp:PassesOwn 49 X.A X.env X.xe)(hc:WT X c tc)(hb:WSs X body tb):WS X (.While c body [] pos) (zc tc tb):=⟨C6 hp hc.h hb.h⟩
section
variable{tg:ZN}
def Ck{l:ZN}{tl:TE}(hl:WE X l tl):WI X tg l (Md X.K tl):=⟨He hl.h⟩
def F5{l:ZN}{tl:TE}(hl:WE X l tl):WI X tg l (QR X.K tl):=⟨K5 hl.h⟩
theorem xD{a:ZN}{ta:TA}{p pos:Pos}(hg:Gl X "range")(hm:X.mg "range"=none)(ha:WA X [a] ta)(hs:ZU [a] X.env=[(false,eval a X.env)]:=by rfl):WI X tg (.Call (.Name "range" p) [a] [] pos) (Mc ta):=⟨zU hg hm ha.h hs⟩
theorem uu{iter:ZN}{body:List Zn}{wi:TI}{g:TG}{tb:TS}{pos:Pos}(hp:PassesOwn 49 X.A X.env X.xe)(hc:X.calm=true)(hi:WI X tg iter wi)(hg:WG X tg g)(hb:WSs X body tb)(hs:∀x,foldedSetIterable iter X.env x=pure x:=by intro _;rfl):WS X (.For tg iter body [] pos) (Kg wi g tb):=⟨K1 hp hc hi.h hg.h hb.h hs⟩
end
theorem J0{op:Operator}{r:R2}(ho:OpR X (binaryOp op) r)(ha:WE X a ta)(hb:WE X b tb):WE X (.BinOp a op b pos) (tOp r ta tb):=⟨O4 ho ha.h hb.h⟩
theorem JZ{op:UnaryOp}{r:V->Hp->VK->Prop}(ho:UnR X (unaryOp op) r)(ha:WE X a ta):WE X (.UnaryOp op a pos) (tUn r ta):=⟨O3 ho ha.h⟩
theorem vT{op:CmpOp}{r:R2}(ho:OpR X (compareOp op) r)(ha:WE X a ta)(hb:WE X b tb)(hm:behindInMarks op b=false):WE X (.Compare a [op] [b] pos) (tOp r ta tb):=⟨Hl ho ha.h hb.h hm⟩
theorem qe{op:CmpOp}{r:R2}(ho:OpR X (compareOp op) r)(ha:WE X a ta)(hb:WE X b tb)(hm:behindInMarks op b=false):WT X (.Compare a [op] [b] pos) (Ka (tOp r ta tb)):=⟨GY ho ha.h hb.h hm⟩
section
variable{c:ZN}{tc:TE}
theorem yS{op op':CmpOp}{r r':R2}(ho:OpR X (compareOp op) r)(ho':OpR X (compareOp op') r')(ha:WE X a ta)(hb:WE X b tb)(hc:WE X c tc)(hm:lastMarks [op,op'] [b,c]=false:=by with_unfolding_all rfl):WE X (.Compare a [op,op'] [b,c] pos) (zg r r' ta tb tc):=⟨Dh ho ho' ha.h hb.h hc.h hm⟩
end
variable{f:Str}
theorem Gf(he:WE X e ta)(hb:attributeBase e f X.env (eval e X.env)=eval e X.env):WE X (.Attribute e f pos) (Qv X.K ta f):=⟨Lh he.h hb⟩
variable{o value:ZN}{g_:Pos}{tv:TE}
theorem F4(ha:WE X o ta)(hv:WE X value tv)(hs:XE value (some (.Attribute o f g_)) pos.line X.env=pure false):WS X (.Assign [.Attribute o f g_] value pos) (Qx X.K ta tv f):=⟨K2 ha.h hv.h hs⟩
def iF :WA X [] MY:=⟨zX ⟩
variable{es:List ZN}
section
variable{t:TA}
theorem dZ(ha:WE X e te)(hr:WA X es t)(hs:ZU (e::es) X.env=(false,eval e X.env)::ZU es X.env:=by rfl):WA X (e::es) (Kl te t):=⟨qH ha.h hr.h hs⟩
def F8{x1}(h:WA X es t):WE X (.Tuple es x1 pos) (Qn t):=⟨K9 h.h⟩
def yP(h:WA X es t):WE X (.List es pos) (Qs t):=⟨Le h.h⟩
end
variable{CX:CXT}{C:Addr}{fd:XF}{ps:List Str}{sp:Sp}{dvs:List V}{ds:List Z5}{E:XK}{m:Str}{l_:Pos}
section
variable{k:Nat}{f:Addr}{t:TA}
theorem Co {pl : Sem Bool} (he : WE X o ta) (c : Cls X.K C) (hm : IY X.K C m f) (F : kX X.prog X.w X.K X.mg X.base CX k f fd ps sp) (hr : eQ k X.A) (hb : ig X.K fd ps ds) (hd : bS dvs ds) (hx : jr CX X E) (ha : WA X (e :: es) t) (hst : ZU (e :: es) X.env = (false, eval e X.env) :: ZU es X.env := by rfl) (hpl : (X8 pos (ZU es X.env)).any (·.1) = false := by rfl) (ht : eval (.Call (.Attribute o m l_) (e :: es) [] pos) X.env = (do
   let ov <-eval o X.env
   standAt l_.atName
   let (f,first) <-holding [ov] (getMethod ov m pl)
   callWith pos f first (X8 pos (ZU (e::es) X.env)) (backToKw pos (keywordEach [] X.env))):=by rfl):WE X (.Call (.Attribute o m l_) (e::es) [] pos) (zf C m sp dvs E ta t):=⟨Hh he.h c hm F hr hb hd hx ha.h hst hpl ht⟩
end
section
variable{k:Nat}{f:Addr}
theorem yO {pl : Sem Bool} (he : WE X o ta) (c : Cls X.K C) (hm : IY X.K C m f) (F : kX X.prog X.w X.K X.mg X.base CX k f fd ps sp) (hr : eQ k X.A) (hb : ig X.K fd ps ds) (hd : bS dvs ds) (hx : jr CX X E) (ht : eval (.Call (.Attribute o m l_) [] [] pos) X.env = (do
   let ov <-eval o X.env
   standAt l_.atName
   let (f,first) <-holding [ov] (getMethod ov m pl)
   callWith pos f first (X8 pos (ZU [] X.env)) (backToKw pos (keywordEach [] X.env))):=by rfl):WE X (.Call (.Attribute o m l_) [] [] pos) (zf C m sp dvs E ta MY):=⟨De he.h c hm F hr hb hd hx ht⟩
end
variable{x:Str}{p:Pos}
section
variable{k:Nat}{f:Addr}{t:TA}
theorem Cp(M:Mk X.K C f)(F:kX X.prog X.w X.K X.mg X.base CX k f fd ps sp)(hr:eQ (k+1) X.A)(hg:Gl X x)(hm:X.mg x=some (.ref C))(hb:ig X.K fd ps ds)(hd:bS dvs ds)(hx:jr CX X E)(ha:WA X (e::es) t)(hdb:(x == ("__debug__":Str))=false:=by decide)(he:ZU (e::es) X.env=(false,eval e X.env)::ZU es X.env:=by rfl)(hpl:(X8 pos (ZU es X.env)).any (·.1)=false:=by rfl):WE X 77 (Gs C sp dvs E t):=⟨Hi M F hr hg hm hb hd hx ha.h hdb he hpl⟩
end
variable{r:List V->Hp->VK->Prop}
section
variable{t:TA}{id:String}
theorem mX(hc:eU X (.builtin id) r)(hg:Gl X x)(hm:X.mg x=none)(hv:Zi x=some (.builtin id))(ha:WA X (e::es) t)(hn:x≠"__name__":=by decide)(hdb:(x == ("__debug__":Str))=false:=by decide)(he:ZU (e::es) X.env=(false,eval e X.env)::ZU es X.env:=by rfl)(hpl:(X8 pos (ZU es X.env)).any (·.1)=false:=by rfl):WE X 77 (tCB r t):=⟨Di hc hg hm hv ha.h hn hdb he hpl⟩
end
variable{T:String}
section
variable{t:TA}
theorem kZ(hc:eU X (.type T) r)(hg:Gl X x)(hm:X.mg x=none)(hv:Zi x=some (.type T))(ha:WA X (e::es) t)(hn:x≠"__name__":=by decide)(hdb:(x == ("__debug__":Str))=false:=by decide)(he:ZU (e::es) X.env=(false,eval e X.env)::ZU es X.env:=by rfl)(hpl:(X8 pos (ZU es X.env)).any (·.1)=false:=by rfl):WE X 77 (tCB r t):=⟨zV hc hg hm hv ha.h hn hdb he hpl⟩
end
def vR :WO X none ze:=⟨Hb ⟩
def vQ(h:WE X e te):WO X (some e) (Kb te):=⟨Ha h.h⟩
section
variable{lo hi:Option ZN}{tl th:TO}{p2:Pos}
theorem sf{r:V->Option Int->Option Int->Hp->VK->Prop}(hr:SlR X r)(he:WE X e te)(hl:WO X lo tl)(hu:WO X hi th):WE X (.Subscript e (.Slice lo hi none p2) pos) (tSl r te tl th):=⟨Dd hr he.h hl.h hu.h⟩
end
theorem J1{r:R2}(hr:IxR X r)(ha:WE X a ta)(hb:WE X b tb)(hs:vI b):WE X (.Subscript a b pos) (tOp r ta tb):=⟨O5 hr ha.h hb.h hs⟩
section
variable{to:TE}{t:TA}{name:Str}{n_:Pos}{id:String}{r:V->List V->Hp->VK->Prop}
theorem EM (pa : PlainAttrs T) (slot : Slot T name id) (hty : typeOf (.builtin id) = pure (.type "method_descriptor")) (hm : MtR X id r) (ho : WE X o to) (ha : WA X (e :: es) t) (F_ : attributeBase o name X.env (eval o X.env) = eval o X.env := by rfl) (P_ : ((X8 n_ (ZU (e :: es) X.env)).all (λx => !x.1) && (backToKw n_ (keywordEach [] X.env)).all (λx => x.1.isSome)
   && decide ((e::es).length+([]:List Keyword).length+(if ([]:List Keyword).isEmpty then 0 else 1)<30))=true:=by rfl) (D_:(l_.endLine == n_.line)=true:=by rfl) (hs:ZU (e::es) X.env=(false,eval e X.env)::ZU es X.env:=by rfl) (B_:(X8 n_ (ZU es X.env)).any (·.1)=false:=by rfl):WE X (.Call (.Attribute o name l_) (e::es) [] n_) (tBM X.K T r to t):=⟨O6 pa slot hty hm ho.h ha.h F_ P_ D_ hs B_⟩
end
variable{i:ZN}
section
variable{td ty:TE}
theorem Cr(hu:X.A.units+1<cLine)(ho:WE X o td)(hi:WE X i ty)(hs:IX i):WE X (.Subscript o i pos) (Kk td ty):=⟨Hk hu ho.h hi.h hs⟩
def Gh(hu:X.A.units+1<cLine)(hi:WE X i ty)(ho:WE X o td):WC X .In i o (OA ty td):=⟨Lk hu hi.h ho.h⟩
def pq(hu:X.A.units+1<cLine)(hi:WE X i ty)(ho:WE X o td):WC X .NotIn i o (qo ty td):=⟨zW hu hi.h ho.h⟩
theorem Cj(hu:X.A.units+1<cLine)(ho:WE X o td)(hi:WE X i ty)(hv:WE X value tv)(hs:XE value (some (.Subscript o i g_)) pos.line X.env=pure false):WS X (.Assign [.Subscript o i g_] value pos) (Kv td ty tv):=⟨G8 hu ho.h hi.h hv.h hs⟩
end
def yQ :WE X (.Dict [] [] pos) EN:=⟨Dg ⟩
theorem Cq{X:Cx}{pos:Pos}{keys:List (Option ZN)}{m_:List ZN}{trs:List (TE×TE)}(h:PPs X pos keys m_ trs)(M_:keys.all (·.isSome)=true)(hl:keys.length=m_.length)(h0:keys≠[])(h15:keys.length<=15):WE X (.Dict keys m_ pos) (Ki trs):=⟨Hj h M_ hl h0 h15⟩
theorem wpv(i:Nat){x:Str}{pos:Pos}(hN:X.N[i]?=some x:=by rfl)(hv:Vis X.env.scope x:=by first|exact Or.inl rfl|exact Or.inr (Or.inl rfl)|exact Or.inr (Or.inr rfl))(hd:(x == ("__debug__":Str))=false:=by decide)(hcd:(x == ("__classdict__":Str))=false:=by decide):WE X (.Name x pos) (MX i):=⟨pv i hN hv hd hcd⟩
def WW.pt{X:Cx}{e:ZN}{t:TT}(h:WW X e t):WT X e t:=⟨h.h.pt⟩
def yw(i j:Int):Prop:=0<j/\j.natAbs.log2<9000
theorem qL:OpR X (binaryOp .FloorDiv) (rI yw λi j=>.int (i / j)):=opI λi j _ _ _ _ _ hc q=>by
 refine PyProof.Rows.floordiv_int (by have:=hc.1;omega) ?_ (.inl (PyProof.noPylong_of_log2 hc.2));rw[Int.fdiv_eq_ediv_of_nonneg i (Int.le_of_lt hc.1)];exact q
theorem nY:OpR X (compareOp .IsNot) (λx y H Q=>∃k l,x=.bl k/\y=.bl l/\Q (.bl (k !=l)) H):=by
 rintro a_ s σ H x y v u Q I rx ry ⟨k,l,rfl,rfl,q⟩;cases rx;cases ry;exact PyProof.Rows.isnot_bool ⟨.bl (k !=l),H,I,rfl,q⟩
theorem vA:eU X (.builtin "isinstance") (λxs H Q=>∃(x:V) (T:String) (t:Z5) (k:Bool),xs=[x,.ty T]/\xk X.K H x t/\PySem.W.kitOne X.K t (.type T)=some k/\Q (.bl k) H):=by
 rintro a_ s σ H xs us Q I r ⟨x,T,t,k,rfl,ty,e,q⟩;let⟨u,w',rfl,ru,rw'⟩:=CD r;cases rw';exact AD I ru ty e λtk=>⟨.bl k,H,I.tok tk,rfl,q⟩
def cG{H:Hp}{p:Addr}(h:H p=none)(o:HO):uo H (upd H p o):=λb u q=>by rw[aD (cQ q h)];exact q
def Def(K:Z3)(mg:79)(x:Str)(st:Zn)(ps:List Str):Prop:=
 ∃f fd,Fun K x x st f fd/\ig K fd ps []/\mg x=some (.ref f)
def Has(P:Zq)(w:Zr)(K:Z3)(mg:79)(base:Heap)(x:Str)(k:Nat)(ps:List Str)(sp:Sp):Prop:=
 ∃f fd,kX P w K mg base CX0 k f fd ps sp/\ig K fd ps []/\PySem.W.keepIn K (.ref f)=true/\mg x=some (.ref f)
section
variable{P:Zq}{w:Zr}{K:Z3}{mg:Str->Option Z5}{base:Heap}{N:List Str}{k j:Nat}{sp':Sp}
theorem Has.mono(h:Has P w K mg base x j ps sp)(l:j<=k):Has P w K mg base x k ps sp:=by
 let⟨f,fd,a,b,c,d⟩:=h;exact⟨f,fd,a.mono l,b,c,d⟩
theorem Has.imp(h:Has P w K mg base x k ps sp)(i:∀vs H Q E,sp' vs H Q E->sp vs H Q E):Has P w K mg base x k ps sp':=by
 let⟨f,fd,a,b,c,d⟩:=h;exact⟨f,fd,a.imp i,b,c,d⟩
theorem Def.has(d:Def K mg x st ps)(S:cN N ps (ay st))(len:∀vs H Q E,sp vs H Q E->vs.length=ps.length)
  (C_:∀(f:Addr) (cdv:Z5) (A:Ze) (outer:List Env) (s:Z6) (H:Hp) (vs:List V) (Q:VK) (E:XK),eQ k (A.deeper (envOfC x (ay st) s.heap.objs.size f cdv))->sp vs H Q E->
   ∃t,WSs (mJ CX0 P w K mg base N x (ay st) f cdv A outer s H E).nox (cK st) t/\t { nx:=λ_ H'=>Q .non H',rt:=Q } (jg N vs) H):Has P w K mg base x (k+1) ps sp:=by
 let⟨f,fd,F,b,m⟩:=d;exact⟨f,fd,F.ok S len (λcdv A outer s H vs Q E hr h=>let ⟨t,a,b⟩:=C_ f cdv A outer s H vs Q E hr h;⟨t,a.h,b⟩),b,F.kp,m⟩
theorem Def.none(d:Def K mg x st ps)(no:∀vs H Q E,¬sp vs H Q E):Has P w K mg base x k ps sp:=by
 let⟨f,fd,F,b,m⟩:=d;exact⟨f,fd,⟨λvs H Q E h=>absurd h (no vs H Q E),λA outer s H args us vs Q E _ _ _ _ h=>absurd h (no vs H Q E)⟩,b,F.kp,m⟩
end
theorem EL{X:Cx}{k:Nat}{ps:List Str}{sp:Sp}{x:Str}{p pos:Pos}{e:ZN}{es:List ZN}{t:TA}(F:Has X.prog X.w X.K X.mg X.base x k ps sp)(hr:eQ k X.A)(hg:Gl X x)
  (ha:WA X (e::es) t) (hdb:(x == ("__debug__":Str))=false:=by decide) (he:ZU (e::es) X.env=(false,eval e X.env)::ZU es X.env:=by rfl) (hpl:(X8 pos (ZU es X.env)).any (·.1)=false:=by rfl) :
  WE X 77 (Km sp [] E0 t):=by
 let⟨f,fd,a,b,c,d⟩:=F;exact⟨Hm a hr hg d c b .nil Dj ha.h hdb he hpl⟩
structure Blt(mg:Str->Option Z5):Prop where
 len:mg "len"=none
 isinstance:mg "isinstance"=none
 int:mg "int"=none
 bool:mg "bool"=none
 str:mg "str"=none
 tuple:mg "tuple"=none
 list:mg "list"=none
 range:mg "range"=none
 min:mg "min"=none
 sum:mg "sum"=none
 all:mg "all"=none
 zip:mg "zip"=none
 sorted:mg "sorted"=none
 dict:mg "dict"=none
 enumerate:mg "enumerate"=none
 any:mg "any"=none
 max:mg "max"=none
 set:mg "set"=none
def sF{n:Nat}(h:n<=1000):n<=ZC:=Nat.le_of_lt (zo h)
theorem xW{n:Nat}(h:n<2^60):n.log2<1920:=by
 by_cases e:n=0;subst e;decide;have:=(Nat.log2_lt e).mpr h;omega
theorem Ee(ns:List Int)(lo hi:Option Int):Bi (ns.map V.int) lo hi=((ns.drop (HT.sIx (ns.map V.int).length 0 lo)).take (HT.sIx (ns.map V.int).length (ns.map V.int).length hi-HT.sIx (ns.map V.int).length 0 lo)).map V.int:=by
 unfold Bi;rw[List.map_take,List.map_drop]
def mT:Zi "int"=some (.type "int"):=rfl
def ue:Zi "bool"=some (.type "bool"):=rfl
def bW:Zi "tuple"=some (.type "tuple"):=rfl
def bP:Zi "list"=some (.type "list"):=rfl
def Bw:Zi "dict"=some (.type "dict"):=rfl
def oI:Zi "isinstance"=some (.builtin "isinstance"):=rfl
def Ep:Zi "min"=some (.builtin "min"):=rfl
def kR:Zi "all"=some (.builtin "all"):=rfl
def Er:Zi "any"=some (.builtin "any"):=rfl
def fJ:Zi "sorted"=some (.builtin "sorted"):=rfl
theorem iE{X:Cx}{x:Str}{T:String}{pos:Pos}(hg:Gl X x)(hm:X.mg x=none)(hv:Zi x=some (.type T))(hn:x≠"__name__":=by decide)(hd:(x == ("__debug__":Str))=false:=by decide):WE X (.Name x pos) (tC (.ty T)):=
 ⟨Hn hg hm hv rfl hn hd⟩
theorem p8{α:Type}{xs:List α}{k:Int}{v:α}(h0:0<=k)(h:xs[k.toNat]?=some v):atI xs k=some v:=by
 have ek:k=((k.toNat:Nat):Int):=by omega
 rw[ek];exact oN h
theorem Fun.okW{P:Zq}{w:Zr}{K:Z3}{mg:79}{base:Heap}{x qual:Str}{st:Zn}{f:Addr}{fd:XF}{N ps:List Str}{k:Nat}{sp:Sp}(F:Fun K x qual st f fd)(S:cN N ps (ay st))(len:∀vs H Q E,sp vs H Q E->vs.length=ps.length)
  (C_:∀(cdv:Z5) (A:Ze) (outer:List Env) (s:Z6) (H:Hp) (vs:List V) (Q:VK) (E:XK),eQ k (A.deeper (envOfC qual (ay st) s.heap.objs.size f cdv))->sp vs H Q E->
   ∃t,WSs (mJ CX0 P w K mg base N qual (ay st) f cdv A outer s H E).nox (cK st) t/\t { nx:=λ_ H'=>Q .non H',rt:=Q } (jg N vs) H):kX P w K mg base CX0 (k+1) f fd ps sp:=
 F.ok S len λcdv A outer s H vs Q E hr h=>let ⟨t,a,b⟩:=C_ cdv A outer s H vs Q E hr h;⟨t,a.h,b⟩
def xy(env:Env):List (Str×Addr)->Prop
 |[]=>True
 |p::r=>env.cells.lookup p.1=some p.2/\xy env r
theorem xy.look{env:Env}:∀{cl:List (Str×Addr)} {y:Str} {c:Addr},xy env cl->cl.lookup y=some c->env.cells.lookup y=some c
 |[],_,_,_,h=>by simp at h
 |(n,d)::r,y,c,a,h=>by
  let⟨a1,a2⟩:=a;rw[XM]at h;by_cases e:(y == n)=true
  ·rw[e]at h;have e':y=n:=by simpa using e
   subst e';cases h;exact a1
  ·have e':(y == n)=false:=by simpa using e
   rw[e']at h;exact xy.look a2 h
abbrev cxC(X:Cx)(Nc:List Str)(scope:XA)(cl:List (Str×Addr))(s3:Z6)(H3:Hp)(fp:List Addr):Cx where
 prog:=X.prog
 w:=X.w
 K:=X.K
 mg:=X.mg
 base:=X.base
 A:=X.A
 N:=Nc
 s₀:=s3
 H₀:=H3
 env:=compEnvC scope cl s3.heap.objs.size X.env
 outer:=X.stack
 stack:=X.stack
 ex:=fp
 fn:=λ_=>false
 calm:=X.calm
 pn:=[]
 xe:=λ_ _=>False
def stC(n:Nat)(caps:List Nat)(σ:L2.St):L2.St:=ZO n none++caps.map λi=>(σ[i]?).getD none
def Gu(wi:TI)(g:TG)(te:TE)(n:Nat)(caps:List Nat):TE:=λσ H Q=>wi σ H λJ H1=>∀l,H1 l=none->∃W:Nat->Nat->L2.St->Hp->Prop,(∃m,W 0 m (stC n caps σ) (upd H1 l (.lst [])))/\
 ∀i m σ' H2,W i m σ' H2->(J.stop i H2/\Q (.ref l) H2)\/(J.go i H2/\∃N:L2.St->Hp->Prop,(∀σ'' H',N σ'' H'->∃m',m'<m/\W (i+1) m' σ'' H')/\
  ∀x H3,J.yld i H2 x H3->g x σ' H3 λσ2 H4=>te σ2 H4 λv H5=>∃ys,H5 l=some (.lst ys)/\ys.length<ZC/\N σ2 (upd H5 l (.lst (ys++[v]))))
theorem t8{prog:Zq}{w:Zr}{A:Ze}{R:Result->Z6->Prop}{s:Z6}{elt r_ iter:ZN}{scope:XA}{pos:Pos}{it acc:Z5}{env:Env}(I:Nat->Z6->Prop)
  (E_:∀n s,I n s->wpAny 69 A (pyNext it) (λr s₁=>match r with
   |none=>R (.ok .next) s₁
   | some v=>wpAny 69 A (letOwnedTupleGo r_ it v) (λ_ s₁'=>wpAny 69 A (assign r_ env v) (λ_ s₂=>wpAny 69 A (eval elt env) (λx s₃=>
     wpAny 69 A (call (.builtin "list.append") [acc,x]) (λ_ s₄=>∃m,m<n/\I m s₄) (λ_ _=>False) s₃)
     (λ_ _=>False) s₂) (λ_ _=>False) s₁') (λ_ _=>False) s₁) (λ_ _=>False) s)
  (n:Nat) (h:I n s) :
  codeAny 69 A (.compLoop (.ListComp elt [⟨r_,iter,[],0⟩] scope pos) 0 it acc env) R s:=by
 refine codeAny_loop rfl I (λn s hI=>?_) n h;show wpAny _ _ ((compTurn (.ListComp elt [⟨r_,iter,[],0⟩] scope pos) 0 it acc env).onRaise (λx=>do noteFrame x env;theTreesLotGoes x)) _ _ s;refine wpAny_noted ?_;rw[compTurn_list1];refine Z2 (wpAny_standAt (Z2 (XZ (E_ n s hI) (λr s₁ h₁=>?_) λ_ _ h'=>h'.elim)));cases r with
 |none=>exact Z8 h₁
 |some v=>
  refine Z2 (XZ h₁ (λ_ s₁' h₁'=>?_) λ_ _ h'=>h'.elim);exact Z2 (XZ h₁' (λ_ s₂ h₂=>Z2 (Z2 (XZ h₂ (λx s₃ h₃=>Z2 (XZ h₃
   (λ_ s₄ h₄=>Z8 (Z8 ⟨rfl,h₄⟩)) λ_ _ h'=>h'.elim)) λ_ _ h'=>h'.elim))) λ_ _ h'=>h'.elim)
section
variable{a_:List (Addr×Obj)}{σ:L2.St}{H:Hp}{s:Z6}{Nc capN:List Str}{scope:XA}{cl:List (Str×Addr)}{fp:List Addr}{n:Nat}{caps:List Nat}
def Cap(X:Cx)(scope:XA)(cl:List (Str×Addr))(i:Nat)(y:Str):Prop:=X.N[i]?=some y/\X.env.scope.names.lookup y=some .cell/\(relabel scope X.env).names.lookup y=some .cell/\∃c,cl.lookup y=some c
theorem Inv.comp{h1:Heap}{t':Nat}(I:47)(hc:X.calm=true)(f2:∀b∈fp,yA X a_ H b)(fo:∀b∈fp,b<s.heap.objs.size)(i_:scope.kind=.function)(hcl:xy X.env cl)
  (w_:((relabel scope X.env).names.all λp=>!(p.2 == .cell||p.2 == .free)||(cl.lookup p.1).isSome)=true)
  (s_:Paired (Cap X scope cl) caps capN) (tn:List Str) (hN:Nc=tn++capN) (hn:tn.length=n)
  (hns:h1.Ns s.heap.objs.size (λ_=>none)) (hk:∀b o,s.heap.get? b=some o->h1.get? b=some o) :
  Inv (cxC X Nc scope cl s H fp) [] (stC n caps σ) H { s with heap:=h1,toks:=t' }:=by
 have lkc:∀y c,cl.lookup y=some c->X.env.cells.lookup y=some c:=λy c e=>hcl.look e;refine⟨⟨I.ok.mod,?_,I.ok.glob,I.ok.blt,ZW _,λx y c a b=>I.ok.inj x y c (lkc _ _ a) (lkc _ _ b),λx hx=>?_,λx c z=>(nomatch z),I.ok.hd,I.ok.frames,.inl rfl,λb hb=>⟨ZL (fo b hb),λx c e=>(f2 b hb).2.2.2.2.1 x c (lkc _ _ e)⟩,I.bs,X2 I.ok.bsz I.sz,
  λb o e hb=>?_,λb hb z=>?_,I.stack,I.stkFree⟩,rfl,I.bare,Un.kept hk,⟨_,hns,λi y v h1' h2 h3=>?_⟩,λy c e=>?_,I.hok.fresh (ZW _),λy c e=>I.freeC y c (lkc _ _ e),λp hp=>(by simp at hp),I.hok.kept hk,?_⟩
 exact i_
 ·have hx':(relabel scope X.env).names.lookup x=some .cell\/(relabel scope X.env).names.lookup x=some .free:=hx;have mem:∀{k},(relabel scope X.env).names.lookup x=some k->(x,k)∈(relabel scope X.env).names:=λ{k} e=>by
   generalize (relabel scope X.env).names=L at e;induction L with
   |nil=>simp at e
   |cons p r ih=>
    let⟨a,b⟩:=p;rw[XM]at e;by_cases q:(x == a)=true;rw[q]at e;cases e;have:x=a:=by simpa using q
    subst this;exact ZD;rw[show(x == a)=false by simpa using q]at e;exact ZY _ (ih e)
  have fin:∀{k},(k=NameKind.cell\/k=.free)->(relabel scope X.env).names.lookup x=some k->∃c,cl.lookup x=some c:=λ{k} hk' e=>by
   have:=XJ.mp w_ _ (mem e);dsimp only at this;have q:(cl.lookup x).isSome=true:=by
    rcases hk' with z|z<;>subst z<;>simpa using this
   exact Option.isSome_iff_exists.mp q
  rcases hx' with e|e;exact fin (.inl rfl) e;exact fin (.inr rfl) e
 rcases(f2 b hb).2.2.2.1 with z|z;exact I.ok.noex b o e z;exact absurd (ZI (ZH e) I.ok.bsz) (Nat.not_lt.mpr z);rcases ZT.mp (I.stkSub b z)with q|q;exact(f2 b hb).2.1 q;exact(f2 b hb).2.2.1 q;let⟨m,hm,hl⟩:=I.loc;have h2':(stC n caps σ)[i]?=some (some v):=h2;have h1'':Nc[i]?=some y:=h1';unfold stC at h2';by_cases hi:i<n;rw[Zk ‹hi›,XB,Xe hi]at h2';cases h2';rw[Zf 72,List.length_replicate,Zz]at h2';rw[hN,Zf 24,hn]at h1'';have key:∀(j:Nat) {caps:List Nat} {capN:List Str},Paired (Cap X scope cl) caps capN->capN[j]?=some y->(Option.map (λi=>(σ[i]?).getD none) caps[j]?)=some (some v)->∃k,Cap X scope cl k y/\σ[k]?=some (some v):=by
  intro j;induction j with
  |zero=>
   intro caps capN P e1 e2;cases P with
   |nil=>simp at e1
   |@cons a b l r p t=>
    simp at e1 e2;subst e1;cases q:σ[a]? with
    |none=>rw[q]at e2;simp at e2
    |some w'=>rw[q]at e2;simp at e2;subst e2;exact⟨a,p,q⟩
  |succ j ih=>
   intro caps capN P e1 e2;cases P with
   |nil=>simp at e1
   |cons p t=>exact ih t ‹e1› ‹e2›
 let⟨k,⟨c1,c2,c3,c,c4⟩,e⟩:=key _ s_ h1'' h2';let⟨u,r,lk⟩:=hl k y v c1 e (.inr (.inl c2));refine⟨u,r,.inr ⟨.inl c3,c,c4,?_⟩⟩;rcases lk with⟨z,_⟩|⟨_,c',e',o,ho,hd⟩;have z':X.env.scope.names.lookup y=some .local:=z;rw[c2]at z';cases z';rw[lkc _ _ c4]at e';cases e';exact⟨o,hk _ _ ho,hd⟩;let⟨v,o,ho,hd⟩:=I.cell y c (lkc _ _ e);exact⟨v,o,hk _ _ ho,hd⟩;show(stC n caps σ).length=Nc.length;have pl:caps.length=capN.length:=Paired.length s_;unfold stC;rw[ZV,List.length_replicate,ZQ,hN,ZV,hn,pl]
end
theorem Eg{X:Cx}{Nc capN tn:List Str}{scope:XA}{cl:List (Str×Addr)}{n:Nat}{caps:List Nat}{tg iter elt:ZN}{pos:Pos}{wi:TI}{g:TG}{te:TE}
  (hc:X.calm=true) (hi:WI X tg iter wi) (hg:∀s3 H3 fp,WG 58 tg g) (he:∀s3 H3 fp,WE 58 elt te)
  (t_:closureFor scope X.env=pure cl) (i_:scope.kind=.function) (hnl:∀x∈scope.names,x.2=.local->scope.names.lookup x.1=some .local) (k_:∀x∈scope.names,x.2≠.cell)
  (hcl:xy X.env cl) (w_:((relabel scope X.env).names.all λp=>!(p.2 == .cell||p.2 == .free)||(cl.lookup p.1).isSome)=true)
  (s_:Paired (Cap X scope cl) caps capN) (hN:Nc=tn++capN) (hn:tn.length=n)
  {use:Option (Z5->Sem Unit)} {a_:57} {σ:L2.St} {H:Hp} {s:Z6} {Q:VK} {Qf:Z5->Z6->Prop} (I:47) (h:Gu wi g te n caps σ H Q)
  (R_:∀(D C:Addr) (s6:Z6) (H5:Hp) (m:79),Inv X a_ σ H5 s6->s6.heap.Ns C m->H5 C=none->C≠X.env.locals->X.s₀.heap.objs.size<=C->(∀x c,X.env.cells.lookup x=some c->c≠C)->(∀p∈X.pn++a_,p.1≠C)->Q (.ref D) H5->compPost 49 X.A X.xe use Qf (.ref D) C (.ok .next) s6)
  (hs:∀x,foldedSetIterable iter X.env x=pure x) :
  wpAny 49 X.A (comprehension (.ListComp elt [⟨tg,iter,[],0⟩] scope pos) scope X.env (firstIterPos [⟨tg,iter,[],0⟩] pos) (newList []) (firstAsync [⟨tg,iter,[],0⟩]) (firstIter [⟨tg,iter,[],0⟩] X.env) use) Qf X.xe s:=by
 refine wpAny_comprehension_free (use:=use) (g:=⟨tg,iter,[],0⟩) (gs:=[]) rfl hs t_ i_ hnl (thn (hi.h a_ s σ H _ I h) λv s1 h1=>thn h1 λitv s2 h2=>?_);let⟨it,fp,tnn,J,H2,rfl,I2,T,st2,f2,hW⟩:=h2;have hD:=I2.fresh;let⟨W,⟨m0,w0⟩,E_⟩:=hW _ hD;refine wpAny_newObj_type (wpAny_newFunctionEnv k_ (by intro y hy;simp at hy) (λh₁ O_ N_=>?_) i_);dsimp only at O_ N_ ⊢;have I3:Inv X a_ σ (upd H2 s2.heap.objs.size (.lst [])) { s2 with heap:=s2.heap.push { cls:=.type "list",dict:=none,data:=.seq ([]:List Z5).toArray },toks:=s2.toks }:=I2.lnew (its:=[]) .nil (X5 _);generalize hs3:({ s2 with heap:=s2.heap.push { cls:=.type "list",dict:=none,data:=.seq ([]:List Z5).toArray },toks:=s2.toks }:Z6)=s3 at I3;have es3:s3.heap=s2.heap.push { cls:=.type "list",dict:=none,data:=.seq ([]:List Z5).toArray }:=by rw[<-hs3]
 generalize hDD:s2.heap.objs.size=D at *;have kept:∀b o,s3.heap.get? b=some o->h₁.get? b=some o:=λb o e=>by
  have lt:=ZH e;rw[es3]at lt e;exact N_.extBut b o (ZL lt) (Z7 _ e)
 have old:∀b o,s2.heap.get? b=some o->s3.heap.get? b=some o:=λb o e=>by rw[es3];exact Z7 _ e
 have ltD:∀b∈fp,b<D:=λb hb=>by
  let⟨o,e,_⟩:=T.obj 0 _ st2 b hb;rw[<-hDD];exact ZH e
 have fo:∀b∈fp,b<s3.heap.objs.size:=λb hb=>by
  let⟨o,e,_⟩:=T.obj 0 _ st2 b hb;exact ZH (old _ _ e)
 have f3:∀b∈fp,yA X a_ (upd H2 D (.lst [])) b:=λb hb=>by
  refine⟨?_,(f2 b hb).2⟩;rw[aD (ZL (ltD b hb))];exact(f2 b hb).1
 rw[<-es3]at O_ N_ ⊢;have Ic:=λt'=>Inv.comp (h1:=h₁) (t':=t') (Nc:=Nc) (n:=n) I3 hc f3 fo i_ hcl w_ s_ tn hN hn O_ kept;have stat:∀{H':Hp},(∀b∈fp,H' b=none)->∀b∈fp,yA 70 [] H' b:=λhn' b hb=>by
  refine⟨hn' b hb,ZL (fo b hb),λz=>?_,.inl hb,λx c e=>(f2 b hb).2.2.2.2.1 x c (hcl.look e),λp hp=>by simp at hp⟩;rcases ZT.mp (I3.stkSub b z)with q|q;exact(f2 b hb).2.1 q;exact(f2 b hb).2.2.1 q
 have loop:∀s4:Z6,(∃t',s4={ s3 with heap:=h₁,toks:=t' })->codeAny 49 X.A (.compLoop (.ListComp elt [⟨tg,iter,[],0⟩] scope pos) 0 (.ref it) (.ref D) (compEnvC scope cl s3.heap.objs.size X.env))
   (compPost 49 X.A X.xe use Qf (.ref D) s3.heap.objs.size) s4:=by
  rintro s4 ⟨t',rfl⟩;refine t8 (λn' s'=>∃i σ' H',Inv 70 [] σ' H' s'/\tnn i s'.heap/\(∀b∈fp,H' b=none)/\W i n' σ' H') ?_ m0
   ⟨0,_,_,Ic t',T.keep 0 _ _ st2 λb hb o e=>kept _ _ (old _ _ e),λb hb=>(f3 b hb).1,w0⟩
  rintro n' s5 ⟨i,σ5,H5,I5,st5,fr5,w5⟩;rcases E_ i n' σ5 H5 w5 with⟨stop,qn⟩|⟨go,N,hN',step⟩;refine thn (T.done 70 rfl rfl rfl hc i [] s5 σ5 H5 (λ_ _=>False) I5 (stat fr5) st5 stop) λr s6 ⟨hr,I6⟩=>?_;subst hr;let⟨m,hm,_⟩:=I6.loc;have I7:Inv X a_ σ H5 s6:=Inv.call' (ch:=fp) I3 I6.os I6.base I6.hok I6.bare λb hb=>⟨(f2 b hb).2.2.2.1,(f2 b hb).2.1,(f2 b hb).2.2.2.2.1,(f2 b hb).2.2.2.2.2⟩;exact R_ D _ s6 H5 m I7 hm I6.free (Ne.symm (ZL I3.lt)) I3.sz (λx c e=>by
    let⟨v',o,ho,_⟩:=I3.cell x c e;exact ZL (ZH ho)) (λp hp=>ZL (ZH (I3.pin p hp).1)) qn
  refine thn (T.item 70 rfl rfl rfl hc i [] s5 σ5 H5 (λ_ _=>False) I5 (stat fr5) st5 go) λr s6 ⟨u,hr,h6⟩=>?_;subst hr;refine thn h6 λ_ s7 hz=>?_;let⟨x,H7,I7,r7,y7,st7,fr7⟩:=hz;have I7':=I7.pinned (stat fr7) (T.obj _ _ st7);refine thn ((hg s3 (upd H2 D (.lst [])) fp).h _ s7 σ5 H7 x u _ I7' r7 (step x H7 y7)) λ_ s8 hz=>?_;let⟨σ8,H8,I8,q8⟩:=hz;refine thn ((he s3 (upd H2 D (.lst [])) fp).h _ s8 σ8 H8 _ I8 q8) λv9 s9 hz=>?_;let⟨x9,H9,I9,r9,ys,hy,hlt,q9⟩:=hz;refine thn (nZ (X:=cxC X Nc scope cl s3 (upd H2 D (.lst [])) fp) _ s9 σ8 H9 (.ref D) [x9] (.ref D) [v9] (λ_ H'=>N σ8 H') I9 rfl (.cons r9 .nil) ⟨D,ys,x9,rfl,rfl,hy,hlt,q9⟩) λ_ s10 hz=>?_;let⟨_,H10,I10,_,q10⟩:=hz;let⟨m',hm,w10⟩:=hN' σ8 H10 q10;refine⟨m',hm,i+1,σ8,H10,I10.unpinned,T.keep _ _ _ st7 λb hb o e=>(I10.pin (b,o) (Zg _ (Zg _ (fq hb e)))).1,λb hb=>?_,w10⟩;let⟨o,e,d⟩:=T.obj _ _ st7 b hb;exact(I10.pin (b,o) (Zg _ (Zg _ (fq hb e)))).2.1
 have e4:∀t',({ s2 with heap:=h₁,toks:=t' }:Z6)={ s3 with heap:=h₁,toks:=t' }:=λt'=>by rw[<-hs3]
 refine codeAny_compStart_list (loop _ ⟨_,e4 _⟩) (T.self _ 0 _ _ _ (T.keep 0 _ _ st2 λb hb o e=>kept _ _ (old _ _ e)) (loop _ ⟨_,e4 _⟩))
theorem vS{X:Cx}{Nc capN tn:List Str}{scope:XA}{cl:List (Str×Addr)}{n:Nat}{caps:List Nat}{tg iter elt:ZN}{pos:Pos}{wi:TI}{g:TG}{te:TE}
  (hc:X.calm=true) (hi:WI X tg iter wi) (hg:∀s3 H3 fp,WG 58 tg g) (he:∀s3 H3 fp,WE 58 elt te)
  (t_:closureFor scope X.env=pure cl) (i_:scope.kind=.function) (hnl:∀x∈scope.names,x.2=.local->scope.names.lookup x.1=some .local) (k_:∀x∈scope.names,x.2≠.cell)
  (hcl:xy X.env cl) (w_:((relabel scope X.env).names.all λp=>!(p.2 == .cell||p.2 == .free)||(cl.lookup p.1).isSome)=true)
  (s_:Paired (Cap X scope cl) caps capN) (hN:Nc=tn++capN) (hn:tn.length=n)
  (hs:∀x,foldedSetIterable iter X.env x=pure x:=by intro _;rfl) :
  WE X (.ListComp elt [⟨tg,iter,[],0⟩] scope pos) (Gu wi g te n caps):=by
 constructor;intro a_ s σ H Q I h;rw[eval_ListComp];refine Eg hc hi hg he t_ i_ hnl k_ hcl w_ s_ hN hn I h (λD C s6 H5 m I7 hm fr nl sz cn pn qn=>⟨m,hm,λh' hs'=>?_⟩) hs;exact⟨.ref D,H5,I7.turned (t':=s6.toks) (it:=C) (λb o hb e=>hs'.extBut b o hb e) fr nl (.inr sz) cn pn,rfl,qn⟩
theorem ux:∀{bs:List Bool} {us:List Z5} {i:Nat} {v:Z5},bS (bs.map V.bl) us->us[i]?=some v->∃b,bs[i]?=some b/\v=.bool b
 |[],_,_,_,r,e=>by cases r;simp at e
 |b::bs,_,0,_,.cons r _,e=>by
  have r':_=Value.bool b:=r;simp at e;subst e;exact⟨b,by simp,r'⟩
 |b::bs,_,i+1,v,.cons _ t,e=>by
  let⟨b',e1,e2⟩:=ux (i:=i) (v:=v) t ‹e›;exact⟨b',by simpa using e1,e2⟩
theorem Ew(bs:List Bool):(Zp bs.length).all (λi=>(bs[i]?).getD true)=bs.all id:=by
 rw[Bool.eq_iff_iff,XJ,XJ];constructor;intro h b hb;let⟨i,hi,e⟩:=List.mem_iff_getElem.mp hb;have:=h i (XH.mpr hi);rw[ZK hi,X9,e]at this;exact this;intro h i hi;have hi':=XH.mp hi;have:=h _ (XT hi');rw[ZK hi',X9];exact this
theorem Ad{h:Heap}{b:Addr}{o:Obj}(e:h.get? b=some o):¬b∈[h.objs.size]:=λz=>by
 have z':b=h.objs.size:=by simpa using z
 exact absurd (ZH e) (by rw[z'];exact Xv _)
theorem kM(hc:X.calm=true):eU X (.builtin "all") (λxs H Q=>∃(p:Addr) (bs:List Bool),xs=[.ref p]/\SqL X.K H p (bs.map V.bl)/\Q (.bl (bs.all id)) H):=by
 intro a_ s σ H xs us Q I r h;let⟨p,bs,rfl,hq,q⟩:=h;let⟨u,rfl,rx⟩:=jv r;cases rx;let⟨its,rv,pl,hz⟩:=I.list hq;have h_:=rv.length;rw[ZQ]at h_;refine call_all_walk (wpAny_pyIter_list pl.isList ?_);have lt:p<s.heap.objs.size:=by let⟨o,e,_⟩:=pl.isList;exact ZH e
 refine⟨s.heap.objs.size,_,_,_,_,_,λi=>(bs[i]?).getD true,rfl,Walks.list (show X.A.in1.handled=none from I.ok.hd hc) s.heap.objs.size p (ZL lt) its.toArray,⟨⟨_,ZG _ rfl,rfl,rfl⟩,pl.isList.at λo e=>Z7 _ e⟩,?_,λh' tk hk=>?_⟩;intro i v s' Q' E' hP hQ;have hP':its.toArray[i]?=some v:=hP;let⟨b,e1,e2⟩:=ux rv ‹hP'›;subst e2;dsimp only at hQ;rw[e1,X9]at hQ;exact wpAny_truthy_bool hQ;have e:(Zp its.toArray.size).all (λi=>(bs[i]?).getD true)=bs.all id:=by
  rw[ZP,<-h_];exact Ew bs
 rw[e];exact⟨.bl (bs.all id),H,I.kept λb o e=>hk b o (Ad e) (Z7 _ e),rfl,q⟩
open PySem.AutoSeq1 (wpAny_loadPart')
theorem Eh{prog:Zq}{w:Zr}{A:Ze}{E:Z5->Z6->Prop}{s:Z6}{t b:Addr}{vs ws:List Z5}{Q:Z5->Z6->Prop}(ht:IsTup s.heap t vs.toArray)(hb:IsTup s.heap b ws.toArray)(hv:vs=[])
  (h1:Q (.ref b) s):wpAny 69 A (binaryOp .Add (.ref t) (.ref b)) Q E s:=by
 let⟨⟨cls,dd,data,sl⟩,ho,hc,n,hd⟩:=id ht;let⟨⟨cls2,dd2,data2,sl2⟩,ho2,hc2,n2,hd2⟩:=id hb;simp only at hc hd hc2 hd2;subst hc hd hc2 hd2;exact concat_meets ⟨_,ho,rfl⟩ ⟨_,ho2,rfl⟩ noFill_tuple_add seq_tuple_add PySem.F.slot_tuple_add PySem.F.entry_tuple_add (PySem.F.args_tuple_add_2 _ _)
   (tuple_addW0 t b vs.toArray ws.toArray n n2 dd dd2 sl sl2 (by simp[hv])) ⟨ho,ho2,h1⟩
theorem mF:fillsNumberSlot (.type "tuple") "mul"=pure false:=
 PySem.fillsNumberSlot_seq (id:="tuple.__mul__") (r:=some (.builtin "tuple.__rmul__")) F.slot_tuple_mul.lookup 39 F.slot_tuple_rmul.lookup 39
theorem sO:seqRepeat? (.type "tuple")=pure (some (.builtin "tuple.__mul__")):=by
 unfold seqRepeat?;rw[PySem.seqSlot_of (T:="tuple") (name:="__mul__") (id:="tuple.__mul__") F.slot_tuple_mul.lookup 39,PySem.seqSlot_of (T:="tuple") (name:="__rmul__") (id:="tuple.__rmul__") F.slot_tuple_rmul.lookup 39];rfl
theorem o7(a:Int)(t:Tok)(l:Addr)(items:Array Z5)(n:Nat)(dd:Option Addr)(sl:Array (Option Z5)) :
  Meets (Builtin.«int.__rmul__» ⟨[.int a t,.ref l],[]⟩) (λ_ R s=>s.heap.get? l=some { cls:=.type "tuple",dict:=dd,data:=.seq items n,slots:=sl }/\R (.ok (.ret Value.notImplemented)) s):=
 .of_wp λprog w A R s h=>by let⟨hp,g,d,tk,os⟩:=s;let⟨hl,h⟩:=h;wp_walk using wpAny_loadPart' hl;exact⟨_,rfl,h⟩
theorem uB(l:Addr)(items:Array Z5)(n:Nat)(dd:Option Addr)(sl:Array (Option Z5))(t:Tok) :
  Meets (Builtin.«tuple.__mul__» ⟨[.ref l,.int 1 t],[]⟩) (λ_ R s=>s.heap.get? l=some { cls:=.type "tuple",dict:=dd,data:=.seq items n,slots:=sl }/\R (.ok (.ret (Value.ref l))) s):=
 .of_wp λprog w A R s h=>by let⟨hp,g,d,tk,os⟩:=s;let⟨hl,h⟩:=h;have f1:=AutoSeq1.idx_int;wp_walk using wpAny_loadPart' hl;exact⟨_,rfl,h⟩
theorem uA(l:Addr)(items:Array Z5)(n:Nat)(dd:Option Addr)(sl:Array (Option Z5))(k:Int)(t:Tok)(hc0:¬(decide (k < -2^63)||decide (k≥2^63))=true)(hc1:¬(items.isEmpty||k == 1)=true)(hc2:¬(decide (k<=0)||items.isEmpty)=true)
  (hc3:¬((items.size:Int)*k>(2^63-1) / 8)) (hc4:¬Builtin.Tuple.tupleTooMany ((items.size:Int)*k)=true) (hz:(List.foldl (λx1 x2=>x1++x2) #[] (ZO k.toNat items)).size<=ZC) :
  Meets (Builtin.«tuple.__mul__» ⟨[.ref l,.int k t],[]⟩) (λ_ R s=>s.heap.get? l=some { cls:=.type "tuple",dict:=dd,data:=.seq items n,slots:=sl }/\
   R (.ok (.ret (Value.ref s.heap.objs.size))) { s with heap:=s.heap.push { cls:=Value.type "tuple",data:=Data.seq (List.foldl (λx1 x2=>x1++x2) #[] (ZO k.toNat items)) } }):=
 .of_wp λprog w A R s h=>by
  let⟨hp,g,d,tk,os⟩:=s;let⟨hl,h⟩:=h;have f1:=AutoSeq1.idx_int;have g0:(decide (k < -2^63)||decide (k≥2^63))=false:=by simpa using hc0
  have g1:(items.isEmpty||k == 1)=false:=by simpa using hc1
  have g2:(decide (k<=0)||items.isEmpty)=false:=by simpa using hc2
  have g4:Builtin.Tuple.tupleTooMany ((items.size:Int)*k)=false:=by simpa using hc4
  wp_walk using wpAny_loadPart' hl
  refine PySem.W.KFB.if_not g0 ?_
  wp_walk using wpAny_loadPart' hl
  try (refine PySem.W.KFB.if_not g1 ?_;wp_walk using wpAny_loadPart' hl)
  try (refine PySem.W.KFB.if_not g2 ?_;wp_walk using wpAny_loadPart' hl)
  try (rw[Xd hc3];wp_walk using wpAny_loadPart' hl)
  try (refine PySem.W.KFB.if_not g4 ?_;wp_walk using wpAny_loadPart' hl)
  try (refine wpAny_ite_false (Xf (Nat.not_lt.mpr hz)) ?_;wp_walk)
  exact⟨_,rfl,h⟩
structure Q5(H:Hp)(p xs:Addr):Prop where
 ex:∃(ns:List Int) (at' cur:Int),H p=some (.lst [.ref xs,.int at',.int cur])/\H xs=some (.lst (ns.map V.int))/\xs≠p/\0<=at'/\0<=cur
def EO(K:Z3):Sp:=λvs H Q _=>∃(a:Addr) (ns:List Int),vs=[.ref a]/\SqL K H a (ns.map V.int)/\∀(q xs:Addr) (H':Hp),uo H H'->Q5 H' q xs->H q=none->Q (.ref q) H'
theorem Am{m:Int}(h0:0<=m)(h:m<2^60):m.natAbs.log2<9000:=by
 have:=xW (n:=m.natAbs) 24;omega
end OG
namespace OP
open PySem PySem.Spec PyProof.Rows L2 OG
inductive U where
 |non|bl (b:Bool)|int (i:Int)|str (x:Str)|tup (us:List U)|ref (l:Nat)|kl (ns:List Int)
structure Cl where
 C:Addr
 ns:List Str
inductive O where
 |lst (us:List U)|dic (kvs:List (Key×U))|ins (c:Cl) (fs:List (Option U))|fdc (ep:Nat) (kvs:List (Key×U))|dnt (kvs:List (List (List Int)×U))|fdn (ep:Nat) (kvs:List (List (List Int)×U))|cod (p:Addr) (pos:Pos) (q:Str)|lam (Φ:Obj->List V->Prop) (cs:List U)
abbrev Sto:=List O
abbrev Rho:=List (Option U)
def KL(K:Z3)(H:Hp)(a:Addr)(ns:List Int):Prop:=
 (∃o,H a=some (.frz o (.lst (ns.map V.int))))\/
  ∃(o:Obj) (its:Array Z5) (n:Nat),K.lookup a=some o/\o.cls=.type "list"/\o.dict=none/\o.data=.seq its n/\its.size<=ZC/\bS (ns.map V.int) its.toList
theorem KL.sq{K:Z3}{H:Hp}{a:Addr}{ns:List Int}(h:KL K H a ns):SqL K H a (ns.map V.int):=by
 rcases h with h|h;exact .inl (.inr h);exact .inr h
mutual
def Is(K:Z3)(m:List Addr)(H:Hp):V->U->Prop
 |v,.non=>v=.non
 |v,.bl b=>v=.bl b
 |v,.int i=>v=.int i
 |v,.str x=>v=.str x
 |v,.tup us=>∃a xs,v=.ref a/\SqT K H a xs/\IsL K m H xs us
 |v,.ref l=>∃a,m[l]?=some a/\v=.ref a
 |v,.kl ns=>∃a,v=.ref a/\KL K H a ns
def IsL(K:Z3)(m:List Addr)(H:Hp):List V->List U->Prop
 |xs,[]=>xs=[]
 |xs,u::us=>∃x r,xs=x::r/\Is K m H x u/\IsL K m H r us
end
structure yz(K:Z3)(H H':Hp):Prop where
 t:∀a xs,SqT K H a xs->SqT K H' a xs
 l:∀a ns,KL K H a ns->KL K H' a ns
 c:∀a ob,H a=some (.frz ob (.own 0))->H' a=some (.frz ob (.own 0))
structure Ext(K:Z3)(m:List Addr)(H:Hp)(m':List Addr)(H':Hp):Prop where
 pre:∃t,m'=m++t
 keep:yz K H H'
variable{K:Z3}{m m':List Addr}{H H':Hp}{v:V}{us:List U}{a q:Addr}
section
variable{m'':List Addr}{H'':Hp}{x:V}{u:U}{xs ys:List V}{ws:List U}{o:HO}
def Ext.refl:Ext K m H m H:=⟨⟨[],by simp⟩,λ_ _ h=>h,λ_ _ h=>h,λ_ _ h=>h⟩
theorem Ext.trans(a:Ext K m H m' H')(b:Ext K m' H' m'' H''):Ext K m H m'' H'':=by
 let⟨t,rfl⟩:=a.pre;let⟨t',rfl⟩:=b.pre;exact⟨⟨t++t',by simp⟩,λc ys h=>b.keep.t c ys (a.keep.t c ys h),λc ys h=>b.keep.l c ys (a.keep.l c ys h),λc ob h=>b.keep.c c ob (a.keep.c c ob h)⟩
def Ext.of(k:yz K H H'):Ext K m H m H':=⟨⟨[],by simp⟩,k⟩
def Ext.new(k:yz K H H'):Ext K m H (m++[q]) H':=⟨⟨[q],rfl⟩,k⟩
theorem Ext.get{l:Nat}(e:Ext K m H m' H')(h:m[l]?=some a):m'[l]?=some a:=by
 let⟨t,rfl⟩:=e.pre;rw[Zk (Z9.mp h).1];exact h
mutual
theorem Is.mono(e:Ext K m H m' H'):∀{v:V} {u:U},Is K m H v u->Is K m' H' v u
 |v,.non,h=>by unfold Is at h ⊢;exact h
 |v,.bl b,h=>by unfold Is at h ⊢;exact h
 |v,.int i,h=>by unfold Is at h ⊢;exact h
 |v,.str x,h=>by unfold Is at h ⊢;exact h
 |v,.tup us,h=>by
  unfold Is at h ⊢;let⟨a,xs,e1,k,l⟩:=h;exact⟨a,xs,e1,e.keep.t _ _ k,IsL.mono e l⟩
 |v,.ref l,h=>by
  unfold Is at h ⊢;let⟨a,k,e1⟩:=h;exact⟨a,e.get k,e1⟩
 |v,.kl ns,h=>by
  unfold Is at h ⊢;let⟨a,e1,k⟩:=h;exact⟨a,e1,e.keep.l _ _ k⟩
theorem IsL.mono(e:Ext K m H m' H'):∀{xs:List V} {us:List U},IsL K m H xs us->IsL K m' H' xs us
 |xs,[],h=>by unfold IsL at h ⊢;exact h
 |xs,u::us,h=>by
  unfold IsL at h ⊢;let⟨x,r,e1,k,l⟩:=h;exact⟨x,r,e1,Is.mono e k,IsL.mono e l⟩
end
def Is.int_{i:Int}:Is K m H (.int i) (.int i):=by unfold Is;rfl
def Is.bl_{b:Bool}:Is K m H (.bl b) (.bl b):=by unfold Is;rfl
def Is.non_:Is K m H .non .non:=by unfold Is;rfl
def Is.str_{x:Str}:Is K m H (.str x) (.str x):=by unfold Is;rfl
def Is.of_int{i:Int}(h:Is K m H v (.int i)):v=.int i:=by unfold Is at h;exact h
def Is.of_bl{b:Bool}(h:Is K m H v (.bl b)):v=.bl b:=by unfold Is at h;exact h
def Is.of_non(h:Is K m H v .non):v=.non:=by unfold Is at h;exact h
def Is.of_str{x:Str}(h:Is K m H v (.str x)):v=.str x:=by unfold Is at h;exact h
def Is.of_tup(h:Is K m H v (.tup us)):∃a xs,v=.ref a/\SqT K H a xs/\IsL K m H xs us:=by unfold Is at h;exact h
def Is.of_ref{l:Nat}(h:Is K m H v (.ref l)):∃a,m[l]?=some a/\v=.ref a:=by unfold Is at h;exact h
def Is.of_kl{ns:List Int}(h:Is K m H v (.kl ns)):∃a,v=.ref a/\KL K H a ns:=by unfold Is at h;exact h
def Is.tup_(e:SqT K H a xs)(h:IsL K m H xs us):Is K m H (.ref a) (.tup us):=by unfold Is;exact⟨a,xs,rfl,e,h⟩
def Is.ref_{l:Nat}(e:m[l]?=some a):Is K m H (.ref a) (.ref l):=by unfold Is;exact⟨a,e,rfl⟩
def IsL.nil_:IsL K m H [] []:=by unfold IsL;rfl
def IsL.cons_(h:Is K m H x u)(t:IsL K m H xs us):IsL K m H (x::xs) (u::us):=by unfold IsL;exact⟨x,xs,rfl,h,t⟩
def IsL.of_nil(h:IsL K m H xs []):xs=[]:=by unfold IsL at h;exact h
def IsL.of_cons(h:IsL K m H xs (u::us)):∃x r,xs=x::r/\Is K m H x u/\IsL K m H r us:=by unfold IsL at h;exact h
theorem IsL.length:∀{xs:List V} {us:List U},IsL K m H xs us->xs.length=us.length
 |xs,[],h=>by rw[h.of_nil];rfl
 |xs,d::ds,h=>by
  let⟨x,r,rfl,_,t⟩:=h.of_cons;rw[ZM,ZM,IsL.length t]
theorem IsL.getD:∀{xs:List V} {us:List U} {i:Nat} {u:U},IsL K m H xs us->us[i]?=some u->∃x,xs[i]?=some x/\Is K m H x u
 |xs,[],i,x,h,e=>by simp at e
 |xs,d::ds,0,x,h,e=>by
  let⟨y,r,rfl,k,t⟩:=h.of_cons;simp at e;subst e;exact⟨y,by simp,k⟩
 |xs,d::ds,i+1,x,h,e=>by
  let⟨y,r,rfl,k,t⟩:=h.of_cons;let⟨d',e1,e2⟩:=IsL.getD (i:=i) (u:=x) t ‹e›;exact⟨d',by simpa using e1,e2⟩
theorem IsL.append:∀{xs:List V} {us:List U},IsL K m H xs us->IsL K m H ys ws->IsL K m H (xs++ys) (us++ws)
 |xs,[],h,k=>by rw[h.of_nil];exact k
 |xs,d::ds,h,k=>by
  let⟨y,r,rfl,z,t⟩:=h.of_cons;exact .cons_ z (IsL.append t k)
theorem IsL.set:∀{xs:List V} {us:List U} {j:Nat},IsL K m H xs us->Is K m H x u->IsL K m H (xs.set j x) (us.set j u)
 |xs,[],j,h,k=>by rw[h.of_nil];exact .nil_
 |xs,d::ds,0,h,k=>by
  let⟨y,r,rfl,z,t⟩:=h.of_cons;exact .cons_ k t
 |xs,d::ds,j+1,h,k=>by
  let⟨y,r,rfl,z,t⟩:=h.of_cons;exact .cons_ z (IsL.set t k)
theorem IsL.drop:∀{xs:List V} {us:List U} (n:Nat),IsL K m H xs us->IsL K m H (xs.drop n) (us.drop n)
 |xs,us,0,h=>h
 |xs,[],n+1,h=>by rw[h.of_nil];exact .nil_
 |xs,d::ds,n+1,h=>by
  let⟨y,r,rfl,z,t⟩:=h.of_cons;exact IsL.drop n t
theorem IsL.take:∀{xs:List V} {us:List U} (n:Nat),IsL K m H xs us->IsL K m H (xs.take n) (us.take n)
 |xs,us,0,h=>.nil_
 |xs,[],n+1,h=>by rw[h.of_nil];exact .nil_
 |xs,d::ds,n+1,h=>by
  let⟨y,r,rfl,z,t⟩:=h.of_cons;exact .cons_ z (IsL.take n t)
theorem IsL.erase:∀{xs:List V} {us:List U} (n:Nat),IsL K m H xs us->IsL K m H (xs.eraseIdx n) (us.eraseIdx n)
 |xs,[],n,h=>by rw[h.of_nil];exact .nil_
 |xs,d::ds,0,h=>by
  let⟨y,r,rfl,z,t⟩:=h.of_cons;exact t
 |xs,d::ds,n+1,h=>by
  let⟨y,r,rfl,z,t⟩:=h.of_cons;exact .cons_ z (IsL.erase n t)
theorem IsL.rev:∀{xs:List V} {us:List U},IsL K m H xs us->IsL K m H xs.reverse us.reverse
 |xs,[],h=>by rw[h.of_nil];exact .nil_
 |xs,d::ds,h=>by
  let⟨y,r,rfl,z,t⟩:=h.of_cons;rw[List.reverse_cons,List.reverse_cons];exact IsL.append (IsL.rev t) (.cons_ z .nil_)
theorem IsL.rep:∀(n:Nat),IsL K m H xs us->IsL K m H (ZO n xs).flatten (ZO n us).flatten
 |0,h=>.nil_
 |n+1,h=>by
  rw[XY,XY,Xj,Xj];exact h.append (IsL.rep n h)
theorem qU(h:H a=some o)(nt:∀xs,o≠.tup xs)(nf:∀ob xs,o≠.frz ob (.tup xs))(nl:∀ob xs,o≠.frz ob (.lst xs))(nc:∀ob,o≠.frz ob (.own 0))(o':HO):yz K H (upd H a o'):=by
 refine⟨λb xs q=>?_,λb ns q=>?_,λb ob q=>by rw[aD (λz=>by subst z;rw[q]at h;cases h;exact nc _ rfl)];exact q⟩;rcases q with(q|⟨ob,q⟩)|q;have n:b≠a:=λz=>by subst z;rw[q]at h;cases h;exact nt _ rfl
 exact .inl (.inl (by rw[aD n];exact q));have n:b≠a:=λz=>by subst z;rw[q]at h;cases h;exact nf _ _ rfl
 exact .inl (.inr ⟨ob,by rw[aD n];exact q⟩);exact .inr q;rcases q with⟨ob,q⟩|q;have n:b≠a:=λz=>by subst z;rw[q]at h;cases h;exact nl _ _ rfl
 exact .inl ⟨ob,by rw[aD n];exact q⟩;exact .inr q
theorem cu(s:uo H H'):yz K H H':=by
 refine⟨λb xs q=>?_,λb ns q=>?_,λb ob q=>s _ _ q⟩;rcases q with(q|⟨ob,q⟩)|q;exact .inl (.inl (s _ _ q));exact .inl (.inr ⟨ob,s _ _ q⟩);exact .inr q;rcases q with⟨ob,q⟩|q;exact .inl ⟨ob,s _ _ q⟩;exact .inr q
def bu(h:H q=none)(o':HO):yz K H (upd H q o'):=cu (cG h o')
end
abbrev NK:=List (List Int)
def hNK(ks:NK):Int:=reduceHash (Builtin.Tuple.tupleHashOf (ks.map λk=>reduceHash (Builtin.Tuple.tupleHashOf (k.map hashInt))))
abbrev KN:List ((NK×Addr)×V)->List (NK×Addr×Z5)->Prop:=Paired λp q=>p.1.1=q.1/\p.1.2=q.2.1/\cP p.2 q.2.2
def dNo(a:Addr)(kvs:List ((NK×Addr)×V)):HO:=.ext λh=>kvs.length<=ZC/\(a == sysModules)=false/\∃xs,KN kvs xs/\
 ∃o es ep,h.get? a=some o/\o.ExactDict/\o.data=.dict es ep/\es.toList=(xs.map λx=>(⟨hNK x.1,.ref x.2.1,x.2.2⟩:DictEntry))/\(xs.map (·.1)).Nodup
def gQ(K:Z3)(H:Hp)(b:Addr)(k:NK):Prop:=∃cs:List Addr,SqT K H b (cs.map V.ref)/\Paired (λ(l:List Int) c=>SqT K H c (l.map V.int)) k cs
theorem gQ.mono{K:Z3}{H H':Hp}{b:Addr}{k:NK}(e:yz K H H')(h:gQ K H b k):gQ K H' b k:=let ⟨cs,p,q⟩:=h;⟨cs,e.t _ _ p,Paired.mapP q λ_ _ z=>e.t _ _ z⟩
def nP(kvs:List ((NK×Addr)×V)):List (NK×V):=kvs.map λp=>(p.1.1,p.2)
def IsP{κ:Type}(K:Z3)(m:List Addr)(H:Hp)(kvs:List (κ×V))(kus:List (κ×U)):Prop:=kvs.map (·.1)=kus.map (·.1)/\IsL K m H (kvs.map (·.2)) (kus.map (·.2))
def Rf(K:Z3)(m:List Addr)(H:Hp):Option V->Option U->Prop
 |some v,some u=>Is K m H v u
 |none,none=>True
 |_,_=>False
structure InF(K:Z3)(m:List Addr)(H:Hp)(c:Cl)(fs:List (Str×V))(fus:List (Option U)):Prop where
 nd:c.ns.Nodup
 few:c.ns.length<1000
 knd:(fs.map (·.1)).Nodup
 sub:∀x∈fs.map (·.1),x∈c.ns
 len:fus.length=c.ns.length
 at_:∀(i:Nat) (x:Str),c.ns[i]?=some x->Rf K m H (fs.lookup x) ((fus[i]?).join)
theorem Rf.mono{K:Z3}{m m':List Addr}{H H':Hp}{v:Option V}{u:Option U}(e:Ext K m H m' H')(h:Rf K m H v u):Rf K m' H' v u:=by
 cases v with
 |none=>cases u with
  |none=>trivial
  |some u=>exact h.elim
 |some v=>cases u with
  |none=>exact h.elim
  |some u=>exact Is.mono e h
theorem InF.mono{K:Z3}{m m':List Addr}{H H':Hp}{c:Cl}{fs:List (Str×V)}{fus:List (Option U)}(e:Ext K m H m' H')(h:InF K m H c fs fus):InF K m' H' c fs fus:=⟨h.nd,h.few,h.knd,h.sub,h.len,λi x q=>(h.at_ i x q).mono e⟩
def BK(H:Hp)(pos:Pos)(q:Str)(ps:Array Z5):Prop:=TriplesOk ps.toList/\(codeAmong pos ps.toList=none\/∃c ob vs t,codeAmong pos ps.toList=some (.ref c)/\H c=some (.frz ob (.own 0))/\ob.data=.fields vs/\vs[1]?=some (.str q t))
theorem BK.mono{K:Z3}{H H':Hp}{pos:Pos}{q:Str}{ps:Array Z5}(e:yz K H H')(h:BK H pos q ps):BK H' pos q ps:=⟨h.1,h.2.imp id λ⟨c,ob,vs,t,h1,h2,h3⟩=>⟨c,ob,vs,t,h1,e.c _ _ h2,h3⟩⟩
def RW(a C:Addr):HO:=.ext λh=>∃o,h.get? a=some o/\o.cls=.ref C/\o.dict=none/\∃vs,o.data=.fields vs
def RX(a C dx:Addr):HO:=.ext λh=>∃o,h.get? a=some o/\o.cls=.ref C/\o.dict=some dx/\∃vs,o.data=.fields vs
def RU(o:Obj)(mA:79):Prop:=∀(h:Heap) (d:Addr),h.get? d=some o->h.Ns1 d mA
def DL(a:Addr)(obj:Obj):HO:=.ext λh=>h.get? a=some obj
def Ob(K:Z3)(m:List Addr)(H:Hp)(a:Addr):O->Prop
 |.lst us=>∃xs,H a=some (.lst xs)/\IsL K m H xs us
 |.dic kus=>∃kvs,H a=some (.dK kvs)/\IsP K m H kvs kus
 |.ins c fus=>∃dx fs,H a=some (.ins c.C dx fs)/\InF K m H c fs fus
 |.fdc ep kus=>∃ob es kvs,H a=some (.frz ob (.dK kvs))/\ob.data=.dict es ep/\IsP K m H kvs kus
 |.dnt kus=>∃kvs,H a=some (dNo a kvs)/\(∀p∈kvs,gQ K H p.1.2 p.1.1)/\IsP K m H (nP kvs) kus
 |.fdn ep kus=>∃ob es kvs,H a=some 85/\ob.data=.dict es ep/\(∀p∈kvs,gQ K H p.1.2 p.1.1)/\IsP K m H (nP kvs) kus
 |.cod p pos q=>a=p/\∃ps,H a=some (.tbl ps)/\BK H pos q ps
 |.lam Φ cs=>∃obj vs,H a=some (DL a obj)/\Φ obj vs/\IsL K m H vs cs
structure Sr(K:Z3)(m:List Addr)(S:Sto)(H:Hp):Prop where
 len:m.length=S.length
 nd:m.Nodup
 ob:∀(l:Nat) (a:Addr) (o:O),m[l]?=some a->S[l]?=some o->Ob K m H a o
structure Lr(K:Z3)(m:List Addr)(H:Hp)(ρ:Rho)(σ:L2.St):Prop where
 len:ρ.length=σ.length
 at_:∀(i:Nat) (u:U),ρ[i]?=some (some u)->∃v,σ[i]?=some (some v)/\Is K m H v u
variable{S:Sto}{ρ:Rho}{σ:L2.St}{l:Nat}
section
variable{κ:Type}{o:O}{ho:HO}{u:U}{kvs:List (κ×V)}{kus:List (κ×U)}
def IsP.mono(e:Ext K m H m' H')(h:IsP K m H kvs kus):IsP K m' H' kvs kus:=⟨h.1,h.2.mono e⟩
def IsP.length(h:IsP K m H kvs kus):kvs.length=kus.length:=by have:=h.2.length;simpa using this
def IsP.nil_:IsP (κ:=κ) K m H [] []:=⟨rfl,.nil_⟩
theorem IsP.cons_{k:κ}(h:Is K m H v u)(t:IsP K m H kvs kus):IsP K m H ((k,v)::kvs) ((k,u)::kus):=⟨by simp[t.1],.cons_ h t.2⟩
theorem IsP.ind{P:List (κ×V)->List (κ×U)->Prop}(h0:P [] [])(h1:∀k v u kvs kus,Is K m H v u->IsP K m H kvs kus->P kvs kus->P ((k,v)::kvs) ((k,u)::kus)):∀{kvs:List (κ×V)} {kus:List (κ×U)},IsP K m H kvs kus->P kvs kus
 |[],[],_=>h0
 |[],p::r,h=>by have:=h.length;simp at this
 |p::r,[],h=>by have:=h.length;simp at this
 |(k,v)::r,(k',u)::r',h=>by
  let⟨e,i⟩:=h;simp only[ZR,List.cons.injEq]at e;let⟨e1,e2⟩:=e;subst e1;let⟨x,t,e3,iu,it⟩:=i.of_cons;cases e3;exact h1 k v u r r' iu ⟨e2,it⟩ (IsP.ind h0 h1 (⟨e2,it⟩:IsP K m H r r'))
theorem Ob.mono(e:Ext K m H m' H')(h1:H' a=H a)(h:Ob K m H a o):Ob K m' H' a o:=by
 cases o with
 |lst us=>let⟨xs,k,i⟩:=h;exact⟨xs,h1.trans k,i.mono e⟩
 |dic kus=>let⟨xs,k,i⟩:=h;exact⟨xs,h1.trans k,i.mono e⟩
 |ins C fus=>let⟨dx,fs,k,i⟩:=h;exact⟨dx,fs,h1.trans k,i.mono e⟩
 |fdc ep kus=>let⟨ob,es,kvs,k,d,i⟩:=h;exact⟨ob,es,kvs,h1.trans k,d,i.mono e⟩
 |dnt kus=>let⟨kvs,k,y,i⟩:=h;exact⟨kvs,h1.trans k,λp hp=>(y p hp).mono e.keep,i.mono e⟩
 |fdn ep kus=>let⟨ob,es,kvs,k,d,y,i⟩:=h;exact⟨ob,es,kvs,h1.trans k,d,λp hp=>(y p hp).mono e.keep,i.mono e⟩
 |cod p pos q=>let⟨z,ps,k,i⟩:=h;exact⟨z,ps,h1.trans k,i.mono e.keep⟩
 |lam Φ cs=>let⟨ob,vs,k,d,i⟩:=h;exact⟨ob,vs,h1.trans k,d,i.mono e⟩
theorem Ob.some(h:Ob K m H a o):∃ho,H a=some ho/\(∀xs,ho≠.tup xs)/\(∀ob xs,ho≠.frz ob (.tup xs))/\(∀ob xs,ho≠.frz ob (.lst xs))/\(∀ob,ho≠.frz ob (.own 0)):=by
 cases o with
 |lst us=>let⟨xs,k,i⟩:=h;exact⟨_,k,by simp,by simp,by simp,by simp⟩
 |dic kus=>let⟨xs,k,i⟩:=h;exact⟨_,k,by simp,by simp,by simp,by simp⟩
 |ins C fus=>let⟨dx,fs,k,i⟩:=h;exact⟨_,k,by simp,by simp,by simp,by simp⟩
 |fdc ep kus=>let⟨ob,es,kvs,k,d,i⟩:=h;exact⟨_,k,by simp,by simp,by simp,by simp⟩
 |dnt kus=>let⟨kvs,k,y,i⟩:=h;exact⟨_,k,by simp[dNo],by simp[dNo],by simp[dNo],by simp[dNo]⟩
 |fdn ep kus=>let⟨ob,es,kvs,k,d,y,i⟩:=h;exact⟨_,k,by simp,by simp[dNo],by simp[dNo],by simp[dNo]⟩
 |cod p pos q=>let⟨z,ps,k,i⟩:=h;exact⟨_,k,by simp,by simp,by simp,by simp⟩
 |lam Φ cs=>let⟨ob,vs,k,d,i⟩:=h;exact⟨_,k,by simp[DL],by simp[DL],by simp[DL],by simp[DL]⟩
theorem Lr.mono(e:Ext K m H m' H')(h:Lr K m H ρ σ):Lr K m' H' ρ σ:=⟨h.len,λi u e1=>let ⟨v,e2,e3⟩:=h.at_ i u e1;⟨v,e2,e3.mono e⟩⟩
theorem Lr.set(h:Lr K m H ρ σ)(i:Nat)(hv:Is K m H v u):Lr K m H (ρ.set i (some u)) (σ.set i (some v)):=by
 refine⟨by simp[h.len],λj w e=>?_⟩;by_cases c:i=j;subst c;rw[List.getElem?_set_self' ]at e;rw[List.getElem?_set_self'];have hl:=h.len;cases e1:ρ[i]? with
 |none=>rw[e1]at e;simp at e
 |some z=>
  rw[e1]at e;simp at e;subst e;have:i < σ.length:=by rw[<-hl];exact(Z9.mp e1).1
  rw[ZK this];exact⟨v,rfl,hv⟩
 rw[ZZ c]at e;rw[ZZ c];exact h.at_ j w e
theorem Sr.get(r:Sr K m S H)(h:S[l]?=some o):∃a,m[l]?=some a/\Ob K m H a o:=by
 have hl:l<m.length:=by rw[r.len];exact(Z9.mp h).1
 exact⟨_,ZK hl,r.ob _ _ _ (ZK hl) h⟩
theorem Sr.at_(r:Sr K m S H)(h:m[l]?=some a):∃o,S[l]?=some o/\Ob K m H a o:=by
 have hl:l<S.length:=by rw[<-r.len];exact(Z9.mp h).1
 exact⟨_,ZK hl,r.ob _ _ _ h (ZK hl)⟩
theorem Sr.same(r:Sr K m S H)(s:uo H H'):Sr K m S H':=⟨r.len,r.nd,λl a o h1 h2=>by
 have q:=r.ob l a o h1 h2;let⟨ho,e,_⟩:=q.some;exact q.mono (.of (cu s)) (by rw[s _ _ e,e])⟩
theorem Sr.new(r:Sr K m S H)(h:H q=none)(n:Ob K (m++[q]) (upd H q ho) q o):Sr K (m++[q]) (S++[o]) (upd H q ho):=by
 have hq:q∉m:=λz=>by
  let⟨l,e⟩:=List.getElem?_of_mem z;let⟨o,_,k⟩:=r.at_ e;let⟨ho,e2,_⟩:=k.some;rw[h]at e2;cases e2
 refine⟨by simp[r.len],?_,λl a o' h1 h2=>?_⟩;rw[Xz];exact⟨r.nd,by simp,λx hx y hy z=>by simp at hy;subst hy;subst z;exact hq hx⟩;by_cases c:l<m.length;rw[Zk c]at h1;rw[Zk (by rw[<-r.len];exact c)]at h2;have q':=r.ob l a o' h1 h2;let⟨ho',e,_⟩:=q'.some;exact q'.mono (.new (bu h _)) (by rw[aD (cQ e h)]);have e:l=m.length:=by
  have:=(Z9.mp h1).1;simp at this;omega
 subst e;rw[Zf (ZW _)]at h1;rw[Zf (by rw[r.len];exact ZW _)]at h2;simp[r.len]at h1 h2;subst h1;subst h2;exact n
theorem Sr.put(r:Sr K m S H)(h:m[l]?=some a)(n:Ob K m (upd H a ho) a o):Sr K m (S.set l o) (upd H a ho):=by
 let⟨o0,h0,k0⟩:=r.at_ h;let⟨ho',e,nt,nf,nl,nc⟩:=k0.some;refine⟨by simp[r.len],r.nd,λl' a' o' h1 h2=>?_⟩;by_cases c:l=l';subst c;rw[h]at h1;cases h1;rw[ZE (Z9.mp h0).1]at h2;cases h2;exact n;rw[ZZ c]at h2;have na:a'≠a:=λz=>by
  subst z;let⟨p1,e1⟩:=Z9.mp h;let⟨p2,e2⟩:=Z9.mp h1;exact c ((List.getElem_inj r.nd).mp (e1.trans e2.symm))
 exact(r.ob l' a' o' h1 h2).mono (.of (qU e nt nf nl nc _)) (by rw[aD na])
theorem Sr.keep(r:Sr K m S H)(h:m[l]?=some a)(ho:HO):yz K H (upd H a ho):=by
 let⟨o0,h0,k0⟩:=r.at_ h;let⟨ho',e,nt,nf,nl,nc⟩:=k0.some;exact qU e nt nf nl nc _
end
def kW(K:Z3)(m:List Addr)(H:Hp)(Q:VK)(u:U)(S':Sto):Prop:=∀m' v H',Ext K m H m' H'->Sr K m' S' H'->Is K m' H' v u->Q v H'
abbrev CE:=Rho->Sto->Option (U×Sto)
abbrev CT:=Rho->Sto->Option (Bool×Sto)
abbrev CA:=Rho->Sto->Option (List U×Sto)
inductive Out where
 |nx|rt (u:U)|bk|ct
abbrev CS:=Rho->Sto->Option (Out×Rho×Sto)
def Ey(K:Z3)(m:List Addr)(H:Hp)(Q:Bool->Hp->Prop)(b:Bool)(S':Sto):Prop:=∀m' H',Ext K m H m' H'->Sr K m' S' H'->Q b H'
def Qc(K:Z3)(m:List Addr)(H:Hp)(Q:List V->Hp->Prop)(us:List U)(S':Sto):Prop:=∀m' vs H',Ext K m H m' H'->Sr K m' S' H'->IsL K m' H' vs us->Q vs H'
def gO(K:Z3)(m:List Addr)(H:Hp)(Q:L2.St->Hp->Prop)(ρ':Rho)(S':Sto):Prop:=∀m' σ' H',Ext K m H m' H'->Sr K m' S' H'->Lr K m' H' ρ' σ'->Q σ' H'
def yq(K:Z3)(m:List Addr)(H:Hp)(D:yB):Out->Rho->Sto->Prop
 |.nx,ρ',S'=>gO K m H D.nx ρ' S'
 |.bk,ρ',S'=>gO K m H D.bk ρ' S'
 |.ct,ρ',S'=>gO K m H D.ct ρ' S'
 |.rt u,_,S'=>kW K m H D.rt u S'
theorem kJ{α β γ δ ε:Type}{A B C D:α->β->γ->δ->ε->Prop}{p:Prop}(h:∃a b c d e,A a b c d e/\B a b c d e/\C a b c d e/\D a b c d e)(f:∀a b c d e,A a b c d e->B a b c d e->C a b c d e->D a b c d e->p):p:=by
 let⟨a,b,c,d,e,h1,h2,h3,h4⟩:=h;exact f a b c d e h1 h2 h3 h4
theorem yj{α β γ δ ε ζ:Type}{A B C D:α->β->γ->δ->ε->ζ->Prop}{p:Prop}(h:∃a b c d e g,A a b c d e g/\B a b c d e g/\C a b c d e g/\D a b c d e g)(f:∀a b c d e g,A a b c d e g->B a b c d e g->C a b c d e g->D a b c d e g->p):p:=by
 let⟨a,b,c,d,e,g,h1,h2,h3,h4⟩:=h;exact f a b c d e g h1 h2 h3 h4
theorem QZ{α β γ δ ε ζ:Type}{A B C D E:α->β->γ->δ->ε->ζ->Prop}{p:Prop}(h:∃a b c d e g,A a b c d e g/\B a b c d e g/\C a b c d e g/\D a b c d e g/\E a b c d e g)(f:∀a b c d e g,A a b c d e g->B a b c d e g->C a b c d e g->D a b c d e g->E a b c d e g->p):p:=by
 let⟨a,b,c,d,e,g,h1,h2,h3,h4,h5⟩:=h;exact f a b c d e g h1 h2 h3 h4 h5
def tE(K:Z3)(c:CE):TE:=λσ H Q=>∃m ρ S u S',Sr K m S H/\Lr K m H ρ σ/\c ρ S=some (u,S')/\kW K m H Q u S'
def tT(K:Z3)(c:CT):TT:=λσ H Q=>∃m ρ S u S',Sr K m S H/\Lr K m H ρ σ/\c ρ S=some (u,S')/\Ey K m H Q u S'
def tA(K:Z3)(c:CA):TA:=λσ H Q=>∃m ρ S u S',Sr K m S H/\Lr K m H ρ σ/\c ρ S=some (u,S')/\Qc K m H Q u S'
def tS(K:Z3)(c:CS):TS:=λD σ H=>∃m ρ S o ρ' S',Sr K m S H/\Lr K m H ρ σ/\c ρ S=some (o,ρ',S')/\yq K m H D o ρ' S'
abbrev QE(X:Cx)(e:ZN)(c:CE):Prop:=WE X e (tE X.K c)
abbrev QT(X:Cx)(e:ZN)(c:CT):Prop:=WT X e (tT X.K c)
abbrev QW(X:Cx)(e:ZN)(c:CT):Prop:=WW X e (tT X.K c)
abbrev QS(X:Cx)(e:Zn)(c:CS):Prop:=WS X e (tS X.K c)
abbrev QSs(X:Cx)(e:List Zn)(c:CS):Prop:=WSs X e (tS X.K c)
structure QA(X:Cx)(es:List ZN)(c:CA):Prop where
 h:WA X es (tA X.K c)
 len:∀ρ S us S',c ρ S=some (us,S')->us.length=es.length
variable{X:Cx}{e:ZN}{es:List ZN}{st:Zn}{sts:List Zn}
theorem _root_.OG.WE.imp{t t':TE}(h:WE X e t)(i:∀σ H Q,t' σ H Q->t σ H Q):WE X e t':=⟨λa_ s σ H Q I k=>h.h a_ s σ H Q I (i σ H Q k)⟩
theorem _root_.OG.WT.imp{t t':TT}(h:WT X e t)(i:∀σ H Q,t' σ H Q->t σ H Q):WT X e t':=⟨λa_ s σ H Q I k=>h.h a_ s σ H Q I (i σ H Q k)⟩
theorem _root_.OG.WW.imp{t t':TT}(h:WW X e t)(i:∀σ H Q,t' σ H Q->t σ H Q):WW X e t':=⟨λwh a_ s σ H Q I k=>h.h wh a_ s σ H Q I (i σ H Q k)⟩
theorem _root_.OG.WA.imp{t t':TA}(h:WA X es t)(i:∀σ H Q,t' σ H Q->t σ H Q):WA X es t':=⟨λpos a_ s σ H Q I k=>h.h pos a_ s σ H Q I (i σ H Q k)⟩
theorem _root_.OG.WS.imp{t t':TS}(h:WS X st t)(i:∀D σ H,t' D σ H->t D σ H):WS X st t':=⟨λa_ s σ H D I k=>h.h a_ s σ H D I (i D σ H k)⟩
theorem _root_.OG.WSs.imp{t t':TS}(h:WSs X sts t)(i:∀D σ H,t' D σ H->t D σ H):WSs X sts t':=⟨λa_ s σ H D I k=>h.h a_ s σ H D I (i D σ H k)⟩
theorem _root_.OG.WI.imp{tg:ZN}{t t':TI}(h:WI X tg e t)(i:∀σ H R,t' σ H R->t σ H R):WI X tg e t':=⟨λa_ s σ H R I k=>h.h a_ s σ H R I (i σ H R k)⟩
theorem _root_.OG.WG.imp{t t':TG}(h:WG X e t)(i:∀v σ H Q,t' v σ H Q->t v σ H Q):WG X e t':=⟨λa_ s σ H v u Q I r k=>h.h a_ s σ H v u Q I r (i v σ H Q k)⟩
theorem _root_.OG.WGs.imp{t t':TGs}(h:WGs X es t)(i:∀v σ H Q,t' v σ H Q->t v σ H Q):WGs X es t':=⟨λa_ s σ H v u Q I r k=>h.h a_ s σ H v u Q I r (i v σ H Q k)⟩
theorem _root_.OG.WE.or{t t':TE}(h:WE X e t)(h':WE X e t'):WE X e (λσ H Q=>t σ H Q\/t' σ H Q):=⟨λa_ s σ H Q I k=>k.elim (h.h a_ s σ H Q I) (h'.h a_ s σ H Q I)⟩
theorem _root_.OG.WT.or{t t':TT}(h:WT X e t)(h':WT X e t'):WT X e (λσ H Q=>t σ H Q\/t' σ H Q):=⟨λa_ s σ H Q I k=>k.elim (h.h a_ s σ H Q I) (h'.h a_ s σ H Q I)⟩
theorem _root_.OG.WS.or{t t':TS}(h:WS X st t)(h':WS X st t'):WS X st (λD σ H=>t D σ H\/t' D σ H):=⟨λa_ s σ H D I k=>k.elim (h.h a_ s σ H D I) (h'.h a_ s σ H D I)⟩
theorem _root_.OG.WI.or{tg:ZN}{t t':TI}(h:WI X tg e t)(h':WI X tg e t'):WI X tg e (λσ H D=>t σ H D\/t' σ H D):=⟨λa_ s σ H D I k=>k.elim (h.h a_ s σ H D I) (h'.h a_ s σ H D I)⟩
section
variable{Q:VK}{R:L2.St->Hp->Prop}{D:yB}{u:U}{o:Out}{S':Sto}{ρ':Rho}
def kW.mono(e:Ext K m H m' H')(p:kW K m H Q u S'):kW K m' H' Q u S':=λm2 v H2 e2 r i=>p m2 v H2 (e.trans e2) r i
theorem Ey.mono{Q:Bool->Hp->Prop}{b:Bool}(e:Ext K m H m' H')(p:Ey K m H Q b S'):Ey K m' H' Q b S':=λm2 H2 e2 r=>p m2 H2 (e.trans e2) r
theorem gO.mono(e:Ext K m H m' H')(p:gO K m H R ρ' S'):gO K m' H' R ρ' S':=λm2 v H2 e2 r i=>p m2 v H2 (e.trans e2) r i
theorem yq.mono(e:Ext K m H m' H')(p:yq K m H D o ρ' S'):yq K m' H' D o ρ' S':=by
 cases o with
 |nx=>exact gO.mono e p
 |rt u=>exact kW.mono e p
 |bk=>exact gO.mono e p
 |ct=>exact gO.mono e p
end
def LIM:Nat:=100000
def lim{n:Nat}(h:n<=LIM):n<=ZC:=X2 h (by unfold LIM ZC;decide)
def LG{n:Nat}(h:n<LIM):n<ZC:=ZI h (by unfold LIM ZC;decide)
def af(i:Nat):CE:=λρ S=>match ρ[i]? with
 |some (some u)=>some (u,S)
 |_=>none
def cC(u:U):CE:=λ_ S=>some (u,S)
variable{b c:ZN}{ca cb cc:CE}{pos:Pos}{ta tb:CT}{cr:CA}
section
variable{a:ZN}
theorem OT{i:Nat}(h:WE X e (MX i)):QE X e (af i):=h.imp λσ H Q hz=>kJ hz λm ρ S u S' sr lr hc post=>by
 unfold af at hc;split at hc;rename_i u' e;cases hc;let⟨v,e1,e2⟩:=lr.at_ i u e;exact⟨v,e1,post m v H .refl sr e2⟩;cases hc
theorem q_c{v:V}{u:U}(h:WE X e (tC v))(hi:∀m H,Is X.K m H v u):QE X e (cC u):=h.imp λσ H Q hz=>kJ hz λm ρ S u' S' sr lr hc post=>by
 cases hc;exact post m v H .refl sr (hi m H)
def OW{i:Int}(h:WE X e (tC (.int i))):QE X e (cC (.int i)):=q_c h λ_ _=>.int_
def RE{i:Bool}(h:WE X e (tC (.bl i))):QE X e (cC (.bl i)):=q_c h λ_ _=>.bl_
def OU{i:Str}(h:WE X e (tC (.str i))):QE X e (cC (.str i)):=q_c h λ_ _=>.str_
def OV(h:WE X e (tC .non)):QE X e (cC .non):=q_c h λ_ _=>.non_
def cOp(f:U->U->Sto->Option (U×Sto))(ca cb:CE):CE:=λρ S=>(ca ρ S).bind λp=>(cb ρ p.2).bind λq=>f p.1 q.1 q.2
def OpP(K:Z3)(r:R2)(f:U->U->Sto->Option (U×Sto)):Prop:=
 ∀m S H x y v w u S' Q,Sr K m S H->Is K m H v x->Is K m H w y->f x y S=some (u,S')->kW K m H Q u S'->r v w H Q
theorem z9{K:Z3}{r:R2}{f:U->U->Sto->Option (U×Sto)}(hp:OpP K r f):∀σ H Q,tE K (cOp f ca cb) σ H Q->tOp r (tE K ca) (tE K cb) σ H Q:=by
 rintro σ H Q ⟨m,ρ,S,u,S',sr,lr,hc,post⟩;let⟨⟨x,S1⟩,h1,h⟩:=Z0.mp hc;let⟨⟨y,S2⟩,h2,h3⟩:=Z0.mp h;exact⟨m,ρ,S,x,S1,sr,lr,h1,λm1 v1 H1 e1 sr1 i1=>⟨m1,ρ,S1,y,S2,sr1,lr.mono e1,h2,λm2 v2 H2 e2 sr2 i2=>hp m2 S2 H2 x y v1 v2 u S' Q sr2 (i1.mono e2) i2 h3 (post.mono (e1.trans e2))⟩⟩
theorem dB{op:Operator}{r:R2}{f:U->U->Sto->Option (U×Sto)}(ho:OpR X (binaryOp op) r)(hp:OpP X.K r f)(ha:QE X a ca)(hb:QE X b cb):QE X (.BinOp a op b pos) (cOp f ca cb):=(J0 ho ha hb).imp (z9 hp)
theorem k9{op:CmpOp}{r:R2}{f:U->U->Sto->Option (U×Sto)}(ho:OpR X (compareOp op) r)(hp:OpP X.K r f)(ha:QE X a ca)(hb:QE X b cb)(hm:behindInMarks op b=false):QE X (.Compare a [op] [b] pos) (cOp f ca cb):=(vT ho ha hb hm).imp (z9 hp)
def aA(c:CE):CT:=λρ S=>(c ρ S).bind λp=>match p.1 with
 |.bl b=>some (b,p.2)
 |_=>none
theorem j3{K:Z3}{c:CE}{t:TE}(h:∀σ H Q,tE K c σ H Q->t σ H Q):∀σ H Q,tT K (aA c) σ H Q->t σ H λx H'=>∃k,x=.bl k/\Q k H':=by
 rintro σ H Q ⟨m,ρ,S,u,S',sr,lr,hc,post⟩;let⟨⟨x,S1⟩,h1,h2⟩:=Z0.mp hc;refine h σ H _ ⟨m,ρ,S,x,S1,sr,lr,h1,λm1 v1 H1 e1 sr1 i1=>?_⟩;cases x<;>simp at h2;let⟨rfl,rfl⟩:=h2;exact⟨_,i1.of_bl,post m1 H1 e1 sr1⟩
theorem aJ{op:CmpOp}{r:R2}{f:U->U->Sto->Option (U×Sto)}(ho:OpR X (compareOp op) r)(hp:OpP X.K r f)(ha:QE X a ca)(hb:QE X b cb)(hm:behindInMarks op b=false):QT X (.Compare a [op] [b] pos) (aA (cOp f ca cb)):=(qe ho ha hb hm).imp (j3 (z9 hp))
theorem cW(h:QE X e ca)(he:∀A_,isTrue e X.env A_=(do let v <-A_;standAt e.pos;holding [v] (truthy v)):=by intro _;rfl):QT X e (aA ca):=(F2 h he).imp (j3 λ_ _ _ z=>z)
variable{e_:List ZN}
def pY(ta tb:CT):CT:=λρ S=>(ta ρ S).bind λp=>if p.1=true then tb ρ p.2 else some (false,p.2)
def cOr(ta tb:CT):CT:=λρ S=>(ta ρ S).bind λp=>if p.1=true then some (true,p.2)else tb ρ p.2
def jS(ta:CT):CT:=λρ S=>(ta ρ S).bind λp=>some (!p.1,p.2)
def uI(h:QW X e ta):QT X e ta:=WW.pt h
def nS(ha:QT X a ta):QW X (.BoolOp .And [a] pos) ta:=Cd ha
def sR(ha:QT X a ta):QW X (.BoolOp .Or [a] pos) ta:=F0 ha
theorem oZ(ha:QT X a ta)(hb:QW X (.BoolOp .And (b::e_) pos) tb):QW X (.BoolOp .And (a::b::e_) pos) (pY ta tb):=(F1 ha hb).imp λσ H Q hz=>kJ hz λm ρ S u S' sr lr hc post=>by
 let⟨⟨x,S1⟩,h1,h2⟩:=Z0.mp hc;refine⟨m,ρ,S,x,S1,sr,lr,h1,λm1 H1 e1 sr1=>?_⟩;cases x with
 |true=>exact Jb ⟨m1,ρ,S1,u,S',sr1,lr.mono e1,h2,post.mono e1⟩
 |false=>cases h2;exact Jc (post m1 H1 e1 sr1)
theorem C0(ha:QT X a ta)(hb:QW X (.BoolOp .Or (b::e_) pos) tb):QW X (.BoolOp .Or (a::b::e_) pos) (cOr ta tb):=(JX ha hb).imp λσ H Q hz=>kJ hz λm ρ S u S' sr lr hc post=>by
 let⟨⟨x,S1⟩,h1,h2⟩:=Z0.mp hc;refine⟨m,ρ,S,x,S1,sr,lr,h1,λm1 H1 e1 sr1=>?_⟩;cases x with
 |true=>cases h2;exact Jb (post m1 H1 e1 sr1)
 |false=>exact Jc ⟨m1,ρ,S1,u,S',sr1,lr.mono e1,h2,post.mono e1⟩
theorem eD(ha:QT X a ta):QT X (.UnaryOp .Not a pos) (jS ta):=(F3 ha).imp λσ H Q hz=>kJ hz λm ρ S u S' sr lr hc post=>by
 let⟨⟨x,S1⟩,h1,h2⟩:=Z0.mp hc;cases h2;exact⟨m,ρ,S,x,_,sr,lr,h1,λm1 H1 e1 sr1=>post m1 H1 e1 sr1⟩
def kQ(ca cb:CE):CE:=λρ S=>(ca ρ S).bind λp=>match p.1 with
 |.bl true=>cb ρ p.2
 |.bl false=>some (.bl false,p.2)
 |_=>none
def Q2(ca cb:CE):CE:=λρ S=>(ca ρ S).bind λp=>match p.1 with
 |.bl false=>cb ρ p.2
 |.bl true=>some (.bl true,p.2)
 |_=>none
def vC(ca:CE):CE:=λρ S=>(ca ρ S).bind λp=>match p.1 with
 |.bl b=>some (.bl (!b),p.2)
 |_=>none
def sS{op}(h:QE X a ca):QE X (.BoolOp op [a] pos) ca:=Gb h
theorem kg(ha:QE X a ca)(hb:QE X (.BoolOp .And (b::e_) pos) cb):QE X (.BoolOp .And (a::b::e_) pos) (kQ ca cb):=(Gg ha hb).imp λσ H Q hz=>kJ hz λm ρ S u S' sr lr hc post=>by
 let⟨⟨x,S1⟩,h1,h2⟩:=Z0.mp hc;refine⟨m,ρ,S,x,S1,sr,lr,h1,λm1 v1 H1 e1 sr1 i1=>?_⟩;cases x with
 |bl k=>
  refine⟨k,i1.of_bl,?_⟩;cases k with
  |true=>exact Jb ⟨m1,ρ,S1,u,S',sr1,lr.mono e1,h2,post.mono e1⟩
  |false=>cases h2;exact Jc (post m1 _ H1 e1 sr1 .bl_)
 |_=>simp at h2
theorem zI(ha:QE X a ca):QE X (.UnaryOp .Not a pos) (vC ca):=(Gd ha).imp λσ H Q hz=>kJ hz λm ρ S u S' sr lr hc post=>by
 let⟨⟨x,S1⟩,h1,h2⟩:=Z0.mp hc;refine⟨m,ρ,S,x,S1,sr,lr,h1,λm1 v1 H1 e1 sr1 i1=>?_⟩;cases x with
 |bl k=>cases h2;exact⟨k,i1.of_bl,post m1 _ H1 e1 sr1 .bl_⟩
 |_=>simp at h2
def cIf(t:CT)(ca cb:CE):CE:=λρ S=>(t ρ S).bind λp=>if p.1=true then ca ρ p.2 else cb ρ p.2
def kP(f f':U->U->Sto->Option (U×Sto))(ca cb cc:CE):CE:=λρ S=>(ca ρ S).bind λp=>(cb ρ p.2).bind λq=>(f p.1 q.1 q.2).bind λr=>match r.1 with
 |.bl true=>(cc ρ r.2).bind λz=>f' q.1 z.1 z.2
 |.bl false=>some (.bl false,r.2)
 |_=>none
theorem Bl{K:Z3}{r r':R2}{f f':U->U->Sto->Option (U×Sto)}(hp:OpP K r f)(hp':OpP K r' f'):∀σ H Q,tE K (kP f f' ca cb cc) σ H Q->zg r r' (tE K ca) (tE K cb) (tE K cc) σ H Q:=by
 rintro σ H Q ⟨m,ρ,S,u,S',sr,lr,hc,post⟩;let⟨⟨x,S1⟩,h1,h⟩:=Z0.mp hc;let⟨⟨y,S2⟩,h2,h⟩:=Z0.mp h;let⟨⟨z,S3⟩,h3,h4⟩:=Z0.mp h;refine⟨m,ρ,S,x,S1,sr,lr,h1,λm1 v1 H1 e1 sr1 i1=>⟨m1,ρ,S1,y,S2,sr1,lr.mono e1,h2,λm2 v2 H2 e2 sr2 i2=>hp m2 S2 H2 x y v1 v2 z S3 _ sr2 (i1.mono e2) i2 h3 λm3 v3 H3 e3 sr3 i3=>?_⟩⟩;have e03:=(e1.trans e2).trans e3;cases z with
 |bl k=>
  refine⟨k,i3.of_bl,?_⟩;cases k with
  |true=>
   let⟨⟨w,S4⟩,h5,h6⟩:=Z0.mp h4;exact Jb ⟨m3,ρ,S3,w,S4,sr3,lr.mono e03,h5,λm4 v4 H4 e4 sr4 i4=>hp' m4 S4 H4 y w v2 v4 u S' Q sr4 (i2.mono (e3.trans e4)) i4 h6 (post.mono (e03.trans e4))⟩
  |false=>cases h4;exact Jc (post m3 _ H3 e03 sr3 .bl_)
 |_=>simp at h4
theorem zL{op op':CmpOp}{r r':R2}{f f':U->U->Sto->Option (U×Sto)}(ho:OpR X (compareOp op) r)(hp:OpP X.K r f)(ho':OpR X (compareOp op') r')(hp':OpP X.K r' f')(ha:QE X a ca)(hb:QE X b cb)(hc:QE X c cc)
  (hm:lastMarks [op,op'] [b,c]=false:=by with_unfolding_all rfl):QE X (.Compare a [op,op'] [b,c] pos) (kP f f' ca cb cc):=(yS ho ho' ha hb hc hm).imp (Bl hp hp')
def aq:CA:=λ_ S=>some ([],S)
def ae(ca:CE)(cr:CA):CA:=λρ S=>(ca ρ S).bind λp=>(cr ρ p.2).bind λq=>some (p.1::q.1,q.2)
theorem ak:QA X [] aq:=⟨iF.imp λσ H Q hz=>kJ hz λm ρ S u S' sr lr hc post=>by cases hc;exact post m [] H .refl sr .nil_,λρ S us S' h=>by cases h;rfl⟩
theorem ab(ha:QE X e ca)(hr:QA X es cr)(hs:ZU (e::es) X.env=(false,eval e X.env)::ZU es X.env:=by rfl):QA X (e::es) (ae ca cr):=⟨(dZ ha hr.h hs).imp λσ H Q hz=>kJ hz λm ρ S u S' sr lr hc post=>by
 let⟨⟨x,S1⟩,h1,h⟩:=Z0.mp hc;let⟨⟨y,S2⟩,h2,h3⟩:=Z0.mp h;cases h3;exact⟨m,ρ,S,x,S1,sr,lr,h1,λm1 v1 H1 e1 sr1 i1=>⟨m1,ρ,S1,y,S2,sr1,lr.mono e1,h2,λm2 v2 H2 e2 sr2 i2=>post m2 _ H2 (e1.trans e2) sr2 (.cons_ (i1.mono e2) i2)⟩⟩,
 λρ S us S' h=>by
 let⟨⟨x,S1⟩,h1,h⟩:=Z0.mp h;let⟨⟨y,S2⟩,h2,h3⟩:=Z0.mp h;cases h3;simp[hr.len ρ S1 y S2 h2]⟩
def b8(cr:CA):CE:=λρ S=>(cr ρ S).bind λp=>some (.tup p.1,p.2)
def fZ(cr:CA):CE:=λρ S=>(cr ρ S).bind λp=>some (.ref p.2.length,p.2++[.lst p.1])
def cI{m:List Addr}{S:Sto}{q:Addr}(h:m.length=S.length):(m++[q])[S.length]?=some q:=by rw[Zf 24];simp[h]
theorem qG{K:Z3}{m:List Addr}{H:Hp}{S:Sto}{us:List U}{xs:List V}{Q:VK}{p:Addr}(sr:Sr K m S H)(i:IsL K m H xs us)(post:kW K m H Q (.tup us) S)(hp:H p=none):Q (.ref p) (upd H p (.tup xs)):=
 post m _ _ (.of (bu hp _)) (sr.same (cG hp _)) (.tup_ (SqT.of ax) (i.mono (.of (bu hp _))))
theorem dF{K:Z3}{m:List Addr}{H:Hp}{S:Sto}{us:List U}{xs:List V}{Q:VK}{p:Addr}(sr:Sr K m S H)(i:IsL K m H xs us)(post:kW K m H Q (.ref S.length) (S++[.lst us]))(hp:H p=none):Q (.ref p) (upd H p (.lst xs)):=
 post (m++[p]) _ _ (.new (bu hp _)) (sr.new hp ⟨xs,ax,i.mono (.new (bu hp _))⟩) (.ref_ (cI sr.len))
theorem aY{x1}(h:QA X es cr)(hl:es.length<=1000:=by exact XI rfl):QE X (.Tuple es x1 pos) (b8 cr):=(F8 h.h).imp λσ H Q hz=>kJ hz λm ρ S u S' sr lr hc post=>by
 let⟨⟨us,S1⟩,h1,h2⟩:=Z0.mp hc;cases h2;refine⟨m,ρ,S,us,_,sr,lr,h1,λm1 v1 H1 e1 sr1 i1=>⟨sF ?_,λp hp=>qG sr1 i1 (post.mono e1) hp⟩⟩;rw[i1.length,h.len _ _ _ _ h1];exact hl
theorem fQ(h:QA X es cr)(hl:es.length<=1000:=by exact XI rfl):QE X (.List es pos) (fZ cr):=(yP h.h).imp λσ H Q hz=>kJ hz λm ρ S u S' sr lr hc post=>by
 let⟨⟨us,S1⟩,h1,h2⟩:=Z0.mp hc;cases h2;refine⟨m,ρ,S,us,_,sr,lr,h1,λm1 v1 H1 e1 sr1 i1=>⟨sF ?_,λp hp=>dF sr1 i1 (post.mono e1) hp⟩⟩;rw[i1.length,h.len _ _ _ _ h1];exact hl
def cCB(f:List U->Sto->Option (U×Sto))(cr:CA):CE:=λρ S=>(cr ρ S).bind λp=>f p.1 p.2
def kY(K:Z3)(r:List V->Hp->VK->Prop)(f:List U->Sto->Option (U×Sto)):Prop:=
 ∀m S H us vs u S' Q,Sr K m S H->IsL K m H vs us->f us S=some (u,S')->kW K m H Q u S'->r vs H Q
theorem Fq{K:Z3}{r:List V->Hp->VK->Prop}{f:List U->Sto->Option (U×Sto)}(hp:kY K r f):∀σ H Q,tE K (cCB f cr) σ H Q->tCB r (tA K cr) σ H Q:=by
 rintro σ H Q ⟨m,ρ,S,u,S',sr,lr,hc,post⟩;let⟨⟨us,S1⟩,h1,h2⟩:=Z0.mp hc;exact⟨m,ρ,S,us,S1,sr,lr,h1,λm1 v1 H1 e1 sr1 i1=>hp m1 S1 H1 us v1 u S' Q sr1 i1 h2 (post.mono e1)⟩
theorem aP{id:String}{x:Str}{p:Pos}{r:List V->Hp->VK->Prop}{f:List U->Sto->Option (U×Sto)}(hc:eU X (.builtin id) r)(hp:kY X.K r f)(hg:Gl X x)(hm:X.mg x=none)(hv:Zi x=some (.builtin id))(ha:QA X (e::es) cr)(hn:x≠"__name__":=by decide)(hdb:(x == ("__debug__":Str))=false:=by decide)(he:ZU (e::es) X.env=(false,eval e X.env)::ZU es X.env:=by rfl)(hpl:(X8 pos (ZU es X.env)).any (·.1)=false:=by rfl) :
  QE X 77 (cCB f cr):=(mX hc hg hm hv ha.h hn hdb he hpl).imp (Fq hp)
theorem bt{id:String}{x:Str}{p:Pos}{r:List V->Hp->VK->Prop}{f:List U->Sto->Option (U×Sto)}(hc:eU X (.type id) r)(hp:kY X.K r f)(hg:Gl X x)(hm:X.mg x=none)(hv:Zi x=some (.type id))(ha:QA X (e::es) cr)(hn:x≠"__name__":=by decide)(hdb:(x == ("__debug__":Str))=false:=by decide)(he:ZU (e::es) X.env=(false,eval e X.env)::ZU es X.env:=by rfl)(hpl:(X8 pos (ZU es X.env)).any (·.1)=false:=by rfl) :
  QE X 77 (cCB f cr):=(kZ hc hg hm hv ha.h hn hdb he hpl).imp (Fq hp)
end
def wb(K:Z3)(f:List U->Sto->Option (U×Sto)):Sp:=λvs H Q _=>∃m us S u S',IsL K m H vs us/\Sr K m S H/\f us S=some (u,S')/\kW K m H Q u S'
abbrev Fn:=List U->Sto->Option (U×Sto)
abbrev bh(P:Zq)(w:Zr)(K:Z3)(mg:79)(base:Heap)(x:Str)(k:Nat)(ps:List Str)(f:Fn):Prop:=Has P w K mg base x k ps (wb K f)
def iH(n:Nat)(us:List U):Rho:=us.map some++ZO (n-us.length) none
def fnU(n k:Nat)(c:CS):Fn:=λus S=>if us.length=k then(c (iH n us) S).bind λr=>match r.1 with
 |.rt u=>some (u,r.2.2)
 |.nx=>some (.non,r.2.2)
 |_=>none else none
variable{w:Zr}
section
variable{P:Zq}{mg:Str->Option Z5}{base:Heap}{x:Str}{ps N:List Str}{k:Nat}{c:CS}{f:Fn}
theorem DI{m:List Addr}{H:Hp}{vs:List V}{us:List U}(i:IsL K m H vs us):Lr K m H (iH N.length us) (L2.jg N vs):=by
 have hl:=i.length;refine⟨by simp[iH,L2.jg,hl],λj u e=>?_⟩;unfold iH at e;unfold L2.jg;by_cases c:j<us.length;rw[Zk ‹c›,Zz]at e;rw[Zk (by simpa [hl] using c),Zz];rw[ZK c]at e;simp at e;let⟨v,e1,e2⟩:=i.getD (ZK c);rw[e1];subst e;exact⟨v,rfl,e2⟩
 ·rw[Zf ‹c›,XB]at e;split at e<;>cases e
theorem rz{X:Cx}{body:List Zn}{Q:VK}{E:XK}{vs:List V}{H:Hp}(hK:X.K=K)(h:wb K (fnU N.length ps.length c) vs H Q E):tS X.K c { nx:=λ_ H'=>Q .non H',rt:=Q } (L2.jg N vs) H:=by
 subst hK;let⟨m,us,S,u,S',i,sr,hf,post⟩:=h;unfold fnU at hf;split at hf;let⟨⟨o,ρ',S2⟩,h1,h2⟩:=Z0.mp hf;refine⟨m,_,S,o,ρ',S2,sr,DI i,h1,?_⟩;cases o with
 |rt v=>cases h2;exact post
 |nx=>cases h2;exact λm1 σ1 H1 e1 sr1 _=>post m1 _ H1 e1 sr1 .non_
 |bk=>simp at h2
 |ct=>simp at h2
 cases hf
theorem j4{vs:List V}{H:Hp}{Q:VK}{E:XK}{n k:Nat}(h:wb K (fnU n k c) vs H Q E):vs.length=k:=by
 let⟨m,us,S,u,S',i,sr,hf,post⟩:=h;unfold fnU at hf;split at hf;rename_i e;rw[i.length,e];cases hf
theorem _root_.OG.Def.pure(d:Def K mg x st ps)(S:cN N ps (ay st))
  (hb:∀(f:Addr) (cdv:Z5) (A:Ze) (outer:List Env) (s:Z6) (H:Hp) (E:XK),eQ k (A.deeper (envOfC x (ay st) s.heap.objs.size f cdv))->
   WSs (mJ CX0 P w K mg base N x (ay st) f cdv A outer s H E).nox (cK st) (tS K c)):bh P w K mg base x (k+1) ps (fnU N.length ps.length c):=
 d.has S (λvs H Q E h=>j4 h) λf cdv A outer s H vs Q E hr h=>⟨_,hb f cdv A outer s H E hr,rz (X:=(mJ CX0 P w K mg base N x (ay st) f cdv A outer s H E).nox) (body:=[]) (ps:=ps) rfl h⟩
theorem _root_.OG.Def.no(d:Def K mg x st ps):bh P w K mg base x k ps (λ_ _=>none):=d.none λvs H Q E h=>by
 let⟨m,us,S,u,S',i,sr,hf,post⟩:=h;cases hf
theorem aB{X:Cx}{e:ZN}{es:List ZN}{cr:CA}{p pos:Pos}(F:Has X.prog X.w X.K X.mg X.base x k ps (wb X.K f))(hr:eQ k X.A)(hg:Gl X x)(ha:QA X (e::es) cr)
  (hdb:(x == ("__debug__":Str))=false:=by decide) (he:ZU (e::es) X.env=(false,eval e X.env)::ZU es X.env:=by rfl) (hpl:(X8 pos (ZU es X.env)).any (·.1)=false:=by rfl) :
  QE X 77 (cCB f cr):=(EL F hr hg ha.h hdb he hpl).imp λσ H Q hz=>kJ hz λm ρ S u S' sr lr hc post=>by
 let⟨⟨us,S1⟩,h1,h2⟩:=Z0.mp hc;exact⟨m,ρ,S,us,S1,sr,lr,h1,λm1 v1 H1 e1 sr1 i1=>⟨m1,us,S1,u,S',by simpa using i1,sr1,h2,post.mono e1⟩⟩
end
variable{c1 c2:CS}
section
variable{a:ZN}
def aT:CS:=λρ S=>some (.nx,ρ,S)
def aM(c1 c2:CS):CS:=λρ S=>(c1 ρ S).bind λr=>match r.1 with
 |.nx=>c2 r.2.1 r.2.2
 |o=>some (o,r.2.1,r.2.2)
theorem aN:QSs X [] aT:=Ce.imp λD σ H hz=>yj hz λm ρ S o ρ' S' sr lr hc post=>by cases hc;exact post m σ H .refl sr lr
theorem ah(h1:QS X st c1)(h2:QSs X sts c2):QSs X (st::sts) (aM c1 c2):=(se h1 h2).imp λD σ H hz=>yj hz λm ρ S o ρ' S' sr lr hc post=>by
 let⟨⟨o1,ρ1,S1⟩,h1,h2⟩:=Z0.mp hc;refine⟨m,ρ,S,o1,ρ1,S1,sr,lr,h1,?_⟩;cases o1 with
 |nx=>exact λm1 σ1 H1 e1 sr1 lr1=>⟨m1,ρ1,S1,o,ρ',S',sr1,lr1,h2,post.mono e1⟩
 |rt u=>cases h2;exact post
 |bk=>cases h2;exact post
 |ct=>cases h2;exact post
def aC(h1:QS X st c1):QSs X [st] c1:=vP h1
def eP(ca:CE):CS:=λρ S=>(ca ρ S).bind λp=>some (.nx,ρ,p.2)
theorem cq(he:QE X e ca)(hs:XE e none pos.line X.env=pure false:=by rfl):QS X (.Expr e pos) (eP ca):=(Cg he hs).imp λD σ H hz=>yj hz λm ρ S o ρ' S' sr lr hc post=>by
 let⟨⟨u,S1⟩,h1,h2⟩:=Z0.mp hc;cases h2;exact⟨m,ρ,S,u,_,sr,lr,h1,λm1 v1 H1 e1 sr1 i1=>post m1 σ H1 e1 sr1 (lr.mono e1)⟩
def bR(ca:CE):CS:=λρ S=>(ca ρ S).bind λp=>some (.rt p.1,ρ,p.2)
theorem KC(he:QE X e ca):QS X (.Return (some e) pos) (bR ca):=(yL he).imp λD σ H hz=>yj hz λm ρ S o ρ' S' sr lr hc post=>by
 let⟨⟨u,S1⟩,h1,h2⟩:=Z0.mp hc;cases h2;exact⟨m,ρ,S,u,_,sr,lr,h1,post⟩
def bV(t:CT)(c1 c2:CS):CS:=λρ S=>(t ρ S).bind λp=>if p.1=true then c1 ρ p.2 else c2 ρ p.2
theorem aV{t:CT}{s1 s2:List Zn}(hc:QT X c t)(h1:QSs X s1 c1)(h2:QSs X s2 c2):QS X (.If c s1 s2 pos) (bV t c1 c2):=(JY hc h1 h2).imp λD σ H hz=>yj hz λm ρ S o ρ' S' sr lr hc post=>by
 let⟨⟨x,S1⟩,h1,h2⟩:=Z0.mp hc;refine⟨m,ρ,S,x,S1,sr,lr,h1,λm1 H1 e1 sr1=>?_⟩;cases x with
 |true=>exact Jb ⟨m1,ρ,S1,o,ρ',S',sr1,lr.mono e1,h2,post.mono e1⟩
 |false=>exact Jc ⟨m1,ρ,S1,o,ρ',S',sr1,lr.mono e1,h2,post.mono e1⟩
abbrev CG:=U->Rho->Sto->Option (Rho×Sto)
def tG(K:Z3)(g:CG):TG:=λv σ H Q=>∃m ρ S u ρ' S',Sr K m S H/\Lr K m H ρ σ/\Is K m H v u/\g u ρ S=some (ρ',S')/\gO K m H Q ρ' S'
abbrev QG(X:Cx)(e:ZN)(g:CG):Prop:=WG X e (tG X.K g)
def gNm(i:Nat):CG:=λu ρ S=>some (ρ.set i (some u),S)
theorem bj{i:Nat}(h:WG X e (yh i)):QG X e (gNm i):=h.imp λv σ H Q hz=>QZ hz λm ρ S u ρ' S' sr lr iu hc post=>by
 cases hc;exact post m _ H .refl sr (lr.set i iu)
def ik:List Nat->List U->Rho->Option Rho
 |[],[],ρ=>some ρ
 |i::is,u::us,ρ=>ik is us (ρ.set i (some u))
 |_,_,_=>none
def tGs(K:Z3)(is:List Nat):TGs:=λvs σ H Q=>∃m ρ S us ρ',Sr K m S H/\Lr K m H ρ σ/\IsL K m H vs us/\ik is us ρ=some ρ'/\gO K m H Q ρ' S
abbrev QGs(X:Cx)(es:List ZN)(is:List Nat):Prop:=WGs X es (tGs X.K is)
theorem jE:QGs X [] []:=Cn.imp λv σ H Q ⟨m,ρ,S,us,ρ',sr,lr,iu,hc,post⟩=>by
 cases us with
 |nil=>cases hc;exact⟨iu.of_nil,post m σ H .refl sr lr⟩
 |cons a r=>simp[ik]at hc
theorem cH{i:Nat}{is:List Nat}{es:List ZN}(h:WG X e (yh i))(h2:QGs X es is)(hs:(assignEach (e::es) X.env).map (·.2)=assign e X.env::(assignEach es X.env).map (·.2):=by rfl):QGs X (e::es) (i::is):=(yN h h2 hs).imp λv σ H Q ⟨m,ρ,S,us,ρ',sr,lr,iu,hc,post⟩=>by
 cases us with
 |nil=>simp[ik]at hc
 |cons u r=>
  let⟨x,xr,rfl,i1,i2⟩:=iu.of_cons;exact⟨x,xr,rfl,m,ρ.set i (some u),S,r,ρ',sr,lr.set i i1,i2,hc,post⟩
def gTp(is:List Nat):CG:=λu ρ S=>match u with
 |.tup us=>(ik is us ρ).bind λρ'=>some (ρ',S)
 |_=>none
theorem pC:∀{is:List Nat} {us:List U} {ρ ρ':Rho},ik is us ρ=some ρ'->us.length=is.length
 |[],[],_,_,_=>rfl
 |[],_::_,_,_,h=>by simp[ik]at h
 |_::_,[],_,_,h=>by simp[ik]at h
 |i::is,u::us,ρ,ρ',h=>by
  have:=pC (is:=is) (us:=us) h;simp[this]
theorem nQ{is:List Nat}{es:List ZN}{k:Nat}(hc:X.calm=true)(h:QGs X es is)(hn:(assignEach es X.env).length=is.length:=by rfl)(hst:(assignEach es X.env).findIdx? (·.1)=none:=by rfl):QG X (.Tuple es k pos) (gTp is):=(F6 hc h hn hst).imp λv σ H Q hz=>QZ hz λm ρ S u ρ' S' sr lr iu hc post=>by
 cases u with
 |tup us=>
  let⟨ρ2,h1,h2⟩:=Z0.mp hc;cases h2;let⟨a,xs,rfl,sq,il⟩:=iu.of_tup;refine⟨a,xs,rfl,sq,?_,m,ρ,S,us,ρ',sr,lr,il,h1,post⟩;rw[il.length];exact pC h1
 |_=>simp[gTp]at hc
def Ng(ca:CE)(g:CG):CS:=λρ S=>(ca ρ S).bind λp=>(g p.1 ρ p.2).bind λq=>some (.nx,q.1,q.2)
theorem IQ{K:Z3}{g:CG}:∀D σ H,tS K (Ng ca g) D σ H->Ko (tE K ca) (tG K g) D σ H:=by
 rintro D σ H ⟨m,ρ,S,o,ρ',S',sr,lr,hc,post⟩;let⟨⟨u,S1⟩,h1,h2⟩:=Z0.mp hc;let⟨⟨ρ2,S2⟩,h3,h4⟩:=Z0.mp h2;cases h4;exact⟨m,ρ,S,u,S1,sr,lr,h1,λm1 v1 H1 e1 sr1 i1=>⟨m1,ρ,S1,u,_,_,sr1,lr.mono e1,i1,h3,gO.mono e1 post⟩⟩
theorem KD{tg:ZN}{g:CG}(he:QE X e ca)(hg:QG X tg g)(hs:swapsWithSole [tg] e pos.line X.env=pure false:=by rfl)(hw:swappedStores [tg] e X.env=pure none:=by rfl)
  (h1:(assignEach [tg] X.env).map (·.2)=[assign tg X.env]:=by rfl):QS X (.Assign [tg] e pos) (Ng ca g):=(yM he hg hs hw h1).imp IQ
def bB(i:Nat)(ca:CE):CS:=λρ S=>(ca ρ S).bind λp=>some (.nx,ρ.set i (some p.1),p.2)
theorem KA{i:Nat}{x:Str}{g_:Pos}(hN:X.N.Nodup)(hi:X.N[i]?=some x)(hx:Loc X.env.scope x)(he:QE X e ca)(hs:XE e (some (.Name x g_)) pos.line X.env=pure false:=by rfl)(hf:X.fn x=true\/X.env.scope.names.lookup x=some .local:=by first|exact .inl rfl|exact .inr rfl|assumption) :
  QS X (.Assign [.Name x g_] e pos) (bB i ca):=(yK hN hi hx he hs hf).imp λD σ H hz=>yj hz λm ρ S o ρ' S' sr lr hc post=>by
 let⟨⟨u,S1⟩,h1,h2⟩:=Z0.mp hc;cases h2;exact⟨m,ρ,S,u,_,sr,lr,h1,λm1 v1 H1 e1 sr1 i1=>post m1 _ H1 e1 sr1 ((lr.mono e1).set i i1)⟩
abbrev CI:=Rho->Sto->Option (List U×(Sto->Prop)×Sto)
def BV(K:Z3)(J:It)(m:List Addr)(H:Hp)(us:List U)(ok:Sto->Prop):Prop:=∀m2 S2 H2 i,Ext K m H m2 H2->Sr K m2 S2 H2->ok S2->
 (∀u,us[i]?=some u->J.go i H2/\∀x H3,J.yld i H2 x H3->Ext K m2 H2 m2 H3/\Sr K m2 S2 H3/\Is K m2 H3 x u)/\(us.length<=i->J.stop i H2)
def tI(K:Z3)(ci:CI):TI:=λσ H R=>∃m ρ S us ok S',Sr K m S H/\Lr K m H ρ σ/\ci ρ S=some (us,ok,S')/\∀m' H' J,Ext K m H m' H'->Sr K m' S' H'->BV K J m' H' us ok->R J H'
abbrev QI(X:Cx)(tg iter:ZN)(ci:CI):Prop:=WI X tg iter (tI X.K ci)
open Classical in
def dC(ok:Sto->Prop)(g:CG)(cb:CS):List U->CS
 |[]=>λρ S=>if ok S then some (.nx,ρ,S)else none
 |u::us=>λρ S=>if ok S then(g u ρ S).bind λp=>(cb p.1 p.2).bind λr=>match r.1 with
  |.nx=>dC ok g cb us r.2.1 r.2.2
  |.ct=>dC ok g cb us r.2.1 r.2.2
  |.bk=>some (.nx,r.2.1,r.2.2)
  |.rt v=>some (.rt v,r.2.1,r.2.2)else none
def ji(ci:CI)(g:CG)(cb:CS):CS:=λρ S=>(ci ρ S).bind λp=>dC p.2.1 g cb p.1 ρ p.2.2
theorem kL{α:Type}{us:List α}{i:Nat}{u:α}(h:us[i]?=some u):us.drop i=u::us.drop (i+1):=by
 let⟨hl,e⟩:=Z9.mp h;rw[List.drop_eq_getElem_cons hl,e]
theorem qR{K:Z3}{g:CG}{cb:CS}{J:It}{us:List U}{ok:Sto->Prop}{D:yB}{m1:List Addr}{H1:Hp}{ρ ρ':Rho}{σ:L2.St}{S1 S':Sto}{o:Out}(sr1:Sr K m1 S1 H1)(lr1:Lr K m1 H1 ρ σ)(ito:BV K J m1 H1 us ok)(h2:dC ok g cb us ρ S1=some (o,ρ',S'))(post:yq K m1 H1 D o ρ' S') :
  ∃W:Nat->Nat->L2.St->Hp->Prop,(∃n,W 0 n σ H1)/\∀i n σ H,W i n σ H->
   (J.stop i H/\D.nx σ H)\/(J.go i H/\∃N:L2.St->Hp->Prop,(∀σ' H',N σ' H'->∃n',n'<n/\W (i+1) n' σ' H')/\∀x H',J.yld i H x H'->tG K g x σ H' λσ2 H2=>tS K cb { D with nx:=N,ct:=N,bk:=D.nx } σ2 H2):=by
 let W:Nat->Nat->L2.St->Hp->Prop:=λi n σ2 H2=>n=us.length-i/\i<=us.length/\∃m2 ρ2 S2,Ext K m1 H1 m2 H2/\Sr K m2 S2 H2/\Lr K m2 H2 ρ2 σ2/\dC ok g cb (us.drop i) ρ2 S2=some (o,ρ',S')
 refine⟨W,⟨us.length,by simp,X5 _,m1,ρ,S1,.refl,sr1,lr1,by simpa using h2⟩,?_⟩;rintro i n σ2 H2 ⟨rfl,hi,m2,ρ2,S2,e2,sr2,lr2,hl⟩;by_cases hlt:i<us.length;have hu:=ZK hlt;rw[kL hu]at hl;unfold dC at hl;split at hl;rename_i hok;let⟨⟨ρ3,S3⟩,h3,hl⟩:=Z0.mp hl;let⟨⟨o4,ρ4,S4⟩,h4,hl⟩:=Z0.mp hl;let⟨hgo,hy⟩:=(ito m2 S2 H2 i e2 sr2 hok).1 _ hu;refine .inr ⟨hgo,W (i+1) (us.length-(i+1)),λσ' H' w'=>⟨_,by omega,w'⟩,λx H3 y=>?_⟩;let⟨e3,sr3,ix⟩:=hy x H3 y;refine⟨m2,ρ2,S2,_,ρ3,S3,sr3,lr2.mono e3,ix,h3,λm4 σ4 H4 e4 sr4 lr4=>⟨m4,ρ3,S3,o4,ρ4,S4,sr4,lr4,h4,?_⟩⟩;have e14:=(e2.trans e3).trans e4;have nxt:dC ok g cb (us.drop (i+1)) ρ4 S4=some (o,ρ',S')->gO K m4 H4 (W (i+1) (us.length-(i+1))) ρ4 S4:=λhn m5 σ5 H5 e5 sr5 lr5=>⟨rfl,hlt,m5,ρ4,S4,e14.trans e5,sr5,lr5,hn⟩;cases o4 with
 |nx=>exact nxt hl
 |ct=>exact nxt hl
 |bk=>cases hl;exact gO.mono e14 post
 |rt v=>cases hl;exact kW.mono e14 post
 cases hl;have e:i=us.length:=by omega
 subst e;rw[List.drop_length]at hl;unfold dC at hl;split at hl;rename_i hok;cases hl;exact .inl ⟨(ito m2 _ H2 _ e2 sr2 hok).2 (ZW _),post m2 σ2 H2 e2 sr2 lr2⟩;cases hl
theorem Io{K:Z3}{ci:CI}{g:CG}{cb:CS}:∀D σ H,tS K (ji ci g cb) D σ H->Kg (tI K ci) (tG K g) (tS K cb) D σ H:=by
 rintro D σ H ⟨m,ρ,S,o,ρ',S',sr,lr,hc,post⟩;let⟨⟨us,ok,S1⟩,h1,h2⟩:=Z0.mp hc;exact⟨m,ρ,S,us,ok,S1,sr,lr,h1,λm1 H1 J e1 sr1 ito=>qR sr1 (lr.mono e1) ito h2 (yq.mono e1 post)⟩
theorem gG{tg iter:ZN}{body:List Zn}{ci:CI}{g:CG}{cb:CS}(hp:PassesOwn 49 X.A X.env X.xe)(hc:X.calm=true)(hi:QI X tg iter ci)(hg:QG X tg g)(hb:QSs X body cb)(hs:∀x,foldedSetIterable iter X.env x=pure x:=by intro _;rfl):QS X (.For tg iter body [] pos) (ji ci g cb):=(uu hp hc hi hg hb hs).imp Io
def dA(t:CT)(cb:CS):Nat->CS
 |0=>λ_ _=>none
 |n+1=>λρ S=>(t ρ S).bind λp=>if p.1=true then(cb ρ p.2).bind λr=>match r.1 with
  |.nx=>dA t cb n r.2.1 r.2.2
  |.ct=>dA t cb n r.2.1 r.2.2
  |.bk=>some (.nx,r.2.1,r.2.2)
  |.rt v=>some (.rt v,r.2.1,r.2.2)else some (.nx,ρ,p.2)
theorem yV{K:Z3}{t:CT}{cb:CS}{n:Nat}:∀D σ H,tS K (dA t cb n) D σ H->zc (tT K t) (tS K cb) D σ H:=by
 rintro D σ H ⟨m,ρ,S,o,ρ',S',sr,lr,hc,post⟩;let W:Nat->L2.St->Hp->Prop:=λn σ2 H2=>∃m2 ρ2 S2,Ext K m H m2 H2/\Sr K m2 S2 H2/\Lr K m2 H2 ρ2 σ2/\dA t cb n ρ2 S2=some (o,ρ',S')
 refine⟨W,⟨n,m,ρ,S,.refl,sr,lr,hc⟩,?_⟩;rintro k σ2 H2 ⟨m2,ρ2,S2,e2,sr2,lr2,hl⟩;cases k with
 |zero=>cases hl
 |succ k=>
  unfold dA at hl;let⟨⟨x,S3⟩,h3,hl⟩:=Z0.mp hl;refine⟨m2,ρ2,S2,x,S3,sr2,lr2,h3,λm3 H3 e3 sr3=>?_⟩;have e13:=e2.trans e3;cases x with
  |true=>
   rw[Xe rfl]at hl;refine Jb ?_;let⟨⟨o4,ρ4,S4⟩,h4,hl⟩:=Z0.mp hl;refine⟨W k,λσ' H' w'=>⟨k,Nat.lt_succ_self _,w'⟩,m3,ρ2,S3,o4,ρ4,S4,sr3,lr2.mono e3,h4,?_⟩;have nxt:dA t cb k ρ4 S4=some (o,ρ',S')->gO K m3 H3 (W k) ρ4 S4:=λhn m5 σ5 H5 e5 sr5 lr5=>⟨m5,ρ4,S4,e13.trans e5,sr5,lr5,hn⟩;cases o4 with
   |nx=>exact nxt hl
   |ct=>exact nxt hl
   |bk=>cases hl;exact gO.mono e13 post
   |rt v=>cases hl;exact kW.mono e13 post
  |false=>
   rw[Xd ZF]at hl;refine Jc ?_;cases hl;exact post m3 σ2 H3 e13 sr3 (lr2.mono e3)
theorem qC{body:List Zn}{t:CT}{cb:CS}(n:Nat)(hp:PassesOwn 49 X.A X.env X.xe)(hc:QT X c t)(hb:QSs X body cb):QS X (.While c body [] pos) (dA t cb n):=(yJ hp hc hb).imp yV
def iTp(ca:CE):CI:=λρ S=>(ca ρ S).bind λp=>match p.1 with
 |.tup us=>some (us,λ_=>True,p.2)
 |.ref l=>match p.2[l]? with
  |some (.lst us)=>some (us,λS=>S[l]?=some (.lst us),p.2)
  |_=>none
 |_=>none
theorem L0{K:Z3}{m:List Addr}{H:Hp}{us:List U}{a:Addr}{xs:List V}(sq:SqT K H a xs)(il:IsL K m H xs us):BV K (Itt K a) m H us (λ_=>True):=by
 intro m2 S2 H2 i e2 sr2 _;have sq2:=e2.keep.t _ _ sq;have il2:=il.mono e2;refine⟨λu hu=>?_,λhi=>⟨xs,sq2,by rw[il2.length];exact hi⟩⟩;let⟨x,hx,ix⟩:=il2.getD hu;refine⟨⟨xs,x,sq2,hx⟩,λy H3 hy=>?_⟩;let⟨rfl,hy⟩:=hy;have:=hy xs sq2;rw[hx]at this;cases this;exact⟨.refl,sr2,ix⟩
theorem L1{K:Z3}{m:List Addr}{H:Hp}{us:List U}{a:Addr}{l:Nat}(hl:m[l]?=some a):BV K (Itl K a) m H us (λS=>S[l]?=some (.lst us)):=by
 intro m2 S2 H2 i e2 sr2 hok;let⟨a',ha',xs,hx,il⟩:=sr2.get hok;rw[e2.get hl]at ha';cases ha';refine⟨λu hu=>?_,λhi=>⟨xs,SqL.of hx,by rw[il.length];exact hi⟩⟩;let⟨x,hx',ix⟩:=il.getD hu;refine⟨⟨xs,x,SqL.of hx,hx'⟩,λy H3 hy=>?_⟩;let⟨rfl,hy⟩:=hy;have:=hy xs (SqL.of hx);rw[hx']at this;cases this;exact⟨.refl,sr2,ix⟩
theorem dQ{tg:ZN}(h:QE X e ca):QI X tg e (iTp ca):=((F5 h).or (Ck h)).imp λσ H R hz=>yj hz λm ρ S us ok S' sr lr hc post=>by
 let⟨⟨u,S1⟩,h1,h2⟩:=Z0.mp hc;cases u with
 |tup ws=>
  cases h2;refine .inl ⟨m,ρ,S,.tup us,_,sr,lr,h1,λm1 v1 H1 e1 sr1 i1=>?_⟩;let⟨a,xs,rfl,sq,il⟩:=i1.of_tup;exact⟨a,rfl,⟨xs,sq⟩,post m1 H1 _ e1 sr1 (L0 sq il)⟩
 |ref l=>
  simp only at h2;split at h2;rename_i us' hS;cases h2;refine .inr ⟨m,ρ,S,.ref l,_,sr,lr,h1,λm1 v1 H1 e1 sr1 i1=>?_⟩;let⟨a,hl,rfl⟩:=i1.of_ref;let⟨a',ha',xs,hx,il⟩:=sr1.get hS;rw[hl]at ha';cases ha';exact⟨a,rfl,⟨xs,SqL.of hx⟩,post m1 H1 _ e1 sr1 (L1 hl)⟩;cases h2
 |_=>simp at h2
def cE(lo:Int)(n:Nat):List U:=(Zp n).map λi=>.int (lo+(i:Nat))
theorem DT{K:Z3}{m:List Addr}{H:Hp}{lo:Int}{n:Nat}:BV K (Itr lo n) m H (cE lo n) (λ_=>True):=by
 intro m2 S2 H2 i e2 sr2 _;refine⟨λu hu=>?_,λhi=>by show n<=i;simpa [cE] using hi⟩;unfold cE at hu;rw[Zz]at hu;by_cases c:i<n;rw[Xk c]at hu;simp at hu;subst hu;refine⟨c,λy H3 hy=>?_⟩;let⟨rfl,rfl⟩:=hy;exact⟨.refl,sr2,.int_⟩;rw[Zd ‹c›]at hu;cases hu
def gq(cr:CA):CI:=λρ S=>(cr ρ S).bind λp=>match p.1 with
 |[.int j]=>if -(2^62)<=j/\j<2^62 then some (cE 0 j.toNat,λ_=>True,p.2)else none
 |_=>none
theorem j8{tg:ZN}{cr:CA}{p:Pos}(hg:Gl X "range")(hm:X.mg "range"=none)(ha:QA X [a] cr)(hs:ZU [a] X.env=[(false,eval a X.env)]:=by rfl):QI X tg (.Call (.Name "range" p) [a] [] pos) (gq cr):=(xD hg hm ha.h hs).imp λσ H R hz=>yj hz λm ρ S us ok S' sr lr hc post=>by
 let⟨⟨ws,S1⟩,h1,h2⟩:=Z0.mp hc;simp only at h2;split at h2;rename_i j;split at h2;rename_i hj;cases h2;refine⟨m,ρ,S,_,S',sr,lr,h1,λm1 v1 H1 e1 sr1 i1=>?_⟩;let⟨x,r,rfl,ix,ir⟩:=i1.of_cons;rw[ir.of_nil,ix.of_int];exact⟨j,rfl,hj.1,hj.2,post m1 H1 _ e1 sr1 DT⟩;cases h2;cases h2
end
def fI(g:Int->Int->Option U):U->U->Sto->Option (U×Sto)
 |.int i,.int j,S=>(g i j).bind λu=>some (u,S)
 |_,_,_=>none
section
theorem M3{C:Int->Int->Prop}{gV:Int->Int->V}{g:Int->Int->Option U}(h:∀i j u,g i j=some u->C i j/\∀m H,Is K m H (gV i j) u):OpP K (rI C gV) (fI g):=by
 intro m S H x y v w u S' Q sr ix iy hf post;cases x<;>cases y<;>simp only[fI]at hf<;>try cases hf
 rename_i i j;let⟨u1,h1,h2⟩:=Z0.mp hf;cases h2;let⟨hc,hi⟩:=h i j u h1;exact⟨i,j,ix.of_int,iy.of_int,hc,post m _ H .refl sr (hi m H)⟩
theorem zY{gV:Int->Int->V}{g:Int->Int->Option U}(h:∀i j u,g i j=some u->∀m H,Is K m H (gV i j) u):OpP K (rI0 gV) (fI g):=by
 intro m S H x y v w u S' Q sr ix iy hf post;cases x<;>cases y<;>simp only[fI]at hf<;>try cases hf
 rename_i i j;let⟨u1,h1,h2⟩:=Z0.mp hf;cases h2;exact⟨i,j,ix.of_int,iy.of_int,post m _ H .refl sr (h i j u h1 m H)⟩
def CZ(K:Z3):R2:=λx y H Q=>∃a b xs ys,x=.ref a/\y=.ref b/\SqT K H a xs/\SqT K H b ys/\xs.length+ys.length<=ZC/\∀q H',uo H H'->SqT K H' q (xs++ys)->Q (.ref q) H'
theorem HA:OpR X (binaryOp .Add) (CZ X.K):=by
 intro a_ s σ H x y v u Q I rx ry h;let⟨a,b,xs,ys,rfl,rfl,ha,hb,hz,q⟩:=h;by_cases e:xs=[];cases rx;cases ry;let⟨its,r1,p1,_⟩:=I.tuple ha;let⟨its2,r2,p2,_⟩:=I.tuple hb;refine Eh p1 p2 (r1.nil_iff.mpr e) ⟨.ref b,H,I,rfl,q b H (.refl _) (by rw[e];exact hb)⟩;refine Hz a_ s σ H _ _ v u Q I rx ry ⟨a,b,xs,ys,rfl,rfl,ha,hb,e,hz,λz=>q a H (.refl _) (by rw[z,Zj];exact ha),λ_ p hp=>q p _ (cG hp _) (SqT.of ax)⟩
def AW:U->U->Sto->Option (U×Sto)
 |.tup a,.tup b,S=>if a.length+b.length<=LIM then some (.tup (a++b),S)else none
 |_,_,_=>none
theorem Dm:OpP K (CZ K) AW:=by
 intro m S H x y v w u S' Q sr ix iy hf post;cases x<;>cases y<;>simp only[AW]at hf<;>try cases hf
 split at hf<;>try cases hf
 rename_i hl;let⟨a,xs,rfl,sa,la⟩:=ix.of_tup;let⟨b,ys,rfl,sb,lb⟩:=iy.of_tup;refine⟨a,b,xs,ys,rfl,rfl,sa,sb,lim (by rw[la.length,lb.length];exact hl),λq H' s sq=>?_⟩;exact post m _ H' (.of (cu s)) (sr.same s) (.tup_ sq ((la.append lb).mono (.of (cu s))))
def lE:U->U->Sto->Option (U×Sto)
 |.ref l,.ref k,S=>match S[l]?,S[k]? with
  |some (.lst a),some (.lst b)=>if a.length+b.length<=LIM then some (.ref S.length,S++[.lst (a++b)])else none
  |_,_=>none
 |_,_,_=>none
theorem Dq:OpP K MZ lE:=by
 intro m S H x y v w u S' Q sr ix iy hf post;cases x<;>cases y<;>simp only[lE]at hf<;>try cases hf
 rename_i l k;split at hf<;>try cases hf
 rename_i a b h1 h2;split at hf<;>try cases hf
 rename_i hl;let⟨p,hp,rfl⟩:=ix.of_ref;let⟨q,hq,rfl⟩:=iy.of_ref;let⟨p',hp',xs,hx,il⟩:=sr.get h1;let⟨q',hq',ys,hy,il'⟩:=sr.get h2;rw[hp]at hp';cases hp';rw[hq]at hq';cases hq';exact⟨p,q,xs,ys,rfl,rfl,hx,hy,lim (by rw[il.length,il'.length];exact hl),λr hr=>dF sr (il.append il') post hr⟩
def AX:U->U->Sto->Option (U×Sto)
 |.str a,.str b,S=>if a.length+b.length<=LIM then some (.str (a++b),S)else none
 |_,_,_=>none
theorem Dp:OpP K (λx y H Q=>∃i j,x=.str i/\y=.str j/\i.length+j.length<=ZC/\Q (.str (i++j)) H) AX:=by
 intro m S H x y v w u S' Q sr ix iy hf post;cases x<;>cases y<;>simp only[AX]at hf<;>try cases hf
 split at hf<;>try cases hf
 rename_i hl;exact⟨_,_,ix.of_str,iy.of_str,lim hl,post m _ H .refl sr .str_⟩
def eJ:U->U->Sto->Option (U×Sto)
 |.int i,.int j,S=>some (.int (i+j),S)
 |.tup a,.tup b,S=>if a.length+b.length<=LIM then some (.tup (a++b),S)else none
 |.str a,.str b,S=>if a.length+b.length<=LIM then some (.str (a++b),S)else none
 |.ref l,.ref k,S=>lE (.ref l) (.ref k) S
 |_,_,_=>none
theorem dM:OpR X (binaryOp .Add) (λx y H Q=>rI0 (λi j=>.int (i+j)) x y H Q\/(MZ x y H Q\/(CZ X.K x y H Q\/∃i j,x=.str i/\y=.str j/\i.length+j.length<=ZC/\Q (.str (i++j)) H))):=Lx.or (Lw.or (HA.or xR))
theorem dJ:OpP K (λx y H Q=>rI0 (λi j=>.int (i+j)) x y H Q\/(MZ x y H Q\/(CZ K x y H Q\/∃i j,x=.str i/\y=.str j/\i.length+j.length<=ZC/\Q (.str (i++j)) H))) eJ:=by
 intro m S H x y v w u S' Q sr ix iy hf post;cases x<;>cases y<;>simp only[eJ]at hf<;>try cases hf
 exact .inl ⟨_,_,ix.of_int,iy.of_int,post m _ H .refl sr .int_⟩;exact .inr (.inr (.inr (Dp m S H _ _ v w u S' Q sr ix iy hf post)));exact .inr (.inr (.inl (Dm m S H _ _ v w u S' Q sr ix iy hf post)));exact .inr (.inl (Dq m S H _ _ v w u S' Q sr ix iy hf post))
def pM:=fI λi j=>some (.int (i-j))
def o6:OpP K (rI0 λi j=>.int (i-j)) pM:=zY λi j u h m H=>by cases h;exact .int_
instance {i j:Int}:Decidable (yC i j):=by unfold yC;exact inferInstance
def mR:=fI λi j=>if yC i j then some (.int (i*j))else none
theorem qJ:OpP K (rI yC λi j=>.int (i*j)) mR:=M3 λi j u h=>by
 split at h;rename_i c;cases h;exact⟨c,λm H=>.int_⟩;cases h
instance {i j:Int}:Decidable (yw i j):=by unfold yw;exact inferInstance
def D2:=fI λi j=>if yw i j then some (.int (i / j))else none
theorem Ht:OpP K (rI yw λi j=>.int (i / j)) D2:=M3 λi j u h=>by
 split at h;rename_i c;cases h;exact⟨c,λm H=>.int_⟩;cases h
def rB:=fI λi j=>if 0<j then some (.int (i % j))else none
theorem qK:OpP K (rI (λ_ j=>0<j) λi j=>.int (i % j)) rB:=M3 λi j u h=>by
 split at h;rename_i c;cases h;exact⟨c,λm H=>.int_⟩;cases h
instance {i j:Int}:Decidable (Ji i j):=by unfold Ji;exact inferInstance
def Jd:=fI λi j=>if Ji i j then some (.int (i^j.toNat))else none
theorem Lm:OpP K (rI Ji λi j=>.int (i^j.toNat)) Jd:=M3 λi j u h=>by
 split at h;rename_i c;cases h;exact⟨c,λm H=>.int_⟩;cases h
def fLt:=fI λi j=>some (.bl (decide (i<j)))
def fLe:=fI λi j=>some (.bl (decide (i<=j)))
def fGt:=fI λi j=>some (.bl (decide (j<i)))
def fGe:=fI λi j=>some (.bl (decide (j<=i)))
def uN:OpP K (rI0 λi j=>.bl (decide (i<j))) fLt:=zY λi j u h m H=>by cases h;exact .bl_
def O9:OpP K (rI0 λi j=>.bl (decide (i<=j))) fLe:=zY λi j u h m H=>by cases h;exact .bl_
def EY:OpP K (rI0 λi j=>.bl (decide (j<i))) fGt:=zY λi j u h m H=>by cases h;exact .bl_
def Pa:OpP K (rI0 λi j=>.bl (decide (j<=i))) fGe:=zY λi j u h m H=>by cases h;exact .bl_
def eqS:U->U->Option Bool
 |.int i,.int j=>some (decide (i=j))
 |.bl i,.bl j=>some (decide (i=j))
 |.str i,.str j=>some (decide (i=j))
 |.non,.non=>some true
 |.non,.int _=>some false|.int _,.non=>some false
 |.non,.bl _=>some false|.bl _,.non=>some false
 |.non,.str _=>some false|.str _,.non=>some false
 |.int _,.str _=>some false|.str _,.int _=>some false
 |.bl _,.str _=>some false|.str _,.bl _=>some false
 |_,_=>none
def fEq:U->U->Sto->Option (U×Sto):=λx y S=>(eqS x y).bind λb=>some (.bl b,S)
def fNe:U->U->Sto->Option (U×Sto):=λx y S=>(eqS x y).bind λb=>some (.bl (!b),S)
theorem Fi{m:List Addr}{H:Hp}{x y:U}{v w:V}{b:Bool}(ix:Is K m H v x)(iy:Is K m H w y)(h:eqS x y=some b):OK v w=true/\decide (v=w)=b:=by
 cases x<;>cases y<;>simp only[eqS]at h<;>(first|cases h|skip);all_goals
  (first|(have e1:=ix.of_int)|(have e1:=ix.of_bl)|(have e1:=ix.of_str)|(have e1:=ix.of_non))
  (first|(have e2:=iy.of_int)|(have e2:=iy.of_bl)|(have e2:=iy.of_str)|(have e2:=iy.of_non))
  subst e1 e2;exact⟨rfl,by simp⟩
theorem kj:OpP K rEq fEq:=by
 intro m S H x y v w u S' Q sr ix iy hf post;let⟨b,h1,h2⟩:=Z0.mp hf;cases h2;let⟨e1,e2⟩:=Fi ix iy h1;exact⟨e1,by rw[e2];exact post m _ H .refl sr .bl_⟩
theorem Ln:OpP K rNe fNe:=by
 intro m S H x y v w u S' Q sr ix iy hf post;let⟨b,h1,h2⟩:=Z0.mp hf;cases h2;let⟨e1,e2⟩:=Fi ix iy h1;exact⟨e1,by rw[e2];exact post m _ H .refl sr .bl_⟩
def qV:U->Bool
 |.non=>true
 |_=>false
def Mn:U->U->Sto->Option (U×Sto)
 |x,.non,S=>some (.bl (qV x),S)
 |_,_,_=>none
def lD:U->U->Sto->Option (U×Sto)
 |x,.non,S=>some (.bl (!qV x),S)
 |_,_,_=>none
theorem wQ{m:List Addr}{H:Hp}{x:U}{v:V}(ix:Is K m H v x):decide (v=.non)=qV x:=by
 cases x with
 |non=>rw[ix.of_non];rfl
 |bl b=>rw[ix.of_bl];rfl
 |int i=>rw[ix.of_int];rfl
 |str i=>rw[ix.of_str];rfl
 |tup us=>let⟨a,xs,rfl,_⟩:=ix.of_tup;rfl
 |ref l=>let⟨a,_,rfl⟩:=ix.of_ref;rfl
 |kl ns=>let⟨a,rfl,_⟩:=ix.of_kl;rfl
theorem Lp:OpP K (λx y H Q=>y=.non/\Q (.bl (decide (x=.non))) H) Mn:=by
 intro m S H x y v w u S' Q sr ix iy hf post;cases y<;>simp only[Mn]at hf<;>cases hf;exact⟨iy.of_non,by rw[wQ ix];exact post m _ H .refl sr .bl_⟩
theorem sY:OpP K (λx y H Q=>y=.non/\Q (.bl (!decide (x=.non))) H) lD:=by
 intro m S H x y v w u S' Q sr ix iy hf post;cases y<;>simp only[lD]at hf<;>cases hf;exact⟨iy.of_non,by rw[wQ ix];exact post m _ H .refl sr .bl_⟩
def lF:U->U->Sto->Option (U×Sto)
 |.bl a,.bl b,S=>some (.bl (a !=b),S)
 |_,_,_=>none
theorem wD:OpP K (λx y H Q=>∃k l,x=.bl k/\y=.bl l/\Q (.bl (k !=l)) H) lF:=by
 intro m S H x y v w u S' Q sr ix iy hf post;cases x<;>cases y<;>simp only[lF]at hf<;>cases hf;exact⟨_,_,ix.of_bl,iy.of_bl,post m _ H .refl sr .bl_⟩
section
variable{κ:Type}[DecidableEq κ]
def cg{α:Type}(kvs:List (κ×α))(k:κ):Option α:=(kvs.find? λkv=>decide (kv.1=k)).map (·.2)
def gY{α:Type}(kvs:List (κ×α))(k:κ)(v:α):List (κ×α):=
 if (kvs.any λkv=>decide (kv.1=k))=true then kvs.map (λkv=>if kv.1=k then(kv.1,v)else kv)else kvs++[(k,v)]
variable{m:List Addr}{H:Hp}{kvs:List (κ×V)}{kus:List (κ×U)}{k:κ}{v:V}{u:U}
theorem IsP.val(h:IsP K m H kvs kus):Rf K m H (fk kvs k) (cg kus k):=by
 refine IsP.ind (P:=λkvs kus=>Rf K m H (fk kvs k) (cg kus k)) trivial (λk' v u kvs kus i _ ih=>?_) h;by_cases e:k'=k;subst e;simp[fk,cg,Zl,Rf,i];simp only[fk,cg,Zl,Xf e]at ih ⊢;exact ih
theorem IsP.any_(h:IsP K m H kvs kus):(kvs.any λkv=>decide (kv.1=k))=(kus.any λkv=>decide (kv.1=k)):=
 IsP.ind (P:=λkvs kus=>(kvs.any λkv=>decide (kv.1=k))=(kus.any λkv=>decide (kv.1=k))) rfl (λk' v u kvs kus i _ ih=>by simp only[XR,ih]) h
theorem IsP.append{H_:List (κ×V)}{v_:List (κ×U)}(h:IsP K m H kvs kus)(h':IsP K m H H_ v_):IsP K m H (kvs++H_) (kus++v_):=⟨by simp[h.1,h'.1],by simpa using h.2.append h'.2⟩
theorem IsP.put(h:IsP K m H kvs kus)(i:Is K m H v u):IsP K m H (mL kvs k v) (gY kus k u):=by
 unfold mL gY;rw[h.any_];split;refine IsP.ind (P:=λkvs kus=>IsP K m H (kvs.map λkv=>if kv.1=k then(kv.1,v)else kv) (kus.map λkv=>if kv.1=k then(kv.1,u)else kv)) .nil_ (λk' v' u' kvs kus i' _ ih=>?_) h;simp only[ZR];by_cases e:k'=k;simp only[e,if_true];exact .cons_ i ih;simp only[e,if_false];exact .cons_ i' ih;exact h.append (.cons_ i .nil_)
end
def mO:U->Option Key
 |.int i=>some (.inl i)
 |.str x=>some (.inr x)
 |_=>none
theorem lj{m:List Addr}{H:Hp}{x:U}{v:V}{k:Key}(ix:Is K m H v x)(h:mO x=some k):v=kV k:=by
 cases x<;>simp only[mO]at h<;>cases h;exact ix.of_int;exact ix.of_str
def gI:U->Bool
 |.non=>true|.bl _=>true|.int _=>true|.str _=>true|_=>false
def eqF:U->U->Bool
 |.non,.non=>true
 |.bl a,.bl b=>a == b
 |.bl a,.int b=>(if a then 1 else 0) == b
 |.int a,.bl b=>a == (if b then 1 else 0)
 |.int a,.int b=>a == b
 |.str a,.str b=>a == b
 |_,_=>false
def inU(x:U)(us:List U):Bool:=us.any λy=>eqF y x
theorem vg{m:List Addr}{H:Hp}{x:U}{v:V}(ix:Is K m H v x)(h:gI x=true):o9 v=true:=by
 cases x with
 |non=>rw[ix.of_non];rfl
 |bl b=>rw[ix.of_bl];rfl
 |int i=>rw[ix.of_int];rfl
 |str i=>rw[ix.of_str];rfl
 |tup us=>cases h
 |ref l=>cases h
 |kl l=>cases h
theorem Mr{m:List Addr}{H:Hp}{x y:U}{v w:V}(ix:Is K m H v x)(iy:Is K m H w y)(hx:gI x=true)(hy:gI y=true):eqV v w=eqF x y:=by
 cases x<;>(first|cases hx|skip)<;>cases y<;>(first|cases hy|skip);all_goals
  (first|(have e1:=ix.of_int)|(have e1:=ix.of_bl)|(have e1:=ix.of_str)|(have e1:=ix.of_non))
  (first|(have e2:=iy.of_int)|(have e2:=iy.of_bl)|(have e2:=iy.of_str)|(have e2:=iy.of_non))
  subst e1 e2;rfl
theorem rA{m:List Addr}{H:Hp}:∀{xs:List V} {us:List U},IsL K m H xs us->us.all gI=true->xs.all o9=true
 |xs,[],h,_=>by rw[h.of_nil];rfl
 |xs,u::us,h,k=>by
  let⟨x,r,rfl,i,t⟩:=h.of_cons;rw[List.all_cons,Xr]at k ⊢;exact⟨vg i k.1,rA t k.2⟩
theorem AK{m:List Addr}{H:Hp}{x:U}{v:V}(ix:Is K m H v x)(hx:gI x=true):∀{xs:List V} {us:List U},IsL K m H xs us->us.all gI=true->inV v xs=inU x us
 |xs,[],h,_=>by rw[h.of_nil];rfl
 |xs,u::us,h,k=>by
  let⟨y,r,rfl,i,t⟩:=h.of_cons;rw[List.all_cons,Xr]at k;have ih:=AK ix hx t k.2;unfold inV inU at ih ⊢;rw[XR,XR,ih,Mr i ix k.1 hx]
theorem _root_.L2.DGet.kz{H:Hp}{a:Addr}{ob:Obj}{kvs:List (Key×V)}{k:Key}(e:H a=some (.frz ob (.dK kvs))):DGet H a (kV k) (fk kvs k):=.inl ⟨kvs,k,.inr ⟨ob,e⟩,rfl,rfl⟩
def fIn(neg:Bool):U->U->Sto->Option (U×Sto):=λx y S=>match y with
 |.tup us=>if gI x=true/\us.all gI=true then some (.bl (if neg then !inU x us else inU x us),S)else none
 |.ref l=>match S[l]? with
  |some (.lst us)=>if gI x=true/\us.all gI=true then some (.bl (if neg then !inU x us else inU x us),S)else none
  |some (.dic kus)=>(mO x).bind λk=>some (.bl (if neg then !(cg kus k).isSome else(cg kus k).isSome),S)
  |some (.fdc ep kus)=>(mO x).bind λk=>some (.bl (if neg then !(cg kus k).isSome else(cg kus k).isSome),S)
  |_=>none
 |_=>none
theorem Rf.isSome{m:List Addr}{H:Hp}{v:Option V}{u:Option U}(h:Rf K m H v u):v.isSome=u.isSome:=by
 cases v<;>cases u<;>first|rfl|exact h.elim
theorem AJ{ca cb:CE}{neg:Bool}(t2:TE->TE->TE)(h2:∀ta tb σ H Q,(ta σ H λy H1=>tb σ H1 λx H2=>∃a o,x=.ref a/\DGet H2 a y o/\Q (.bl (if neg then !o.isSome else o.isSome)) H2)->t2 ta tb σ H Q):∀σ H Q,tE K (cOp (fIn neg) ca cb) σ H Q->tOp (rIn K neg) (tE K ca) (tE K cb) σ H Q\/t2 (tE K ca) (tE K cb) σ H Q:=by
 rintro σ H Q ⟨m,ρ,S,u,S',sr,lr,hc,post⟩;let⟨⟨x,S1⟩,h1,h⟩:=Z0.mp hc;let⟨⟨y,S2⟩,h3,h4⟩:=Z0.mp h;cases y with
 |tup us=>
  simp only[fIn]at h4;split at h4<;>try cases h4
  rename_i hf;refine .inl ⟨m,ρ,S,x,S1,sr,lr,h1,λm1 v1 H1 e1 sr1 i1=>⟨m1,ρ,S1,.tup us,S',sr1,lr.mono e1,h3,λm2 v2 H2 e2 sr2 i2=>?_⟩⟩;let⟨a,xs,rfl,sa,la⟩:=i2.of_tup;refine⟨a,xs,rfl,.inr sa,vg (i1.mono e2) hf.1,rA la hf.2,?_⟩;rw[AK (i1.mono e2) hf.1 la hf.2];exact post m2 _ H2 (e1.trans e2) sr2 .bl_
 |ref l=>
  simp only[fIn]at h4;split at h4<;>try cases h4
  ·rename_i us hS;split at h4<;>try cases h4
   rename_i hf;refine .inl ⟨m,ρ,S,x,S1,sr,lr,h1,λm1 v1 H1 e1 sr1 i1=>⟨m1,ρ,S1,.ref l,S',sr1,lr.mono e1,h3,λm2 v2 H2 e2 sr2 i2=>?_⟩⟩;let⟨a,ha,rfl⟩:=i2.of_ref;let⟨a',ha',xs,hx,la⟩:=sr2.get hS;rw[ha]at ha';cases ha';refine⟨a,xs,rfl,.inl (SqL.of hx),vg (i1.mono e2) hf.1,rA la hf.2,?_⟩;rw[AK (i1.mono e2) hf.1 la hf.2];exact post m2 _ H2 (e1.trans e2) sr2 .bl_
  rename_i kus hS;let⟨k,hk,h5⟩:=Z0.mp h4;cases h5;refine .inr (h2 _ _ _ _ _ ⟨m,ρ,S,x,S1,sr,lr,h1,λm1 v1 H1 e1 sr1 i1=>⟨m1,ρ,S1,.ref l,S',sr1,lr.mono e1,h3,λm2 v2 H2 e2 sr2 i2=>?_⟩⟩);let⟨a,ha,rfl⟩:=i2.of_ref;let⟨a',ha',kvs,hx,ip⟩:=sr2.get hS;rw[ha]at ha';cases ha';have ek:=lj (i1.mono e2) hk;subst ek;refine⟨a,_,rfl,DGet.k hx,?_⟩;rw[(IsP.val ip).isSome];exact post m2 _ H2 (e1.trans e2) sr2 .bl_;rename_i ep kus hS;let⟨k,hk,h5⟩:=Z0.mp h4;cases h5;refine .inr (h2 _ _ _ _ _ ⟨m,ρ,S,x,S1,sr,lr,h1,λm1 v1 H1 e1 sr1 i1=>⟨m1,ρ,S1,.ref l,S',sr1,lr.mono e1,h3,λm2 v2 H2 e2 sr2 i2=>?_⟩⟩);let⟨a,ha,rfl⟩:=i2.of_ref;let⟨a',ha',ob,es,kvs,hx,hd,ip⟩:=sr2.get hS;rw[ha]at ha';cases ha';have ek:=lj (i1.mono e2) hk;subst ek;refine⟨a,_,rfl,DGet.kz hx,?_⟩;rw[(IsP.val ip).isSome];exact post m2 _ H2 (e1.trans e2) sr2 .bl_
 |_=>simp[fIn]at h4
variable{a:ZN}
theorem KG(hu:X.A.units+1<cLine)(ha:QE X a ca)(hb:QE X b cb)(hm:behindInMarks .In b=false):QT X (.Compare a [.In] [b] pos) (aA (cOp (fIn false) ca cb)):=
 ((qe z8 ha hb hm).or (ur (Gh hu ha hb) hm)).imp (j3 (AJ (neg:=false) OA λ_ _ _ _ _ h=>h))
theorem GR(hu:X.A.units+1<cLine)(ha:QE X a ca)(hb:QE X b cb)(hm:behindInMarks .NotIn b=false):QE X (.Compare a [.NotIn] [b] pos) (cOp (fIn true) ca cb):=
 ((vT mv ha hb hm).or (yR (pq hu ha hb) hm)).imp (AJ (neg:=true) qo λ_ _ _ _ _ h=>h)
theorem ke(hu:X.A.units+1<cLine)(ha:QE X a ca)(hb:QE X b cb)(hm:behindInMarks .NotIn b=false):QT X (.Compare a [.NotIn] [b] pos) (aA (cOp (fIn true) ca cb)):=
 ((qe mv ha hb hm).or (ur (pq hu ha hb) hm)).imp (j3 (AJ (neg:=true) qo λ_ _ _ _ _ h=>h))
def fIx:U->U->Sto->Option (U×Sto):=λx y S=>match x with
 |.tup us=>match y with
  |.int i=>(atI us i).bind λu=>some (u,S)
  |_=>none
 |.ref l=>match S[l]? with
  |some (.lst us)=>(match y with
   |.int i=>(atI us i).bind λu=>some (u,S)
   |_=>none)
  |some (.dic kus)=>(mO y).bind λk=>(cg kus k).bind λu=>some (u,S)
  |some (.fdc ep kus)=>(mO y).bind λk=>(cg kus k).bind λu=>some (u,S)
  |_=>none
 |.kl ns=>match y with
  |.int i=>(atI (ns.map U.int) i).bind λu=>some (u,S)
  |_=>none
 |_=>none
theorem wR{K:Z3}{m:List Addr}{H:Hp}:∀ns:List Int,IsL K m H (ns.map V.int) (ns.map U.int)
 |[]=>.nil_
 |n::ns=>.cons_ .int_ (wR ns)
theorem BB{m:List Addr}{H:Hp}{xs:List V}{us:List U}{i:Int}{u:U}(l:IsL K m H xs us)(h:atI us i=some u):∃v,atI xs i=some v/\Is K m H v u:=by
 unfold atI at h ⊢;rw[l.length];let⟨j,e1,e2⟩:=Z0.mp h;rw[e1];let⟨v,e3,e4⟩:=l.getD e2;exact⟨v,e3,e4⟩
theorem RD(hu:X.A.units+1<cLine)(ha:QE X a ca)(hb:QE X b cb)(hs:vI b)(hs2:IX b):QE X (.Subscript a b pos) (cOp fIx ca cb):=
 ((J1 (HW.or LZ) ha hb hs).or (Cr hu ha hb hs2)).imp λσ H Q hz=>kJ hz λm ρ S u S' sr lr hc post=>by
 let⟨⟨x,S1⟩,h1,h⟩:=Z0.mp hc;let⟨⟨y,S2⟩,h3,h4⟩:=Z0.mp h;cases x with
 |tup us=>
  simp only[fIx]at h4;split at h4<;>try cases h4
  rename_i i;let⟨w,hw,h5⟩:=Z0.mp h4;cases h5;refine .inl ⟨m,ρ,S,_,S1,sr,lr,h1,λm1 v1 H1 e1 sr1 i1=>⟨m1,ρ,S1,_,S',sr1,lr.mono e1,h3,λm2 v2 H2 e2 sr2 i2=>.inr ?_⟩⟩;let⟨a,xs,rfl,sa,la⟩:=(i1.mono e2).of_tup;let⟨z,ez,iz⟩:=BB la hw;exact⟨a,xs,i,z,rfl,i2.of_int,sa,ez,post m2 _ H2 (e1.trans e2) sr2 iz⟩
 |ref l=>
  simp only[fIx]at h4;split at h4<;>try cases h4
  ·rename_i us hS;split at h4<;>try cases h4
   rename_i i;let⟨w,hw,h5⟩:=Z0.mp h4;cases h5;refine .inl ⟨m,ρ,S,_,S1,sr,lr,h1,λm1 v1 H1 e1 sr1 i1=>⟨m1,ρ,S1,_,S',sr1,lr.mono e1,h3,λm2 v2 H2 e2 sr2 i2=>.inl ?_⟩⟩;let⟨a,ha,rfl⟩:=(i1.mono e2).of_ref;let⟨a',ha',xs,hx,la⟩:=sr2.get hS;rw[ha]at ha';cases ha';let⟨z,ez,iz⟩:=BB la hw;exact⟨a,xs,i,z,rfl,i2.of_int,SqL.of hx,ez,post m2 _ H2 (e1.trans e2) sr2 iz⟩
  rename_i kus hS;let⟨k,hk,h5⟩:=Z0.mp h4;let⟨w,hw,h6⟩:=Z0.mp h5;cases h6;refine .inr ⟨m,ρ,S,_,S1,sr,lr,h1,λm1 v1 H1 e1 sr1 i1=>⟨m1,ρ,S1,_,S',sr1,lr.mono e1,h3,λm2 v2 H2 e2 sr2 i2=>?_⟩⟩;let⟨a,ha,rfl⟩:=(i1.mono e2).of_ref;let⟨a',ha',kvs,hx,ip⟩:=sr2.get hS;rw[ha]at ha';cases ha';have ek:=lj i2 hk;subst ek;have rf:=IsP.val (k:=k) ip;rw[hw]at rf;cases hv:fk kvs k with
  |none=>rw[hv]at rf;exact rf.elim
  |some z=>
   rw[hv]at rf;exact⟨a,z,rfl,by have:=DGet.k (k:=k) hx;rw[hv]at this;exact this,post m2 _ H2 (e1.trans e2) sr2 rf⟩
  rename_i ep kus hS;let⟨k,hk,h5⟩:=Z0.mp h4;let⟨w,hw,h6⟩:=Z0.mp h5;cases h6;refine .inr ⟨m,ρ,S,_,S1,sr,lr,h1,λm1 v1 H1 e1 sr1 i1=>⟨m1,ρ,S1,_,S',sr1,lr.mono e1,h3,λm2 v2 H2 e2 sr2 i2=>?_⟩⟩;let⟨a,ha,rfl⟩:=(i1.mono e2).of_ref;let⟨a',ha',ob,es,kvs,hx,hd,ip⟩:=sr2.get hS;rw[ha]at ha';cases ha';have ek:=lj i2 hk;subst ek;have rf:=IsP.val (k:=k) ip;rw[hw]at rf;cases hv:fk kvs k with
  |none=>rw[hv]at rf;exact rf.elim
  |some z=>
   rw[hv]at rf;exact⟨a,z,rfl,by have:=DGet.kz (k:=k) hx;rw[hv]at this;exact this,post m2 _ H2 (e1.trans e2) sr2 rf⟩
 |kl ns=>
  simp only[fIx]at h4;split at h4<;>try cases h4
  rename_i i;let⟨w,hw,h5⟩:=Z0.mp h4;cases h5;refine .inl ⟨m,ρ,S,_,S1,sr,lr,h1,λm1 v1 H1 e1 sr1 i1=>⟨m1,ρ,S1,_,S',sr1,lr.mono e1,h3,λm2 v2 H2 e2 sr2 i2=>.inl ?_⟩⟩;let⟨a,rfl,ka⟩:=(i1.mono e2).of_kl;let⟨z,ez,iz⟩:=BB (wR (K:=X.K) (m:=m2) (H:=H2) ns) hw;exact⟨a,_,i,z,rfl,i2.of_int,ka.sq,ez,post m2 _ H2 (e1.trans e2) sr2 iz⟩
 |_=>simp[fIx]at h4
def ox:U->U->U->Sto->Option Sto:=λo i v S=>match o with
 |.ref l=>match S[l]? with
  |some (.lst us)=>(match i with
   |.int k=>(ixN us.length k).bind λj=>some (S.set l (.lst (us.set j v)))
   |_=>none)
  |some (.dic kus)=>(mO i).bind λk=>if kus.length<LIM then some (S.set l (.dic (gY kus k v)))else none
  |_=>none
 |_=>none
def gK(co ci cv:CE):CS:=λρ S=>(cv ρ S).bind λp=>(co ρ p.2).bind λq=>(ci ρ q.2).bind λr=>(ox q.1 r.1 p.1 r.2).bind λS'=>some (.nx,ρ,S')
theorem d5{o i:ZN}{co ci cv:CE}{g_:Pos}(hu:X.A.units+1<cLine)(ho:QE X o co)(hi:QE X i ci)(hv:QE X e cv)
  (hs0:swapsWithSole [.Subscript o i g_] e pos.line X.env=pure false:=by rfl) (hw:swappedStores [.Subscript o i g_] e X.env=pure none:=by rfl)
  (h1:(assignEach [.Subscript o i g_] X.env).map (·.2)=[assign (.Subscript o i g_) X.env]:=by rfl)
  (hs:XE e (some (.Subscript o i g_)) pos.line X.env=pure false:=by rfl)
  (ha:∀v,assign (.Subscript o i g_) X.env v=(do
   let ov <-holding [v] (eval o X.env)
   let iv <-holding [v,ov] (eval i X.env)
   standAt g_
   holding [v,ov,iv] (setItem ov iv v)
   release [v,ov,iv] []):=by intro _;rfl):QS X (.Assign [.Subscript o i g_] e pos) (gK co ci cv):=
 ((yM hv (F7 ho hi CO ha) hs0 hw h1).or (Cj hu ho hi hv hs)).imp λD σ H hz=>yj hz λm ρ S o ρ' S' sr lr hc post=>by
 let⟨⟨v,S1⟩,h1,h⟩:=Z0.mp hc;let⟨⟨ou,S2⟩,h2,h⟩:=Z0.mp h;let⟨⟨iu,S3⟩,h3,h⟩:=Z0.mp h;let⟨S4,h4,h⟩:=Z0.mp h;cases h;cases ou with
 |ref l=>
  simp only[ox]at h4;split at h4<;>try cases h4
  ·rename_i us hS;split at h4<;>try cases h4
   rename_i k;let⟨j,hj,h5⟩:=Z0.mp h4;cases h5;refine .inl ⟨m,ρ,S,v,S1,sr,lr,h1,λm1 v1 H1 e1 sr1 i1=>⟨m1,ρ,S1,_,S2,sr1,lr.mono e1,h2,λm2 v2 H2 e2 sr2 i2=>⟨m2,ρ,S2,_,S3,sr2,lr.mono (e1.trans e2),h3,λm3 v3 H3 e3 sr3 i3=>?_⟩⟩⟩;let⟨a,ha,rfl⟩:=(i2.mono e3).of_ref;let⟨a',ha',xs,hx,la⟩:=sr3.get hS;rw[ha]at ha';cases ha';have e13:=(e1.trans e2).trans e3;have ek:Ext X.K m3 H3 m3 (upd H3 a (.lst (xs.set j v1))):=.of (sr3.keep ha _);refine⟨a,xs,k,j,rfl,i3.of_int,hx,by rw[la.length];exact hj,post m3 σ _ (e13.trans ek) (sr3.put ha ⟨_,ax,((la.set (i1.mono (e2.trans e3)))).mono ek⟩) (lr.mono (e13.trans ek))⟩
  ·rename_i kus hS;let⟨k,hk,h5⟩:=Z0.mp h4;split at h5<;>try cases h5
   have h_:kus.length<LIM:=by assumption
   refine .inr ⟨m,ρ,S,v,S1,sr,lr,h1,λm1 v1 H1 e1 sr1 i1=>⟨m1,ρ,S1,_,S2,sr1,lr.mono e1,h2,λm2 v2 H2 e2 sr2 i2=>⟨m2,ρ,S2,_,S3,sr2,lr.mono (e1.trans e2),h3,λm3 v3 H3 e3 sr3 i3=>?_⟩⟩⟩;let⟨a,ha,rfl⟩:=(i2.mono e3).of_ref;let⟨a',ha',kvs,hx,ip⟩:=sr3.get hS;rw[ha]at ha';cases ha';have ek:=lj i3 hk;subst ek;have e13:=(e1.trans e2).trans e3;have ee:Ext X.K m3 H3 m3 (upd H3 a (.dK (mL kvs k v1))):=.of (sr3.keep ha _);exact⟨a,_,rfl,MT.k hx (LG (by rw[IsP.length ip];exact h_)),post m3 σ _ (e13.trans ee) (sr3.put ha ⟨_,ax,(IsP.put ip (i1.mono (e2.trans e3))).mono ee⟩) (lr.mono (e13.trans ee))⟩
 |_=>simp[ox]at h4
end
theorem kq{α:Type}[DecidableEq α]:∀{l l':List α},l.Nodup->(∀x∈l,x∈l')->l.length<=l'.length
 |[],_,_,_=>X5 _
 |x::r,l',nd,s=>by
  let⟨h1,h2⟩:=Xb.mp nd;have hx:=s x ZD;have:=kq (l:=r) (l':=l'.erase x) h2 λy hy=>(List.mem_erase_of_ne (λz=>h1 (by rw[<-z];exact hy))).mpr (s y (ZY _ hy));rw[List.length_erase_of_mem hx]at this;have hp:=List.length_pos_of_mem hx;rw[ZM];omega
theorem fD(f:Str)(v:V):∀fs:List (Str×V),(o5 f v fs).map (·.1)=if f∈fs.map (·.1)then fs.map (·.1)else fs.map (·.1)++[f]
 |[]=>by simp[o5]
 |(g,x)::r=>by
  unfold o5;by_cases e:g=f
  ·simp[e]
  ·have ih:=fD f v r;rw[Xd e,ZR,ZR,ih];by_cases c:f∈r.map (·.1);rw[Xe c,Xe (ZY _ c)];rw[Xd c,Xd (λz=>by rcases ZT.mp z with z|z;exact e z.symm;exact c z)];rfl
variable{fus:List (Option U)}{i:Nat}
section
variable{c:Cl}{fs:List (Str×V)}
theorem InF.room(h:InF K m H c fs fus):fs.length<1000:=by
 have:=kq h.knd h.sub;rw[ZQ]at this;have:=h.few;omega
theorem n8{f:Str}:∀{fs:List (Str×V)},f∉fs.map (·.1)->fs.lookup f=none
 |[],_=>rfl
 |(g,x)::r,h=>by
  rw[XM];have h1:(f == g)=false:=by
   apply beq_eq_false_iff_ne.mpr;intro z;exact h (by rw[z];exact ZD)
  rw[h1];exact n8 λz=>h (ZY _ z)
def InF.none_{f:Str}(h:InF K m H c fs fus)(hf:f∉c.ns):fs.lookup f=none:=n8 λz=>hf (h.sub f z)
theorem InF.put{f:Str}{i:Nat}{v:V}{u:U}(h:InF K m H c fs fus)(hi:c.ns[i]?=some f)(hv:Is K m H v u):InF K m H c (o5 f v fs) (fus.set i (some u)):=by
 have hfm:f∈c.ns:=X3 hi;refine⟨h.nd,h.few,?_,λx hx=>?_,by simp[h.len],λj x hj=>?_⟩;rw[fD];split;exact h.knd;rename_i hn;rw[Xz];exact⟨h.knd,by simp,λa ha b hb z=>by simp at hb;subst hb;subst z;exact hn ha⟩;rw[fD]at hx;split at hx;exact h.sub x hx;rcases X4.mp hx with z|z;exact h.sub x z;simp at z;subst z;exact hfm;rw[jI];by_cases e:i=j;subst e;rw[hi]at hj;cases hj;rw[Xe rfl];have:i<fus.length:=by rw[h.len];exact(Z9.mp hi).1
 rw[ZE this];exact hv;have ne:x≠f:=λz=>by
  subst z;let⟨p1,e1⟩:=Z9.mp hi;let⟨p2,e2⟩:=Z9.mp hj;exact e ((List.getElem_inj h.nd).mp (e1.trans e2.symm))
 rw[Xd ne,ZZ e];exact h.at_ j x hj
theorem InF.new(nd:c.ns.Nodup)(few:c.ns.length<1000):InF K m H c [] (ZO c.ns.length none):=by
 refine⟨nd,few,by simp,λx hx=>by simp at hx,by simp,λi x hi=>?_⟩;rw[XB];split<;>exact trivial
open Classical in
def Mp(c:Cl)(i:Nat)(x:U)(S:Sto):Option (U×Sto):=match x with
 |.ref l=>match S[l]? with
  |some (.ins c' fus)=>if c'=c then(fus[i]?).join.bind λu=>some (u,S)else none
  |_=>none
 |_=>none
def oX(c:Cl)(i:Nat)(ca:CE):CE:=λρ S=>(ca ρ S).bind λp=>Mp c i p.1 p.2
open Classical in
def AY(c:Cl)(i:Nat)(x v:U)(S:Sto):Option Sto:=match x with
 |.ref l=>match S[l]? with
  |some (.ins c' fus)=>if c'=c then some (S.set l (.ins c (fus.set i (some v))))else none
  |_=>none
 |_=>none
def kO(c:Cl)(i:Nat)(ca cv:CE):CS:=λρ S=>(cv ρ S).bind λp=>(ca ρ p.2).bind λq=>(AY c i q.1 p.1 q.2).bind λS'=>some (.nx,ρ,S')
variable{cv:CE}{f:Str}
theorem OY(hcl:Cls X.K c.C)(hna:ju X.K c.C f)(hi:c.ns[i]?=some f)(h:QE X e ca)(hb:attributeBase e f X.env (eval e X.env)=eval e X.env:=by rfl):QE X (.Attribute e f pos) (oX c i ca):=(Gf h hb).imp λσ H Q hz=>kJ hz λm ρ S u S' sr lr hc post=>by
 let⟨⟨x,S1⟩,h1,h2⟩:=Z0.mp hc;refine⟨m,ρ,S,x,S1,sr,lr,h1,λm1 v1 H1 e1 sr1 i1=>?_⟩;cases x with
 |ref l=>
  simp only[Mp]at h2;split at h2<;>try cases h2
  rename_i c' fus hS;split at h2<;>try cases h2
  rename_i hc';subst hc';let⟨w,hw,h3⟩:=Z0.mp h2;cases h3;let⟨a,ha,rfl⟩:=i1.of_ref;let⟨a',ha',dx,fs,hx,inf⟩:=sr1.get hS;rw[ha]at ha';cases ha';have rf:=inf.at_ i f hi;rw[hw]at rf;cases hv:fs.lookup f with
  |none=>rw[hv]at rf;exact rf.elim
  |some z=>
   rw[hv]at rf;exact⟨a,_,dx,fs,z,rfl,hx,hcl,hna,hv,post m1 _ H1 e1 sr1 rf⟩
 |_=>simp[Mp]at h2
theorem GO{o:ZN}{co:CE}{g_:Pos}(hcl:Cls X.K c.C)(hna:ju X.K c.C f)(hi:c.ns[i]?=some f)(ho:QE X o co)(hv:QE X e cv)(hs:XE e (some (.Attribute o f g_)) pos.line X.env=pure false:=by rfl):QS X (.Assign [.Attribute o f g_] e pos) (kO c i co cv):=(F4 ho hv hs).imp λD σ H hz=>yj hz λm ρ S o ρ' S' sr lr hc post=>by
 let⟨⟨v,S1⟩,h1,h⟩:=Z0.mp hc;let⟨⟨x,S2⟩,h2,h⟩:=Z0.mp h;let⟨S3,h3,h⟩:=Z0.mp h;cases h;refine⟨m,ρ,S,v,S1,sr,lr,h1,λm1 v1 H1 e1 sr1 i1=>⟨m1,ρ,S1,x,S2,sr1,lr.mono e1,h2,λm2 v2 H2 e2 sr2 i2=>?_⟩⟩;cases x with
 |ref l=>
  simp only[AY]at h3;split at h3<;>try cases h3
  rename_i c' fus hS;split at h3<;>try cases h3
  have hc':c'=c:=by assumption
  subst hc';let⟨a,ha,rfl⟩:=i2.of_ref;let⟨a',ha',dx,fs,hx,inf⟩:=sr2.get hS;rw[ha]at ha';cases ha';have ee:Ext X.K m2 H2 m2 (upd H2 a (.ins c'.C dx (o5 f v1 fs))):=.of (sr2.keep ha _);have e12:=e1.trans e2;exact⟨a,_,dx,fs,rfl,hx,hcl,hna,inf.room,post m2 σ _ (e12.trans ee) (sr2.put ha ⟨dx,_,ax,(inf.put hi (i1.mono e2)).mono ee⟩) (lr.mono (e12.trans ee))⟩
 |_=>simp[AY]at h3
structure i7(P:Zq)(w:Zr)(K:Z3)(mg:Str->Option Z5)(base:Heap)(c:Cl)(mn:Str)(k:Nat)(ps:List Str)(f:Fn):Prop where
 ex:∃fa fd,IY K c.C mn fa/\kX P w K mg base CX0 k fa fd ps (wb K f)/\ig K fd ps []
theorem i7.mono{P:Zq}{w:Zr}{mg:79}{base:Heap}{mn:Str}{j k:Nat}{ps:List Str}{f:Fn}(h:i7 P w K mg base c mn j ps f)(l:j<=k):i7 P w K mg base c mn k ps f:=by
 let⟨fa,fd,a,b,d⟩:=h.ex;exact⟨fa,fd,a,b.mono l,d⟩
open Classical in
def A0(c:Cl)(f:Fn)(x:U)(S:Sto)(args:Sto->Option (List U×Sto)):Option (U×Sto):=match x with
 |.ref l=>match S[l]? with
  |some (.ins c' _)=>if c'=c then(args S).bind λq=>f (.ref l::q.1) q.2 else none
  |_=>none
 |_=>none
def eY(c:Cl)(f:Fn)(ca:CE)(cr:CA):CE:=λρ S=>(ca ρ S).bind λp=>A0 c f p.1 p.2 (cr ρ)
theorem wI{mn:Str}{g:Fn}{co:CE}{cr:CA}(hmn:mn∉c.ns):∀σ H Q,tE K (eY c g co cr) σ H Q->zf c.C mn (wb K g) [] E0 (tE K co) (tA K cr) σ H Q:=by
 rintro σ H Q ⟨m,ρ,S,u,S',sr,lr,hc,post⟩;let⟨⟨x,S1⟩,h1,h2⟩:=Z0.mp hc;refine⟨m,ρ,S,x,S1,sr,lr,h1,λm1 v1 H1 e1 sr1 i1=>?_⟩;cases x with
 |ref l=>
  simp only[A0]at h2;split at h2<;>try cases h2
  rename_i c' fus hS;split at h2<;>try cases h2
  rename_i hc';subst hc';let⟨⟨us,S2⟩,h3,h4⟩:=Z0.mp h2;let⟨a,ha,rfl⟩:=i1.of_ref;let⟨a',ha',dx,fs,hx,inf⟩:=sr1.get hS;rw[ha]at ha';cases ha';refine⟨a,dx,fs,rfl,hx,inf.none_ hmn,m1,ρ,S1,us,S2,sr1,lr.mono e1,h3,λm2 vs H2 e2 sr2 i2=>?_⟩;exact⟨m2,_,S2,u,S',.cons_ (i1.mono e2) ‹i2›,sr2,h4,post.mono (e1.trans e2)⟩
 |_=>simp[A0]at h2
theorem KI{mn:Str}{g:Fn}{k:Nat}{ps:List Str}{o:ZN}{es:List ZN}{co:CE}{cr:CA}{l_:Pos}{pl:Sem Bool}(hcl:Cls X.K c.C)(F:i7 X.prog X.w X.K X.mg X.base c mn k ps g)(hr:eQ k X.A)(hmn:mn∉c.ns)(ho:QE X o co)(ha:QA X (e::es) cr)
  (hst:ZU (e::es) X.env=(false,eval e X.env)::ZU es X.env:=by rfl) (hpl:(X8 pos (ZU es X.env)).any (·.1)=false:=by rfl) (ht:eval (.Call (.Attribute o mn l_) (e::es) [] pos) X.env=(do
   let ov <-eval o X.env
   standAt l_.atName
   let (f,first) <-holding [ov] (getMethod ov mn pl)
   callWith pos f first (X8 pos (ZU (e::es) X.env)) (backToKw pos (keywordEach [] X.env))):=by rfl):QE X (.Call (.Attribute o mn l_) (e::es) [] pos) (eY c g co cr):=by
 let⟨fa,fd,hm,F,hb⟩:=F.ex;exact(Co ho hcl hm F hr hb .nil Dj ha.h hst hpl ht).imp (wI hmn)
theorem GS{mn:Str}{g:Fn}{k:Nat}{ps:List Str}{o:ZN}{co:CE}{l_:Pos}{pl:Sem Bool}(hcl:Cls X.K c.C)(F:i7 X.prog X.w X.K X.mg X.base c mn k ps g)(hr:eQ k X.A)(hmn:mn∉c.ns)(ho:QE X o co)
  (ht:eval (.Call (.Attribute o mn l_) [] [] pos) X.env=(do
   let ov <-eval o X.env
   standAt l_.atName
   let (f,first) <-holding [ov] (getMethod ov mn pl)
   callWith pos f first (X8 pos (ZU [] X.env)) (backToKw pos (keywordEach [] X.env))):=by rfl):QE X (.Call (.Attribute o mn l_) [] [] pos) (eY c g co aq):=by
 let⟨fa,fd,hm,F,hb⟩:=F.ex;refine(yO ho hcl hm F hr hb .nil Dj ht).imp λσ H Q h=>?_;let⟨m,ρ,S,u,S',sr,lr,hc,k⟩:=wI hmn σ H Q h;refine⟨m,ρ,S,u,S',sr,lr,hc,λm1 v1 H1 e1 sr1 i1=>?_⟩;let⟨a,dx,fs,h1,h2,h3,m2,ρ2,S2,us,S3,sr2,lr2,h4,h5⟩:=k m1 v1 H1 e1 sr1 i1;cases h4;exact⟨a,dx,fs,h1,h2,h3,h5 m2 [] H1 .refl sr2 .nil_⟩
structure CMk(P:Zq)(w:Zr)(K:Z3)(mg:Str->Option Z5)(base:Heap)(c:Cl)(x:Str)(k:Nat)(ps:List Str)(f:Fn):Prop where
 ex:∃fa fd,Mk K c.C fa/\kX P w K mg base CX0 k fa fd ps (wb K f)/\ig K fd ps []/\mg x=some (.ref c.C)
 nd:c.ns.Nodup
 few:c.ns.length<1000
theorem CMk.mono{P:Zq}{w:Zr}{mg:79}{base:Heap}{x:Str}{j k:Nat}{ps:List Str}{f:Fn}(h:CMk P w K mg base c x j ps f)(l:j<=k):CMk P w K mg base c x k ps f:=by
 let⟨fa,fd,a,b,d⟩:=h.ex;exact⟨⟨fa,fd,a,b.mono l,d⟩,h.nd,h.few⟩
def A1(c:Cl)(f:Fn):Fn:=λus S=>(f (.ref S.length::us) (S++[.ins c (ZO c.ns.length none)])).bind λp=>match p.1 with
 |.non=>some (.ref S.length,p.2)
 |_=>none
theorem DH{g:Fn}{cr:CA}(nd:c.ns.Nodup)(few:c.ns.length<1000):∀σ H Q,tE K (cCB (A1 c g) cr) σ H Q->Gs c.C (wb K g) [] E0 (tA K cr) σ H Q:=by
 rintro σ H Q ⟨m,ρ,S,u,S',sr,lr,hc,post⟩;let⟨⟨us,S1⟩,h1,h2⟩:=Z0.mp hc;let⟨⟨w,S2⟩,h3,h4⟩:=Z0.mp h2;refine⟨m,ρ,S,us,S1,sr,lr,h1,λm1 vs H1 e1 sr1 i1 x dx hx hdx ne=>?_⟩;cases w with
 |non=>
  cases h4;have s1:uo H1 (upd H1 dx (.own x)):=cG hdx _;have hx2:(upd H1 dx (.own x)) x=none:=by rw[aD (Ne.symm ne)];exact hx
  have ee:Ext K m1 H1 (m1++[x]) (upd (upd H1 dx (.own x)) x (.ins c.C dx [])):=.new ⟨λb xs q=>(bu hx2 _).t b xs ((cu s1).t b xs q),λb xs q=>(bu hx2 _).l b xs ((cu s1).l b xs q),λb xs q=>(bu (K:=K) hx2 _).c b xs ((cu (K:=K) s1).c b xs q)⟩;refine⟨m1++[x],.ref S1.length::us,S1++[.ins c (ZO c.ns.length none)],.non,S2,.cons_ (.ref_ (cI sr1.len)) ‹i1.mono ee›,(sr1.same s1).new (o:=.ins c (ZO c.ns.length none)) hx2 ⟨dx,[],ax,InF.new nd few⟩,h3,λm2 v2 H2 e2 sr2 i2=>⟨i2.of_non,?_⟩⟩;exact post m2 _ H2 ((e1.trans ee).trans e2) sr2 (.ref_ (e2.get (cI sr1.len)))
 |_=>simp at h4
theorem KJ{x:Str}{g:Fn}{k:Nat}{ps:List Str}{es:List ZN}{cr:CA}{p:Pos}(M:CMk X.prog X.w X.K X.mg X.base c x k ps g)(hr:eQ (k+1) X.A)(hg:Gl X x)(ha:QA X (e::es) cr)
  (hdb:(x == ("__debug__":Str))=false:=by decide) (he:ZU (e::es) X.env=(false,eval e X.env)::ZU es X.env:=by rfl) (hpl:(X8 pos (ZU es X.env)).any (·.1)=false:=by rfl):QE X 77 (cCB (A1 c g) cr):=by
 let⟨fa,fd,hm,F,hb,hx⟩:=M.ex;exact(Cp hm F hr hg hx hb .nil Dj ha.h hdb he hpl).imp (DH M.nd M.few)
def IF:CE:=λ_ S=>some (.ref S.length,S++[.dic []])
theorem KP:QE X (.Dict [] [] pos) IF:=yQ.imp λσ H Q hz=>kJ hz λm ρ S u S' sr lr hc post=>by
 cases hc;exact λp hp=>post (m++[p]) _ _ (.new (bu hp _)) (sr.new hp ⟨[],ax,.nil_⟩) (.ref_ (cI sr.len))
def ME(cd ck cx:CE):CE:=λρ S=>(cd ρ S).bind λp=>match p.1 with
 |.ref l=>match p.2[l]? with
  |some (.dic _)=>(ck ρ p.2).bind λq=>(cx ρ q.2).bind λr=>match r.2[l]? with
   |some (.dic kus)=>(mO q.1).bind λk=>some ((cg kus k).getD r.1,r.2)
   |_=>none
  |_=>none
 |_=>none
end
def qA(n:Nat)(caps:List Nat)(ρ:Rho):Rho:=ZO n none++caps.map λi=>(ρ[i]?).getD none
open Classical in
def jO(ok:Sto->Prop)(g:CG)(ce:CE)(l:Nat):List U->Rho->Sto->Option Sto
 |[],_,S=>if ok S then some S else none
 |u::us,ρ,S=>if ok S then(g u ρ S).bind λp=>(ce p.1 p.2).bind λr=>match r.2[l]? with
  |some (.lst ys)=>if ys.length<LIM then jO ok g ce l us p.1 (r.2.set l (.lst (ys++[r.1])))else none
  |_=>none else none
def iD(ci:CI)(g:CG)(ce:CE)(n:Nat)(caps:List Nat):CE:=λρ S=>(ci ρ S).bind λp=>(jO p.2.1 g ce p.2.2.length p.1 (qA n caps ρ) (p.2.2++[.lst []])).bind λS'=>some (.ref p.2.2.length,S')
section
theorem Aj{m:List Addr}{H:Hp}{ρ:Rho}{σ:L2.St}{n:Nat}{caps:List Nat}(lr:Lr K m H ρ σ):Lr K m H (qA n caps ρ) (OG.stC n caps σ):=by
 refine⟨by simp[qA,OG.stC],λj u e=>?_⟩;unfold qA at e;unfold OG.stC;by_cases c:j<n
 ·rw[Zk ‹c›,XB]at e;split at e<;>cases e
 rw[Zf 72,Zz]at e ⊢;simp only[List.length_replicate]at e ⊢;cases q:caps[j-n]? with
 |none=>rw[q]at e;simp at e
 |some i=>
  rw[q]at e;simp only[XU,Option.some.injEq]at e ⊢;have e2:ρ[i]?=some (some u):=by
   cases z:ρ[i]? with
   |none=>rw[z]at e;simp at e
   |some y=>rw[z]at e;simp at e;rw[e]
  let⟨v,h1,h2⟩:=lr.at_ i u e2;exact⟨v,by rw[h1];rfl,h2⟩
theorem t6{g:CG}{ce:CE}{n:Nat}{caps:List Nat}{J:It}{us:List U}{ok:Sto->Prop}{Q:VK}{m1:List Addr}{H1:Hp}{S1 S':Sto}{ρ:Rho}{σ:L2.St}{l:Addr}(sr1:Sr K m1 S1 H1)(lr:Lr K m1 H1 ρ σ)(ito:BV K J m1 H1 us ok)(hl:H1 l=none)(h2:jO ok g ce S1.length us (qA n caps ρ) (S1++[.lst []])=some S')
  (post:∀m2 H2,Ext K (m1++[l]) (upd H1 l (.lst [])) m2 H2->Sr K m2 S' H2->Q (.ref l) H2) :
  ∃W:Nat->Nat->L2.St->Hp->Prop,(∃m,W 0 m (OG.stC n caps σ) (upd H1 l (.lst [])))/\
 ∀i m σ' H2,W i m σ' H2->(J.stop i H2/\Q (.ref l) H2)\/(J.go i H2/\∃N:L2.St->Hp->Prop,(∀σ'' H',N σ'' H'->∃m',m'<m/\W (i+1) m' σ'' H')/\
  ∀x H3,J.yld i H2 x H3->tG K g x σ' H3 λσ2 H4=>tE K ce σ2 H4 λv H5=>∃ys,H5 l=some (.lst ys)/\ys.length<ZC/\N σ2 (upd H5 l (.lst (ys++[v])))):=by
 have ee:Ext K m1 H1 (m1++[l]) (upd H1 l (.lst [])):=.new (bu hl _);let W:Nat->Nat->L2.St->Hp->Prop:=λi k σ2 H2=>k=us.length-i/\i<=us.length/\∃m2 ρ2 S2,Ext K (m1++[l]) (upd H1 l (.lst [])) m2 H2/\Sr K m2 S2 H2/\Lr K m2 H2 ρ2 σ2/\jO ok g ce S1.length (us.drop i) ρ2 S2=some S'
 refine⟨W,⟨us.length,by simp,X5 _,m1++[l],qA n caps ρ,S1++[.lst []],.refl,sr1.new (o:=.lst []) hl ⟨[],ax,.nil_⟩,Aj (lr.mono ee),by simpa using h2⟩,?_⟩;rintro i k σ2 H2 ⟨rfl,hi,m2,ρ2,S2,e2,sr2,lr2,hl2⟩;by_cases hlt:i<us.length
 ·have hu:=ZK hlt;rw[kL hu]at hl2;unfold jO at hl2;split at hl2
  ·rename_i hok;let⟨⟨ρ3,S3⟩,h3,hl2⟩:=Z0.mp hl2;let⟨⟨u4,S4⟩,h4,hl2⟩:=Z0.mp hl2;simp only at hl2;split at hl2<;>try cases hl2
   rename_i ys hys;split at hl2<;>try cases hl2
   rename_i h_;let⟨hgo,hy⟩:=(ito m2 S2 H2 i (ee.trans e2) sr2 hok).1 _ hu;refine .inr ⟨hgo,W (i+1) (us.length-(i+1)),λσ' H' w'=>⟨_,by omega,w'⟩,λx H3 y=>?_⟩;let⟨e3,sr3,ix⟩:=hy x H3 y;refine⟨m2,ρ2,S2,_,ρ3,S3,sr3,lr2.mono e3,ix,h3,λm4 σ4 H4 e4 sr4 lr4=>⟨m4,ρ3,S3,u4,S4,sr4,lr4,h4,λm5 v5 H5 e5 sr5 i5=>?_⟩⟩;let⟨a',ha',xs,hx,il⟩:=sr5.get hys;have ha:m5[S1.length]?=some l:=(((e2.trans e3).trans e4).trans e5).get (cI sr1.len);rw[ha]at ha';cases ha';have eu:Ext K m5 H5 m5 (upd H5 l (.lst (xs++[v5]))):=.of (sr5.keep ha _);refine⟨xs,hx,LG (by rw[il.length];exact h_),rfl,hlt,m5,ρ3,_,((((e2.trans e3).trans e4).trans e5).trans eu),sr5.put (o:=.lst (ys++[u4])) ha ⟨_,ax,(il.append (.cons_ i5 .nil_)).mono eu⟩,(lr4.mono (e5.trans eu)),hl2⟩
  cases hl2
 have e:i=us.length:=by omega
 subst e;rw[List.drop_length]at hl2;unfold jO at hl2;split at hl2;rename_i hok;cases hl2;exact .inl ⟨(ito m2 _ H2 _ (ee.trans e2) sr2 hok).2 (ZW _),post m2 H2 e2 sr2⟩;cases hl2
theorem Ef{ci:CI}{g:CG}{ce:CE}{n:Nat}{caps:List Nat}:∀σ H Q,tE K (iD ci g ce n caps) σ H Q->Gu (tI K ci) (tG K g) (tE K ce) n caps σ H Q:=by
 rintro σ H Q ⟨m,ρ,S,u,S',sr,lr,hc,post⟩;let⟨⟨us,ok,S1⟩,h1,h2⟩:=Z0.mp hc;let⟨S2,h2,h3⟩:=Z0.mp h2;cases h3;refine⟨m,ρ,S,us,ok,S1,sr,lr,h1,λm1 H1 J e1 sr1 ito l hl=>?_⟩;have ee:Ext K m1 H1 (m1++[l]) (upd H1 l (.lst [])):=.new (bu hl _);exact t6 sr1 (lr.mono e1) ito hl h2 λm2 H2 e2 sr2=>post m2 _ H2 ((e1.trans ee).trans e2) sr2 (.ref_ (e2.get (cI sr1.len)))
theorem mr{Nc capN tn:List Str}{scope:XA}{cl:List (Str×Addr)}{n:Nat}{caps:List Nat}{tg iter elt:ZN}{pos:Pos}{ci:CI}{g:CG}{ce:CE}
  (hc:X.calm=true) (hi:QI X tg iter ci) (hg:∀s3 H3 fp,WG 58 tg (tG X.K g)) (he:∀s3 H3 fp,WE 58 elt (tE X.K ce))
  (t_:closureFor scope X.env=pure cl) (i_:scope.kind=.function) (hnl:∀x∈scope.names,x.2=.local->scope.names.lookup x.1=some .local) (k_:∀x∈scope.names,x.2≠.cell)
  (hcl:xy X.env cl) (w_:((relabel scope X.env).names.all λp=>!(p.2 == .cell||p.2 == .free)||(cl.lookup p.1).isSome)=true)
  (s_:Paired (Cap X scope cl) caps capN) (hN:Nc=tn++capN) (hn:tn.length=n)
  (hs:∀x,foldedSetIterable iter X.env x=pure x:=by intro _;rfl) :
  QE X (.ListComp elt [⟨tg,iter,[],0⟩] scope pos) (iD ci g ce n caps):=(vS hc hi hg he t_ i_ hnl k_ hcl w_ s_ hN hn hs).imp Ef
def e9:Fn
 |[.tup us],S=>some (.int us.length,S)
 |[.ref l],S=>match S[l]? with
  |some (.lst us)=>some (.int us.length,S)
  |some (.dic us)=>some (.int us.length,S)
  |_=>none
 |[.kl ns],S=>some (.int ns.length,S)
 |_,_=>none
abbrev Qy(K:Z3):List V->Hp->VK->Prop:=λxs H Q=>(∃p ys,xs=[.ref p]/\(SqL K H p ys\/SqT K H p ys)/\Q (.int ys.length) H)\/∃a kvs,xs=[V.ref a]/\H a=some (.dK kvs)/\Q (.int kvs.length) H
def eF:eU X (.builtin "len") (Qy X.K):=t9.or Bo
theorem IsL.one{m:List Addr}{H:Hp}{vs:List V}{u:U}(h:IsL K m H vs [u]):∃v,vs=[v]/\Is K m H v u:=by
 let⟨x,r,rfl,i,t⟩:=h.of_cons;rw[t.of_nil];exact⟨x,rfl,i⟩
theorem IsL.two{m:List Addr}{H:Hp}{vs:List V}{u w:U}(h:IsL K m H vs [u,w]):∃v x,vs=[v,x]/\Is K m H v u/\Is K m H x w:=by
 let⟨x,r,rfl,i,t⟩:=h.of_cons;let⟨y,rfl,j⟩:=t.one;exact⟨x,y,rfl,i,j⟩
theorem eE:kY K (Qy K) e9:=by
 intro m S H us vs u S' Q sr i hf post;match us,hf with
 |[.tup ws],hf=>
  cases hf;let⟨v,rfl,iv⟩:=i.one;let⟨a,xs,rfl,sa,la⟩:=iv.of_tup;exact .inl ⟨a,xs,rfl,.inr sa,by rw[la.length];exact post m _ H .refl sr .int_⟩
 |[.ref l],hf=>
  let⟨v,rfl,iv⟩:=i.one;let⟨a,ha,rfl⟩:=iv.of_ref;simp only[e9]at hf;split at hf<;>try cases hf
  rename_i ws hS;let⟨a',ha',xs,hx,la⟩:=sr.get hS;rw[ha]at ha';cases ha';exact .inl ⟨a,xs,rfl,.inl (SqL.of hx),by rw[la.length];exact post m _ H .refl sr .int_⟩;rename_i ws hS;let⟨a',ha',xs,hx,la⟩:=sr.get hS;rw[ha]at ha';cases ha';exact .inr ⟨a,xs,rfl,hx,by rw[IsP.length la];exact post m _ H .refl sr .int_⟩
 |[.kl ns],hf=>
  cases hf;let⟨v,rfl,iv⟩:=i.one;let⟨a,rfl,ka⟩:=iv.of_kl;exact .inl ⟨a,_,rfl,.inl ka.sq,by rw[ZQ];exact post m _ H .refl sr .int_⟩
def iS:Fn
 |[.tup us],S=>some (.ref S.length,S++[.lst us])
 |[.ref l],S=>match S[l]? with
  |some (.lst us)=>some (.ref S.length,S++[.lst us])
  |_=>none
 |_,_=>none
theorem ki:kY K (λxs H Q=>∃p ys,xs=[.ref p]/\(SqL K H p ys\/SqT K H p ys)/\∀l,H l=none->Q (.ref l) (upd H l (.lst ys))) iS:=by
 intro m S H us vs u S' Q sr i hf post;match us,hf with
 |[.tup ws],hf=>
  cases hf;let⟨v,rfl,iv⟩:=i.one;let⟨a,xs,rfl,sa,la⟩:=iv.of_tup;exact⟨a,xs,rfl,.inr sa,λl hl=>dF sr la post hl⟩
 |[.ref l],hf=>
  let⟨v,rfl,iv⟩:=i.one;let⟨a,ha,rfl⟩:=iv.of_ref;simp only[iS]at hf;split at hf<;>try cases hf
  rename_i ws hS;let⟨a',ha',xs,hx,la⟩:=sr.get hS;rw[ha]at ha';cases ha';exact⟨a,xs,rfl,.inl (SqL.of hx),λl hl=>dF sr la post hl⟩
def iC:Fn
 |[.tup us],S=>some (.tup us,S)
 |[.ref l],S=>match S[l]? with
  |some (.lst us)=>some (.tup us,S)
  |_=>none
 |_,_=>none
theorem jF:kY K (λxs H Q=>∃p ys,xs=[.ref p]/\((SqL K H p ys/\∀l,H l=none->Q (.ref l) (upd H l (.tup ys)))\/(SqT K H p ys/\Q (.ref p) H))) iC:=by
 intro m S H us vs u S' Q sr i hf post;match us,hf with
 |[.tup ws],hf=>
  cases hf;let⟨v,rfl,iv⟩:=i.one;let⟨a,xs,rfl,sa,la⟩:=iv.of_tup;exact⟨a,xs,rfl,.inr ⟨sa,post m _ H .refl sr iv⟩⟩
 |[.ref l],hf=>
  let⟨v,rfl,iv⟩:=i.one;let⟨a,ha,rfl⟩:=iv.of_ref;simp only[iC]at hf;split at hf<;>try cases hf
  rename_i ws hS;let⟨a',ha',xs,hx,la⟩:=sr.get hS;rw[ha]at ha';cases ha';exact⟨a,xs,rfl,.inl ⟨SqL.of hx,λl hl=>qG sr la post hl⟩⟩
def Mo:Fn
 |[.int i],S=>some (.int i,S)
 |[.bl b],S=>some (.int (if b then 1 else 0),S)
 |_,_=>none
theorem Lq:kY K (λxs H Q=>(∃i,xs=[.int i]/\Q (.int i) H)\/∃k,xs=[.bl k]/\Q (.int (if k then 1 else 0)) H) Mo:=by
 intro m S H us vs u S' Q sr i hf post;match us,hf with
 |[.int j],hf=>
  cases hf;let⟨v,rfl,iv⟩:=i.one;exact .inl ⟨j,by rw[iv.of_int],post m _ H .refl sr .int_⟩
 |[.bl j],hf=>
  cases hf;let⟨v,rfl,iv⟩:=i.one;exact .inr ⟨j,by rw[iv.of_bl],post m _ H .refl sr .int_⟩
def PY:Fn
 |[.int i,.int j],S=>some (.int (if j<i then j else i),S)
 |_,_=>none
theorem O8:kY K (λxs H Q=>∃i j,xs=[.int i,.int j]/\Q (.int (if j<i then j else i)) H) PY:=by
 intro m S H us vs u S' Q sr i hf post;match us,hf with
 |[.int j,.int k],hf=>
  cases hf;let⟨v,w,rfl,iv,iw⟩:=i.two;exact⟨j,k,by rw[iv.of_int,iw.of_int],post m _ H .refl sr .int_⟩
def qW:List U->Option (List Int)
 |[]=>some []
 |.int i::r=>(qW r).map (i::·)
 |_=>none
def IH:List U->Option (List Bool)
 |[]=>some []
 |.bl i::r=>(IH r).map (i::·)
 |_=>none
theorem kF:∀{us:List U} {ns:List Int},qW us=some ns->us=ns.map U.int
 |[],ns,h=>by cases h;rfl
 |u::r,ns,h=>by
  cases u<;>simp only[qW]at h<;>try cases h
  let⟨ms,e,h⟩:=X1.mp h;subst h;rw[kF e];rfl
theorem gH:∀(ns:List Int),qW (ns.map U.int)=some ns
 |[]=>rfl
 |n::r=>by simp[qW,gH r]
theorem vE:∀{us:List U} {ns:List Bool},IH us=some ns->us=ns.map U.bl
 |[],ns,h=>by cases h;rfl
 |u::r,ns,h=>by
  cases u<;>simp only[IH]at h<;>try cases h
  let⟨ms,e,h⟩:=X1.mp h;subst h;rw[vE e];rfl
theorem rF:∀(ns:List Bool),IH (ns.map U.bl)=some ns
 |[]=>rfl
 |n::r=>by simp[IH,rF r]
theorem IsL.ints{m:List Addr}{H:Hp}:∀{xs:List V} {ns:List Int},IsL K m H xs (ns.map U.int)->xs=ns.map V.int
 |xs,[],h=>h.of_nil
 |xs,n::ns,h=>by
  let⟨x,r,rfl,i,t⟩:=h.of_cons;rw[IsL.ints t,i.of_int];rfl
theorem IsL.bls{m:List Addr}{H:Hp}:∀{xs:List V} {ns:List Bool},IsL K m H xs (ns.map U.bl)->xs=ns.map V.bl
 |xs,[],h=>h.of_nil
 |xs,n::ns,h=>by
  let⟨x,r,rfl,i,t⟩:=h.of_cons;rw[IsL.bls t,i.of_bl];rfl
theorem gZ{m:List Addr}{H:Hp}:∀(ns:List Int),IsL K m H (ns.map V.int) (ns.map U.int)
 |[]=>.nil_
 |n::ns=>.cons_ .int_ (gZ ns)
def yi:Fn
 |[.ref l],S=>match S[l]? with
  |some (.lst us)=>(IH us).bind λbs=>some (.bl (bs.all id),S)
  |_=>none
 |_,_=>none
theorem z6:kY K (λxs H Q=>∃(p:Addr) (bs:List Bool),xs=[.ref p]/\SqL K H p (bs.map V.bl)/\Q (.bl (bs.all id)) H) yi:=by
 intro m S H us vs u S' Q sr i hf post;match us,hf with
 |[.ref l],hf=>
  let⟨v,rfl,iv⟩:=i.one;let⟨a,ha,rfl⟩:=iv.of_ref;simp only[yi]at hf;split at hf<;>try cases hf
  rename_i ws hS;let⟨bs,hb,h⟩:=Z0.mp hf;cases h;let⟨a',ha',xs,hx,la⟩:=sr.get hS;rw[ha]at ha';cases ha';rw[vE hb]at la;rw[la.bls]at hx;exact⟨a,bs,rfl,SqL.of hx,post m _ H .refl sr .bl_⟩
inductive Ty where
 |non|bool|int|str|tuple|list|dict
def Ty.nm:Ty->String
 |.non=>"NoneType"|.bool=>"bool"|.int=>"int"|.str=>"str"|.tuple=>"tuple"|.list=>"list"|.dict=>"dict"
def tyU:U->Sto->Option Ty
 |.non,_=>some .non|.bl _,_=>some .bool|.int _,_=>some .int|.str _,_=>some .str|.tup _,_=>some .tuple
 |.ref l,S=>match S[l]? with
  |some (.lst _)=>some .list
  |some (.dic _)=>some .dict
  |_=>none
 |.kl _,_=>none
def BR:Ty->Ty->Bool
 |.non,.non=>true|.bool,.bool=>true|.bool,.int=>true|.int,.int=>true|.str,.str=>true|.tuple,.tuple=>true|.list,.list=>true|.dict,.dict=>true
 |_,_=>false
theorem og(a b:Ty)(hb:b≠.non):PySem.W.kitOne K (.type a.nm) (.type b.nm)=some (BR a b):=by
 cases b<;>first|exact absurd rfl hb|(cases a<;>rfl)
abbrev RC(K:Z3):List V->Hp->VK->Prop:=λxs H Q=>(∃(x:V) (T:String) (t:Z5) (k:Bool),xs=[x,.ty T]/\xk K H x t/\PySem.W.kitOne K t (.type T)=some k/\Q (.bl k) H)\/
 ∃(a:Addr) (ys:List V) (T:String) (k:Bool),xs=[.ref a,.ty T]/\SqT K H a ys/\PySem.W.kitOne K (.type "tuple") (.type T)=some k/\Q (.bl k) H
theorem Pc:eU X (.builtin "isinstance") (RC X.K):=by
 refine vA.or ?_;rintro a_ s σ H xs us Q I r ⟨a,ys,T,k,rfl,sq,e,q⟩;let⟨u,w',rfl,ru,rw'⟩:=CD r;cases rw';cases ru;let⟨its,rv,ht,hz⟩:=I.tuple sq;let⟨o,h1,h2,_⟩:=ht;exact PySem.W.kia_one PySem.W.kitx_tuple I.kIn ⟨o,h1,h2⟩ e (λz=>nomatch z) λtk=>⟨.bl k,H,I.tok tk,rfl,q⟩
def rR(T:Ty)(ca:CE):CE:=λρ S=>(ca ρ S).bind λp=>(tyU p.1 p.2).bind λt=>some (.bl (BR t T),p.2)
theorem nR{T:Ty}{e eT:ZN}{ca:CE}{p pos:Pos}(hT0:T≠.non)(he:QE X e ca)(hT:WE X eT (tC (.ty T.nm)))(hg:Gl X "isinstance")(hm:X.mg "isinstance"=none)
  (h1:ZU [e,eT] X.env=(false,eval e X.env)::ZU [eT] X.env:=by rfl) (h2:ZU [eT] X.env=(false,eval eT X.env)::ZU [] X.env:=by rfl) (hpl:(X8 pos (ZU [eT] X.env)).any (·.1)=false:=by rfl) :
  QE X (.Call (.Name "isinstance" p) [e,eT] [] pos) (rR T ca):=(mX Pc hg hm OG.oI (dZ he (dZ hT iF h2) h1) 54 54 h1 hpl).imp λσ H Q hz=>kJ hz λm ρ S u S' sr lr hc post=>by
 let⟨⟨x,S1⟩,h1,h2⟩:=Z0.mp hc;let⟨t,ht,h3⟩:=Z0.mp h2;cases h3;refine⟨m,ρ,S,x,_,sr,lr,h1,λm1 v1 H1 e1 sr1 i1=>?_⟩;have fin:=post m1 _ H1 e1 sr1 (Is.bl_ (b:=BR t T));cases x with
 |non=>cases ht;rw[i1.of_non];exact .inl ⟨_,_,_,_,rfl,.non,og .non T hT0,fin⟩
 |bl b=>cases ht;rw[i1.of_bl];exact .inl ⟨_,_,_,_,rfl,.bl b,og .bool T hT0,fin⟩
 |int i=>cases ht;rw[i1.of_int];exact .inl ⟨_,_,_,_,rfl,.int i,og .int T hT0,fin⟩
 |str i=>cases ht;rw[i1.of_str];exact .inl ⟨_,_,_,_,rfl,.str i,og .str T hT0,fin⟩
 |tup us=>
  cases ht;let⟨a,xs,rfl,sa,la⟩:=i1.of_tup;exact .inr ⟨a,xs,_,_,rfl,sa,og .tuple T hT0,fin⟩
 |ref l=>
  let⟨a,ha,rfl⟩:=i1.of_ref;simp only[tyU]at ht;split at ht<;>try cases ht
  rename_i ws hS;let⟨a',ha',xs,hx,la⟩:=sr1.get hS;rw[ha]at ha';cases ha';exact .inl ⟨_,_,_,_,rfl,.lst hx,og .list T hT0,fin⟩;rename_i ws hS;let⟨a',ha',xs,hx,la⟩:=sr1.get hS;rw[ha]at ha';cases ha';exact .inl ⟨_,_,_,_,rfl,.dK hx,og .dict T hT0,fin⟩
 |kl ns=>cases ht
def cBM(f:U->List U->Sto->Option (U×Sto))(co:CE)(cr:CA):CE:=λρ S=>(co ρ S).bind λp=>match p.1 with
 |.ref l=>match p.2[l]? with
  |some (.lst _)=>(cr ρ p.2).bind λq=>f p.1 q.1 q.2
  |_=>none
 |_=>none
def MtP(K:Z3)(r:V->List V->Hp->VK->Prop)(f:U->List U->Sto->Option (U×Sto)):Prop:=
 ∀m S H x v us vs u S' Q,Sr K m S H->Is K m H v x->IsL K m H vs us->f x us S=some (u,S')->kW K m H Q u S'->r v vs H Q
theorem Fs{r:V->List V->Hp->VK->Prop}{f:U->List U->Sto->Option (U×Sto)}{co:CE}{cr:CA}(hp:MtP K r f):∀σ H Q,tE K (cBM f co cr) σ H Q->tBM K "list" r (tE K co) (tA K cr) σ H Q:=by
 rintro σ H Q ⟨m,ρ,S,u,S',sr,lr,hc,post⟩;let⟨⟨x,S1⟩,h1,h2⟩:=Z0.mp hc;refine⟨m,ρ,S,x,S1,sr,lr,h1,λm1 v1 H1 e1 sr1 i1=>?_⟩;cases x with
 |ref l=>
  simp only at h2;split at h2<;>try cases h2
  rename_i ws hS;let⟨⟨us,S2⟩,h3,h4⟩:=Z0.mp h2;let⟨a,ha,rfl⟩:=id i1.of_ref;let⟨a',ha',xs,hx,la⟩:=sr1.get hS;rw[ha]at ha';cases ha';exact⟨.inl ⟨rfl,xs,SqL.of hx⟩,m1,ρ,S1,us,S2,sr1,lr.mono e1,h3,λm2 vs H2 e2 sr2 i2=>hp m2 S2 H2 _ _ us vs u S' Q sr2 (i1.mono e2) i2 h4 (post.mono (e1.trans e2))⟩
 |_=>simp at h2
def cf:U->List U->Sto->Option (U×Sto)
 |.ref l,[u],S=>match S[l]? with
  |some (.lst us)=>if us.length<LIM then some (.non,S.set l (.lst (us++[u])))else none
  |_=>none
 |_,_,_=>none
theorem Dr:MtP K zH cf:=by
 intro m S H x v us vs u S' Q sr ix i hf post;match x,us,hf with
 |.ref l,[w],hf=>
  simp only[cf]at hf;split at hf<;>try cases hf
  rename_i ws hS;split at hf<;>try cases hf
  rename_i hl;let⟨a,ha,rfl⟩:=ix.of_ref;let⟨a',ha',xs,hx,la⟩:=sr.get hS;rw[ha]at ha';cases ha';let⟨y,rfl,iy⟩:=i.one;have eu:Ext K m H m (upd H a (.lst (xs++[y]))):=.of (sr.keep ha _);exact⟨a,xs,y,rfl,rfl,hx,LG (by rw[la.length];exact hl),post m _ _ eu (sr.put ha ⟨_,ax,(la.append (.cons_ iy .nil_)).mono eu⟩) .non_⟩
variable{co:CE}{o:ZN}{l_ n_:Pos}
theorem d6 (ho : QE X o co) (ha : QA X (e :: es) cr) (F_ : attributeBase o "append" X.env (eval o X.env) = eval o X.env := by rfl) (P_ : ((X8 n_ (ZU (e :: es) X.env)).all (λx => !x.1) && (backToKw n_ (keywordEach [] X.env)).all (λx => x.1.isSome)
   && decide ((e::es).length+([]:List Keyword).length+(if ([]:List Keyword).isEmpty then 0 else 1)<30))=true:=by rfl) (D_:(l_.endLine == n_.line)=true:=by rfl) (hs:ZU (e::es) X.env=(false,eval e X.env)::ZU es X.env:=by rfl) (B_:(X8 n_ (ZU es X.env)).any (·.1)=false:=by rfl) :
  QE X (.Call (.Attribute o "append" l_) (e::es) [] n_) (cBM cf co cr):=(EM PySem.F.plainAttrs_list PySem.F.slot_list_append PySem.F.type_list_append nZ ho ha.h F_ P_ D_ hs B_).imp (Fs Dr)
end
structure TC(K:Z3)(c:Cl)(NS:List Str):Prop where
 cl:Cls K c.C
 ns:c.ns=NS
 nas:∀f∈NS,ju K c.C f
section
variable{c:Cl}{NS:List Str}
def TC.ix(T:TC K c NS){i:Nat}{f:Str}(h:NS[i]?=some f):c.ns[i]?=some f:=by rw[T.ns];exact h
def TC.na(T:TC K c NS)(i:Nat){f:Str}(h:NS[i]?=some f):ju K c.C f:=T.nas f (X3 h)
def TC.nm(T:TC K c NS){f:Str}(h:f∉NS):f∉c.ns:=by rw[T.ns];exact h
end
theorem _root_.L2.Fun.pure{P:Zq}{w:Zr}{K:Z3}{mg:79}{base:Heap}{x qual:Str}{st:Zn}{f:Addr}{fd:XF}{N ps:List Str}{k:Nat}{c:CS}(F:Fun K x qual st f fd)(S:cN N ps (ay st))
  (hb:∀(cdv:Z5) (A:Ze) (outer:List Env) (s:Z6) (H:Hp) (E:XK),eQ k (A.deeper (envOfC qual (ay st) s.heap.objs.size f cdv))->
   WSs (mJ CX0 P w K mg base N qual (ay st) f cdv A outer s H E).nox (cK st) (tS K c)):kX P w K mg base CX0 (k+1) f fd ps (wb K (fnU N.length ps.length c)):=
 Fun.okW F S (λvs H Q E h=>j4 h) λcdv A outer s H vs Q E hr h=>⟨_,hb cdv A outer s H E hr,rz (X:=(mJ CX0 P w K mg base N qual (ay st) f cdv A outer s H E).nox) (body:=[]) (ps:=ps) rfl h⟩
def SI:Bool->Heap->Addr->Addr->Nat->Prop
 |true,h,it,a,i=>h.IsListIter it a i
 |false,h,it,a,i=>h.IsTupleIter it a i
def SA:Bool->Heap->Addr->Array Z5->Prop
 |true,h,a,xs=>h.IsList a xs
 |false,h,a,xs=>h.IsTuple a xs
theorem SI.at_{b:Bool}{h h':Heap}{it a:Addr}{i:Nat}(x:SI b h it a i)(k:∀o,h.get? it=some o->h'.get? it=some o):SI b h' it a i:=by
 cases b with
 |true=>let⟨o,e,r⟩:=x;exact⟨o,k o e,r⟩
 |false=>let⟨o,e,r⟩:=x;exact⟨o,k o e,r⟩
theorem SA.at_{b:Bool}{h h':Heap}{a:Addr}{xs:Array Z5}(x:SA b h a xs)(k:∀o,h.get? a=some o->h'.get? a=some o):SA b h' a xs:=by
 cases b with
 |true=>let⟨o,e,r⟩:=x;exact⟨o,k o e,r⟩
 |false=>let⟨o,e,r⟩:=x;exact⟨o,k o e,r⟩
theorem SI.obj{b:Bool}{h:Heap}{it a:Addr}{i:Nat}(x:SI b h it a i):∃o,h.get? it=some o/\∀v,o.data≠.cell v:=by
 cases b with
 |true=>let⟨o,e,c,d⟩:=x;exact⟨o,e,λv z=>by rw[d]at z;cases z⟩
 |false=>let⟨o,e,c,d⟩:=x;exact⟨o,e,λv z=>by rw[d]at z;cases z⟩
theorem SA.lt{b:Bool}{h:Heap}{a:Addr}{xs:Array Z5}(x:SA b h a xs):a<h.objs.size:=by
 cases b with
 |true=>let⟨o,e,_⟩:=x;exact ZH e
 |false=>let⟨o,e,_⟩:=x;exact ZH e
variable{s:Z6}
section
variable{prog:Zq}{A:Ze}{E:Z5->Z6->Prop}
theorem CH{I t:Addr}{j:Nat}{ys:Array Z5}{y:Z5}{Q:Z5->Z6->Prop}(hI:s.heap.IsTupleIter I t j)(hT:s.heap.IsTuple t ys)(hy:ys[j]?=some y)
  (k:∀h',h'.IsTupleIter I t (j+1)->XC I s.heap h'->Q y { s with heap:=h' }):wpAny 69 A (Builtin.SmallTypes.nextOf (.ref I)) Q E s:=by
 let⟨oi,gi,ci,di⟩:=id hI;let⟨ot,gt,_,nt,dt⟩:=hT;unfold Builtin.SmallTypes.nextOf;refine Z2 (wpAny_callSpecial?_slot (name:=Str.ofString "__next__") hI.typeIs PySem.F.slot_tuple_iterator_next (wpAny_call_entry PySem.F.slot_tuple_iterator_next hI.typeIs PySem.F.entry_tuple_iterator_next ?_ (PySem.F.args_tuple_iterator_next_1 _)));show wpAny _ _ (field (.ref I) 0 >>= _) _ _ s;refine Z2 (wpAny_field gi di (x:=.ref t) rfl ?_);show wpAny _ _ (ite ((Value.ref t == Value.none)=true) _ _) _ _ s;rw[Xd (by exact ZF)];show wpAny _ _ (field (.ref I) 1 >>= _) _ _ s;refine Z2 (wpAny_field gi di (x:=.int j 0) rfl ?_);show wpAny _ _ (seqItems? (.ref t) >>= _) _ _ s;refine Z2 (wpAny_seqItems gt dt ?_);simp only[hy,XQ];refine Z2 (wpAny_setField gi di 51 (Z8 ⟨y,rfl,Z8 (k _ ⟨_,XD _ gi (Obj.isFreed_of_fields (Obj.data_mapFields di _)),(Obj.cls_mapFields ..).trans ci,?_⟩ (Heap.SameBut.update ..))⟩));rw[Obj.data_mapFields di];simp[rawInt]
theorem sv{I t:Addr}{j:Nat}{ys:Array Z5}{Q:Z5->Z6->Prop}(hh:A.handled=none)(hI:s.heap.IsTupleIter I t j)(hT:s.heap.IsTuple t ys)(hy:ys[j]?=none)
  (k:∀h' e,Heap.ExtBut I s.heap h'->(∃o,h'.get? e=some o/\o.cls=.type "StopIteration")->E (.ref e) { s with heap:=h' }):wpAny 69 A (Builtin.SmallTypes.nextOf (.ref I)) Q E s:=by
 let⟨oi,gi,ci,di⟩:=id hI;let⟨ot,gt,_,nt,dt⟩:=hT;unfold Builtin.SmallTypes.nextOf;refine Z2 (wpAny_callSpecial?_slot (name:=Str.ofString "__next__") hI.typeIs PySem.F.slot_tuple_iterator_next (wpAny_call_entry PySem.F.slot_tuple_iterator_next hI.typeIs PySem.F.entry_tuple_iterator_next ?_ (PySem.F.args_tuple_iterator_next_1 _)));show wpAny _ _ (field (.ref I) 0 >>= _) _ _ s;refine Z2 (wpAny_field gi di (x:=.ref t) rfl ?_);show wpAny _ _ (ite ((Value.ref t == Value.none)=true) _ _) _ _ s;rw[Xd (by exact ZF)];show wpAny _ _ (field (.ref I) 1 >>= _) _ _ s;refine Z2 (wpAny_field gi di (x:=.int j 0) rfl ?_);show wpAny _ _ (seqItems? (.ref t) >>= _) _ _ s;refine Z2 (wpAny_seqItems gt dt ?_);simp only[hy,XQ];refine Z2 (wpAny_rule (Z2 (wpAny_setField gi di 51 ?_)));show wpAny _ _ (newExc (.type "StopIteration") [] >>= _) _ _ _;simp only[newExc,newTuple];refine Z2 ?_;refine Z2 (wpAny_newObj_type ?_ (by(size_fits)));refine Z2 (m:=firstArgMember _ _) (wpAny_of_eq (a:=Value.none) (by simp only[firstArgMember]<;>rfl) ?_);refine wpAny_newObj_type ?_ (by(size_fits));simp only[raiseNew];refine Z2 (wpAny_handled ?_);rw[show A.in1.handled=none from hh];exact Z2 (Z8 (wpAny_throw (k _ _ (((Heap.SameBut.update ..).extBut.push _).push _) ⟨_,ZG _ rfl,rfl⟩)))
theorem Gx{b:Bool}{I t:Addr}{j:Nat}{ys:Array Z5}{y:Z5}{Q:Z5->Z6->Prop}(hI:SI b s.heap I t j)(hT:SA b s.heap t ys)(hy:ys[j]?=some y)
  (k:∀h',SI b h' I t (j+1)->XC I s.heap h'->Q y { s with heap:=h' }):wpAny 69 A (Builtin.SmallTypes.nextOf (.ref I)) Q E s:=by
 cases b with
 |true=>exact wpAny_nextOf_list_item hI hT hy k
 |false=>exact CH hI hT hy k
theorem mY{b:Bool}{I t:Addr}{j:Nat}{ys:Array Z5}{Q:Z5->Z6->Prop}(hh:A.handled=none)(hI:SI b s.heap I t j)(hT:SA b s.heap t ys)(hy:ys[j]?=none)
  (k:∀h' e,Heap.ExtBut I s.heap h'->(∃o,h'.get? e=some o/\o.cls=.type "StopIteration")->E (.ref e) { s with heap:=h' }):wpAny 69 A (Builtin.SmallTypes.nextOf (.ref I)) Q E s:=by
 cases b with
 |true=>exact wpAny_nextOf_list_end hh hI hT hy k
 |false=>exact sv hh hI hT hy k
def itO(b:Bool)(a:Addr):Obj:={ cls:=.type (if b then "list_iterator" else "tuple_iterator"),data:=.fields #[.ref a,.int 0 0] }
theorem L3{b:Bool}{a i:Addr}{h:Heap}(e:h.get? i=some (itO b a)):SI b h i a 0:=by
 cases b with
 |true=>exact⟨_,e,rfl,rfl⟩
 |false=>exact⟨_,e,rfl,rfl⟩
end
def Sq(K:Z3):Bool->Hp->Addr->List V->Prop
 |true,H,a,xs=>SqL K H a xs
 |false,H,a,xs=>SqT K H a xs
section
variable{a_:List (Addr×Obj)}{h':Heap}
theorem _root_.L2.Inv.turnedL{t':Nat}{ch:List Addr}(I:47)(k:∀b o,b∉ch->s.heap.get? b=some o->h'.get? b=some o)(hf:∀b∈ch,yA X a_ H b):Inv X a_ σ H { s with heap:=h',toks:=t' }:=by
 have nit:∀b u,H b=some u->b∉ch:=λb u e z=>by rw[(hf b z).1]at e;cases e
 refine I.step (g':=s.gens) (d':=s.drawn) (ch:=ch) (λb hb=>⟨(hf b hb).2.2.2.1,(hf b hb).2.1,(hf b hb).2.2.2.2.1,(hf b hb).2.2.2.2.2⟩) (λb o _ _ hc e _=>k b o hc e) (λb o _ _ hc e _=>⟨o.slots,k b o hc e⟩) (λ_ _ _ _ n=>n)
  (λb o hc e=>⟨o,k b o hc e⟩) (λ_ _ e=>e) (λ_ _ _ e=>e) (λb ps e=>⟨#[],by rw[e];simp⟩) (λm hm=>?_) (λb u e=>?_) I.bare
 let⟨o,es,ep,ho,r⟩:=hm;exact⟨o,es,ep,k _ o (λz=>(hf _ z).2.1 rfl) ho,r⟩;refine(I.hok b u e).stay (λc v hc q=>k c v ?_ q) (λ_ q=>q) λ_ _ q=>q;rcases hc with z|z;rw[z];exact nit b u e;exact nit c _ z
theorem _root_.L2.Inv.sq{b:Bool}{a:Addr}{xs:List V}(I:47)(h:Sq X.K b H a xs):∃its:List Z5,bS xs its/\SA b s.heap a its.toArray:=by
 cases b with
 |true=>let⟨its,r,p,_⟩:=I.list h;exact⟨its,r,p.isList⟩
 |false=>let⟨its,r,p,_⟩:=I.tuple h;exact⟨its,r,p⟩
theorem _root_.L2.Inv.sq_inj{b:Bool}{a:Addr}{xs ys:List V}(I:47)(h:Sq X.K b H a xs)(h2:Sq X.K b H a ys):xs=ys:=by
 cases b with
 |true=>exact I.list_inj h h2
 |false=>exact I.tuple_inj h h2
end
theorem C4{h:Heap}{ob o:Obj}{e:Addr}(q:(h.push ob).get? e=some o)(ne:e≠h.objs.size):h.get? e=some o:=(Heap.get?_push_ne h e ob ne).symm.trans q
theorem Dk{P:Zq}{w:Zr}{H:Hp}{h:Heap}{a:Addr}{x y:V}{u v:Z5}(e:h.get? a=some { cls:=.type "tuple",data:=.seq #[u,v] })(rx:cP x u)(ry:cP y v):bU P w H h a (.tup [x,y]):=
 ⟨by show 2<=ZC;decide,[u,v],.cons rx (.cons ry .nil),⟨_,e,⟨rfl,rfl⟩,_,rfl⟩⟩
def Ja:U->Sto->Option (List U×(Sto->Prop))
 |.tup us,_=>some (us,λ_=>True)
 |.ref l,S=>match S[l]? with
  |some (.lst us)=>some (us,λS=>S[l]?=some (.lst us))
  |_=>none
 |_,_=>none
theorem Kt{K:Z3}{m:List Addr}{S:Sto}{H:Hp}{u:U}{v:V}{us:List U}{ok:Sto->Prop}(sr:Sr K m S H)(iu:Is K m H v u)(h:Ja u S=some (us,ok)) :
  ∃b a,v=.ref a/\(∃xs,Sq K b H a xs)/\∀m2 S2 H2,Ext K m H m2 H2->Sr K m2 S2 H2->ok S2->∃xs,Sq K b H2 a xs/\IsL K m2 H2 xs us:=by
 cases u with
 |tup ws=>
  cases h;let⟨a,xs,rfl,sq,il⟩:=iu.of_tup;exact⟨false,a,rfl,⟨xs,sq⟩,λm2 S2 H2 e _ _=>⟨xs,e.keep.t _ _ sq,il.mono e⟩⟩
 |ref l=>
  simp only[Ja]at h;split at h<;>try cases h
  rename_i us hS;let⟨a,ha,rfl⟩:=iu.of_ref;let⟨a',ha',xs,hx,il⟩:=sr.get hS;rw[ha]at ha';cases ha';refine⟨true,a,rfl,⟨xs,SqL.of hx⟩,λm2 S2 H2 e sr2 hok=>?_⟩;let⟨a',ha',xs,hx,il⟩:=sr2.get hok;rw[e.get ha]at ha';cases ha';exact⟨xs,SqL.of hx,il⟩
 |_=>simp[Ja]at h
theorem IB{b:Bool}{prog:Zq}{w:Zr}{A:Ze}(hh:A.handled=none)(it a:Addr)(hne:a≠it)(ys:Array Z5) :
  Draws prog w A it [it,a] ys.size (λi v=>ys[i]?=some v) (λi h=>SI b h it a i/\SA b h a ys) where
 live:=λ_ _ st=>let ⟨o,ho,_⟩:=st.1.obj;⟨o,ho⟩
 frame:=λ_ _ _ st hk=>⟨st.1.at_ λo e=>hk it 51 o e,st.2.at_ λo e=>hk a 51 o e⟩
 item:=λi s Q E hi st hQ=>Gx st.1 st.2 (y:=ys[i]) (by simp[hi]) λh' it' s'=>hQ _ h' s.toks (by simp[hi]) ⟨it',st.2.at_ λo e=>s'.extBut _ _ hne e⟩ s'
 done:=λs Q E st hE=>mY hh st.1 st.2 51 hE
structure ESt(b:Bool)(h:Heap)(e it a:Addr)(n:Nat):Prop where
 he:∃old,IsEnum h e it n old
 hi:SI b h it a n
theorem A3(l:Addr)(ys:Array Z5)(n:Nat)(dct:Option Addr)(sl:Array (Option Z5)) :
  Meets (Builtin.«enumerate.__new__» ⟨[.type "enumerate",.ref l],[]⟩) (λ_ R s=>s.heap.get? l=some { cls:=.type "tuple",dict:=dct,data:=.seq ys n,slots:=sl }/\
   R (.ok (.ret (.ref (s.heap.push (itO false l)).objs.size))) { s with heap:=(s.heap.push (itO false l)).push { cls:=.type "enumerate",data:=.fields #[.none,.bool false,.ref s.heap.objs.size,rawInt 0,.none,.none] } }):=
 .of_wp λprog w A R s q=>by
  let⟨hp,g,d,tk,os⟩:=s;let⟨gl,q⟩:=q;have sb:=sub_enumerate;have tl:Heap.IsTuple (Shared.heap ⟨hp,g,d,tk,os⟩) l ys:=⟨_,gl,rfl,n,rfl⟩
  wp_walk using wpAny_loadPart' gl
  refine wpAny_stack_any (λst=>Z8 ?_);split
  ·rename_i c _ _ _ _ _;cases (c == Value.type "enumerate")<;>(wp_walk using wpAny_loadPart' gl,wpAny_pyIter_tuple tl;exact⟨_,rfl,q⟩)
  wp_walk using wpAny_loadPart' gl,wpAny_pyIter_tuple tl
  exact⟨_,rfl,q⟩
theorem A4{b:Bool}{prog:Zq}{w:Zr}{A:Ze}{E:Z5->Z6->Prop}{s:Z6}{a:Addr}{ys:Array Z5}{Q:Z5->Z6->Prop}(ha:SA b s.heap a ys)
  (k:∀h' e it,e≠it->s.heap.objs.size<=e->s.heap.objs.size<=it->ESt b h' e it a 0->(∀c o,s.heap.get? c=some o->h'.get? c=some o)->Q (.ref e) { s with heap:=h' }) :
  wpAny 69 A (call (.type "enumerate") [.ref a]) Q E s:=by
 cases b with
 |true=>exact call_enumerate_list ha λh' e1 e2 sz up=>k h' _ _ 24 (Nat.le_add_right _ _) (ZW _) ⟨⟨_,e1⟩,e2⟩ up
 |false=>
  let⟨⟨c,dct,dt,sl⟩,gl,hc,n,hd⟩:=ha;simp only at hc hd;subst hc hd;refine callType_new PySem.F.called_enumerate 54 (PySem.F.typeCall_enumerate_1 _) (PySem.F.newCall_enumerate_1 _) (λobj=>PySem.F.args_object_init_2 obj _) PySem.F.entry_enumerate_new (A3 a ys n dct sl) ⟨gl,?_⟩;have n1:(s.heap.push (itO false a)).objs.size=s.heap.objs.size+1:=Xw ..;have p2:=ZG (s.heap.push (itO false a)) (o:={ cls:=.type "enumerate",data:=.fields #[.none,.bool false,.ref s.heap.objs.size,rawInt 0,.none,.none] }) rfl;have p1:((s.heap.push (itO false a)).push { cls:=.type "enumerate",data:=.fields #[.none,.bool false,.ref s.heap.objs.size,rawInt 0,.none,.none] }).get? s.heap.objs.size=some (itO false a):=Z7 _ (ZG _ rfl);rw[n1]at p2;show _/\_;rw[n1];exact⟨⟨_,p2,rfl⟩,k _ (s.heap.objs.size+1) s.heap.objs.size (Nat.ne_of_gt (Nat.lt_succ_self _)) (Nat.le_add_right _ _) (ZW _) ⟨⟨_,p2⟩,L3 p1⟩ λc o x=>Z7 _ (Z7 _ x)⟩
theorem D3{b:Bool}{prog:Zq}{w:Zr}{A:Ze}{E:Z5->Z6->Prop}{s:Z6}{e it a:Addr}{i:Int}{j:Nat}{ys:Array Z5}{old:Z5}{Q:Option Z5->Z6->Prop}(hh:A.in1.handled=none)(he:IsEnum s.heap e it i old)(hi:SI b s.heap it a j)(ha:SA b s.heap a ys)(hx:ys[j]?=none)
  (k:∀h',Heap.ExtBut it s.heap h'->Q none { s with heap:=h' }):wpAny 69 A (pyNext (.ref e)) Q E s:=by
 have ty:s.TypeIs (.ref e) "enumerate":=⟨_,he,rfl⟩;unfold pyNext;refine Z2 (wpAny_attempt (wpAny_callSpecial?_slot (name:=Str.ofString "__next__") ty PySem.F.slot_enumerate_next (wpAny_call_entry PySem.F.slot_enumerate_next ty PySem.F.entry_enumerate_next ?_ (PySem.F.args_enumerate_next_1 _))));show wpAny _ _ (field (.ref e) 2 >>= λ_=>_) _ _ _;refine Z2 (wpAny_field he rfl (x:=.ref it) rfl (Z2 (mY hh hi ha hx λh' x he' hx'=>?_)));let⟨o,ho,co⟩:=hx';exact Z2 (wpAny_isInstance (T:="StopIteration") (b:=true) ⟨o,ho,co⟩ isSubtype_stop (Z8 (k _ he')))
def Ite(K:Z3)(b:Bool)(a:Addr):It:=
  ⟨λi H=>∃xs x,Sq K b H a xs/\xs[i]?=some x,
   λi H v H'=>∃p x,v=.ref p/\H p=none/\H'=upd H p (.tup [.int i,x])/\∀xs,Sq K b H a xs->xs[i]?=some x,
   λi H=>∃xs,Sq K b H a xs/\xs.length<=i⟩
theorem y6{P:Zq}{w:Zr}{K:Z3}{es:List ZN}{k:Nat}{pos:Pos}{b:Bool}{e it a:Addr}(ne:e≠it)(nae:a≠e)(nai:a≠it) :
  IT P w K (.Tuple es k pos) (Ite K b a) [e,it] e (λn h=>ESt b h e it a n) where
 mem:=by simp
 obj:=λn h st c hc=>by
  let⟨⟨old,he⟩,hi⟩:=st;simp only[ZT,Zv,or_false]at hc;rcases hc with rfl|rfl;exact⟨_,he,λv q=>by cases q⟩;exact hi.obj
 keep:=λn h h' st kp=>let ⟨old,he⟩:=st.he;⟨⟨old,kp e 51 _ he⟩,st.hi.at_ λo q=>kp it 51 o q⟩
 item:=by
  intro X hP hw hK hc n a_ s σ H E Iv hf st hg;subst hP hw hK;let⟨xs,x,qa,hx⟩:=hg;let⟨ia,ra,sa⟩:=Iv.sq qa;let⟨u,hu,ru⟩:=ra.get hx;let⟨⟨old,he⟩,hi⟩:=st;have hlt:n<ia.toArray.size:=by simpa using (Z9.mp hu).1
  refine wpAny_pyNext_enum_itemD (IB (b:=b) (show X.A.in1.handled=none from Iv.ok.hd hc) it a nai ia.toArray) he ⟨hi,sa⟩ hlt ne (by simp[ne,Ne.symm nae]) λy h1 tk py Sy st1 T1 sz1 up1=>⟨_,rfl,wpAny_letOwnedTupleGo_enum Sy λh2 e2 s2=>?_⟩;have ey:y=u:=by
   have p':ia.toArray[n]?=some y:=py;rw[List.getElem?_toArray,hu]at p';cases p';rfl
  subst ey;have hfr:H s.heap.objs.size=none:=Iv.hok.fresh (ZW _);have elt:e<s.heap.objs.size:=ZH he;have ilt:it<s.heap.objs.size:=by let⟨o,q,_⟩:=hi.obj;exact ZH q
  have sz:∀c∈[e,it],c<s.heap.objs.size:=λc hc=>by
   simp only[ZT,Zv,or_false]at hc;rcases hc with rfl|rfl;exact elt;exact ilt
  have T2:h2.get? s.heap.objs.size=some { cls:=.type "tuple",data:=.seq #[.int n tk,y] }:=s2.extBut _ _ (Nat.ne_of_gt elt) T1;have I1:Inv X a_ σ (upd H s.heap.objs.size (.tup [.int n,x])) { s with heap:=s.heap.push { cls:=.type "tuple",data:=.seq #[.int n tk,y] },toks:=s.toks }:=
   Iv.laid (λb o e=>Z7 _ e) (ZW _) (Dk (ZG _ rfl) ⟨tk,rfl⟩ ru)
  have fr2:∀c∈[e,it],(upd H s.heap.objs.size (.tup [.int n,x])) c=none:=λc hc=>by rw[aD (ZL (sz c hc))];exact(hf c hc).1
  have I2:Inv X a_ σ (upd H s.heap.objs.size (.tup [.int n,x])) { s with heap:=h2,toks:=tk+1 }:=
   Inv.turnedL (s:={ s with heap:=s.heap.push { cls:=.type "tuple",data:=.seq #[.int n tk,y] },toks:=s.toks }) (h':=h2) (t':=tk+1) (ch:=[e,it]) I1 (λc o hn q=>by
    by_cases ce:c=s.heap.objs.size;subst ce;have q':(s.heap.push { cls:=.type "tuple",data:=.seq #[.int n tk,y] }).get? s.heap.objs.size=some o:=q;rw[ZG _ rfl]at q';cases q';exact T2;have q':s.heap.get? c=some o:=C4 q ce;simp only[ZT,Zv,or_false,not_or]at hn;exact s2.extBut _ _ hn.1 (up1 c o hn.1 hn.2 q')) λc hc=>⟨fr2 c hc,(hf c hc).2⟩
  refine⟨.ref s.heap.objs.size,_,I2,rfl,⟨_,x,rfl,hfr,rfl,λxs' q=>by rw[Iv.sq_inj q qa];exact hx⟩,⟨⟨_,by simpa using e2⟩,st1.1.at_ λo q=>s2.extBut _ _ (Ne.symm ne) q⟩,fr2⟩
 done:=by
  intro X hP hw hK hc n a_ s σ H E Iv hf st hg;subst hP hw hK;let⟨xs,qa,hx⟩:=hg;let⟨ia,ra,sa⟩:=Iv.sq qa;have la:=ra.length;let⟨⟨old,he⟩,hi⟩:=st;refine D3 (show X.A.in1.handled=none from Iv.ok.hd hc) he hi sa 72 λh1 up1=>⟨rfl,?_⟩;exact Iv.turnedL (t':=s.toks) (ch:=[e,it]) (λc o hn q=>by
   simp only[ZT,Zv,or_false,not_or]at hn;exact up1 c o hn.2 q) hf
 self:=λ_ _ _ _ _ st h=>let ⟨old,he⟩:=st.he;wpAny_pyIter_enum he h
def Me(K:Z3)(ta:TA):TI:=λσ H R=>ta σ H λvs H2=>∃b a,vs=[.ref a]/\(∃xs,Sq K b H2 a xs)/\R (Ite K b a) H2
def Bv:Zi "enumerate"=some (.type "enumerate"):=rfl
theorem Gi{es:List ZN}{k:Nat}{tp p:Pos}{a:ZN}{ta:TA}(hg:Gl X "enumerate")(hm:X.mg "enumerate"=none)(ha:WA X [a] ta)
  (hs:ZU [a] X.env=(false,eval a X.env)::ZU [] X.env:=by rfl) (hpl:(X8 pos (ZU [] X.env)).any (·.1)=false:=by rfl):WI X (.Tuple es k tp) (.Call (.Name "enumerate" p) [a] [] pos) (Me X.K ta):=by
 constructor;intro a_ s σ H R I h;refine wpAny_Call_Name_kw (oe I hg hm OP.Bv ?_);refine PyProof.Rows.callWith_type1 (thn (ha.h pos a_ s σ H _ I h) λus s1 hz=>?_) hs hpl;let⟨vs,H1,I1,r1,q1⟩:=hz;let⟨b,aa,rfl,⟨xs,qa⟩,q⟩:=q1;let⟨u,rfl,ru⟩:=jv r1;cases ru;let⟨ia,ra,sa⟩:=I1.sq qa;refine A4 sa λh1 e it ne he hi st up=>?_;let⟨old,hE⟩:=st.he;refine wpAny_pyIter_enum hE ⟨e,[e,it],_,_,H1,rfl,I1.kept (t':=s1.toks) up,y6 ne (ZL (ZI sa.lt he)) (ZL (ZI sa.lt hi)),st,λc hc=>?_,q⟩;simp only[ZT,Zv,or_false]at hc;rcases hc with rfl|rfl;exact I1.fpOk he (I1.hok.fresh he);exact I1.fpOk hi (I1.hok.fresh hi)
def A5(us:List U):List U:=us.zipIdx.map λp=>.tup [.int p.2,p.1]
def tM(ca:CE):CI:=λρ S=>(ca ρ S).bind λp=>(Ja p.1 p.2).bind λx=>some (A5 x.1,x.2,p.2)
theorem uH{es:List ZN}{k:Nat}{tp p:Pos}{a:ZN}{ca:CE}(hg:Gl X "enumerate")(hm:X.mg "enumerate"=none)(ha:QE X a ca)
  (hs:ZU [a] X.env=(false,eval a X.env)::ZU [] X.env:=by rfl) (hpl:(X8 pos (ZU [] X.env)).any (·.1)=false:=by rfl) :
  QI X (.Tuple es k tp) (.Call (.Name "enumerate" p) [a] [] pos) (tM ca):=(Gi hg hm (dZ ha iF hs) hs hpl).imp λσ H R hz=>yj hz λm ρ S us ok S' sr lr hf post=>by
 let⟨⟨x,S1⟩,h1,h⟩:=Z0.mp hf;let⟨⟨xs,okx⟩,h3,h⟩:=Z0.mp h;cases h;refine⟨m,ρ,S,x,_,sr,lr,h1,λm1 v1 H1 e1 sr1 i1=>?_⟩;let⟨b,aa,rfl,q1,k1⟩:=Kt sr1 i1 h3;refine⟨b,aa,rfl,q1,post m1 H1 _ e1 sr1 λm3 S3 H3 i e3 sr3 hok=>?_⟩;let⟨vs,sq1,l1⟩:=k1 m3 S3 H3 e3 sr3 hok;have n1:=l1.length;refine⟨λu hu=>?_,λhi=>⟨vs,sq1,?_⟩⟩;simp only[A5,Zz,X1,List.getElem?_zipIdx]at hu;let⟨⟨p,q⟩,⟨y,hp,e⟩,rfl⟩:=hu;cases e;let⟨vp,ep,ip⟩:=l1.getD hp;refine⟨⟨vs,vp,sq1,ep⟩,λv H4 hy=>?_⟩;let⟨r,x',rfl,hr,rfl,f1⟩:=hy;have:=f1 vs sq1;rw[ep]at this;cases this;have ee:Ext X.K m3 H3 m3 (upd H3 r (.tup [.int i,vp])):=.of (bu hr _);exact⟨ee,sr3.same (cG hr _),.tup_ (SqT.of ax) (.cons_ (by simp only[Xq];exact .int_) (.cons_ (ip.mono ee) .nil_))⟩;simp only[A5,ZQ,List.length_zipIdx]at hi;omega
def kh:List (CE×CE)->Rho->Sto->Option (List (Key×U)×Sto)
 |[],_,S=>some ([],S)
 |(ck,cv)::r,ρ,S=>(ck ρ S).bind λp=>(cv ρ p.2).bind λq=>(mO p.1).bind λk=>(kh r ρ q.2).bind λz=>some ((k,q.1)::z.1,z.2)
def Ah(kus:List (Key×U))(au:List (Key×U)):List (Key×U):=kus.foldl (λacc kv=>gY acc kv.1 kv.2) au
def pJ(kus:List (Key×U)):List (Key×U):=Ah kus []
def Bt(prs:List (CE×CE)):CE:=λρ S=>(kh prs ρ (S++[.dic []])).bind λq=>match q.2[S.length]? with
 |some (.dic [])=>some (.ref S.length,q.2.set S.length (.dic (pJ q.1)))
 |_=>none
def QP(X:Cx)(pos:Pos)(keys:List (Option ZN))(m_:List ZN)(prs:List (CE×CE)):Prop:=PPs X pos keys m_ (prs.map λp=>(tE X.K p.1,tE X.K p.2))
def EW:QP X pos [] [] []:=zP
theorem jD{k v:ZN}{ks:List (Option ZN)}{vs:List ZN}{ck cv:CE}{prs:List (CE×CE)}(hk:QE X k ck)(hv:QE X v cv)(hr:QP X pos ks vs prs):QP X pos (some k::ks) (v::vs) ((ck,cv)::prs):=wA hk.h hv.h hr
theorem sW{K:Z3}{ρ:Rho}{σ:L2.St}:∀{prs:List (CE×CE)} {m:List Addr} {S S':Sto} {H:Hp} {kus:List (Key×U)} {R:List (V×V)->Hp->Prop},Sr K m S H->Lr K m H ρ σ->kh prs ρ S=some (kus,S')->
  (∀m' kvs H',Ext K m H m' H'->Sr K m' S' H'->IsP K m' H' kvs kus->R (kvs.map λkv=>(kV kv.1,kv.2)) H')->sx (prs.map λp=>(tE K p.1,tE K p.2)) σ H R
 |[],m,S,S',H,kus,R,sr,lr,hc,k=>by cases hc;exact k m [] H .refl sr .nil_
 |(ck,cv)::r,m,S,S',H,kus,R,sr,lr,hc,k=>by
  let⟨⟨x,S1⟩,h1,h⟩:=Z0.mp hc;let⟨⟨y,S2⟩,h2,h⟩:=Z0.mp h;let⟨kk,h3,h⟩:=Z0.mp h;let⟨⟨zs,S3⟩,h4,h⟩:=Z0.mp h;cases h;refine⟨m,ρ,S,x,S1,sr,lr,h1,λm1 v1 H1 e1 sr1 i1=>⟨m1,ρ,S1,y,S2,sr1,lr.mono e1,h2,λm2 v2 H2 e2 sr2 i2=>?_⟩⟩;refine sW (prs:=r) sr2 (lr.mono (e1.trans e2)) h4 λm3 kvs H3 e3 sr3 ip=>?_;have ek:=lj i1 h3;subst ek;exact k m3 ((kk,v2)::kvs) H3 ((e1.trans e2).trans e3) sr3 (.cons_ (i2.mono e3) ip)
theorem pI:∀{prs:List (CE×CE)} {ρ:Rho} {S S':Sto} {kus:List (Key×U)},kh prs ρ S=some (kus,S')->kus.length=prs.length
 |[],_,_,_,_,h=>by cases h;rfl
 |(ck,cv)::r,ρ,S,S',kus,hc=>by
  let⟨⟨x,S1⟩,h1,h⟩:=Z0.mp hc;let⟨⟨y,S2⟩,h2,h⟩:=Z0.mp h;let⟨kk,h3,h⟩:=Z0.mp h;let⟨⟨zs,S3⟩,h4,h⟩:=Z0.mp h;cases h;simp[pI h4]
theorem IsP.merge{K:Z3}{m:List Addr}{H:Hp}{kvs:List (Key×V)}{kus:List (Key×U)}(h:IsP K m H kvs kus):∀(av:List (Key×V)) (au:List (Key×U)),IsP K m H av au->IsP K m H (mw av kvs) (Ah kus au):=
 IsP.ind (P:=λkvs kus=>∀(av:List (Key×V)) (au:List (Key×U)),IsP K m H av au->IsP K m H (mw av kvs) (Ah kus au)) (λ_ _ h=>h) (λk v u kvs kus i _ ih av au ha=>ih _ _ (ha.put (k:=k) i)) h
theorem EX{keys:List (Option ZN)}{m_:List ZN}{prs:List (CE×CE)}(h:QP X pos keys m_ prs)(M_:keys.all (·.isSome)=true)(hl:keys.length=m_.length)(h0:keys≠[])(h15:keys.length<=15)(hp:prs.length<=15):QE X (.Dict keys m_ pos) (Bt prs):=
 (Cq h M_ hl h0 h15).imp λσ H Q hz=>kJ hz λm ρ S u S' sr lr hc post=>by
 let⟨⟨kus,S1⟩,h1,h2⟩:=Z0.mp hc;simp only at h2;split at h2<;>try cases h2
 rename_i hS;intro p hp';have ee:Ext X.K m H (m++[p]) (upd H p (.dK [])):=.new (bu hp' _);refine sW (sr.new (o:=.dic []) hp' ⟨[],ax,.nil_⟩) (lr.mono ee) h1 λm1 kvs H1 e1 sr1 ip=>?_;have ha:m1[S.length]?=some p:=e1.get (cI sr.len);let⟨a',ha',kv0,hx,ip0⟩:=sr1.get hS;rw[ha]at ha';cases ha';have e0:kv0=[]:=by have:=IsP.length ip0;simpa using this
 subst e0;have eu:Ext X.K m1 H1 m1 (upd H1 p (.dK (mw [] kvs))):=.of (sr1.keep ha _);refine⟨hx,kvs,rfl,by rw[IsP.length ip,pI h1];exact hp,post m1 _ _ ((ee.trans e1).trans eu) (sr1.put (o:=.dic (pJ kus)) ha ⟨_,ax,(IsP.merge ip _ _ .nil_).mono eu⟩) (.ref_ ha)⟩
theorem tK:∀{vs:List Z5} {ns:List Int},IntsAre vs ns->bS (ns.map V.int) vs
 |_,_,.nil=>.nil
 |_,_,.cons n t r=>.cons ⟨t,rfl⟩ (tK r)
theorem gA:∀{ns:List Int} {vs:List Z5},bS (ns.map V.int) vs->IntsAre vs ns
 |[],_,h=>by cases h;exact .nil
 |n::ns,_,.cons r t=>by
  let⟨k,rfl⟩:=r;exact .cons n k (gA t)
def zG(K:Z3):List V->Hp->VK->Prop:=λxs H Q=>∃(p:Addr) (ns:List Int),xs=[.ref p]/\(SqL K H p (ns.map V.int)\/∃kvs,H p=some (.dK kvs)/\kvs.map (·.1)=ns.map Sum.inl)/\ns.length<64/\
 ∀(l:Addr) (ms:List Int),H l=none->ms.Perm ns->ms.Pairwise (·<=·)->Q (.ref l) (upd H l (.lst (ms.map V.int)))
theorem As{κ:Type}:∀{kvs:List (κ×V)} {vs:List (κ×Z5)},KV kvs vs->vs.map (·.1)=kvs.map (·.1)
 |_,_,.nil=>rfl
 |_,_,.cons r t=>by rw[ZR,ZR,As t,r.1]
theorem qQ{P:Zq}{w:Zr}{H:Hp}{h:Heap}{a:Addr}{ms:List Int}{out:Array Z5}{e:Nat}(g:h.get? a=some (seqObj "list" out e))(hI:IntsAre out.toList ms)(hl:ms.length<64):bU P w H h a (.lst (ms.map V.int)):=
 ⟨by rw[ZQ];exact Nat.le_of_lt (ZI hl (by unfold ZC;decide)),out.toList,e,tK hI,by rw[Array.toArray_toList];exact g⟩
theorem wG{X:Cx}(hc:X.calm=true):eU X (.builtin "sorted") (zG X.K):=by
 rintro a_ s σ H xs us Q I r ⟨p,ns,rfl,src,h64,q⟩;let⟨u,rfl,ru⟩:=jv r;cases ru;rcases src with hL|⟨kvs,hD,hk⟩;let⟨its,rv,pl,hz⟩:=I.list hL;have hI:=gA rv;have h_:=rv.length;rw[ZQ]at h_;refine sorted_ints pl.isList hI 24 λout ms a1 a2 a3=>?_;let⟨e,ge⟩:=sortedAll_at s.heap its out;have hf:=I.hok.fresh (Xu s.heap.objs.size);exact⟨.ref (s.heap.objs.size+1),_,I.laid (t':=s.toks) (λb o e=>sortedAll_old e) (Xu _) (qQ ge a1 (by rw[a2.length_eq];exact h64)),rfl,q _ ms hf a2 a3⟩;let⟨z,hd,vs,rel,dd⟩:=Ec I.hok hD;let⟨ep,da⟩:=dd.dictAt;have lkv:kvs.length=ns.length:=by have:=congrArg List.length hk;simpa using this
 have lv:vs.length=ns.length:=by rw[<-Paired.length rel];exact lkv
 have ks:vs.map (·.1)=ns.map Sum.inl:=by
  rw[<-hk];exact As rel
 refine Calls.call_function_entry kind_sorted plain_sorted entry_sorted (args_sorted1 _) ?_;unfold Builtin.«sorted»;refine Z2 (m:=checkCount "sorted" 1 1 _) (Z8 (Z2 (PySem.W.kdu_collect (PySem.W.kdl_dict (kvs:=vs) (ep:=ep) hd) (show X.A.in1.handled=none from I.ok.hd hc) da (by rw[lv,<-lkv];exact z) λh1 tk acc up hac=>?_)));have hla:acc.toList.length=ns.length:=by rw[Zh,hac.1,lv]
 have hI:IntsAre acc.toList ns:=by
  have key:∀(i:Nat) (v:Z5),acc.toList[i]?=some v->∃(n:Int) (t:Tok),ns[i]?=some n/\v=Value.int n t:=λi v e=>by
   let⟨k,x,e1,e2⟩:=hac.2 i v (by rw[<-X7];exact e);have e3:(vs.map (·.1))[i]?=some k:=by rw[Zz,e1];rfl
   rw[ks,Zz]at e3;let⟨n,e4,e5⟩:=X1.mp e3;subst e5;rcases bM (k:=Sum.inl n) e2 with⟨j,t,e6,e7⟩|⟨j,t,e6,e7⟩;cases e6;exact⟨n,t,e4,e7⟩;cases e6
  clear hac;generalize acc.toList=L at key hla;clear ks lv lkv h64 q hk;induction L generalizing ns with
  |nil=>cases ns with
   |nil=>exact .nil
   |cons a b=>simp at hla
  |cons a b ih=>cases ns with
   |nil=>simp at hla
   |cons c d=>
    let⟨n,t,e1,e2⟩:=key 0 a 51;simp at e1;subst e1;subst e2;exact .cons _ t (ih _ (λi v e=>by have:=key (i+1) v ‹e›;simpa using this) ‹hla›)
 refine Z2 (wpAny_newList ?_ (by rw[hla,<-lkv];exact z));have gL:(h1.push { cls:=.type "list",data:=.seq acc.toList.toArray }).get? h1.objs.size=some (seqObj "list" acc.toList.toArray 0):=ZG _ rfl;refine Z2 (wpAny_holding (wpAny_call_entry slot_list_sort ⟨_,gL,rfl⟩ entry_list_sort (list_sort_tree (s:={ s with heap:=h1.push { cls:=.type "list",data:=.seq acc.toList.toArray },toks:=tk }) gL hI 24 λout ms a1 a2 a3=>⟨_,rfl,?_⟩) (args_list_sort _)));let⟨e,ge⟩:=sortedHeap_at (out:=out) gL;have I1:Inv X a_ σ H { s with heap:=h1,toks:=tk }:=I.kept up;have hf:=I1.hok.fresh (ZW h1.objs.size);refine Z8 ⟨_,rfl,.ref h1.objs.size,_,Inv.laid (s:={ s with heap:=h1,toks:=tk }) (h':=sortedHeap (h1.push { cls:=.type "list",data:=.seq acc.toList.toArray }) h1.objs.size acc.toList out) (t':=tk) I1 (λb o g1=>?_) (ZW _) (qQ ge a1 (by rw[a2.length_eq];exact h64)),rfl,q _ ms hf a2 a3⟩;have g1:h1.get? b=some o:=g1;have lt1:=ZH g1;rw[sortedHeap_old (ZL lt1) (by rw[Xw];exact Nat.lt_succ_of_lt lt1)];exact Z7 _ g1
def dY(ns:List Int):List Int:=ns.mergeSort (λa b=>decide (a<=b))
def dP(ns:List Int):(dY ns).Perm ns:=List.mergeSort_perm ..
theorem iI(ns:List Int):(dY ns).Pairwise (·<=·):=by
 have:=List.pairwise_mergeSort (le:=λ(a b:Int)=>decide (a<=b)) (λa b c h1 h2=>by simp at h1 h2 ⊢;omega) (λa b=>by simp;omega) ns;exact this.imp λh=>by simpa using h
theorem fS{ns ms:List Int}(p:ms.Perm ns)(s:ms.Pairwise (·<=·)):ms=dY ns:=PySem.W.lks_uniq (p.trans (dP ns).symm) s (iI ns)
def xY:List (Key×U)->Option (List Int)
 |[]=>some []
 |(.inl n,_)::r=>(xY r).map (n::·)
 |_=>none
theorem wK:∀{kus:List (Key×U)} {ns:List Int},xY kus=some ns->kus.map (·.1)=ns.map Sum.inl
 |[],ns,h=>by cases h;rfl
 |(k,u)::r,ns,h=>by
  cases k<;>simp only[xY]at h<;>try cases h
  let⟨ms,e,h⟩:=X1.mp h;subst h;simp[wK e]
def iR:Fn
 |[.ref l],S=>match S[l]? with
  |some (.lst us)=>(qW us).bind λns=>if ns.length<64 then some (.ref S.length,S++[.lst ((dY ns).map U.int)])else none
  |some (.dic kus)=>(xY kus).bind λns=>if ns.length<64 then some (.ref S.length,S++[.lst ((dY ns).map U.int)])else none
  |_=>none
 |_,_=>none
theorem wC{K:Z3}:kY K (zG K) iR:=by
 intro m S H us vs u S' Q sr i hf post;match us,hf with
 |[.ref l],hf=>
  let⟨v,rfl,iv⟩:=i.one;let⟨a,ha,rfl⟩:=iv.of_ref;simp only[iR]at hf;split at hf<;>try cases hf
  ·rename_i ws hS;let⟨ns,hn,h⟩:=Z0.mp hf;split at h<;>try cases h
   have hc:ns.length<64:=by assumption
   let⟨a',ha',xs,hx,la⟩:=sr.get hS;rw[ha]at ha';cases ha';rw[kF hn]at la;rw[la.ints]at hx;refine⟨a,ns,rfl,.inl (SqL.of hx),hc,λp ms hp pm sm=>?_⟩;rw[fS pm sm];exact dF sr (gZ _) post hp
  ·rename_i ws hS;let⟨ns,hn,h⟩:=Z0.mp hf;split at h<;>try cases h
   have hc:ns.length<64:=by assumption
   let⟨a',ha',kvs,hx,ip⟩:=sr.get hS;rw[ha]at ha';cases ha';refine⟨a,ns,rfl,.inr ⟨kvs,hx,by rw[ip.1,wK hn]⟩,hc,λp ms hp pm sm=>?_⟩;rw[fS pm sm];exact dF sr (gZ _) post hp
variable{t:CT}{x:U}
section
variable{u y:U}{f g:U->U->Sto->Option (U×Sto)}{b:Bool}
def QC(S:Sto):Option (Option U)->Option (U×Sto)
 |some (some u)=>some (u,S)
 |_=>none
def BY:af i ρ S=QC S (ρ[i]?):=rfl
def yD:QC S (some (some u))=some (u,S):=rfl
def x_c:cC u ρ S=some (u,S):=rfl
def M8(f:U->U->Sto->Option (U×Sto))(x:U)(q:U×Sto):=f x q.1 q.2
def QJ(f:U->U->Sto->Option (U×Sto))(cb:CE)(ρ:Rho)(p:U×Sto):=(cb ρ p.2).bind (M8 f p.1)
def yG:cOp f ca cb ρ S=(ca ρ S).bind (QJ f cb ρ):=rfl
def mV:QJ f cb ρ (x,S)=(cb ρ S).bind (M8 f x):=rfl
def oY:M8 f x (y,S)=f x y S:=rfl
def LQ:U×Sto->Option (Bool×Sto)
 |(.bl b,S)=>some (b,S)
 |_=>none
theorem rV:aA ca ρ S=(ca ρ S).bind LQ:=by
 unfold aA;congr 1;funext p;let⟨u,S⟩:=p;cases u<;>rfl
def yE:LQ (.bl b,S)=some (b,S):=rfl
def PJ(tb:CT)(ρ:Rho)(p:Bool×Sto):=if p.1=true then tb ρ p.2 else some (false,p.2)
def kOr(tb:CT)(ρ:Rho)(p:Bool×Sto):=if p.1=true then some (true,p.2)else tb ρ p.2
def QK(p:Bool×Sto):Option (Bool×Sto):=some (!p.1,p.2)
def Ou:pY ta tb ρ S=(ta ρ S).bind (PJ tb ρ):=rfl
def JU:PJ tb ρ (true,S)=tb ρ S:=rfl
def JT:PJ tb ρ (false,S)=some (false,S):=rfl
def Qk:cOr ta tb ρ S=(ta ρ S).bind (kOr tb ρ):=rfl
def NF:kOr tb ρ (true,S)=some (true,S):=rfl
def ND:kOr tb ρ (false,S)=tb ρ S:=rfl
def FF:jS ta ρ S=(ta ρ S).bind QK:=rfl
def EF:QK (b,S)=some (!b,S):=rfl
def HV(cb:CE)(ρ:Rho):U×Sto->Option (U×Sto)
 |(.bl true,S)=>cb ρ S
 |(.bl false,S)=>some (.bl false,S)
 |_=>none
def Pt(cb:CE)(ρ:Rho):U×Sto->Option (U×Sto)
 |(.bl false,S)=>cb ρ S
 |(.bl true,S)=>some (.bl true,S)
 |_=>none
def LU:U×Sto->Option (U×Sto)
 |(.bl b,S)=>some (.bl (!b),S)
 |_=>none
theorem JS:kQ ca cb ρ S=(ca ρ S).bind (HV cb ρ):=by
 unfold kQ;congr 1;funext p;let⟨u,S⟩:=p;cases u with
 |bl b=>cases b<;>rfl
 |_=>rfl
def FX:HV cb ρ (.bl true,S)=cb ρ S:=rfl
def FW:HV cb ρ (.bl false,S)=some (.bl false,S):=rfl
theorem NC:Q2 ca cb ρ S=(ca ρ S).bind (Pt cb ρ):=by
 unfold Q2;congr 1;funext p;let⟨u,S⟩:=p;cases u with
 |bl b=>cases b<;>rfl
 |_=>rfl
def Jx:Pt cb ρ (.bl false,S)=cb ρ S:=rfl
def Jw:Pt cb ρ (.bl true,S)=some (.bl true,S):=rfl
theorem Jy:vC ca ρ S=(ca ρ S).bind LU:=by
 unfold vC;congr 1;funext p;let⟨u,S⟩:=p;cases u<;>rfl
def FE:LU (.bl b,S)=some (.bl (!b),S):=rfl
def wM(u:U)(q:List U×Sto):Option (List U×Sto):=some (u::q.1,q.2)
def E9(cr:CA)(ρ:Rho)(p:U×Sto):=(cr ρ p.2).bind (wM p.1)
def FG:aq ρ S=some ([],S):=rfl
def rZ:ae ca cr ρ S=(ca ρ S).bind (E9 cr ρ):=rfl
def mW:E9 cr ρ (u,S)=(cr ρ S).bind (wM u):=rfl
def uq:wM u (us,S)=some (u::us,S):=rfl
def QD(p:List U×Sto):Option (U×Sto):=some (.tup p.1,p.2)
def QL(p:List U×Sto):Option (U×Sto):=some (.ref p.2.length,p.2++[.lst p.1])
def Nq:b8 cr ρ S=(cr ρ S).bind QD:=rfl
def Jm:QD (us,S)=some (.tup us,S):=rfl
def JA:fZ cr ρ S=(cr ρ S).bind QL:=rfl
def EH:QL (us,S)=some (.ref S.length,S++[.lst us]):=rfl
def kCB(f:Fn)(p:List U×Sto):=f p.1 p.2
def Og{f:Fn}:cCB f cr ρ S=(cr ρ S).bind (kCB f):=rfl
def JP{f:Fn}:kCB f (us,S)=f us S:=rfl
def QM(T:Ty)(p:U×Sto):Option (U×Sto):=(tyU p.1 p.2).bind λt=>some (.bl (BR t T),p.2)
def NU{T:Ty}:rR T ca ρ S=(ca ρ S).bind (QM T):=rfl
def JH{T:Ty}:QM T (u,S)=(tyU u S).bind λt=>some (.bl (BR t T),S):=rfl
def LR(c2:CS):Out×Rho×Sto->Option (Out×Rho×Sto)
 |(.nx,ρ,S)=>c2 ρ S
 |(o,ρ,S)=>some (o,ρ,S)
def EE:aT ρ S=some (.nx,ρ,S):=rfl
theorem rW:aM c1 c2 ρ S=(c1 ρ S).bind (LR c2):=by
 unfold aM;congr 1;funext p;let⟨o,ρ,S⟩:=p;cases o<;>rfl
def vO:LR c2 (.nx,ρ,S)=c2 ρ S:=rfl
def Jt:LR c2 (.rt u,ρ,S)=some (.rt u,ρ,S):=rfl
def Js:LR c2 (.bk,ρ,S)=some (.bk,ρ,S):=rfl
def Jr:LR c2 (.ct,ρ,S)=some (.ct,ρ,S):=rfl
def LX(ρ:Rho)(p:U×Sto):Option (Out×Rho×Sto):=some (.nx,ρ,p.2)
def QH(ρ:Rho)(p:U×Sto):Option (Out×Rho×Sto):=some (.rt p.1,ρ,p.2)
def JM:eP ca ρ S=(ca ρ S).bind (LX ρ):=rfl
def FR:LX ρ (u,S)=some (.nx,ρ,S):=rfl
def yF:bR ca ρ S=(ca ρ S).bind (QH ρ):=rfl
def Ju:QH ρ (u,S)=some (.rt u,ρ,S):=rfl
def Pu(c1 c2:CS)(ρ:Rho)(p:Bool×Sto):=if p.1=true then c1 ρ p.2 else c2 ρ p.2
def xC:bV t c1 c2 ρ S=(t ρ S).bind (Pu c1 c2 ρ):=rfl
def JJ:Pu c1 c2 ρ (true,S)=c1 ρ S:=rfl
def EK:Pu c1 c2 ρ (false,S)=c2 ρ S:=rfl
def kIf(ca cb:CE)(ρ:Rho)(p:Bool×Sto):=if p.1=true then ca ρ p.2 else cb ρ p.2
def Rp:cIf t ca cb ρ S=(t ρ S).bind (kIf ca cb ρ):=rfl
def NZ:kIf ca cb ρ (true,S)=ca ρ S:=rfl
def NY:kIf ca cb ρ (false,S)=cb ρ S:=rfl
def Pp(i:Nat)(ρ:Rho)(p:U×Sto):Option (Out×Rho×Sto):=some (.nx,ρ.set i (some p.1),p.2)
def xA:bB i ca ρ S=(ca ρ S).bind (Pp i ρ):=rfl
def Jq:Pp i ρ (u,S)=some (.nx,ρ.set i (some u),S):=rfl
def HU(q:Rho×Sto):Option (Out×Rho×Sto):=some (.nx,q.1,q.2)
def QN(g:CG)(ρ:Rho)(p:U×Sto):=(g p.1 ρ p.2).bind HU
def Oq{g:CG}:Ng ca g ρ S=(ca ρ S).bind (QN g ρ):=rfl
def JR{g:CG}:QN g ρ (u,S)=(g u ρ S).bind HU:=rfl
def JQ:HU (ρ,S)=some (.nx,ρ,S):=rfl
def N1:gNm i u ρ S=some (ρ.set i (some u),S):=rfl
def N0{is:List Nat}:gTp is (.tup us) ρ S=(ik is us ρ).bind λρ'=>some (ρ',S):=rfl
def JW:ik [] [] ρ=some ρ:=rfl
def JV{is:List Nat}:ik (i::is) (u::us) ρ=ik is us (ρ.set i (some u)):=rfl
def LS(ρ:Rho)(S':Sto):Option (Out×Rho×Sto):=some (.nx,ρ,S')
def Pq(o v:U)(ρ:Rho)(r:U×Sto):=(ox o r.1 v r.2).bind (LS ρ)
def Pr(ci:CE)(v:U)(ρ:Rho)(q:U×Sto):=(ci ρ q.2).bind (Pq q.1 v ρ)
def kSI(co ci:CE)(ρ:Rho)(p:U×Sto):=(co ρ p.2).bind (Pr ci p.1 ρ)
def Q7:gK ca cb cc ρ S=(cc ρ S).bind (kSI ca cb ρ):=rfl
def Nx:kSI ca cb ρ (u,S)=(ca ρ S).bind (Pr cb u ρ):=rfl
def Nw:Pr cb y ρ (u,S)=(cb ρ S).bind (Pq u y ρ):=rfl
def Nv:Pq x y ρ (u,S)=(ox x u y S).bind (LS ρ):=rfl
def Nu:LS ρ S=some (.nx,ρ,S):=rfl
def kIx(y:U)(S:Sto):Option O->Option (U×Sto)
 | some (.lst us)=>(match y with
   |.int i=>(atI us i).bind λu=>some (u,S)
   |_=>none)
 |some (.dic kus)=>(mO y).bind λk=>(cg kus k).bind λu=>some (u,S)
 |some (.fdc _ kus)=>(mO y).bind λk=>(cg kus k).bind λu=>some (u,S)
 |_=>none
def NQ{j:Int}:fIx (.tup us) (.int j) S=(atI us j).bind λu=>some (u,S):=rfl
theorem JE:fIx (.ref l) y S=kIx y S S[l]?:=by
 unfold fIx kIx;dsimp only<;>(generalize S[l]?=q;rcases q with _|o<;>first|rfl|(cases o<;>rfl))
def JF{j:Int}:kIx (.int j) S (some (.lst us))=(atI us j).bind λu=>some (u,S):=rfl
theorem FP{ep:Nat}{kus:List (Key×U)}:kIx y S (some (.fdc ep kus))=(mO y).bind λk=>(cg kus k).bind λu=>some (u,S):=rfl
def NR{kus:List (Key×U)}:kIx y S (some (.dic kus))=(mO y).bind λk=>(cg kus k).bind λu=>some (u,S):=rfl
def M5(l:Nat)(i v:U)(S:Sto):Option O->Option Sto
 | some (.lst us)=>(match i with
   |.int k=>(ixN us.length k).bind λj=>some (S.set l (.lst (us.set j v)))
   |_=>none)
 |some (.dic kus)=>(mO i).bind λk=>if kus.length<LIM then some (S.set l (.dic (gY kus k v)))else none
 |_=>none
theorem Nt:ox (.ref l) x y S=M5 l x y S S[l]?:=by
 unfold ox M5;dsimp only<;>(generalize S[l]?=q;rcases q with _|o<;>first|rfl|(cases o<;>rfl))
theorem Jn{j:Int}:M5 l (.int j) y S (some (.lst us))=(ixN us.length j).bind λj=>some (S.set l (.lst (us.set j y))):=rfl
theorem Jo{kus:List (Key×U)}:M5 l x y S (some (.dic kus))=(mO x).bind λk=>if kus.length<LIM then some (S.set l (.dic (gY kus k y)))else none:=rfl
def at0{α:Type}{a:α}{r:List α}:atI (a::r) 0=some a:=by show atI _ ((0:Nat):Int)=_;exact oN rfl
def at1{α:Type}{a b:α}{r:List α}:atI (a::b::r) 1=some b:=by show atI _ ((1:Nat):Int)=_;exact oN rfl
def at2{α:Type}{a b c:α}{r:List α}:atI (a::b::c::r) 2=some c:=by show atI _ ((2:Nat):Int)=_;exact oN rfl
def at3{α:Type}{a b c d:α}{r:List α}:atI (a::b::c::d::r) 3=some d:=by show atI _ ((3:Nat):Int)=_;exact oN rfl
def ix0{n:Nat}:ixN (n+1) 0=some 0:=by simp[ixN]
def ix1{n:Nat}:ixN (n+1+1) 1=some 1:=by simp[ixN];omega
def ix2{n:Nat}:ixN (n+1+1+1) 2=some 2:=by simp[ixN];omega
def M9(S:Sto):Option O->Option (U×Sto)
 |some (.lst us)=>some (.int us.length,S)
 |some (.dic us)=>some (.int us.length,S)
 |_=>none
theorem EI:e9 [.ref l] S=M9 S S[l]?:=by
 unfold e9 M9;dsimp only<;>(generalize S[l]?=q;rcases q with _|o<;>first|rfl|(cases o<;>rfl))
def EJ:M9 S (some (.lst us))=some (.int us.length,S):=rfl
def JC{kus:List (Key×U)}:M9 S (some (.dic kus))=some (.int kus.length,S):=rfl
def JB:e9 [.tup us] S=some (.int us.length,S):=rfl
variable{j k:Int}
def Ov:eJ (.int j) (.int k) S=some (.int (j+k),S):=rfl
def Nr:pM (.int j) (.int k) S=some (.int (j-k),S):=rfl
def Ca(h:yC j k):mR (.int j) (.int k) S=some (.int (j*k),S):=by simp[mR,fI,h]
def FT(h:yw j k):D2 (.int j) (.int k) S=some (.int (j / k),S):=by simp[D2,fI,h]
def rY(h:0<k):rB (.int j) (.int k) S=some (.int (j % k),S):=by simp[rB,fI,h]
def NB(h:Ji j k):Jd (.int j) (.int k) S=some (.int (j^k.toNat),S):=by simp[Jd,fI,h]
def Ql:fLt (.int j) (.int k) S=some (.bl (decide (j<k)),S):=rfl
def MV:fLe (.int j) (.int k) S=some (.bl (decide (j<=k)),S):=rfl
def Qm:fGt (.int j) (.int k) S=some (.bl (decide (k<j)),S):=rfl
def Rq:fGe (.int j) (.int k) S=some (.bl (decide (k<=j)),S):=rfl
def N6:fEq (.int j) (.int k) S=some (.bl (decide (j=k)),S):=rfl
def NH:fNe (.int j) (.int k) S=some (.bl (!decide (j=k)),S):=rfl
def N5{a c:Str}:fEq (.str a) (.str c) S=some (.bl (decide (a=c)),S):=rfl
def NG{a c:Str}:fNe (.str a) (.str c) S=some (.bl (!decide (a=c)),S):=rfl
def N7{a c:Bool}:fEq (.bl a) (.bl c) S=some (.bl (decide (a=c)),S):=rfl
def NJ{a c:Bool}:fNe (.bl a) (.bl c) S=some (.bl (!decide (a=c)),S):=rfl
def kFn:Out×Rho×Sto->Option (U×Sto)
 |(.rt u,_,S)=>some (u,S)
 |(.nx,_,S)=>some (.non,S)
 |_=>none
theorem pj{n k:Nat}(h:us.length=k):fnU n k c1 us S=(c1 (iH n us) S).bind kFn:=by
 unfold fnU;rw[Xe h];congr 1;funext p;let⟨o,ρ,S⟩:=p;cases o<;>rfl
def Ea{c:CS}{a0:U}{S:Sto}:fnU 1 1 c [a0] S=(c [some a0] S).bind kFn:=pj rfl
def A8{c:CS}{a0:U}{S:Sto}:fnU 2 1 c [a0] S=(c [some a0,none] S).bind kFn:=pj rfl
def D9{c:CS}{a0 a1:U}{S:Sto}:fnU 2 2 c [a0,a1] S=(c [some a0,some a1] S).bind kFn:=pj rfl
def P5{c:CS}{a0:U}{S:Sto}:fnU 3 1 c [a0] S=(c [some a0,none,none] S).bind kFn:=pj rfl
def P4{c:CS}{a0 a1:U}{S:Sto}:fnU 3 2 c [a0,a1] S=(c [some a0,some a1,none] S).bind kFn:=pj rfl
def vm{c:CS}{a0 a1 a2:U}{S:Sto}:fnU 3 3 c [a0,a1,a2] S=(c [some a0,some a1,some a2] S).bind kFn:=pj rfl
def Iy{c:CS}{a0:U}{S:Sto}:fnU 4 1 c [a0] S=(c [some a0,none,none,none] S).bind kFn:=pj rfl
def Mz{c:CS}{a0 a1 a2:U}{S:Sto}:fnU 4 3 c [a0,a1,a2] S=(c [some a0,some a1,some a2,none] S).bind kFn:=pj rfl
theorem My{c:CS}{a0 a1 a2 a3:U}{S:Sto}:fnU 4 4 c [a0,a1,a2,a3] S=(c [some a0,some a1,some a2,some a3] S).bind kFn:=pj rfl
def P2{c:CS}{a0 a1 a2:U}{S:Sto}:fnU 5 3 c [a0,a1,a2] S=(c [some a0,some a1,some a2,none,none] S).bind kFn:=pj rfl
theorem Iw{c:CS}{a0 a1 a2 a3:U}{S:Sto}:fnU 5 4 c [a0,a1,a2,a3] S=(c [some a0,some a1,some a2,some a3,none] S).bind kFn:=pj rfl
theorem Mx{c:CS}{a0 a1 a2:U}{S:Sto}:fnU 6 3 c [a0,a1,a2] S=(c [some a0,some a1,some a2,none,none,none] S).bind kFn:=pj rfl
theorem P0{c:CS}{a0 a1 a2 a3:U}{S:Sto}:fnU 6 4 c [a0,a1,a2,a3] S=(c [some a0,some a1,some a2,some a3,none,none] S).bind kFn:=pj rfl
theorem Mw{c:CS}{a0 a1 a2:U}{S:Sto}:fnU 7 3 c [a0,a1,a2] S=(c [some a0,some a1,some a2,none,none,none,none] S).bind kFn:=pj rfl
theorem PZ{c:CS}{a0 a1 a2 a3 a4:U}{S:Sto}:fnU 7 5 c [a0,a1,a2,a3,a4] S=(c [some a0,some a1,some a2,some a3,some a4,none,none] S).bind kFn:=pj rfl
theorem Mv{c:CS}{a0 a1:U}{S:Sto}:fnU 8 2 c [a0,a1] S=(c [some a0,some a1,none,none,none,none,none,none] S).bind kFn:=pj rfl
theorem Mu{c:CS}{a0 a1 a2:U}{S:Sto}:fnU 8 3 c [a0,a1,a2] S=(c [some a0,some a1,some a2,none,none,none,none,none] S).bind kFn:=pj rfl
theorem MA{c:CS}{a0 a1 a2 a3:U}{S:Sto}:fnU 11 4 c [a0,a1,a2,a3] S=(c [some a0,some a1,some a2,some a3,none,none,none,none,none,none,none] S).bind kFn:=pj rfl
def N3:kFn (.rt u,ρ,S)=some (u,S):=rfl
def N2:kFn (.nx,ρ,S)=some (.non,S):=rfl
end
section
variable{u:U}{b:Bool}{c:Cl}{g:Fn}
open Classical in
def DQ(c:Cl)(i:Nat)(S:Sto):Option O->Option (U×Sto)
 |some (.ins c' fus)=>if c'=c then(fus[i]?).join.bind λu=>some (u,S)else none
 |_=>none
def Pw(c:Cl)(i:Nat)(p:U×Sto):=Mp c i p.1 p.2
def N4:oX c i ca ρ S=(ca ρ S).bind (Pw c i):=rfl
theorem JL:Pw c i (.ref l,S)=DQ c i S S[l]?:=by
 unfold Pw Mp DQ;dsimp only<;>(generalize S[l]?=q;rcases q with _|o<;>first|rfl|(cases o<;>rfl))
theorem JK:DQ c i S (some (.ins c fus))=((fus[i]?).join).bind λu=>some (u,S):=by
 unfold DQ;dsimp only;rw[Xe rfl]
open Classical in
def M6(c:Cl)(i l:Nat)(v:U)(S:Sto):Option O->Option Sto
 |some (.ins c' fus)=>if c'=c then some (S.set l (.ins c (fus.set i (some v))))else none
 |_=>none
def M7(c:Cl)(i:Nat)(v:U)(ρ:Rho)(q:U×Sto):=(AY c i q.1 v q.2).bind (LS ρ)
def QF(c:Cl)(i:Nat)(ca:CE)(ρ:Rho)(p:U×Sto):=(ca ρ p.2).bind (M7 c i p.1 ρ)
def Q8:kO c i ca cb ρ S=(cb ρ S).bind (QF c i ca ρ):=rfl
def NA:QF c i ca ρ (u,S)=(ca ρ S).bind (M7 c i u ρ):=rfl
theorem Nz:M7 c i u ρ (.ref l,S)=(M6 c i l u S S[l]?).bind (LS ρ):=by
 unfold M7 AY M6;dsimp only<;>(generalize S[l]?=q;rcases q with _|o<;>first|rfl|(cases o<;>rfl))
theorem Ny:M6 c i l u S (some (.ins c fus))=some (S.set l (.ins c (fus.set i (some u)))):=by
 unfold M6;dsimp only;rw[Xe rfl]
def Ay(g:Fn)(l:Nat)(q:List U×Sto):=g (.ref l::q.1) q.2
open Classical in
def wL(c:Cl)(g:Fn)(cr:CA)(ρ:Rho)(l:Nat)(S:Sto):Option O->Option (U×Sto)
 |some (.ins c' _)=>if c'=c then(cr ρ S).bind (Ay g l)else none
 |_=>none
def HS(c:Cl)(g:Fn)(cr:CA)(ρ:Rho)(p:U×Sto):=A0 c g p.1 p.2 (cr ρ)
def Jz:eY c g ca cr ρ S=(ca ρ S).bind (HS c g cr ρ):=rfl
theorem FJ:HS c g cr ρ (.ref l,S)=wL c g cr ρ l S S[l]?:=by
 unfold HS A0 wL;dsimp only<;>(generalize S[l]?=q;rcases q with _|o<;>first|rfl|(cases o<;>rfl))
theorem FI:wL c g cr ρ l S (some (.ins c fus))=(cr ρ S).bind (Ay g l):=by
 unfold wL;dsimp only;rw[Xe rfl]
def FH:Ay g l (us,S)=g (.ref l::us) S:=rfl
def LW(n:Nat):U×Sto->Option (U×Sto)
 |(.non,S)=>some (.ref n,S)
 |_=>none
theorem EG:A1 c g us S=(g (.ref S.length::us) (S++[.ins c (ZO c.ns.length none)])).bind (LW S.length):=by
 unfold A1;congr 1;funext p;let⟨u,S⟩:=p;cases u<;>rfl
def FK:LW i (.non,S)=some (.ref i,S):=rfl
def kIn(neg:Bool)(x:U)(S:Sto):Option O->Option (U×Sto)
 |some (.lst us)=>if gI x=true/\us.all gI=true then some (.bl (if neg then !inU x us else inU x us),S)else none
 |some (.dic kus)=>(mO x).bind λk=>some (.bl (if neg then !(cg kus k).isSome else(cg kus k).isSome),S)
 |some (.fdc _ kus)=>(mO x).bind λk=>some (.bl (if neg then !(cg kus k).isSome else(cg kus k).isSome),S)
 |_=>none
theorem NV{neg:Bool}:fIn neg x (.ref l) S=kIn neg x S S[l]?:=by
 unfold fIn kIn;dsimp only<;>(generalize S[l]?=q;rcases q with _|o<;>first|rfl|(cases o<;>rfl))
theorem NW{neg:Bool}{kus:List (Key×U)}:kIn neg x S (some (.dic kus))=(mO x).bind λk=>some (.bl (if neg then !(cg kus k).isSome else(cg kus k).isSome),S):=rfl
theorem yI{neg:Bool}(h:gI x=true/\us.all gI=true):kIn neg x S (some (.lst us))=some (.bl (if neg then !inU x us else inU x us),S):=by
 unfold kIn;dsimp only;rw[Xe h]
def NP{j:Int}:mO (.int j)=some (.inl j):=rfl
def JD{z:Str}:mO (.str z)=some (.inr z):=rfl
def PF(f:U->List U->Sto->Option (U×Sto))(x:U)(q:List U×Sto):=f x q.1 q.2
def PH(f:U->List U->Sto->Option (U×Sto))(cr:CA)(ρ:Rho)(x:U)(S:Sto):Option O->Option (U×Sto)
 |some (.lst _)=>(cr ρ S).bind (PF f x)
 |_=>none
def kBM(f:U->List U->Sto->Option (U×Sto))(cr:CA)(ρ:Rho):U×Sto->Option (U×Sto)
 |(.ref l,S)=>PH f cr ρ (.ref l) S S[l]?
 |_=>none
variable{fm:U->List U->Sto->Option (U×Sto)}
theorem Rt:cBM fm ca cr ρ S=(ca ρ S).bind (kBM fm cr ρ):=by
 unfold cBM;congr 1;funext p;let⟨u,S⟩:=p;cases u<;>try rfl
def Oo:kBM fm cr ρ (.ref l,S)=PH fm cr ρ (.ref l) S S[l]?:=rfl
def Om:PH fm cr ρ x S (some (.lst us))=(cr ρ S).bind (PF fm x):=rfl
def Ol:PF fm x (us,S)=fm x us S:=rfl
def Na(l:Nat)(u:U)(S:Sto):Option O->Option (U×Sto)
 |some (.lst us)=>if us.length<LIM then some (.non,S.set l (.lst (us++[u])))else none
 |_=>none
theorem Ot:cf (.ref l) [u] S=Na l u S S[l]?:=by
 unfold cf Na;dsimp only<;>(generalize S[l]?=q;rcases q with _|o<;>first|rfl|(cases o<;>rfl))
theorem fR(h:us.length<LIM):Na l u S (some (.lst us))=some (.non,S.set l (.lst (us++[u]))):=by
 unfold Na;dsimp only;rw[Xe h]
def Py(ku xu:U)(S:Sto):Option O->Option (U×Sto)
 |some (.dic kus)=>(mO ku).bind λk=>some ((cg kus k).getD xu,S)
 |_=>none
def Pz(l:Nat)(ku:U)(r:U×Sto):=Py ku r.1 r.2 r.2[l]?
def PB(l:Nat)(cx:CE)(ρ:Rho)(q:U×Sto):=(cx ρ q.2).bind (Pz l q.1)
def PD(l:Nat)(ck cx:CE)(ρ:Rho)(S:Sto):Option O->Option (U×Sto)
 |some (.dic _)=>(ck ρ S).bind (PB l cx ρ)
 |_=>none
def kDG(ck cx:CE)(ρ:Rho):U×Sto->Option (U×Sto)
 |(.ref l,S)=>PD l ck cx ρ S S[l]?
 |_=>none
theorem Rr:ME ca cb cc ρ S=(ca ρ S).bind (kDG cb cc ρ):=by
 unfold ME;congr 1;funext p;let⟨u,S⟩:=p;cases u<;>try rfl
def Od:kDG cb cc ρ (.ref l,S)=PD l cb cc ρ S S[l]?:=rfl
def Oc{kus:List (Key×U)}:PD l cb cc ρ S (some (.dic kus))=(cb ρ S).bind (PB l cc ρ):=rfl
def Oa:PB l cc ρ (u,S)=(cc ρ S).bind (Pz l u):=rfl
def N9:Pz l u (x,S)=Py u x S S[l]?:=rfl
def N8{kus:List (Key×U)}:Py u x S (some (.dic kus))=(mO u).bind λk=>some ((cg kus k).getD x,S):=rfl
def JN:IF ρ S=some (.ref S.length,S++[.dic []]):=rfl
def kP3(k:Key)(u:U)(z:List (Key×U)×Sto):Option (List (Key×U)×Sto):=some ((k,u)::z.1,z.2)
def kP2(r:List (CE×CE))(ρ:Rho)(x:U)(q:U×Sto):=(mO x).bind λk=>(kh r ρ q.2).bind (kP3 k q.1)
def kP1(cv:CE)(r:List (CE×CE))(ρ:Rho)(p:U×Sto):=(cv ρ p.2).bind (kP2 r ρ p.1)
variable{pr:List (CE×CE)}
def Rc:kh [] ρ S=some ([],S):=rfl
def x_p:kh ((ca,cb)::pr) ρ S=(ca ρ S).bind (kP1 cb pr ρ):=rfl
def Rb:kP1 cb pr ρ (u,S)=(cb ρ S).bind (kP2 pr ρ u):=rfl
def Ra:kP2 pr ρ x (u,S)=(mO x).bind λk=>(kh pr ρ S).bind (kP3 k u):=rfl
def Q9{k:Key}{z:List (Key×U)}:kP3 k u (z,S)=some ((k,u)::z,S):=rfl
def kD1(n:Nat)(kus:List (Key×U))(S:Sto):Option O->Option (U×Sto)
 |some (.dic [])=>some (.ref n,S.set n (.dic (pJ kus)))
 |_=>none
def kD(n:Nat)(q:List (Key×U)×Sto):=kD1 n q.1 q.2 q.2[n]?
theorem JO:Bt pr ρ S=(kh pr ρ (S++[.dic []])).bind (kD S.length):=by
 unfold Bt;congr 1
def FV{z:List (Key×U)}:kD i (z,S)=kD1 i z S S[i]?:=rfl
def FU{z:List (Key×U)}:kD1 i z S (some (.dic []))=some (.ref i,S.set i (.dic (pJ z))):=rfl
def Jj:iC [.tup us] S=some (.tup us,S):=rfl
def Po(S:Sto):Option O->Option (U×Sto)
 |some (.lst us)=>some (.tup us,S)
 |_=>none
theorem Jk:iC [.ref l] S=Po S S[l]?:=by
 unfold iC Po;dsimp only<;>(generalize S[l]?=q;rcases q with _|o<;>first|rfl|(cases o<;>rfl))
def Jl:Po S (some (.lst us))=some (.tup us,S):=rfl
def FL:iS [.tup us] S=some (.ref S.length,S++[.lst us]):=rfl
def kLs(S:Sto):Option O->Option (U×Sto)
 |some (.lst us)=>some (.ref S.length,S++[.lst us])
 |_=>none
theorem FN:iS [.ref l] S=kLs S S[l]?:=by
 unfold iS kLs;dsimp only<;>(generalize S[l]?=q;rcases q with _|o<;>first|rfl|(cases o<;>rfl))
def FO:kLs S (some (.lst us))=some (.ref S.length,S++[.lst us]):=rfl
def JI:Mo [.bl b] S=some (.int (if b then 1 else 0),S):=rfl
def ga{X:Sto}{n:Nat}:(S++X)[S.length+n]?=X[n]?:=by rw[Zf (Nat.le_add_right _ _),Nat.add_sub_cancel_left]
def ga0{X:Sto}:(S++X)[S.length]?=X[0]?:=ga (n:=0)
theorem gs{X:Sto}{n:Nat}{o:O}:(S++X).set (S.length+n) o=S++X.set n o:=by rw[List.set_append_right _ _ (Nat.le_add_right _ _),Nat.add_sub_cancel_left]
def gs0{X:Sto}{o:O}:(S++X).set S.length o=S++X.set 0 o:=gs (n:=0)
section
variable{ok:Sto->Prop}{gg:CG}{cbd:CS}{ρ0 ρ1:Rho}{S0 S1:Sto}
def c8(h:ok S):dC ok gg cbd [] ρ S=some (.nx,ρ,S):=by unfold dC;rw[Xe h]
theorem bf(h:ok S)(hg:gg u ρ S=some (ρ0,S0))(hb:cbd ρ0 S0=some (.nx,ρ1,S1)):dC ok gg cbd (u::us) ρ S=dC ok gg cbd us ρ1 S1:=by
 rw[dC];dsimp only;rw[Xe h,hg,Z4];dsimp only;rw[hb,Z4]
theorem uS(h:ok S)(hg:gg u ρ S=some (ρ0,S0))(hb:cbd ρ0 S0=some (.rt x,ρ1,S1)):dC ok gg cbd (u::us) ρ S=some (.rt x,ρ1,S1):=by
 rw[dC];dsimp only;rw[Xe h,hg,Z4];dsimp only;rw[hb,Z4]
theorem qh{n:Nat}(ht:t ρ S=some (true,S0))(hb:cbd ρ S0=some (.nx,ρ1,S1)):dA t cbd (n+1) ρ S=dA t cbd n ρ1 S1:=by
 rw[dA];dsimp only;rw[ht,Z4];dsimp only;rw[Xe rfl,hb,Z4]
theorem Cv{n:Nat}(ht:t ρ S=some (true,S0))(hb:cbd ρ S0=some (.rt x,ρ1,S1)):dA t cbd (n+1) ρ S=some (.rt x,ρ1,S1):=by
 rw[dA];dsimp only;rw[ht,Z4];dsimp only;rw[Xe rfl,hb,Z4]
theorem jY{n:Nat}(ht:t ρ S=some (false,S0)):dA t cbd (n+1) ρ S=some (.nx,ρ,S0):=by
 rw[dA];dsimp only;rw[ht,Z4];dsimp only;rw[Xd 54]
theorem oB{ce:CE}{ys:List U}(h:ok S)(hg:gg u ρ S=some (ρ0,S0))(he:ce ρ0 S0=some (x,S1))(hl:S1[l]?=some (.lst ys))(hn:ys.length<LIM):jO ok gg ce l (u::us) ρ S=jO ok gg ce l us ρ0 (S1.set l (.lst (ys++[x]))):=by
 rw[jO,Xe h,hg,Z4];dsimp only;rw[he,Z4];dsimp only;rw[hl];dsimp only;rw[Xe hn]
def rD{ce:CE}(h:ok S):jO ok gg ce l [] ρ S=some S:=by rw[jO,Xe h]
end
end
def Jf{p:List Z5->Prop}(h:p [])(us:List Z5)(e:us.length=0):p us:=by rw[List.length_eq_zero_iff.mp e];exact h
theorem P8{n:Nat}{p:List Z5->Prop}(h:∀a us,us.length=n->p (a::us))(us:List Z5)(e:us.length=n+1):p us:=by
 cases us with
 |nil=>cases e
 |cons a us=>exact h a us (Nat.succ.inj e)
def Qi(H:Hp)(a:Addr)(ep:Nat)(ks:List Key):Prop:=∃ob es kvs,H a=some (.frz ob (.dK kvs))/\ob.data=.dict es ep/\kvs.map (·.1)=ks
def Itd(a:Addr)(ep:Nat)(ks:List Key):It:=
 ⟨λi H=>i<ks.length/\Qi H a ep ks,λi H x H'=>H'=H/\∃k,ks[i]?=some k/\x=kV k,λi H=>ks.length<=i/\Qi H a ep ks⟩
theorem Fe{P:Zq}{w:Zr}{H:Hp}{h:Heap}{a:Addr}{ob:Obj}{kvs:List (Key×V)}{es:Array DictEntry}{ep:Nat}(ok:HOk P w H h)(e:H a=some (.frz ob (.dK kvs)))(d:ob.data=.dict es ep):∃vs,KV kvs vs/\h.DictAt (cX P w) a vs ep:=by
 let⟨e1,_,_,vs,r,o,es',ep',e2,e3,e4,e_⟩:=(show bU P w H h a (.frz ob (.dK kvs))from ok a _ e);rw[e1]at e2;cases e2;rw[d]at e4;cases e4;exact⟨vs,r,ob,es,e1,e3,d,e_⟩
theorem E7{κ:Type}:∀{kvs:List (κ×V)} {vs:List (κ×Z5)} {i:Nat} {k:κ} {v:V},KV kvs vs->kvs[i]?=some (k,v)->∃u,vs[i]?=some (k,u)
 |_,_,i,k,v,.nil,h=>by simp at h
 |_,_,0,k,v,.cons (b:=(k',u)) r t,h=>by
  simp at h;subst h;have:k=k':=r.1;subst this;exact⟨u,by simp⟩
 |_,_,i+1,k,v,.cons r t,h=>by
  let⟨u,e⟩:=E7 (i:=i) t ‹h›;exact⟨u,by simpa using e⟩
theorem HQ{k:Key}{u:Z5}(h:uX k u=true):cP (kV k) u:=by
 rcases bM h with⟨i,t,rfl,rfl⟩|⟨i,t,rfl,rfl⟩;exact⟨t,rfl⟩;exact⟨t,rfl⟩
theorem y8{P:Zq}{w:Zr}{K:Z3}{tg:ZN}(a it:Addr){ks:List Key}{ep:Nat} :
  IT P w K tg (Itd a ep ks) [it] it (λn h=>h.IsKeyIter it a n ks.length ep) where
 mem:=by simp
 obj:=λn h st c hc=>by
  simp only[ZT,Zv,or_false]at hc;subst hc;let⟨o,e,_,q⟩:=st;exact⟨o,e,λv z=>by rw[q]at z;cases z⟩
 keep:=λn h h' st kp=>Heap.IsKeyIter.at st λo q=>kp it 51 o q
 item:=by
  intro X hP hw hK hc n a_ s σ H E Iv hf st hg;subst hP hw hK;let⟨hi,ob,es,kvs,hq,d,ek⟩:=hg;let⟨vs,rv,da⟩:=Fe Iv.hok hq d;have hl:ks.length=vs.length:=by rw[<-ek,ZQ];exact Paired.length rv
  have hi':n<kvs.length:=by rw[<-ek,ZQ]at hi;exact hi
  have hx:kvs[n]?=some ((kvs[n]).1,(kvs[n]).2):=ZK hi';let⟨u,hu⟩:=E7 rv hx;let⟨f0,f1,f2,f3⟩:=hf it 51;have st':s.heap.IsKeyIter it a n vs.length ep:=by rw[<-hl];exact st
  refine wpAny_pyNext_dict_item st' da hu λkey h1 hk st1 sb=>⟨key,rfl,?_⟩;have I1:Inv X a_ σ H { s with heap:=h1 }:=Iv.turned (t':=s.toks) (λb o hb e=>(sb.2 b hb).trans e) f0 f1 f3.1 f3.2.1 f3.2.2;have st2:h1.IsKeyIter it a (n+1) ks.length ep:=by rw[hl];exact st1
  let⟨o,e,c,q⟩:=id st2;exact AS (s:={ s with heap:=h1 }) e c q 54 ⟨kV (kvs[n]).1,H,I1,HQ hk,⟨rfl,_,by rw[<-ek,Zz,hx];rfl,rfl⟩,st2,λb hb=>(hf b hb).1⟩
 done:=by
  intro X hP hw hK hc n a_ s σ H E Iv hf st hg;subst hP hw hK;let⟨hi,ob,es,kvs,hq,d,ek⟩:=hg;let⟨vs,rv,da⟩:=Fe Iv.hok hq d;have hl:ks.length=vs.length:=by rw[<-ek,ZQ];exact Paired.length rv
  let⟨f0,f1,f2,f3⟩:=hf it 51;have st':s.heap.IsKeyIter it a n vs.length ep:=by rw[<-hl];exact st
  exact wpAny_pyNext_dict_end (Iv.ok.hd hc) st' da (by rw[List.getElem?_eq_none_iff];omega) λh1 eb=>⟨rfl,Iv.turned (t':=s.toks) (λb o hb e=>eb b o hb e) f0 f1 f3.1 f3.2.1 f3.2.2⟩
 self:=λ_ _ _ _ _ st h=>wpAny_pyIter_keyiter st h
theorem mQ{X:Cx}{a_:57}{σ:L2.St}{H:Hp}{s:Z6}{a:Addr}{o u:HO}(I:47)(e:H a=some o)(nt:∀xs,o≠.tup xs)(no:∀x,o≠.own x)(nb:∀ps,o≠.tbl ps)
  (nf:∀ob u,X.H₀ a≠some (.frz ob u)) (new:bU X.prog X.w (upd H a u) s.heap a u):Inv X a_ σ (upd H a u) s:=by
 have nn:∀b,H b=none->upd H a u b=none:=λb q=>by rw[aD (Ne.symm (cQ e q))];exact q
 have ho:∀b x,H b=some (.own x)->upd H a u b=some (.own x):=λb x q=>by
  rw[aD];exact q;intro z;subst z;rw[e]at q;cases q;exact no _ rfl
 have ht:∀b xs,H b=some (.tup xs)->upd H a u b=some (.tup xs):=λb x q=>by
  rw[aD];exact q;intro z;subst z;rw[e]at q;cases q;exact nt _ rfl
 refine⟨I.ok,I.os,I.bare,⟨I.base.keep,I.base.slot,λb ob q1 q2 q3=>nn _ (I.base.free b ob q1 q2 q3),I.base.there,λb xs q=>ht _ _ (I.base.tups b xs q),λb ob v q=>?_,λb ps q=>?_⟩,I.loc,I.cell,nn _ I.free,λx c q=>nn _ (I.freeC x c q),λp hp=>?_,λb v q=>?_,I.len⟩;rw[aD];exact I.base.frzs b ob v q;intro z;subst z;exact nf _ _ q;let⟨x_,q'⟩:=I.base.tbls b ps q;refine⟨x_,?_⟩;rw[aD];exact q';intro z;subst z;rw[e]at q';cases q';exact nb _ rfl;let⟨p1,p2,p3⟩:=I.pin p hp;exact⟨p1,nn _ p2,p3⟩;by_cases hb:b=a;subst hb;rw[ax]at q;cases q;exact new;rw[aD hb]at q;exact(I.hok b v q).stay (λ_ _ _ g=>g) (λc g=>ho c b g) λc xs g=>ht c xs g
def rT(X:Cx)(a:Addr):Prop:=∀ob u,X.H₀ a≠some (.frz ob u)
def Mf(X:Cx)(tl:TE):TI:=λσ H R=>tl σ H λx H1=>∃a kvs,x=.ref a/\H1 a=some (.dK kvs)/\∀ob es ep,rT X a->ob.data=.dict es ep->R (Itd a ep (kvs.map (·.1))) (upd H1 a (.frz ob (.dK kvs)))
theorem Gj{X:Cx}{tg l:ZN}{tl:TE}(hl:WE X l tl):WI X tg l (Mf X tl):=by
 constructor;intro a_ s σ H R I h;refine thn (hl.h a_ s σ H _ I h) λv s1 hz=>?_;let⟨x,H1,I1,r1,q1⟩:=hz;let⟨a,kvs,rfl,hq,q⟩:=q1;cases r1;let⟨hz,hs,vs,rv,ob,es,ep,e1,e2,e3,e_⟩:=Ec I1.hok hq;have da:s1.heap.DictAt (cX X.prog X.w) a vs ep:=⟨ob,es,e1,e2,e3,e_⟩;have hl:kvs.length=vs.length:=Paired.length rv;have nf:rT X a:=λob' u' z=>by have:=I1.base.frzs a ob' u' z;rw[hq]at this;cases this
 have I2:Inv X a_ σ (upd H1 a (.frz ob (.dK kvs))) s1:=mQ I1 hq 51 51 51 nf ⟨e1,hz,hs,vs,rv,ob,es,ep,e1,e2,e3,e_⟩;refine wpAny_pyIter_dict hs da ?_;refine⟨s1.heap.objs.size,[s1.heap.objs.size],_,_,_,rfl,I2.kept (t':=s1.toks) λb o g=>Z7 _ g,y8 a _,⟨_,ZG _ rfl,rfl,by rw[ZQ,hl];rfl⟩,λb hb=>?_,q ob es ep nf e3⟩;simp only[ZT,Zv,or_false]at hb;subst hb;exact I2.fpOk (ZW _) (I2.hok.fresh (ZW _))
def MQ(X:Cx)(D:yB):yB where
 nx:=λσ H=>∃a ob kvs,rT X a/\H a=some (.frz ob (.dK kvs))/\D.nx σ (upd H a (.dK kvs))
 rt:=λv H=>∃a ob kvs,rT X a/\H a=some (.frz ob (.dK kvs))/\D.rt v (upd H a (.dK kvs))
 bk:=λσ H=>∃a ob kvs,rT X a/\H a=some (.frz ob (.dK kvs))/\D.bk σ (upd H a (.dK kvs))
 ct:=λσ H=>∃a ob kvs,rT X a/\H a=some (.frz ob (.dK kvs))/\D.ct σ (upd H a (.dK kvs))
theorem mP{X:Cx}{a_:57}{σ:L2.St}{H:Hp}{s:Z6}{a:Addr}{ob:Obj}{kvs:List (Key×V)}(I:47)(nf:rT X a)(e:H a=some (.frz ob (.dK kvs))):Inv X a_ σ (upd H a (.dK kvs)) s:=
 mQ I e 51 51 51 nf (show bU X.prog X.w H s.heap a (.frz ob (.dK kvs))from I.hok a _ e).2
theorem FY{X:Cx}{st:Zn}{t:TS}(h:WS X st t):WS X st (λD σ H=>t (MQ X D) σ H):=by
 constructor;intro a_ s σ H D I k;refine thn (h.h a_ s σ H _ I k) λf s1 q=>?_;cases f with
 |next=>let⟨σ1,H1,I1,a,ob,kvs,nf,e,r⟩:=q;exact⟨σ1,_,mP I1 nf e,r⟩
 |brk=>let⟨σ1,H1,I1,a,ob,kvs,nf,e,r⟩:=q;exact⟨σ1,_,mP I1 nf e,r⟩
 |cont=>let⟨σ1,H1,I1,a,ob,kvs,nf,e,r⟩:=q;exact⟨σ1,_,mP I1 nf e,r⟩
 |ret u=>let⟨v,σ1,H1,I1,rv,a,ob,kvs,nf,e,r⟩:=q;exact⟨v,σ1,_,mP I1 nf e,rv,r⟩
def kU:Key->U
 |.inl i=>.int i
 |.inr x=>.str x
theorem L8{K:Z3}{m:List Addr}{H:Hp}(k:Key):Is K m H (kV k) (kU k):=by
 cases k with
 |inl i=>exact .int_
 |inr x=>exact .str_
open Classical in
def uni{α:Type}(F:Nat->Option α):Option α:=if h:∃r,∀n,F n=some r then some h.choose else none
theorem vZ{α:Type}{F:Nat->Option α}{r:α}(h:∀n,F n=some r):uni F=some r:=by
 have hx:∃r,∀n,F n=some r:=⟨r,h⟩;unfold uni;rw[dif_pos hx];have:=hx.choose_spec 0;rw[h 0]at this;exact this.symm
theorem qj{α:Type}{F:Nat->Option α}{r:α}(h:uni F=some r)(n:Nat):F n=some r:=by
 unfold uni at h;split at h;rename_i hx;cases h;exact hx.choose_spec n;cases h
def Bs(ce:CE)(g:CG)(cb:CS):CS:=λρ S=>(ce ρ S).bind λp=>match p.1 with
 |.ref l=>match p.2[l]? with
  |some (.dic kus)=>uni λep=>(dC (λS'=>S'[l]?=some (.fdc ep kus)) g cb (kus.map λq=>kU q.1) ρ (p.2.set l (.fdc ep kus))).bind λr=>match r.2.2[l]? with
   |some (.fdc _ v_)=>some (r.1,r.2.1,r.2.2.set l (.dic v_))
   |_=>none
  |_=>none
 |_=>none
theorem HY{K:Z3}{m:List Addr}{H:Hp}{a:Addr}{l ep:Nat}{kus:List (Key×U)}(ha:m[l]?=some a):BV K (Itd a ep (kus.map (·.1))) m H (kus.map λq=>kU q.1) (λS'=>S'[l]?=some (.fdc ep kus)):=by
 intro m2 S2 H2 i e sr hok;let⟨a',ha',ob,es,kvs,hx,hd,ip⟩:=sr.get hok;have ha2:=e.get ha;rw[ha2]at ha';cases ha';have hz:Qi H2 a ep (kus.map (·.1)):=⟨ob,es,kvs,hx,hd,ip.1⟩;refine⟨λu hu=>?_,λhu=>⟨by simpa using hu,hz⟩⟩;have hi:i<kus.length:=by have:=(Z9.mp hu).1;simpa using this
 refine⟨⟨by simpa using hi,hz⟩,?_⟩;rintro x H3 ⟨rfl,k,hk,rfl⟩;refine⟨.refl,sr,?_⟩;rw[Zz]at hk hu;rw[ZK hi]at hk hu;cases hk;cases hu;exact L8 _
theorem DZ{X:Cx}{ce:CE}{g:CG}{cb:CS}:∀D σ H,tS X.K (Bs ce g cb) D σ H->Kg (Mf X (tE X.K ce)) (tG X.K g) (tS X.K cb) (MQ X D) σ H:=by
 rintro D σ H ⟨m,ρ,S,o,ρ',S',sr,lr,hc,post⟩;let⟨⟨x,S1⟩,h1,h⟩:=Z0.mp hc;refine⟨m,ρ,S,x,S1,sr,lr,h1,λm1 v1 H1 e1 sr1 i1=>?_⟩;cases x with
 |ref l=>
  simp only at h;split at h<;>try cases h
  rename_i kus hS;let⟨a,ha,rfl⟩:=i1.of_ref;let⟨a',ha',kvs,hx,ip⟩:=sr1.get hS;rw[ha]at ha';cases ha';refine⟨a,kvs,rfl,hx,λob es ep nf hd=>?_⟩;let⟨⟨o1,ρ1,S2⟩,h2,h3⟩:=Z0.mp (qj h ep);simp only at h3;split at h3<;>try cases h3
  rename_i ep' v_ hS2;have kp:yz X.K H1 (upd H1 a (.frz ob (.dK kvs))):=sr1.keep ha _;have ee:Ext X.K m1 H1 m1 (upd H1 a (.frz ob (.dK kvs))):=.of kp;have sr2:Sr X.K m1 (S1.set l (.fdc ep kus)) (upd H1 a (.frz ob (.dK kvs))):=sr1.put ha ⟨ob,es,kvs,ax,hd,ip.mono ee⟩;rw[ip.1];refine qR sr2 (lr.mono (e1.trans ee)) (HY ha) h2 ?_;have back:∀m3 H3,Ext X.K m1 (upd H1 a (.frz ob (.dK kvs))) m3 H3->Sr X.K m3 S2 H3->∃ob' H_,H3 a=some (.frz ob' (.dK H_))/\Ext X.K m3 H3 m3 (upd H3 a (.dK H_))/\Sr X.K m3 (S2.set l (.dic v_)) (upd H3 a (.dK H_)):=λm3 H3 e3 sr3=>by
   let⟨a3,ha3,ob3,es3,kvs3,hx3,hd3,ip3⟩:=sr3.get hS2;rw[e3.get ha]at ha3;cases ha3;have e4:Ext X.K m3 H3 m3 (upd H3 a (.dK kvs3)):=.of (sr3.keep (e3.get ha) _);exact⟨ob3,kvs3,hx3,e4,sr3.put (e3.get ha) ⟨kvs3,ax,ip3.mono e4⟩⟩
  have nxt:∀(R:L2.St->Hp->Prop),gO X.K m H R ρ' (S2.set l (.dic v_))->gO X.K m1 (upd H1 a (.frz ob (.dK kvs))) (λσ H=>∃a ob kvs,rT X a/\H a=some (.frz ob (.dK kvs))/\R σ (upd H a (.dK kvs))) ρ' S2:=λR p m3 σ3 H3 e3 sr3 lr3=>by
   let⟨ob3,kvs3,hx3,e4,sr4⟩:=back m3 H3 e3 sr3;exact⟨a,ob3,kvs3,nf,hx3,p m3 σ3 _ (((e1.trans ee).trans e3).trans e4) sr4 (lr3.mono e4)⟩
  cases o with
  |nx=>exact nxt _ post
  |bk=>exact nxt _ post
  |ct=>exact nxt _ post
  | rt v=>
    intro m3 v3 H3 e3 sr3 i3;let⟨ob3,kvs3,hx3,e4,sr4⟩:=back m3 H3 e3 sr3;exact⟨a,ob3,kvs3,nf,hx3,post m3 v3 _ (((e1.trans ee).trans e3).trans e4) sr4 (i3.mono e4)⟩
 |_=>cases h
theorem GP{X:Cx}{tg iter:ZN}{body:List Zn}{ce:CE}{g:CG}{cb:CS}{pos:Pos}(hp:PassesOwn 49 X.A X.env X.xe)(hc:X.calm=true)(hi:QE X iter ce)(hg:QG X tg g)(hb:QSs X body cb)(hs:∀x,foldedSetIterable iter X.env x=pure x:=by intro _;rfl):QS X (.For tg iter body [] pos) (Bs ce g cb):=
 (FY (uu hp hc (Gj hi) hg hb hs)).imp DZ
end OP
namespace OG
open PySem PySem.Spec PyProof.Rows L2
def qp(wi:TI)(g:TG)(tt:TT)(te:TE)(n:Nat)(caps:List Nat):TE:=λσ H Q=>wi σ H λJ H1=>∀l,H1 l=none->∃W:Nat->Nat->L2.St->Hp->Prop,(∃m,W 0 m (stC n caps σ) (upd H1 l (.lst [])))/\
 ∀i m σ' H2,W i m σ' H2->(J.stop i H2/\Q (.ref l) H2)\/(J.go i H2/\∃N:L2.St->Hp->Prop,(∀σ'' H',N σ'' H'->∃m',m'<m/\W (i+1) m' σ'' H')/\
  ∀x H3,J.yld i H2 x H3->g x σ' H3 λσ2 H4=>tt σ2 H4 λb H5=>match b with
   |true=>te σ2 H5 λv H6=>∃ys,H6 l=some (.lst ys)/\ys.length<ZC/\N σ2 (upd H6 l (.lst (ys++[v])))
   |false=>N σ2 H5)
theorem pf{prog:Zq}{w:Zr}{A:Ze}{R:Result->Z6->Prop}{s:Z6}{elt r_ iter c:ZN}{scope:XA}{pos:Pos}{it acc:Z5}{env:Env}(I:Nat->Z6->Prop)
  (E_:∀n s,I n s->wpAny 69 A (pyNext it) (λr s₁=>match r with
   |none=>R (.ok .next) s₁
   |some v=>wpAny 69 A (letOwnedTupleGo r_ it v) (λ_ s₁'=>wpAny 69 A (assign r_ env v) (λ_ s₂=>wpAny 69 A (PySem.isTrue c env (eval c env)) (λb s₂'=>match b with
    |true=>wpAny 69 A (eval elt env) (λx s₃=>
     wpAny 69 A (call (.builtin "list.append") [acc,x]) (λ_ s₄=>∃m,m<n/\I m s₄) (λ_ _=>False) s₃)
     (λ_ _=>False) s₂'
    |false=>∃m,m<n/\I m s₂') (λ_ _=>False) s₂) (λ_ _=>False) s₁') (λ_ _=>False) s₁) (λ_ _=>False) s)
  (n:Nat) (h:I n s) :
  codeAny 69 A (.compLoop (.ListComp elt [⟨r_,iter,[c],0⟩] scope pos) 0 it acc env) R s:=by
 refine codeAny_loop rfl I (λn s hI=>?_) n h;show wpAny _ _ ((compTurn (.ListComp elt [⟨r_,iter,[c],0⟩] scope pos) 0 it acc env).onRaise (λx=>do noteFrame x env;theTreesLotGoes x)) _ _ s;refine wpAny_noted ?_;rw[compTurn_list];refine Z2 (wpAny_standAt (Z2 (XZ (E_ n s hI) (λr s₁ h₁=>?_) λ_ _ h'=>h'.elim)));cases r with
 |none=>exact Z8 h₁
 |some v=>
  refine Z2 (XZ h₁ (λ_ s₁' h₁'=>?_) λ_ _ h'=>h'.elim);refine Z2 (XZ h₁' (λ_ s₂ h₂=>?_) λ_ _ h'=>h'.elim);dsimp only;simp only[List.forIn_cons,List.forIn_nil,if_true,bind_assoc,pure_bind];refine Z2 (XZ h₂ (λb s₂' h₂'=>?_) λ_ _ h'=>h'.elim);cases b with
  |true=>
   rw[Xe rfl];exact Z2 (XZ h₂' (λx s₃ h₃=>Z2 (XZ h₃
    (λ_ s₄ h₄=>Z8 ⟨rfl,h₄⟩) λ_ _ h'=>h'.elim)) λ_ _ h'=>h'.elim)
  |false=>
   rw[Xd ZF];exact Z8 ⟨rfl,h₂'⟩
theorem pS{X:Cx}{Nc capN tn:List Str}{scope:XA}{cl:List (Str×Addr)}{n:Nat}{caps:List Nat}{tg iter elt:ZN}{pos:Pos}{wi:TI}{g:TG}{te:TE}{tt:TT}{c:ZN}
  (hc:X.calm=true) (hi:WI X tg iter wi) (hg:∀s3 H3 fp,WG 58 tg g) (he:∀s3 H3 fp,WE 58 elt te)
  (ht:∀s3 H3 fp,WT 58 c tt)
  (t_:closureFor scope X.env=pure cl) (i_:scope.kind=.function) (hnl:∀x∈scope.names,x.2=.local->scope.names.lookup x.1=some .local) (k_:∀x∈scope.names,x.2≠.cell)
  (hcl:xy X.env cl) (w_:((relabel scope X.env).names.all λp=>!(p.2 == .cell||p.2 == .free)||(cl.lookup p.1).isSome)=true)
  (s_:Paired (Cap X scope cl) caps capN) (hN:Nc=tn++capN) (hn:tn.length=n)
  {use:Option (Z5->Sem Unit)} {a_:57} {σ:L2.St} {H:Hp} {s:Z6} {Q:VK} {Qf:Z5->Z6->Prop} (I:47) (h:qp wi g tt te n caps σ H Q)
  (R_:∀(D C:Addr) (s6:Z6) (H5:Hp) (m:79),Inv X a_ σ H5 s6->s6.heap.Ns C m->H5 C=none->C≠X.env.locals->X.s₀.heap.objs.size<=C->(∀x c,X.env.cells.lookup x=some c->c≠C)->(∀p∈X.pn++a_,p.1≠C)->Q (.ref D) H5->compPost 49 X.A X.xe use Qf (.ref D) C (.ok .next) s6)
  (hs:∀x,foldedSetIterable iter X.env x=pure x) :
  wpAny 49 X.A (comprehension 73 scope X.env (firstIterPos [⟨tg,iter,[c],0⟩] pos) (newList []) (firstAsync [⟨tg,iter,[c],0⟩]) (firstIter [⟨tg,iter,[c],0⟩] X.env) use) Qf X.xe s:=by
 refine wpAny_comprehension_free (use:=use) (g:=⟨tg,iter,[c],0⟩) (gs:=[]) rfl hs t_ i_ hnl (thn (hi.h a_ s σ H _ I h) λv s1 h1=>thn h1 λitv s2 h2=>?_);let⟨it,fp,tnn,J,H2,rfl,I2,T,st2,f2,hW⟩:=h2;have hD:=I2.fresh;let⟨W,⟨m0,w0⟩,E_⟩:=hW _ hD;refine wpAny_newObj_type (wpAny_newFunctionEnv k_ (by intro y hy;simp at hy) (λh₁ O_ N_=>?_) i_);dsimp only at O_ N_ ⊢;have I3:Inv X a_ σ (upd H2 s2.heap.objs.size (.lst [])) { s2 with heap:=s2.heap.push { cls:=.type "list",dict:=none,data:=.seq ([]:List Z5).toArray },toks:=s2.toks }:=I2.lnew (its:=[]) .nil (X5 _);generalize hs3:({ s2 with heap:=s2.heap.push { cls:=.type "list",dict:=none,data:=.seq ([]:List Z5).toArray },toks:=s2.toks }:Z6)=s3 at I3;have es3:s3.heap=s2.heap.push { cls:=.type "list",dict:=none,data:=.seq ([]:List Z5).toArray }:=by rw[<-hs3]
 generalize hDD:s2.heap.objs.size=D at *;have kept:∀b o,s3.heap.get? b=some o->h₁.get? b=some o:=λb o e=>by
  have lt:=ZH e;rw[es3]at lt e;exact N_.extBut b o (ZL lt) (Z7 _ e)
 have old:∀b o,s2.heap.get? b=some o->s3.heap.get? b=some o:=λb o e=>by rw[es3];exact Z7 _ e
 have ltD:∀b∈fp,b<D:=λb hb=>by
  let⟨o,e,_⟩:=T.obj 0 _ st2 b hb;rw[<-hDD];exact ZH e
 have fo:∀b∈fp,b<s3.heap.objs.size:=λb hb=>by
  let⟨o,e,_⟩:=T.obj 0 _ st2 b hb;exact ZH (old _ _ e)
 have f3:∀b∈fp,yA X a_ (upd H2 D (.lst [])) b:=λb hb=>by
  refine⟨?_,(f2 b hb).2⟩;rw[aD (ZL (ltD b hb))];exact(f2 b hb).1
 rw[<-es3]at O_ N_ ⊢;have Ic:=λt'=>Inv.comp (h1:=h₁) (t':=t') (Nc:=Nc) (n:=n) I3 hc f3 fo i_ hcl w_ s_ tn hN hn O_ kept;have stat:∀{H':Hp},(∀b∈fp,H' b=none)->∀b∈fp,yA 70 [] H' b:=λhn' b hb=>by
  refine⟨hn' b hb,ZL (fo b hb),λz=>?_,.inl hb,λx c e=>(f2 b hb).2.2.2.2.1 x c (hcl.look e),λp hp=>by simp at hp⟩;rcases ZT.mp (I3.stkSub b z)with q|q;exact(f2 b hb).2.1 q;exact(f2 b hb).2.2.1 q
 have loop:∀s4:Z6,(∃t',s4={ s3 with heap:=h₁,toks:=t' })->codeAny 49 X.A (.compLoop 73 0 (.ref it) (.ref D) (compEnvC scope cl s3.heap.objs.size X.env))
   (compPost 49 X.A X.xe use Qf (.ref D) s3.heap.objs.size) s4:=by
  rintro s4 ⟨t',rfl⟩;refine pf (λn' s'=>∃i σ' H',Inv 70 [] σ' H' s'/\tnn i s'.heap/\(∀b∈fp,H' b=none)/\W i n' σ' H') ?_ m0
   ⟨0,_,_,Ic t',T.keep 0 _ _ st2 λb hb o e=>kept _ _ (old _ _ e),λb hb=>(f3 b hb).1,w0⟩
  rintro n' s5 ⟨i,σ5,H5,I5,st5,fr5,w5⟩;rcases E_ i n' σ5 H5 w5 with⟨stop,qn⟩|⟨go,N,hN',step⟩;refine thn (T.done 70 rfl rfl rfl hc i [] s5 σ5 H5 (λ_ _=>False) I5 (stat fr5) st5 stop) λr s6 ⟨hr,I6⟩=>?_;subst hr;let⟨m,hm,_⟩:=I6.loc;have I7:Inv X a_ σ H5 s6:=Inv.call' (ch:=fp) I3 I6.os I6.base I6.hok I6.bare λb hb=>⟨(f2 b hb).2.2.2.1,(f2 b hb).2.1,(f2 b hb).2.2.2.2.1,(f2 b hb).2.2.2.2.2⟩;exact R_ D _ s6 H5 m I7 hm I6.free (Ne.symm (ZL I3.lt)) I3.sz (λx c e=>by
    let⟨v',o,ho,_⟩:=I3.cell x c e;exact ZL (ZH ho)) (λp hp=>ZL (ZH (I3.pin p hp).1)) qn
  refine thn (T.item 70 rfl rfl rfl hc i [] s5 σ5 H5 (λ_ _=>False) I5 (stat fr5) st5 go) λr s6 ⟨u,hr,h6⟩=>?_;subst hr;refine thn h6 λ_ s7 hz=>?_;let⟨x,H7,I7,r7,y7,st7,fr7⟩:=hz;have I7':=I7.pinned (stat fr7) (T.obj _ _ st7);refine thn ((hg s3 (upd H2 D (.lst [])) fp).h _ s7 σ5 H7 x u _ I7' r7 (step x H7 y7)) λ_ s8 hz=>?_;let⟨σ8,H8,I8,q8⟩:=hz;have fin:∀{s10:Z6} {H10:Hp},Inv 70 _ σ8 H10 s10->N σ8 H10->∃m',m'<n'/\∃i' σ' H',Inv 70 [] σ' H' s10/\tnn i' s10.heap/\(∀b∈fp,H' b=none)/\W i' m' σ' H':=λ{s10 H10} I10 q10=>by
   let⟨m',hm,w10⟩:=hN' σ8 H10 q10;refine⟨m',hm,i+1,σ8,H10,Inv.unpinned I10,T.keep _ _ _ st7 λb hb o e=>(Inv.pin I10 (b,o) (Zg _ (Zg _ (fq hb e)))).1,λb hb=>?_,w10⟩;let⟨o,e,d⟩:=T.obj _ _ st7 b hb;exact(Inv.pin I10 (b,o) (Zg _ (Zg _ (fq hb e)))).2.1
  refine thn ((ht s3 (upd H2 D (.lst [])) fp).h _ s8 σ8 H8 _ I8 q8) λb9 s9' h9=>?_;let⟨H9',I9',q9'⟩:=h9;cases b9 with
  |false=>exact fin I9' q9'
  |true=>
   refine thn ((he s3 (upd H2 D (.lst [])) fp).h _ s9' σ8 H9' _ I9' q9') λv9 s9 hz=>?_;let⟨x9,H9,I9,r9,ys,hy,hlt,q9⟩:=hz;exact thn (nZ (X:=cxC X Nc scope cl s3 (upd H2 D (.lst [])) fp) _ s9 σ8 H9 (.ref D) [x9] (.ref D) [v9] (λ_ H'=>N σ8 H') I9 rfl (.cons r9 .nil) ⟨D,ys,x9,rfl,rfl,hy,hlt,q9⟩) λ_ s10 ⟨_,H10,I10,_,q10⟩=>fin I10 q10
 have e4:∀t',({ s2 with heap:=h₁,toks:=t' }:Z6)={ s3 with heap:=h₁,toks:=t' }:=λt'=>by rw[<-hs3]
 refine codeAny_compStart_list (loop _ ⟨_,e4 _⟩) (T.self _ 0 _ _ _ (T.keep 0 _ _ st2 λb hb o e=>kept _ _ (old _ _ e)) (loop _ ⟨_,e4 _⟩))
theorem xE{X:Cx}{Nc capN tn:List Str}{scope:XA}{cl:List (Str×Addr)}{n:Nat}{caps:List Nat}{tg iter elt:ZN}{pos:Pos}{wi:TI}{g:TG}{te:TE}{tt:TT}{c:ZN}
  (hc:X.calm=true) (hi:WI X tg iter wi) (hg:∀s3 H3 fp,WG 58 tg g) (he:∀s3 H3 fp,WE 58 elt te)
  (ht:∀s3 H3 fp,WT 58 c tt)
  (t_:closureFor scope X.env=pure cl) (i_:scope.kind=.function) (hnl:∀x∈scope.names,x.2=.local->scope.names.lookup x.1=some .local) (k_:∀x∈scope.names,x.2≠.cell)
  (hcl:xy X.env cl) (w_:((relabel scope X.env).names.all λp=>!(p.2 == .cell||p.2 == .free)||(cl.lookup p.1).isSome)=true)
  (s_:Paired (Cap X scope cl) caps capN) (hN:Nc=tn++capN) (hn:tn.length=n)
  (hs:∀x,foldedSetIterable iter X.env x=pure x:=by intro _;rfl) :
  WE X 73 (qp wi g tt te n caps):=by
 constructor;intro a_ s σ H Q I h;rw[eval_ListComp];refine pS hc hi hg he ht t_ i_ hnl k_ hcl w_ s_ hN hn I h (λD C s6 H5 m I7 hm fr nl sz cn pn qn=>⟨m,hm,λh' hs'=>?_⟩) hs;exact⟨.ref D,H5,I7.turned (t':=s6.toks) (it:=C) (λb o hb e=>hs'.extBut b o hb e) fr nl (.inr sz) cn pn,rfl,qn⟩
end OG
namespace OP
open PySem PySem.Spec PyProof.Rows L2 OG
open Classical in
def cT(ok:Sto->Prop)(g:CG)(ct:CT)(ce:CE)(l:Nat):List U->Rho->Sto->Option Sto
 |[],_,S=>if ok S then some S else none
 |u::us,ρ,S=>if ok S then(g u ρ S).bind λp=>(ct p.1 p.2).bind λq=>if q.1=true then(ce p.1 q.2).bind λr=>match r.2[l]? with
  |some (.lst ys)=>if ys.length<LIM then cT ok g ct ce l us p.1 (r.2.set l (.lst (ys++[r.1])))else none
  |_=>none else cT ok g ct ce l us p.1 q.2 else none
def du(ci:CI)(g:CG)(ct:CT)(ce:CE)(n:Nat)(caps:List Nat):CE:=λρ S=>(ci ρ S).bind λp=>(cT p.2.1 g ct ce p.2.2.length p.1 (qA n caps ρ) (p.2.2++[.lst []])).bind λS'=>some (.ref p.2.2.length,S')
section
variable{X:Cx}{K:Z3}
theorem vx{g:CG}{ct:CT}{ce:CE}{n:Nat}{caps:List Nat}{J:It}{us:List U}{ok:Sto->Prop}{Q:VK}{m1:List Addr}{H1:Hp}{S1 S':Sto}{ρ:Rho}{σ:L2.St}{l:Addr}(sr1:Sr K m1 S1 H1)(lr:Lr K m1 H1 ρ σ)(ito:BV K J m1 H1 us ok)(hl:H1 l=none)(h2:cT ok g ct ce S1.length us (qA n caps ρ) (S1++[.lst []])=some S')
  (post:∀m2 H2,Ext K (m1++[l]) (upd H1 l (.lst [])) m2 H2->Sr K m2 S' H2->Q (.ref l) H2) :
  ∃W:Nat->Nat->L2.St->Hp->Prop,(∃m,W 0 m (OG.stC n caps σ) (upd H1 l (.lst [])))/\
 ∀i m σ' H2,W i m σ' H2->(J.stop i H2/\Q (.ref l) H2)\/(J.go i H2/\∃N:L2.St->Hp->Prop,(∀σ'' H',N σ'' H'->∃m',m'<m/\W (i+1) m' σ'' H')/\
  ∀x H3,J.yld i H2 x H3->tG K g x σ' H3 λσ2 H4=>tT K ct σ2 H4 λb H5=>match b with
   |true=>tE K ce σ2 H5 λv H6=>∃ys,H6 l=some (.lst ys)/\ys.length<ZC/\N σ2 (upd H6 l (.lst (ys++[v])))
   |false=>N σ2 H5):=by
 have ee:Ext K m1 H1 (m1++[l]) (upd H1 l (.lst [])):=.new (bu hl _);let W:Nat->Nat->L2.St->Hp->Prop:=λi k σ2 H2=>k=us.length-i/\i<=us.length/\∃m2 ρ2 S2,Ext K (m1++[l]) (upd H1 l (.lst [])) m2 H2/\Sr K m2 S2 H2/\Lr K m2 H2 ρ2 σ2/\cT ok g ct ce S1.length (us.drop i) ρ2 S2=some S'
 refine⟨W,⟨us.length,by simp,X5 _,m1++[l],qA n caps ρ,S1++[.lst []],.refl,sr1.new (o:=.lst []) hl ⟨[],ax,.nil_⟩,Aj (lr.mono ee),by simpa using h2⟩,?_⟩;rintro i k σ2 H2 ⟨rfl,hi,m2,ρ2,S2,e2,sr2,lr2,hl2⟩;by_cases hlt:i<us.length
 ·have hu:=ZK hlt;rw[kL hu]at hl2;unfold cT at hl2;split at hl2
  ·rename_i hok;let⟨⟨ρ3,S3⟩,h3,hl2⟩:=Z0.mp hl2;let⟨⟨b4,S4⟩,h4,hl2⟩:=Z0.mp hl2;let⟨hgo,hy⟩:=(ito m2 S2 H2 i (ee.trans e2) sr2 hok).1 _ hu;refine .inr ⟨hgo,W (i+1) (us.length-(i+1)),λσ' H' w'=>⟨_,by omega,w'⟩,λx H3 y=>?_⟩;let⟨e3,sr3,ix⟩:=hy x H3 y;refine⟨m2,ρ2,S2,_,ρ3,S3,sr3,lr2.mono e3,ix,h3,λm4 σ4 H4 e4 sr4 lr4=>⟨m4,ρ3,S3,b4,S4,sr4,lr4,h4,λm4' H4' e4' Se=>?_⟩⟩;cases b4 with
   |false=>
    rw[Xd ZF]at hl2;exact⟨rfl,hlt,m4',ρ3,_,(((e2.trans e3).trans e4).trans e4'),Se,lr4.mono e4',hl2⟩
   |true=>
    rw[Xe rfl]at hl2;let⟨⟨u5,S5⟩,h5,hl2⟩:=Z0.mp hl2;simp only at hl2;split at hl2<;>try cases hl2
    rename_i ys hys;split at hl2<;>try cases hl2
    rename_i h_;refine⟨m4',ρ3,S4,u5,S5,Se,lr4.mono e4',h5,λm5 v5 H5 e5 sr5 i5=>?_⟩;let⟨a',ha',xs,hx,il⟩:=sr5.get hys;have ha:m5[S1.length]?=some l:=((((e2.trans e3).trans e4).trans e4').trans e5).get (cI sr1.len);rw[ha]at ha';cases ha';have eu:Ext K m5 H5 m5 (upd H5 l (.lst (xs++[v5]))):=.of (sr5.keep ha _);exact⟨xs,hx,LG (by rw[il.length];exact h_),rfl,hlt,m5,ρ3,_,(((((e2.trans e3).trans e4).trans e4').trans e5).trans eu),sr5.put (o:=.lst (ys++[u5])) ha ⟨_,ax,(il.append (.cons_ i5 .nil_)).mono eu⟩,(lr4.mono ((e4'.trans e5).trans eu)),hl2⟩
  cases hl2
 have e:i=us.length:=by omega
 subst e;rw[List.drop_length]at hl2;unfold cT at hl2;split at hl2;rename_i hok;cases hl2;exact .inl ⟨(ito m2 _ H2 _ (ee.trans e2) sr2 hok).2 (ZW _),post m2 H2 e2 sr2⟩;cases hl2
theorem pR{ci:CI}{g:CG}{ct:CT}{ce:CE}{n:Nat}{caps:List Nat}:∀σ H Q,tE K (du ci g ct ce n caps) σ H Q->qp (tI K ci) (tG K g) (tT K ct) (tE K ce) n caps σ H Q:=by
 rintro σ H Q ⟨m,ρ,S,u,S',sr,lr,hc,post⟩;let⟨⟨us,ok,S1⟩,h1,h2⟩:=Z0.mp hc;let⟨S2,h2,h3⟩:=Z0.mp h2;cases h3;refine⟨m,ρ,S,us,ok,S1,sr,lr,h1,λm1 H1 J e1 sr1 ito l hl=>?_⟩;have ee:Ext K m1 H1 (m1++[l]) (upd H1 l (.lst [])):=.new (bu hl _);exact vx sr1 (lr.mono e1) ito hl h2 λm2 H2 e2 sr2=>post m2 _ H2 ((e1.trans ee).trans e2) sr2 (.ref_ (e2.get (cI sr1.len)))
theorem kf{Nc capN tn:List Str}{scope:XA}{cl:List (Str×Addr)}{n:Nat}{caps:List Nat}{tg iter elt:ZN}{pos:Pos}{ci:CI}{g:CG}{ct:CT}{ce:CE}{c:ZN}
  (hc:X.calm=true) (hi:QI X tg iter ci) (hg:∀s3 H3 fp,WG 58 tg (tG X.K g)) (ht:∀s3 H3 fp,WT 58 c (tT X.K ct)) (he:∀s3 H3 fp,WE 58 elt (tE X.K ce))
  (t_:closureFor scope X.env=pure cl) (i_:scope.kind=.function) (hnl:∀x∈scope.names,x.2=.local->scope.names.lookup x.1=some .local) (k_:∀x∈scope.names,x.2≠.cell)
  (hcl:xy X.env cl) (w_:((relabel scope X.env).names.all λp=>!(p.2 == .cell||p.2 == .free)||(cl.lookup p.1).isSome)=true)
  (s_:Paired (Cap X scope cl) caps capN) (hN:Nc=tn++capN) (hn:tn.length=n)
  (hs:∀x,foldedSetIterable iter X.env x=pure x:=by intro _;rfl) :
  QE X 73 (du ci g ct ce n caps):=(xE hc hi hg he ht t_ i_ hnl k_ hcl w_ s_ hN hn hs).imp pR
end
end OP
namespace OP
open PySem PySem.Spec PyProof PyProof.Rows L2 OG
mutual
inductive RdV(K:Z3)(H:Hp):V->PyData->Prop
 |non:RdV K H .non .none
 |bl (b:Bool):RdV K H (.bl b) (.bool b)
 |int (i:Int):RdV K H (.int i) (.int i)
 |str (x:Str):RdV K H (.str x) (.str x)
 |lst {a:Addr} {xs:List V} {ds:List PyData}:SqL K H a xs->BL K H xs ds->RdV K H (.ref a) (.list ds)
 |tup {a:Addr} {xs:List V} {ds:List PyData}:SqT K H a xs->BL K H xs ds->RdV K H (.ref a) (.tuple ds)
inductive BL(K:Z3)(H:Hp):List V->List PyData->Prop
 |nil:BL K H [] []
 |cons {x:V} {xs:List V} {d:PyData} {ds:List PyData}:RdV K H x d->BL K H xs ds->BL K H (x::xs) (d::ds)
end
mutual
inductive Dt(S:Sto):U->PyData->Prop
 |non:Dt S .non .none
 |bl (b:Bool):Dt S (.bl b) (.bool b)
 |int (i:Int):Dt S (.int i) (.int i)
 |str (x:Str):Dt S (.str x) (.str x)
 |lst {l:Nat} {us:List U} {ds:List PyData}:S[l]?=some (.lst us)->DtL S us ds->Dt S (.ref l) (.list ds)
 |tup {us:List U} {ds:List PyData}:DtL S us ds->Dt S (.tup us) (.tuple ds)
inductive DtL(S:Sto):List U->List PyData->Prop
 |nil:DtL S [] []
 |cons {x:U} {xs:List U} {d:PyData} {ds:List PyData}:Dt S x d->DtL S xs ds->DtL S (x::xs) (d::ds)
end
variable{X:Cx}{K:Z3}
section
variable{a_:List (Addr×Obj)}{σ:L2.St}{H:Hp}{s:Z6}
mutual
theorem RdV.reads(I:47):∀{x:V} {d:PyData} {v:Z5},RdV X.K H x d->cP x v->∃as,Reads s.heap v d as
 |_,_,_,.non,r=>by cases r;exact⟨_,.none⟩
 |_,_,_,.bl b,r=>by cases r;exact⟨_,.bool b⟩
 |_,_,_,.int i,r=>by let⟨t,rfl⟩:=r;exact⟨_,.int i t⟩
 |_,_,_,.str i,r=>by let⟨t,rfl⟩:=r;exact⟨_,.str i t⟩
 |_,_,_,.lst (a:=a) h t,r=>by
  cases r;let⟨its,rv,pl,_⟩:=I.list h;let⟨as,k⟩:=BL.reads I t rv;let⟨o,h1,h2,n,h3⟩:=pl.isList;exact⟨_,.list h1 h2 h3 ‹k›⟩
 |_,_,_,.tup (a:=a) h t,r=>by
  cases r;let⟨its,rv,pl,_⟩:=I.tuple h;let⟨as,k⟩:=BL.reads I t rv;let⟨o,h1,h2,n,h3⟩:=pl;exact⟨_,.tuple h1 h2 h3 ‹k›⟩
theorem BL.reads(I:47):∀{xs:List V} {ds:List PyData} {vs:List Z5},BL X.K H xs ds->bS xs vs->∃as,ReadsAll s.heap vs ds as
 |_,_,_,.nil,r=>by cases r;exact⟨_,.nil⟩
 |_,_,_,.cons h t,.cons r rs=>by
  let⟨as,a⟩:=RdV.reads I h r;let⟨bs,b⟩:=BL.reads I t rs;exact⟨_,.cons a b⟩
end
mutual
theorem Dt.rd{m:List Addr}{S:Sto}(sr:Sr K m S H):∀{u:U} {d:PyData} {v:V},Dt S u d->Is K m H v u->RdV K H v d
 |_,_,_,.non,i=>by rw[i.of_non];exact .non
 |_,_,_,.bl b,i=>by rw[i.of_bl];exact .bl b
 |_,_,_,.int b,i=>by rw[i.of_int];exact .int b
 |_,_,_,.str b,i=>by rw[i.of_str];exact .str b
 |_,_,_,.lst h t,i=>by
  let⟨a,ha,rfl⟩:=i.of_ref;let⟨a',ha',xs,hx,il⟩:=sr.get h;rw[ha]at ha';cases ha';exact .lst (SqL.of hx) (DtL.rd sr t il)
 |_,_,_,.tup t,i=>by
  let⟨a,xs,rfl,sa,la⟩:=i.of_tup;exact .tup sa (DtL.rd sr t la)
theorem DtL.rd{m:List Addr}{S:Sto}(sr:Sr K m S H):∀{us:List U} {ds:List PyData} {vs:List V},DtL S us ds->IsL K m H vs us->BL K H vs ds
 |_,_,_,.nil,i=>by rw[i.of_nil];exact .nil
 |_,_,_,.cons h t,i=>by
  let⟨x,r,rfl,i1,i2⟩:=i.of_cons;exact .cons (Dt.rd sr h i1) (DtL.rd sr t i2)
end
mutual
theorem Dt.uniq{S:Sto}:∀{u:U} {d e:PyData},Dt S u d->Dt S u e->d=e
 |_,_,_,.non,.non=>rfl
 |_,_,_,.bl _,.bl _=>rfl
 |_,_,_,.int _,.int _=>rfl
 |_,_,_,.str _,.str _=>rfl
 |_,_,_,.lst h t,.lst h' t'=>by
  rw[h]at h';cases h';rw[DtL.uniq t t']
 |_,_,_,.tup t,.tup t'=>by rw[DtL.uniq t t']
theorem DtL.uniq{S:Sto}:∀{us:List U} {ds es:List PyData},DtL S us ds->DtL S us es->ds=es
 |_,_,_,.nil,.nil=>rfl
 |_,_,_,.cons h t,.cons h' t'=>by rw[Dt.uniq h h',DtL.uniq t t']
end
def Ez(d:PyData):Prop:=d.canLay0=true/\d.depth<=60
def OR(K:Z3)(neg:Bool):R2:=λx y H Q=>(∃dx dy,RdV K H x dx/\RdV K H y dy/\Ez dx/\Ez dy/\Q (.bl (if neg then !dx.eqv dy else dx.eqv dy)) H)\/
 ∃a b xs ys,x=.ref a/\y=.ref b/\SqL K H a xs/\SqL K H b ys/\xs.length≠ys.length/\Q (.bl neg) H
theorem tj(hu:X.A.units+64<cLine):OpR X (compareOp .Eq) (OR X.K false):=by
 rintro a_ s σ H x y v u Q I rx ry (⟨dx,dy,hx,hy,lx,ly,q⟩|⟨a,b,xs,ys,rfl,rfl,ha,hb,ne,q⟩);let⟨as,hx⟩:=hx.reads I rx;let⟨bs,hy⟩:=hy.reads I ry;exact SeqAt.compareEq_reads hx hy lx.1 ly.1 (by have:=lx.2;omega) ⟨.bl _,H,I,rfl,q⟩;cases rx;cases ry;let⟨i1,r1,p1,_⟩:=I.list ha;let⟨i2,r2,p2,_⟩:=I.list hb;have l1:=r1.length;have l2:=r2.length;exact SeqAt.RcAt.lists_lengths p1.isList p2.isList 72 24 X.prog X.w X.xe _ ⟨.bl false,H,I,rfl,q⟩
theorem Lv(hu:X.A.units+64<cLine):OpR X (compareOp .NotEq) (OR X.K true):=by
 rintro a_ s σ H x y v u Q I rx ry (⟨dx,dy,hx,hy,lx,ly,q⟩|⟨a,b,xs,ys,rfl,rfl,ha,hb,ne,q⟩);let⟨as,hx⟩:=hx.reads I rx;let⟨bs,hy⟩:=hy.reads I ry;exact SeqAt.compareNe_reads hx hy lx.1 ly.1 (by have:=lx.2;omega) ⟨.bl _,H,I,rfl,q⟩;cases rx;cases ry;let⟨i1,r1,p1,_⟩:=I.list ha;let⟨i2,r2,p2,_⟩:=I.list hb;have l1:=r1.length;have l2:=r2.length;exact SeqAt.RcNeAt.lists_lengths p1.isList p2.isList 72 24 X.prog X.w X.xe _ ⟨.bl true,H,I,rfl,q⟩
def BW(x y:U)(S:Sto)(b:Bool):Prop:=(∃dx dy,Dt S x dx/\Dt S y dy/\Ez dx/\Ez dy/\b=dx.eqv dy)\/∃l l' us vs,x=.ref l/\y=.ref l'/\S[l]?=some (.lst us)/\S[l']?=some (.lst vs)/\us.length≠vs.length/\b=false
theorem DtL.length{S:Sto}:∀{us:List U} {ds:List PyData},DtL S us ds->us.length=ds.length
 |_,_,.nil=>rfl
 |_,_,.cons _ t=>by rw[ZM,ZM,DtL.length t]
theorem BW.mix{l l':Nat}{us vs:List U}{S:Sto}{dx dy:PyData}(h1:Dt S (.ref l) dx)(h2:Dt S (.ref l') dy)(k1:S[l]?=some (.lst us))(k2:S[l']?=some (.lst vs))(ne:us.length≠vs.length):dx.eqv dy=false:=by
 cases h1 with
 |lst a1 t1=>
  cases h2 with
  |lst a2 t2=>
   rw[k1]at a1;cases a1;rw[k2]at a2;cases a2;show PyData.eqvAll _ _=false;exact SeqAt.eqvAll_other_length (by rw[<-t1.length,<-t2.length];exact ne)
theorem BW.uniq{x y:U}{S:Sto}{b c:Bool}(h:BW x y S b)(k:BW x y S c):b=c:=by
 rcases h with⟨dx,dy,h1,h2,_,_,rfl⟩|⟨l,l',us,vs,rfl,rfl,h1,h2,ne,rfl⟩;rcases k with⟨ex,ey,k1,k2,_,_,rfl⟩|⟨l,l',us,vs,rfl,rfl,k1,k2,ne,rfl⟩;rw[h1.uniq k1,h2.uniq k2];exact BW.mix h1 h2 k1 k2 ne;rcases k with⟨ex,ey,k1,k2,_,_,rfl⟩|⟨_,_,_,_,_,_,_,_,_,rfl⟩;exact(BW.mix k1 k2 h1 h2 ne).symm;rfl
open Classical in
def vj(neg:Bool):U->U->Sto->Option (U×Sto):=λx y S=>if h:∃b,BW x y S b then some (.bl (if neg then !h.choose else h.choose),S)else none
theorem vi{x y:U}{S:Sto}{b:Bool}(neg:Bool)(h:BW x y S b):vj neg x y S=some (.bl (if neg then !b else b),S):=by
 unfold vj;rw[dif_pos ⟨b,h⟩];have e:(⟨b,h⟩:∃b,BW x y S b).choose=b:=(Exists.choose_spec (⟨b,h⟩:∃b,BW x y S b)).uniq h;rw[e]
theorem xQ{neg:Bool}:OpP K (OR K neg) (vj neg):=by
 intro m S H x y v w u S' Q sr ix iy hf post;unfold vj at hf;split at hf<;>try cases hf
 rename_i h;have hb:=h.choose_spec;generalize h.choose=b at hb post;rcases hb with⟨dx,dy,h1,h2,l1,l2,rfl⟩|⟨l,l',us,vs,rfl,rfl,h1,h2,ne,rfl⟩;exact .inl ⟨dx,dy,h1.rd sr ix,h2.rd sr iy,l1,l2,post m _ H .refl sr .bl_⟩
 ·let⟨a,ha,rfl⟩:=ix.of_ref;let⟨a',ha',xs,hx,la⟩:=sr.get h1;rw[ha]at ha';cases ha';let⟨c,hc,rfl⟩:=iy.of_ref;let⟨c',hc',ys,hy,lc⟩:=sr.get h2;rw[hc]at hc';cases hc';refine .inr ⟨a,c,xs,ys,rfl,rfl,SqL.of hx,SqL.of hy,by rw[la.length,lc.length];exact ne,?_⟩;have e:(if neg=true then !false else false)=neg:=by cases neg<;>rfl
  have:=post m _ H .refl sr (Is.bl_ (b:=if neg=true then !false else false));rw[e]at this;exact this
def Fp(us:List U)(lo hi:Option Int):List U:=(us.drop (HT.sIx us.length 0 lo)).take (HT.sIx us.length us.length hi-HT.sIx us.length 0 lo)
theorem Fo{m:List Addr}{xs:List V}{us:List U}{lo hi:Option Int}(i:IsL K m H xs us):IsL K m H (Bi xs lo hi) (Fp us lo hi):=by
 unfold Bi Fp;rw[i.length];exact(i.drop _).take _
def fSl(x:U)(lo hi:Option Int)(S:Sto):Option (U×Sto):=match x with
 |.tup us=>if HT.sIx us.length 0 lo=0/\HT.sIx us.length us.length hi=us.length then none else some (.tup (Fp us lo hi),S)
 |.ref l=>match S[l]? with
  |some (.lst us)=>some (.ref S.length,S++[.lst (Fp us lo hi)])
  |_=>none
 |_=>none
def ym:Option CE->Rho->Sto->Option (Option Int×Sto)
 |none,_,S=>some (none,S)
 |some c,ρ,S=>(c ρ S).bind λp=>match p.1 with
  |.int i=>some (some i,p.2)
  |_=>none
def cSl(ca:CE)(cl ch:Option CE):CE:=λρ S=>(ca ρ S).bind λp=>(ym cl ρ p.2).bind λq=>(ym ch ρ q.2).bind λr=>fSl p.1 q.1 r.1 r.2
def Qb(K:Z3)(m:List Addr)(H:Hp)(Q:Option Int->Hp->Prop)(o:Option Int)(S':Sto):Prop:=∀m' H',Ext K m H m' H'->Sr K m' S' H'->Q o H'
def tO(K:Z3)(c:Option CE):TO:=λσ H Q=>∃m ρ S o S',Sr K m S H/\Lr K m H ρ σ/\ym c ρ S=some (o,S')/\Qb K m H Q o S'
abbrev QO(X:Cx)(e:Option ZN)(c:Option CE):Prop:=WO X e (tO X.K c)
theorem qE:QO X none none:=⟨λa_ s σ H Q I hz=>kJ hz λm ρ S o S' sr lr hc post=>vR.h a_ s σ H Q I (by cases hc;exact post m H .refl sr)⟩
theorem qD{e:ZN}{ca:CE}(h:QE X e ca):QO X (some e) (some ca):=⟨λa_ s σ H Q I hz=>kJ hz λm ρ S o S' sr lr hc post=>(vQ h).h a_ s σ H Q I (by
 let⟨⟨x,S1⟩,h1,h2⟩:=Z0.mp hc;refine⟨m,ρ,S,x,S1,sr,lr,h1,λm1 v1 H1 e1 sr1 i1=>?_⟩;cases x<;>simp at h2;let⟨rfl,rfl⟩:=h2;exact⟨_,i1.of_int,post m1 H1 e1 sr1⟩)⟩
theorem M0{e:ZN}{lo hi:Option ZN}{ca:CE}{cl ch:Option CE}{pos p2:Pos}(ha:QE X e ca)(hl:QO X lo cl)(hh:QO X hi ch):QE X (.Subscript e (.Slice lo hi none p2) pos) (cSl ca cl ch):=(sf (zp.or Kr) ha hl hh).imp λσ H Q hz=>kJ hz λm ρ S u S' sr lr hc post=>by
 let⟨⟨x,S1⟩,h1,ha⟩:=Z0.mp hc;let⟨⟨l,S2⟩,h2,hb⟩:=Z0.mp ha;let⟨⟨k,S3⟩,h3,h⟩:=Z0.mp hb;clear ha hb hc;refine⟨m,ρ,S,x,S1,sr,lr,h1,λm1 v1 H1 e1 sr1 i1=>⟨m1,ρ,S1,l,S2,sr1,lr.mono e1,h2,λm2 H2 e2 sr2=>⟨m2,ρ,S2,k,S3,sr2,lr.mono (e1.trans e2),h3,λm3 H3 e3 sr3=>?_⟩⟩⟩;have i3:=i1.mono (e2.trans e3);have e03:=(e1.trans e2).trans e3;cases x with
 |tup us=>
  simp only[fSl]at h;split at h<;>try cases h
  rename_i hw;let⟨a,xs,rfl,sa,la⟩:=i3.of_tup;exact .inr ⟨a,xs,rfl,sa,by rw[la.length];exact hw,λp hp=>qG sr3 (Fo la) (post.mono e03) hp⟩
 |ref r=>
  simp only[fSl]at h;split at h<;>try cases h
  rename_i us hS;let⟨a,ha,rfl⟩:=i3.of_ref;let⟨a',ha',xs,hx,la⟩:=sr3.get hS;rw[ha]at ha';cases ha';exact .inl ⟨a,xs,rfl,SqL.of hx,λp hp=>dF sr3 (Fo la) (post.mono e03) hp⟩
 |_=>simp[fSl]at h
end
def GN(K:Z3):R2:=λx y H Q=>∃a k xs,x=.ref a/\y=.int k/\SqT K H a xs/\xs≠[]/\1<=k/\xs.length*k.toNat<=1000/\∀q H',uo H H'->SqT K H' q (ZO k.toNat xs).flatten->Q (.ref q) H'
theorem Hv:OpR X (binaryOp .Mult) (GN X.K):=by
 intro a_ s σ H x y v u Q I rx ry h;let⟨a,k,xs,rfl,rfl,ha,hne,hk,hz,q⟩:=h;cases rx;let⟨t,rfl⟩:=ry;let⟨its,r1,p1,hzz⟩:=I.tuple ha;have h_:=r1.length;let⟨⟨cls,dd,data,sl⟩,ho,hc,n,hd⟩:=id p1;simp only at hc hd;subst hc hd;have hne':its≠[]:=λz=>hne (r1.nil_iff.mp z);refine wpAny_binaryOp_repeat_ref (T:="tuple") (U:="int") 54 ⟨_,ho,rfl⟩ (λs'=>typeIs_int s' k t) mF F.fills_int_mul F.slot_int_rmul sO F.slot_int_index.lookup
  (call_meets F.slot_int_rmul (typeIs_int s k t) F.entry_int_rmul (F.args_int_rmul_2 _ _) (o7 k t a its.toArray n dd sl) ⟨ho,rfl,⟨_,ho,rfl⟩,?_⟩)
 by_cases k1:k=1;subst k1;refine call_meets F.slot_tuple_mul ⟨_,ho,rfl⟩ F.entry_tuple_mul (F.args_tuple_mul_2 _ _) (uB a its.toArray n dd sl t) ⟨ho,⟨.ref a,H,I,rfl,q a H (.refl _) ?_⟩⟩;simpa using ha;have hfold:List.foldl (λx1 x2=>x1++x2) #[] (ZO k.toNat its.toArray)=(ZO k.toNat its).flatten.toArray:=by
  have:=ow its k.toNat [];rw[X6]at this;exact this
 have hfl:(ZO k.toNat its).flatten.length<=1000:=by rw[uT,<-h_,Nat.mul_comm];exact hz
 have hlp:0<its.length:=List.length_pos_iff.mpr hne';have hk2:k.toNat<=1000:=X2 (Nat.le_mul_of_pos_left _ (by rw[h_];exact hlp)) hz;have hsz:(its.toArray.size:Int)*k<=1000:=by
  rw[ZP,<-h_];have e:k=((k.toNat:Nat):Int):=by omega
  rw[e,<-Int.natCast_mul];omega
 refine call_meets F.slot_tuple_mul ⟨_,ho,rfl⟩ F.entry_tuple_mul (F.args_tuple_mul_2 _ _) (uA a its.toArray n dd sl k t ?_ ?_ ?_ ?_ ?_ ?_) ⟨ho,?_⟩;simp;omega;simp[hne',k1];simp[hne'];omega;omega;unfold Builtin.Tuple.tupleTooMany;have:¬(its.toArray.size:Int)*k>(ZC:Int):=by
  have:(1000:Nat)<=ZC:=sF (ZW _);omega
 simpa using this;rw[hfold,ZP];exact sF hfl;rw[hfold];refine⟨.ref s.heap.objs.size,_,I.laid (t':=s.toks) (o:=.tup (ZO k.toNat xs).flatten) (λb ob q=>Z7 _ q) (ZW _) ?_,rfl,q _ _ (cG (I.hok.fresh (ZW _)) _) (SqT.of ax)⟩;exact⟨sF (by rw[uT,Nat.mul_comm];exact hz),_,r1.rep k.toNat,EC.new _ _⟩
def AZ:U->U->Sto->Option (U×Sto)
 |.int i,.int j,S=>if yC i j then some (.int (i*j),S)else none
 |.tup us,.int k,S=>if us≠[]/\1<=k/\us.length*k.toNat<=1000 then some (.tup (ZO k.toNat us).flatten,S)else none
 |.ref l,.int k,S=>match S[l]? with
  |some (.lst us)=>if 0<=k/\k<=100000/\us.length*k.toNat<=LIM then some (.ref S.length,S++[.lst (ZO k.toNat us).flatten])else none
  |_=>none
 |_,_,_=>none
theorem Ly:OpR X (binaryOp .Mult) (λx y H Q=>rI yC (λi j=>.int (i*j)) x y H Q\/(GN X.K x y H Q\/OO x y H Q)):=jo.or (Hv.or Lu)
instance {us:List U}:Decidable (us≠[]):=match us with
 |[]=>.isFalse λh=>h rfl
 |_::_=>.isTrue λh=>by cases h
theorem Lo:OpP K (λx y H Q=>rI yC (λi j=>.int (i*j)) x y H Q\/(GN K x y H Q\/OO x y H Q)) AZ:=by
 intro m S H x y v w u S' Q sr ix iy hf post;cases x<;>cases y<;>simp only[AZ]at hf<;>try cases hf
 ·split at hf<;>try cases hf
  rename_i hc;exact .inl ⟨_,_,ix.of_int,iy.of_int,hc,post m _ H .refl sr .int_⟩
 ·rename_i us k;split at hf<;>try cases hf
  rename_i hc;let⟨a,xs,rfl,sa,la⟩:=ix.of_tup;refine .inr (.inl ⟨a,k,xs,rfl,iy.of_int,sa,λz=>hc.1 ?_,hc.2.1,by rw[la.length];exact hc.2.2,λq H' s sq=>?_⟩);subst z;have:=la.length;exact List.length_eq_zero_iff.mp this.symm;exact post m _ H' (.of (cu s)) (sr.same s) (.tup_ sq ((la.rep k.toNat).mono (.of (cu s))))
 ·rename_i l k;split at hf<;>try cases hf
  rename_i us hS;split at hf<;>try cases hf
  rename_i hc;let⟨a,ha,rfl⟩:=ix.of_ref;let⟨a',ha',xs,hx,la⟩:=sr.get hS;rw[ha]at ha';cases ha';exact .inr (.inr ⟨a,k,xs,rfl,iy.of_int,hx,by omega,by omega,lim (by rw[la.length];exact hc.2.2),λp hp=>dF sr (la.rep k.toNat) post hp⟩)
end OP
namespace OG
open PySem PySem.Spec PyProof.Rows L2
theorem Lz{C a:Addr}{m:79}{h h':Heap}(n:h.Ns C m)(s:XC a h h')(ne:C≠a):h'.Ns C m:=by
 let⟨o,es,ep,e,r⟩:=n;exact⟨o,es,ep,(s.2 C ne).trans e,r⟩
theorem sd{X:Cx}{Nc capN tn:List Str}{scope:XA}{cl:List (Str×Addr)}{n:Nat}{caps:List Nat}{tg iter elt:ZN}{pos:Pos}{wi:TI}{g:TG}{te:TE}{tt:TT}{c:ZN}
  (hc:X.calm=true) (hi:WI X tg iter wi) (hg:∀s3 H3 fp,WG 58 tg g) (he:∀s3 H3 fp,WE 58 elt te)
  (ht:∀s3 H3 fp,WT 58 c tt)
  (t_:closureFor scope X.env=pure cl) (i_:scope.kind=.function) (hnl:∀x∈scope.names,x.2=.local->scope.names.lookup x.1=some .local) (k_:∀x∈scope.names,x.2≠.cell)
  (hcl:xy X.env cl) (w_:((relabel scope X.env).names.all λp=>!(p.2 == .cell||p.2 == .free)||(cl.lookup p.1).isSome)=true)
  (s_:Paired (Cap X scope cl) caps capN) (hN:Nc=tn++capN) (hn:tn.length=n)
  {i₀:Nat} {x₀:Str} {R0 g_:Pos} (hN0:X.N.Nodup) (hi0:X.N[i₀]?=some x₀) (hx0:X.env.scope.names.lookup x₀=some .local)
  (hsw:XE 73 (some (.Name x₀ g_)) R0.line X.env=pure true)
  (hs:∀x,foldedSetIterable iter X.env x=pure x:=by intro _;rfl) :
  WS X (.Assign [.Name x₀ g_] 73 R0) (λD σ H=>qp wi g tt te n caps σ H λv H'=>D.nx (σ.set i₀ (some v)) H'):=by
 constructor;intro a_ s σ H Dn I h;rw[exec_Assign_arm];refine Z2 (wpAny_standAt ?_);have hsw':swapsWithSole [.Name x₀ g_] 73 R0.line X.env=pure true:=hsw;rw[hsw'];refine Z2 (Z8 ?_);rw[Xe rfl,arm_evalThenUse_ListComp];refine Z2 (Z2 (pS (Qf:=λ_ s'=>wpAny 49 X.A (pure ()) (λ_ s'=>wpAny 49 X.A (pure Flow.next) (SP X a_ Dn) X.xe s') X.xe s') hc hi hg he ht t_ i_ hnl k_ hcl w_ s_ hN hn I h (λD C s6 H5 m I7 hm fr nl sz cn pn qn=>?_) hs));show wpAny _ _ (assign (.Name x₀ g_) X.env (.ref D)) _ _ s6;rw[arm_assign_Name];refine Z2 (wpAny_standAt (wpAny_bindName (sC (v:=.ref D) I7 hN0 hi0 (.inl hx0) rfl (λs7 I7' hsb=>?_) (.inr hx0))));let⟨a7,hsb,ha7⟩:=hsb;have cNe:C≠a7:=by
  rcases ha7 with z|z;rw[z];exact nl;exact Ne.symm (cn _ _ z)
 refine⟨m,Lz hm hsb cNe,λh' hs'=>Z8 (Z8 ⟨_,H5,?_,qn⟩)⟩;exact I7'.turned (t':=s7.toks) (it:=C) (λb o hb e=>hs'.extBut b o hb e) fr nl (.inr sz) cn pn
end OG
namespace OP
open PySem PySem.Spec PyProof.Rows L2 OG
section
variable{X:Cx}{K:Z3}
theorem sQ{i₀:Nat}{x₀:Str}{R0 g_:Pos}{Nc capN tn:List Str}{scope:XA}{cl:List (Str×Addr)}{n:Nat}{caps:List Nat}{tg iter elt:ZN}{pos:Pos}{ci:CI}{g:CG}{ct:CT}{ce:CE}{c:ZN}
  (hc:X.calm=true) (hi:QI X tg iter ci) (hg:∀s3 H3 fp,WG 58 tg (tG X.K g)) (ht:∀s3 H3 fp,WT 58 c (tT X.K ct)) (he:∀s3 H3 fp,WE 58 elt (tE X.K ce))
  (t_:closureFor scope X.env=pure cl) (i_:scope.kind=.function) (hnl:∀x∈scope.names,x.2=.local->scope.names.lookup x.1=some .local) (k_:∀x∈scope.names,x.2≠.cell)
  (hcl:xy X.env cl) (w_:((relabel scope X.env).names.all λp=>!(p.2 == .cell||p.2 == .free)||(cl.lookup p.1).isSome)=true)
  (s_:Paired (Cap X scope cl) caps capN) (hN:Nc=tn++capN) (hn:tn.length=n)
  (hN0:X.N.Nodup) (hi0:X.N[i₀]?=some x₀) (hx0:X.env.scope.names.lookup x₀=some .local)
  (hsw:XE 73 (some (.Name x₀ g_)) R0.line X.env=pure true)
  (hs:∀x,foldedSetIterable iter X.env x=pure x:=by intro _;rfl) :
  QS X (.Assign [.Name x₀ g_] 73 R0) (bB i₀ (du ci g ct ce n caps)):=(sd hc hi hg he ht t_ i_ hnl k_ hcl w_ s_ hN hn hN0 hi0 hx0 hsw hs).imp λD σ H hz=>yj hz λm ρ S o ρ' S' sr lr hc post=>by
 let⟨⟨u,S1⟩,h1,h2⟩:=Z0.mp hc;cases h2;exact pR _ _ _ ⟨m,ρ,S,u,_,sr,lr,h1,λm1 v1 H1 e1 sr1 i1=>post m1 _ H1 e1 sr1 ((lr.mono e1).set i₀ i1)⟩
end
end OP
namespace OP
open PySem PySem.Spec PyProof PyProof.Rows L2 OG
section
variable{X:Cx}{K:Z3}
def um(ca:CE):CE:=λρ S=>(ca ρ S).bind λp=>match p.1 with
 |.int i=>some (.int (-i),p.2)
 |_=>none
theorem J7:UnR X (unaryOp .USub) (λx H Q=>∃i,x=.int i/\Q (.int (-i)) H):=by
 rintro a_ s σ H x v Q I rx ⟨i,rfl,q⟩;let⟨t,rfl⟩:=rx;exact PyProof.Rows.neg_int ⟨.int (-i),H,I.tok _,⟨_,rfl⟩,q⟩
theorem C1{a:ZN}{ca:CE}{pos:Pos}(ha:QE X a ca):QE X (.UnaryOp .USub a pos) (um ca):=(JZ J7 ha).imp λσ H Q hz=>kJ hz λm ρ S u S' sr lr hc post=>by
 let⟨⟨x,S1⟩,h1,h2⟩:=Z0.mp hc;refine⟨m,ρ,S,x,S1,sr,lr,h1,λm1 v1 H1 e1 sr1 i1=>?_⟩;cases x<;>simp at h2;let⟨rfl,rfl⟩:=h2;exact⟨_,i1.of_int,post m1 _ H1 e1 sr1 .int_⟩
def oy:U->List U->Sto->Option (U×Sto)
 |.ref l,[.int i],S=>match S[l]? with
  |some (.lst us)=>if 0<=i/\i<us.length/\us.length<=LIM then(us[i.toNat]?).bind λu=>some (u,S.set l (.lst (us.eraseIdx i.toNat)))else none
  |_=>none
 |_,_,_=>none
theorem Hq:MtP K ET oy:=by
 intro m S H x v us vs u S' Q sr ix i hf post;match x,us,hf with
 |.ref l,[.int k],hf=>
  simp only[oy]at hf;split at hf<;>try cases hf
  rename_i ws hS;split at hf<;>try cases hf
  rename_i hk;let⟨w,hw,h⟩:=Z0.mp hf;cases h;let⟨a,ha,rfl⟩:=ix.of_ref;let⟨a',ha',xs,hx,la⟩:=sr.get hS;rw[ha]at ha';cases ha';let⟨y,hy,iy⟩:=la.getD hw;let⟨z,rfl,iz⟩:=i.one;have eu:Ext K m H m (upd H a (.lst (xs.eraseIdx k.toNat))):=.of (sr.keep ha _);have hL:ws.length<=100000:=hk.2.2;exact⟨a,xs,k,k.toNat,y,rfl,by rw[iz.of_int],hx,by omega,by omega,seqIndex_of hk.1 (by rw[la.length];exact hk.2.1),hy,post m _ _ eu (sr.put ha ⟨_,ax,(la.erase _).mono eu⟩) (iy.mono eu)⟩
variable{e:ZN}{es:List ZN}{co:CE}{cr:CA}{o:ZN}{l_ n_:Pos}
theorem GQ (ho : QE X o co) (ha : QA X (e :: es) cr) (F_ : attributeBase o "pop" X.env (eval o X.env) = eval o X.env := by rfl) (P_ : ((X8 n_ (ZU (e :: es) X.env)).all (λx => !x.1) && (backToKw n_ (keywordEach [] X.env)).all (λx => x.1.isSome)
   && decide ((e::es).length+([]:List Keyword).length+(if ([]:List Keyword).isEmpty then 0 else 1)<30))=true:=by rfl) (D_:(l_.endLine == n_.line)=true:=by rfl) (hs:ZU (e::es) X.env=(false,eval e X.env)::ZU es X.env:=by rfl) (B_:(X8 n_ (ZU es X.env)).any (·.1)=false:=by rfl) :
  QE X (.Call (.Attribute o "pop" l_) (e::es) [] n_) (cBM oy co cr):=(EM PySem.F.plainAttrs_list PySem.F.slot_list_pop PySem.F.type_list_pop DC ho ha.h F_ P_ D_ hs B_).imp (Fs Hq)
theorem Et(bs:List Bool):(Zp bs.length).any (λi=>(bs[i]?).getD false)=bs.any id:=by
 rw[Bool.eq_iff_iff,List.any_eq_true,List.any_eq_true];constructor;rintro⟨i,hi,h⟩;have hi':=XH.mp hi;rw[ZK hi',X9]at h;exact⟨_,XT hi',h⟩;rintro⟨b,hb,h⟩;let⟨i,hi,e⟩:=List.mem_iff_getElem.mp hb;refine⟨i,XH.mpr hi,?_⟩;rw[ZK hi,X9,e];exact h
theorem Ej(hc:X.calm=true):eU X (.builtin "any") (λxs H Q=>∃(p:Addr) (bs:List Bool),xs=[.ref p]/\SqL X.K H p (bs.map V.bl)/\Q (.bl (bs.any id)) H):=by
 intro a_ s σ H xs us Q I r h;let⟨p,bs,rfl,hq,q⟩:=h;let⟨u,rfl,rx⟩:=jv r;cases rx;let⟨its,rv,pl,hz⟩:=I.list hq;have h_:=rv.length;rw[ZQ]at h_;refine call_any_walk (wpAny_pyIter_list pl.isList ?_);have lt:p<s.heap.objs.size:=by let⟨o,e,_⟩:=pl.isList;exact ZH e
 refine⟨s.heap.objs.size,_,_,_,_,_,λi=>(bs[i]?).getD false,rfl,Walks.list (show X.A.in1.handled=none from I.ok.hd hc) s.heap.objs.size p (ZL lt) its.toArray,⟨⟨_,ZG _ rfl,rfl,rfl⟩,pl.isList.at λo e=>Z7 _ e⟩,?_,λh' tk hk=>?_⟩;intro i v s' Q' E' hP hQ;have hP':its.toArray[i]?=some v:=hP;let⟨b,e1,e2⟩:=ux rv ‹hP'›;subst e2;dsimp only at hQ;rw[e1,X9]at hQ;exact wpAny_truthy_bool hQ;have e:(Zp its.toArray.size).any (λi=>(bs[i]?).getD false)=bs.any id:=by
  rw[ZP,<-h_];exact Et bs
 rw[e];exact⟨.bl (bs.any id),H,I.kept λb o e=>hk b o (Ad e) (Z7 _ e),rfl,q⟩
def Je:Fn
 |[.ref l],S=>match S[l]? with
  |some (.lst us)=>(IH us).bind λbs=>some (.bl (bs.any id),S)
  |_=>none
 |_,_=>none
theorem Pb:kY K (λxs H Q=>∃(p:Addr) (bs:List Bool),xs=[.ref p]/\SqL K H p (bs.map V.bl)/\Q (.bl (bs.any id)) H) Je:=by
 intro m S H us vs u S' Q sr i hf post;match us,hf with
 |[.ref l],hf=>
  let⟨v,rfl,iv⟩:=i.one;let⟨a,ha,rfl⟩:=iv.of_ref;simp only[Je]at hf;split at hf<;>try cases hf
  rename_i ws hS;let⟨bs,hb,h⟩:=Z0.mp hf;cases h;let⟨a',ha',xs,hx,la⟩:=sr.get hS;rw[ha]at ha';cases ha';rw[vE hb]at la;rw[la.bls]at hx;exact⟨a,bs,rfl,SqL.of hx,post m _ H .refl sr .bl_⟩
def gM(cr:CA):CE:=λρ S=>(cr ρ S).bind λp=>match p.1 with
 |[.int j]=>if 0<=j/\j<=1000 then some (.ref p.2.length,p.2++[.lst (cE 0 j.toNat)])else none
 |_=>none
theorem pK:∀(n:Nat) (a:Int) (vs:List Z5),vs.length=n->(∀(j:Nat) (v:Z5),vs[j]?=some v->∃t,v=Value.int (a+(j:Int)) t)->bS ((Zp n).map λi:Nat=>V.int (a+(i:Nat))) vs
 |0,a,vs,hl,h=>by
  rw[List.length_eq_zero_iff.mp hl];exact .nil
 |n+1,a,[],hl,h=>by simp at hl
 |n+1,a,v::vs,hl,h=>by
  rw[List.range_succ_eq_map,ZR,Za];refine .cons ?_ ?_;let⟨t,e⟩:=h 0 v rfl;exact⟨t,by simpa using e⟩;have:=pK n (a+1) vs ‹hl› λj x hx=>by
   let⟨t,e⟩:=h (j+1) x ‹hx›;exact⟨t,by rw[e];congr 1;omega⟩
  have e:(Zp n).map (λi:Nat=>V.int (a+1+(i:Nat)))=(Zp n).map ((λi:Nat=>V.int (a+(i:Nat))) ∘ Nat.succ):=XW λi _=>by
   simp only[Function.comp];congr 1;omega
  rw[<-e];exact this
theorem sg{a:ZN}{ta:TA}{p1 p2 S6 K_:Pos}(hc:X.calm=true)(hgl:Gl X "list")(hml:X.mg "list"=none)(hg:Gl X "range")(hm:X.mg "range"=none)(ha:WA X [a] ta)(hs:ZU [a] X.env=[(false,eval a X.env)])
  (hs1:ZU [Expr.Call (.Name "range" p2) [a] [] K_] X.env=[(false,eval (.Call (.Name "range" p2) [a] [] K_) X.env)]) :
  WE X (.Call (.Name "list" p1) [.Call (.Name "range" p2) [a] [] K_] [] S6) (λσ H Q=>ta σ H λvs H1=>∃j:Int,vs=[.int j]/\0<=j/\j<=1000/\∀p,H1 p=none->Q (.ref p) (upd H1 p (.lst ((Zp j.toNat).map λi:Nat=>V.int (0+(i:Nat)))))):=by
 constructor;intro a_ s σ H Q I h;refine wpAny_Call_Name_kw (oe I hgl hml OG.bP ?_ 54 54);refine PyProof.Rows.callWith_type1 ?_ hs1 rfl;rw[hs1];show wpAny _ _ (spliced [(false,eval (.Call (.Name "range" p2) [a] [] K_) X.env)]) _ _ s;refine Calls.spliced_cons ?_;refine Call_ (oe I hg hm boot_range (PyProof.Rows.callWith_type1 (thn (ha.h K_ a_ s σ H _ I h) λus s1 ⟨vs,H1,I1,r1,q1⟩=>?_) hs rfl));let⟨j,e,j0,j1,q⟩:=q1;subst e;cases r1 with
 |cons r rr=>
  cases rr;let⟨t,rfl⟩:=r;refine call_range_1 ?_;refine Calls.spliced_nil ?_;have hsz:Builtin.Range.rangeSize 0 j 1=((j.toNat:Nat):Int):=by
   unfold Builtin.Range.rangeSize;simp;omega
  refine call_list_range (n:=j.toNat) (I1.ok.hd hc) (ZG _ rfl) ?_ hsz 24 λh' tk acc c' hk hg' hi=>?_;unfold Builtin.Range.small;rw[hsz];unfold Builtin.Range.rangeFitsLong;simp;omega;have hv:bS ((Zp j.toNat).map λi:Nat=>V.int (0+(i:Nat))) acc.toList:=pK j.toNat 0 acc.toList ‹hi.1› λk v hv=>by
   let⟨t,e⟩:=hi.2 k v ‹hv›;exact⟨t,by rw[e];congr 1;omega⟩
  refine⟨.ref _,_,I1.laid (t':=tk) (o:=.lst ((Zp j.toNat).map λi:Nat=>V.int (0+(i:Nat)))) (λb ob q=>hk b ob (Z7 _ q)) (by rw[Xw];omega) ?_,rfl,q _ (I1.hok.fresh (by rw[Xw];omega))⟩;exact⟨by rw[ZQ,List.length_range];exact X2 24 (show 1000<=ZC by decide),_,_,hv,by simpa using hg'⟩
theorem AE{m:List Addr}{H:Hp}(n:Nat):IsL K m H ((Zp n).map λi:Nat=>V.int (0+(i:Nat))) (cE 0 n):=by
 unfold cE;generalize Zp n=l;induction l with
 |nil=>exact .nil_
 |cons a r ih=>exact .cons_ .int_ ih
theorem uJ{a:ZN}{cr:CA}{p1 p2 S6 K_:Pos}(hc:X.calm=true)(hgl:Gl X "list")(hml:X.mg "list"=none)(hg:Gl X "range")(hm:X.mg "range"=none)(ha:QA X [a] cr)(hs:ZU [a] X.env=[(false,eval a X.env)])
  (hs1:ZU [Expr.Call (.Name "range" p2) [a] [] K_] X.env=[(false,eval (.Call (.Name "range" p2) [a] [] K_) X.env)]) :
  QE X (.Call (.Name "list" p1) [.Call (.Name "range" p2) [a] [] K_] [] S6) (gM cr):=(sg hc hgl hml hg hm ha.h hs hs1).imp λσ H Q hz=>kJ hz λm ρ S u S' sr lr hc post=>by
 let⟨⟨ws,S1⟩,h1,h2⟩:=Z0.mp hc;simp only at h2;split at h2<;>try cases h2
 rename_i j;split at h2<;>try cases h2
 rename_i hj;refine⟨m,ρ,S,_,S1,sr,lr,h1,λm1 v1 H1 e1 sr1 i1=>?_⟩;let⟨x,rfl,ix⟩:=i1.one;rw[ix.of_int];exact⟨j,rfl,hj.1,hj.2,λp hp=>dF sr1 (AE _) (post.mono e1) hp⟩
end
end OP
namespace OP
open PySem PySem.Spec PyProof PyProof.Rows L2 OG PySem.W
section
variable{n:Nat}
structure Pm(n:Nat)(p:Array Nat):Prop where
 sz:p.size=n
 bd:∀i,i<n->p.getD i 0<n
 ne:∀i j,i<j->j<n->p.getD i 0≠p.getD j 0
end
end OP
namespace OP
open PySem PySem.Spec PyProof PyProof.Rows L2 OG
section
variable{prog:Zq}{w:Zr}{A:Ze}{E:Z5->Z6->Prop}{s:Z6}{d it:Addr}{o:Obj}{es:Array DictEntry}{ep i:Nat}
theorem wk{Q:Z5->Z6->Prop}(hd:(d == sysModules)=false)(ho:s.heap.get? d=some o)(hc:o.ExactDict)(he:o.data=.dict es ep)
  (q:Q 86 { s with heap:=s.heap.push { cls:=.type "dict_keyiterator",data:=.fields #[.ref d,.int 0 0,.int es.size 0,.int ep 0] } }):wpAny 69 A (pyIter (.ref d)) Q E s:=by
 have T:s.TypeIs (.ref d) "dict":=⟨o,ho,hc.1⟩;refine wpAny_pyIter_slot T F.slot_dict_iter (wpAny_call_entry F.slot_dict_iter T F.entry_dict_iter ?_ (F.args_dict_iter_1 _));unfold Builtin.«dict.__iter__»;refine Z2 ?_;unfold Builtin.Dict.dictSlotNone;refine Z2 (wpAny_notOrdered_dict T ?_);refine Z8 (show wpAny _ _ (Builtin.Dict.showsAll d >>= _) _ _ s from ?_);unfold Builtin.Dict.showsAll;rw[Xd (by rw[hd];exact ZF)];refine Z2 (Z8 (Z2 (wpAny_dictEntries ho he (Z2 (wpAny_dictEpoch ho he ?_)))));refine Z2 (wpAny_newObj_type (Z8 ⟨_,rfl,"dict_keyiterator",_,⟨_,ZG _ rfl,rfl⟩,F.slot_dict_keyiterator_next.lookup,q⟩))
theorem wm{Q:Option Z5->Z6->Prop}(hit:s.heap.IsKeyIter it d i es.size ep)(ho:s.heap.get? d=some o)(he:o.data=.dict es ep)(hi:i<es.size)
  (q:∀h',h'.IsKeyIter it d (i+1) es.size ep->XC it s.heap h'->Q (some es[i].key) { s with heap:=h' }):wpAny 69 A (pyNext (.ref it)) Q E s:=by
 let⟨io,hio,ic,id'⟩:=id hit;unfold pyNext;refine Z2 (wpAny_attempt (wpAny_callSpecial?_slot (name:=Str.ofString "__next__") hit.typeIs F.slot_dict_keyiterator_next (wpAny_call_entry F.slot_dict_keyiterator_next hit.typeIs F.entry_dict_keyiterator_next ?_ (F.args_dict_keyiterator_next_1 _))));refine Z2 (Z8 (Z2 (Z2 ?_)));first|refine Z2 (wpAny_typeNameOfWhole_keyiter hit.typeIs (Z8 (Z2 (wpAny_fieldsOf hio id' ?_))))|refine Z2 (wpAny_typeNameOf_keyiter hit.typeIs (Z8 (Z2 (wpAny_fieldsOf hio id' ?_))))
 simp only[show Builtin.Dict_items.ownsTuple "dict_keyiterator"=false by decide,Zt,if_false];refine(show wpAny _ _ (if (Value.ref d == Value.none)=true then _ else _) _ _ s from ?_);rw[Xd (show ¬((Value.ref d == Value.none)=true)from ZF)];refine Z2 (Z8 (Z2 (wpAny_dictEntries ho he ?_)));rw[Xd 51];refine Z2 (Z8 (Z2 (wpAny_dictEpoch ho he ?_)));rw[Xd 51];refine Z8 ?_;simp only[show ¬((i:Int)<0)by omega,if_false,XQ,Zc hi];refine Z2 ?_;first|refine Z2 (wpAny_typeNameOfWhole_keyiter hit.typeIs (Z8 (Z2 (wpAny_isOneOf_keyiter hit.typeIs ?_))))|refine Z2 (wpAny_typeNameOf_keyiter hit.typeIs (Z8 (Z2 (wpAny_isOneOf_keyiter hit.typeIs ?_))))
 refine(show wpAny _ _ (setField (.ref it) 1 (rawInt ((i:Int)+1)) >>= _) _ _ s from Z2 (wpAny_setField hio id' 51 ?_));have R3:(s.heap.update it (Obj.mapFields (·.setIfInBounds 1 (rawInt ((i:Int)+1))))).IsKeyIter it d (i+1) es.size ep:=⟨_,XD _ hio (Obj.isFreed_of_fields (Obj.data_mapFields id' _)),(Obj.cls_mapFields ..).trans ic,by rw[Obj.data_mapFields id'];simp[rawInt]⟩;refine Z2 (wpAny_holding (Z2 (wpAny_isOneOf_keyiter (s:={ s with heap:=s.heap.update it (Obj.mapFields (·.setIfInBounds 1 (rawInt ((i:Int)+1)))) }) R3.typeIs ?_)));exact(show wpAny _ _ (pure es[i].key) _ _ _ from Z8 (Z8 ⟨_,rfl,Z8 (q _ R3 (Heap.SameBut.update ..))⟩))
theorem zD{Q:Option Z5->Z6->Prop}(hh:A.handled=none)(hit:s.heap.IsKeyIter it d i es.size ep)(ho:s.heap.get? d=some o)(he:o.data=.dict es ep)(hi:es.size<=i)
  (q:∀h',Heap.ExtBut it s.heap h'->Q none { s with heap:=h' }):wpAny 69 A (pyNext (.ref it)) Q E s:=by
 let⟨io,hio,ic,id'⟩:=id hit;unfold pyNext;refine Z2 (wpAny_attempt (wpAny_callSpecial?_slot (name:=Str.ofString "__next__") hit.typeIs F.slot_dict_keyiterator_next (wpAny_call_entry F.slot_dict_keyiterator_next hit.typeIs F.entry_dict_keyiterator_next ?_ (F.args_dict_keyiterator_next_1 _))));refine Z2 (Z8 (Z2 (Z2 ?_)));first|refine Z2 (wpAny_typeNameOfWhole_keyiter hit.typeIs (Z8 (Z2 (wpAny_fieldsOf hio id' ?_))))|refine Z2 (wpAny_typeNameOf_keyiter hit.typeIs (Z8 (Z2 (wpAny_fieldsOf hio id' ?_))))
 simp only[show Builtin.Dict_items.ownsTuple "dict_keyiterator"=false by decide,Zt,if_false];refine(show wpAny _ _ (if (Value.ref d == Value.none)=true then _ else _) _ _ s from ?_);rw[Xd (show ¬((Value.ref d == Value.none)=true)from ZF)];refine Z2 (Z8 (Z2 (wpAny_dictEntries ho he ?_)));rw[Xd 51];refine Z2 (Z8 (Z2 (wpAny_dictEpoch ho he ?_)));rw[Xd 51];refine Z8 ?_;simp only[show ¬((i:Int)<0)by omega,if_false,XQ,Array.getElem?_eq_none hi];refine Z2 ?_;first|refine Z2 (wpAny_typeNameOfWhole_keyiter hit.typeIs (Z8 ?_));skip|refine Z2 (wpAny_typeNameOf_keyiter hit.typeIs (Z8 ?_));skip
 refine(show wpAny _ _ (setField (.ref it) 0 .none >>= _) _ _ s from Z2 (wpAny_setField hio id' 51 ?_));refine(show wpAny _ _ (newExc (.type "StopIteration") [] >>= _) _ _ _ from Z2 ?_);simp only[newExc,newTuple];refine Z2 (wpAny_newObj_type ?_ (by size_fits));refine Z2 (m:=firstArgMember _ _) (wpAny_of_eq (a:=Value.none) (by first|rfl|(simp only[firstArgMember];rfl)) (wpAny_newObj_type ?_ (by size_fits)));simp only[raiseNew];refine Z2 (wpAny_handled ?_);rw[show A.in1.handled=none from hh];refine Z2 (Z8 (wpAny_throw ?_));refine Z2 (wpAny_isInstance (T:="StopIteration") (b:=true) ⟨_,ZG _ rfl,rfl⟩ isSubtype_stop ?_);exact Z8 (q _ (((Heap.SameBut.update ..).extBut.push _).push _))
end
end OP
namespace OP
open PySem PySem.Spec PyProof PyProof.Rows L2 OG PySem.W
theorem xM(n:Nat):(Zp n).map (λk=>n-1-k)=(Zp n).reverse:=by
 refine List.ext_getElem 51 λi h1 h2=>?_;simp at h1;simp[List.getElem_reverse]
theorem zT(its:List Z5):slicePick its.toArray none none (some (-1))=its.reverse.toArray:=by
 have hr:sliceRange ((its.length:Int)-1) (-1) (-1)=(Zp its.length).reverse:=by
  rw[<-xM];unfold sliceRange;have h0:¬((-1:Int)>0):=by decide
  simp only[h0,if_false];have hc:(if (its.length:Int)-1 > -1 then((its.length:Int)-1 - -1 - -1-1) / - -1 else 0).toNat=its.length:=by
   by_cases h:(its.length:Int)-1 > -1;rw[Xe h];have:((its.length:Int)-1 - -1 - -1-1) / - -1=its.length:=by
    rw[Int.neg_neg,Int.ediv_one];omega
   rw[this];exact XQ _;rw[Xd h];simp;omega
  rw[hc];refine XW λk hk=>?_;have:=XH.mp hk;omega
 unfold slicePick sliceBounds;have h0:¬((-1:Int)>0):=by decide
 simp only[X9,h0,if_false,ZP,hr];rw[List.filterMap_reverse];have:=pick_run its.toArray 0 its.length;simp only[Xq,List.map_id',List.drop_zero]at this;rw[this,List.take_of_length_le 51]
theorem C9(its:List Z5):slicePick its.toArray none none (some 1)=its.toArray:=by
 unfold slicePick sliceBounds;have h0:(1:Int)>0:=by decide
 simp only[X9,h0,if_true,ZP];have:=sliceRange_one 0 its.length;simp only[Nat.sub_zero]at this;rw[show((0:Int))=((0:Nat):Int)from rfl,this];have:=pick_run its.toArray 0 its.length;rw[this,List.drop_zero,List.take_of_length_le 51]
theorem vW:∀{xs:List V} {us:List Z5},bS xs us->bS xs.reverse us.reverse
 |[],us,r=>by cases r;exact .nil
 |x::xs,us,r=>by
  cases r with
  |cons r1 r2=>
   rw[List.reverse_cons,List.reverse_cons];exact bS.append (vW r2) (.cons r1 .nil)
section
variable{X:Cx}{K:Z3}
def Rw(K:Z3)(te ts:TE):TE:=λσ H Q=>te σ H λx H1=>ts σ H1 λy H2=>∃(a:Addr) (xs:List V) (b:Bool),x=.ref a/\SqL K H2 a xs/\y=.int (if b then 1 else -1)/\∀p,H2 p=none->Q (.ref p) (upd H2 p (.lst (if b then xs else xs.reverse)))
theorem Ga{e st:ZN}{te ts:TE}{pos p2:Pos}(he:WE X e te)(hst:WE X st ts):WE X (.Subscript e (.Slice none none (some st) p2) pos) (Rw X.K te ts):=by
 constructor;intro a_ s σ H Q I h;refine Subscript_ (thn (he.h a_ s σ H _ I h) λv s1 hz=>?_);let⟨x,H1,I1,r1,q1⟩:=hz;refine wpAny_Slice ?_;rw[evalPart_none];refine Z8 (Z8 ?_);show wpAny _ _ (eval st X.env) _ _ s1;refine thn (hst.h a_ s1 σ H1 _ I1 q1) λvs s3 hz=>?_;let⟨y,H3,I3,ry,a,xs,b,rfl,hx,rfl,q⟩:=hz;cases r1;let⟨t,rfl⟩:=(show ∃t,vs=Value.int (if b then 1 else -1) t from ry);have I4:Inv X a_ σ H3 { s3 with heap:=s3.heap.push { cls:=.type "slice",data:=.fields #[.none,.none,.int (if b then 1 else -1) t] } }:=I3.kept (t':=s3.toks) λb ob q=>Z7 _ q;let⟨its,r,ht,hz⟩:=I4.list hx;have h_:=r.length;show wpAny 49 X.A (subscriptTail e (.Slice none none (some st) p2) (.ref a) (.ref s3.heap.objs.size)) (EP X a_ σ Q) X.xe { s3 with heap:=s3.heap.push { cls:=.type "slice",data:=.fields #[.none,.none,.int (if b then 1 else -1) t] } };refine tail_any (ops:=[.ref a,.ref s3.heap.objs.size]) ht.isList.typeIs slot_list_getitem.lookup ?_ 81;refine wpAny_getItem_list_slice ht.isList (Heap.IsSliceOf.new ..) .none .none (.int _ t) (by cases b<;>simp) ?_ (by rw[ZP]<;>omega);have hp:slicePick its.toArray none none (some (if b then 1 else -1))=(if b then its else its.reverse).toArray:=by
  cases b;exact zT its;exact C9 its
 rw[hp];refine⟨.ref _,_,I4.laid (t':=s3.toks) (o:=.lst (if b then xs else xs.reverse)) (λb ob q=>Z7 _ q) (ZW _) ?_,rfl,q _ (I4.hok.fresh (ZW _))⟩;cases b;exact⟨by simpa using hz,_,0,vW r,ZG _ rfl⟩;exact⟨hz,_,0,r,ZG _ rfl⟩
def D1(x y:U)(S:Sto):Option (U×Sto):=match x with
 |.ref l=>match y with
  |.int i=>match S[l]? with
   |some (.lst us)=>if i=1 then some (.ref S.length,S++[.lst us])else if i=-1 then some (.ref S.length,S++[.lst us.reverse])else none
   |_=>none
  |_=>none
 |_=>none
theorem KH{e st:ZN}{ca cs:CE}{pos p2:Pos}(ha:QE X e ca)(hs:QE X st cs):QE X (.Subscript e (.Slice none none (some st) p2) pos) (cOp D1 ca cs):=
 (Ga ha hs).imp λσ H Q hz=>kJ hz λm ρ S u S' sr lr hc post=>by
 let⟨⟨x,S1⟩,h1,h⟩:=Z0.mp hc;let⟨⟨y,S2⟩,h3,h4⟩:=Z0.mp h;refine⟨m,ρ,S,_,S1,sr,lr,h1,λm1 v1 H1 e1 sr1 i1=>⟨m1,ρ,S1,_,S2,sr1,lr.mono e1,h3,λm2 v2 H2 e2 sr2 i2=>?_⟩⟩;cases x with
 |ref l=>
  cases y with
  |int i=>
   simp only[D1]at h4;split at h4<;>try cases h4
   rename_i us hS;let⟨a,ha,rfl⟩:=(i1.mono e2).of_ref;let⟨a',ha',xs,hx,la⟩:=sr2.get hS;rw[ha]at ha';cases ha';split at h4;rename_i hi;subst hi;cases h4;refine⟨a,xs,true,rfl,SqL.of hx,i2.of_int,λp hp=>?_⟩;have en:Ext X.K m2 H2 (m2++[p]) (upd H2 p (.lst xs)):=.new (bu hp _);exact post (m2++[p]) _ _ ((e1.trans e2).trans en) (sr2.new hp ⟨xs,ax,la.mono en⟩) (.ref_ (cI sr2.len))
   ·split at h4<;>try cases h4
    rename_i hi;subst hi;refine⟨a,xs,false,rfl,SqL.of hx,i2.of_int,λp hp=>?_⟩;have en:Ext X.K m2 H2 (m2++[p]) (upd H2 p (.lst xs.reverse)):=.new (bu hp _);exact post (m2++[p]) _ _ ((e1.trans e2).trans en) (sr2.new hp ⟨xs.reverse,ax,la.rev.mono en⟩) (.ref_ (cI sr2.len))
  |_=>cases h4
 |_=>cases h4
end
theorem GL{prog:Zq}{w:Zr}{d:Addr}{o:Obj}{es:Array DictEntry}{ep:Nat}(hd:(d == sysModules)=false)(hc:o.ExactDict)(he:o.data=.dict es ep) :
  KdlSrc prog w "dict" d d es.size (λi v=>∃h:i<es.size,v=es[i].key) (λh=>h.get? d=some o) where
 type:=λs g=>⟨o,g,hc.1⟩
 there:=λh g=>⟨ZH g,ZH g⟩
 keep:=λh h' g m=>m d (.inl rfl) o g
 notList:=by decide
 notTuple:=by decide
 hint:=λA E s Q g q=>kdl_hint_dict ⟨o,g,hc.1⟩ q
 iter:=λA s hh g=>by
  refine⟨_,λi h=>h.IsKeyIter s.heap.objs.size d i es.size ep/\h.get? d=some o,λE Q q=>wk hd g hc he q,?_,⟨⟨_,ZG _ rfl,rfl,rfl⟩,Z7 _ g⟩⟩;refine⟨λb hb=>by simp at hb;simp[hb],λi h h' st m=>?_,λi s' Q E hi st k=>?_,λs' Q E st k=>?_,λi s' Q E st q=>?_⟩;let⟨⟨o1,g1,c1,d1⟩,g2⟩:=st;exact⟨⟨o1,m _ 51 o1 g1,c1,d1⟩,m _ 51 o g2⟩;refine wm st.1 st.2 he hi λh' it' sb=>k _ h' _ ⟨hi,rfl⟩ ⟨it',?_⟩ λb o' hb g'=>?_;have:d≠s.heap.objs.size:=ZL (ZH g);rw[sb.2 d this];exact st.2;rw[sb.2 b ‹hb›];exact g';exact zD hh st.1 st.2 he (ZW _) λh' eb=>k h' _ λb o' hb g'=>eb b o' ‹hb› g';exact wpAny_pyIter_keyiter st.1 q
end OP
namespace OP
open PySem PySem.Spec PyProof.Rows L2 OG
section
variable{P:Zq}{w:Zr}{K:Z3}{h base:Heap}{mg:Str->Option Z5}{x q:Str}{st:Zn}{f C:Addr}{oc:Z5}{od an:Option Addr}{osl:Array (Option Z5)}{kV doc pm cdv ct:Z5}{ps N:List Str}{k:Nat}{c:CS}{cl:Cl}
def Q6(K:Z3)(x q:Str)(st:Zn)(f:Addr):Prop:=∃fd,Fun K x q st f fd
abbrev fAt(x q:Str)(st:Zn)(oc:Z5)(od an:Option Addr)(osl:Array (Option Z5))(kV doc pm cdv ct:Z5):Obj:=⟨oc,od,.func (PySem.W.fnOf x q (jN st) (cK st) (ay st) .none kV doc pm an cdv ct),osl⟩
def MS(K:Z3)(x:Str)(st:Zn):Prop:=∃f,PySem.W.nsIn K mainGlobals x=some (some (.ref f))/\Q6 K x x st f
theorem RO(a:PySem.W.nsIn K mainGlobals x=some (some (.ref f)))(l:K.lookup f=some (fAt x x st oc od an osl kV doc pm cdv ct))(c:PySem.W.codeIn K cdv x=true)(k:PySem.W.keepIn K (.ref f)=true):MS K x st:=⟨f,a,_,Fd l c k⟩
def MR(K:Z3):List (Str×Zn)->Prop
 |[]=>True
 |(x,st)::r=>MS K x st/\MR K r
def MP(K:Z3)(C:Addr)(x q:Str)(st:Zn):Prop:=∃f,PySem.W.findIn K (.ref C) x=some (some (.ref f))/\PySem.W.isFn K (.ref f)=true/\Q6 K x q st f
theorem RH(a:PySem.W.findIn K (.ref C) x=some (some (.ref f)))(i:PySem.W.isFn K (.ref f)=true)(l:K.lookup f=some (fAt x q st oc od an osl kV doc pm cdv ct))(c:PySem.W.codeIn K cdv q=true)(k:PySem.W.keepIn K (.ref f)=true):MP K C x q st:=⟨f,a,i,_,Fd l c k⟩
def MO(K:Z3)(C:Addr):List (Str×Str×Zn)->Prop
 |[]=>True
 |(x,q,st)::r=>MP K C x q st/\MO K C r
def MN(K:Z3)(C:Addr):List Str->Prop
 |[]=>True
 |x::r=>PySem.W.findIn K (.ref C) x=some none/\MN K C r
def Nn(K:Z3):List Str->Prop
 |[]=>True
 |x::r=>PySem.W.nsIn K mainGlobals x=some none/\Nn K r
structure MU(K:Z3)(x:Str)(C:Addr)(ns:List Str)(ms:List (Str×Str×Zn)):Prop where
 a:PySem.W.nsIn K mainGlobals x=some (some (.ref C))
 pg:PySem.W.plainGet K C Str.empty=true
 hd:PySem.W.hasDictIn K C=true
 po:PySem.W.plainOver K C=true
 sa:PySem.W.findIn K (.ref C) "__setattr__"=some (some (.builtin "object.__setattr__"))
 mc:PySem.W.makesIn K C=true
 kc:PySem.W.keepIn K (.ref C)=true
 nf:MN K C ns
 ms:MO K C ms
theorem MN.nas:∀{ns:List Str},MN K C ns->∀f∈ns,PySem.W.findIn K (.ref C) f=some none
 |[],_,f,h=>by cases h
 |x::r,h,f,hf=>by
  rcases ZT.mp hf with rfl|z;exact h.1;exact MN.nas h.2 f z
theorem MU.tc{ns:List Str}{ms:List (Str×Str×Zn)}(h:MU K x C ns ms):TC K (⟨C,ns⟩:Cl) ns:=⟨⟨h.pg,h.hd,h.po,h.sa⟩,rfl,λf hf=>h.nf.nas f hf⟩
abbrev Bd(x q:Str)(st:Zn)(ps:List Str):Prop:=∀us:List Z5,us.length=ps.length->∀(kV doc pm:Z5) (an:Option Addr) (cdv ct:Z5),bindArgs (PySem.W.fnOf x q (jN st) (cK st) (ay st) .none kV doc pm an cdv ct) ⟨us,[]⟩=pure (ps.zip us)
theorem MS.df(d:MS K x st)(X:K.In h)(G:h.Ns mainGlobals mg)(b:Bd x x st ps:=by first|exact Jf λ_ _ _ _ _ _=>rfl|(repeat (first|exact Jf λ_ _ _ _ _ _=>rfl|refine P8 λ_=>?_))):Def K mg x st ps:=by
 let⟨f,a,fd,F⟩:=d;exact⟨f,fd,F,F.binds λkV doc pm an cdv ct us hl=>b us hl kV doc pm an cdv ct,PySem.W.mg_of X G a⟩
def MtD(K:Z3)(C:Addr)(x q:Str)(st:Zn)(ps:List Str):Prop:=∃fa fd,Fun K x q st fa fd/\ig K fd ps []/\IY K C x fa
theorem MP.mt(d:MP K C x q st)(b:Bd x q st ps:=by first|exact Jf λ_ _ _ _ _ _=>rfl|(repeat (first|exact Jf λ_ _ _ _ _ _=>rfl|refine P8 λ_=>?_))):MtD K C x q st ps:=by
 let⟨f,a,i,fd,F⟩:=d;exact⟨f,fd,F,F.binds λkV doc pm an cdv ct us hl=>b us hl kV doc pm an cdv ct,a,i,F.kp⟩
theorem MtD.pure(d:MtD K cl.C x q st ps)(S:cN N ps (ay st))
  (hb:∀(f:Addr) (cdv:Z5) (A:Ze) (outer:List Env) (s:Z6) (H:Hp) (E:XK),eQ k (A.deeper (envOfC q (ay st) s.heap.objs.size f cdv))->WSs (mJ CX0 P w K mg base N q (ay st) f cdv A outer s H E).nox (cK st) (tS K c)) :
  i7 P w K mg base cl x (k+1) ps (fnU N.length ps.length c):=by
 let⟨fa,fd,F,b,m⟩:=d;exact⟨fa,fd,m,F.pure S (hb fa),b⟩
def MkD(K:Z3)(mg:79)(C:Addr)(x q:Str)(st:Zn)(ps:List Str):Prop:=∃fa fd,Fun K "__init__" q st fa fd/\ig K fd ps []/\Mk K C fa/\mg x=some (.ref C)
theorem MU.mkd{ns:List Str}{ms:List (Str×Str×Zn)}(h0:MU K x C ns ms)(d:MP K C "__init__" q st)(X:K.In h)(G:h.Ns mainGlobals mg)(b:Bd "__init__" q st ps:=by first|exact Jf λ_ _ _ _ _ _=>rfl|(repeat (first|exact Jf λ_ _ _ _ _ _=>rfl|refine P8 λ_=>?_))):MkD K mg C x q st ps:=by
 let⟨f,a,i,fd,F⟩:=d;exact⟨f,fd,F,F.binds λkV doc pm an cdv ct us hl=>b us hl kV doc pm an cdv ct,⟨h0.mc,a,i,h0.kc⟩,PySem.W.mg_of X G h0.a⟩
theorem MkD.pure{NS:List Str}(d:MkD K mg cl.C x q st ps)(T:TC K cl NS)(S:cN N ps (ay st))
  (hb:∀(f:Addr) (cdv:Z5) (A:Ze) (outer:List Env) (s:Z6) (H:Hp) (E:XK),eQ k (A.deeper (envOfC q (ay st) s.heap.objs.size f cdv))->WSs (mJ CX0 P w K mg base N q (ay st) f cdv A outer s H E).nox (cK st) (tS K c))
  (nd:NS.Nodup:=by decide +kernel) (few:NS.length<1000:=by decide):CMk P w K mg base cl x (k+1) ps (fnU N.length ps.length c):=by
 let⟨fa,fd,F,b,m,g⟩:=d;exact⟨⟨fa,fd,m,F.pure S (hb fa),b,g⟩,by rw[T.ns];exact nd,by rw[T.ns];exact few⟩
def Q3:List Str:=["len","isinstance","int","bool","str","tuple","list","range","min","sum","all","zip","sorted","dict","enumerate","any","max","set"]
theorem Nn.blt(z:Nn K Q3)(X:K.In h)(G:h.Ns mainGlobals mg):Blt mg:=by
 obtain⟨a,b,c,d,e,f,g,i,j,k,l,m,n,o,p,q,r,s,-⟩:=z;constructor<;>(refine PySem.W.mg_none_of X G ?_;assumption)
end
end OP
namespace OP
open PySem PySem.Spec PyProof PyProof.Rows L2 OG PySem.W
variable{P:Zq}{w:Zr}{s:Z6}{A:Ze}{E:Z5->Z6->Prop}
section
def NI(P:Zq)(w:Zr)(h:Heap)(k:List Int)(v:Z5):Prop:=∃b,v=.ref b/\IsTupleKey (intKind P w) h k b
def vL(P:Zq)(w:Zr)(h:Heap)(ks:NK)(a:Addr):Prop:=∃o its n,h.get? a=some o/\o.cls=.type "tuple"/\o.data=.seq its n/\Paired (NI P w h) ks its.toList
def dNK(ks:NK):Nat:=(ks.map λk=>k.length+1).sum
variable{h:Heap}
def vL.ty{ks:NK}{a:Addr}(x:vL P w s.heap ks a):s.TypeIs (.ref a) "tuple":=let ⟨o,_,_,g,c,_⟩:=x;⟨o,g,c⟩
theorem E4:∀{ks ls:NK} {vs:List Z5},Paired (NI P w h) ks vs->Paired (NI P w h) ls vs->ks=ls
 |_,_,_,.nil,.nil=>rfl
 |_,_,_,.cons a r,.cons b t=>by
  let⟨x,rfl,p⟩:=a;let⟨y,e,q⟩:=b;cases e;rw[p.inj q,E4 r t]
theorem vL.inj{ks ls:NK}{a:Addr}(x:vL P w h ks a)(y:vL P w h ls a):ks=ls:=by
 let⟨o,its,n,g,_,d,r⟩:=x;let⟨o',its',n',g',_,d',r'⟩:=y;rw[g]at g';cases g';rw[d]at d';cases d';exact E4 r r'
theorem vL.keeps{h':Heap}{ks:NK}{a d:Addr}{o:Obj}{es ep}(x:vL P w h ks a)(g0:h.get? d=some o)(d0:o.data=.dict es ep)(sb:XC d h h'):vL P w h' ks a:=by
 let⟨ob,its,n,g,c,e,r⟩:=x;have ne:a≠d:=λz=>by subst z;rw[g]at g0;cases g0;rw[e]at d0;cases d0
 exact⟨ob,its,n,(sb.2 a ne).trans g,c,e,Paired.mapP r λk v ⟨b,e1,t⟩=>⟨b,e1,t.keeps g0 d0 sb⟩⟩
theorem HE{ks:NK}{a:Addr}{Q:Int->Z6->Prop}(hu:A.units+1<cLine)(hk:vL P w s.heap ks a)(q:Q (hNK ks) { s with toks:=s.toks+(dNK ks+1) }):wpAny (ZS P w) A (pyHash (.ref a)) Q E s:=by
 have T:=hk.ty;let⟨o,its,n,g,_,d,r⟩:=hk;have eh:hNK ks=reduceHash (Builtin.Tuple.tupleHashOf (ks.map (tupleKeyHash (intKind P w)))):=rfl;rw[eh]at q;clear eh;unfold pyHash;first|unfold pyHashByItsType|skip
 first|refine Z2 (wpAny_cRoomFor_or (Or.inr (Nat.lt_of_succ_lt hu)) ?_)|skip
 refine Z2 (wpAny_specialOf T PySem.F.slot_tuple_hash.lookup ?_);have nb:¬(some (Value.builtin "tuple.__hash__") == some Value.none)=true:=by rw[beq_builtin_none];exact ZF
 dsimp only;rw[Xd nb];refine Z2 (wpAny_specialOf T PySem.F.slot_tuple_hash.lookup ?_);refine Z2 (wpAny_callSpecialIfBoundUnlessNone?_slot T PySem.F.slot_tuple_hash (wpAny_call_entry PySem.F.slot_tuple_hash T PySem.F.entry_tuple_hash ?_ (PySem.F.args_tuple_hash_1 _)));refine Z2 (m:=Builtin.Tuple.tupleItemsOf (.ref a)) (wpAny_tupleItemsOf g d ?_);refine Z2 ?_;rw[<-Array.forIn_toList];refine wpAny_forIn_list _ (λe_ (b:Array Int) s'=>∃fore aft,ks=fore++aft/\Paired (NI P w s.heap) aft e_/\b.toList=fore.map (tupleKeyHash (intKind P w))/\s'={ s with toks:=s.toks+dNK fore }) _ ?_ ?_ _ _ ⟨[],ks,rfl,r,rfl,rfl⟩
 ·rintro x e_ b s' ⟨fore,aft,rfl,hl,hb,rfl⟩;cases hl with
  |@cons k _ ks' _ h1 hl'=>
   let⟨c,rfl,t⟩:=h1;refine Z2 (wpAny_pyHash_tuple (s:={ s with toks:=s.toks+dNK fore }) hu t ?_);have fin:∃fore' aft',fore++k::ks'=fore'++aft'/\Paired (NI P w s.heap) aft' e_/\(b.push (tupleKeyHash (intKind P w) k)).toList=fore'.map (tupleKeyHash (intKind P w))/\({ s with toks:=s.toks+dNK fore+(k.length+1) }:Z6)={ s with toks:=s.toks+dNK fore' }:=⟨fore++[k],ks',by simp,hl',by simp[hb],by simp[dNK,Nat.add_assoc]⟩;first
    |exact Z8 fin
    |exact Z2 (Z8 (Z8 fin))
 rintro b s' ⟨fore,aft,rfl,hl,hb,rfl⟩;cases hl;rw[Zj]at q;show wpAny _ _ (retInt (Builtin.Tuple.tupleHashOf b.toList)) _ _ _;rw[hb];refine wpAny_ret_mkInt ?_;unfold reduceHash at q;unfold pyHashByItsType.reduced;dsimp only;split at q;rename_i c;rw[Xe c];exact Z8 (by simpa [Nat.add_assoc] using q);rename_i c;rw[Xd c];exact Z2 (wpAny_rule (Z8 (by simpa [Nat.add_assoc] using q)))
theorem LB{x y:NK}{a b:Addr}{R:PySem.Fin->Z6->Prop}(hu:A.units<cLine)(hx:vL P w s.heap x a)(hy:vL P w s.heap y b)(q:R (.done (.ret (.bool (decide (x=y))))) s) :
  wpAny (ZS P w) A (Builtin.«tuple.__eq__» ⟨[.ref a,.ref b],[]⟩) R E s:=by
 have T:=hy.ty;let⟨oa,xs,na,ga,_,da,ra⟩:=hx;let⟨ob,ys,nb,gb,_,db,rb⟩:=hy;refine Z2 (m:=isInstance (.ref b) (.type "tuple")) (wpAny_isInstance T isSubtype_tuple_tuple ?_);simp only[Xh,Zt,if_false];refine Z2 (wpAny_tupleItemsOf ga da (Z2 (wpAny_tupleItemsOf gb db (Z2 ?_))));refine wpAny_forIn_list _ (λe_ r s'=>r.1=none/\s'=s/\∃x' y' us vs,e_=List.zip us vs/\Paired (NI P w s.heap) x' us/\Paired (NI P w s.heap) y' vs/\decide (x'=y')=decide (x=y)/\(us.length == vs.length)=(xs.size == ys.size)) _ ?_ ?_ _ _ ⟨rfl,rfl,x,y,xs.toList,ys.toList,rfl,ra,rb,rfl,by simp⟩
 ·rintro⟨u,v⟩ e_ r s' ⟨hr,rfl,x',y',us,vs,hz,h1,h2,hd,hl⟩;cases h1 with
  |nil=>simp at hz
  |@cons k1 _ x2 us2 p1 t1=>cases h2 with
   |nil=>simp at hz
   |@cons k2 _ y2 vs2 p2 t2=>
    rw[List.zip_cons_cons]at hz;injection hz with e1 e2;injection e1 with e3 e4;subst e2;subst e3;subst e4;let⟨c1,rfl,q1⟩:=p1;let⟨c2,rfl,q2⟩:=p2;refine Z2 (wpAny_eqBool_tuple hu q1 q2 ?_);by_cases hk:k1=k2
    ·subst hk;rw[Xa rfl];simp only[Xh,Zt,if_false];refine Z8 ⟨rfl,rfl,x2,y2,us2,vs2,rfl,t1,t2,?_,by simpa using hl⟩;rw[<-hd];by_cases hxy:x2=y2<;>simp[hxy]
    rw[Xf hk];simp only[Bool.not_false,if_true];have hf:decide (x=y)=false:=by rw[<-hd];simp[hk]
    rw[hf]at q;exact Z2 (Z8 (Z8 (Z8 q)))
 rintro⟨r1,r2⟩ s' ⟨hr,rfl,x',y',us,vs,hz,h1,h2,hd,hl⟩;dsimp only at hr;subst hr;refine Z8 ?_;have e:(xs.size == ys.size)=decide (x=y):=by
  rw[<-hd,<-hl];cases h1 with
  |nil=>cases h2 with
   |nil=>simp
   |cons _ _=>simp
  |cons _ _=>cases h2 with
   |nil=>simp
   |cons _ _=>simp at hz
 rw[<-e]at q;exact q
theorem Pd{x y:NK}{a b:Addr}{Q:Bool->Z6->Prop}(hu:A.units+1<cLine)(hx:vL P w s.heap x a)(hy:vL P w s.heap y b)(q:Q (decide (x=y)) s):wpAny (ZS P w) A (eqBool (.ref a) (.ref b)) Q E s:=by
 unfold eqBool;try with_reducible refine wpAny_holding ?_
 dsimp only;by_cases hab:(Value.ref a == Value.ref b)=true;rw[Xe hab];have e:a=b:=by have:=eq_of_beq hab;injection this
 subst e;obtain rfl:=hx.inj hy;exact Z2 (wpAny_rule (Z8 ‹q›));rw[Xd hab];exact Z2 (wpAny_richCompare_same_room (op:=.Eq) hx.ty hy.ty PySem.F.slot_tuple_eq (wpAny_call_entry PySem.F.slot_tuple_eq hx.ty PySem.F.entry_tuple_eq (LB hu hx hy ⟨_,rfl,(λe=>nomatch e),wpAny_truthy_bool q⟩) (PySem.F.args_tuple_eq_2 _ _)) (Nat.lt_of_succ_lt hu))
theorem Af{ks:List Int}{a:Addr}{n:Nat}{Q:Bool->Z6->Prop}(hk:IsTupleKey (intKind P w) s.heap ks a)(q:Q true s):wpAny (ZS P w) A (eqIsQuiet (n+1) (.ref a)) Q E s:=by
 have T:=hk.typeIs;let⟨o,its,k,g,_,d,i⟩:=hk;unfold eqIsQuiet;refine Z2 (wpAny_specialOf T PySem.F.slot_tuple_eq.lookup ?_);refine Z2 (m:=isInstance (.ref a) (.type "tuple")) (wpAny_isInstance T isSubtype_tuple_tuple ?_);simp only[Xh,Zt,if_false];refine Z2 (wpAny_seqItems g d (Z2 ?_));change wpAny _ _ (forIn its _ _) _ _ s;rw[<-Array.forIn_toList];refine wpAny_forIn_list _ (λe_ r s'=>r.1=none/\s'=s/\∀v∈e_,carriedByValue v=true) _ ?_ ?_ _ _ ⟨rfl,rfl,i.byValue⟩;rintro v e_ r s' ⟨hr,rfl,all⟩;rw[eqIsQuiet_byValue _ (all v ZD)];refine Z2 (Z8 ?_);simp only[Xh,Zt,if_false];exact Z8 ⟨rfl,rfl,λu hu'=>all u (ZY _ hu')⟩;rintro⟨r1,r2⟩ s' ⟨hr,rfl,_⟩;dsimp only at hr;subst hr;exact Z8 q
theorem Dz{ks:NK}{a:Addr}{Q:Bool->Z6->Prop}(hk:vL P w s.heap ks a)(q:Q true s):wpAny (ZS P w) A (eqIsQuiet 8 (.ref a)) Q E s:=by
 have T:=hk.ty;let⟨o,its,k,g,_,d,i⟩:=hk;unfold eqIsQuiet;refine Z2 (wpAny_specialOf T PySem.F.slot_tuple_eq.lookup ?_);refine Z2 (m:=isInstance (.ref a) (.type "tuple")) (wpAny_isInstance T isSubtype_tuple_tuple ?_);simp only[Xh,Zt,if_false];refine Z2 (wpAny_seqItems g d (Z2 ?_));change wpAny _ _ (forIn its _ _) _ _ s;rw[<-Array.forIn_toList];refine wpAny_forIn_list _ (λe_ r s'=>r.1=none/\s'=s/\∃ls,Paired (NI P w s.heap) ls e_) _ ?_ ?_ _ _ ⟨rfl,rfl,ks,i⟩;rintro v e_ r s' ⟨hr,rfl,ls,all⟩;cases all with
 |cons p t=>
  let⟨c,rfl,p⟩:=p;refine Z2 (Af p ?_);simp only[Xh,Zt,if_false];exact Z8 ⟨rfl,rfl,_,t⟩
 rintro⟨r1,r2⟩ s' ⟨hr,rfl,_⟩;dsimp only at hr;subst hr;exact Z8 q
end
def fi(P:Zq)(w:Zr):HeapKind P w NK where
 is:=vL P w
 hash:=hNK
 draws:=λks=>dNK ks+1
 room:=λA=>A.units+1<cLine
 inj:=λx y=>x.inj y
 keeps:=λx g d sb=>x.keeps g d sb
 pyHash:=λhu hk q=>HE hu hk q
 eqBool:=λhu x y q=>Pd hu x y q
 quiet:=λhk q=>Dz hk q
variable{K:Z3}{H:Hp}{X:Cx}{a:Addr}{kvs:List ((NK×Addr)×V)}
section
theorem wV:∀{ns:List Int} {us:List Z5},bS (ns.map V.int) us->ItemsAre (intKind P w) ns us
 |[],_,r=>by cases r;exact .nil
 |n::ns,_,r=>by
  cases r with
  |cons a t=>let⟨k,rfl⟩:=a;exact .cons (intKind_is _ _ _ _) (wV t)
theorem wj:∀{cs:List Addr} {us:List Z5},bS (cs.map V.ref) us->us=cs.map Value.ref
 |[],_,r=>by cases r;rfl
 |c::cs,_,r=>by
  cases r with
  |cons a t=>cases a;rw[wj t];rfl
variable{a_:List (Addr×Obj)}{σ:L2.St}{b:Addr}{k:NK}{v:V}
theorem uW(I:47)(h:gQ X.K H b k):(fi X.prog X.w).is s.heap k b:=by
 let⟨cs,p,q⟩:=h;let⟨its,r,⟨o,h1,h2,n,h3⟩,hz⟩:=I.tuple p;have e:=wj r;subst e;refine⟨o,_,n,h1,h2,h3,?_⟩;clear p r h3 hz;induction q with
 |nil=>exact .nil
 |cons z _ ih=>
  refine .cons ?_ ih;let⟨its,r,⟨o,h1,h2,n,h3⟩,_⟩:=I.tuple z;exact⟨_,rfl,o,its.toArray,n,h1,h2,h3,by simpa using wV r⟩
theorem KN.val{xs:List (NK×Addr×Z5)}(r:KN kvs xs)(k:NK):rS (fk (nP kvs) k) ((atKey xs k).map (·.2)):=by
 induction r with
 |nil=>exact True.intro
 |@cons p q ps qs h t ih=>
  let⟨h1,_,h2⟩:=h;by_cases e:p.1.1=k;have e':q.1=k:=h1.symm.trans e;have b:atKey (q::qs) k=some q.2:=by simp[atKey,Zl,e']
  have c:fk (nP (p::ps)) k=some p.2:=by simp[fk,nP,Zl,e]
  rw[c,b];exact h2;have e':¬q.1=k:=λz=>e (h1.trans z);have b:atKey (q::qs) k=atKey qs k:=by simp[atKey,Zl,e']
  have c:fk (nP (p::ps)) k=fk (nP ps) k:=by simp[fk,nP,Zl,e]
  rw[c,b];exact ih
def sU(kvs:List ((NK×Addr)×V))(k:NK)(b:Addr)(v:V):List ((NK×Addr)×V):=if (fk (nP kvs) k).isSome=true then kvs.map λp=>if p.1.1=k then(p.1,v)else p else kvs++[((k,b),v)]
theorem E5:nP (sU kvs k b v)=mL (nP kvs) k v:=by
 unfold sU mL;have e:((nP kvs).any λkv=>decide (kv.1=k))=(fk (nP kvs) k).isSome:=by rw[jZ]
 rw[e];split;unfold nP;rw[Za,Za];refine XW λp _=>?_;dsimp only[Function.comp];by_cases c:p.1.1=k;rw[Xe c,Xe c];rw[Xd c,Xd c];unfold nP;rw[Zb];rfl
theorem wx{p:(NK×Addr)×V}(h:p∈sU kvs k b v):(∃q∈kvs,q.1=p.1)\/p.1=(k,b):=by
 unfold sU at h;split at h;let⟨q,hq,e⟩:=Zy.mp h;refine .inl ⟨q,hq,?_⟩;split at e;rw[<-e];rw[e];rcases X4.mp h with z|z;exact .inl ⟨p,z,rfl⟩;rw[Zw.mp z];exact .inr rfl
theorem qF:(sU kvs k b v).length<=kvs.length+1:=by
 unfold sU;split;rw[ZQ];omega;rw[ZV];exact ZW _
theorem KN.put{xs:List (NK×Addr×Z5)}{u:Z5}(r:KN kvs xs)(ru:cP v u):KN (sU kvs k b v) (storedH xs k b u):=by
 have e:=(r.val k).isSome_eq;rw[XS]at e;unfold sU storedH;rw[e];split;clear e;rename_i hs;clear hs;induction r with
 |nil=>exact .nil
 |@cons p q ps qs h t ih=>
  rw[ZR,ZR];refine .cons ?_ ih;let⟨h1,h2,h3⟩:=h;unfold putAt;by_cases c:p.1.1=k;rw[Xe c,Xe (h1.symm.trans c)];exact⟨h1,h2,ru⟩;rw[Xd c,Xd (λz=>c (h1.trans z))];exact⟨h1,h2,h3⟩
 exact Paired.snoc r ⟨rfl,rfl,ru⟩
theorem vo(I:47)(e:Rd H a (dNo a kvs))(ky:∀p∈kvs,gQ X.K H p.1.2 p.1.1):kvs.length<=ZC/\(a == sysModules)=false/\∃xs,KN kvs xs/\s.heap.DictOfH (fi X.prog X.w) a xs:=by
 let⟨⟨z,y,xs,r,o,es,ep,h1,h2,h3,h4,h5⟩,e_⟩:=(show bU X.prog X.w H s.heap a (dNo a kvs)from e.ok I.hok);refine⟨z,y,xs,r,o,es,ep,h1,h2,h3,h4,λx hx=>?_,h5⟩;clear h4 h5 e z e_;induction r with
 |nil=>exact nomatch hx
 |@cons p q ps qs hq t ih=>
  rcases ZT.mp hx with e|hx;subst e;have:=uW I (ky p ZD);rw[hq.1,hq.2.1]at this;exact this;exact ih (λp hp=>ky p (ZY _ hp)) hx
theorem Ph{Q:Z5->Z6->Prop}(hu:A.units+2<cLine)(I:47)(e:Rd H a (dNo a kvs))(ky:∀p∈kvs,gQ X.K H p.1.2 p.1.1)(kb:gQ X.K H b k)(l:fk (nP kvs) k=some v)(q:∀w' s',Inv X a_ σ H s'->cP v w'->Q w' s') :
  wpAny 49 A (getItem (.ref a) (.ref b)) Q E s:=by
 let⟨z,hd,xs,rel,dd⟩:=vo I e ky;let⟨w',hw,rw'⟩:=rS.some_of (v:=v) (o:=(atKey xs k).map (·.2)) (by rw[<-l];exact rel.val k);let⟨p,hp,hp2⟩:=X1.mp hw;refine wpAny_getItem_heap (knd:=fi X.prog X.w) hu (uW I kb) dd hp ?_;rw[hp2];exact q w' _ (I.tok _) rw'
theorem Pg{Q:Z5->Z6->Prop}(hu:A.units+2<cLine)(I:47)(e:Rd H a (dNo a kvs))(ky:∀p∈kvs,gQ X.K H p.1.2 p.1.1)(kb:gQ X.K H b k)(q:∀s',Inv X a_ σ H s'->Q (.bool (!(fk (nP kvs) k).isSome)) s') :
  wpAny 49 A (compareOp .NotIn (.ref b) (.ref a)) Q E s:=by
 let⟨z,hd,xs,rel,dd⟩:=vo I e ky;refine wpAny_notIn_heap (knd:=fi X.prog X.w) hu (uW I kb) hd dd ?_;have e1:=(rel.val k).isSome_eq;rw[XS]at e1;rw[<-e1];exact q _ (I.tok _)
theorem wZ{h':Heap}{P:Zq}{w:Zr}{xs:List (NK×Addr×Z5)}(z:kvs.length<=ZC)(hd:(a == sysModules)=false)(rel:KN kvs xs)(dd:h'.DictOfH (fi P w) a xs):bU P w H h' a (dNo a kvs):=by
 let⟨o,es,ep,h1,h2,h3,h4,_,h5⟩:=dd;refine⟨⟨z,hd,xs,rel,o,es,ep,h1,h2,h3,h4,h5⟩,⟨o,h1⟩,λg1 g2 ⟨z,y,xs,r,o,es,ep,h1,h2⟩ k=>⟨z,y,xs,r,o,es,ep,k o h1,h2⟩⟩
theorem Pf{u:Z5}{Q:Unit->Z6->Prop}(hu:A.units+2<cLine)(I:47)(e:H a=some (dNo a kvs))(ky:∀p∈kvs,gQ X.K H p.1.2 p.1.1)(kb:gQ X.K H b k)(hl:kvs.length<ZC)(ru:cP v u)
  (q:∀s',Inv X a_ σ (upd H a (dNo a (sU kvs k b v))) s'->Q () s'):wpAny 49 A (setItem (.ref a) (.ref b) u) Q E s:=by
 let⟨z,hd,xs,rel,dd⟩:=vo I (.inl e) ky;have hz:xs.length<=ZC:=by rw[<-Paired.length rel];exact z
 refine wpAny_setItem_heap (hsz:=hz) (knd:=fi X.prog X.w) hu (uW I kb) dd λh' dd' hs=>q _ ?_;let⟨o,es,ep,h1,_⟩:=id dd';exact lG I (by rw[e];exact True.intro) hs ⟨o,h1⟩ (wZ (by have:=qF (kvs:=kvs) (k:=k) (b:=b) (v:=v);omega) hd (rel.put ru) dd')
end
variable{m:List Addr}
def uO:List U->Option NK
 |[]=>some []
 |.tup us::r=>(qW us).bind λk=>(uO r).map (k::·)
 |_=>none
theorem Ae:∀{us:List U} {xs:List V} {ks:NK},IsL K m H xs us->uO us=some ks->∃cs:List Addr,xs=cs.map V.ref/\Paired (λ(l:List Int) c=>SqT K H c (l.map V.int)) ks cs
 |[],xs,ks,i,h=>by cases h;exact⟨[],i.of_nil,.nil⟩
 |u::us,xs,ks,i,h=>by
  unfold uO at h;split at h;rename_i e;cases e;rename_i us' r e;injection e with e1 e2;subst e1;subst e2;let⟨k,hk,h⟩:=Z0.mp h;let⟨ks',hk',rfl⟩:=X1.mp h;let⟨x,r,rfl,ix,ir⟩:=i.of_cons;let⟨c,ys,rfl,sq,il⟩:=ix.of_tup;rw[kF hk]at il;rw[IsL.ints il]at sq;let⟨cs,rfl,q⟩:=Ae ir hk';exact⟨c::cs,rfl,.cons sq q⟩;cases h
theorem xX{us:List U}{v:V}{ks:NK}(i:Is K m H v (.tup us))(h:uO us=some ks):∃b,v=.ref b/\gQ K H b ks:=by
 let⟨b,xs,rfl,sq,il⟩:=i.of_tup;let⟨cs,rfl,q⟩:=Ae il h;exact⟨b,rfl,cs,sq,q⟩
def vt(S:Sto)(l:Nat):Option (List (NK×U)):=match S[l]? with
 |some (.dnt kus)=>some kus
 |some (.fdn _ kus)=>some kus
 |_=>none
theorem IC{S:Sto}{l:Nat}{kus:List (NK×U)}{a:Addr}(sr:Sr K m S H)(ha:m[l]?=some a)(h:vt S l=some kus):∃kvs,Rd H a (dNo a kvs)/\(∀p∈kvs,gQ K H p.1.2 p.1.1)/\IsP K m H (nP kvs) kus:=by
 unfold vt at h;split at h<;>try cases h
 rename_i hS;let⟨a',ha',kvs,hx,ky,ip⟩:=sr.get hS;rw[ha]at ha';cases ha';exact⟨kvs,.inl hx,ky,ip⟩;rename_i ep hS;let⟨a',ha',ob,es,kvs,hx,hd,ky,ip⟩:=sr.get hS;rw[ha]at ha';cases ha';exact⟨kvs,.inr ⟨ob,hx⟩,ky,ip⟩
def Oy(K:Z3)(td ty:TE):TE:=λσ H Q=>td σ H λx H1=>ty σ H1 λy H2=>∃a b kvs k v,x=.ref a/\y=.ref b/\Rd H2 a (dNo a kvs)/\(∀p∈kvs,gQ K H2 p.1.2 p.1.1)/\gQ K H2 b k/\fk (nP kvs) k=some v/\Q v H2
theorem Gk{o i:ZN}{td ty:TE}{pos:Pos}(hu:X.A.units+2<cLine)(ho:WE X o td)(hi:WE X i ty)(hs:IX i):WE X (.Subscript o i pos) (Oy X.K td ty):=by
 constructor;intro a_ s σ H Q I h;refine zh PySem.F.slot_dict_getitem.lookup hs (thn (ho.h a_ s σ H _ I h) λu s1 hz=>?_);let⟨x,H1,I1,rx,q1⟩:=hz;refine thn (hi.h a_ s1 σ H1 _ I1 q1) λiv s2 hz=>?_;let⟨y,H2,I2,ry,a,b,kvs,k,v,rfl,rfl,e,ky,kb,l,q2⟩:=hz;cases rx;cases ry;let⟨_,_,xs,rel,dd⟩:=vo I2 e ky;exact⟨dd.typeIs,Ph hu I2 e ky kb l λw' s' I' r=>⟨v,H2,I',r,q2⟩⟩
def yx:U->U->Sto->Option (U×Sto):=λx y S=>match x with
 |.ref l=>match y with
  |.tup us=>(uO us).bind λks=>(vt S l).bind λkus=>(cg kus ks).bind λu=>some (u,S)
  |_=>none
 |_=>none
theorem GU{a b:ZN}{ca cb:CE}{pos:Pos}(hu:X.A.units+2<cLine)(ha:QE X a ca)(hb:QE X b cb)(hs:IX b):QE X (.Subscript a b pos) (cOp yx ca cb):=
 (Gk hu ha hb hs).imp λσ H Q hz=>kJ hz λm ρ S u S' sr lr hc post=>by
 let⟨⟨x,S1⟩,h1,h⟩:=Z0.mp hc;let⟨⟨y,S2⟩,h3,h4⟩:=Z0.mp h;refine⟨m,ρ,S,_,S1,sr,lr,h1,λm1 v1 H1 e1 sr1 i1=>⟨m1,ρ,S1,_,S2,sr1,lr.mono e1,h3,λm2 v2 H2 e2 sr2 i2=>?_⟩⟩;cases x with
 |ref l=>cases y with
  |tup us=>
   simp only[yx]at h4;let⟨ks,hk,h5⟩:=Z0.mp h4;let⟨kus,hd,h6⟩:=Z0.mp h5;let⟨z,hv,h7⟩:=Z0.mp h6;cases h7;let⟨a,ha,rfl⟩:=(i1.mono e2).of_ref;let⟨b,rfl,kb⟩:=xX i2 hk;let⟨kvs,rd,ky,ip⟩:=IC sr2 ha hd;have rf:=IsP.val (k:=ks) ip;rw[hv]at rf;cases hw:fk (nP kvs) ks with
   |none=>rw[hw]at rf;exact rf.elim
   |some w=>
    rw[hw]at rf;exact⟨a,b,kvs,ks,w,rfl,rfl,rd,ky,kb,hw,post m2 _ H2 (e1.trans e2) sr2 rf⟩
  |_=>cases h4
 |_=>cases h4
def Kd(K:Z3)(ty td:TE):TE:=λσ H Q=>ty σ H λy H1=>td σ H1 λx H2=>∃a b kvs k,x=.ref a/\y=.ref b/\Rd H2 a (dNo a kvs)/\(∀p∈kvs,gQ K H2 p.1.2 p.1.1)/\gQ K H2 b k/\Q (.bl (!(fk (nP kvs) k).isSome)) H2
theorem Gm{o i:ZN}{td ty:TE}(hu:X.A.units+2<cLine)(hi:WE X i ty)(ho:WE X o td):WC X .NotIn i o (Kd X.K ty td):=by
 constructor;intro a_ s σ H Q I h;refine thn (hi.h a_ s σ H _ I h) λiv s1 hz=>?_;let⟨y,H1,I1,ry,q1⟩:=hz;refine thn (ho.h a_ s1 σ H1 _ I1 q1) λu s2 hz=>?_;let⟨x,H2,I2,rx,a,b,kvs,k,rfl,rfl,e,ky,kb,q2⟩:=hz;cases rx;cases ry;exact Pg hu I2 e ky kb λs3 I3=>⟨.bl _,H2,I3,rfl,q2⟩
def wY:U->U->Sto->Option (U×Sto):=λy x S=>match x with
 |.ref l=>match y with
  |.tup us=>(uO us).bind λks=>(vt S l).bind λkus=>some (.bl (!(cg kus ks).isSome),S)
  |_=>none
 |_=>none
theorem Dy{ca cb:CE}:∀σ H Q,tE X.K (cOp wY ca cb) σ H Q->Kd X.K (tE X.K ca) (tE X.K cb) σ H Q:=by
 rintro σ H Q ⟨m,ρ,S,u,S',sr,lr,hc,post⟩;let⟨⟨y,S1⟩,h1,h⟩:=Z0.mp hc;let⟨⟨x,S2⟩,h3,h4⟩:=Z0.mp h;refine⟨m,ρ,S,_,S1,sr,lr,h1,λm1 v1 H1 e1 sr1 i1=>⟨m1,ρ,S1,_,S2,sr1,lr.mono e1,h3,λm2 v2 H2 e2 sr2 i2=>?_⟩⟩;cases x with
 |ref l=>cases y with
  |tup us=>
   simp only[wY]at h4;let⟨ks,hk,h5⟩:=Z0.mp h4;let⟨kus,hd,h6⟩:=Z0.mp h5;cases h6;let⟨a,ha,rfl⟩:=i2.of_ref;let⟨b,rfl,kb⟩:=xX (i1.mono e2) hk;let⟨kvs,rd,ky,ip⟩:=IC sr2 ha hd;have rf:=IsP.val (k:=ks) ip;have es:(fk (nP kvs) ks).isSome=(cg kus ks).isSome:=by
    cases h7:fk (nP kvs) ks<;>cases h8:cg kus ks<;>rw[h7,h8]at rf<;>first|rfl|exact rf.elim
   refine⟨a,b,kvs,ks,rfl,rfl,rd,ky,kb,?_⟩;rw[es];exact post m2 _ H2 (e1.trans e2) sr2 .bl_
  |_=>cases h4
 |_=>cases h4
theorem j9{a b:ZN}{ca cb:CE}{pos:Pos}(hu:X.A.units+2<cLine)(ha:QE X a ca)(hb:QE X b cb)(hm:behindInMarks .NotIn b=false):QT X (.Compare a [.NotIn] [b] pos) (aA (cOp wY ca cb)):=(ur (Gm hu ha hb) hm).imp (j3 Dy)
def Ox(K:Z3)(td ty tv:TE):TS:=λD σ H=>tv σ H λv H1=>td σ H1 λx H2=>ty σ H2 λy H3=>∃a b kvs k,x=.ref a/\y=.ref b/\H3 a=some (dNo a kvs)/\(∀p∈kvs,gQ K H3 p.1.2 p.1.1)/\gQ K H3 b k/\kvs.length<ZC/\D.nx σ (upd H3 a (dNo a (sU kvs k b v)))
theorem FZ{o i e:ZN}{td ty tv:TE}{pos g_:Pos}(hu:X.A.units+2<cLine)(ho:WE X o td)(hi:WE X i ty)(hv:WE X e tv)(hs:XE e (some (.Subscript o i g_)) pos.line X.env=pure false):WS X (.Assign [.Subscript o i g_] e pos) (Ox X.K td ty tv):=by
 constructor;intro a_ s σ H D I h;refine wpAny_Assign_Subscript (thn (hv.h a_ s σ H _ I h) λr s1 hz=>?_) hs;let⟨v,H1,I1,rv,q1⟩:=hz;refine thn (ho.h a_ s1 σ H1 _ I1 q1) λu s2 hz=>?_;let⟨x,H2,I2,rx,q2⟩:=hz;refine thn (hi.h a_ s2 σ H2 _ I2 q2) λiv s3 hz=>?_;let⟨y,H3,I3,ry,a,b,kvs,k,rfl,rfl,e1,ky,kb,hl,q3⟩:=hz;cases rx;cases ry;exact Pf hu I3 e1 ky kb hl rv λs4 I4=>⟨σ,_,I4,q3⟩
def i6(co ci cv:CE):CS:=λρ S=>(cv ρ S).bind λp=>(co ρ p.2).bind λq=>(ci ρ q.2).bind λr=>match q.1 with
 |.ref l=>match r.1 with
  |.tup us=>match r.2[l]? with
   |some (.dnt kus)=>(uO us).bind λk=>if kus.length<LIM then some (.nx,ρ,r.2.set l (.dnt (gY kus k p.1)))else none
   |_=>none
  |_=>none
 |_=>none
theorem sP{o i e:ZN}{co ci cv:CE}{pos g_:Pos}(hu:X.A.units+2<cLine)(ho:QE X o co)(hi:QE X i ci)(hv:QE X e cv)(hs:XE e (some (.Subscript o i g_)) pos.line X.env=pure false:=by rfl):QS X (.Assign [.Subscript o i g_] e pos) (i6 co ci cv):=
 (FZ hu ho hi hv hs).imp λD σ H hz=>yj hz λm ρ S oo ρ' S' sr lr hc post=>by
 let⟨⟨v,S1⟩,h1,ha⟩:=Z0.mp hc;let⟨⟨ou,S2⟩,h2,hb⟩:=Z0.mp ha;let⟨⟨iu,S3⟩,h3,h⟩:=Z0.mp hb;clear ha hb hc;cases ou with
 |ref l=>cases iu with
  |tup us=>
   simp only at h;split at h<;>try cases h
   rename_i kus hS;let⟨k,hk,h4⟩:=Z0.mp h;split at h4<;>try cases h4
   rename_i h_;refine⟨m,ρ,S,v,S1,sr,lr,h1,λm1 v1 H1 e1 sr1 i1=>⟨m1,ρ,S1,_,S2,sr1,lr.mono e1,h2,λm2 v2 H2 e2 sr2 i2=>⟨m2,ρ,S2,_,S3,sr2,lr.mono (e1.trans e2),h3,λm3 v3 H3 e3 sr3 i3=>?_⟩⟩⟩;let⟨a,ha,rfl⟩:=(i2.mono e3).of_ref;let⟨a',ha',kvs,hx,ky,ip⟩:=sr3.get hS;rw[ha]at ha';cases ha';let⟨b,rfl,kb⟩:=xX i3 hk;have e13:=(e1.trans e2).trans e3;have ee:Ext X.K m3 H3 m3 (upd H3 a (dNo a (sU kvs k b v1))):=.of (sr3.keep ha _);have hl:kvs.length<ZC:=LG (by have:=IsP.length ip;unfold nP at this;rw[ZQ]at this;rw[this];exact h_);refine⟨a,b,kvs,k,rfl,rfl,hx,ky,kb,hl,post m3 σ _ (e13.trans ee) (sr3.put ha ⟨_,ax,λp hp=>?_,?_⟩) (lr.mono (e13.trans ee))⟩;rcases wx hp with⟨q,hq,e⟩|e;rw[<-e];exact(ky q hq).mono ee.keep;rw[e];exact kb.mono ee.keep;rw[E5];exact(IsP.put ip (i1.mono (e2.trans e3))).mono ee
  |_=>cases h
 |_=>cases h
section
def Kf(K:Z3)(tk tv:TE):TE:=λσ H Q=>∀p,H p=none->sx [(tk,tv)] σ (upd H p (dNo p [])) λps H2=>H2 p=some (dNo p [])/\∃b k v,ps=[(.ref b,v)]/\gQ K H2 b k/\Q (.ref p) (upd H2 p (dNo p [((k,b),v)]))
theorem rC{P:Zq}{w:Zr}(h:Heap)(hb:sysModules<h.objs.size):bU P w H (h.push { cls:=.type "dict",data:=.dict #[] }) h.objs.size (dNo h.objs.size []):=by
 refine wZ (xs:=[]) (X5 _) (beq_eq_false_iff_ne.mpr (Ne.symm (ZL hb))) .nil ?_;exact⟨_,#[],0,ZG _ rfl,⟨rfl,rfl,rfl⟩,rfl,rfl,λx hx=>(Zv hx).elim,List.nodup_nil⟩
theorem Cy{k v:ZN}{tk tv:TE}{pos:Pos}(hu:X.A.units+2<cLine)(hk:WE X k tk)(hv:WE X v tv):WE X (.Dict [some k] [v] pos) (Kf X.K tk tv):=by
 constructor;intro a_ s σ H Q I q;have hn:=I.hok.fresh (ZW s.heap.objs.size);have I1:=I.laid (a:=s.heap.objs.size) (o:=dNo s.heap.objs.size []) (h':=s.heap.push { cls:=.type "dict",data:=.dict #[] }) (t':=s.toks) (λ_ _ q=>Z7 _ q) (ZW _) (rC s.heap I.big);refine wpAny_Dict_any rfl rfl 51 51 (thn (wA hk.h hv.h zP a_ _ σ _ _ I1 (q _ hn)) λws s2 hz=>?_);let⟨ps,H2,I2,rel,e,b,k,v,rfl,kb,q2⟩:=hz;cases rel with
 |cons r t=>
  cases t;rename_i w0;let⟨w1,w2⟩:=w0;let⟨r1,r2⟩:=r;cases (show w1=Value.ref b from r1);let⟨z,hd,xs,rel,dd⟩:=vo I2 (.inl e) (λp hp=>(Zv hp).elim);cases rel;unfold storeAll;rw[List.forIn_cons];refine Z2 (Z2 (wpAny_dictSet_heap (hsz:=X5 _) (knd:=fi X.prog X.w) (Nat.lt_of_succ_lt hu) (uW I2 kb) dd λh' dd' hs=>Z8 ?_));dsimp only;rw[List.forIn_nil];let⟨o,es,ep,h1,_⟩:=id dd';refine Z8 ⟨.ref s.heap.objs.size,_,lG I2 (by rw[e];exact True.intro) hs ⟨o,h1⟩ (wZ (kvs:=[((k,b),v)]) (show 1<=ZC by decide) hd (KN.put (kvs:=[]) (k:=k) (b:=b) .nil r2) dd'),rfl,q2⟩
def uc(ck cv:CE):CE:=λρ S=>(ck ρ (S++[.dnt []])).bind λp=>(cv ρ p.2).bind λq=>match p.1 with
 |.tup us=>(uO us).bind λk=>match q.2[S.length]? with
  |some (.dnt [])=>some (.ref S.length,q.2.set S.length (.dnt [(k,q.1)]))
  |_=>none
 |_=>none
theorem GW{k v:ZN}{ck cv:CE}{pos:Pos}(hu:X.A.units+2<cLine)(hk:QE X k ck)(hv:QE X v cv):QE X (.Dict [some k] [v] pos) (uc ck cv):=
 (Cy hu hk hv).imp λσ H Q hz=>kJ hz λm ρ S u S' sr lr hc post=>by
 let⟨⟨x,S1⟩,h1,h⟩:=Z0.mp hc;let⟨⟨y,S2⟩,h2,h3⟩:=Z0.mp h;cases x with
 |tup us=>
  simp only at h3;let⟨kk,hk,h4⟩:=Z0.mp h3;split at h4<;>try cases h4
  rename_i hS;intro p hp;have ee:Ext X.K m H (m++[p]) (upd H p (dNo p [])):=.new (bu hp _);refine⟨m++[p],ρ,_,_,S1,sr.new (o:=.dnt []) hp ⟨[],ax,(λq hq=>(Zv hq).elim),.nil_⟩,lr.mono ee,h1,λm1 v1 H1 e1 sr1 i1=>⟨m1,ρ,S1,y,S2,sr1,lr.mono (ee.trans e1),h2,λm2 v2 H2 e2 sr2 i2=>?_⟩⟩;have ha:m2[S.length]?=some p:=(e1.trans e2).get (cI sr.len);let⟨a',ha',kv0,hx,ky,ip0⟩:=sr2.get hS;rw[ha]at ha';cases ha';have e0:kv0=[]:=by have:=IsP.length ip0;unfold nP at this;simpa using this
  subst e0;let⟨b,rfl,kb⟩:=xX (i1.mono e2) hk;have eu:Ext X.K m2 H2 m2 (upd H2 p (dNo p [((kk,b),v2)])):=.of (sr2.keep ha _);refine⟨hx,b,kk,v2,rfl,kb,post m2 _ _ (((ee.trans e1).trans e2).trans eu) (sr2.put (o:=.dnt [(kk,y)]) ha ⟨_,ax,λq hq=>?_,.cons_ (i2.mono eu) .nil_⟩) (.ref_ ha)⟩;rw[Zw.mp hq];exact kb.mono eu.keep
 |_=>cases h3
def FzN(K:Z3)(H:Hp)(a:Addr)(ep:Nat)(ks:List NK):Prop:=∃ob es kvs,H a=some 85/\ob.data=.dict es ep/\(∀p∈kvs,gQ K H p.1.2 p.1.1)/\(nP kvs).map (·.1)=ks
def Itn(K:Z3)(a:Addr)(ep:Nat)(ks:List NK):It:=
 ⟨λi H=>i<ks.length/\FzN K H a ep ks,λi H x H'=>H'=H/\∃k p,ks[i]?=some k/\x=.ref p/\gQ K H p k,λi H=>ks.length<=i/\FzN K H a ep ks⟩
theorem ve{P:Zq}{w:Zr}{h:Heap}{ob:Obj}{es:Array DictEntry}{ep:Nat}(ok:HOk P w H h)(e:Rd H a (dNo a kvs))(g:h.get? a=some ob)(d:ob.data=.dict es ep) :
  es.size=kvs.length/\∀(i:Nat) (hi:i<es.size),∃q,kvs[i]?=some q/\es[i].key=.ref q.1.2:=by
 let⟨⟨_,_,xs,r,o,es',ep',e2,e3,e4,e5,_⟩,_⟩:=(show bU P w H h a (dNo a kvs)from e.ok ok);rw[g]at e2;cases e2;rw[d]at e4;cases e4;have hl:kvs.length=xs.length:=Paired.length r;have hs:es.size=xs.length:=by rw[<-Zh,e5,ZQ]
 refine⟨by omega,λi hi=>?_⟩;have key:∀{l:List ((NK×Addr)×V)} {m:List (NK×Addr×Z5)} {i:Nat} {x:NK×Addr×Z5},KN l m->m[i]?=some x->∃q,l[i]?=some q/\q.1.2=x.2.1:=by
  intro l m i x q;induction q generalizing i with
  |nil=>intro z;simp at z
  |@cons p q ps qs hq t ih=>
   intro z;cases i with
   |zero=>simp at z;subst z;exact⟨p,rfl,hq.2.1⟩
   |succ i=>exact ih ‹z›
 have hx:xs[i]?=some xs[i]:=ZK 24;let⟨q,k1,k2⟩:=key r hx;refine⟨q,k1,?_⟩;have h1:es.toList[i]?=some (⟨hNK xs[i].1,.ref xs[i].2.1,xs[i].2.2⟩:DictEntry):=by rw[e5,Zz,hx];rfl
 rw[X7,Zc hi]at h1;rw[Option.some.inj h1,k2]
def Pj{q:(NK×Addr)×V}{i:Nat}(h:kvs[i]?=some q):((nP kvs).map (·.1))[i]?=some q.1.1:=by unfold nP;rw[Za,Zz,h];rfl
def Ag:((nP kvs).map (·.1)).length=kvs.length:=by unfold nP;rw[ZQ,ZQ]
theorem xH{P:Zq}{w:Zr}{tg:ZN}(a it:Addr){ks:List NK}{ep:Nat} :
  IT P w K tg (Itn K a ep ks) [it] it (λn h=>h.IsKeyIter it a n ks.length ep) where
 mem:=by simp
 obj:=λn h st c hc=>by
  simp only[ZT,Zv,or_false]at hc;subst hc;let⟨o,e,_,q⟩:=st;exact⟨o,e,λv z=>by rw[q]at z;cases z⟩
 keep:=λn h h' st kp=>Heap.IsKeyIter.at st λo q=>kp it 51 o q
 item:=by
  intro X hP hw hK hc n a_ s σ H E Iv hf st hg;subst hP hw hK;let⟨hi,ob,es,kvs,hq,d,ky,ek⟩:=hg;have g1:s.heap.get? a=some ob:=(show bU X.prog X.w H s.heap a (.frz ob (dNo a kvs))from Iv.hok a _ hq).1;let⟨g2,g3⟩:=ve Iv.hok (.inr ⟨ob,hq⟩) g1 d;have hl:ks.length=es.size:=by rw[<-ek,Ag,g2]
  have hi':n<es.size:=by omega
  let⟨q,k1,k2⟩:=g3 n hi';let⟨f0,f1,f2,f3⟩:=hf it 51;refine wm (by rw[<-hl];exact st) g1 d hi' λh1 st1 sb=>⟨_,rfl,?_⟩;have I1:Inv X a_ σ H { s with heap:=h1 }:=Iv.turned (t':=s.toks) (λb o hb e=>(sb.2 b hb).trans e) f0 f1 f3.1 f3.2.1 f3.2.2;have st2:h1.IsKeyIter it a (n+1) ks.length ep:=by rw[hl];exact st1
  let⟨o,e,c,z⟩:=id st2;exact AS (s:={ s with heap:=h1 }) e c z 54 ⟨.ref q.1.2,H,I1,by rw[k2];rfl,⟨rfl,q.1.1,q.1.2,by rw[<-ek];exact Pj k1,rfl,ky q (X3 k1)⟩,st2,λb hb=>(hf b hb).1⟩
 done:=by
  intro X hP hw hK hc n a_ s σ H E Iv hf st hg;subst hP hw hK;let⟨hi,ob,es,kvs,hq,d,ky,ek⟩:=hg;have g1:s.heap.get? a=some ob:=(show bU X.prog X.w H s.heap a (.frz ob (dNo a kvs))from Iv.hok a _ hq).1;let⟨g2,g3⟩:=ve Iv.hok (.inr ⟨ob,hq⟩) g1 d;have hl:ks.length=es.size:=by rw[<-ek,Ag,g2]
  let⟨f0,f1,f2,f3⟩:=hf it 51;exact zD (Iv.ok.hd hc) (by rw[<-hl];exact st) g1 d 24 λh1 eb=>⟨rfl,Iv.turned (t':=s.toks) (λb o hb e=>eb b o hb e) f0 f1 f3.1 f3.2.1 f3.2.2⟩
 self:=λ_ _ _ _ _ st h=>wpAny_pyIter_keyiter st h
def AL(X:Cx)(tl:TE):TI:=λσ H R=>tl σ H λx H1=>∃a kvs,x=.ref a/\H1 a=some (dNo a kvs)/\∀ob es ep,rT X a->ob.data=.dict es ep->R (Itn X.K a ep ((nP kvs).map (·.1))) (upd H1 a 85)
theorem vU{tg l:ZN}{tl:TE}(hl:WE X l tl):WI X tg l (AL X tl):=by
 constructor;intro a_ s σ H R I h;refine thn (hl.h a_ s σ H _ I h) λv s1 hz=>?_;let⟨x,H1,I1,r1,a,kvs,rfl,hq,q⟩:=hz;cases r1;have ok:=(show bU X.prog X.w H1 s1.heap a (dNo a kvs)from I1.hok a _ hq);let⟨⟨hz,hs,xs,rv,ob,es,ep,e1,e2,e3,e4,e5⟩,st⟩:=id ok;have hl:kvs.length=es.size:=by rw[<-Zh,e4,ZQ];exact Paired.length rv
 have nf:rT X a:=λob' u' z=>by have:=I1.base.frzs a ob' u' z;rw[hq]at this;cases this
 have I2:Inv X a_ σ (upd H1 a 85) s1:=mQ I1 hq (by simp[dNo]) (by simp[dNo]) (by simp[dNo]) nf ⟨e1,ok⟩;refine wk hs e1 e2 e3 ?_;refine⟨s1.heap.objs.size,[s1.heap.objs.size],_,_,_,rfl,I2.kept (t':=s1.toks) λb o g=>Z7 _ g,xH a _,⟨_,ZG _ rfl,rfl,by rw[Ag,hl];rfl⟩,λb hb=>?_,q ob es ep nf e3⟩;simp only[ZT,Zv,or_false]at hb;subst hb;exact I2.fpOk (ZW _) (I2.hok.fresh (ZW _))
def FA(X:Cx)(D:yB):yB where
 nx:=λσ H=>∃a ob kvs,rT X a/\H a=some 85/\D.nx σ (upd H a (dNo a kvs))
 rt:=λv H=>∃a ob kvs,rT X a/\H a=some 85/\D.rt v (upd H a (dNo a kvs))
 bk:=λσ H=>∃a ob kvs,rT X a/\H a=some 85/\D.bk σ (upd H a (dNo a kvs))
 ct:=λσ H=>∃a ob kvs,rT X a/\H a=some 85/\D.ct σ (upd H a (dNo a kvs))
theorem iO{a_:57}{σ:L2.St}{s:Z6}{ob:Obj}(I:47)(nf:rT X a)(e:H a=some 85):Inv X a_ σ (upd H a (dNo a kvs)) s:=
 mQ I e 51 51 51 nf (show bU X.prog X.w H s.heap a (.frz ob (dNo a kvs))from I.hok a _ e).2
theorem Cc{st:Zn}{t:TS}(h:WS X st t):WS X st (λD σ H=>t (FA X D) σ H):=by
 constructor;intro a_ s σ H D I k;refine thn (h.h a_ s σ H _ I k) λf s1 q=>?_;cases f with
 |next=>let⟨σ1,H1,I1,a,ob,kvs,nf,e,r⟩:=q;exact⟨σ1,_,iO I1 nf e,r⟩
 |brk=>let⟨σ1,H1,I1,a,ob,kvs,nf,e,r⟩:=q;exact⟨σ1,_,iO I1 nf e,r⟩
 |cont=>let⟨σ1,H1,I1,a,ob,kvs,nf,e,r⟩:=q;exact⟨σ1,_,iO I1 nf e,r⟩
 |ret u=>let⟨v,σ1,H1,I1,rv,a,ob,kvs,nf,e,r⟩:=q;exact⟨v,σ1,_,iO I1 nf e,rv,r⟩
def nU(k:NK):U:=.tup (k.map λl=>.tup (l.map U.int))
theorem L7{p:Addr}{k:NK}(h:gQ K H p k):Is K m H (.ref p) (nU k):=by
 let⟨cs,sq,q⟩:=h;refine .tup_ sq ?_;clear sq;induction q with
 |nil=>exact .nil_
 |cons z _ ih=>exact .cons_ (.tup_ z (gZ _)) ih
theorem wO{l ep:Nat}{kus:List (NK×U)}(ha:m[l]?=some a):BV K (Itn K a ep (kus.map (·.1))) m H (kus.map λq=>nU q.1) (λS'=>S'[l]?=some (.fdn ep kus)):=by
 intro m2 S2 H2 i e sr hok;let⟨a',ha',ob,es,kvs,hx,hd,ky,ip⟩:=sr.get hok;rw[e.get ha]at ha';cases ha';have hz:FzN K H2 a ep (kus.map (·.1)):=⟨ob,es,kvs,hx,hd,ky,ip.1⟩;refine⟨λu hu=>?_,λhu=>⟨by simpa using hu,hz⟩⟩;have hi:i<kus.length:=by have:=(Z9.mp hu).1;simpa using this
 refine⟨⟨by simpa using hi,hz⟩,?_⟩;rintro x H3 ⟨rfl,k,p,hk,rfl,hp⟩;refine⟨.refl,sr,?_⟩;rw[Zz]at hk hu;rw[ZK hi]at hk hu;cases hk;cases hu;exact L7 hp
theorem w4{m1:List Addr}{H1:Hp}{S1:Sto}{l ep:Nat}{kus:List (NK×U)}{ob:Obj}{es:Array DictEntry}(sr:Sr X.K m1 S1 H1)(ha:m1[l]?=some a)(ky:∀p∈kvs,gQ X.K H1 p.1.2 p.1.1)(ip:IsP X.K m1 H1 (nP kvs) kus)(hd:ob.data=.dict es ep) :
  Ext X.K m1 H1 m1 (upd H1 a 85)/\Sr X.K m1 (S1.set l (.fdn ep kus)) (upd H1 a 85):=by
 have ee:Ext X.K m1 H1 m1 (upd H1 a 85):=.of (sr.keep ha _);exact⟨ee,sr.put ha ⟨ob,es,kvs,ax,hd,λp hp=>(ky p hp).mono ee.keep,ip.mono ee⟩⟩
theorem vq{m3:List Addr}{H3:Hp}{S2:Sto}{l ep:Nat}{kus:List (NK×U)}(sr3:Sr X.K m3 S2 H3)(ha:m3[l]?=some a)(hS:S2[l]?=some (.fdn ep kus)) :
  ∃ob' H_,H3 a=some (.frz ob' (dNo a H_))/\Ext X.K m3 H3 m3 (upd H3 a (dNo a H_))/\Sr X.K m3 (S2.set l (.dnt kus)) (upd H3 a (dNo a H_)):=by
 let⟨a3,ha3,ob3,es3,kvs3,hx3,hd3,ky3,ip3⟩:=sr3.get hS;rw[ha]at ha3;cases ha3;have e4:Ext X.K m3 H3 m3 (upd H3 a (dNo a kvs3)):=.of (sr3.keep ha _);exact⟨ob3,kvs3,hx3,e4,sr3.put ha ⟨kvs3,ax,λp hp=>(ky3 p hp).mono e4.keep,ip3.mono e4⟩⟩
def ph(ce:CE)(g:CG)(cb:CS):CS:=λρ S=>(ce ρ S).bind λp=>match p.1 with
 |.ref l=>match p.2[l]? with
  |some (.dnt kus)=>uni λep=>(dC (λS'=>S'[l]?=some (.fdn ep kus)) g cb (kus.map λq=>nU q.1) ρ (p.2.set l (.fdn ep kus))).bind λr=>match r.2.2[l]? with
   |some (.fdn _ v_)=>some (r.1,r.2.1,r.2.2.set l (.dnt v_))
   |_=>none
  |_=>none
 |_=>none
theorem DY{ce:CE}{g:CG}{cb:CS}:∀D σ H,tS X.K (ph ce g cb) D σ H->Kg (AL X (tE X.K ce)) (tG X.K g) (tS X.K cb) (FA X D) σ H:=by
 rintro D σ H ⟨m,ρ,S,o,ρ',S',sr,lr,hc,post⟩;let⟨⟨x,S1⟩,h1,h⟩:=Z0.mp hc;refine⟨m,ρ,S,x,S1,sr,lr,h1,λm1 v1 H1 e1 sr1 i1=>?_⟩;cases x with
 |ref l=>
  simp only at h;split at h<;>try cases h
  rename_i kus hS;let⟨a,ha,rfl⟩:=i1.of_ref;let⟨a',ha',kvs,hx,ky,ip⟩:=sr1.get hS;rw[ha]at ha';cases ha';refine⟨a,kvs,rfl,hx,λob es ep nf hd=>?_⟩;let⟨⟨o1,ρ1,S2⟩,h2,h3⟩:=Z0.mp (qj h ep);simp only at h3;split at h3<;>try cases h3
  rename_i ep' v_ hS2;let⟨ee,sr2⟩:=w4 sr1 ha ky ip hd;rw[ip.1];refine qR sr2 (lr.mono (e1.trans ee)) (wO ha) h2 ?_;have nxt:∀(R:L2.St->Hp->Prop),gO X.K m H R ρ' (S2.set l (.dnt v_))->gO X.K m1 (upd H1 a 85) (λσ H=>∃a ob kvs,rT X a/\H a=some 85/\R σ (upd H a (dNo a kvs))) ρ' S2:=λR p m3 σ3 H3 e3 sr3 lr3=>by
   let⟨ob3,kvs3,hx3,e4,sr4⟩:=vq sr3 (e3.get ha) hS2;exact⟨a,ob3,kvs3,nf,hx3,p m3 σ3 _ (((e1.trans ee).trans e3).trans e4) sr4 (lr3.mono e4)⟩
  cases o with
  |nx=>exact nxt _ post
  |bk=>exact nxt _ post
  |ct=>exact nxt _ post
  | rt v=>
    intro m3 v3 H3 e3 sr3 i3;let⟨ob3,kvs3,hx3,e4,sr4⟩:=vq sr3 (e3.get ha) hS2;exact⟨a,ob3,kvs3,nf,hx3,post m3 v3 _ (((e1.trans ee).trans e3).trans e4) sr4 (i3.mono e4)⟩
 |_=>cases h
theorem uG{tg iter:ZN}{body:List Zn}{ce:CE}{g:CG}{cb:CS}{pos:Pos}(hp:PassesOwn 49 X.A X.env X.xe)(hc:X.calm=true)(hi:QE X iter ce)(hg:QG X tg g)(hb:QSs X body cb)(hs:∀x,foldedSetIterable iter X.env x=pure x:=by intro _;rfl):QS X (.For tg iter body [] pos) (ph ce g cb):=
 (Cc (uu hp hc (vU hi) hg hb hs)).imp DY
theorem Cw{e:ZN}{t:TE}(h:WE X e t):WE X e (λσ H Q=>t σ H λv H'=>∃a ob kvs,rT X a/\H' a=some 85/\Q v (upd H' a (dNo a kvs))):=by
 constructor;intro a_ s σ H Q I k;refine thn (h.h a_ s σ H _ I k) λu s1 hz=>?_;let⟨v,H1,I1,r1,a,ob,kvs,nf,e,q⟩:=hz;exact⟨v,_,iO I1 nf e,r1,q⟩
def Br(ce:CE)(f:(Sto->Prop)->Nat->List U->Rho->Sto->Option Sto)(n:Nat)(caps:List Nat):CE:=λρ S=>(ce ρ S).bind λp=>match p.1 with
 |.ref l=>match p.2[l]? with
  |some (.dnt kus)=>uni λep=>(f (λS'=>S'[l]?=some (.fdn ep kus)) p.2.length (kus.map λq=>nU q.1) (qA n caps ρ) (p.2.set l (.fdn ep kus)++[.lst []])).bind λS'=>match S'[l]? with
   |some (.fdn _ v_)=>some (.ref p.2.length,S'.set l (.dnt v_))
   |_=>none
  |_=>none
 |_=>none
def ud(ce:CE)(g:CG)(el:CE)(n:Nat)(caps:List Nat):CE:=Br ce (λok l=>jO ok g el l) n caps
theorem yY{ce:CE}{f:(Sto->Prop)->Nat->List U->Rho->Sto->Option Sto}{n:Nat}{caps:List Nat}{G:It->Hp->L2.St->VK->Prop}
  (R9:∀{J:It} {us:List U} {ok:Sto->Prop} {Q:VK} {m1:List Addr} {H1:Hp} {S1 S':Sto} {ρ:Rho} {σ:L2.St},Sr X.K m1 S1 H1->Lr X.K m1 H1 ρ σ->BV X.K J m1 H1 us ok->f ok S1.length us (qA n caps ρ) (S1++[.lst []])=some S'->
   (∀l,H1 l=none->∀m2 H2,Ext X.K (m1++[l]) (upd H1 l (.lst [])) m2 H2->Sr X.K m2 S' H2->Q (.ref l) H2)->G J H1 σ Q) :
  ∀σ H Q,tE X.K (Br ce f n caps) σ H Q->AL X (tE X.K ce) σ H λJ H1=>G J H1 σ λv H'=>∃a ob kvs,rT X a/\H' a=some 85/\Q v (upd H' a (dNo a kvs)):=by
 intro σ H Q hz;refine kJ hz λm ρ S u S' sr lr hc post=>?_;let⟨⟨x,S1⟩,h1,h⟩:=Z0.mp hc;refine⟨m,ρ,S,x,S1,sr,lr,h1,λm1 v1 H1 e1 sr1 i1=>?_⟩;cases x with
 |ref l=>
  simp only at h;split at h<;>try cases h
  rename_i kus hS;let⟨a,ha,rfl⟩:=i1.of_ref;let⟨a',ha',kvs,hx,ky,ip⟩:=sr1.get hS;rw[ha]at ha';cases ha';refine⟨a,kvs,rfl,hx,λob es ep nf hd=>?_⟩;let⟨S2,h2,h3⟩:=Z0.mp (qj h ep);try simp only at h3
  split at h3<;>try cases h3
  rename_i ep' v_ hS2;let⟨ee,sr2⟩:=w4 sr1 ha ky ip hd;rw[ip.1];have hln:(S1.set l (.fdn ep kus)).length=S1.length:=by simp
  refine R9 sr2 (lr.mono (e1.trans ee)) (wO ha) (by rw[hln];exact h2) λp hp m3 H3 e3 sr3=>?_;have en:Ext X.K m1 (upd H1 a 85) (m1++[p]) (upd (upd H1 a 85) p (.lst [])):=.new (bu hp _);have e03:=en.trans e3;let⟨ob3,kvs3,hx3,e4,sr4⟩:=vq sr3 (e03.get ha) hS2;refine⟨a,ob3,kvs3,nf,hx3,post m3 _ _ (((e1.trans ee).trans e03).trans e4) sr4 ?_⟩;have lg:(m1++[p])[S1.length]?=some p:=cI sr1.len;exact .ref_ (e3.get lg)
 |_=>cases h
variable{c:ZN}
def EU(K:Z3):List V->Hp->VK->Prop:=λxs H Q=>∃d kvs,xs=[.ref d]/\H d=some (dNo d kvs)/\∀l,H l=none->Q (.ref l) (upd H l (.lst (kvs.map λp=>.ref p.1.2)))
theorem Ab(hc:X.calm=true):eU X (.type "list") (EU X.K):=by
 rintro a_ s σ H xs us Q I r ⟨d,kvs,rfl,hD,q⟩;let⟨u,rfl,ru⟩:=jv r;cases ru;let⟨⟨hz,hs,xs,rv,ob,es,ep,e1,e2,e3,e4,e5⟩,st⟩:=(show bU X.prog X.w H s.heap d (dNo d kvs)from I.hok d _ hD);let⟨g2,g3⟩:=ve I.hok (.inl hD) e1 e3;refine kdl_call (GL hs e2 e3) (I.ok.hd hc) e1 (by rw[g2];exact hz) λh' tk acc c up gl hac=>?_;have hv:bS (kvs.map λp=>V.ref p.1.2) acc.toList:=by
  have ea:acc.toList=kvs.map λp=>Value.ref p.1.2:=by
   refine Zs λi=>?_;by_cases hi:i<es.size;have hi':i<acc.size:=by rw[hac.1];exact hi
   let⟨_,e6⟩:=hac.2 i acc[i] (Zc hi');let⟨q,k1,k2⟩:=g3 i hi;rw[X7,Zc hi',e6,k2,Zz,k1];rfl;rw[Zd (by rw[Zh,hac.1];omega),Zd (by rw[ZQ,<-g2];omega)]
  rw[ea];clear hac e4 rv g3 hz g2 hD q st gl ea;induction kvs with
  |nil=>exact .nil
  |cons p r ih=>exact .cons rfl ih
 exact⟨.ref s.heap.objs.size,_,I.laid (o:=.lst (kvs.map λp=>.ref p.1.2)) (t':=tk) up (ZW _) ⟨by rw[ZQ];exact hz,_,c,hv,by rw[gl]⟩,rfl,q _ (I.hok.fresh (ZW _))⟩
def mx:Fn
 |[.ref l],S=>match S[l]? with
  |some (.dnt kus)=>some (.ref S.length,S++[.lst (kus.map λp=>nU p.1)])
  |_=>none
 |_,_=>none
theorem AF:∀{kvs:List ((NK×Addr)×V)},(∀p∈kvs,gQ K H p.1.2 p.1.1)->IsL K m H (kvs.map λp=>.ref p.1.2) (((nP kvs).map (·.1)).map nU)
 |[],_=>.nil_
 |p::r,h=>.cons_ (L7 (h p ZD)) (AF λq hq=>h q (ZY _ hq))
theorem zZ:kY K (EU K) mx:=by
 intro m S H us vs u S' Q sr i hf post;match us,hf with
 |[.ref l],hf=>
  let⟨v,rfl,iv⟩:=i.one;let⟨a,ha,rfl⟩:=iv.of_ref;simp only[mx]at hf;split at hf<;>try cases hf
  rename_i ws hS;let⟨a',ha',kvs,hx,ky,ip⟩:=sr.get hS;rw[ha]at ha';cases ha';refine⟨a,kvs,rfl,hx,λp hp=>?_⟩;have il:=AF (m:=m) ky;rw[ip.1,Za]at il;exact dF sr il post hp
end
theorem iP{A:Ze}{k:Nat}(hr:eQ k A):A.units+2<cLine:=Nat.lt_of_le_of_lt (Nat.add_le_add_left (by decide:2<=64) _) hr.units
section
variable{prog:Zq}
theorem vy{l:Addr}{vs:List Z5}{Q:List Z5->Z6->Prop}(ht:IsTup s.heap l vs.toArray)(hz:vs.length<=ZC)
  (q:Q vs { s with heap:=(s.heap.push (seqObj "list" #[] 0)).update s.heap.objs.size (Obj.mapSeq λx=>x++vs.toArray) }):wpAny 69 A (collect (.ref l)) Q E s:=by
 let⟨o,g,c,n,d⟩:=id ht;have g':(s.heap.push (seqObj "list" #[] 0)).get? l=some o:=Z7 _ g;have g0:(s.heap.push (seqObj "list" #[] 0)).get? s.heap.objs.size=some (seqObj "list" #[] 0):=ZG _ rfl;unfold collect;refine Z2 (wpAny_runValue (codeAny_builtin entry_proto_collect' ?_));refine Z2 (m:=newList []) (wpAny_newList (Z8 ⟨Code.quiet_builtin _ 39,codeAny_builtin entry_list_iadd' ?_⟩));refine(show wpAny _ _ (Builtin.List.listExtendWith 86 (.ref l) 86) _ _ { s with heap:=s.heap.push (seqObj "list" #[] 0) } from ?_);unfold Builtin.List.listExtendWith;refine Z2 (wpAny_typeOf (T:="tuple") ⟨o,g',c⟩ ?_);have tt:(Value.type "tuple" == Value.type "tuple")=true:=by rfl
 rw[Xe (by rw[tt,Bool.or_true])];refine Z2 (listItems_at g' d (Z2 (listItems_at g0 rfl ?_)));rw[Xd 51];refine Z2 (listUpdate_at g0 rfl ?_ (X5 _) (by simp only[Array.size_append,ZP,XX];omega));refine Z8 ?_;refine Z2 (m:=load s.heap.objs.size) (wpAny_load (get?_update_seq g0 λx=>x++vs.toArray) ?_);dsimp only;have e:((#[]:Array Z5)++vs.toArray).toList=vs:=by simp
 show wpAny _ _ (pure ((#[]:Array Z5)++vs.toArray).toList) Q E _;rw[e];exact Z8 q
theorem xI{l:Addr}{vs:List Z5}{ns:List Int}{Q:Z5->Z6->Prop}(ht:IsTup s.heap l vs.toArray)(hI:IntsAre vs ns)(h64:vs.length<64)
  (q:∀(out:Array Z5) (ms:List Int),IntsAre out.toList ms->ms.Perm ns->ms.Pairwise (·<=·)->Q (.ref (s.heap.objs.size+1)) { s with heap:=sortedAll s.heap vs out }) :
  wpAny 69 A (call (.builtin "sorted") [.ref l]) Q E s:=by
 have hz:vs.length<=ZC:=by unfold ZC;omega
 refine Calls.call_function_entry kind_sorted plain_sorted entry_sorted (args_sorted1 _) ?_;unfold Builtin.«sorted»;refine Z2 (m:=checkCount "sorted" 1 1 _) (Z8 (Z2 (vy ht hz (Z2 (wpAny_newList ?_ hz)))));have sz:((s.heap.push (seqObj "list" #[] 0)).update s.heap.objs.size (Obj.mapSeq λx=>x++vs.toArray)).objs.size=s.heap.objs.size+1:=by rw[Heap.size_update,size_push']
 have gL:(((s.heap.push (seqObj "list" #[] 0)).update s.heap.objs.size (Obj.mapSeq λx=>x++vs.toArray)).push (seqObj "list" vs.toArray 0)).get? (s.heap.objs.size+1)=some (seqObj "list" vs.toArray 0):=by
  rw[<-sz];exact ZG _ rfl
 refine(show wpAny _ _ _ _ _ { s with heap:=((s.heap.push (seqObj "list" #[] 0)).update s.heap.objs.size (Obj.mapSeq λx=>x++vs.toArray)).push (seqObj "list" vs.toArray 0) } from ?_);rw[sz];refine Z2 (wpAny_holding (wpAny_call_entry slot_list_sort ⟨_,gL,rfl⟩ entry_list_sort (list_sort_tree gL hI h64 λout ms a1 a2 a3=>⟨_,rfl,?_⟩) (args_list_sort _)));exact Z8 ⟨_,rfl,q out ms a1 a2 a3⟩
end
def wo(K:Z3):List V->Hp->VK->Prop:=λxs H Q=>∃(p:Addr) (ns:List Int),xs=[.ref p]/\SqT K H p (ns.map V.int)/\ns.length<64/\∀(l:Addr) (ms:List Int),H l=none->ms.Perm ns->ms.Pairwise (·<=·)->Q (.ref l) (upd H l (.lst (ms.map V.int)))
theorem tm{X:Cx}:eU X (.builtin "sorted") (wo X.K):=by
 rintro a_ s σ H xs us Q I r ⟨p,ns,rfl,sq,h64,q⟩;let⟨u,rfl,ru⟩:=jv r;cases ru;let⟨its,rv,tp,hz⟩:=I.tuple sq;have h_:=rv.length;rw[ZQ]at h_;refine xI tp (gA rv) 24 λout ms a1 a2 a3=>?_;let⟨e,ge⟩:=sortedAll_at s.heap its out;have hf:=I.hok.fresh (Xu s.heap.objs.size);exact⟨.ref (s.heap.objs.size+1),_,I.laid (t':=s.toks) (λb o e=>sortedAll_old e) (Xu _) (qQ ge a1 (by rw[a2.length_eq];exact h64)),rfl,q _ ms hf a2 a3⟩
def jf:Fn
 |[.tup us],S=>(qW us).bind λns=>if ns.length<64 then some (.ref S.length,S++[.lst ((dY ns).map U.int)])else none
 |_,_=>none
theorem sX{K:Z3}:kY K (wo K) jf:=by
 intro m S H us vs u S' Q sr i hf post;match us,hf with
 |[.tup ws],hf=>
  let⟨v,rfl,iv⟩:=i.one;simp only[jf]at hf;let⟨ns,hn,h⟩:=Z0.mp hf;split at h<;>try cases h
  have hc:ns.length<64:=by assumption
  let⟨a,xs,rfl,sq,il⟩:=iv.of_tup;rw[kF hn]at il;rw[il.ints]at sq;refine⟨a,ns,rfl,sq,hc,λp ms hp pm sm=>?_⟩;rw[fS pm sm];exact dF sr (gZ _) post hp
end OP
namespace OP
open PySem PySem.Spec PyProof PyProof.Rows L2 OG
mutual
def RfU(p:Nat->Prop):U->Prop
 |.tup us=>RfL p us
 |.ref l=>p l
 |_=>True
def RfL(p:Nat->Prop):List U->Prop
 |[]=>True
 |u::us=>RfU p u/\RfL p us
end
section
variable{K:Z3}{m m':List Addr}{H:Hp}{p:Nat->Prop}{a:Addr}{o o':O}{S S':Sto}
mutual
theorem Is.ren(e:∀l,p l->m'[l]?=m[l]?):∀{v:V} {u:U},RfU p u->Is K m H v u->Is K m' H v u
 |v,.non,_,h=>by unfold Is at h ⊢;exact h
 |v,.bl b,_,h=>by unfold Is at h ⊢;exact h
 |v,.int i,_,h=>by unfold Is at h ⊢;exact h
 |v,.str x,_,h=>by unfold Is at h ⊢;exact h
 |v,.tup us,r,h=>by
  unfold Is at h ⊢;unfold RfU at r;let⟨a,xs,e1,k,l⟩:=h;exact⟨a,xs,e1,k,IsL.ren e r l⟩
 |v,.ref l,r,h=>by
  unfold Is at h ⊢;unfold RfU at r;let⟨a,k,e1⟩:=h;exact⟨a,(e l r).trans k,e1⟩
 |v,.kl ns,_,h=>by unfold Is at h ⊢;exact h
theorem IsL.ren(e:∀l,p l->m'[l]?=m[l]?):∀{xs:List V} {us:List U},RfL p us->IsL K m H xs us->IsL K m' H xs us
 |xs,[],_,h=>by unfold IsL at h ⊢;exact h
 |xs,u::us,r,h=>by
  unfold IsL at h ⊢;unfold RfL at r;let⟨x,t,e1,k,l⟩:=h;exact⟨x,t,e1,Is.ren e r.1 k,IsL.ren e r.2 l⟩
end
mutual
theorem Is.rf:∀{v:V} {u:U},Is K m H v u->RfU (· < m.length) u
 |v,.non,h=>by unfold RfU;trivial
 |v,.bl b,h=>by unfold RfU;trivial
 |v,.int i,h=>by unfold RfU;trivial
 |v,.str x,h=>by unfold RfU;trivial
 |v,.tup us,h=>by
  unfold Is at h;unfold RfU;let⟨a,xs,e1,k,l⟩:=h;exact IsL.rf l
 |v,.ref l,h=>by
  unfold Is at h;unfold RfU;let⟨a,k,e1⟩:=h;exact(Z9.mp k).1
 |v,.kl ns,h=>by unfold RfU;trivial
theorem IsL.rf:∀{xs:List V} {us:List U},IsL K m H xs us->RfL (· < m.length) us
 |xs,[],h=>by unfold RfL;trivial
 |xs,u::us,h=>by
  unfold IsL at h;unfold RfL;let⟨x,t,e1,k,l⟩:=h;exact⟨Is.rf k,IsL.rf l⟩
end
def RfO(p:Nat->Prop):O->Prop
 |.lst us=>RfL p us
 |.dic kvs=>RfL p (kvs.map (·.2))
 |.ins _ fs=>∀(i:Nat) (u:U),fs[i]?=some (some u)->RfU p u
 |.fdc _ kvs=>RfL p (kvs.map (·.2))
 |.dnt kvs=>RfL p (kvs.map (·.2))
 |.fdn _ kvs=>RfL p (kvs.map (·.2))
 |.cod _ _ _=>True
 |.lam _ cs=>RfL p cs
theorem Rf.ren{v:Option V}{u:Option U}(h:Rf K m H v u)(f:∀w x,u=some w->Is K m H x w->Is K m' H x w):Rf K m' H v u:=by
 cases v with
 |none=>cases u with
  |none=>trivial
  |some u=>exact h.elim
 |some v=>cases u with
  |none=>exact h.elim
  |some u=>exact f u v rfl h
theorem Ob.ren(e:∀l,p l->m'[l]?=m[l]?)(r:RfO p o)(h:Ob K m H a o):Ob K m' H a o:=by
 cases o with
 |lst us=>let⟨xs,k,i⟩:=h;exact⟨xs,k,i.ren e r⟩
 |dic kus=>let⟨xs,k,i⟩:=h;exact⟨xs,k,i.1,i.2.ren e r⟩
 |ins C fus=>
  let⟨dx,fs,k,i⟩:=h;exact⟨dx,fs,k,i.nd,i.few,i.knd,i.sub,i.len,λj x q=>(i.at_ j x q).ren λu v hu hi=>Is.ren e (r j u (Option.join_eq_some_iff.mp hu)) hi⟩
 |fdc ep kus=>let⟨ob,es,kvs,k,d,i⟩:=h;exact⟨ob,es,kvs,k,d,i.1,i.2.ren e r⟩
 |dnt kus=>let⟨kvs,k,y,i⟩:=h;exact⟨kvs,k,y,i.1,i.2.ren e r⟩
 |fdn ep kus=>let⟨ob,es,kvs,k,d,y,i⟩:=h;exact⟨ob,es,kvs,k,d,y,i.1,i.2.ren e r⟩
 |cod _ _ _=>exact h
 |lam Φ cs=>let⟨obj,vs,k,d,i⟩:=h;exact⟨obj,vs,k,d,i.ren e r⟩
theorem Ob.rf(h:Ob K m H a o):RfO (· < m.length) o:=by
 cases o with
 |lst us=>let⟨xs,k,i⟩:=h;exact i.rf
 |dic kus=>let⟨xs,k,i⟩:=h;exact i.2.rf
 |ins C fus=>
  let⟨dx,fs,k,i⟩:=h;intro j u hj;have hl:j<C.ns.length:=by rw[<-i.len];exact(Z9.mp hj).1
  have z:=i.at_ j _ (ZK hl);rw[hj]at z;cases hv:fs.lookup C.ns[j]with
  |none=>rw[hv]at z;exact z.elim
  |some v=>rw[hv]at z;exact Is.rf z
 |fdc ep kus=>let⟨ob,es,kvs,k,d,i⟩:=h;exact i.2.rf
 |dnt kus=>let⟨kvs,k,y,i⟩:=h;exact i.2.rf
 |fdn ep kus=>let⟨ob,es,kvs,k,d,y,i⟩:=h;exact i.2.rf
 |cod _ _ _=>trivial
 |lam Φ cs=>let⟨obj,vs,k,d,i⟩:=h;exact i.rf
theorem Sr.rf(r:Sr K m S H){i:Nat}(h:S[i]?=some o):RfO (· < S.length) o:=by
 let⟨a,h1,h2⟩:=r.get h;have:=h2.rf;rw[r.len]at this;exact this
theorem Sr.gc(r:Sr K m S H)(len:m'.length=S'.length)(nd:m'.Nodup)(h:∀(i:Nat) (a:Addr) (o':O),m'[i]?=some a->S'[i]?=some o'->∃(j:Nat) (o:O),m[j]?=some a/\S[j]?=some o/\(Ob K m H a o->Ob K m' H a o')):Sr K m' S' H:=⟨len,nd,λl a o h1 h2=>let ⟨j,o1,e1,e2,f⟩:=h l a o h1 h2;f (r.ob j a o1 e1 e2)⟩
end
end OP
namespace OG
open PySem PySem.Spec PyProof.Rows L2
def Iq(qual:Str)(scope:XA)(L f:Addr)(cd:Z5)(cl:List (Str×Addr)):Env:=newEnv scope L mainGlobals cl (qual++".<locals>.") (some f) cd none builtinsNs
def cxL(P:Zq)(w:Zr)(K:Z3)(mg:79)(base:Heap)(N:List Str)(qual:Str)(scope:XA)(f:Addr)(cd:Z5)(cl:List (Str×Addr))(A:Ze)(outer:List Env)(s:Z6)(H:Hp):Cx where
 prog:=P
 w:=w
 K:=K
 mg:=mg
 base:=base
 A:=A.deeper (Iq qual scope s.heap.objs.size f cd cl)
 N:=N
 s₀:=s
 H₀:=H
 env:=Iq qual scope s.heap.objs.size f cd cl
 outer:=outer
 stack:=Iq qual scope s.heap.objs.size f cd cl::outer
 ex:=[]
 calm:=true
 fn:=λ_=>false
 pn:=[]
 xe:=λ_ _=>False
structure Jh(scope:XA)(cl:List (Str×Addr))(h:Heap)(H:Hp)(x:Str)(v:V):Prop where
 ex:scope.names.lookup x=some .free/\∃c u,cl.lookup x=some c/\h.IsCell c (some u)/\cP v u
variable{s:Z6}{H:Hp}
section
variable{P:Zq}{w:Zr}{K:Z3}{mg:Str->Option Z5}{base:Heap}{p:Str}{capN:List Str}{qual name:Str}{scope:XA}{f:Addr}{cl:List (Str×Addr)}{A:Ze}{outer:List Env}{v:V}{vc:List V}{u cd:Z5}
theorem HZ{h1:Heap}{t':Nat}(e0:BX P w K mg base A outer s H)(hd:A.handled=none)(i_:scope.kind=.function)(hp:scope.names.lookup p=some .local)(r:cP v u)
  (Sb:∀x y c,cl.lookup x=some c->cl.lookup y=some c->x=y) (w_:∀x,(scope.names.lookup x=some .cell\/scope.names.lookup x=some .free)->∃c,cl.lookup x=some c)
  (hcl:∀x c,cl.lookup x=some c->(∃u,s.heap.IsCell c u)/\H c=none)
  (s_:Paired (λx v=>Jh scope cl s.heap H x v) capN vc)
  (hns:h1.Ns s.heap.objs.size (λx=>([(p,u)]:List (Str×Z5)).reverse.lookup x)) (hk:∀b o,s.heap.get? b=some o->h1.get? b=some o) :
  Inv (cxL P w K mg base (p::capN) qual scope f cd cl A outer s H) [] (some v::vc.map some) H { s with heap:=h1,toks:=t' }:=by
 have noA:∀b:Addr,b∉(cxL P w K mg base (p::capN) qual scope f cd cl A outer s H).ex:=λb z=>absurd (show b∈([]:List Addr)from z) 51;have cellK:∀c v,s.heap.IsCell c v->h1.IsCell c v:=λc v ⟨o,ho,hd⟩=>⟨o,hk _ _ ho,hd⟩;refine⟨⟨e0.mod,i_,rfl,rfl,ZW _,Sb,w_,λy c z=>(nomatch z),λ_=>hd,Around.frames_deeper e0.frames,.inr ⟨rfl,rfl⟩,λb z=>absurd z (noA b),e0.bs,e0.bsz,λb _ _=>noA b,λb z=>absurd z (noA b),e0.funs,e0.frf⟩,
  rfl,e0.bare,Un.kept hk,⟨_,hns,λi y v' h1' h2 h3=>?_⟩,λy c h=>?_,e0.hok.fresh (ZW _),λy c h=>(hcl y c h).2,λp hp=>absurd (show p∈([]:List (Addr×Obj))from hp) 51,e0.hok.kept hk,?_⟩
 cases i with
 |zero=>
  have e1:p=y:=by simpa [cxL] using h1'
  have e2:v=v':=by simpa using h2
  subst e1;subst e2;exact⟨u,r,.inl ⟨hp,by simp⟩⟩
 |succ i=>
  have e1:capN[i]?=some y:=by simpa [cxL] using h1'
  have e2:vc[i]?=some v':=by
   simp only[Zx,Zz]at h2;cases q:vc[i]? with
   |none=>rw[q]at h2;cases h2
   |some z=>rw[q]at h2;cases h2;rfl
  have get:∀{l1:List Str} {l2:List V} {i:Nat},Paired (λx v=>Jh scope cl s.heap H x v) l1 l2->l1[i]?=some y->l2[i]?=some v'->Jh scope cl s.heap H y v':=by
   intro l1 l2 i hq;induction hq generalizing i with
   |nil=>intro z;simp at z
   |cons a b ih=>cases i with
    |zero=>intro z1 z2;simp at z1 z2;subst z1;subst z2;exact a
    |succ i=>intro z1 z2;exact ih ‹z1› ‹z2›
  let⟨k1,c,u1,k2,k3,k4⟩:=(get s_ e1 e2).ex;exact⟨u1,k4,.inr ⟨.inr k1,c,k2,cellK _ _ k3⟩⟩
 let⟨z,q⟩:=(hcl y c h).1;exact⟨z,cellK _ _ q⟩;show(some v::vc.map some).length=(p::capN).length;have:=s_.length;simp only[ZM,ZQ];omega
theorem HL{c:Addr}{pm ctv:Z5}{params:Arguments}{body:PySem.Expr}{te:TE}{Q:VK}(Sg:A.depth<recursionLimit)(e0:BX P w K mg base A outer s H)(hd:A.handled=none)
  (ho:s.heap.get? f=some (PySem.W.kla_obj name qual params body scope cl pm c ctv)) (hcd:s.heap.CodeRec (.ref c) qual) (hco:scope.isCoroutine=false) (Sv:scope.isGenerator=false) (i_:scope.kind=.function)
  (k_:∀x∈scope.names,x.2≠.cell) (hp:scope.names.lookup p=some .local) (R6:bindArgs (PySem.W.kla_fn name qual params body scope cl pm (.ref c) ctv) ⟨[u],[]⟩=pure [(p,u)]) (r:cP v u)
  (Sb:∀x y c,cl.lookup x=some c->cl.lookup y=some c->x=y) (w_:∀x,(scope.names.lookup x=some .cell\/scope.names.lookup x=some .free)->∃c,cl.lookup x=some c)
  (hcl:∀x c,cl.lookup x=some c->(∃u,s.heap.IsCell c u)/\H c=none) (s_:Paired (λx v=>Jh scope cl s.heap H x v) capN vc)
  (hb:WE (cxL P w K mg base (p::capN) qual scope f (.ref c) cl A outer s H) body te) (hq:te (some v::vc.map some) H Q) :
  codeAny (ZS P w) A (.call (.ref f) ⟨[u],[]⟩) (λr s'=>∃u',r=.ok (.ret u')/\CE outer P w H s Q u' s') s:=by
 have lim:s.heap.NoLimit:=e0.mod.nolimit.keeps λb o e=>(e0.bs b o e).1;refine PySem.W.kla_callFunE Sg ho rfl hco Sv rfl hcd ?_;rw[R6];refine Z8 (wpAny_newFunctionEnv k_ (λx hx=>(show x=(p,u)by simpa using hx)▸hp) (λh₁ hns hsb=>?_) i_);have hk₁:∀b o,s.heap.get? b=some o->h₁.get? b=some o:=λb o e=>hsb.extBut b o (ZL (ZH e)) (Z7 _ e);refine⟨lim.keeps hk₁,?_⟩;show codeAny _ _ (.expr body (Iq qual scope s.heap.objs.size f (.ref c) cl)) _ _;refine PySem.W.kla_codeExpr (XZ (hb.h [] _ _ H Q (HZ e0 hd i_ hp r Sb w_ hcl s_ hns hk₁) hq) (λu' s' h=>?_) λ_ _ z=>z.elim);let⟨v',H',I',rv,q⟩:=h;exact⟨u',rfl,v',H',I'.os,I'.bare,I'.base,I'.hok,rv,q⟩
end
def BP(mg:79)(base:Heap):Prop:=∃bm ob,mg "__builtins__"=some (.ref bm)/\bm≠builtinsNs/\base.get? bm=some ob/\ob.cls=.type "module"/\ob.dict=some builtinsNs/\ob.data=.plain
section
variable{X:Cx}{a_:List (Addr×Obj)}{σ:L2.St}
theorem _root_.L2.Inv.tab{h':Heap}{t':Nat}{p:Addr}{ps x_:Array Z5}(I:47)(hp:H p=some (.tbl ps))(k:Heap.ExtBut p s.heap h')(e:h'.get? p=some { cls:=.none,data:=.fields (ps++x_) }) :
  Inv X a_ σ (upd H p (.tbl (ps++x_))) { s with heap:=h',toks:=t' }:=by
 have np:∀b u,H b=some u->u≠.tbl ps->b≠p:=λb u q d z=>by subst z;rw[hp]at q;cases q;exact d rfl
 have nf:∀b,H b=none->b≠p:=λb q z=>by subst z;rw[hp]at q;cases q
 refine I.un ⟨λb o q n _ _=>k b o (nf b n) q,λb o q n _ _=>⟨o.slots,k b o (nf b n) q⟩,λb o q n _=>by rw[aD (nf b n)];exact n,λb o q _=>?_,λb xs q=>by rw[aD (np b _ q 51)];exact q,λb o u q=>by rw[aD (np b _ q 51)];exact q,λb ps' q=>?_⟩ λb u q=>?_;by_cases z:b=p;subst z;exact⟨_,e⟩;exact⟨o,k b o z q⟩;by_cases z:b=p;subst z;rw[hp]at q;cases q;exact⟨x_,ax⟩;exact⟨#[],by rw[aD z,q];simp⟩;by_cases z:b=p;subst z;rw[ax]at q;cases q;exact e;rw[aD z]at q;refine(I.hok b u q).stay (λc o hc q2=>k c o ?_ q2) (λc q2=>by rw[aD (np c _ q2 51)];exact q2) λc xs q2=>by rw[aD (np c _ q2 51)];exact q2
 rcases hc with rfl|hc;exact z;exact np c _ hc 51
theorem _root_.L2.Inv.adopt{c:Addr}{u:HO}(I:47)(new:bU X.prog X.w (upd H c u) s.heap c u)(n:H c=none)(h0:X.s₀.heap.objs.size<=c)(hL:c≠X.env.locals)(hc:∀x d,X.env.cells.lookup x=some d->d≠c)(hp:∀q∈X.pn++a_,q.1≠c) :
  Inv X a_ σ (upd H c u) s:=by
 have ne:∀b u,H b=some u->b≠c:=λb u q z=>by subst z;rw[n]at q;cases q
 have neS:∀b ob,X.s₀.heap.get? b=some ob->b≠c:=λb ob q z=>absurd (ZI (ZH q) h0) (by rw[z];exact Xv _);refine⟨I.ok,I.os,I.bare,⟨I.base.keep,I.base.slot,λb ob q m hx=>by rw[aD (neS b ob q)];exact I.base.free b ob q m hx,I.base.there,λb xs q=>?_,λb ob xs q=>?_,λb ps q=>?_⟩,I.loc,I.cell,by rw[aD (Ne.symm hL)];exact I.free,λx d q=>by rw[aD (hc x d q)];exact I.freeC x d q,λq hq=>?_,λb u q=>?_,I.len⟩;have:=I.base.tups b xs q;rw[aD (ne _ _ this)];exact this;have:=I.base.frzs b ob xs q;rw[aD (ne _ _ this)];exact this;let⟨m,e⟩:=I.base.tbls b ps q;exact⟨m,by rw[aD (ne _ _ e)];exact e⟩;let⟨e1,e2,e3⟩:=I.pin q hq;exact⟨e1,by rw[aD (hp q hq)];exact e2,e3⟩;by_cases z:b=c;subst z;rw[ax]at q;cases q;exact new;rw[aD z]at q;exact(I.hok b u q).stay (λ_ _ _ q2=>q2) (λd q2=>by rw[aD (ne _ _ q2)];exact q2) λd xs q2=>by rw[aD (ne _ _ q2)];exact q2
theorem DK{c p:Addr}{ps:Array Z5}{name qual:Str}{params:Arguments}{body:PySem.Expr}{scope:XA}{cl:List (Str×Addr)}{pos:Pos}{fl:Nat}{Q:Z5->Z6->Prop}(I:47)(hc:X.env.code=.ref c)(C:PySem.W.CodeHd X.base c p)(B:BP X.mg X.base)
  (hp:H p=some (.tbl ps)) (ht:TriplesOk ps.toList) (hcl:closureFor scope X.env=pure cl)
  (hit:codeAmong pos ps.toList=none\/∃c' ob vs t,codeAmong pos ps.toList=some (.ref c')/\H c'=some (.frz ob (.own 0))/\ob.data=.fields vs/\vs[1]?=some (.str qual t))
  (q:∀(f c':Addr) (pm ctv:Z5) (ps':Array Z5) (H':Hp) (s':Z6),Inv X a_ σ H' s'->s.heap.objs.size<=f->H' f=none->s'.heap.get? f=some (PySem.W.kla_obj name qual params body scope cl pm c' ctv)->s'.heap.CodeRec (.ref c') qual->
   (∀b o,b≠p->s.heap.get? b=some o->s'.heap.get? b=some o)->H' p=some (.tbl ps')->TriplesOk ps'.toList->(∃ob vs t,codeAmong pos ps'.toList=some (.ref c')/\H' c'=some (.frz ob (.own 0))/\ob.data=.fields vs/\vs[1]?=some (.str qual t))->(∀b,b≠p->b≠c'->H' b=H b)->(H c'=none\/H'=H)->Q (.ref f) s') :
  wpAny 49 X.A (makeFunction name qual params (.expr body) scope X.env [] [] [] pos fl) Q X.xe s:=by
 have gp:s.heap.get? p=some (PySem.W.tabObj ps):=I.hok p _ hp;let⟨bm,ob,b1,b2,b3,b4,b5,b6⟩:=B;have hg:=I.mod.glob.keeps I.bk;have hbp:bm≠p:=λz=>by
  have:=I.bk _ _ b3;rw[z,gp]at this;cases this;cases b4
 have hgp:mainGlobals≠p:=λz=>by
  let⟨o,es,ep,e,d,_⟩:=hg;rw[z,gp]at e;cases e;cases d
 have hbG:bm≠mainGlobals:=λz=>by
  let⟨o,es,ep,e,d,_⟩:=I.mod.glob;rw[z,e]at b3;cases b3;rw[d]at b6;cases b6
 have hB:s.heap.BuiltinsAt X.mg p:=⟨bm,ob,b1,b2,hbG,hbp,I.bk _ _ b3,b4,b5,b6⟩;have lk:∀x d,X.env.cells.lookup x=some d->d<s.heap.objs.size:=λx d e=>by
  let⟨v,o,ho,_⟩:=I.cell x d e;exact ZH ho
 have C':PySem.W.CodeHd s.heap c p:=C.keeps I.bk;rcases hit with hn|⟨c',oc,vs,t,hf,h2,h3,h4⟩;refine PySem.W.kla_makeFunction (mg:=X.mg) hcl I.ok.glob hg hc C' gp ht hn hgp hB λc' ctv h' tk hx hge hlt Sz htb=>?_;let⟨c2,oc,vs,t,e2,hoc,hd,hv⟩:=Sz;cases e2;have I1:=I.tab (t':=tk) hp hx htb;have ncp:c'≠p:=λz=>by
  have:=ZH gp;rw[<-z]at this;exact absurd hge (Nat.not_le.mpr this)
 have n1:(upd H p (.tbl (ps++#[rawInt pos.line,rawInt pos.col,.ref c']))) c'=none:=by rw[aD ncp];exact I.hok.fresh hge
 have I2:=I1.adopt (c:=c') (u:=.frz oc (.own 0)) ⟨hoc,oc,hoc⟩ n1 (X2 I.sz hge) (Nat.ne_of_gt (ZI I.lt hge)) (λx d e=>ZL (ZI (lk x d e) hge)) (λq hq=>ZL (ZI (ZH (I.pin q hq).1) hge));have I3:=I2.kept (h':=h'.push (PySem.W.kla_obj name qual params body scope cl ((X.mg "__name__").getD .none) c' ctv)) (t':=tk) λb o e=>Z7 _ e;refine q h'.objs.size c' _ ctv _ _ _ I3 (Nat.le_of_lt (Nat.lt_of_le_of_lt hge hlt)) ?_ (ZG _ rfl) ⟨c',oc,vs,t,rfl,Z7 _ hoc,hd,hv⟩ (λb o nb e=>Z7 _ (hx b o nb e)) (by rw[aD (Ne.symm ncp)];exact ax) ?_ ⟨oc,vs,t,?_,ax,hd,hv⟩ (λb n1 n2=>by rw[aD n2,aD n1]) (.inl (I.hok.fresh hge));exact I2.hok.fresh (ZW _);rw[Array.toList_append];exact TriplesOk_snoc _ _ _ _ ht;rw[Array.toList_append];exact codeAmong_snoc _ ht hn;refine PySem.W.kla_makeFunctionHit (mg:=X.mg) hcl I.ok.glob hg hc C' gp ht hf hB λctv h' tk hk hsz=>?_;have I1:=I.kept (h':=h') (t':=tk) hk;have I3:=I1.kept (h':=h'.push { cls:=.type "function",data:=.func (PySem.W.kla_fn name qual params body scope cl ((X.mg "__name__").getD .none) (.ref c') ctv) }) (t':=tk) λb o e=>Z7 _ e;let⟨g1,_⟩:=I3.hok c' _ h2;exact q h'.objs.size c' _ ctv ps H _ I3 hsz (I1.hok.fresh (ZW _)) (ZG _ rfl) ⟨c',oc,vs,t,rfl,g1,h3,h4⟩ (λb o nb e=>Z7 _ (hk b o e)) hp ht ⟨oc,vs,t,hf,h2,h3,h4⟩ (λ_ _ _=>rfl) (.inr rfl)
end
end OG
namespace OP
open PySem PySem.Spec PyProof PyProof.Rows L2 OG PySem.W
section
variable{X:Cx}{x:Str}{k:Nat}
theorem _root_.L2.Inv.turnedC{X:Cx}{a_:57}{σ:L2.St}{H:Hp}{s:Z6}{h':Heap}(ch:List Addr)(I:47)(k:∀b o,b∉ch->s.heap.get? b=some o->h'.get? b=some o)
  (hc:∀b∈ch,H b=none/\b≠X.env.locals/\X.s₀.heap.objs.size<=b/\(∀x c,X.env.cells.lookup x=some c->c≠b)/\∀p∈X.pn++a_,p.1≠b):Inv X a_ σ H { s with heap:=h' }:=by
 have nit:∀b u,H b=some u->b∉ch:=λb u e z=>by rw[(hc b z).1]at e;cases e
 refine I.step (g':=s.gens) (d':=s.drawn) (t':=s.toks) (ch:=ch) (λb hb=>⟨.inr (hc b hb).2.2.1,(hc b hb).2.1,(hc b hb).2.2.2.1,(hc b hb).2.2.2.2⟩) (λb o _ _ hb e _=>k b o hb e) (λb o _ _ hb e _=>⟨o.slots,k b o hb e⟩) (λ_ _ _ _ n=>n)
  (λb o hb e=>⟨o,k b o hb e⟩) (λ_ _ e=>e) (λ_ _ _ e=>e) (λb ps e=>⟨#[],by rw[e];simp⟩) (λm hm=>?_) (λb u e=>?_) I.bare
 let⟨o,es,ep,ho,r⟩:=hm;exact⟨o,es,ep,k _ o (λz=>(hc _ z).2.1 rfl) ho,r⟩;refine(I.hok b u e).stay (λc v hc' q=>k c v ?_ q) (λ_ q=>q) λ_ _ q=>q;rcases hc' with rfl|z;exact nit _ _ e;exact nit _ _ z
abbrev lN(a b:Nat):Prop:=a<b
end
end OP
namespace L2
open PySem PySem.Spec PyProof.Rows OG
def IV(p:Addr)(H:Hp):Prop:=H p=some (.tbl #[])/\∀b,b≠p->H b=none\/∃o xs,H b=some (.frz o (.lst xs))
theorem Ap{P:Zq}{w:Zr}{K:Z3}{mg mb:79}{k:Nat}{fa a p:Addr}{fd:XF}{x:Str}{sp:Sp}{s₁:Z6}{vs:List Z5}{ns:List Int}
  (KX:K.In s₁.heap) (hns:s₁.heap.Ns mainGlobals mg) (hb:s₁.heap.Ns builtinsNs mb) (hbb:∀x:Str,x≠"__name__"->mb x=Zi x) (Sw:s₁.heap.NoLimit) (hg:s₁.gens=#[]) (hbm:BP mg s₁.heap)
  (hp:s₁.heap.get? p=some (PySem.W.tabObj #[])) (hpK:K.lookup p=none) (hpc:isCodeTable s₁.heap p)
  (ha:s₁.heap.get? a=some { cls:=.type "list",data:=.seq vs.toArray }) (hi:IntsAre vs ns) (hl:ns.length<=ZC) (hr:eQ k callerA)
  (F:∀base:Heap,K.In base->base.Ns mainGlobals mg->BP mg base->kX P w K mg base CX0 k fa fd [x] sp) (R6:∀(s:Z6) (u:Z5),BindsTo s fd ⟨[u],[]⟩ [(x,u)])
  (hsp:∀H:Hp,IV p H->SqL K H a (ns.map V.int)->sp [.ref a] H (λv _=>v=.bl true) λ_ _ _=>False) :
  codeAny (ZS P w) callerA (.call (.ref fa) ⟨[.ref a],[]⟩) (λr s'=>r=.ok (.ret (.bool true))/\OldK s₁.heap s'.heap/\s'.os=s₁.os/\AllBare s'.gens) s₁:=by
 have rv:=gA hi;have lenV:=hi.length;have nap:a≠p:=λz=>by rw[z,hp]at ha;cases ha
 have R9:∀H:Hp,IV p H->SqL K H a (ns.map V.int)->HOk P w H s₁.heap->(∀b,H b≠none->b=a\/b=p)->(H a≠none->K.lookup a=none)->
   codeAny (ZS P w) callerA (.call (.ref fa) ⟨[.ref a],[]⟩) (λr s'=>r=.ok (.ret (.bool true))/\OldK s₁.heap s'.heap/\s'.os=s₁.os/\AllBare s'.gens) s₁:=by
  intro H hO hS hok hA hK;have noA:∀{b:Addr} {o:Obj},s₁.heap.get? b=some o->(∀its n,o.data≠.seq its n)->(∀vs,o.data≠.fields vs)->H b=none:=λ{b o} e d1 d2=>by
   cases q:H b with
   |none=>rfl
   |some u=>
    rcases hA b (by rw[q];simp)with z|z;subst z;rw[ha]at e;cases e;exact absurd rfl (d1 _ _);subst z;rw[hp]at e;cases e;exact absurd rfl (d2 _)
  have nsK:∀{b:Addr} {m:79},s₁.heap.Ns b m->(DV s₁.heap H).Ns b m:=λ{b m} ⟨o,es,ep,e,d,r⟩=>⟨o,es,ep,qZ e (noA e (by rw[d];intro _ _ z;cases z) (by rw[d];intro _ z;cases z)),d,r⟩;have hKb:K.In (DV s₁.heap H):=λb o e=>qZ (KX b o e) (by
   cases q:H b with
   |none=>rfl
   |some u=>
    rcases hA b (by rw[q];simp)with z|z;subst z;rw[hK (by rw[q];simp)]at e;cases e;subst z;rw[hpK]at e;cases e)
  have hM:Mod K mg (DV s₁.heap H):=⟨hKb,nsK hns,⟨mb,nsK hb,hbb⟩,let ⟨mc,h1,h2⟩:=Sw;⟨mc,nsK h1,h2⟩⟩;have hB:BP mg (DV s₁.heap H):=by
   let⟨bm,ob,b1,b2,b3,b4,b5,b6⟩:=hbm;exact⟨bm,ob,b1,b2,qZ b3 (noA b3 (by rw[b6];intro _ _ z;cases z) (by rw[b6];intro _ z;cases z)),b4,b5,b6⟩
  have e0:BX P w K mg (DV s₁.heap H) callerA [] s₁ H:=⟨rfl,hM,λb o e=>HB e,Nat.le_of_eq (AM _ _),trivial,λb hb=>absurd (show b∈([]:List Addr)from hb) 51,hok,.of_eq hg⟩;refine codeAny_mono ((F _ hKb (nsK hns) hB).run callerA [] s₁ H ⟨[.ref a],[]⟩ [.ref a] [.ref a] _ _ hr e0 (R6 s₁ (.ref a)) (.cons rfl .nil) (hsp H hO hS)) λr s' h=>?_;cases r with
  |error e=>exact h.elim
  |ok fl=>
   cases fl with
   |next=>exact False.elim h
   |brk=>exact False.elim h
   |cont=>exact False.elim h
   |ret u=>
    let⟨v,H',os,bare,un,hok',r',q⟩:=h;have q':v=.bl true:=q;subst q';obtain rfl:u=Value.bool true:=r';have kp:∀b o,b≠p->s₁.heap.get? b=some o->s'.heap.get? b=some o:=λb o nb e=>by
     cases q:H b with
     |none=>exact un.keep b o e q (by intro z;exact absurd (show b∈([]:List Addr)from z) 51) 51
     |some u=>
      rcases hO.2 b nb with z|⟨ob,xs,z⟩;rw[q]at z;cases z;have z2:=un.frzs b ob _ z;let⟨e1,_⟩:=hok b _ z;let⟨e2,_⟩:=hok' b _ z2;rw[e]at e1;cases e1;exact e2
    let⟨x_,hm⟩:=un.tbls p _ hO.1;have gp:s'.heap.get? p=some { cls:=.none,data:=.fields (#[]++x_) }:=hok' p _ hm;refine⟨rfl,⟨λb o e=>?_,λb o e=>?_⟩,os,bare⟩;by_cases z:b=p;subst z;rw[hp]at e;cases e;exact .inr (.inl ⟨hpc,rfl,#[],x_,rfl,gp⟩);exact .inl (kp b o z e);by_cases z:b=p;subst z;exact⟨_,gp⟩;exact⟨o,kp b o z e⟩
 cases hk:K.lookup a with
 |some o=>
  have e:=KX a o hk;rw[ha]at e;cases e;refine R9 (upd (λ_=>none) p (.tbl #[])) ⟨ax,λb nb=>.inl (by rw[aD nb])⟩ (.inr ⟨_,vs.toArray,_,hk,rfl,rfl,rfl,by rw[ZP,lenV];exact hl,by simpa using rv⟩) (λb u z=>?_) (λb z=>?_) λz=>absurd (by rw[aD nap]) z;by_cases nb:b=p;subst nb;rw[ax]at z;cases z;exact hp;rw[aD nb]at z;cases z;by_cases nb:b=p;exact .inr nb;exact absurd (by rw[aD nb]) z
 |none=>
  refine R9 (upd (upd (λ_=>none) a (.frz { cls:=.type "list",data:=.seq vs.toArray } (.lst (ns.map V.int)))) p (.tbl #[])) ⟨ax,λb nb=>?_⟩ (.inl (.inr ⟨{ cls:=.type "list",data:=.seq vs.toArray },by rw[aD nap];exact ax⟩)) (λb u z=>?_) (λb z=>?_) λ_=>hk;rw[aD nb];by_cases hb:b=a;subst hb;exact .inr ⟨_,_,ax⟩;exact .inl (by rw[aD hb]);by_cases nb:b=p;subst nb;rw[ax]at z;cases z;exact hp;rw[aD nb]at z;by_cases hb:b=a;subst hb;rw[ax]at z;cases z;exact⟨ha,by rw[ZQ];exact hl,vs,_,rv,ha⟩;rw[aD hb]at z;cases z;by_cases nb:b=p;exact .inr nb;rw[aD nb]at z;by_cases hb:b=a;exact .inl hb;exact absurd (by rw[aD hb]) z
theorem CC{l:PySem.W.OpenLaw}{n k:Nat}{q:Zq}{I_:List Str}{XP:(Str->Option Z5)->Heap->Prop}{YP:Zr->Heap->Prop}{d:DefRec}{K:Params->Z3}{sp:Zr->Sp}{x:Str}{p:Addr}
  (hn:l.most=some n) (hn2:n<=ZC) (hdf:d.params.defaults=[]) (hr:eQ k callerA)
  (hY:∀(w:Zr) (h:Heap),YP w h->(K w.params).In h/\h.get? p=some (PySem.W.tabObj #[])) (hK:∀w:Zr,(K w.params).lookup p=none) (hC:∀w:Zr,∃c,PySem.W.codeHdIn (K w.params) c p=true)
  (F:∀(w:Zr) (mg:79) (fa:Addr) (h:Heap),(K w.params).In h->h.Ns mainGlobals mg->mg d.name=some (.ref fa)->
   ∃fd:XF,(∀(s:Z6) (u:Z5),BindsTo s fd ⟨[u],[]⟩ [(x,u)])/\
    ∀base:Heap,(K w.params).In base->base.Ns mainGlobals mg->BP mg base->kX l.prog w (K w.params) mg base CX0 k fa fd [x] (sp w))
  (hsp:∀(w:Zr) (H:Hp) (a:Addr) (ns:List Int),ns.length<=n->IV p H->SqL (K w.params) H a (ns.map V.int)->sp w [.ref a] H (λv _=>v=.bl true) λ_ _ _=>False) :
  PySem.W.WalkO q I_ XP YP l.row.toRowW d [] (λf vs=>PySem.call f vs):=by
 refine Att.attach_call hn hdf λw s₀ s₁ mg mb fa o pm cd doc a vs ns G Y ho hd hcd hmg Sd R5 h_ hg=>?_;let⟨KX,hp⟩:=hY w _ Y;let⟨fd,hb,hF⟩:=F w mg fa _ KX G.T.g hmg;let⟨c,hc⟩:=hC w;have C:=PySem.W.codeHd_of_K KX hc;let⟨oc,vc,file,tf,flags,tg,inF,text,tt,c1,c2,c3,c4,_⟩:=C;exact Ap KX G.T.g G.T.b G.T.builtins G.T.nolimit hg G.T.bmain hp (hK w) ⟨c,oc,vc,c1,c2,c3,c4⟩ Sd R5 (X2 h_ hn2) hr hF hb λH hO hS=>hsp w H a ns h_ hO hS
end L2
namespace OP
open PySem PySem.Spec PyProof PyProof.Rows L2 OG
section
variable{X:Cx}{e a b:ZN}{pos:Pos}{ca cb cv:CE}{c:Cl}{f:Str}{i:Nat}{NS:List Str}
theorem qv(i:Nat){x:Str}(hN:X.N[i]?=some x:=by rfl)(hv:Vis X.env.scope x:=by first|exact Or.inl rfl|exact Or.inr (Or.inl rfl)|exact Or.inr (Or.inr rfl))(hd:(x == ("__debug__":Str))=false:=by decide)(hcd:(x == ("__classdict__":Str))=false:=by decide):QE X (.Name x pos) (af i):=OT (wpv i hN hv hd hcd)
def qr(h:QE X e ca):QSs X [.Return (some e) pos] (bR ca):=aC (KC h)
def qI{i:Int}{j}:QE X (.Constant (.int i) j pos) (cC (.int i)):=OW qg
def qS{i:Str}{j}:QE X (.Constant (.str i) j pos) (cC (.str i)):=OU F9
def qN{j}:QE X (.Constant .none j pos) (cC .non):=OV Ge
def qB{i:Bool}{j}:QE X (.Constant (.bool i) j pos) (cC (.bl i)):=RE J2
theorem qx(hu:X.A.units+1<cLine)(ha:QE X a ca)(hb:QE X b cb)(hs:IX b:=by intro _ _;rfl):QE X (.Subscript a b pos) (cOp fIx ca cb):=RD hu ha hb hs hs
theorem qf(T:TC X.K c NS)(h:NS[i]?=some f)(he:QE X e ca)(hb:attributeBase e f X.env (eval e X.env)=eval e X.env:=by rfl):QE X (.Attribute e f pos) (oX c i ca):=OY T.cl (T.na i h) (T.ix h) he hb
theorem qsf{o:ZN}{co:CE}{g_:Pos}(T:TC X.K c NS)(h:NS[i]?=some f)(ho:QE X o co)(hv:QE X e cv)(hs:XE e (some (.Attribute o f g_)) pos.line X.env=pure false:=by rfl):QS X (.Assign [.Attribute o f g_] e pos) (kO c i co cv):=GO T.cl (T.na i h) (T.ix h) ho hv hs
theorem qss(i:Nat){x:Str}{g_:Pos}(hN:X.N.Nodup)(he:QE X e ca)(hi:X.N[i]?=some x:=by rfl)(hx:Loc X.env.scope x:=by first|exact Or.inl rfl|exact Or.inr rfl)(hs:XE e (some (.Name x g_)) pos.line X.env=pure false:=by rfl)(hf:X.fn x=true\/X.env.scope.names.lookup x=some .local:=by first|exact .inl rfl|exact .inr rfl|assumption) :
  QS X (.Assign [.Name x g_] e pos) (bB i ca):=KA hN hi hx he hs hf
theorem qm{mn:Str}{g:Fn}{k:Nat}{ps:List Str}{o:ZN}{es:List ZN}{co:CE}{cr:CA}{l_:Pos}{pl:Sem Bool}(T:TC X.K c NS)(F:i7 X.prog X.w X.K X.mg X.base c mn k ps g)(hr:eQ k X.A)(ho:QE X o co)(ha:QA X (e::es) cr)(hmn:mn∉NS:=by decide +kernel)
  (hst:ZU (e::es) X.env=(false,eval e X.env)::ZU es X.env:=by rfl) (hpl:(X8 pos (ZU es X.env)).any (·.1)=false:=by rfl) (ht:eval (.Call (.Attribute o mn l_) (e::es) [] pos) X.env=(do
   let ov <-eval o X.env
   standAt l_.atName
   let (f,first) <-holding [ov] (getMethod ov mn pl)
   callWith pos f first (X8 pos (ZU (e::es) X.env)) (backToKw pos (keywordEach [] X.env))):=by rfl):QE X (.Call (.Attribute o mn l_) (e::es) [] pos) (eY c g co cr):=KI T.cl F hr (T.nm hmn) ho ha hst hpl ht
theorem qm0{mn:Str}{g:Fn}{k:Nat}{ps:List Str}{o:ZN}{co:CE}{l_:Pos}{pl:Sem Bool}(T:TC X.K c NS)(F:i7 X.prog X.w X.K X.mg X.base c mn k ps g)(hr:eQ k X.A)(ho:QE X o co)(hmn:mn∉NS:=by decide +kernel)
  (ht:eval (.Call (.Attribute o mn l_) [] [] pos) X.env=(do
   let ov <-eval o X.env
   standAt l_.atName
   let (f,first) <-holding [ov] (getMethod ov mn pl)
   callWith pos f first (X8 pos (ZU [] X.env)) (backToKw pos (keywordEach [] X.env))):=by rfl):QE X (.Call (.Attribute o mn l_) [] [] pos) (eY c g co aq):=GS T.cl F hr (T.nm hmn) ho ht
end
def QY(N P:List Str)(sc:XA):Bool:=decide (sc.kind=.function)&&!sc.isCoroutine&&!sc.isGenerator&&decide N.Nodup&&decide (N.take P.length=P)&&P.all (λx=>decide (sc.names.lookup x=some .local)||decide (sc.names.lookup x=some .cell))&&sc.names.all λy=>!decide (y.2=.free)
theorem fsc{N P:List Str}{sc:XA}(h:QY N P sc=true:=by decide +kernel):cN N P sc:=by
 unfold QY at h;simp only[Xr,decide_eq_true_eq,Bool.not_eq_true',XJ,Bool.or_eq_true,decide_eq_false_iff_not]at h;let⟨⟨⟨⟨⟨⟨h1,h2⟩,h3⟩,h4⟩,h5⟩,h6⟩,h7⟩:=h;exact⟨h1,h2,h3,h4,h5,h6,h7⟩
section
variable{P:Zq}{w:Zr}{K:Z3}{base:Heap}{mg:Str->Option Z5}{x q:Str}{st:Zn}{ps:List Str}{k:Nat}{c:CS}{cl:Cl}
theorem MtD.pu(d:MtD K cl.C x q st ps)(N:List Str)
  (hb:88) (S:cN N ps (ay st):=by exact fsc) :
  i7 P w K mg base cl x (k+1) ps (fnU N.length ps.length c):=d.pure S λ_ _ _ _ _ _ _ hr=>hb hr (x6 hr) S.nd
theorem MkD.pu{NS:List Str}(d:MkD K mg cl.C x q st ps)(T:TC K cl NS)(N:List Str)
  (hb:88) (S:cN N ps (ay st):=by exact fsc)
  (nd:NS.Nodup:=by decide +kernel) (few:NS.length<1000:=by decide):CMk P w K mg base cl x (k+1) ps (fnU N.length ps.length c):=d.pure T S (λ_ _ _ _ _ _ _ hr=>hb hr (x6 hr) S.nd) nd few
theorem _root_.OG.Def.pu(d:Def K mg x st ps)(N:List Str)
  (hb:∀{f:Addr} {cdv:Z5} {A:Ze} {outer:List Env} {s:Z6} {H:Hp} {E:XK},(hr:eQ k (A.deeper (envOfC x (ay st) s.heap.objs.size f cdv)))->(A.deeper (envOfC x (ay st) s.heap.objs.size f cdv)).units+1<cLine->N.Nodup->WSs (mJ CX0 P w K mg base N x (ay st) f cdv A outer s H E).nox (cK st) (tS K c)) (S:cN N ps (ay st):=by exact fsc) :
  bh P w K mg base x (k+1) ps (fnU N.length ps.length c):=d.pure S λ_ _ _ _ _ _ _ hr=>hb hr (x6 hr) S.nd
end
end OP
namespace OP
open PySem PySem.Spec PyProof PyProof.Rows L2 OG PySem.W
def Rs(xs:List Nat):Prop:=xs.Pairwise (· < ·)
theorem Rs.lt{xs:Array Nat}(h:Rs xs.toList){i k d:Nat}(hik:i<k)(hk:k<xs.size):xs.getD i d<xs.getD k d:=by
 have:=List.pairwise_iff_getElem.mp h i k 72 ‹hk› hik;simpa [Array.getD,hk,show i<xs.size by omega] using this
theorem rG{xs:Array Nat}{j:Nat}(h:Rs xs.toList):∀(f lo hi:Nat),hi-lo<=f->lo<=hi->hi<=xs.size->(∀i,i<lo->xs.getD i j<j)->(∀i,hi<=i->i<xs.size->j<=xs.getD i j)->
  ∃p,SetTable.below.go xs j f lo hi=p/\p<=xs.size/\(∀i,i<p->xs.getD i j<j)/\∀i,p<=i->i<xs.size->j<=xs.getD i j
 |0,lo,hi,h1,h2,h3,h4,h5=>⟨lo,rfl,by omega,h4,λi hi'=>h5 i 24⟩
 |f+1,lo,hi,h1,h2,h3,h4,h5=>by
  unfold SetTable.below.go;by_cases c:lo<hi;rw[Xe c];dsimp only;by_cases d:xs.getD ((lo+hi) / 2) j<j;rw[Xe d];refine rG h f _ hi 24 24 h3 (λi hi'=>?_) h5;by_cases e:i=(lo+hi) / 2;rw[e];exact d;exact Nat.lt_trans (h.lt 24 24) d;rw[Xd d];refine rG h f lo _ 24 24 24 h4 λi hi' hs=>?_;by_cases e:i=(lo+hi) / 2;rw[e];omega;have:=h.lt (xs:=xs) (d:=j) (show(lo+hi) / 2<i by omega) hs;omega;rw[Xd c];exact⟨lo,rfl,by omega,h4,λi hi'=>h5 i 24⟩
theorem mU{xs:Array Nat}(h:Rs xs.toList)(j:Nat):∃p,SetTable.below xs j=p/\p<=xs.size/\(∀i,i<p->xs.getD i j<j)/\∀i,p<=i->i<xs.size->j<=xs.getD i j:=by
 unfold SetTable.below;exact rG h _ 0 _ 24 24 24 (λi hi=>by omega) λi hi hs=>by omega
theorem By{xs:Array Nat}(h:Rs xs.toList){j:Nat}:(xs[SetTable.below xs j]?=some j)↔j∈xs.toList:=by
 let⟨p,e,h1,h2,h3⟩:=mU h j;rw[e];constructor;intro g;exact X3 (by rw[X7];exact g);intro hm;let⟨i,hi⟩:=List.getElem?_of_mem hm;have hs:i<xs.size:=by have:=(Z9.mp hi).1;simpa using this
 have gi:xs.getD i j=j:=by
  rw[X7]at hi;simp[Array.getD,hs];rw[Zc hs]at hi;injection hi
 have ip:p<=i:=Nat.le_of_not_lt λz=>by have:=h2 i z;omega
 have:p=i:=by
  rcases Nat.lt_or_ge p i with c|c;have:=h.lt (d:=j) c hs;have:=h3 p (ZW _) 24;omega;omega
 rw[this,<-X7];exact hi
theorem Gz{t:SetTable}(h:Rs t.place.toList)(hd:t.dummies=#[])(j:Nat):(j∉t.place.toList/\t.slot j=.empty)\/∃p,t.place[p]?=some j/\t.slot j=.live p:=by
 unfold SetTable.slot;dsimp only;by_cases c:t.place[SetTable.below t.place j]?=some j;rw[Xe (by rw[c];exact beq_self_eq_true _)];exact .inr ⟨_,c,rfl⟩;refine .inl ⟨λz=>c ((By h).mpr z),?_⟩;rw[Xd ‹c›];have:SetTable.has t.dummies j=false:=by rw[hd];rfl
 rw[this];rfl
theorem KS{t:SetTable}(h:Rs t.place.toList)(hd:t.dummies=#[]){j:Nat}(hj:j∉t.place.toList):∃p,t.put j=({ t with place:=SetTable.insertAt t.place p j },p)/\p<=t.place.size/\Rs (SetTable.insertAt t.place p j).toList:=by
 let⟨p,e,h1,h2,h3⟩:=mU h j;refine⟨p,?_,h1,?_⟩;unfold SetTable.put;have:SetTable.has t.dummies j=false:=by rw[hd];rfl
 dsimp only;rw[e,this];rfl;rw[SetTable.toList_insertAt];have lt:∀a∈t.place.toList.take p,a<j:=λa ha=>by
  let⟨i,hi⟩:=List.getElem?_of_mem ha;let⟨hl,hg⟩:=Z9.mp hi;rw[XN]at hl;have:=h2 i 24;rw[List.getElem_take]at hg;have hs:i<t.place.size:=by omega
  simp[Array.getD,hs]at this;rw[<-hg];simpa using this
 have gt:∀a∈t.place.toList.drop p,j<a:=λa ha=>by
  have hm:=List.mem_of_mem_drop ha;let⟨i,hi⟩:=List.getElem?_of_mem ha;let⟨hl,hg⟩:=Z9.mp hi;rw[List.length_drop]at hl;have hs:p+i<t.place.size:=by simp at hl;omega
  have:=h3 (p+i) 24 hs;rw[List.getElem_drop]at hg;simp[Array.getD,hs]at this;have e2:t.place[p+i]=a:=by rw[<-hg];simp
  rw[e2]at this;rcases Nat.lt_or_ge j a with c|c;exact c;exact absurd hm (by rw[show a=j by omega];exact hj)
 refine List.pairwise_append.mpr ⟨List.Pairwise.sublist (List.take_sublist _ _) h,List.pairwise_cons.mpr ⟨gt,List.Pairwise.sublist (List.drop_sublist _ _) h⟩,λa ha b hb=>?_⟩;rcases ZT.mp hb with rfl|hb;exact lt a ha;exact Nat.lt_trans (lt a ha) (gt b hb)
def uD:isSubtype (.type "tuple") (.type "set")=pure false:=by rw[isSubtype_type];kernel_rfl
def sy:isSubtype (.type "tuple") (.type "frozenset")=pure false:=by rw[isSubtype_type];kernel_rfl
theorem wU:∀{vs:List Z5} {ns:List Int} {i:Nat} {v:Z5},IntsAre vs ns->vs[i]?=some v->∃t,v=.int (ns.getD i 0) t
 |_,_,i,v,.nil,g=>by simp at g
 |_,_,0,v,.cons n t r,g=>by simp at g;subst g;exact⟨t,by simp⟩
 |_,_,i+1,v,.cons n t r,g=>by
  let⟨u,e⟩:=wU (i:=i) r ‹g›;exact⟨u,by simpa using e⟩
theorem tL:∀{ns:List Int} {vs:List Z5},bS (ns.map V.int) vs->IntsAre vs ns
 |[],vs,r=>by cases r;exact .nil
 |n::ns,vs,r=>by
  cases r with
  |cons r1 r2=>
   let⟨t,rfl⟩:=r1;exact .cons n t (tL r2)
abbrev iQ(w:Zr):Obj:={ cls:=.type "set",dict:=none,data:=.set #[] 0 (.fresh 0 0 (!w.params.followText "set-order")) }
variable{prog:Zq}{w:Zr}{A:Ze}{E:Z5->Z6->Prop}{s:Z6}
theorem GH(a:Z5){Q1:Z5->Z6->Prop}(q:Q1 86 { s with heap:=s.heap.push (iQ w) }) :
  codeAny 69 A (.call (.builtin "set.__new__") ⟨[.type "set",a],[]⟩) (wants Q1 E) s:=by
 refine codeAny_of_tree ?_;change wpAny _ A.in1 ((checkBuiltinCall "set.__new__" ⟨[.type "set",a],[]⟩) >>= λ_=>again (.builtin "set.__new__" ⟨[.type "set",a],[]⟩)) _ _ s;rw[PySem.F.newCall_set_1 a];refine Z2 (Z8 (Z8 ⟨plainId_quiet PySem.F.plain_set_new _,codeAny_builtin PySem.F.entry_set_new ?_⟩));rw[Around.under_plainId PySem.F.plain_set_new _];unfold Builtin.«set.__new__» Builtin.Frozenset.newClass;have hs:=sub_set_self;let⟨hp,g,d,tk,os⟩:=s;dsimp only
 wp_walk
 refine wpAny_askSetting (Z8 ?_);dsimp only;unfold newObj;exact Z2 (wpAny_alloc (Z8 (Z8 q)))
theorem vz{l:Z5}{Q:Z5->Z6->Prop}
  (hi:wpAny 69 A.in1.in1 (Builtin.«set.__init__» ⟨[.ref s.heap.objs.size,l],[]⟩)
   (λfin s'=>match fin with
    |.done f=>wants (λr s2=>r=.none/\Q 86 s2) E (.ok f) s'
    |.again c'=>c'.quiet=true/\codeAny 69 A.in1 c' (wants (λr s2=>r=.none/\Q 86 s2) E) s')
   (λe s'=>wants (λr s2=>r=.none/\Q 86 s2) E (.error e) s') { s with heap:=s.heap.push (iQ w) }) :
  wpAny 69 A (call (.type "set") [l]) Q E s:=by
 have f:=PySem.F.called_set;let⟨c,tl,m0⟩:=f.mro;have m1:=f.made;have m2:=f.sub;have m3:=f.notType;have m4:=f.canCreate;have m5:=PySem.F.typeCall_set_1 l;refine wpAny_call (codeAny_of_tree (Z8 ⟨Code.quiet_builtin _ 39,codeAny_builtin PySem.F.entry_type_call ?_⟩));rw[Around.under_plain (weight_type_call_type "set" [l] []) rfl];repeat (any_goals (first|assumption|wp_step))
 refine codeAny_mono (GH l (E:=E) (Q1:=λv s1=>v=.ref s.heap.objs.size/\s1={ s with heap:=s.heap.push (iQ w) }) ⟨rfl,rfl⟩) λr s1 hr=>?_;rcases r with e|fl;exact hr
 ·cases fl with
  |ret v=>
   let⟨rfl,rfl⟩:=hr;have hT:Shared.TypeIs { s with heap:=s.heap.push (iQ w) } 86 "set":=⟨_,ZG _ rfl,rfl⟩;have m6:=f.init.lookup;have m7:=f.init.bind 86;repeat (any_goals (first|assumption|wp_step))
   refine codeAny_mono (codeAny_call_builtin f.init.plain PySem.F.entry_set_init (check_set_init_1 hT hi)) λr2 s2 hr2=>?_;rcases r2 with e|fl2;exact hr2
   ·cases fl2 with
    |ret r=>
     let⟨rfl,hq⟩:=hr2;repeat (any_goals (first|assumption|wp_step))
    |_=>exact hr2.elim
  |_=>exact hr.elim
theorem k7:Slot "set_iterator" "__next__" "set_iterator.__next__":=.of (owner:="set_iterator") (n:="__next__") (by rw[typeLookup_type,builtinLookup_eq_fast];kernel_rfl) 39 39 39 (by first|exact .inl (by decide +kernel)|exact .inr 39) (by rw[isSubtype_type];kernel_rfl)
theorem A7:entryFor table "set_iterator.__next__"=some Builtin.«set_iterator.__next__»:=entryFor_of_tree (by kernel_rfl)
theorem D7:entryFor table "set.__iter__"=some Builtin.«frozenset.__iter__»:=entryFor_alias (id':="frozenset.__iter__") (by kernel_rfl) rfl 39 (by kernel_rfl)
theorem zq:Slot "set_iterator" "__iter__" "set_iterator.__iter__":=.of (owner:="set_iterator") (n:="__iter__") (by rw[typeLookup_type,builtinLookup_eq_fast];kernel_rfl) 39 39 39 (by first|exact .inl (by decide +kernel)|exact .inr 39) (by rw[isSubtype_type];kernel_rfl)
theorem Iu:entryFor table "set_iterator.__iter__"=some Builtin.«dict_keyiterator.__iter__»:=entryFor_alias (id':="dict_keyiterator.__iter__") (by kernel_rfl) rfl 39 (by kernel_rfl)
theorem BE(a:Z5):argsOk "set_iterator.__next__" ⟨[a],[]⟩:=by
 unfold argsOk;rw[signature?_of (id:="set_iterator.__next__") (n:="__txen__".toList) (o:="rotareti_tes".toList) (rows:=Manifest.sig_set_iterator) (by kernel_rfl) (by kernel_rfl)]
 kernel_rfl
theorem IS(a:Z5):argsOk "set_iterator.__iter__" ⟨[a],[]⟩:=by
 unfold argsOk;rw[signature?_of (id:="set_iterator.__iter__") (n:="__reti__".toList) (o:="rotareti_tes".toList) (rows:=Manifest.sig_set_iterator) (by kernel_rfl) (by kernel_rfl)]
 kernel_rfl
theorem A2{α:Type}:∀{l:List α} {k:Nat} (h:k<l.length),(l[k]::l.eraseIdx k).Perm l
 |x::r,0,_=>List.Perm.refl _
 |x::r,k+1,h=>(List.Perm.swap x _ _).trans ((A2 (l:=r) (k:=k) ‹h›).cons x)
theorem zS{α:Type}{nx:Nat->Nat}:∀(f k:Nat) (l:List α) (out:Array α),f=l.length->(pickOrder.go nx f k l out).toList.Perm (out.toList++l)
 |0,k,l,out,h=>by
  rw[List.eq_nil_of_length_eq_zero h.symm,Zj];exact .refl _
 |f+1,k,l,out,h=>by
  unfold pickOrder.go;have hlt:nx k % l.length<l.length:=Nat.mod_lt _ 24;rw[ZK hlt];dsimp only;refine(zS f (k+1) _ _ (by rw[List.length_eraseIdx,Xe hlt];omega)).trans ?_;rw[Array.toList_push,ZJ];exact List.Perm.append_left _ (A2 hlt)
theorem zR{α:Type}{nx:Nat->Nat}(xs:Array α):(pickOrder nx xs).toList.Perm xs.toList:=by
 unfold pickOrder;have:=zS (nx:=nx) xs.size 0 xs.toList #[] 51;simpa using this
def BS(w:Zr)(a:Addr)(ep:Nat)(es:Array (Int×Z5)):Array (Int×Z5):=if w.params.followText "set-order" then pickOrder (w.params.setOrder a ep) es else es
theorem nW{w:Zr}{a:Addr}{ep:Nat}{es:Array (Int×Z5)}:(BS w a ep es).toList.Perm es.toList:=by
 unfold BS;split;exact zR es;exact .refl _
theorem p6{xs:Array Nat}(h:Rs xs.toList):SetTable.below xs 0=0:=by
 let⟨p,e,h1,h2,h3⟩:=mU h 0;rw[e];cases p with
 |zero=>rfl
 |succ p=>have:=h2 0 24;omega
theorem yn{xs:Array Nat}(h:Rs xs.toList){i j:Nat}(g:xs[i]?=some j):SetTable.below xs (j+1)=i+1:=by
 let⟨p,e,h1,h2,h3⟩:=mU h (j+1);have hi:i<xs.size:=(Array.getElem?_eq_some_iff.mp g).1;have gi:∀d,xs.getD i d=j:=λd=>by simp[Array.getD,hi];rw[Zc hi]at g;injection g
 rw[e];rcases Nat.lt_trichotomy p (i+1)with c|c|c;have:=h3 i 24 hi;rw[gi]at this;omega;exact c;have a1:=h2 (i+1) c;have a2:=h.lt (d:=j+1) (show i<i+1 by omega) (show i+1<xs.size by omega);rw[gi]at a2;omega
def iv(e:Int×Z5):Int:=match e.2 with
 |.int n _=>n
 |_=>0
def Fy(e:Int×Z5):Prop:=∃n t,e=(hashInt n,Value.int n t)
structure BJ(t:SetTable)(es:List (Int×Z5)):Prop where
 dm:t.dummies=#[]
 rs:Rs t.place.toList
 pe:t.place.toList=es.map λe=>(iv e).toNat
 bd:∀e∈es,0<=iv e/\iv e<6
 mz:(t.mask=7/\es.length<=4)\/t.mask=31
theorem BJ.sz{t:SetTable}{es:List (Int×Z5)}(T:BJ t es):t.place.size=es.length:=by
 have:=congrArg List.length T.pe;simpa using this
theorem BJ.le{t:SetTable}{es:List (Int×Z5)}(T:BJ t es):es.length<=6:=by
 have nd:t.place.toList.Nodup:=T.rs.imp λh=>ZL h;have:=List.Nodup.length_le_of_subset nd (l₂:=Zp 6) λx hx=>by
  rw[T.pe]at hx;let⟨e,he,rfl⟩:=Zy.mp hx;have:=T.bd e he;exact XH.mpr 24
 rw[T.pe,ZQ]at this;simpa using this
theorem BJ.fits{t:SetTable}{es:List (Int×Z5)}(T:BJ t es):t.fits es.length=true:=by
 have h2:=T.sz;have h3:=T.dm;have h4:=T.le;unfold SetTable.fits SetTable.fill;rw[h3];rcases T.mz with⟨h,_⟩|h<;>simp[h2,h]<;>omega
theorem hs6{n:Int}(h0:0<=n)(h1:n<6):hashInt n=n/\SetTable.bits (hashInt n) % 8=n.toNat/\SetTable.bits (hashInt n) % 32=n.toNat:=by
 have:n=0\/n=1\/n=2\/n=3\/n=4\/n=5:=by omega
 rcases this with rfl|rfl|rfl|rfl|rfl|rfl<;>decide +kernel
theorem PV{t:SetTable}{es:List (Int×Z5)}{n:Int}(T:BJ t es)(h0:0<=n)(h1:n<6)(hn:n.toNat∉t.place.toList):t.freeSlot (hashInt n)=some (n.toNat,false):=by
 have e:(t.probeStart (hashInt n)).j=n.toNat:=by
  show SetTable.bits (hashInt n) % (t.mask+1)=n.toNat;let⟨_,a,b⟩:=hs6 h0 h1;rcases T.mz with⟨h,_⟩|h<;>rw[h];exact a;exact b
 rcases Gz T.rs T.dm n.toNat with⟨_,h⟩|⟨p,h,_⟩;have k:10*SetTable.turns t.mask=(10*SetTable.turns t.mask-1)+1:=by unfold SetTable.turns;omega
 unfold SetTable.freeSlot SetTable.probe;rw[k];unfold SetTable.probe.go;rw[e,h];rfl;rw[<-X7]at h;exact absurd (X3 h) hn
def QB(a b c d e:Nat):Bool:=((SetTable.layClean 31 #[(a:Int),b,c,d,e]).map λo=>decide (((Zp 32).filterMap λj=>(o.getD j none).map (j,·))=[(a,0),(b,1),(c,2),(d,3),(e,4)])) == some true
def DJ:∀a b c d e:Fin 6,a<b->b<c->c<d->d<e->QB a b c d e=true:=by decide +kernel
theorem Kx{t:SetTable}{es:Array (Int×Z5)}(T:Rs t.place.toList)(pe:t.place.toList=es.toList.map λe=>(iv e).toNat)(ok:∀e∈es.toList,Fy e)(bd:∀e∈es.toList,0<=iv e/\iv e<6)(hl:es.size=5) :
  ∃t',relayAll t es (SetTable.grown es.size)=(es,t',false)/\t'.mask=31/\t'.place=t.place/\t'.dummies=#[]/\t'.led=t.led/\t'.plain=t.plain:=by
 let⟨l⟩:=es;obtain⟨x1,x2,x3,x4,x5,rfl⟩:∃x1 x2 x3 x4 x5,l=[x1,x2,x3,x4,x5]:=by
  match l,hl with
  |[x1,x2,x3,x4,x5],_=>exact⟨_,_,_,_,_,rfl⟩
 have hv:∀e∈[x1,x2,x3,x4,x5],e.1=((iv e).toNat:Int)/\(iv e).toNat<6:=λe he=>by
  let⟨n,t,rfl⟩:=ok e he;let⟨h0,h1⟩:=bd _ he;have h0':0<=n:=h0;have h1':n<6:=h1;refine⟨((hs6 h0' h1').1).trans (show n=(n.toNat:Int)by omega),?_⟩;show n.toNat<6;omega
 have p1:=hv x1 51;have p2:=hv x2 51;have p3:=hv x3 51;have p4:=hv x4 51;have p5:=hv x5 51;have T':Rs [(iv x1).toNat,(iv x2).toNat,(iv x3).toNat,(iv x4).toNat,(iv x5).toNat]:=by rw[pe]at T;exact T
 unfold Rs at T';simp only[List.pairwise_cons,ZT,Zv,or_false,forall_eq_or_imp,forall_eq]at T';have key:=DJ ⟨_,p1.2⟩ ⟨_,p2.2⟩ ⟨_,p3.2⟩ ⟨_,p4.2⟩ ⟨_,p5.2⟩ T'.1.1 T'.2.1.1 T'.2.2.1.1 T'.2.2.2.1;unfold QB at key;have eh:(#[x1,x2,x3,x4,x5]:Array (Int×Z5)).map (·.1)=#[((iv x1).toNat:Int),(iv x2).toNat,(iv x3).toNat,(iv x4).toNat,(iv x5).toNat]:=by
  rw[<-p1.1,<-p2.1,<-p3.1,<-p4.1,<-p5.1];exact Array.toList_inj.mp (by rw[Array.toList_map];rfl)
 dsimp only at key;cases hc:SetTable.layClean 31 #[((iv x1).toNat:Int),(iv x2).toNat,(iv x3).toNat,(iv x4).toNat,(iv x5).toNat]with
 |none=>rw[hc]at key;cases key
 |some o=>
  rw[hc]at key;have live:((Zp 32).filterMap λj=>(o.getD j none).map (j,·))=[((iv x1).toNat,0),((iv x2).toNat,1),((iv x3).toNat,2),((iv x4).toNat,3),((iv x5).toNat,4)]:=by
   simpa using key
  have pl:t.place=#[(iv x1).toNat,(iv x2).toNat,(iv x3).toNat,(iv x4).toNat,(iv x5).toNat]:=by
   apply Array.toList_inj.mp;rw[pe];rfl
  refine⟨{ mask:=31,place:=t.place,dummies:=#[],finger:=t.finger,led:=t.led,moves:=t.movedTo 31,plain:=t.plain },?_,rfl,rfl,rfl,rfl,rfl⟩;unfold relayAll SetTable.relaid SetTable.laid;have s31:SetTable.sizeAbove (SetTable.grown (#[x1,x2,x3,x4,x5]:Array (Int×Z5)).size)-1=31:=rfl;rw[eh,s31,hc];dsimp only[Option.bind_eq_bind,Z4];have l32:Zp (31+1)=Zp 32:=rfl;rw[l32,live,pl];rfl
structure yy(w:Zr)(o:Obj)(es:Array (Int×Z5))(ep:Nat)(t:SetTable):Prop where
 ex:o.ExactSet
 dt:o.data=.set es ep t
 tab:BJ t es.toList
 pl:t.plain=true
 ld:t.led=!w.params.followText "set-order"
def yy.fits{w:Zr}{o:Obj}{es:Array (Int×Z5)}{ep:Nat}{t:SetTable}(S:yy w o es ep t):t.fits es.size=true:=S.tab.fits
section
variable{a:Addr}{es:Array (Int×Z5)}{ep:Nat}{t:SetTable}{o:Obj}
theorem vD{Q:Bool->Z6->Prop}(q:Q (w.params.followText "set-order") s):wpAny 69 A setsByText Q E s:=by
 unfold setsByText;exact Z2 (wpAny_askSetting (Z8 q))
def SIt(w:Zr)(h:Heap)(it a:Addr)(i n ep:Nat)(t:SetTable):Prop:=∃o sl,h.get? it=some o/\o.cls=.type "set_iterator"/\o.data=.fields #[rawInt (sl:Nat),rawInt (i:Nat),.ref a,rawInt (n:Nat),rawInt (ep:Nat)]/\(w.params.followText "set-order"=false->SetTable.below t.place sl=i)
theorem SIt.ty{it:Addr}{i n:Nat}(h:SIt w s.heap it a i n ep t):s.TypeIs (.ref it) "set_iterator":=let ⟨o,_,g,c,_⟩:=h;⟨o,g,c⟩
theorem GD(ho:s.heap.get? a=some o)(S:yy w o es ep t){Q:Z5->Z6->Prop}(q:∀o,SIt w (s.heap.push o) s.heap.objs.size a 0 es.size ep t->o={ cls:=.type "set_iterator",data:=.fields #[rawInt 0,rawInt 0,.ref a,rawInt (es.size:Nat),rawInt (ep:Nat)] }->Q 86 { s with heap:=s.heap.push o }):wpAny 69 A (pyIter (.ref a)) Q E s:=by
 have hd:=S.dt;have hex:=S.ex;have T:s.TypeIs (.ref a) "set":=⟨o,ho,hex.1⟩;refine wpAny_pyIter_slot T PySem.F.slot_set_iter (wpAny_call_entry PySem.F.slot_set_iter T D7 ?_ (PySem.F.args_set_iter_1 _));unfold Builtin.«frozenset.__iter__» Builtin.Frozenset.slot0 slotArgs;refine Z2 (Z2 (Z8 (Z8 ?_)));unfold Builtin.Frozenset.sizeOf;refine Z2 (Z2 (wpAny_setEntries_of ho hd S.fits (Z8 ?_)));unfold setDrawn;refine Z2 (Z2 (wpAny_setState_of ho hd S.fits (Z2 (vD (Z8 ?_)))));refine wpAny_ite_split (λc=>?_) λ_=>?_;have c':(!w.params.followText "set-order"&&(!t.plain&&decide (es.size>1)))=true:=c;rw[S.pl]at c';simp at c';refine Z2 (Z8 (Z2 (wpAny_setEpoch_of ho hd S.fits ?_)));refine Z2 (wpAny_newObj_type (Z8 ⟨_,rfl,"set_iterator",_,⟨_,ZG _ rfl,rfl⟩,k7.lookup,q _ ⟨_,0,ZG _ rfl,rfl,rfl,λ_=>p6 S.tab.rs⟩ rfl⟩))
theorem SIt.at_{h h':Heap}{it:Addr}{i n:Nat}(x:SIt w h it a i n ep t)(e:∀o,h.get? it=some o->h'.get? it=some o):SIt w h' it a i n ep t:=let ⟨o,sl,g,r⟩:=x;⟨o,sl,e o g,r⟩
theorem wc{it:Addr}{i sl:Nat}(ho:s.heap.get? a=some o)(S:yy w o es ep t)(hsl:w.params.followText "set-order"=false->SetTable.below t.place sl=i){Q:Option (Z5×Nat)->Z6->Prop}
  (q1:∀e,(BS w a ep es)[i]?=some e->∀sl',(w.params.followText "set-order"=false->SetTable.below t.place sl'=i+1)->Q (some (e.2,sl')) s) (q2:(BS w a ep es)[i]?=none->Q none s):wpAny 69 A (setNext a sl i ep) Q E s:=by
 have hd:=S.dt;have hex:=S.ex;unfold setNext;refine Z2 (wpAny_setState_of ho hd S.fits ?_);dsimp only;refine Z2 (vD ?_);unfold BS at q1 q2;cases hb:w.params.followText "set-order" with
 |true=>
  rw[hb]at q1 q2;simp only[if_true]at q1 q2 ⊢;rw[Xd 51];unfold setWalk;refine Z2 (Z2 (wpAny_setState_of ho hd S.fits ?_));dsimp only;refine Z2 (vD ?_);rw[hb];simp only[if_true];refine Z2 (wpAny_askSetting (Z8 (Z8 ?_)));show Q ((pickOrder (w.params.setOrder a ep) es)[i]?.map λe=>(e.2,sl)) s;cases hg:(pickOrder (w.params.setOrder a ep) es)[i]? with
  |none=>exact q2 hg
  |some e=>exact q1 e hg sl (λz=>by cases z)
 |false=>
  rw[hb]at q1 q2;simp only[Zt,if_false]at q1 q2 ⊢;refine wpAny_ite_split (λc=>?_) λ_=>?_;have c':(!t.plain&&decide (es.size>1))=true:=c;rw[S.pl]at c';simp at c';refine Z2 ?_;have hl:t.led=true:=by rw[S.ld,hb];rfl
  show wpAny _ _ (if (!t.led&&!es.isEmpty)=true then unsupported "set:maker-not-led" else pure ()) _ _ _;rw[hl];simp only[Xh,Bool.false_and,Zt,if_false];refine Z8 (Z8 ?_);rw[hsl hb];have sz:=S.tab.sz;simp only[Zh]at sz;by_cases c:i<es.size;have c2:i<t.place.size:=by omega
  rw[Zc c,Zc c2];exact q1 _ (Zc c) _ λ_=>yn S.tab.rs (Zc c2);have h0:es[i]?=none:=Array.getElem?_eq_none 24;rw[h0];exact q2 h0
theorem GF{it:Addr}{i:Nat}(ho:s.heap.get? a=some o)(S:yy w o es ep t)(I:SIt w s.heap it a i es.size ep t)(hi:i<es.size){Q:Option Z5->Z6->Prop}
  (q:∀e h',(BS w a ep es)[i]?=some e->SIt w h' it a (i+1) es.size ep t->XC it s.heap h'->Q (some e.2) { s with heap:=h' }):wpAny 69 A (pyNext (.ref it)) Q E s:=by
 have T:=I.ty;let⟨io,sl,hio,ic,id',hsl⟩:=I;have hd:=S.dt;have hex:=S.ex;unfold pyNext;refine Z2 (wpAny_attempt (wpAny_callSpecial?_slot (name:=Str.ofString "__next__") T k7 (wpAny_call_entry k7 T A7 ?_ (BE _))));unfold Builtin.«set_iterator.__next__» slotArgs;refine Z2 (Z8 (Z2 (wpAny_fieldsOf hio id' ?_)));show wpAny _ _ (setEntries a >>= _) _ _ s;refine Z2 (wpAny_setEntries_of ho hd S.fits ?_);rw[Xd 51];show wpAny _ _ (setNext a (sl:Int).toNat (i:Int).toNat (ep:Int).toNat >>= _) _ _ s;simp only[XQ];refine Z2 (wc (it:=it) ho S hsl (λe he sl' Si=>?_) λhn=>?_);dsimp only;refine Z2 (wpAny_setField hio id' 51 ?_);have g1:=XD (Obj.mapFields (·.setIfInBounds 0 (rawInt (sl':Nat)))) hio (Obj.isFreed_of_fields (Obj.data_mapFields id' _));have d1:=Obj.data_mapFields id' (·.setIfInBounds 0 (rawInt (sl':Nat)));refine Z2 (wpAny_setField (s:={ s with heap:=s.heap.update it (Obj.mapFields (·.setIfInBounds 0 (rawInt (sl':Nat)))) }) g1 d1 51 ?_);have g2:=XD (Obj.mapFields (·.setIfInBounds 1 (rawInt ((i:Int)+1)))) g1 (Obj.isFreed_of_fields (Obj.data_mapFields d1 _));have d2:=Obj.data_mapFields d1 (·.setIfInBounds 1 (rawInt ((i:Int)+1)));have I2:SIt w ((s.heap.update it (Obj.mapFields (·.setIfInBounds 0 (rawInt (sl':Nat))))).update it (Obj.mapFields (·.setIfInBounds 1 (rawInt ((i:Int)+1))))) it a (i+1) es.size ep t:=by
  refine⟨_,sl',g2,((Obj.cls_mapFields ..).trans (Obj.cls_mapFields ..)).trans ic,?_,Si⟩;rw[d2];simp
 exact Z8 ⟨_,rfl,Z8 (q e _ he I2 ((Heap.SameBut.update ..).trans (Heap.SameBut.update ..)))⟩;have:=(nW (w:=w) (a:=a) (ep:=ep) (es:=es)).length_eq;simp only[Zh]at this;have:=Array.getElem?_eq_none_iff.mp hn;omega
theorem Ks{it:Addr}(hh:A.handled=none)(ho:s.heap.get? a=some o)(S:yy w o es ep t)(I:SIt w s.heap it a es.size es.size ep t){Q:Option Z5->Z6->Prop}
  (q:∀h',Heap.ExtBut it s.heap h'->Q none { s with heap:=h' }):wpAny 69 A (pyNext (.ref it)) Q E s:=by
 have T:=I.ty;let⟨io,sl,hio,ic,id',hsl⟩:=I;have hd:=S.dt;have hex:=S.ex;unfold pyNext;refine Z2 (wpAny_attempt (wpAny_callSpecial?_slot (name:=Str.ofString "__next__") T k7 (wpAny_call_entry k7 T A7 ?_ (BE _))));unfold Builtin.«set_iterator.__next__» slotArgs;refine Z2 (Z8 (Z2 (wpAny_fieldsOf hio id' ?_)));show wpAny _ _ (setEntries a >>= _) _ _ s;refine Z2 (wpAny_setEntries_of ho hd S.fits ?_);rw[Xd 51];show wpAny _ _ (setNext a (sl:Int).toNat (es.size:Int).toNat (ep:Int).toNat >>= _) _ _ s;simp only[XQ];refine Z2 (wc (it:=it) ho S hsl (λe he sl' Si=>?_) λhn=>?_);have:=(nW (w:=w) (a:=a) (ep:=ep) (es:=es)).length_eq;simp only[Zh]at this;have:=(Array.getElem?_eq_some_iff.mp he).1;omega
 ·dsimp only;refine Z2 (wpAny_setField hio id' 51 (Z2 ?_));unfold newExc newTuple;refine Z2 (wpAny_newObj_type ?_ (by size_fits));refine Z2 (m:=firstArgMember _ _) (wpAny_of_eq (a:=Value.none) (by first|rfl|(simp only[firstArgMember];rfl)) (wpAny_newObj_type ?_ (by size_fits)));unfold raiseNew;refine Z2 (wpAny_handled ?_);rw[show A.in1.handled=none from hh];refine Z2 (Z8 (wpAny_throw ?_));refine Z2 (wpAny_isInstance (T:="StopIteration") (b:=true) ⟨_,ZG _ rfl,rfl⟩ isSubtype_stop ?_);exact Z8 (q _ (((Heap.SameBut.update ..).extBut.push _).push _))
theorem GC{it:Addr}{i n:Nat}{Q:Z5->Z6->Prop}(I:SIt w s.heap it a i n ep t)(q:Q (.ref it) s):wpAny 69 A (pyIter (.ref it)) Q E s:=by
 refine wpAny_pyIter_slot I.ty zq (wpAny_call_entry zq I.ty Iu ?_ (IS _));show wpAny _ _ (ret (Value.ref it)) _ _ s;exact Z8 ⟨_,rfl,"set_iterator",_,I.ty,k7.lookup,q⟩
theorem DU(T:s.TypeIs (.ref a) "set"){Q:Bool->Z6->Prop}(q:Q false s):wpAny 69 A (Builtin.List.listLengthHint (.ref a)) Q E s:=by
 unfold Builtin.List.listLengthHint;refine Z2 (wpAny_specialOf T PySem.F.slot_set_len.lookup ?_);generalize hid:("set.__len__":String)=id0
 wp_delta
 rw[show splitId id0=some ("set","__len__")by subst hid;decide +kernel];subst hid;refine Z2 (wpAny_isInstance (T:="set") (b:=true) T sub_set_self ?_);refine wpAny_ite_split (λc=>absurd c 54) λ_=>wpAny_ite_split (λ_=>Z2 (wpAny_typeOf T (Z8 q))) λc=>absurd 39 c
theorem GG(S:yy w o es ep t):KdlSrc prog w "set" a a es.size (λi v=>∃e,(BS w a ep es)[i]?=some e/\v=e.2) (λh=>h.get? a=some o) where
 type:=λs g=>⟨o,g,S.ex.1⟩
 there:=λh g=>⟨ZH g,ZH g⟩
 keep:=λh h' g m=>m a (.inl rfl) o g
 notList:=by decide
 notTuple:=by decide
 hint:=λA E s Q g q=>DU ⟨o,g,S.ex.1⟩ q
 iter:=λA s hh g=>by
  refine⟨{ cls:=.type "set_iterator",data:=.fields #[rawInt 0,rawInt 0,.ref a,rawInt (es.size:Nat),rawInt (ep:Nat)] },λi h=>SIt w h s.heap.objs.size a i es.size ep t/\h.get? a=some o,λE Q q=>GD g S λo' _ e=>by rw[e];exact q,?_,⟨⟨_,0,ZG _ rfl,rfl,rfl,λ_=>p6 S.tab.rs⟩,Z7 _ g⟩⟩;have ne:a≠s.heap.objs.size:=ZL (ZH g);refine⟨λb hb=>by simp at hb;simp[hb],λi h h' st m=>⟨st.1.at_ λo1 g1=>m _ 51 o1 g1,m _ 51 o st.2⟩,λi s' Q E hi st k=>?_,λs' Q E st k=>?_,λi s' Q E st q=>GC st.1 q⟩;refine GF st.2 S st.1 hi λe h' he I' sb=>k _ h' _ ⟨e,he,rfl⟩ ⟨I',?_⟩ λb o' hb g'=>?_;rw[sb.2 a ne];exact st.2;rw[sb.2 b ‹hb›];exact g';exact Ks hh st.2 S st.1 λh' eb=>k h' _ λb o' hb g'=>eb b o' ‹hb› g'
end
def Eo:Zi "set"=some (.type "set"):=rfl
def setH(w:Zr)(a:Addr)(es:Array (Int×Z5))(ep:Nat)(t:SetTable):HO:=.ext λh=>∃o,h.get? a=some o/\yy w o es ep t
structure Fw(w:Zr)(h:Heap)(a:Addr)(es:Array (Int×Z5))(ep:Nat)(t:SetTable)(M:Int->Prop):Prop where
 ob:∃o,h.get? a=some o/\yy w o es ep t
 ok:∀e∈es.toList,Fy e
 nd:(es.toList.map iv).Nodup
 mem:∀y,y∈es.toList.map iv↔M y
section
variable{M:Int->Prop}
theorem sD{h:Heap}{a:Addr}{o:Obj}{es es':Array (Int×Z5)}{ep:Nat}{t t':SetTable}(ho:h.get? a=some o)(hex:o.ExactSet)(hd:o.data=.set es ep t)(T:BJ t' es'.toList)(pl:t'.plain=true)(ld:t'.led=!w.params.followText "set-order") :
  (∃o',(h.update a (Obj.putSet es' t')).get? a=some o'/\yy w o' es' (ep+1) t')/\∀b o,b≠a->h.get? b=some o->(h.update a (Obj.putSet es' t')).get? b=some o:=by
 have keep:∀b o,b≠a->h.get? b=some o->(h.update a (Obj.putSet es' t')).get? b=some o:=λb o hb g=>by
  rw[(Heap.SameBut.update h a (Obj.putSet es' t')).2 b hb];exact g
 have g:=XD (Obj.putSet es' t') ho (by rw[putSet_of es' t' hd];rfl);rw[putSet_of es' t' hd]at g;exact⟨⟨_,g,⟨hex.1,hex.2.1,hex.2.2⟩,rfl,T,pl,ld⟩,keep⟩
theorem D8{es:List (Int×Z5)}(ok:∀e∈es,Fy e):ElemsOf (intKind prog w) es:=λe he=>by
 let⟨n,t,rfl⟩:=ok e he;exact⟨⟨n,by simp[intKind,Value.isInt],rfl⟩,rfl⟩
theorem L9{e:Int×Z5}{n:Int}(ok:Fy e):(intKind prog w).is n e.2=true↔iv e=n:=by
 let⟨m,t,rfl⟩:=ok;simp[intKind,Value.isInt,iv]
theorem CP{a:Addr}{es:Array (Int×Z5)}{ep:Nat}{t:SetTable}{n:Int}{tk0:Tok}(S:Fw w s.heap a es ep t M)(h0:0<=n)(h1:n<6){Q:Bool->Z6->Prop}
  (q:∀h' tk es' ep' t' b,(∀b o,b≠a->s.heap.get? b=some o->h'.get? b=some o)->Fw w h' a es' ep' t' (λy=>M y\/y=n)->es'.size<=es.size+1->s.toks<=tk->Q b { s with heap:=h',toks:=tk }) :
  wpAny 69 A (setAdd a (.int n tk0)) Q E s:=by
 let⟨o,ho,so⟩:=S.ob;have hl:=so.tab.le;have sz:=so.tab.sz;simp only[Zh]at sz hl;have hel:ElemsOf (intKind prog w) es.toList:=D8 S.ok;have hkey:(intKind prog w).is n (.int n tk0)=true:=by simp[intKind,Value.isInt]
 have hb:es.size<scanBound:=by unfold scanBound;omega
 unfold setAdd;refine wpAny_holding (Z2 ((intKind prog w).pyHash hkey ?_));unfold setAddHashed setAddHashedIn;refine wpAny_holding (Z2 (wpAny_setState_of ho so.dt so.fits ?_));dsimp only;rw[byScan_of rfl hb hel];simp only[↓reduceIte];unfold setAddByScan;refine Z2 ?_;refine Z2 (wpAny_rule ?_);refine Z2 (wpAny_setScan_of hkey ho so.dt so.fits hel ?_);cases hr:List.findIdx? (λe=>(intKind prog w).is n e.2) es.toList with
 |some j=>
  dsimp only;let⟨hj,hpj,_⟩:=List.findIdx?_eq_some_iff_getElem.mp hr;have hm:M n:=(S.mem n).mp (Zy.mpr ⟨es.toList[j],XT hj,(L9 (S.ok _ (XT hj))).mp hpj⟩);refine Z8 (Z8 ?_);exact q s.heap _ es ep t _ (λ_ _ _ g=>g) ⟨⟨o,ho,so⟩,S.ok,S.nd,λy=>(S.mem y).trans ⟨.inl,λh=>h.elim id λe=>e▸hm⟩⟩ (Xu _) (Xu _)
 |none=>
  dsimp only;have hm:¬M n:=λh=>by
   let⟨e,he,hp⟩:=Zy.mp ((S.mem n).mpr h);have:=List.findIdx?_eq_none_iff.mp hr e he;rw[(L9 (S.ok e he)).mpr hp]at this;exact Bool.noConfusion this
  have hnp:n.toNat∉t.place.toList:=λh=>by
   rw[so.tab.pe]at h;let⟨e,he,h'⟩:=Zy.mp h;have:=so.tab.bd e he;exact hm ((S.mem n).mp (Zy.mpr ⟨e,he,by omega⟩))
  have fs:=PV so.tab h0 h1 hnp;let⟨pp,e1,lp,R1⟩:=KS so.tab.rs so.tab.dm hnp;have l1:(SetTable.insertAt es pp (hashInt n,Value.int n tk0)).toList=es.toList.take pp++(hashInt n,Value.int n tk0)::es.toList.drop pp:=SetTable.toList_insertAt ..;have l2:(SetTable.insertAt t.place pp n.toNat).toList=t.place.toList.take pp++n.toNat::t.place.toList.drop pp:=SetTable.toList_insertAt ..;have P:(SetTable.insertAt es pp (hashInt n,Value.int n tk0)).toList.Perm (es.toList++[(hashInt n,Value.int n tk0)]):=by
   rw[l1];refine List.perm_middle.trans ?_;rw[List.take_append_drop];exact(List.perm_append_singleton _ _).symm
  have pe1:(SetTable.insertAt t.place pp n.toNat).toList=(SetTable.insertAt es pp (hashInt n,Value.int n tk0)).toList.map λe=>(iv e).toNat:=by
   rw[l1,l2,so.tab.pe,Zb,ZR,List.map_take,List.map_drop];rfl
  have sz1:(SetTable.insertAt es pp (hashInt n,Value.int n tk0)).size=es.size+1:=by have:=P.length_eq;simpa using this
  have bd1:∀e∈(SetTable.insertAt es pp (hashInt n,Value.int n tk0)).toList,0<=iv e/\iv e<6:=λe he=>by
   rcases X4.mp (P.mem_iff.mp he)with h|h;exact so.tab.bd e h;rw[Zw.mp h];exact⟨h0,h1⟩
  have psz:(SetTable.insertAt t.place pp n.toNat).size=es.size+1:=by have:=congrArg List.length pe1;simpa [sz1] using this
  have le6:es.size+1<=6:=by
   have nd:(SetTable.insertAt t.place pp n.toNat).toList.Nodup:=R1.imp λh=>ZL h;have:=List.Nodup.length_le_of_subset nd (l₂:=Zp 6) λx hx=>by
    rw[pe1]at hx;let⟨e,he,rfl⟩:=Zy.mp hx;have:=bd1 e he;exact XH.mpr 24
   simpa [psz] using this
  have f1:SetTable.fits { t with place:=SetTable.insertAt t.place pp n.toNat } (SetTable.insertAt es pp (hashInt n,Value.int n tk0)).size=true:=by
   unfold SetTable.fits SetTable.fill;dsimp only;rw[so.tab.dm,psz,sz1];rcases so.tab.mz with⟨h,_⟩|h<;>simp[h]<;>omega
  have eL:layNew t es ((intKind prog w).hash n) (.int n tk0)=(SetTable.insertAt es pp (hashInt n,.int n tk0),{ t with place:=SetTable.insertAt t.place pp n.toNat },false,false):=by
   show layNew t es (hashInt n) (.int n tk0)=_;unfold layNew;rw[fs];dsimp only;have e1':t.put n.toNat=_:=e1;rw[e1'];dsimp only;unfold SetTable.orStandIn;rw[Xe f1,f1];rfl
  rw[eL];dsimp only;refine Z2 (Z8 ?_);rw[Xe so.pl];refine Z2 ?_;rw[hashByValue_scannable 8 rfl];refine Z8 ?_;rw[Xe (show plainKind (Value.int n tk0)=true from rfl)];obtain⟨t1,ht1⟩:∃t1:SetTable,t1={ t with place:=SetTable.insertAt t.place pp n.toNat }:=⟨_,rfl⟩;obtain⟨es1,hes1⟩:∃es1,es1=SetTable.insertAt es pp (hashInt n,Value.int n tk0):=⟨_,rfl⟩;have pl1:t1.plain=true:=by rw[ht1];exact so.pl
  have ld1:t1.led=!w.params.followText "set-order":=by rw[ht1];exact so.ld
  have mk1:t1.mask=t.mask:=by rw[ht1]
  have tf:t1.tooFull=decide ((es.size+1)*5≥t.mask*3):=by
   unfold SetTable.tooFull SetTable.fill;rw[ht1];dsimp only;rw[psz,so.tab.dm];rfl
  have dm1:t1.dummies=#[]:=by rw[ht1];exact so.tab.dm
  rw[<-hes1]at pe1 bd1;have pt1:t1.place.toList=es1.toList.map λe=>(iv e).toNat:=by rw[ht1];exact pe1
  have rs1:Rs t1.place.toList:=by rw[ht1];exact R1
  rw[<-hes1]at P sz1;rw[<-ht1,<-hes1];clear e1 fs f1 eL ht1 hes1 l1 l2 psz pe1;have ok1:∀e∈es1.toList,Fy e:=λe he=>by
   rcases X4.mp (P.mem_iff.mp he)with h|h;exact S.ok e h;rw[Zw.mp h];exact⟨n,tk0,rfl⟩
  have Pm:(es1.toList.map iv).Perm (es.toList.map iv++[n]):=by simpa [iv] using P.map iv
  have nd1:(es1.toList.map iv).Nodup:=Pm.nodup_iff.mpr (Xz.mpr ⟨S.nd,by simp,λy hy z hz e=>hm (by rw[Zw.mp hz]at e;rw[<-e];exact(S.mem y).mp hy)⟩);have mem1:∀y,y∈es1.toList.map iv↔M y\/y=n:=λy=>by rw[Pm.mem_iff,X4,S.mem,Zw]
  have out:∀{o'} {h':Heap} {es':Array (Int×Z5)} {ep' t'},h'.get? a=some o'->yy w o' es' ep' t'->es'.toList.Perm es1.toList->Fw w h' a es' ep' t' (λy=>M y\/y=n):=λg so' p=>⟨⟨_,g,so'⟩,λe he=>ok1 e (p.mem_iff.mp he),(p.map iv).nodup_iff.mpr nd1,λy=>by rw[(p.map iv).mem_iff];exact mem1 y⟩;refine Z2 (wpAny_storeSet_of ho so.dt ?_ (by rw[sz1];unfold ZC;omega));have keep1:∀b o,b≠a->s.heap.get? b=some o->(s.heap.update a (Obj.putSet es1 t1)).get? b=some o:=λb o hb g=>by
   rw[(Heap.SameBut.update s.heap a _).2 b hb];exact g
  by_cases c1:(es.size+1)*5≥t.mask*3;have m5:t.mask=7/\es.size+1=5:=by
   rcases so.tab.mz with⟨h,h'⟩|h;simp only[Zh]at h';omega;omega
  rw[Xe (by rw[tf,Xa c1];rfl)];have g:=XD (Obj.putSet es1 t1) ho (by rw[putSet_of _ _ so.dt];rfl);rw[putSet_of _ _ so.dt]at g;let⟨t',eR,k1,k2,k3,k4,k5⟩:=Kx rs1 pt1 ok1 bd1 (by rw[sz1];exact m5.2);rw[eR];dsimp only;have T2:BJ t' es1.toList:=⟨k3,by rw[k2];exact rs1,by rw[k2];exact pt1,bd1,.inr k1⟩;have f2:=T2.fits;simp only[Zh]at f2;refine Z2 (Z8 ?_);refine Z2 (wpAny_storeSet_of g rfl ?_ (by rw[sz1];unfold ZC;omega));let⟨⟨o',g',so'⟩,keep⟩:=sD (w:=w) g ⟨so.ex.1,so.ex.2.1,so.ex.2.2⟩ rfl T2 (by rw[k5];exact pl1) (by rw[k4];exact ld1);exact Z8 (Z8 (q _ _ _ _ _ _ (λb o hb h=>keep b o hb (keep1 b o hb h)) (out g' so' (.refl _)) (by rw[sz1];exact ZW _) (Xu _)));rw[Xd (by rw[tf,Xf c1];exact ZF)];have T1:BJ t1 es1.toList:=⟨dm1,rs1,pt1,bd1,by
   rcases so.tab.mz with⟨h,h'⟩|h;exact .inl ⟨by rw[mk1];exact h,by simp only[Zh];omega⟩;exact .inr (by rw[mk1];exact h)⟩
  let⟨⟨o',g',so'⟩,keep⟩:=sD (w:=w) ho so.ex so.dt T1 pl1 ld1;exact Z8 (Z8 (q _ _ _ _ _ _ keep (out g' so' (.refl _)) (by rw[sz1];exact ZW _) (Xu _)))
theorem y3{R:Result->Z6->Prop}{I Sa:Addr}{fp wr:List Addr}{G:Array GenState->Array GenState->Prop}{n:Nat}{P:Nat->Z5->Prop}{St:Nat->Z6->Prop}(W:WalksS prog w A.in1 I fp wr G n P St)(hSf:Sa∉fp)
  (val:Nat->Int) (Su:∀i v,P i v->∃t,v=.int (val i) t) (hb:n<=1200) (h6:∀i,i<n->0<=val i/\val i<6) :
  ∀(k i:Nat) (s:Z6),n-i=k->i<=n->St i s->(∃es ep t,Fw w s.heap Sa es ep t (λy=>∃j,j<i/\val j=y)/\es.size<=i)->
   (∀s',Moved (Sa::wr) G s s'->(∃es ep t,Fw w s'.heap Sa es ep t (λy=>∃j,j<n/\val j=y)/\es.size<=n)->R (.ok (.ret .none)) s')->
   codeAny 69 A (.builtin "set.update.loop" ⟨[.ref Sa,.ref I],[]⟩) R s:=by
 have sub:∀b∈wr,b∈Sa::wr:=λb hb=>ZY _ hb;have hSw:Sa∉wr:=λh=>hSf (W.sub _ h);have moveS:∀{s s':Z6} {es ep t M},Moved wr G s s'->Fw w s.heap Sa es ep t M->Fw w s'.heap Sa es ep t M:=λhm S=>by
  let⟨⟨o,g,so⟩,r1,r2,r3⟩:=S;exact⟨⟨o,hm.heap _ _ hSw g,so⟩,r1,r2,r3⟩
 intro k;induction k with
 |zero=>
  intro i s hk hi hst hS hR;obtain rfl:i=n:=by omega
  refine codeAny_builtin PyProof.Rows.F.entry_set_update_loop ?_;rw[Around.under_plainId PyProof.Rows.F.plain_set_update_loop _];change wpAny _ A.in1 (pyNext (.ref I) >>= _) _ _ s;refine Z2 (W.done s _ _ hst λs' hm=>Z8 (hR s' (hm.mono sub) ?_));let⟨es,ep,t,S,r⟩:=hS;exact⟨es,ep,t,moveS hm S,r⟩
 |succ k ih=>
  intro i s hk hi hst hS hR;refine codeAny_builtin PyProof.Rows.F.entry_set_update_loop ?_;rw[Around.under_plainId PyProof.Rows.F.plain_set_update_loop _];change wpAny _ A.in1 (pyNext (.ref I) >>= _) _ _ s;refine Z2 (W.item i s _ _ 24 hst λv s' hP Sm hm=>?_);let⟨es,ep,t,S,sz⟩:=hS;have S1:=moveS hm S;let⟨tk0,rfl⟩:=Su i v hP;change wpAny _ A.in1 (holding [Value.int (val i) tk0] (setAdd Sa (.int (val i) tk0)) >>= _) _ _ s';refine Z2 (wpAny_holding (CP S1 (h6 i 24).1 (h6 i 24).2 λh' tk es' ep' t' bb keep S2 sz2 htk=>?_));refine Z8 ⟨plainId_quiet PyProof.Rows.F.plain_set_update_loop _,ih (i+1) _ 24 24 (W.frame _ s' _ _ Sm htk λb hb o g=>keep b o (λz=>hSf (z▸hb)) g) ⟨es',ep',t',⟨S2.ob,S2.ok,S2.nd,λy=>?_⟩,by omega⟩ λs'' Ss Sk=>?_⟩;rw[S2.mem];constructor;rintro(⟨j,hj,e⟩|e);exact⟨j,by omega,e⟩;exact⟨i,by omega,e.symm⟩;rintro⟨j,hj,e⟩;rcases Nat.lt_or_ge j i with c|c;exact .inl ⟨j,c,e⟩;exact .inr (by rw[<-e,show j=i by omega]);exact hR s'' (Moved.trans W.gtrans ((hm.mono sub).then_heap htk λb o hb g=>keep b o (λz=>hb (by rw[z];exact ZD)) g) Ss) Sk
theorem DX:yy w (iQ w) #[] 0 (.fresh 0 0 (!w.params.followText "set-order")):=
 ⟨⟨rfl,rfl,rfl⟩,rfl,⟨rfl,List.Pairwise.nil,rfl,λe h=>by simp at h,.inl ⟨rfl,by simp⟩⟩,rfl,rfl⟩
theorem CN{l:Addr}{vs:List Z5}{ns:List Int}{Q:Z5->Z6->Prop}(hh:A.handled=none)(hl:s.heap.IsTuple l vs.toArray)(hi:IntsAre vs ns)(hn:vs.length<=1200)(h6:∀n∈ns,0<=n/\n<6)
  (q:∀h' tk es ep t,Fw w h' s.heap.objs.size es ep t (·∈ns)->es.size<=1200->(∀b o,s.heap.get? b=some o->h'.get? b=some o)->Q 86 { s with heap:=h',toks:=tk }) :
  wpAny 69 A (call (.type "set") [.ref l]) Q E s:=by
 refine vz ?_;have gS:(s.heap.push (iQ w)).get? s.heap.objs.size=some (iQ w):=ZG _ rfl;have hl1:(s.heap.push (iQ w)).IsTuple l vs.toArray:=let ⟨o,g,r⟩:=hl;⟨o,Z7 _ g,r⟩
 let⟨ol,gl,cl,nl,dl⟩:=hl;let⟨ocl,odi,oda,osl⟩:=ol;dsimp only at cl dl;subst cl;subst dl;have gl':(s.heap.push (iQ w)).get? l=some { cls:=.type "tuple",dict:=odi,data:=.seq vs.toArray nl,slots:=osl }:=Z7 _ gl;have x1:=uD;have x2:=sy;have x3:(Value.type "tuple" == Value.type "dict")=false:=by decide
 have lS:l<s.heap.objs.size:=ZH gl;unfold Builtin.«set.__init__» noKeywords Builtin.Frozenset.updateFrom;generalize hq:pyIter=PI
 wp_walk
 subst hq;refine wpAny_pyIter_tuple hl1 (Z2 (wpAny_runValue ?_));have sz1:(s.heap.push (iQ w)).objs.size=s.heap.objs.size+1:=Xw ..;have W:=(Walks.tuple (prog:=prog) (w:=w) (A:=A.in1.in1.in1) hh (s.heap.push (iQ w)).objs.size l (by rw[sz1];exact ZL (Nat.lt_succ_of_lt lS)) vs.toArray).toS;have h_:vs.length=ns.length:=hi.length;have hv:∀(i:Nat) (v:Z5),vs.toArray[i]?=some v->∃t,v=.int (ns.getD i 0) t:=λi v g=>by
  rw[List.getElem?_toArray]at g;exact wU hi g
 refine y3 W (Sa:=s.heap.objs.size) (by rw[sz1];simp;exact Nat.ne_of_gt lS) (λi=>ns.getD i 0) hv ‹hn› (λi hi=>by
  have hi':i<ns.length:=by simp at hi;omega
  rw[Zo,ZK hi'];exact h6 _ (XT hi')) (vs.toArray.size-0) 0 _ (by omega) (X5 _) ⟨⟨_,ZG _ rfl,rfl,rfl⟩,(let ⟨o,g,r⟩:=hl1;⟨o,Z7 _ g,r⟩)⟩ ⟨#[],0,_,⟨⟨_,Z7 _ gS,DX⟩,λe he=>by simp at he,List.nodup_nil,λy=>by simp⟩,ZW _⟩ λs' hm hS=>?_
 let⟨es,ep,t,S,sz⟩:=hS;let⟨h',g',d',tk',os'⟩:=s';have eg:g'=s.gens:=hm.gens;have ed:d'=s.drawn:=hm.drawn;have eo:os'=s.os:=hm.os;subst eg;subst ed;subst eo;refine Z8 (Z8 ⟨rfl,?_⟩);refine q h' tk' es ep t ⟨S.ob,S.ok,S.nd,λy=>?_⟩ (by simp at sz;omega) λb o g=>?_;rw[S.mem];constructor;rintro⟨j,hj,rfl⟩;have hj':j<ns.length:=by simp at hj;omega
 rw[Zo,ZK hj'];exact XT hj';intro hy;let⟨j,hj,rfl⟩:=List.getElem_of_mem hy;refine⟨j,by simp;omega,?_⟩;rw[Zo,ZK hj];rfl;have lt:=ZH g;refine hm.heap b o ?_ (Z7 _ (Z7 _ g));rw[sz1];simp;exact⟨ZL lt,ZL (Nat.lt_succ_of_lt lt)⟩
end
theorem AA:∀{es:List (Int×Z5)},(∀e∈es,Fy e)->IntsAre (es.map (·.2)) (es.map iv)
 |[],_=>.nil
 |e::es,h=>by
  let⟨n,t,rfl⟩:=h _ ZD;exact .cons n t (AA λe he=>h e (ZY _ he))
def Kz(K:Z3)(w:Zr):List V->Hp->VK->Prop:=λxs H Q=>∃(p:Addr) (ns:List Int),xs=[.ref p]/\SqT K H p (ns.map V.int)/\ns.length<=1200/\(∀n∈ns,0<=n/\n<6)/\
 ∀(l:Addr) (es:Array (Int×Z5)) (ep:Nat) (t:SetTable),H l=none->(∀e∈es.toList,Fy e)->(es.toList.map iv).Nodup->(∀y,y∈es.toList.map iv↔y∈ns)->Q (.ref l) (upd H l (setH w l es ep t))
theorem HC{X:Cx}(hc:X.calm=true):eU X (.type "set") (Kz X.K X.w):=by
 rintro a_ s σ H xs us Q I r ⟨p,ns,rfl,hL,hn,h6,q⟩;let⟨u,rfl,ru⟩:=jv r;cases ru;let⟨its,rv,pl,hz⟩:=I.tuple hL;have h_:=rv.length;rw[ZQ]at h_;refine CN (ns:=ns) (show X.A.handled=none from I.ok.hd hc) pl (tL rv) 24 h6 λh' tk es ep t S sz hk=>?_;let⟨o,go,so⟩:=S.ob;exact⟨.ref s.heap.objs.size,_,I.laid (o:=setH X.w s.heap.objs.size es ep t) (t':=tk) (λb o g=>hk b o g) (ZW _) ⟨⟨o,go,so⟩,⟨o,go⟩,λh1 h2 ⟨o,g,so⟩ m=>⟨o,m o g,so⟩⟩,rfl,q _ es ep t (I.hok.fresh (ZW _)) S.ok S.nd S.mem⟩
def zF(w:Zr):List V->Hp->VK->Prop:=λxs H Q=>∃(v:Addr) (es:Array (Int×Z5)) (ep:Nat) (t:SetTable),xs=[.ref v]/\H v=some (setH w v es ep t)/\(∀e∈es.toList,Fy e)/\es.size<64/\
 ∀(l:Addr) (ms:List Int),H l=none->ms.Perm (es.toList.map iv)->ms.Pairwise (·<=·)->Q (.ref l) (upd H l (.lst (ms.map V.int)))
theorem xS{X:Cx}(hc:X.calm=true):eU X (.builtin "sorted") (zF X.w):=by
 rintro a_ s σ H xs us Q I r ⟨v,es,ep,t,rfl,hV,ok,h64,q⟩;let⟨u,rfl,ru⟩:=jv r;cases ru;obtain⟨⟨o,go,so⟩,_,_⟩:bU X.prog X.w H s.heap v (setH X.w v es ep t):=I.hok v _ hV;refine Calls.call_function_entry kind_sorted plain_sorted entry_sorted (args_sorted1 _) ?_;unfold Builtin.«sorted»;refine Z2 (m:=checkCount "sorted" 1 1 _) (Z8 (Z2 (PySem.W.kdu_collect (GG (prog:=X.prog) (a:=v) so) (show X.A.in1.handled=none from I.ok.hd hc) go (by unfold ZC;omega) λh1 tk acc up S8=>?_)));have P:=nW (w:=X.w) (a:=v) (ep:=ep) (es:=es);have ea:acc.toList=(BS X.w v ep es).toList.map (·.2):=by
  refine Zs λi=>?_;rw[X7,Zz,X7];have so1:(BS X.w v ep es).size=es.size:=by have:=P.length_eq;simpa using this
  by_cases c:i<es.size;have c1:i<acc.size:=by rw[S8.1];exact c
  let⟨e,he,ev⟩:=S8.2 i _ (Zc c1);rw[he,Zc c1,ev];rfl;rw[Array.getElem?_eq_none (by rw[S8.1];omega),Array.getElem?_eq_none 24];rfl
 have hI:IntsAre acc.toList ((BS X.w v ep es).toList.map iv):=by rw[ea];exact AA λe he=>ok e (P.mem_iff.mp he)
 have hla:acc.toList.length=es.size:=by rw[ea,ZQ,P.length_eq,Zh]
 have I1:Inv X a_ σ H { s with heap:=h1,toks:=tk }:=I.kept (t':=tk) up;refine Z2 (wpAny_newList ?_ (by rw[hla];unfold ZC;omega));have gL:(h1.push { cls:=.type "list",data:=.seq acc.toList.toArray }).get? h1.objs.size=some (seqObj "list" acc.toList.toArray 0):=ZG _ rfl;refine Z2 (wpAny_holding (wpAny_call_entry slot_list_sort ⟨_,gL,rfl⟩ entry_list_sort (list_sort_tree (s:={ s with heap:=h1.push { cls:=.type "list",data:=.seq acc.toList.toArray },toks:=tk }) gL hI 24 λout ms a1 a2 a3=>⟨_,rfl,?_⟩) (args_list_sort _)));let⟨e,ge⟩:=sortedHeap_at (out:=out) gL;have hf:=I1.hok.fresh (ZW h1.objs.size);have lm:ms.length=es.size:=by rw[a2.length_eq,ZQ,P.length_eq,Zh]
 refine Z8 ⟨_,rfl,.ref h1.objs.size,_,Inv.laid (s:={ s with heap:=h1,toks:=tk }) (h':=sortedHeap (h1.push { cls:=.type "list",data:=.seq acc.toList.toArray }) h1.objs.size acc.toList out) (t':=tk) I1 (λb o g1=>?_) (ZW _) (qQ ge a1 24),rfl,q _ ms hf (a2.trans (P.map iv)) a3⟩;have g1:h1.get? b=some o:=g1;have lt1:=ZH g1;rw[sortedHeap_old (ZL lt1) (by rw[Xw];exact Nat.lt_succ_of_lt lt1)];exact Z7 _ g1
def BU:List Int->List Int
 |[]=>[]
 |x::xs=>if x∈xs then BU xs else x::BU xs
theorem ko{y:Int}:∀{xs:List Int},y∈BU xs↔y∈xs
 |[]=>Iff.rfl
 |x::xs=>by
  unfold BU;split;rename_i h;rw[ko,ZT];exact⟨.inr,λz=>z.elim (λe=>e▸h) id⟩;rw[ZT,ZT,ko]
theorem qM:∀{xs:List Int},(BU xs).Nodup
 |[]=>List.nodup_nil
 |x::xs=>by
  unfold BU;split;exact qM;rename_i h;exact Xb.mpr ⟨λz=>h (ko.mp z),qM⟩
def kN(ce:CE):CE:=λρ S=>(ce ρ S).bind λp=>match p.1 with
 |.tup us=>(qW us).bind λns=>if ns.length<64/\∀n∈ns,0<=n/\n<6 then some (.ref p.2.length,p.2++[.lst ((dY (BU ns)).map U.int)])else none
 |_=>none
theorem xN{X:Cx}{o:ZN}{co:CE}{p1 p2 n_ pos:Pos}(hcm:X.calm=true)(hg:L2.Gl X "sorted")(hm:X.mg "sorted"=none)(hg2:L2.Gl X "set")(hm2:X.mg "set"=none)(ho:QE X o co)
  (he1:ZU [o] X.env=(false,eval o X.env)::ZU [] X.env:=by rfl) (Sn:(X8 n_ (ZU [] X.env)).any (·.1)=false:=by rfl)
  (he:ZU [.Call (.Name "set" p2) [o] [] n_] X.env=(false,eval (.Call (.Name "set" p2) [o] [] n_) X.env)::ZU [] X.env:=by rfl) (hpl:(X8 pos (ZU [] X.env)).any (·.1)=false:=by rfl) :
  QE X (.Call (.Name "sorted" p1) [.Call (.Name "set" p2) [o] [] n_] [] pos) (kN co):=
 (mX (xS hcm) hg hm OG.fJ (dZ (kZ (HC hcm) hg2 hm2 Eo (dZ ho iF he1) 54 54 he1 Sn) iF he) 54 54 he hpl).imp λσ H Q hz=>kJ hz λm ρ S u S' sr lr hc post=>by
  let⟨⟨x,S1⟩,h1,h⟩:=Z0.mp hc;refine⟨m,ρ,S,x,S1,sr,lr,h1,λm1 v1 H1 e1 sr1 i1=>?_⟩;cases x with
  |tup us=>
   simp only at h;let⟨ns,hn,h⟩:=Z0.mp h;split at h<;>try cases h
   rename_i hcc;let⟨a,xs,rfl,sa,la⟩:=i1.of_tup;rw[kF hn]at la;have ex:xs=ns.map V.int:=IsL.ints la;subst ex;refine⟨a,ns,rfl,sa,by omega,hcc.2,λl es ep t hl ok nd mem=>?_⟩;have P:(es.toList.map iv).Perm (BU ns):=(List.perm_ext_iff_of_nodup nd qM).mpr λy=>(mem y).trans ko.symm;have ln:es.size<=ns.length:=by
    have h2:=List.Nodup.length_le_of_subset nd (l₂:=ns) λy hy=>(mem y).mp hy;rwa[ZQ,Zh]at h2
   have sm:uo H1 (upd H1 l (setH X.w l es ep t)):=cG hl _;refine⟨l,es,ep,t,rfl,ax,ok,by omega,λl2 ms hl2 pm so=>?_⟩;have es':ms=dY (BU ns):=fS (pm.trans P) so;subst es';exact dF (sr1.same sm) (gZ _) (post.mono (e1.trans (.of (cu sm)))) hl2
  |_=>cases h
end OP
namespace OP
open PySem PySem.Spec PyProof PyProof.Rows L2 OG
structure EB(X:Cx)(obj:Obj)(vs:List V)(cb:CE)(kr:Nat):Prop where
 ex:∃(name qual:Str) (params:Arguments) (body:PySem.Expr) (scope:XA) (cl:List (Str×Addr)) (pm ctv:Z5) (c:Addr) (pa:Str) (caps:List Str) (oc:Obj) (ovs:Array Z5) (t:Tok),
  obj=PySem.W.kla_obj name qual params body scope cl pm c ctv/\(scope.isCoroutine=false/\scope.isGenerator=false/\scope.kind=.function/\(∀x∈scope.names,x.2≠.cell)/\scope.names.lookup pa=some .local)/\
  (∀u:Z5,bindArgs (PySem.W.kla_fn name qual params body scope cl pm (.ref c) ctv) ⟨[u],[]⟩=pure [(pa,u)])/\
  (∀x y d,cl.lookup x=some d->cl.lookup y=some d->x=y)/\(∀x,(scope.names.lookup x=some .cell\/scope.names.lookup x=some .free)->∃d,cl.lookup x=some d)/\
  (∀x d,cl.lookup x=some d->(∃u,X.s₀.heap.IsCell d u)/\X.H₀ d=none/\d∉X.fs/\d∉X.ex)/\
  Paired (λx v=>Jh scope cl X.s₀.heap X.H₀ x v) caps vs/\
  (X.H₀ c=some (.frz oc (.own 0))/\oc.data=.fields ovs/\ovs[1]?=some (.str qual t))/\
  ∀(f:Addr) (A:Ze) (s:Z6) (H:Hp),eQ kr (A.deeper (Iq qual scope s.heap.objs.size f (.ref c) cl))->QE (cxL X.prog X.w X.K X.mg X.base (pa::caps) qual scope f (.ref c) cl A X.stack s H) body cb
theorem AG{K:Z3}{m:List Addr}{H:Hp}:∀{vs:List V} {cs:List U} {i:Nat} {u:U},IsL K m H vs cs->cs[i]?=some u->∃v,vs[i]?=some v/\Is K m H v u
 |vs,[],i,u,h,e=>by simp at e
 |vs,c::cs,i,u,h,e=>by
  let⟨x,r,rfl,h1,h2⟩:=h.of_cons;cases i with
  |zero=>simp at e;subst e;exact⟨x,rfl,h1⟩
  |succ i=>
   let⟨v,a,b⟩:=AG (vs:=r) (cs:=cs) (i:=i) (u:=u) h2 ‹e›;exact⟨v,by simpa using a,b⟩
variable{X:Cx}{cb:CE}{kr:Nat}
section
variable{ci ce:CE}{Φ:Obj->List V->Prop}
theorem uV{a_:57}{σ:L2.St}{H:Hp}{s:Z6}{m:List Addr}{S S':Sto}{f:Addr}{obj:Obj}{vs:List V}{cs:List U}{v0:V}{u0:Z5}{w0 w:U}{R:Z5->Z6->Prop}{E:Z5->Z6->Prop}(L:EB X obj vs cb kr)
  (hr:eQ (kr+1) X.A) (I:47) (hf:H f=some (DL f obj)) (sr:Sr X.K m S H) (i0:Is X.K m H v0 w0) (r0:cP v0 u0) (iv:IsL X.K m H vs cs) (h:cb (some w0::cs.map some) S=some (w,S'))
  (q:∀v u' m' H' s',Inv X a_ σ H' s'->cP v u'->Ext X.K m H m' H'->Sr X.K m' S' H'->Is X.K m' H' v w->R u' s'):wpAny 49 X.A (call (.ref f) [u0]) R E s:=by
 let⟨name,qual,params,body,scope,cl,pm,ctv,c,pa,caps,oc,ovs,t,rfl,⟨co,gen,knd,nms,loc⟩,bnd,inj,has,cells,caps',⟨hc,hd,hq⟩,bdy⟩:=L.ex;have ho:s.heap.get? f=some (PySem.W.kla_obj name qual params body scope cl pm c ctv):=(I.hok f _ hf).1;have kp:∀{d:Addr} {v:Option Z5},X.s₀.heap.IsCell d v->X.H₀ d=none->d∉X.fs->d∉X.ex->s.heap.IsCell d v/\H d=none:=λ⟨o,g,e⟩ a b c=>⟨⟨o,I.base.keep _ o g a b c,e⟩,I.base.free _ o g a c⟩;have gc:s.heap.get? c=some oc:=(I.hok c _ (I.base.frzs c oc _ hc)).1;refine wpAny_call (codeAny_mono (HL (p:=pa) (capN:=caps) (vc:=vs) (v:=v0) (te:=tE X.K cb) (Q:=λv H'=>∃m',Ext X.K m H m' H'/\Sr X.K m' S' H'/\Is X.K m' H' v w) hr.depth I.env0 hr.hd ho ⟨c,oc,ovs,t,rfl,gc,hd,hq⟩ co gen knd nms loc (bnd _) r0 inj has (λx d e=>?_) (L2.Paired.mapP caps' λx v z=>?_) (bdy f X.A s H (hr.deeper _)) ?_) λr s' hr'=>?_);let⟨⟨u,hu⟩,a,b,c'⟩:=cells x d e;exact⟨⟨u,(kp hu a b c').1⟩,(kp hu a b c').2⟩;let⟨z1,d,u,z2,z3,z4⟩:=z.ex;let⟨_,a,b,c'⟩:=cells x d z2;exact⟨z1,d,u,z2,(kp z3 a b c').1,z4⟩;refine⟨m,some w0::cs.map some,S,w,S',sr,⟨by simp[iv.length],λi u e=>?_⟩,h,λm' v H' e sr' i'=>⟨m',e,sr',i'⟩⟩;cases i with
 |zero=>simp at e;subst e;exact⟨v0,rfl,i0⟩
 |succ i=>
  let⟨v,e1,e2⟩:=AG iv (i:=i) (u:=u) ‹e›;exact⟨v,by simp[e1],e2⟩
 let⟨u',rfl,ce⟩:=hr';let⟨v,H',I',rv,m',e,sr',i'⟩:=I.after ce;exact q v u' m' H' s' I' rv e sr' i'
open Classical in
def El(Φ:Obj->List V->Prop)(cb ci ce:CE):CE:=λρ S=>(ci ρ S).bind λp=>match p.1 with
 |.ref l=>(ce ρ p.2).bind λq=>match q.2[l]? with
  |some (.lam Ψ cs)=>if Ψ=Φ then cb (some q.1::cs.map some) q.2 else none
  |_=>none
 |_=>none
theorem zJ{nm:Str}{e:PySem.Expr}{p pos:Pos}(L:∀obj vs,Φ obj vs->EB X obj vs cb kr)(hr:eQ (kr+1) X.A)(hi:QE X (.Name nm p) ci)(he:QE X e ce)
  (hs:ZU [e] X.env=(false,eval e X.env)::ZU [] X.env:=by rfl) (hpl:(X8 pos (ZU [] X.env)).any (·.1)=false:=by rfl):QE X (.Call (.Name nm p) [e] [] pos) (El Φ cb ci ce):=⟨λa_ s σ H Q I hz=>by
 let⟨m,ρ,S,w,S',sr,lr,hc,post⟩:=hz;let⟨⟨x,S1⟩,h1,h2⟩:=Z0.mp hc;cases x<;>dsimp only at h2<;>try cases h2
 rename_i l;let⟨⟨y,S2⟩,h3,h4⟩:=Z0.mp h2;dsimp only at h4;cases hl:S2[l]? with
 |none=>rw[hl]at h4;cases h4
 |some o=>
  rw[hl]at h4;cases o<;>try cases h4
  rename_i Ψ cs;dsimp only at h4;split at h4;rename_i hΨ;subst hΨ;refine wpAny_Call_Name_kw (thn (hi.h a_ s σ H (λv H1=>∃m1,Ext X.K m H m1 H1/\Sr X.K m1 S1 H1/\Is X.K m1 H1 v (.ref l)) I ⟨m,ρ,S,.ref l,S1,sr,lr,h1,λm1 v H1 e1 sr1 i1=>⟨m1,e1,sr1,i1⟩⟩) λfv s1 hz=>?_);let⟨vf,H1,I1,rf,m1,e1,sr1,i1⟩:=hz;let⟨a,ha,rfl⟩:=i1;obtain rfl:fv=Value.ref a:=rf;have hA:=(qH he.h zX hs) pos a_ s1 σ H1 (λvs H2=>∃v m2,vs=[v]/\Ext X.K m1 H1 m2 H2/\Sr X.K m2 S2 H2/\Is X.K m2 H2 v y) I1 ⟨m1,ρ,S1,y,S2,sr1,lr.mono e1,h3,λm2 v H2 e2 sr2 i2=>⟨v,m2,rfl,e2,sr2,i2⟩⟩;rw[hs]at hA ⊢;refine PySem.W.callWith_of (P:=λh=>∃oc od fd sl,h.get? a=some ⟨oc,od,.func fd,sl⟩) (by show((false||(X8 pos (ZU [] X.env)).any (·.1))||false)=false;rw[hpl];rfl) (λh ⟨oc,od,fd,sl,g⟩=>⟨.frame,.inl rfl,(PySem.W.Looks.ld (part:=none) g).andThen .now⟩) (Calls.evalArgs_plain (thn hA λus s2 hz=>?_));let⟨vs,H2,I2,r,v,m2,hv,e2,sr2,i2⟩:=hz;subst hv;let⟨u0,rfl,r0⟩:=r.one;let⟨obj,cvs,hf,hΦ,iv⟩:=sr2.ob l a _ (e2.get ha) hl;have LL:=L obj cvs hΦ;refine⟨?_,uV LL hr I2 hf sr2 i2 r0 iv h4 λv u' m' H' s' I' rv e' sr' i'=>⟨v,H',I',rv,post m' v H' ((e1.trans e2).trans e') sr' i'⟩⟩;have g:=(I2.hok a _ hf).1;let⟨name,qual,params,body,scope,cl,pm,ctv,c,pa,caps,oc,ovs,t,rfl,_⟩:=LL.ex;exact⟨_,_,_,_,g⟩;cases h4⟩
end
section
variable{P:Zq}{w:Zr}{K:Z3}{mg:Str->Option Z5}{base:Heap}
structure EA(P:Zq)(w:Zr)(K:Z3)(mg:Str->Option Z5)(base:Heap)(s:Z6)(H:Hp)(fs:List Addr)(obj:Obj)(vs:List V)(cb:CE)(kr:Nat):Prop where
 ex:∃(name qual:Str) (params:Arguments) (body:PySem.Expr) (scope:XA) (cl:List (Str×Addr)) (pm ctv:Z5) (c:Addr) (pa:Str) (caps:List Str) (oc:Obj) (ovs:Array Z5) (t:Tok),
  obj=PySem.W.kla_obj name qual params body scope cl pm c ctv/\(scope.isCoroutine=false/\scope.isGenerator=false/\scope.kind=.function/\(∀x∈scope.names,x.2≠.cell)/\scope.names.lookup pa=some .local)/\
  (∀u:Z5,bindArgs (PySem.W.kla_fn name qual params body scope cl pm (.ref c) ctv) ⟨[u],[]⟩=pure [(pa,u)])/\
  (∀x y d,cl.lookup x=some d->cl.lookup y=some d->x=y)/\(∀x,(scope.names.lookup x=some .cell\/scope.names.lookup x=some .free)->∃d,cl.lookup x=some d)/\
  (∀x d,cl.lookup x=some d->(∃u,s.heap.IsCell d u)/\H d=none/\d∉fs)/\
  Paired (λx v=>Jh scope cl s.heap H x v) caps vs/\
  (H c=some (.frz oc (.own 0))/\oc.data=.fields ovs/\ovs[1]?=some (.str qual t))/\
  ∀(outer:List Env) (f:Addr) (A:Ze) (s':Z6) (H':Hp),eQ kr (A.deeper (Iq qual scope s'.heap.objs.size f (.ref c) cl))->QE (cxL P w K mg base (pa::caps) qual scope f (.ref c) cl A outer s' H') body cb
theorem EA.at_{obj:Obj}{vs:List V}{cb:CE}{kr:Nat}{N:List Str}{x:Str}{sc:XA}{f:Addr}{cdv:Z5}{A:Ze}{outer:List Env}{s:Z6}{H:Hp}{E:XK}(L:EA P w K mg base s H (frs outer) obj vs cb kr) :
  EB (mJ CX0 P w K mg base N x sc f cdv A outer s H E).nox obj vs cb kr:=by
 let⟨name,qual,params,body,scope,cl,pm,ctv,c,pa,caps,oc,ovs,t,h1,h2,h3,h4,h5,h6,h7,h8,h9⟩:=L.ex;exact⟨name,qual,params,body,scope,cl,pm,ctv,c,pa,caps,oc,ovs,t,h1,h2,h3,h4,h5,λx d e=>⟨(h6 x d e).1,(h6 x d e).2.1,(h6 x d e).2.2,λz=>nomatch z⟩,h7,h8,λf A s H hr=>h9 _ f A s H hr⟩
structure xx(P:Zq)(w:Zr)(K:Z3)(mg:Str->Option Z5)(base:Heap)(x:Str)(k:Nat)(ps:List Str)(fc:(Obj->List V->Prop)->Fn)(cb:CE)(kr:Nat):Prop where
 ex:∃fa fd,mg x=some (.ref fa)/\PySem.W.keepIn K (.ref fa)=true/\ig K fd ps []/\(∀Φ vs H Q E,wb K (fc Φ) vs H Q E->vs.length=ps.length)/\
  ∀(A:Ze) (outer:List Env) (s:Z6) (H:Hp) (args:Args) (us:List Z5) (vs:List V) (Q:VK) (E:XK) (Φ:Obj->List V->Prop),eQ k A->BX P w K mg base A outer s H->BindsTo s fd args (ps.zip us)->bS vs us->
   (∀obj cvs,Φ obj cvs->EA P w K mg base s H (frs outer) obj cvs cb kr)->wb K (fc Φ) vs H Q E->codeAny (ZS P w) A (.call (.ref fa) args) (L2.CR CX0 outer P w H s Q E) s
theorem DfD.lam{x:Str}{st:Zn}{ps N:List Str}{k:Nat}{c:(Obj->List V->Prop)->CS}{cb:CE}{kr:Nat}(d:Def K mg x st ps)(S:cN N ps (ay st))
  (hb:∀(Φ:Obj->List V->Prop) (f:Addr) (cdv:Z5) (A:Ze) (outer:List Env) (s:Z6) (H:Hp) (E:XK),eQ k (A.deeper (envOfC x (ay st) s.heap.objs.size f cdv))->
   (∀obj cvs,Φ obj cvs->EB (mJ CX0 P w K mg base N x (ay st) f cdv A outer s H E).nox obj cvs cb kr)->WSs (mJ CX0 P w K mg base N x (ay st) f cdv A outer s H E).nox (cK st) (tS K (c Φ))) :
  xx P w K mg base x (k+1) ps (λΦ=>fnU N.length ps.length (c Φ)) cb kr:=by
 let⟨fa,fd,F,b,m⟩:=d;have kp:=F.kp;let⟨oc,od,kV,doc,pm,an,cdv,ct,osl,rfl,lk,hcd⟩:=F.ex;refine⟨fa,_,m,kp,b,λΦ vs H Q E h=>j4 h,λA outer s H args us vs Q E Φ hr e0 hbt r hL hsp=>?_⟩;have hl:=j4 hsp;have KX:K.In s.heap:=e0.mod.kin.keeps λb o e=>(e0.bs b o e).1;have lim:s.heap.NoLimit:=e0.mod.nolimit.keeps λb o e=>(e0.bs b o e).1;have i_:∀y∈ps.zip us,(ay st).names.lookup y.1=some .local\/((ay st).names.lookup y.1=some .cell/\((cellsFrom (s.heap.objs.size+1) (ay st).names []).lookup y.1).isSome=true):=λ⟨n,v⟩ hy=>by
  rcases S.par n (List.of_mem_zip hy).1 with q|q;exact .inl q;exact .inr ⟨q,PySem.W.cellsFrom_some _ _ _ (.inl q)⟩
 refine codeAny_call_function hr.depth (KX _ _ lk) rfl S.co S.gen rfl (PySem.W.codeRec_of KX hcd) (hbt _ _ _ _ ?_);refine wpAny_newFunctionEnv_cells S.kind i_ λenv he s1 x'=>?_;subst he;refine⟨lim.keeps x'.toInCall.keep,codeAny_func ?_⟩;have ht:=(hb Φ fa cdv A outer s H E (hr.deeper _) λobj cvs z=>(hL obj cvs z).at_).h.nox;have hq:=rz (X:=(mJ CX0 P w K mg base N x (ay st) fa cdv A outer s H E).nox) (body:=[]) (ps:=ps) rfl hsp;have I:Inv (mJ CX0 P w K mg base N x (ay st) fa cdv A outer s H E) [] (jg N vs) H s1:=tJ S hr.hd e0 hl r x';refine XZ (ht [] s1 (jg N vs) H _ I hq) (λfl s' hs=>?_) λe s' hs=>hs;have fin:∀{σ':L2.St} {H':Hp} {v:V} {u:Z5},Inv (mJ CX0 P w K mg base N x (ay st) fa cdv A outer s H E) [] σ' H' s'->cP v u->Q v H'->L2.CE outer P w H s Q u s':=
  λ{σ' H' v u} J rv q=>⟨v,H',J.os,J.bare,J.base,J.hok,rv,q⟩
 cases fl with
 |ret u=>
  let⟨v,σ',H',J,rv,q⟩:=hs;exact fin J rv q
 |next=>
  let⟨σ',H',J,q⟩:=hs;exact fin (v:=V.non) (u:=Value.none) J rfl q
 |brk=>
  let⟨_,_,_,q⟩:=hs;exact False.elim q
 |cont=>
  let⟨_,_,_,q⟩:=hs;exact False.elim q
end
variable{params:Arguments}{body:PySem.Expr}{scope:XA}{J_:Pos}{cl:List (Str×Addr)}{p:Addr}
section
variable{c:Addr}
abbrev HM(X:Cx)(params:Arguments)(body:PySem.Expr)(scope:XA)(cl:List (Str×Addr))(pm:Z5)(c':Addr)(ctv:Z5):Obj:=PySem.W.kla_obj "<lambda>" (X.env.qual++"<lambda>") params body scope cl pm c' ctv
def Qt(X:Cx)(params:Arguments)(body:PySem.Expr)(scope:XA)(J_:Pos)(cl:List (Str×Addr))(p:Addr):TE:=λ_ H Q=>∃ps,H p=some (.tbl ps)/\BK H J_ (X.env.qual++"<lambda>") ps/\
 ∀f c' pm ctv ps' H',H f=none->H' f=none->H' p=some (.tbl ps')->TriplesOk ps'.toList->(∃ob vs t,codeAmong J_ ps'.toList=some (.ref c')/\H' c'=some (.frz ob (.own 0))/\ob.data=.fields vs/\vs[1]?=some (.str (X.env.qual++"<lambda>") t))->
  (∀b,b≠p->b≠c'->H' b=H b)->(H c'=none\/H'=H)->Q (.ref f) (upd H' f (DL f (HM X params body scope cl pm c' ctv)))
theorem Lf(Sf:X.env.code=.ref c)(C:PySem.W.codeHdIn X.K c p=true)(B:BP X.mg X.base)(hcl:closureFor scope X.env=pure cl)(Sx:defaultsOf params X.env=([],[])):PE X (.Lambda params body scope J_) (Qt X params body scope J_ cl p):=by
 intro a_ s σ H Q I ⟨ps,hps,⟨htr,hit⟩,q⟩;have kI:X.K.In X.base:=I.mod.kin;refine PySem.W.kla_eval Sx (DK I Sf (PySem.W.codeHd_of_K kI C) B hps htr hcl hit λf c' pm ctv ps' H' s2 I2 hsz nf gf hcd keep hp2 ht2 R3 e_ hnc=>?_);have h0:H f=none:=I.hok.fresh hsz;refine⟨.ref f,_,I2.adopt (u:=DL f (HM X params body scope cl pm c' ctv)) ⟨gf,⟨_,gf⟩,λh1 h2 a k=>k _ a⟩ nf (X2 I.sz hsz) (Nat.ne_of_gt (ZI I.lt hsz)) (λx d e=>?_) (λq hq=>ZL (ZI (ZH (I.pin q hq).1) hsz)),rfl,q f c' pm ctv ps' H' h0 nf hp2 ht2 R3 e_ hnc⟩;let⟨v,o,ho,_⟩:=I.cell x d e;exact ZL (ZI (ZH ho) hsz)
def tAL(K:Z3)(tl:TE)(cr:CA):TA:=λσ H Q=>tA K cr σ H λvs H1=>tl σ H1 λv H2=>Q (vs++[v]) H2
theorem Ho{tl:TE}{e:PySem.Expr}(h:PE X e tl)(hs:ZU [e] X.env=(false,eval e X.env)::ZU [] X.env:=by rfl):PA X [e] (tAL X.K tl aq):=λpos a_ s σ H Q I hz=>qH h zX hs pos a_ s σ H Q I (by
 let⟨m,ρ,S,us,S',sr,lr,hc,post⟩:=hz;cases hc;exact post m [] H .refl sr .nil_)
theorem mM{tl:TE}{e:PySem.Expr}{es:List PySem.Expr}{ce:CE}{cr:CA}(he:QE X e ce)(h:PA X es (tAL X.K tl cr))(hs:ZU (e::es) X.env=(false,eval e X.env)::ZU es X.env:=by rfl):PA X (e::es) (tAL X.K tl (ae ce cr)):=λpos a_ s σ H Q I hz=>qH he.h h hs pos a_ s σ H Q I (by
 let⟨m,ρ,S,us,S',sr,lr,hc,post⟩:=hz;let⟨⟨u,S1⟩,h1,h2⟩:=Z0.mp hc;let⟨⟨us',S2⟩,h3,h4⟩:=Z0.mp h2;cases h4;exact⟨m,ρ,S,u,S1,sr,lr,h1,λm1 x H1 e1 sr1 i1=>⟨m1,ρ,S1,us',S2,sr1,lr.mono e1,h3,λm2 xs H2 e2 sr2 i2=>post m2 (x::xs) H2 (e1.trans e2) sr2 (.cons_ (i1.mono e2) i2)⟩⟩)
end
def Ei(ρ:Rho):List Nat->Option (List U)
 |[]=>some []
 |k::ks=>(ρ[k]?).join.bind λu=>(Ei ρ ks).map λr=>u::r
theorem Bm{K:Z3}{m:List Addr}{H:Hp}{ρ:Rho}{σ:L2.St}(lr:Lr K m H ρ σ):∀{ks:List Nat} {cs:List U},Ei ρ ks=some cs->∃vs,Paired (λk v=>σ[k]?=some (some v)) ks vs/\IsL K m H vs cs
 |[],cs,h=>by cases h;exact⟨[],.nil,.nil_⟩
 |k::ks,cs,h=>by
  let⟨u,h1,h2⟩:=Z0.mp h;let⟨r,h3,rfl⟩:=X1.mp h2;let⟨v,e,i⟩:=lr.at_ k u (Option.join_eq_some_iff.mp h1);let⟨vs,hp,il⟩:=Bm lr h3;exact⟨v::vs,.cons e hp,.cons_ i il⟩
def lamT:Obj->List V->Prop:=λ_ _=>True
def Np(fc:(Obj->List V->Prop)->Fn)(us:List U)(S:Sto)(cs:List U)(r:U×Sto):Prop:=∀Φ,∃T,fc Φ (us++[.ref S.length]) (S++[.lam Φ cs])=some (r.1,T)/\T[S.length]?=some (.lam Φ cs)/\r.2=T.set S.length (.lam lamT cs)
open Classical in
def En(z:O)(ks:List Nat)(fc:(Obj->List V->Prop)->Fn)(ca:CA):CE:=λρ S=>(ca ρ S).bind λ(p:List U×Sto)=>if ∃j:Nat,(p.2:Sto)[j]?=some z then(Ei ρ ks).bind λcs=>if h:∃r,Np fc p.1 p.2 cs r then some h.choose else none else none
theorem Em{z:O}{ks:List Nat}{fc:(Obj->List V->Prop)->Fn}{ca:CA}{ρ:Rho}{S S1:Sto}{us cs:List U}{j:Nat}{r:U×Sto}(h1:ca ρ S=some (us,S1))(h2:S1[j]?=some z)(h3:Ei ρ ks=some cs)(h4:Np fc us S1 cs r):En z ks fc ca ρ S=some r:=by
 unfold En;rw[h1,Z4];dsimp only;rw[Xe ⟨j,h2⟩,h3,Z4,dif_pos ⟨r,h4⟩];have hc:=(⟨r,h4⟩:∃r,Np fc us S1 cs r).choose_spec;generalize (⟨r,h4⟩:∃r,Np fc us S1 cs r).choose=r' at hc ⊢;let⟨T,a,b,c⟩:=h4 lamT;let⟨T',a',b',c'⟩:=hc lamT;rw[a]at a';injection a' with a';injection a' with e1 e2;subst e2;exact congrArg some (Prod.ext e1.symm (c'.trans c.symm))
theorem Sr.lamT{K:Z3}{m:List Addr}{H:Hp}{T:Sto}{l:Nat}{Φ:Obj->List V->Prop}{cs:List U}(r:Sr K m T H)(h:T[l]?=some (.lam Φ cs)):Sr K m (T.set l (.lam lamT cs)) H:=by
 refine⟨by simp[r.len],r.nd,λl' a o h1 h2=>?_⟩;by_cases e:l=l'
 ·subst e;rw[List.getElem?_set,Xe rfl]at h2;split at h2<;>cases h2;let⟨obj,vs,a1,_,a3⟩:=r.ob l a _ h1 h;exact⟨obj,vs,a1,trivial,a3⟩
 rw[ZZ e]at h2;exact r.ob l' a o h1 h2
theorem nV{α β γ:Type}{F:α->β->Prop}{G:α->γ->Prop}:∀{ks:List α} {bs:List β} {cs:List γ},Paired F ks bs->Paired G ks cs->Paired (λb c=>∃k,F k b/\G k c) bs cs
 |_,_,_,.nil,.nil=>.nil
 |_,_,_,.cons a b,.cons c d=>.cons ⟨_,a,c⟩ (nV b d)
theorem CK{X:Cx}{a_:57}{σ:L2.St}{H:Hp}{s:Z6}(I:47)(hfn:∀y,X.fn y=true){y:Str}{d:Addr}(h:X.env.cells.lookup y=some d):d∉frs X.stack:=by
 have hge:=I.ok.cab y d (hfn y) h;have ho:d∉frs X.outer:=λz=>by
  let⟨_,o,g,_⟩:=I.ok.funs.mem z;exact absurd (ZI (ZH g) hge) (Xv _)
 rcases I.ok.stk with e|⟨e,hf⟩;rw[e];exact ho;rw[e];unfold frs;rw[List.filterMap_cons,hf];intro z;rcases ZT.mp z with z|z;exact I.cne y d h z;exact ho z
section
variable{k:Nat}{ps:List Str}{fc:(Obj->List V->Prop)->Fn}{ca:CA}{x pa:Str}{e:PySem.Expr}{es:List PySem.Expr}{p1 pos:Pos}{ks:List Nat}{caps:List Str}
theorem KO(F:xx X.prog X.w X.K X.mg X.base x k ps fc cb kr)(hr:eQ k X.A)(hfn:∀y,X.fn y=true)(hg:Gl X x)(hpa:PA X (e::es) (tAL X.K (Qt X params body scope J_ cl p) ca))
  (k_:∀y d,cl.lookup y=some d->X.env.cells.lookup y=some d) (hks:Paired (λk y=>X.N[k]?=some y/\X.env.kindOf y=some .cell/\scope.names.lookup y=some .free/\∃d,cl.lookup y=some d) ks caps)
  (hco:scope.isCoroutine=false/\scope.isGenerator=false/\scope.kind=.function/\(∀x∈scope.names,x.2≠.cell)/\scope.names.lookup pa=some .local)
  (bnd:∀(pm c ctv u:Z5),bindArgs (PySem.W.kla_fn "<lambda>" (X.env.qual++"<lambda>") params body scope cl pm c ctv) ⟨[u],[]⟩=pure [(pa,u)])
  (has:∀y,(scope.names.lookup y=some .cell\/scope.names.lookup y=some .free)->∃d,cl.lookup y=some d)
  (bdy:∀(c:Addr) (outer:List Env) (f:Addr) (A:Ze) (s':Z6) (H':Hp),eQ kr (A.deeper (Iq (X.env.qual++"<lambda>") scope s'.heap.objs.size f (.ref c) cl))->QE (cxL X.prog X.w X.K X.mg X.base (pa::caps) (X.env.qual++"<lambda>") scope f (.ref c) cl A outer s' H') body cb)
  (hdb:(x == ("__debug__":Str))=false:=by decide) (he:ZU (e::es) X.env=(false,eval e X.env)::ZU es X.env:=by rfl) (hpl:(X8 pos (ZU es X.env)).any (·.1)=false:=by rfl) :
  QE X (.Call (.Name x p1) (e::es) [] pos) (En (.cod p J_ (X.env.qual++"<lambda>")) ks fc ca):=⟨λa_ s σ H Q I hz=>kJ hz λm ρ S u S' sr lr hc post=>by
 let⟨⟨us4,S1⟩,h1,hc⟩:=Z0.mp hc;dsimp only at hc;split at hc
 ·rename_i hj;let⟨j,hj⟩:=hj;let⟨cs,hcs,hc⟩:=Z0.mp hc;split at hc
  ·rename_i hR;have hR':=hR.choose_spec;injection hc with hc;rw[hc]at hR';let⟨cvs,hσ,icv⟩:=Bm lr hcs;let⟨fa,fd,hm,hk,hb,len,run⟩:=F.ex;refine wpAny_Call_Name_kw (uU I hg hm ?_ hdb);refine PySem.W.callWith_K (h₀:=X.base) I.ok.mod.kin hk (thn (hpa pos a_ s σ H (λvs H2=>∃m2 vs4 f c' pm ctv ob ovs t,vs=vs4++[.ref f]/\m2.length=S1.length/\IsL X.K (m2++[f]) H2 vs4 us4/\Ext X.K m H (m2++[f]) H2/\Sr X.K (m2++[f]) (S1++[.lam (λo v=>o=HM X params body scope cl pm c' ctv/\v=cvs) cs]) H2/\H2 c'=some (.frz ob (.own 0))/\ob.data=.fields ovs/\ovs[1]?=some (.str (X.env.qual++"<lambda>") t)) I ?_) λus s2 ⟨vs,H2,I2,r,m2,vs4,f,c',pm,ctv,ob,ovs,t,hv,h_,i4,eA,srA,hcd,hd,hq⟩=>⟨I2.kIn,?_⟩) he hpl;refine⟨m,ρ,S,us4,S1,sr,lr,h1,λm1 vs4 H1 e1 sr1 i1=>?_⟩;let⟨aj,haj,hajp,ps0,hps,htab⟩:=sr1.get hj;subst hajp;refine⟨ps0,hps,htab,λf c' pm ctv ps' H' h0 nf hp2 ht2 R3 e_ hnc=>?_⟩;let⟨oc,vsc,tc,ha1,ha2,ha3,ha4⟩:=R3;have st:Ext X.K m1 H1 m1 H'/\Sr X.K m1 S1 H':=by
    rcases hnc with hnc|rfl;have ncp:c'≠aj:=λz=>by rw[z,hps]at hnc;cases hnc
    have eH:H'=upd (upd H1 c' (.frz oc (.own 0))) aj (.tbl ps'):=by
     funext b;by_cases b1:b=aj;subst b1;rw[ax];exact hp2;rw[aD b1];by_cases b2:b=c';subst b2;rw[ax];exact ha2;rw[aD b2];exact e_ b b1 b2
    have sA:=cG (o:=.frz oc (.own 0)) hnc;have srA:=sr1.same sA;have srB:=srA.put (ho:=.tbl ps') (o:=.cod aj J_ (X.env.qual++"<lambda>")) haj ⟨rfl,ps',ax,ht2,.inr ⟨c',oc,vsc,tc,ha1,by rw[aD ncp,ax],ha3,ha4⟩⟩;have eS:S1.set j (.cod aj J_ (X.env.qual++"<lambda>"))=S1:=by
     let⟨hlt,e⟩:=Z9.mp hj;rw[<-e];exact List.set_getElem_self hlt
    rw[eS]at srB;rw[eH];exact⟨Ext.trans (.of (cu sA)) (.of (srA.keep haj _)),srB⟩;exact⟨.refl,sr1⟩
   let⟨e2,sr2⟩:=st;have eN:Ext X.K m1 H' (m1++[f]) (upd H' f (DL f (HM X params body scope cl pm c' ctv))):=.new (cu (cG nf _));have eA:=(e1.trans e2).trans eN;have nc:c'≠f:=λz=>by rw[z,nf]at ha2;cases ha2
   exact⟨m1,vs4,f,c',pm,ctv,oc,vsc,tc,rfl,sr1.len,i1.mono (e2.trans eN),eA,sr2.new nf ⟨_,cvs,ax,⟨rfl,rfl⟩,icv.mono eA⟩,by rw[aD nc];exact ha2,ha3,ha4⟩
   ·have LF:EA X.prog X.w X.K X.mg X.base s2 H2 (frs X.stack) (HM X params body scope cl pm c' ctv) cvs cb kr:=by
     refine⟨"<lambda>",X.env.qual++"<lambda>",params,body,scope,cl,pm,ctv,c',pa,caps,ob,ovs,t,rfl,hco,bnd pm (.ref c') ctv,λy z d a b=>I2.ok.inj y z d (k_ y d a) (k_ z d b),has,λy d a=>⟨I2.cell y d (k_ y d a),I2.freeC y d (k_ y d a),CK I2 hfn (k_ y d a)⟩,?_,⟨hcd,hd,hq⟩,bdy c'⟩;refine L2.Paired.mapP (nV hks hσ) λy v ⟨i,⟨z1,z2,z3,d,z4⟩,z5⟩=>?_;let⟨mm,hmm,hl⟩:=I2.loc;let⟨uv,ru,look⟩:=hl i y v z1 z5 (.inr (.inl z2));refine⟨z3,d,uv,z4,?_,ru⟩;rcases look with⟨a,_⟩|⟨_,d',a,b⟩;rw[z2]at a;cases a;rw[k_ y d z4]at a;cases a;exact b
    let⟨T,hT1,hT2,hT3⟩:=hR' (λo v=>o=HM X params body scope cl pm c' ctv/\v=cvs);dsimp only at hT1 hT3;subst hT3;have isR:Is X.K (m2++[f]) H2 (.ref f) (.ref S1.length):=⟨f,by rw[<-h_,Zf (ZW _),Nat.sub_self];rfl,rfl⟩;have sp:wb X.K (fc λo v=>o=HM X params body scope cl pm c' ctv/\v=cvs) vs H2 (λv H'=>∃m',Ext X.K (m2++[f]) H2 m' H'/\Sr X.K m' (T.set S1.length (.lam lamT cs)) H'/\Is X.K m' H' v u) (λ_ _ _=>False):=
     ⟨m2++[f],us4++[.ref S1.length],_,u,T,by rw[hv];exact i4.append (.cons_ isR .nil_),srA,hT1,λm' v H' e' sr' i'=>⟨m',e',sr'.lamT hT2,i'⟩⟩
    have hl:=len _ _ _ _ _ sp;refine wpAny_call (codeAny_mono (run X.A X.stack s2 H2 ⟨us,[]⟩ us vs _ _ _ hr I2.env0 ‹hb s2 us I2.kIn (by simpa [<-r.length] using hl)› r (λo v z=>by rw[z.1,z.2];exact LF) sp) λr' s' hq'=>?_);cases r' with
    |error e=>exact False.elim hq'
    |ok fl=>
     cases fl with
     |ret u'=>
      let⟨v,H',I',rv,m',e',sr',i'⟩:=I2.after hq';exact⟨v,H',I',rv,post m' v H' (eA.trans e') sr' i'⟩
     |next=>exact False.elim hq'
     |brk=>exact False.elim hq'
     |cont=>exact False.elim hq'
  cases hc
 cases hc⟩
end
end OP
namespace PySem
def tx:typeLookup (.type "list") "keys"=pure none:=am_miss_of_fast (by kernel_rfl)
theorem HP{prog:Zq}{w:Zr}{A:Ze}{E:Z5->Z6->Prop}{s:Z6}{a:Addr}{xs:Array Z5}{k:Nat}{sl:Array (Option Z5)}{Q:Option Z5->Z6->Prop}
  (hx:s.heap.get? a=some { cls:=.type "list",dict:=none,data:=.seq xs k,slots:=sl }) (hA:A.handled=none)
  (h:∀h' tk e,Heap.NewExcOf s.heap h' e "AttributeError"->Q none { s with heap:=h',toks:=tk }):wpAny 69 A (getAttr? (.ref a) "keys") Q E s:=by
 let⟨hp,g,d,tk,os⟩:=s;have hT:∀tk',(⟨hp,g,d,tk',os⟩:Z6).TypeIs (.ref a) "list":=λ_=>⟨_,hx,rfl⟩;have f1:=sub_AttributeError;have f3:=F.slot_list_getattribute.lookup;have f4:=F.slot_list_getattribute.bind (.ref a);have f5:=am_list_getattr_none;unfold getAttr? getAttrBy? getAttrBy;repeat (any_goals (first|assumption|exact hT _|((with_reducible show wpAny _ _ (call (Value.builtin "list.__getattribute__") _ _) _ _ _);refine call_meets F.slot_list_getattribute (hT _) am_entry_list_getattribute (F.args_list_getattribute_2 _ _) (meets_getattribute_miss_list a xs k sl "keys" _ tx 39) ⟨hx,hA,λh' tk' e hx'=>?_⟩)|wp_step))
 let⟨t',u',he⟩:=hx'.there;show wpAny _ _ (getattributeRaised _ _ _ _ _ _ _) _ _ _;unfold getattributeRaised;repeat (any_goals (first|assumption|wp_step))
 exact h _ _ _ hx'.of
end PySem
namespace PySem
namespace F
def plain_update_loop:plainId "dict.update.loop"=true:=by decide +kernel
theorem entry_update_loop:entryFor table "dict.update.loop"=some Builtin.«dict.update.loop»:=entryFor_of_fast (by kernel_rfl)
end F
end PySem
namespace OP
open PySem PySem.Spec PyProof PyProof.Rows L2 OG
theorem xP{M:Model}{A:Ze}{E:Z5->Z6->Prop}{s:Z6}{p:Addr}{x y:Z5}{Q:List Z5->Z6->Prop}(h:IsTup s.heap p #[x,y])(q:Q [x,y] s):wpAny M A (Builtin.Dict.pairItems (.ref p)) Q E s:=by
 let⟨o,g,c,n,d⟩:=h;unfold Builtin.Dict.pairItems;refine Z2 (wpAny_typeOf ⟨o,g,c⟩ ?_);simp only[show(Value.type "tuple" == Value.type "list"||Value.type "tuple" == Value.type "tuple")=true from by decide,if_true];refine Z2 (wpAny_seqItems g d ?_);exact Z8 q
variable{X:Cx}{H:Hp}
section
variable{a_:List (Addr×Obj)}{σ:L2.St}{d l it:Addr}{A:Ze}{b:Addr}{k:NK}{kvs:List ((NK×Addr)×V)}{v:V}{s:Z6}{E:Z5->Z6->Prop}
theorem LD{u:Z5}{Q:Unit->Z6->Prop}(hu:A.units+1<cLine)(I:47)(e:H d=some (dNo d kvs))(ky:∀p∈kvs,gQ X.K H p.1.2 p.1.1)(kb:gQ X.K H b k)(hl:kvs.length<ZC)(ru:cP v u)
  (q:∀h' t',Inv X a_ σ (upd H d (dNo d (sU kvs k b v))) { s with heap:=h',toks:=t' }->XC d s.heap h'->Q () { s with heap:=h',toks:=t' }):wpAny 49 A (dictSet d (.ref b) u) Q E s:=by
 let⟨z,hd,xs,rel,dd⟩:=vo I (.inl e) ky;have hz:xs.length<=ZC:=by rw[<-Paired.length rel];exact z
 refine wpAny_dictSet_heap (hsz:=hz) (knd:=fi X.prog X.w) hu (uW I kb) dd λh' dd' hs=>q _ _ ?_ hs;let⟨o,es,ep,h1,_⟩:=id dd';exact lG I (by rw[e];exact True.intro) hs ⟨o,h1⟩ (wZ (by have:=qF (kvs:=kvs) (k:=k) (b:=b) (v:=v);omega) hd (rel.put ru) dd')
def Ni(K:Z3)(H:Hp)(q:Addr×(NK×Addr)×V):Prop:=SqT K H q.1 [.ref q.2.1.2,q.2.2]/\gQ K H q.2.1.2 q.2.1.1
def uK(kvs:List ((NK×Addr)×V))(L:List (Addr×(NK×Addr)×V)):List ((NK×Addr)×V):=L.foldl (λkv q=>sU kv q.2.1.1 q.2.1.2 q.2.2) kvs
theorem zN{K:Z3}(ky:∀p∈kvs,gQ K H p.1.2 p.1.1)(kb:gQ K H b k):∀p∈sU kvs k b v,gQ K H p.1.2 p.1.1:=λp hp=>by
 rcases wx hp with⟨q,hq,e⟩|e;rw[<-e];exact ky q hq;rw[e];exact kb
theorem Gn(hh:A.handled=none)(hu:A.in1.units+1<cLine)(itc:it≠X.env.locals/\X.s₀.heap.objs.size<=it/\(∀x c,X.env.cells.lookup x=some c->c≠it)/\∀p∈X.pn++a_,p.1≠it)(dl:d≠l)(di:d≠it){L:List (Addr×(NK×Addr)×V)}{R:Result->Z6->Prop} :
  ∀(r:List (Addr×(NK×Addr)×V)) (i:Nat) (H:Hp) (kvs:List ((NK×Addr)×V)) (s:Z6),L.drop i=r->Inv X a_ σ H s->H d=some (dNo d kvs)->(∀p∈kvs,gQ X.K H p.1.2 p.1.1)->H l=some (.lst (L.map λq=>.ref q.1))->s.heap.IsListIter it l i->H it=none->(∀q∈L,Ni X.K H q)->kvs.length+r.length<=ZC->
   (∀s',Inv X a_ σ (upd H d (dNo d (uK kvs r))) s'->R (.ok (.ret .none)) s')->codeAny 49 A (.builtin "dict.update.loop" ⟨[.ref d,.ref it,rawInt i,.none],[]⟩) R s:=by
 intro r;induction r with
 |nil=>
  intro i H kvs s hr I hD ky hl hit hi hp sz q;let⟨_,its,n,rv,gl⟩:=(show bU X.prog X.w H s.heap l (.lst (L.map λq=>.ref q.1))from I.hok l _ hl);have li:s.heap.IsList l its.toArray:=⟨_,gl,rfl,n,rfl⟩;have hx:its.toArray[i]?=none:=by
   have h1:L.length<=i:=List.drop_eq_nil_iff.mp hr;have h2:=rv.length;rw[ZQ]at h2;rw[List.getElem?_toArray,Zd 24]
  refine codeAny_builtin F.entry_update_loop ?_;rw[Around.under_plainId F.plain_update_loop _];show wpAny _ A.in1 (pyNext (.ref it) >>= _) _ _ s;refine Z2 (wpAny_pyNext_list_end (by exact hh) hit li hx λh' hx'=>?_);have I':Inv X a_ σ H { s with heap:=h' }:=I.turnedC [it] (λb o nb e=>hx' b o (λz=>nb (Zw.mpr z)) e) λb hb=>by rw[Zw.mp hb];exact⟨hi,itc⟩
  show wpAny _ A.in1 (Builtin.Dict.addKeywords d [] >>= _) _ _ _;refine Z2 (Z8 (Z8 ?_));refine q _ ?_;have e:upd H d (dNo d (uK kvs []))=H:=by
   funext b;by_cases z:b=d;rw[z,ax,hD];rfl;rw[aD z]
  rw[e];exact I'
 |cons p r ih=>
  intro i H kvs s hr I hD ky hl hit hi hp sz q;rw[ZM]at sz;let⟨_,its,n,rv,gl⟩:=(show bU X.prog X.w H s.heap l (.lst (L.map λq=>.ref q.1))from I.hok l _ hl);have li:s.heap.IsList l its.toArray:=⟨_,gl,rfl,n,rfl⟩;have hLi:L[i]?=some p:=by
   have:(L.drop i)[0]?=some p:=by rw[hr];rfl
   rwa[List.getElem?_drop,Nat.add_zero]at this
  have hpL:p∈L:=X3 hLi;have hx:its.toArray[i]?=some (.ref p.1):=by
   let⟨u,e1,e2⟩:=rv.get (i:=i) (x:=.ref p.1) (by rw[Zz,hLi];rfl);rw[List.getElem?_toArray,e1];exact congrArg some e2
  let⟨hsq,hky⟩:=hp p hpL;refine codeAny_builtin F.entry_update_loop ?_;rw[Around.under_plainId F.plain_update_loop _];show wpAny _ A.in1 (pyNext (.ref it) >>= _) _ _ s;refine Z2 (wpAny_pyNext_list_item hit li hx λh' So hs'=>?_);have I':Inv X a_ σ H { s with heap:=h' }:=I.turnedC [it] (λb o nb e=>(hs'.2 b (λz=>nb (Zw.mpr z))).trans e) λb hb=>by rw[Zw.mp hb];exact⟨hi,itc⟩
  let⟨its2,rv2,tp,_⟩:=I'.tuple hsq;let⟨u1,u2,hu12,r1,r2⟩:=CD rv2;subst hu12;obtain rfl:u1=Value.ref p.2.1.2:=r1;show wpAny _ A.in1 ((holding [Value.ref p.1] _) >>= _) _ _ _;refine Z2 (wpAny_holding (Z2 (wpAny_tryCatch (xP tp ?_))));show wpAny _ A.in1 (holding [Value.ref p.2.1.2,u2] (dictSet d (.ref p.2.1.2) u2)) _ _ _;refine wpAny_holding (LD (A:=A.in1) hu I' hD ky hky 24 r2 λh2 t2 I2 sb=>?_);refine Z8 ⟨plainId_quiet F.plain_update_loop _,?_⟩;obtain⟨H2,hH2⟩:∃H2,H2=upd H d (dNo d (sU kvs p.2.1.1 p.2.1.2 p.2.2)):=⟨_,rfl⟩;have kp:yz X.K H H2:=by rw[hH2];exact qU hD (by simp[dNo]) (by simp[dNo]) (by simp[dNo]) (by simp[dNo]) _
  rw[<-hH2]at I2;refine ih (i+1) H2 (sU kvs p.2.1.1 p.2.1.2 p.2.2) { s with heap:=h2,toks:=t2 } (by rw[<-List.drop_drop,hr];rfl) I2 (by rw[hH2,ax]) (zN (λz hz=>(ky z hz).mono kp) (hky.mono kp)) (by rw[hH2,aD (Ne.symm dl)];exact hl) ?_ (by rw[hH2,aD (Ne.symm di)];exact hi) (λz hz=>⟨kp.t _ _ (hp z hz).1,(hp z hz).2.mono kp⟩) (by have:=qF (kvs:=kvs) (k:=p.2.1.1) (b:=p.2.1.2) (v:=p.2.2);omega) λs' I3=>q s' ?_;let⟨o,g,e⟩:=So;exact⟨o,(sb.2 it (Ne.symm di)).trans g,e⟩;rw[hH2,yZ]at I3;exact I3
end
variable{K:Z3}
def EV(K:Z3):List V->Hp->VK->Prop:=λxs H Q=>∃l L,xs=[.ref l]/\H l=some (.lst (L.map λq=>.ref q.1))/\(∀q∈L,Ni K H q)/\L.length<=ZC/\∀d,H d=none->Q (.ref d) (upd H d (dNo d (uK [] L)))
theorem HD(hc:X.calm=true)(hu:X.A.units+8<cLine):eU X (.type "dict") (EV X.K):=by
 rintro a_ s σ H xs us Q I r ⟨l,L,rfl,hl,hp,hz,q⟩;let⟨u,rfl,ru⟩:=jv r;cases ru;have hh:X.A.handled=none:=I.ok.hd hc;have hd0:H s.heap.objs.size=none:=I.hok.fresh (ZW _);have hb:sysModules<s.heap.objs.size:=I.big;have nl:s.heap.objs.size≠l:=λz=>by rw[z,hl]at hd0;cases hd0
 have I1:Inv X a_ σ (upd H s.heap.objs.size (dNo s.heap.objs.size [])) { s with heap:=s.heap.push { cls:=.type "dict",data:=.dict #[] },toks:=s.toks }:=I.laid (λb u e=>Z7 _ e) (ZW _) (rC s.heap hb);obtain⟨H1,hH1⟩:∃H1,H1=upd H s.heap.objs.size (dNo s.heap.objs.size []):=⟨_,rfl⟩;rw[<-hH1]at I1;have hl1:H1 l=some (.lst (L.map λq=>.ref q.1)):=by rw[hH1,aD (Ne.symm nl)];exact hl
 have kp:yz X.K H H1:=by rw[hH1];exact cu (cG hd0 _)
 refine callType_codes (Q₁:=λobj s₁=>obj=.ref s.heap.objs.size/\s₁={ s with heap:=s.heap.push { cls:=.type "dict",data:=.dict #[] } }) F.kt_called_dict (F.kt_typeCall_dict_1 _) F.entry_dict_init (kt_code_dict_new _ ⟨rfl,rfl⟩) ?_;rintro obj s₁ ⟨rfl,rfl⟩;have hT:({ s with heap:=s.heap.push { cls:=.type "dict",data:=.dict #[] } }:Z6).TypeIs 86 "dict":=⟨_,ZG _ rfl,rfl⟩;refine⟨hT,F.args_dict_init_2 _ _,?_⟩;unfold Builtin.«dict.__init__»;refine Z2 ?_;unfold Builtin.Dict.selfAndRest;refine Z2 (wpAny_notOrdered_dict hT ?_);show wpAny _ _ (pure (s.heap.objs.size,[Value.ref l])) _ _ _;refine Z8 ?_;show wpAny _ _ (Builtin.Dict.updateFrom "dict.__init__" s.heap.objs.size (.ref l) [] .none) _ _ _;unfold Builtin.Dict.updateFrom;let⟨_,its,n,rv,gl⟩:=(show bU X.prog X.w H1 (s.heap.push { cls:=.type "dict",data:=.dict #[] }) l (.lst (L.map λq=>.ref q.1))from I1.hok l _ hl1);refine Z2 (wpAny_typeOf ⟨_,gl,rfl⟩ ?_);rw[Xe 54];refine Z2 (HP gl hh λh2 tk e ne=>?_);show wpAny _ _ (rule _ >>= _) _ _ _;refine Z2 (wpAny_rule ?_);have I2:Inv X a_ σ H1 { s with heap:=h2,toks:=tk }:=I1.kept ne.keeps;have gl2:=ne.keeps _ _ gl;refine Z2 (wpAny_pyIter_list ⟨_,gl2,rfl,n,rfl⟩ ?_);have I3:Inv X a_ σ H1 { s with heap:=h2.push { cls:=.type "list_iterator",data:=.fields #[.ref l,.int 0 0] },toks:=tk }:=I2.kept λb o e=>Z7 _ e;have lk:∀{x:Addr} {o:Obj},h2.get? x=some o->x≠h2.objs.size:=λg=>ZL (ZH g);refine Z8 ⟨plainId_quiet F.plain_update_loop _,Gn (A:=X.A.in1) (L:=L) hh (by simp only[Around.in1_units];omega) ⟨λz=>?_,I2.sz,λx c hx=>?_,λp hp'=>?_⟩ nl (ZL (I2.hok.lt (show H1 s.heap.objs.size=some (dNo s.heap.objs.size [])by rw[hH1];exact ax))) L 0 H1 [] _ rfl I3 (by rw[hH1];exact ax) (λp hp'=>by cases hp') hl1 ⟨_,ZG _ rfl,rfl,rfl⟩ (I2.hok.fresh (ZW _)) (λz hz'=>⟨kp.t _ _ (hp z hz').1,(hp z hz').2.mono kp⟩) ‹hz› λs' I4=>?_⟩;have:=I2.lt;rw[<-z]at this;exact absurd this (Xv _);let⟨v,o,ho,_⟩:=I2.cell x c hx;exact lk ho;exact lk (I2.pin p hp').1;rw[hH1,yZ]at I4;exact⟨rfl,.ref s.heap.objs.size,_,I4,rfl,q _ hd0⟩
section
variable{m:List Addr}
def prU:List U->Option (List (NK×U))
 |[]=>some []
 |.tup [.tup ks,v]::r=>(uO ks).bind λk=>(prU r).map λt=>(k,v)::t
 |_=>none
def o3(kus:List (NK×U))(L:List (NK×U)):List (NK×U):=L.foldl (λkv q=>gY kv q.1 q.2) kus
def pN:Fn
 |[.ref l],S=>match S[l]? with
  |some (.lst us)=>if us.length<=9000 then(prU us).bind λL=>some (.ref S.length,S++[.dnt (o3 [] L)])else none
  |_=>none
 |_,_=>none
theorem K4:∀{us:List U} {xs:List V} {L:List (NK×U)},IsL K m H xs us->prU us=some L->∃LV:List (Addr×(NK×Addr)×V),xs=LV.map (λq=>.ref q.1)/\(∀q∈LV,Ni K H q)/\LV.map (λq=>q.2.1.1)=L.map (·.1)/\IsL K m H (LV.map λq=>q.2.2) (L.map (·.2))/\LV.length=us.length
 |[],xs,L,i,h=>by
  cases h;rw[i.of_nil];exact⟨[],rfl,(λq hq=>by cases hq),rfl,.nil_,rfl⟩
 |u::us,xs,L,i,h=>by
  let⟨x,r,rfl,ix,ir⟩:=i.of_cons;unfold prU at h;split at h;rename_i e;cases e;rename_i ks v r' e;injection e with e1 e2;subst e1;subst e2;let⟨k,hk,h⟩:=Z0.mp h;let⟨t,ht,rfl⟩:=X1.mp h;let⟨c,ys,rfl,sq,il⟩:=ix.of_tup;let⟨y1,r1,rfl,j1,il⟩:=il.of_cons;let⟨y2,r2,rfl,j2,il⟩:=il.of_cons;rw[il.of_nil]at sq;let⟨b,rfl,kb⟩:=xX j1 hk;let⟨LV,rfl,h2,h3,h4,h5⟩:=K4 ir ht;refine⟨(c,(k,b),y2)::LV,rfl,λq hq=>?_,by rw[ZR,ZR,h3],.cons_ j2 h4,by rw[ZM,ZM,h5]⟩;rcases ZT.mp hq with rfl|hq;exact⟨sq,kb⟩;exact h2 q hq;cases h
theorem zM:∀{LV:List (Addr×(NK×Addr)×V)} {L:List (NK×U)} {kvs:List ((NK×Addr)×V)} {kus:List (NK×U)},LV.map (λq=>q.2.1.1)=L.map (·.1)->IsL K m H (LV.map λq=>q.2.2) (L.map (·.2))->IsP K m H (nP kvs) kus->IsP K m H (nP (uK kvs LV)) (o3 kus L)
 |[],[],kvs,kus,_,_,ip=>ip
 |[],_::_,_,_,h,_,_=>by simp at h
 |_::_,[],_,_,h,_,_=>by simp at h
 |q::LV,p::L,kvs,kus,h,i,ip=>by
  rw[ZR,ZR]at h;injection h with h1 h2;let⟨x,r,e,i1,i2⟩:=i.of_cons;injection e with e1 e2;subst e1;subst e2;refine zM (kvs:=sU kvs q.2.1.1 q.2.1.2 q.2.2) (kus:=gY kus p.1 p.2) h2 i2 ?_;rw[E5,h1];exact IsP.put ip i1
theorem wu:∀{LV:List (Addr×(NK×Addr)×V)} {kvs:List ((NK×Addr)×V)},(∀p∈kvs,gQ K H p.1.2 p.1.1)->(∀q∈LV,Ni K H q)->∀p∈uK kvs LV,gQ K H p.1.2 p.1.1
 |[],kvs,ky,_=>ky
 |q::LV,kvs,ky,h=>wu (LV:=LV) (zN ky (h q ZD).2) λz hz=>h z (ZY _ hz)
theorem Hu:kY K (EV K) pN:=by
 intro m S H us vs u S' Q sr i hf post;match us,hf with
 |[.ref l],hf=>
  let⟨v,rfl,iv⟩:=i.one;let⟨a,ha,rfl⟩:=iv.of_ref;simp only[pN]at hf;split at hf<;>try cases hf
  rename_i ws hS;split at hf<;>try cases hf
  rename_i hz;let⟨L,hL,hf⟩:=Z0.mp hf;cases hf;let⟨a',ha',xs,hx,il⟩:=sr.get hS;rw[ha]at ha';cases ha';let⟨LV,rfl,h2,h3,h4,h5⟩:=K4 il hL;refine⟨a,LV,rfl,hx,h2,by unfold ZC;omega,λd hd=>?_⟩;have ee:Ext K m H (m++[d]) (upd H d (dNo d (uK [] LV))):=.new (bu hd _);refine post (m++[d]) _ _ ee (sr.new hd ⟨uK [] LV,ax,λp hp=>?_,?_⟩) (.ref_ (cI sr.len));exact(wu (kvs:=[]) (λp hp=>by cases hp) h2 p hp).mono ee.keep;exact(zM (kvs:=[]) (kus:=[]) h3 h4 .nil_).mono ee
end
end OP
namespace OP
open PySem PySem.Spec PyProof PyProof.Rows L2 OG PySem.W
def qu(p:Addr)(K:Z3):Sp:=λvs H Q _=>∃(a:Addr) (ns:List Int),vs=[.ref a]/\SqL K H a (ns.map V.int)/\ns.length<=63/\H p=some (.tbl #[])/\∀H',Q (.bl true) H'
theorem Ao{K:Z3}{H:Hp}{p xs t:Addr}{pos:Pos}{qual:Str}{c:CS}{r:Rho}{σ:L2.St}{v0:Option V}{Q:VK}{nx bk ct:L2.St->Hp->Prop}(P:Q5 H p xs)(ht:H t=some (.tbl #[]))
  (ok:∀(ns:List Int) (a b:Int),0<=a->0<=b->∃ρ' S',c (none::some (.ref 1)::r) [.lst (ns.map U.int),.lst [.ref 0,.int a,.int b],.cod t pos qual]=some (.rt (.bl true),ρ',S')) (q:∀H',Q (.bl true) H')
  (hr:r=ZO r.length none:=by rfl) (hl:σ.length=r.length:=by rfl):tS K c { nx:=nx,rt:=Q,bk:=bk,ct:=ct } (v0::some (.ref p)::σ) H:=by
 let⟨ns,a,b,h1,h2,h3,h4,h5⟩:=P;let⟨ρ',S',e⟩:=ok ns a b h4 h5;have n1:xs≠t:=λz=>by rw[z,ht]at h2;cases h2
 have n2:p≠t:=λz=>by rw[z,ht]at h1;cases h1
 refine⟨[xs,p,t],_,_,_,ρ',S',⟨rfl,by simp[h3,n1,n2],λl ad o e1 e2=>?_⟩,⟨by simp[hl],λi u e1=>?_⟩,e,λm' v H' _ _ iv=>by rw[iv.of_bl];exact q H'⟩;match l,e1,e2 with
 |0,e1,e2=>
  simp at e1 e2;subst e1;subst e2;exact⟨_,h2,gZ ns⟩
 |1,e1,e2=>
  simp at e1 e2;subst e1;subst e2;exact⟨_,h1,.cons_ (.ref_ rfl) (.cons_ .int_ (.cons_ .int_ .nil_))⟩
 |2,e1,e2=>
  simp at e1 e2;subst e1;subst e2;exact⟨rfl,#[],ht,trivial,.inl rfl⟩
 |l+3,e1,e2=>simp at e1
 ·match i,e1 with
  |0,e1=>simp at e1
  |1,e1=>
   simp at e1;subst e1;exact⟨.ref p,rfl,.ref_ rfl⟩
  |i+2,e1=>
   simp only[Zx]at e1;rw[hr,XB]at e1;split at e1<;>cases e1
section
variable{P:Zq}{w:Zr}{K:Z3}{base:Heap}{mg:Str->Option Z5}{x:Str}{st:Zn}{c p:Addr}{ps N:List Str}{k:Nat}{cs:CS}
def IZ(K:Z3)(x:Str)(c p:Addr):Prop:=∃f o fd,PySem.W.nsIn K mainGlobals x=some (some (.ref f))/\K.lookup f=some o/\o.data=.func fd/\fd.code=.ref c/\PySem.W.codeHdIn K c p=true
theorem DfD.pureC{h:Heap}(X:K.In h)(G:h.Ns mainGlobals mg)(d:Def K mg x st ps)(cd:IZ K x c p)(S:cN N ps (ay st))
  (hb:∀(f:Addr) (A:Ze) (outer:List Env) (s:Z6) (H:Hp) (E:XK),eQ k (A.deeper (envOfC x (ay st) s.heap.objs.size f (.ref c)))->WSs (mJ CX0 P w K mg base N x (ay st) f (.ref c) A outer s H E).nox (cK st) (tS K cs)) :
  bh P w K mg base x (k+1) ps (fnU N.length ps.length cs):=by
 let⟨fa,fd,F,b,m⟩:=d;have kp:=F.kp;let⟨oc,od,kV,doc,pm,an,cdv,ct,osl,rfl,lk,hcd⟩:=F.ex;let⟨f,o,fd2,z1,z2,z3,z4,z5⟩:=cd;have ef:f=fa:=by have:=PySem.W.mg_of X G z1;rw[m]at this;cases this;rfl
 subst ef;rw[lk]at z2;cases z2;cases z3;have e:cdv=.ref c:=z4;subst e;exact⟨f,_,Mm lk hcd S (λvs H Q E h=>j4 h) λA outer s H vs Q E hr h=>⟨_,(hb f A outer s H E hr).h.nox,rz (X:=(mJ CX0 P w K mg base N x (ay st) f (.ref c) A outer s H E).nox) (body:=[]) (ps:=ps) rfl h⟩,b,kp,m⟩
end
end OP
namespace OP
open PySem PySem.Spec PyProof PyProof.Rows L2 OG
variable{X:Cx}{H:Hp}
section
variable{a_:List (Addr×Obj)}{σ:L2.St}{a b:Addr}{A:Ze}{k:NK}{kvs:List ((NK×Addr)×V)}{s:Z6}{E:Z5->Z6->Prop}
theorem RG{Q:Z5->Z6->Prop}(hu:A.units+2<cLine)(I:47)(e:Rd H a (dNo a kvs))(ky:∀p∈kvs,gQ X.K H p.1.2 p.1.1)(kb:gQ X.K H b k)(q:∀s',Inv X a_ σ H s'->Q (.bool ((fk (nP kvs) k).isSome)) s') :
  wpAny 49 A (compareOp .In (.ref b) (.ref a)) Q E s:=by
 let⟨z,hd,xs,rel,dd⟩:=vo I e ky;refine wpAny_in_heap (knd:=fi X.prog X.w) hu (uW I kb) hd dd ?_;have e1:=(rel.val k).isSome_eq;rw[XS]at e1;rw[<-e1];exact q _ (I.tok _)
end
variable{K:Z3}
section
variable{m:List Addr}
def Qr(K:Z3)(ty td:TE):TE:=λσ H Q=>ty σ H λy H1=>td σ H1 λx H2=>∃a b kvs k,x=.ref a/\y=.ref b/\Rd H2 a (dNo a kvs)/\(∀p∈kvs,gQ K H2 p.1.2 p.1.1)/\gQ K H2 b k/\Q (.bl ((fk (nP kvs) k).isSome)) H2
theorem J4{o i:ZN}{td ty:TE}(hu:X.A.units+2<cLine)(hi:WE X i ty)(ho:WE X o td):WC X .In i o (Qr X.K ty td):=by
 constructor;intro a_ s σ H Q I h;refine thn (hi.h a_ s σ H _ I h) λiv s1 hz=>?_;let⟨y,H1,I1,ry,q1⟩:=hz;refine thn (ho.h a_ s1 σ H1 _ I1 q1) λu s2 hz=>?_;let⟨x,H2,I2,rx,a,b,kvs,k,rfl,rfl,e,ky,kb,q2⟩:=hz;cases rx;cases ry;exact RG hu I2 e ky kb λs3 I3=>⟨.bl _,H2,I3,rfl,q2⟩
def vh:U->U->Sto->Option (U×Sto):=λy x S=>match x with
 |.ref l=>match y with
  |.tup us=>(uO us).bind λks=>(vt S l).bind λkus=>some (.bl ((cg kus ks).isSome),S)
  |_=>none
 |_=>none
theorem HF{ca cb:CE}:∀σ H Q,tE X.K (cOp vh ca cb) σ H Q->Qr X.K (tE X.K ca) (tE X.K cb) σ H Q:=by
 rintro σ H Q ⟨m,ρ,S,u,S',sr,lr,hc,post⟩;let⟨⟨y,S1⟩,h1,h⟩:=Z0.mp hc;let⟨⟨x,S2⟩,h3,h4⟩:=Z0.mp h;refine⟨m,ρ,S,_,S1,sr,lr,h1,λm1 v1 H1 e1 sr1 i1=>⟨m1,ρ,S1,_,S2,sr1,lr.mono e1,h3,λm2 v2 H2 e2 sr2 i2=>?_⟩⟩;cases x with
 |ref l=>cases y with
  |tup us=>
   simp only[vh]at h4;let⟨ks,hk,h5⟩:=Z0.mp h4;let⟨kus,hd,h6⟩:=Z0.mp h5;cases h6;let⟨a,ha,rfl⟩:=i2.of_ref;let⟨b,rfl,kb⟩:=xX (i1.mono e2) hk;let⟨kvs,rd,ky,ip⟩:=IC sr2 ha hd;have rf:=IsP.val (k:=ks) ip;have es:(fk (nP kvs) ks).isSome=(cg kus ks).isSome:=by
    cases h7:fk (nP kvs) ks<;>cases h8:cg kus ks<;>rw[h7,h8]at rf<;>first|rfl|exact rf.elim
   refine⟨a,b,kvs,ks,rfl,rfl,rd,ky,kb,?_⟩;rw[es];exact post m2 _ H2 (e1.trans e2) sr2 .bl_
  |_=>cases h4
 |_=>cases h4
theorem OX{a b:ZN}{ca cb:CE}{pos:Pos}(hu:X.A.units+2<cLine)(ha:QE X a ca)(hb:QE X b cb)(hm:behindInMarks .In b=false):QE X (.Compare a [.In] [b] pos) (cOp vh ca cb):=(yR (J4 hu ha hb) hm).imp HF
end
theorem Aq{cells:List (Str×Addr)}{x1 x2:Str}{d1 d2:Addr}(h1:cells.lookup x1=some d1)(h2:cells.lookup x2=some d2):∀y d,([(x1,d1),(x2,d2)]:List (Str×Addr)).lookup y=some d->cells.lookup y=some d:=λy d e=>by
 rw[XM]at e;by_cases z:(y == x1)=true;rw[z]at e;cases e;rw[eq_of_beq z];exact h1;rw[show(y == x1)=false by simpa using z,XM]at e;by_cases z2:(y == x2)=true;rw[z2]at e;cases e;rw[eq_of_beq z2];exact h2;rw[show(y == x2)=false by simpa using z2]at e;cases e
theorem DM{names:List (Str×NameKind)}{x1 x2:Str}{d1 d2:Addr}(h:(names.all λp=>p.1 == x1||p.1 == x2||(p.2 !=.cell&&p.2 !=.free))=true):∀y,(names.lookup y=some .cell\/names.lookup y=some .free)->∃d,([(x1,d1),(x2,d2)]:List (Str×Addr)).lookup y=some d:=λy hy=>by
 have mem:∀{k:NameKind},names.lookup y=some k->(y,k)∈names:=λ{k} e=>by
  induction names with
  |nil=>cases e
  |cons p r ih=>
   rw[XM]at e;by_cases z:(y == p.1)=true;rw[z]at e;cases e;rw[eq_of_beq z];exact ZD
   ·rw[show(y == p.1)=false by simpa using z]at e;exact ZY _ (ih ‹(XJ.mp h |> λa=>XJ.mpr λq hq=>a q (ZY _ hq))› (by rcases hy with hy|hy<;>rw[XM,show(y == p.1)=false by simpa using z]at hy<;>simp[hy]) e)
 have key:y=x1\/y=x2:=by
  rcases hy with e|e;all_goals
   have:=XJ.mp h _ (mem e);simp at this;rcases this with z|z;exact .inl z;exact .inr z
 rw[XM];rcases key with rfl|rfl;exact⟨d1,by simp⟩;by_cases z:(y == x1)=true;exact⟨d1,by rw[z]⟩;exact⟨d2,by rw[show(y == x1)=false by simpa using z];simp[List.lookup]⟩
def Mg{A:Ze}{k:Nat}(h:eQ k A):A.units+8<cLine:=by have:=h.units;omega
variable{pos:Pos}
def Kj:TE:=λ_ H Q=>∀p,H p=none->Q (.ref p) (upd H p (dNo p []))
theorem Df:PE X (.Dict [] [] pos) Kj:=λa_ s σ H Q I h=>
 wpAny_Dict_empty ⟨.ref s.heap.objs.size,_,I.laid (a:=s.heap.objs.size) (o:=dNo s.heap.objs.size []) (t':=s.toks) (λ_ _ q=>Z7 _ q) (ZW _) (rC s.heap I.big),rfl,h _ (I.hok.fresh (ZW _))⟩
def Bu:CE:=λ_ S=>some (.ref S.length,S++[.dnt []])
theorem GV:QE X (.Dict [] [] pos) Bu:=(show WE X _ _ from⟨Df⟩).imp λσ H Q hz=>kJ hz λm ρ S u S' sr lr hc post=>by
 cases hc;exact λp hp=>post (m++[p]) _ _ (.new (bu hp _)) (sr.new hp ⟨[],ax,(λq hq=>(Zv hq).elim),.nil_⟩) (.ref_ (cI sr.len))
section
variable{Nc capN tn:List Str}{scope:XA}{cl:List (Str×Addr)}{n:Nat}{caps:List Nat}{tg iter elt:ZN}{ci:CE}{g:CG}{ce:CE}
theorem zK(hc:X.calm=true)(hi:QE X iter ci)(hg:∀s3 H3 fp,WG 58 tg (tG X.K g))(he:∀s3 H3 fp,WE 58 elt (tE X.K ce))
  (t_:closureFor scope X.env=pure cl) (i_:scope.kind=.function) (hnl:∀x∈scope.names,x.2=.local->scope.names.lookup x.1=some .local) (k_:∀x∈scope.names,x.2≠.cell)
  (hcl:xy X.env cl) (w_:((relabel scope X.env).names.all λp=>!(p.2 == .cell||p.2 == .free)||(cl.lookup p.1).isSome)=true)
  (s_:Paired (Cap X scope cl) caps capN) (hN:Nc=tn++capN) (hn:tn.length=n)
  (hs:∀x,foldedSetIterable iter X.env x=pure x:=by intro _;rfl) :
  QE X (.ListComp elt [⟨tg,iter,[],0⟩] scope pos) (ud ci g ce n caps):=
 (Cw (vS hc (vU hi) hg he t_ i_ hnl k_ hcl w_ s_ hN hn hs)).imp (yY (G:=λJ H1 σ Q=>∀l,H1 l=none->∃W:Nat->Nat->L2.St->Hp->Prop,(∃m,W 0 m (OG.stC n caps σ) (upd H1 l (.lst [])))/\
  ∀i m σ' H2,W i m σ' H2->(J.stop i H2/\Q (.ref l) H2)\/(J.go i H2/\∃N:L2.St->Hp->Prop,(∀σ'' H',N σ'' H'->∃m',m'<m/\W (i+1) m' σ'' H')/\
  ∀x H3,J.yld i H2 x H3->tG X.K g x σ' H3 λσ2 H4=>tE X.K ce σ2 H4 λv H5=>∃ys,H5 l=some (.lst ys)/\ys.length<ZC/\N σ2 (upd H5 l (.lst (ys++[v]))))) λsr lr ito h2 post l hl=>t6 sr lr ito hl h2 (post l hl))
end
mutual
theorem RfU.mono{p q:Nat->Prop}(e:∀l,p l->q l):∀{u:U},RfU p u->RfU q u
 |.ref l,h=>e l h
 |.tup us,h=>RfL.mono e (us:=us) h
 |.int _,_=>trivial
 |.bl _,_=>trivial
 |.non,_=>trivial
 |.str _,_=>trivial
 |.kl _,_=>trivial
theorem RfL.mono{p q:Nat->Prop}(e:∀l,p l->q l):∀{us:List U},RfL p us->RfL q us
 |[],_=>trivial
 |u::us,h=>⟨RfU.mono e h.1,RfL.mono e h.2⟩
end
theorem RfO.mono{p q:Nat->Prop}(e:∀l,p l->q l){o:O}(h:RfO p o):RfO q o:=by
 cases o with
 |ins C fus=>exact λi u hu=>(h i u hu).mono e
 |cod _ _ _=>trivial
 |_=>exact RfL.mono e h
section
variable{P:Zq}{w:Zr}{mg:Str->Option Z5}{base:Heap}{S X G:Sto}{u:U}{us:List U}{f:Fn}
def Qh(k:Nat)(S:Sto)(r:U×Sto):Prop:=(∃X,r.2=S++X/\k<=X.length/\∀o∈X.take k,RfO (· < S.length+k) o)/\RfU (· < S.length+k) r.1
open Classical in
def gcF(k:Nat)(f:Fn):Fn:=λus S=>(f us S).bind λr=>if Qh k S r then some (r.1,r.2.take (S.length+k))else none
theorem Fc(h:f us S=some (u,S++(X++G)))(hu:RfU (· < S.length+X.length) u)(ho:∀o∈X,RfO (· < S.length+X.length) o):gcF X.length f us S=some (u,S++X):=by
 have hk:Qh X.length S (u,S++(X++G)):=⟨⟨X++G,rfl,by rw[ZV];omega,λo h=>ho o ‹h›⟩,hu⟩;unfold gcF;rw[h,Z4,Xe hk,<-ZJ,<-ZV,List.take_left]
theorem PQ(h:f us S=some (u,S++G))(hu:RfU (· < S.length) u):gcF 0 f us S=some (u,S):=by
 have:=Fc (X:=[]) (S:=S) (f:=f) (us:=us) h hu (λo h=>by cases h);rwa[Zj]at this
theorem PN{o:O}(h:f us S=some (u,S++(o::G)))(hu:RfU (· < S.length+1) u)(ho:RfO (· < S.length+1) o):gcF 1 f us S=some (u,S++[o]):=
 Fc (X:=[o]) (S:=S) (f:=f) (us:=us) h hu (λo' h=>by rw[Zw.mp h];exact ho)
theorem Mi{k:Nat}:∀vs H Q E,wb K (gcF k f) vs H Q E->wb K f vs H Q E:=by
 rintro vs H Q E ⟨m,us,S,u,S',il,sr,hf,post⟩;unfold gcF at hf;let⟨⟨u1,T⟩,h1,h2⟩:=Z0.mp hf;by_cases c:Qh k S (u1,T);rw[Xe c]at h2;cases h2;let⟨⟨X,hX,hk,ho⟩,hu⟩:=c;dsimp only at hX hu;subst hX;refine⟨m,us,S,u1,_,il,sr,h1,λm' v H' e sr' i=>?_⟩;have ml:=sr'.len;rw[ZV]at ml;obtain⟨N,hN⟩:∃N,N=S.length+k:=⟨_,rfl⟩;rw[<-hN]at post ho hu;have tk:∀l,l<N->(m'.take N)[l]?=m'[l]?:=λl h=>List.getElem?_take_of_lt h;refine post (m'.take N) v H' ⟨?_,e.2⟩ (sr'.gc ?_ ?_ λi a o' ha ho'=>?_) (Is.ren tk hu i);let⟨t,et⟩:=e.1;have:=sr.len;refine⟨t.take k,?_⟩;rw[et,hN,<-this,List.take_length_add_append];rw[XN,XN,ZV];omega;exact sr'.nd.sublist (List.take_sublist _ _);have hi:i<N:=by have:=(Z9.mp ha).1;rw[XN]at this;omega
 rw[tk i hi]at ha;rw[List.getElem?_take_of_lt hi]at ho';refine⟨i,o',ha,ho',Ob.ren tk ?_⟩;by_cases c:i<S.length;rw[Zk c]at ho';exact(sr.rf ho').mono λl (h:l<S.length)=>(by omega:l<N);rw[Zf 24]at ho';exact ho o' (X3 (i:=i-S.length) (by rw[List.getElem?_take_of_lt 24];exact ho'));rw[Xd c]at h2;cases h2
theorem bh.gc{x:Str}{k:Nat}{ps:List Str}(h:bh P w K mg base x k ps f)(j:Nat):bh P w K mg base x k ps (gcF j f):=Has.imp h Mi
end
end OP
namespace OQ
open PySem PySem.Spec PyProof.Rows L2 OG OP
def g8:CS:=
 (aM (bV (aA (cOp fEq (cOp fIx (af 0) 71) 48)) (aM (bB 2 (cOp fIx (af 0) 46))
  (aM (gK (af 0) 46 (cOp eJ (af 2) 46))
  (aM (bB 3 48)
  (aM (bV (aA (cOp fLt (af 2) (cCB e9 (ae (cOp fIx (af 0) 48) aq)))) (bB 3 (cOp fIx (cOp fIx (af 0) 48) (af 2))) (bV (aA (cOp fGt (cCB e9 (ae (cOp fIx (af 0) 48) aq)) 48)) (bB 3 (cOp eJ (cOp rB (cOp fIx (cOp fIx (af 0) 48) (cOp rB (cOp mR (af 2) (cC (.int 3))) (cCB e9 (ae (cOp fIx (af 0) 48) aq)))) (cC (.int 1000003))) (cOp mR (cC (.int 97)) (af 2)))) aT))
  (aM (bB 4 (cOp rB (cOp mR (cOp eJ (cOp eJ (cOp rB (af 3) (cC (.int 998244353))) (cOp mR (cC (.int 53)) (af 2))) 46) (cC (.int 48271))) (cC (.int 2147483647))))
  (aM (bB 5 (cOp rB (cOp eJ (cOp eJ (cOp mR (af 4) (af 4)) (cOp mR (cC (.int 69621)) (af 2))) (cC (.int 5))) (cC (.int 1000000007))))
  (aM (bB 6 (cOp rB (cOp eJ (cOp mR (af 5) (af 5)) (af 4)) (cC (.int 998244353))))
  (aM (gK (af 0) 71 (cOp eJ (cOp D2 (cOp eJ (cOp mR (af 5) (cC (.int 998244353))) (af 6)) (cC (.int 16))) 46))
  (bV (aA (cOp fGe (af 3) (cOp Jd (cC (.int 10)) (cC (.int 18))))) (gK (af 0) 71 (cOp D2 (af 3) (cOp Jd (cC (.int 10)) (cC (.int 18))))) aT))))))))) aT)
  (aM (bB 7 (cOp rB (cOp fIx (af 0) 71) (af 1)))
  (aM (gK (af 0) 71 (cOp D2 (cOp fIx (af 0) 71) (af 1)))
  (bR (af 7)))))
def iV(ag:Fn):CS:=
 (bR (b8 (ae (cOp eJ 46 (cCB ag (ae (af 0) (ae (cC (.int 6)) aq)))) (ae (cOp fIx (fZ (ae 71 (ae (cC (.int 3)) (ae (cC (.int 5)) (ae (cC (.int 10)) (ae (cOp eJ 71 (cCB ag (ae (af 0) (ae (cC (.int 999)) aq)))) aq)))))) (cCB ag (ae (af 0) (ae (cC (.int 5)) aq)))) aq))))
def fj(aS:Fn):CS:=
 (aM (bB 1 (cOp eJ (af 1) 46))
  (bV (aA (cOp fEq (cOp fIx (af 2) 48) (cC (.str "try")))) (bB 1 (cOp eJ (cOp eJ (af 1) (cCB aS (ae (cOp fIx (af 2) 46) aq))) (cCB aS (ae (cOp fIx (af 2) 71) aq)))) aT))
def jR(aS:Fn):CS:=
 (aM (bB 1 48)
  (aM (ji (iTp (af 0)) (gNm 2) (fj aS))
  (bR (af 1))))
def bq(ag:Fn):CS:=
 (aM (bV (aA (cOp fLt (af 2) (cC (.int 4)))) (bR (b8 (ae (cC (.str "look")) (ae (af 3) (ae (cCB ag (ae (af 0) (ae (cOp fIx (af 1) 48) aq))) aq))))) aT)
  (aM (bV (aA (cOp fLt (af 2) (cC (.int 7)))) (bR (b8 (ae (cC (.str "put")) (ae (cCB ag (ae (af 0) (ae (cOp fIx (af 1) 48) aq))) (ae (af 3) aq))))) aT)
  (aM (bV (aA (cOp fLt (af 2) (cC (.int 9)))) (bR (b8 (ae (cC (.str "set")) (ae (af 3) (ae (cCB ag (ae (af 0) (ae (cOp fIx (af 1) 46) aq))) aq))))) aT)
  (aM (bV (aA (cOp fLt (af 2) (cC (.int 11)))) (bR (b8 (ae (cC (.str "plus")) (ae (af 3) (ae (cCB ag (ae (af 0) (ae (cC (.int 4)) aq))) aq))))) aT)
  (bR (b8 (ae (cC (.str "leap")) (ae (af 3) (ae (cOp eJ 46 (cCB ag (ae (af 0) (ae (cOp fIx (fZ (ae 71 (ae (cC (.int 12)) aq))) (cCB ag (ae (af 0) (ae 71 aq)))) aq)))) aq)))))))))
def dH(ag bc aI aS:Fn):CS:=
 (aM (bB 7 (cCB ag (ae (af 0) (ae (cC (.int 16)) aq))))
  (aM (bB 8 (cCB ag (ae (af 0) (ae (cC (.int 4)) aq))))
  (bV (pY (aA (cOp fGt (af 5) 48)) (pY (aA (cOp fLt (cCB e9 (ae (af 4) aq)) (cC (.int 12)))) (aA (cOp fLt (af 7) (cC (.int 13)))))) (aM (eP (cBM cf (af 4) (ae (cCB bc (ae (af 0) (ae (af 1) (ae (af 7) (ae (af 8) aq))))) aq)))
  (bB 5 (cOp pM (af 5) 46))) (bV (pY (aA (cOp fGt (af 5) (cC (.int 0)))) (pY (aA (cOp fLt (cCB e9 (ae (af 4) aq)) (cC (.int 12)))) (cOr (aA (cOp fEq (af 7) (cC (.int 13)))) (aA (cOp fEq (af 3) (cC (.int 0))))))) (aM (bV (pY (aA (cOp fGt (af 5) (cC (.int 1)))) (pY (aA (cOp fLt (cCB e9 (ae (af 4) aq)) (cC (.int 11)))) (aA (cOp fGt (cCB ag (ae (af 0) (ae (cC (.int 4)) aq))) (cC (.int 0)))))) (aM (eP (cBM cf (af 4) (ae (b8 (ae (cC (.str "leap")) (ae (af 8) (ae (cC (.int 1)) aq)))) aq)))
  (bB 5 (cOp pM (af 5) 46))) aT)
  (aM (eP (cBM cf (af 4) (ae (b8 (ae (cC (.str "wait")) aq)) aq)))
  (bB 5 (cOp pM (af 5) 46)))) (bV (pY (aA (cOp fGt (af 5) (cC (.int 0)))) (aA (cOp fLt (cCB e9 (ae (af 4) aq)) (cC (.int 12))))) (aM (bB 9 (cCB aI (ae (af 0) (ae (af 1) (ae (cCB ag (ae (af 0) (ae (af 5) aq))) (ae (cOp pM (af 3) (cC (.int 1))) aq))))))
  (aM (bB 5 (cOp pM (cOp pM (af 5) 46) (cCB aS (ae (af 9) aq))))
  (aM (bB 10 (cCB aI (ae (af 0) (ae (af 1) (ae (cCB ag (ae (af 0) (ae (cOp eJ (af 5) 46) aq))) (ae (cOp pM (af 3) 46) aq))))))
  (aM (bB 5 (cOp pM (af 5) (cCB aS (ae (af 10) aq))))
  (eP (cBM cf (af 4) (ae (b8 (ae (cC (.str "try")) (ae (af 9) (ae (af 10) aq)))) aq))))))) aT)))))
def gu(ag bc aI aS:Fn):CS:=
 (aM (bB 4 (fZ aq))
  (aM (bB 5 (af 2))
  (aM (ji (gq (ae (cCB ag (ae (af 0) (ae (cOp eJ (cCB PY (ae (cC (.int 12)) (ae (af 2) aq))) 46) aq))) aq)) (gNm 6) (dH ag bc aI aS))
  (bR (cCB iC (ae (af 4) aq))))))
def b7:CS:=
 (aM (Ng (af 1) (gTp [3,4,5]))
  (bV (aA (cOp fEq (af 3) (cC (.str "look")))) (aM (bV (pY (aA (cOp (fIn true) (af 5) (cOp fIx (af 2) (cC (.str "own"))))) (aA (cOp (fIn true) (af 5) (cOp fIx (af 2) (cC (.str "looked")))))) (eP (cBM cf (cOp fIx (af 2) (cC (.str "looked"))) (ae (af 5) aq))) aT)
  (gK (cOp fIx (af 2) (cC (.str "hands"))) (af 4) (cOp fIx (cOp fIx (af 2) (cC (.str "state"))) (af 5)))) (bV (aA (cOp fEq (af 3) (cC (.str "put")))) (aM (gK (cOp fIx (af 2) (cC (.str "state"))) (af 4) (cOp fIx (cOp fIx (af 2) (cC (.str "hands"))) (af 5)))
  (bV (aA (cOp (fIn true) (af 4) (cOp fIx (af 2) (cC (.str "own"))))) (eP (cBM cf (cOp fIx (af 2) (cC (.str "own"))) (ae (af 4) aq))) aT)) (bV (aA (cOp fEq (af 3) (cC (.str "set")))) (gK (cOp fIx (af 2) (cC (.str "hands"))) (af 4) (af 5)) (gK (cOp fIx (af 2) (cC (.str "hands"))) (af 4) (cOp rB (cOp eJ (cOp fIx (cOp fIx (af 2) (cC (.str "hands"))) (af 4)) (cOp fIx (cOp fIx (af 2) (cC (.str "hands"))) (af 5))) (cOp fIx (af 0) (cC (.int 1)))))))))
def cS(cF aW:Fn):CS:=
 (gK (af 2) (af 6) (cOp fIx (af 5) (af 6)))
def a8(cF aW:Fn):CS:=
 (bV (aA (cOp fGt (af 3) 48)) (bB 3 (cOp pM (af 3) 46)) (bV (aA (cOp fEq (cOp fIx (af 4) 48) (cC (.str "wait")))) (bR (cC (.bl true))) (bV (aA (cOp fEq (cOp fIx (af 4) 48) (cC (.str "leap")))) (bB 3 (cOp mR (cOp fIx (af 4) 71) (cCB Mo (ae (cOp fEq (cOp fIx (cOp fIx (af 2) (cC (.str "hands"))) (cOp fIx (af 4) 46)) 48) aq)))) (bV (aA (cOp fNe (cOp fIx (af 4) 48) (cC (.str "try")))) (eP (cCB cF (ae (af 0) (ae (af 4) (ae (af 2) aq))))) (aM (bB 5 (Bt [((cC (.str "state")),(cCB iS (ae (cOp fIx (af 2) (cC (.str "state"))) aq))),((cC (.str "own")),(cCB iS (ae (cOp fIx (af 2) (cC (.str "own"))) aq))),((cC (.str "hands")),(cCB iS (ae (cOp fIx (af 2) (cC (.str "hands"))) aq)))]))
  (bV (aA (cCB aW (ae (af 0) (ae (cOp fIx (af 4) 46) (ae (af 2) aq))))) (aM (Bs (af 5) (gNm 6) (cS cF aW))
  (bV (aA (cCB aW (ae (af 0) (ae (cOp fIx (af 4) 71) (ae (af 2) aq))))) (bR (cC (.bl true))) aT)) aT))))))
def fV(cF aW:Fn):CS:=
 (aM (bB 3 48)
  (aM (ji (iTp (af 1)) (gNm 4) (a8 cF aW))
  61))
def oF:CS:=
 (bR (cOp eJ (cOp eJ (cSl (af 0) none (some (af 1))) (b8 (ae (af 2) aq))) (cSl (af 0) (some (cOp eJ (af 1) 46)) none)))
def jU(fuel:Nat):CS:=
 (bB 1 (cOp fIx (af 1) 71))
def oG(fuel:Nat):CS:=
 (aM (bB 1 (af 0))
  (aM (dA (pY (aA (cOp fGe (cOp fIx (af 1) 46) (cCB e9 (ae (cOp fIx (af 1) 48) aq)))) (aA (cOp lD (cOp fIx (af 1) 71) (cC .non)))) (jU fuel) fuel)
  (bR (af 1))))
def fX(ao:Cl):CS:=
 (aM (bV (aA (cOp fGe (cOp fIx (oX ao 3 (af 0)) 46) (cCB e9 (ae (cOp fIx (oX ao 3 (af 0)) 48) aq)))) (bR (cC .non)) aT)
  (bR (cOp fIx (cOp fIx (oX ao 3 (af 0)) 48) (cOp fIx (oX ao 3 (af 0)) 46))))
def fY(aG:Fn)(ao:Cl):CS:=
 (aM (bB 1 (eY ao aG (af 0) aq))
  (bR (kQ (cOp fEq (cOp fIx (af 1) 48) (cC (.str "look"))) (cOp Mn (cOp fIx (oX ao 2 (af 0)) (cOp fIx (af 1) 71)) (cC .non)))))
def iY(d9:Fn)(ao:Cl):CS:=
 (kO ao 1 (af 0) (cCB d9 (ae (oX ao 1 (af 0)) (ae (af 1) (ae (af 2) aq)))))
def dN(ao:Cl):CS:=
 (aM (bB 2 (oX ao 3 (af 0)))
  (bR (b8 (ae (cOp fIx (af 2) 48) (ae (cOp eJ (cOp eJ (cOp fIx (af 2) 46) 46) (af 1)) (ae (cOp fIx (af 2) 71) (ae (cOp fIx (af 2) (cC (.int 3))) aq)))))))
def eM(bN aL:Fn)(ao:Cl):CS:=
 (kO ao 3 (af 0) (cCB bN (ae (eY ao aL (af 0) 89) aq)))
def iZ(bA aG aU:Fn)(ao:Cl):CS:=
 (aM (eP (eY ao bA (af 0) (ae (cOp fIx (eY ao aG (af 0) aq) 46) 89)))
  (eP (eY ao aU (af 0) (ae 48 aq))))
def eO(bN aL:Fn)(ao:Cl):CS:=
 (aM (bB 3 (eY ao aL (af 0) (ae 48 aq)))
  (aM (bB 4 (cCB bN (ae (b8 (ae (af 2) (ae 48 (ae (af 3) (ae (cOp fIx (af 3) (cC (.int 3))) aq))))) aq)))
  (kO ao 3 (af 0) (cCB bN (ae (b8 (ae (af 1) (ae 48 (ae (af 3) (ae (b8 (ae (oX ao 1 (af 0)) (ae (oX ao 2 (af 0)) (ae (af 4) aq)))) aq))))) aq)))))
def dj(ao:Cl):CS:=
 (aM (bB 1 (cOp fIx (oX ao 3 (af 0)) (cC (.int 3))))
  (aM (bV (aA (cOp Mn (af 1) (cC .non))) 61 aT)
  (aM (kO ao 1 (af 0) (cOp fIx (af 1) 48))
  (aM (kO ao 2 (af 0) (cOp fIx (af 1) 46))
  (aM (kO ao 3 (af 0) (cOp fIx (af 1) 71))
  (bR (cC (.bl true))))))))
def aZ(d9 aG de dg bA aU:Fn)(ao:Cl):CS:=
 (aM (bB 1 (eY ao aG (af 0) aq))
  (aM (bB 2 (cOp fIx (af 1) 48))
  (aM (bV (aA (cOp fEq (af 2) (cC (.str "wait")))) (bR (eY ao de (af 0) aq)) aT)
  (aM (bV (aA (cOp fEq (af 2) (cC (.str "try")))) (aM (eP (eY ao dg (af 0) (ae (cOp fIx (af 1) 46) (ae (cOp fIx (af 1) 71) aq))))
  (bR (cC (.bl true)))) aT)
  (aM (bB 3 48)
  (aM (bV (aA (cOp fEq (af 2) (cC (.str "look")))) (eP (eY ao bA (af 0) (ae (cOp fIx (af 1) 46) (ae (cOp fIx (oX ao 2 (af 0)) (cOp fIx (af 1) 71)) aq)))) (bV (aA (cOp fEq (af 2) (cC (.str "put")))) (kO ao 2 (af 0) (cCB d9 (ae (oX ao 2 (af 0)) (ae (cOp fIx (af 1) 46) (ae (cOp fIx (oX ao 1 (af 0)) (cOp fIx (af 1) 71)) aq))))) (bV (aA (cOp fEq (af 2) (cC (.str "set")))) (eP (eY ao bA (af 0) (ae (cOp fIx (af 1) 46) (ae (cOp fIx (af 1) 71) aq)))) (bV (aA (cOp fEq (af 2) (cC (.str "plus")))) (eP (eY ao bA (af 0) (ae (cOp fIx (af 1) 46) (ae (cOp rB (cOp eJ (cOp fIx (oX ao 1 (af 0)) (cOp fIx (af 1) 46)) (cOp fIx (oX ao 1 (af 0)) (cOp fIx (af 1) 71))) (oX ao 0 (af 0))) aq)))) (bV (aA (cOp fEq (cOp fIx (oX ao 1 (af 0)) (cOp fIx (af 1) 46)) 48)) (bB 3 (cOp fIx (af 1) 71)) aT)))))
  (aM (eP (eY ao aU (af 0) (ae (af 3) aq)))
  (bR (cC (.bl true))))))))))
def eK(ao:Cl):CS:=
 (bR (du (tM (oX ao 2 (af 0))) (gTp [0,1]) (aA (cOp lD (af 1) (cC .non))) (b8 (ae (af 0) 89)) 2 []))
def iX(bN:Fn)(ao:Cl):CS:=
 (aM (kO ao 0 (af 0) (cOp fIx (af 1) 46))
  (aM (kO ao 1 (af 0) (b8 (ae 48 (ae 48 (ae 48 (ae 48 aq))))))
  (aM (kO ao 2 (af 0) (cOp AZ (b8 (ae (cC .non) aq)) (cOp fIx (af 1) 48)))
  (kO ao 3 (af 0) (cCB bN (ae (b8 (ae (af 2) (ae 48 (ae (cC .non) (ae (cC .non) aq))))) aq))))))
def bD(aG dW dU cA:Fn)(ao:Cl)(fuel:Nat):CS:=
 (bV (aA (eY ao dW (af 0) aq)) (aM (bB 3 (cOp fIx (eY ao aG (af 0) aq) 71))
  (aM (gK (af 2) (af 3) (cC (.bl true)))
  (eP (eY ao dU (af 0) (ae (cOp fIx (af 1) (af 3)) aq))))) (bV (jS (aA (eY ao cA (af 0) aq))) (bR (cC (.bl false))) aT))
def eW(aG dW dU cA:Fn)(ao:Cl)(fuel:Nat):CS:=
 (aM (dA (aA (cOp lD (eY ao aG (af 0) aq) (cC .non))) (bD aG dW dU cA ao fuel) fuel)
  (bR (cC (.bl true))))
def fW(aW:Fn):CS:=
 (aM (bB 3 (Bt [((cC (.str "state")),(cCB iS (ae (af 2) aq))),((cC (.str "own")),(fZ aq)),((cC (.str "hands")),(fZ (ae 48 (ae 48 (ae 48 (ae 48 aq)))))),((cC (.str "looked")),(fZ aq))]))
  (aM (bV (aA (cCB aW (ae (af 0) (ae (af 1) (ae (af 3) aq))))) (bR (b8 (ae (cC (.str "waits")) (ae (cCB iR (ae (cOp fIx (af 3) (cC (.str "looked"))) aq)) aq)))) aT)
  (bR (b8 (ae (cC (.str "done")) (ae (cCB iC (ae (cOp fIx (af 3) (cC (.str "state"))) aq)) (ae (cCB iC (ae (cOp fIx (af 3) (cC (.str "hands"))) aq)) aq)))))))
def oM(cR bK dS:Fn)(ao:Cl):CS:=
 (gK (af 5) (af 6) (af 7))
def rE(cR bK dS:Fn)(ao:Cl):CS:=
 (aM (bB 3 (cCB (A1 ao dS) (ae (af 0) 89)))
  (aM (bB 4 IF)
  (aM (bV (jS (aA (cCB cR (ae (af 3) (ae (af 2) (ae (af 4) aq)))))) (bR (b8 (ae (cC (.str "waits")) (ae (cCB iR (ae (af 4) aq)) aq)))) aT)
  (aM (bB 5 (cCB iS (ae (af 2) aq)))
  (aM (ji (iTp (eY ao bK (af 3) aq)) (gTp [6,7]) (oM cR bK dS ao))
  (bR (b8 (ae (cC (.str "done")) (ae (cCB iC (ae (af 5) aq)) (ae (oX ao 1 (af 3)) aq))))))))))
def fH(ag:Fn):CS:=
 (aM (bB 2 (cCB ag (ae (af 0) (ae (cOp fIx (af 1) 48) aq))))
  (aM (bB 3 (cCB ag (ae (af 0) (ae (cOp fIx (af 1) 48) aq))))
  (aM (bB 4 (cCB ag (ae (af 0) (ae (cC (.int 5)) aq))))
  (aM (bB 5 (b8 (ae (b8 (ae (cC (.str "look")) (ae 48 (ae (af 2) aq)))) (ae (b8 (ae (cC (.str "leap")) (ae 48 (ae 46 aq)))) (ae (b8 (ae (cC (.str "wait")) aq)) aq)))))
  (aM (bV (aA (cOp fEq (af 4) 48)) (bB 5 (b8 (ae (b8 (ae (cC (.str "look")) (ae 48 (ae (af 2) aq)))) (ae (b8 (ae (cC (.str "set")) (ae 46 (ae 46 aq)))) (ae (b8 (ae (cC (.str "leap")) (ae 48 (ae 46 aq)))) (ae (b8 (ae (cC (.str "leap")) (ae 71 (ae 46 aq)))) (ae (b8 (ae (cC (.str "wait")) aq)) aq))))))) aT)
  (aM (bV (aA (cOp fEq (af 4) 46)) (aM (bB 6 (b8 (ae (b8 (ae (cC (.str "look")) (ae 48 (ae (af 3) aq)))) (ae (b8 (ae (cC (.str "leap")) (ae 48 (ae 46 aq)))) (ae (b8 (ae (cC (.str "wait")) aq)) aq)))))
  (bB 5 (b8 (ae (b8 (ae (cC (.str "look")) (ae 48 (ae (af 2) aq)))) (ae (b8 (ae (cC (.str "try")) (ae (b8 (ae (b8 (ae (cC (.str "leap")) (ae 48 (ae 46 aq)))) (ae (b8 (ae (cC (.str "leap")) (ae 71 (ae 46 aq)))) (ae (b8 (ae (cC (.str "wait")) aq)) aq)))) (ae (af 6) aq)))) aq))))) aT)
  (aM (bB 7 (cOp fIx (fZ (ae (af 2) (ae (af 3) aq))) (cCB ag (ae (af 0) (ae 71 aq)))))
  (bR (cOp eJ (af 5) (b8 (ae (b8 (ae (cC (.str "set")) (ae (cC (.int 3)) (ae (cCB ag (ae (af 0) (ae 71 aq))) aq)))) (ae (b8 (ae (cC (.str "put")) (ae (af 7) (ae (cC (.int 3)) aq)))) aq))))))))))))
def aX(ag aI eI:Fn):CS:=
 (bV (pY (aA (cOp fLt (af 4) (cC (.int 5)))) (aA (cOp fEq (cCB ag (ae (af 0) (ae (cC (.int 4)) aq))) 48))) (eP (cBM cf (af 3) (ae (cCB aI (ae (af 0) (ae (af 1) (ae (cC (.int 10)) (ae 71 aq))))) aq))) (eP (cBM cf (af 3) (ae (cCB eI (ae (af 0) 89)) aq))))
def dr(ag aI eI:Fn):CS:=
 (aM (bB 3 (fZ aq))
  (aM (bB 4 (cOp eJ 46 (cCB ag (ae (af 0) (ae (af 2) aq)))))
  (aM (ji (gq (ae (af 4) aq)) (gNm 5) (aX ag aI eI))
  (bR (af 3)))))
def fe(ag:Fn):CS:=
 (bR (cCB iC (ae (iD (gq (ae (cOp fIx (af 1) 48) aq)) (gNm 0) (cCB ag (ae (af 1) (ae (cOp fIx (fZ (ae 71 (ae (cOp fIx (af 2) 46) aq))) (cCB Mo (ae (cOp fEq (cCB ag (ae (af 1) (ae (cC (.int 4)) aq))) 48) aq))) aq))) 1 [0,1]) aq)))
def rH(dR:Fn):CS:=
 (bV (aA (cOp (fIn true) (af 4) (cOp fIx (af 2) 48))) (aM (bB 6 (cCB dR (ae (af 0) (ae (af 5) (ae (cOp fIx (af 2) 46) aq)))))
  (bV (aA (cOp fEq (cOp fIx (af 6) 48) (cC (.str "done")))) (eP (cBM cf (af 3) (ae (b8 (ae (af 4) (ae (b8 (ae (cCB iC (ae (cCB jf (ae (cOp eJ (cOp fIx (af 2) 48) (b8 (ae (af 4) aq))) aq)) aq)) (ae (cOp fIx (af 6) 46) aq))) aq))) aq))) aT)) aT)
def vB(dR:Fn):CS:=
 (aM (bB 3 (fZ aq))
  (aM (ji (tM (af 1)) (gTp [4,5]) (rH dR))
  (bR (af 3))))
def cM(lC:Fn):CS:=
 (bV (aA (cOp (fIn true) (af 4) (cOp fIx (af 2) 48))) (aM (bB 6 (cCB lC (ae (af 0) (ae (af 5) (ae (cOp fIx (af 2) 46) aq)))))
  (bV (aA (cOp fEq (cOp fIx (af 6) 48) (cC (.str "done")))) (eP (cBM cf (af 3) (ae (b8 (ae (af 4) (ae (b8 (ae (cCB iC (ae (cCB jf (ae (cOp eJ (cOp fIx (af 2) 48) (b8 (ae (af 4) aq))) aq)) aq)) (ae (cOp fIx (af 6) 46) aq))) aq))) aq))) aT)) aT)
def jP(lC:Fn):CS:=
 (aM (bB 3 (fZ aq))
  (aM (ji (tM (af 1)) (gTp [4,5]) (cM lC))
  (bR (af 3))))
def f9(aR:Fn)(fuel:Nat):CS:=
 (bV (aA (cOp wY (af 7) (af 3))) (aM (i6 (af 3) (af 7) (cOp eJ (cOp yx (af 3) (af 5)) (fZ (ae (af 6) aq))))
  (eP (cBM cf (af 4) (ae (af 7) aq)))) aT)
def eC(aR:Fn)(fuel:Nat):CS:=
 (aM (bB 5 (cBM oy (af 4) (ae 48 aq)))
  (ji (iTp (cCB aR (ae (af 0) (ae (af 2) (ae (af 5) aq))))) (gTp [6,7]) (f9 aR fuel)))
def fb(aR:Fn)(fuel:Nat):CS:=
 (aM (bB 3 (uc (b8 (ae (b8 aq) 89)) (fZ aq)))
  (aM (bB 4 (fZ (ae (b8 (ae (b8 aq) 89)) aq)))
  (aM (dA (aA (cOp fGt (cCB e9 (ae (af 4) aq)) 48)) (eC aR fuel) fuel)
  (bR (af 3)))))
def gh(aK:Fn):CS:=
 (bV (aA (cOp fEq (cCB e9 (ae (cOp fIx (af 4) 48) aq)) (cCB e9 (ae (af 2) aq)))) (bR (b8 (ae (cC (.str "all")) (ae (cOp yx (af 3) (af 4)) aq)))) aT)
def pX(aK:Fn):CS:=
 (aM (bB 3 (cCB aK (ae (af 0) (ae (af 1) (ae (af 2) aq)))))
  (aM (ph (af 3) (gNm 4) (gh aK))
  (bR (b8 (ae (cC (.str "never")) (ae (cCB mx (ae (af 3) aq)) aq))))))
end OQ
local macro_rules
 | `(tactic| rwa $s:rwRuleSeq) => do
  let ts : Array (Lean.TSyntax `term) := s.raw[1].getSepArgs.map λr => ⟨r[1]⟩
  let us : Array (Lean.TSyntax `term) := (("BY yD x_c yG mV oY rV yE Ou JU JT Qk NF ND FF EF JS FX FW NC Jx Jw Jy FE FG rZ mW uq Nq Jm JA EH Og JP NU JH EE rW vO Jt Js Jr JM FR yF Ju xC JJ EK Rp NZ NY xA Jq Oq JR JQ N1 N0 JW JV Q7 Nx Nw Nv Nu NQ JE JF NR Nt Jn Jo EI EJ JC JB Ov Nr Ql MV Qm Rq N6 NH N5 NG N7 NJ N3 N2 at0 at1 at2 at3 ix0 ix1 ix2 Option.bind_some List.getElem?_cons_zero List.getElem?_cons_succ List.set_cons_zero List.set_cons_succ List.length_cons List.length_nil List.map_cons List.map_nil decide_true decide_false Bool.not_true Bool.not_false N4 JL JK Q8 NA Nz Ny Jz FJ FI FH FK NV NW NP JD Rt Oo Om Ol Ot Rr Od Oc Oa N9 N8 JN Rc x_p Rb Ra Q9 JO FV FU Jj Jk Jl FL FN FO JI ga ga0 gs gs0 Option.join_some Nat.add_zero List.cons_append List.nil_append List.append_assoc" : String).splitOn " ").toArray.map λx => ⟨(Lean.mkIdent ((x.splitOn ".").foldl Lean.Name.str Lean.Name.anonymous)).raw⟩
  let vs:=ts++us
  `(tactic| simp only [$[$vs:term],*])
namespace OQ
open PySem PySem.Spec PyProof.Rows L2 OG OP
def pen(a c:Int):O:=.lst [.ref 0,.int a,.int c]
variable{S:Sto}
section
variable{j k:Int}
def yH(h:-(2^64)<k/\k<2^64):mR (.int j) (.int k) S=some (.int (j*k),S):=Ca (.inr h)
def rX(h:-(2^64)<j/\j<2^64):mR (.int j) (.int k) S=some (.int (j*k),S):=Ca (.inl h)
def Ro:mR (.int j) (.int 3) S=some (.int (j*3),S):=yH 54
def NN:mR (.int 97) (.int k) S=some (.int (97*k),S):=rX 54
def NO:mR (.int 53) (.int k) S=some (.int (53*k),S):=rX 54
def Rn:mR (.int j) (.int 48271) S=some (.int (j*48271),S):=yH 54
def Rl:mR (.int 69621) (.int k) S=some (.int (69621*k),S):=rX 54
def Rk:mR (.int j) (.int 998244353) S=some (.int (j*998244353),S):=yH 54
theorem NM:mR (.int (j % 2147483647)) (.int k) S=some (.int (j % 2147483647*k),S):=rX (by have:=Xg j (show(2147483647:Int)≠0 by decide);have:=Int.emod_lt_of_pos j (show(0:Int)<2147483647 by decide);omega)
theorem NL:mR (.int (j % 1000000007)) (.int k) S=some (.int (j % 1000000007*k),S):=rX (by have:=Xg j (show(1000000007:Int)≠0 by decide);have:=Int.emod_lt_of_pos j (show(0:Int)<1000000007 by decide);omega)
def Rj:rB (.int j) (.int 998244353) S=some (.int (j % 998244353),S):=rY 54
def Ri:rB (.int j) (.int 2147483647) S=some (.int (j % 2147483647),S):=rY 54
def Rh:rB (.int j) (.int 1000000007) S=some (.int (j % 1000000007),S):=rY 54
def Rg:rB (.int j) (.int 1000003) S=some (.int (j % 1000003),S):=rY 54
def Of:D2 (.int j) (.int 16) S=some (.int (j / 16),S):=FT ⟨by decide,by decide +kernel⟩
theorem Jv:Jd (.int 10) (.int 18) S=some (.int 1000000000000000000,S):=NB (j:=10) (k:=18) ⟨by decide,by decide,by decide⟩
theorem Oe:D2 (.int j) (.int 1000000000000000000) S=some (.int (j / 1000000000000000000),S):=FT ⟨by decide,by decide +kernel⟩
theorem atU{ns:List Int}{k:Int}(h0:0<=k)(h1:k<(ns.length:Int)):∃v:Int,atI (ns.map U.int) k=some (.int v):=by
 have hk:k.toNat<ns.length:=by omega
 exact⟨ns[k.toNat],p8 h0 (by rw[Zz,ZK hk];rfl)⟩
end
def dD:Fn:=fnU 8 2 g8
theorem bC(ns:List Int)(T:Sto){a c m:Int}(ha:0<=a)(hc:0<=c)(hm:0<m)(hb:m.natAbs.log2<9000) :
  ∃f a' c',dD [.ref 1,.int m] (.lst (ns.map U.int)::pen a c::T)=some (.int f,.lst (ns.map U.int)::pen a' c'::T)/\0<=f/\f<m/\0<=a'/\0<=c':=by
 unfold dD;rw[Mv];have dm:∀{j:Int} {S:Sto},D2 (.int j) (.int m) S=some (.int (j / m),S):=FT ⟨hm,hb⟩;have mm:∀{j:Int} {S:Sto},rB (.int j) (.int m) S=some (.int (j % m),S):=rY hm;have fin:∀{a' c':Int},0<=a'->0<=c'->0<=c' % m/\c' % m<m/\0<=a'/\0<=c' / m:=λh1 h2=>⟨Xg _ 24,Int.emod_lt_of_pos _ hm,h1,Int.ediv_nonneg h2 24⟩;by_cases c0:c=0;subst c0;have cell : ∃ z : Int, (bV (aA (cOp fLt (af 2) (cCB e9 (ae (cOp fIx (af 0) (cC (U.int 0))) aq))))
             (bB 3 (cOp fIx (cOp fIx (af 0) (cC (U.int 0))) (af 2)))
             (bV
              (aA (cOp fGt (cCB e9 (ae (cOp fIx (af 0) (cC (U.int 0))) aq)) (cC (U.int 0))))
              (bB 3
               (cOp eJ
                (cOp rB
                 (cOp fIx (cOp fIx (af 0) (cC (U.int 0)))
                  (cOp rB (cOp mR (af 2) (cC (U.int 3)))
                   (cCB e9 (ae (cOp fIx (af 0) (cC (U.int 0))) aq))))
                 (cC (U.int 1000003)))
                (cOp mR (cC (U.int 97)) (af 2))))
              aT)) [some (.ref 1),some (.int m),some (.int a),some (.int 0),none,none,none,none] (O.lst (ns.map U.int)::.lst [.ref 0,.int (a+1),.int 0]::T)=some (.nx,[some (.ref 1),some (.int m),some (.int a),some (.int z),none,none,none,none],O.lst (ns.map U.int)::.lst [.ref 0,.int (a+1),.int 0]::T):=by
  by_cases h1:a<(ns.length:Int);let⟨z,hz⟩:=atU ha h1;exact⟨z,by rwa[hz,h1,ZQ]⟩;by_cases h2:(0:Int)<(ns.length:Int);let⟨z,hz⟩:=atU (ns:=ns) (k:=a*3 % (ns.length:Int)) (Xg _ 24) (Int.emod_lt_of_pos _ h2);exact⟨z % 1000003+97*a,by rwa[h1,h2,Ro,rY h2,hz,Rg,NN,ZQ]⟩;exact⟨0,by rwa[h1,h2,ZQ]⟩
 let⟨z,hz⟩:=cell;rwa[g8,pen,hz,Rj,Ri,Rh,NO,Rn,Rl,Rk,NM,NL,Of,Jv];by_cases h3:(1000000000000000000:Int)<=z;rwa[h3,Jv,Oe,mm,dm];exact⟨_,_,_,rfl,fin 24 (Int.ediv_nonneg 24 24)⟩;rwa[h3,mm,dm];refine⟨_,_,_,rfl,fin 24 ?_⟩;exact Int.add_nonneg (Int.ediv_nonneg (Int.add_nonneg (Int.mul_nonneg (Xg _ 54) 54) (Xg _ 54)) 54) 54;rwa[g8,pen,c0,mm,dm];exact⟨_,_,_,rfl,fin ha hc⟩
def l9{m:Int}(h0:0<=m)(h:m<2^60):m.natAbs.log2<9000:=Am h0 h
abbrev scr(ns:List Int):O:=.lst (ns.map U.int)
theorem O2{f g:Int}(g0:0<=g)(g1:g<999)(f0:0<=f)(f1:f<5):∃v:Int,atI [U.int 2,U.int 3,U.int 5,U.int 10,U.int (2+g)] f=some (.int v)/\2<=v/\v<=1000:=by
 have:f=0\/f=1\/f=2\/f=3\/f=4:=by omega
 rcases this with rfl|rfl|rfl|rfl|rfl;exact⟨2,rfl,by omega,by omega⟩;exact⟨3,rfl,by omega,by omega⟩;exact⟨5,rfl,by omega,by omega⟩;exact⟨10,rfl,by omega,by omega⟩;exact⟨2+g,rfl,by omega,by omega⟩
def lL:Fn:=fnU 1 1 (iV dD)
theorem Cu(ns:List Int)(T:Sto){a c:Int}(ha:0<=a)(hc:0<=c) :
  ∃n w a' c' G,lL [.ref 1] (scr ns::pen a c::T)=some (.tup 92,scr ns::pen a' c'::(T++G))/\1<=n/\n<=6/\2<=w/\w<=1000/\0<=a'/\0<=c':=by
 unfold lL;rw[Ea];let⟨f1,a1,c1,h1,p1,q1,ha1,hc1⟩:=bC ns T (m:=6) ha hc 54 39;let⟨f2,a2,c2,h2,p2,q2,ha2,hc2⟩:=bC ns T (m:=999) ha1 hc1 54 39;let⟨f3,a3,c3,h3,p3,q3,ha3,hc3⟩:=bC ns (T++[.lst [.int 2,.int 3,.int 5,.int 10,.int (2+f2)]]) (m:=5) ha2 hc2 54 39;let⟨v,hv,v0,v1⟩:=O2 p2 q2 p3 q3;refine⟨1+f1,v,a3,c3,[.lst [.int 2,.int 3,.int 5,.int 10,.int (2+f2)]],?_,by omega,by omega,v0,v1,ha3,hc3⟩;rwa[iV,h1,h2,h3,hv]
inductive eZ where
 |look (h b:Int)|put (b h:Int)|set (h v:Int)|plus (h g:Int)|leap (h k:Int)|wait
def eZ.u:eZ->U
 |.look h b=>.tup [.str "look",.int h,.int b]
 |.put b h=>.tup [.str "put",.int b,.int h]
 |.set h v=>.tup [.str "set",.int h,.int v]
 |.plus h g=>.tup [.str "plus",.int h,.int g]
 |.leap h k=>.tup [.str "leap",.int h,.int k]
 |.wait=>.tup [.str "wait"]
def eZ.ok(n w:Int):eZ->Prop
 |.look h b=>0<=h/\h<4/\0<=b/\b<n
 |.put b h=>0<=h/\h<4/\0<=b/\b<n
 |.set h v=>0<=h/\h<4/\0<=v/\v<w
 |.plus h g=>0<=h/\h<4/\0<=g/\g<4
 |.leap h k=>0<=h/\h<4/\1<=k/\k<=12
 |.wait=>True
def lM:Fn:=fnU 4 4 (bq dD)
theorem C7(ns:List Int)(T:Sto){a c n w way L_:Int}(ha:0<=a)(hc:0<=c)(n0:1<=n)(n1:n<=6)(w0:2<=w)(w1:w<=1000)(y0:0<=way)(h0:0<=L_)(h1:L_<4) :
  ∃(d:eZ) (a' c':Int) (G:Sto),lM [.ref 1,.tup 92,.int way,.int L_] (scr ns::pen a c::T)=some (d.u,scr ns::pen a' c'::(T++G))/\d.ok n w/\0<=a'/\0<=c':=by
 unfold lM;rw[My];by_cases c4:way<4;let⟨f,a1,c1,e1,p1,q1,ha1,hc1⟩:=bC ns T (m:=n) ha hc 24 (l9 24 24);exact⟨.look L_ f,a1,c1,[],by rwa[bq,c4,e1,eZ.u,Zj],⟨h0,h1,p1,q1⟩,ha1,hc1⟩;by_cases c7:way<7;let⟨f,a1,c1,e1,p1,q1,ha1,hc1⟩:=bC ns T (m:=n) ha hc 24 (l9 24 24);exact⟨.put f L_,a1,c1,[],by rwa[bq,c4,c7,e1,eZ.u,Zj],⟨h0,h1,p1,q1⟩,ha1,hc1⟩;by_cases c9:way<9;let⟨f,a1,c1,e1,p1,q1,ha1,hc1⟩:=bC ns T (m:=w) ha hc 24 (l9 24 24);exact⟨.set L_ f,a1,c1,[],by rwa[bq,c4,c7,c9,e1,eZ.u,Zj],⟨h0,h1,p1,q1⟩,ha1,hc1⟩;by_cases c11:way<11;let⟨f,a1,c1,e1,p1,q1,ha1,hc1⟩:=bC ns T (m:=4) ha hc 24 (l9 24 24);exact⟨.plus L_ f,a1,c1,[],by rwa[bq,c4,c7,c9,c11,e1,eZ.u,Zj],⟨h0,h1,p1,q1⟩,ha1,hc1⟩;let⟨f,a1,c1,e1,p1,q1,ha1,hc1⟩:=bC ns (T++[.lst [.int 2,.int 12]]) (m:=2) ha hc 54 39;have key:∃z:Int,atI [U.int 2,U.int 12] f=some (.int z)/\0<z/\z<=12:=by
  have:f=0\/f=1:=by omega
  rcases this with rfl|rfl;exact⟨2,rfl,by omega,by omega⟩;exact⟨12,rfl,by omega,by omega⟩
 let⟨z,hz,z0,z1⟩:=key;let⟨g,a2,c2,e2,p2,q2,ha2,hc2⟩:=bC ns (T++[.lst [.int 2,.int 12]]) (m:=z) ha1 hc1 z0 (l9 24 24);exact⟨.leap L_ (1+g),a2,c2,[.lst [.int 2,.int 12]],by rwa[bq,c4,c7,c9,c11,e1,e2,hz,eZ.u],⟨h0,h1,by omega,by omega⟩,ha2,hc2⟩
def xw(fd fs:Fn):Fn:=fnU 11 4 (gu dD lM fd fs)
def lU:decide (("wait":Str)="leap")=false:=by decide +kernel
def mZ:decide (("wait":Str)="try")=false:=by decide +kernel
def lT:decide (("wait":Str)="look")=false:=by decide +kernel
def m9:decide (("wait":Str)="put")=false:=by decide +kernel
def m8:decide (("wait":Str)="set")=false:=by decide +kernel
def lR:decide (("wait":Str)="plus")=false:=by decide +kernel
def lX:decide (("leap":Str)="wait")=false:=by decide +kernel
def nD:decide (("leap":Str)="try")=false:=by decide +kernel
def l5:decide (("leap":Str)="look")=false:=by decide +kernel
def nF:decide (("leap":Str)="put")=false:=by decide +kernel
def nE:decide (("leap":Str)="set")=false:=by decide +kernel
def lZ:decide (("leap":Str)="plus")=false:=by decide +kernel
def ng:decide (("try":Str)="wait")=false:=by decide +kernel
def nq:decide (("try":Str)="leap")=false:=by decide +kernel
def nj:decide (("try":Str)="look")=false:=by decide +kernel
def px:decide (("try":Str)="put")=false:=by decide +kernel
def pw:decide (("try":Str)="set")=false:=by decide +kernel
def nh:decide (("try":Str)="plus")=false:=by decide +kernel
def iL:decide (("look":Str)="wait")=false:=by decide +kernel
def iM:decide (("look":Str)="leap")=false:=by decide +kernel
def gU:decide (("look":Str)="try")=false:=by decide +kernel
def nC:decide (("look":Str)="put")=false:=by decide +kernel
def nB:decide (("look":Str)="set")=false:=by decide +kernel
def lW:decide (("look":Str)="plus")=false:=by decide +kernel
def jy:decide (("put":Str)="wait")=false:=by decide +kernel
def jA:decide (("put":Str)="leap")=false:=by decide +kernel
def jd:decide (("put":Str)="try")=false:=by decide +kernel
def ny:decide (("put":Str)="look")=false:=by decide +kernel
def pA:decide (("put":Str)="set")=false:=by decide +kernel
def nv:decide (("put":Str)="plus")=false:=by decide +kernel
def jw:decide (("set":Str)="wait")=false:=by decide +kernel
def jx:decide (("set":Str)="leap")=false:=by decide +kernel
def jc:decide (("set":Str)="try")=false:=by decide +kernel
def nu:decide (("set":Str)="look")=false:=by decide +kernel
def pz:decide (("set":Str)="put")=false:=by decide +kernel
def nr:decide (("set":Str)="plus")=false:=by decide +kernel
def iJ:decide (("plus":Str)="wait")=false:=by decide +kernel
def iK:decide (("plus":Str)="leap")=false:=by decide +kernel
def gT:decide (("plus":Str)="try")=false:=by decide +kernel
def lV:decide (("plus":Str)="look")=false:=by decide +kernel
def nA:decide (("plus":Str)="put")=false:=by decide +kernel
def nz:decide (("plus":Str)="set")=false:=by decide +kernel
theorem SNX:type_of% @lU/\type_of% @mZ/\type_of% @lT/\type_of% @m9/\type_of% @m8/\type_of% @lR/\type_of% @lX/\type_of% @nD/\type_of% @l5/\type_of% @nF/\type_of% @nE/\type_of% @lZ/\type_of% @ng/\type_of% @nq/\type_of% @nj/\type_of% @px/\type_of% @pw/\type_of% @nh/\type_of% @iL/\type_of% @iM/\type_of% @gU/\type_of% @nC/\type_of% @nB/\type_of% @lW/\type_of% @jy/\type_of% @jA/\type_of% @jd/\type_of% @ny/\type_of% @pA/\type_of% @nv/\type_of% @jw/\type_of% @jx/\type_of% @jc/\type_of% @nu/\type_of% @pz/\type_of% @nr/\type_of% @iJ/\type_of% @iK/\type_of% @gT/\type_of% @lV/\type_of% @nA/\type_of% @nz:=⟨@lU,@mZ,@lT,@m9,@m8,@lR,@lX,@nD,@l5,@nF,@nE,@lZ,@ng,@nq,@nj,@px,@pw,@nh,@iL,@iM,@gU,@nC,@nB,@lW,@jy,@jA,@jd,@ny,@pA,@nv,@jw,@jx,@jc,@nu,@pz,@nr,@iJ,@iK,@gT,@lV,@nA,@nz⟩
structure M where
 hs:List Int
 ps:List (Int×Int)
 lk:List Int
def vG(lk:List Int)(b:Int):List Int:=if b∈lk then lk else lk++[b]
def qT(first:List Int)(m:M)(b:Int):Int:=(cg m.ps b).getD (first.getD b.toNat 0)
def step(w:Int)(first:List Int)(m:M):eZ->M
 |.look h b=>⟨m.hs.set h.toNat (qT first m b),m.ps,if (cg m.ps b).isSome then m.lk else vG m.lk b⟩
 |.put b h=>⟨m.hs,gY m.ps b (m.hs.getD h.toNat 0),m.lk⟩
 |.set h v=>⟨m.hs.set h.toNat v,m.ps,m.lk⟩
 |.plus h g=>⟨m.hs.set h.toNat ((m.hs.getD h.toNat 0+m.hs.getD g.toNat 0) % w),m.ps,m.lk⟩
 |.leap _ _=>m
 |.wait=>m
def yk(lk:List Int):List (Key×U):=lk.map λb=>(.inl b,.bl true)
theorem C2(b:Int)(lk:List Int):gY (yk lk) (.inl b) (.bl true)=yk (vG lk b):=by
 have ha:((yk lk).any λkv=>decide (kv.1=Sum.inl b))=decide (b∈lk):=by
  unfold yk;induction lk with
  |nil=>rfl
  |cons k r ih=>
   simp only[ZR,XR,ih];by_cases e:k=b;subst e;simp;rw[Xf (λz:(Sum.inl k:Key)=Sum.inl b=>e (Sum.inl.inj z))];simp[Ne.symm e]
 unfold gY vG;rw[ha];by_cases c:b∈lk
 ·rw[Xe (Xa c),Xe c];unfold yk;rw[Za];refine XW λp _=>?_;simp only[Function.comp];split<;>rfl
 rw[Xd ‹c›,Xd c];simp[yk]
theorem at4{hs:List Int}{h:Int}(l:hs.length=4)(h0:0<=h)(h1:h<4):atI (hs.map U.int) h=some (.int (hs.getD h.toNat 0)):=by
 have hk:h.toNat<hs.length:=by omega
 refine p8 h0 ?_;rw[Zz,ZK hk,Zo,ZK hk];rfl
theorem ixL{us:List U}{h:Int}{n:Nat}(l:us.length=n)(h0:0<=h)(h1:h<n):ixN us.length h=some h.toNat:=by
 unfold ixN;rw[Xe h0,Xe 24]
theorem atF{first:List Int}{b n:Int}(l:first.length=n.toNat)(h0:0<=b)(h1:b<n):atI 82 b=some (.int (first.getD b.toNat 0)):=by
 have hk:b.toNat<first.length:=by omega
 refine p8 h0 ?_;rw[Zz,ZK hk,Zo,ZK hk];rfl
def map_set{hs:List Int}{k:Nat}{v:Int}:(hs.map U.int).set k (.int v)=(hs.set k v).map U.int:=by rw[List.map_set]
inductive DF(α:Type) where
 |pl (d:eZ)|tr (a b:List α)
def DF.u{α:Type}(f:α->U):DF α->U
 |.pl d=>d.u
 |.tr a b=>.tup [.str "try",.tup (a.map f),.tup (b.map f)]
variable{α:Type}
section
variable(w:Int)(first:List Int)(rn:List α->M->Bool×M)
def I0(a b:List α)(m:M):Bool×M:=match rn a m with
 |(true,m')=>(true,m')
 |(false,m')=>rn b ⟨m.hs,m.ps,m'.lk⟩
def dz:List (DF α)->Nat->M->Bool×M
 |[],_,m=>(true,m)
 |_::r,k+1,m=>dz r k m
 |.tr a b::r,0,m=>match I0 rn a b m with
  |(true,m')=>dz r 0 m'
  |(false,m')=>(false,m')
 |.pl .wait::_,0,m=>(false,m)
 |.pl (.leap h k)::r,0,m=>dz r (if m.hs.getD h.toNat 0=0 then k.toNat else 0) m
 |.pl (.look h b)::r,0,m=>dz r 0 (step w first m (.look h b))
 |.pl (.put h b)::r,0,m=>dz r 0 (step w first m (.put h b))
 |.pl (.set h b)::r,0,m=>dz r 0 (step w first m (.set h b))
 |.pl (.plus h b)::r,0,m=>dz r 0 (step w first m (.plus h b))
theorem sM:∀(ds:List (DF α)) (k:Nat) (m:M),dz w first rn ds k m=dz w first rn (ds.drop k) 0 m
 |[],k,m=>by simp[dz]
 |d::r,0,m=>by simp
 |d::r,k+1,m=>by rw[dz,sM r k m];rfl
end
def Dl:Nat->Type
 |0=>DF Empty
 |j+1=>DF (Dl j)
def Dl.u:(j:Nat)->Dl j->U
 |0,d=>DF.u (λx=>nomatch x) d
 |j+1,d=>DF.u (Dl.u j) d
def DF.ok{α:Type}(n w:Int)(k:List α->Prop):DF α->Prop
 |.pl d=>d.ok n w
 |.tr a b=>k a/\k b
structure Wf(n:Int)(m:M):Prop where
 h4:m.hs.length=4
 pk:(m.ps.map (·.1)).Nodup
 pb:∀k∈m.ps.map (·.1),0<=k/\k<n
 lk:m.lk.Nodup
 lb:∀k∈m.lk,0<=k/\k<n
theorem few:∀(n:Nat) (l:List Int),l.Nodup->(∀k∈l,0<=k/\k<n)->l.length<=n
 |0,l,_,h=>by
  cases l with
  |nil=>simp
  |cons a r=>have:=h a 51;omega
 |n+1,l,nd,h=>by
  have ih:=few n (l.erase (n:Int)) (nd.erase _) λk hk=>by
   have h1:=h k (List.mem_of_mem_erase hk);have h2:k≠(n:Int):=λz=>by subst z;exact(nd.not_mem_erase) hk
   omega
  rw[List.length_erase]at ih;split at ih<;>omega
theorem Wf.few{n:Int}{m:M}(h:Wf n m)(n0:0<=n)(n1:n<=6):m.ps.length<=6/\m.lk.length<=6:=by
 have a:=OQ.few n.toNat _ h.pk λk hk=>by have:=h.pb k hk;omega
 have b:=OQ.few n.toNat _ h.lk λk hk=>by have:=h.lb k hk;omega
 rw[ZQ]at a;omega
theorem BH{l:List Int}{b:Int}(h:l.Nodup):(vG l b).Nodup:=by
 unfold vG;split;exact h;rename_i c;rw[Xz];exact⟨h,by simp,λx hx y hy z=>by simp at hy;subst hy;subst z;exact c hx⟩
theorem xj{l:List Int}{b k:Int}(h:k∈vG l b):k∈l\/k=b:=by
 unfold vG at h;split at h;exact .inl h;simpa using h
theorem nT(b v:Int)(ps:List (Int×Int)):(gY ps b v).map (·.1)=vG (ps.map (·.1)) b:=by
 have ha:(ps.any λkv=>decide (kv.1=b))=decide (b∈ps.map (·.1)):=by
  induction ps with
  |nil=>rfl
  |cons p r ih=>
   simp only[XR,ih,ZR];by_cases e:p.1=b;simp[e];simp[e,Ne.symm e]
 unfold gY vG;rw[ha];by_cases c:b∈ps.map (·.1)
 ·rw[Xe (Xa c),Xe c,Za];refine XW λp _=>?_;simp only[Function.comp];split<;>rfl
 rw[Xd ‹c›,Xd c];simp
theorem zj{n w:Int}{first:List Int}{m:M}{d:eZ}(h:Wf n m)(od:d.ok n w):Wf n (step w first m d):=by
 cases d with
 |look g b=>
  let⟨_,_,b0,b1⟩:=od;refine⟨by simpa [step] using h.h4,h.pk,h.pb,?_,?_⟩;simp only[step];split;exact h.lk;exact BH h.lk;simp only[step];split;exact h.lb;exact λk hk=>(xj hk).elim (h.lb k) λe=>by subst e;exact⟨b0,b1⟩
 |put b g=>
  let⟨b0,b1,b2,b3⟩:=od;refine⟨h.h4,?_,?_,h.lk,h.lb⟩;simp only[step];rw[nT];exact BH h.pk
  ·simp only[step];rw[nT];exact λk hk=>(xj hk).elim (h.pb k) λe=>by subst e;constructor<;>omega
 |set g v=>exact⟨by simpa [step] using h.h4,h.pk,h.pb,h.lk,h.lb⟩
 |plus g v=>exact⟨by simpa [step] using h.h4,h.pk,h.pb,h.lk,h.lb⟩
 |leap g k=>exact h
 |wait=>exact h
structure Fr(ls:List Nat)(S S':Sto):Prop where
 len:S.length<=S'.length
 old:∀l,l<S.length->l∉ls->S'[l]?=S[l]?
def Fr.refl{ls:List Nat}{S:Sto}:Fr ls S S:=⟨ZW _,λ_ _ _=>rfl⟩
theorem Fr.set{ls:List Nat}{S:Sto}{l:Nat}{o:O}(h:l∈ls):Fr ls S (S.set l o):=⟨by simp,λk _ hk=>by rw[ZZ (λz=>hk (by subst z;exact h))]⟩
theorem Fr.trans{ls:List Nat}{S S' S'':Sto}(a:Fr ls S S')(b:Fr ls S' S''):Fr ls S S'':=⟨X2 a.len b.len,λl hl hn=>by rw[b.old l (ZI hl a.len) hn,a.old l hl hn]⟩
def a9{α:Type}{l:List α}{k:Nat}{x:α}(h:l[k]?=some x):k<l.length:=(Z9.mp h).1
def ar{α:Type}{l r:List α}{k:Nat}{x:α}(h:l[k]?=some x):(l++r)[k]?=some x:=by rw[Zk (a9 h)];exact h
def oW(w:Int)(first:List Int):(j:Nat)->List (Dl j)->M->Bool×M
 |0,ds,m=>dz w first (λ_ m=>(true,m)) ds 0 m
 |j+1,ds,m=>dz w first (oW w first j) ds 0 m
def OkL(n w:Int):(j:Nat)->List (Dl j)->Prop
 |0,ds=>ds.length<=30/\∀d∈ds,DF.ok n w (λ_=>False) d
 |j+1,ds=>ds.length<=30/\∀d∈ds,DF.ok n w (OkL n w j) d
def m0:M:=⟨[0,0,0,0],[],[]⟩
theorem tD:∀lk:List Int,xY (yk lk)=some lk
 |[]=>rfl
 |b::r=>by
  have ih:=tD r;unfold yk at ih ⊢;simp only[ZR,xY,ih,XU]
def beh(first:List Int)(ps:List (Int×Int))(k:Nat):List Int:=(first.zipIdx k).map λp=>(cg ps (p.2:Int)).getD p.1
def told(r:Bool×M)(first:List Int)(l:Nat):U:=match r with
 |(true,m)=>.tup [.str "done",.tup 83,.tup (m.hs.map U.int)]
 |(false,_)=>.tup [.str "waits",.ref l]
theorem Fg{ls:List Nat}{S0 S':Sto}(len:S0.length<=S'.length)(old:∀l,l<S0.length->S'[l]?=S0[l]?):∃G,S'=S0++G:=by
 refine⟨S'.drop S0.length,Zs λl=>?_⟩;by_cases c:l<S0.length;rw[old l c,Zk c];rw[Zf 24,List.getElem?_drop];congr 1;omega
theorem inI(b:Int):∀l:List Int,inU (.int b) (l.map U.int)=decide (b∈l)
 |[]=>by simp[inU]
 |x::r=>by
  have ih:=inI b r;unfold inU at ih ⊢;rw[ZR,XR,ih,show eqF (.int x) (.int b)=(x == b)from rfl];by_cases e:x=b;subst e;simp;have:(x == b)=false:=by simpa using e
  rw[this];simp[Ne.symm e]
theorem PX(l:List Int):(l.map U.int).all gI=true:=by
 induction l with
 |nil=>rfl
 |cons x r ih=>rw[ZR,List.all_cons,ih];rfl
theorem E8(b:Int):∀ps:List (Int×Int),decide (b∈ps.map (·.1))=(cg ps b).isSome
 |[]=>rfl
 |(k,v)::r=>by
  have ih:=E8 b r;unfold cg at ih ⊢;simp only[ZR,Zl];by_cases e:k=b
  ·subst e;simp
  ·rw[Xf e,<-ih];simp[Ne.symm e]
theorem uy(b v j:Int)(ps:List (Int×Int)):cg (gY ps b v) j=if j=b then some v else cg ps j:=by
 have e1:∀ps:List (Int×Int),cg ps j=(fk (ps.map λp=>(p.1,V.int p.2)) j).map λx=>match x with|.int i=>i|_=>0:=λps=>by
  unfold cg fk;induction ps with
  |nil=>rfl
  |cons p r ih=>
   simp only[ZR,Zl];by_cases e:p.1=j;simp[e];rw[Xf e];exact ih
 have e2:(gY ps b v).map (λp=>(p.1,V.int p.2))=mL (ps.map λp=>(p.1,V.int p.2)) b (.int v):=by
  unfold gY mL;have:(ps.map λp=>(p.1,V.int p.2)).any (λkv=>decide (kv.1=b))=ps.any λkv=>decide (kv.1=b):=by rw[List.any_map];rfl
  rw[this];split
  ·rw[Za,Za];refine XW λp _=>?_;simp only[Function.comp];split<;>rfl
  simp
 rw[e1,e2,CF];split;rfl;exact(e1 ps).symm
def jT(first:List Int)(ps:List (Int×Int))(k:Nat):(beh first ps k).length=first.length:=by simp[beh]
theorem oJ(first:List Int)(ps:List (Int×Int))(k i:Nat)(h:i<first.length):(beh first ps k)[i]?=some ((cg ps ((k+i:Nat):Int)).getD (first.getD i 0)):=by
 unfold beh;rw[Zz,List.getElem?_zipIdx,ZK h];simp[Zo,ZK h]
theorem MF{first:List Int}{m:M}{n b:Int}(lf:first.length=n.toNat)(b0:0<=b)(b1:b<n):atI 83 b=some (.int (qT first m b)):=by
 have hb:b.toNat<first.length:=by omega
 refine p8 b0 ?_;rw[Zz,oJ _ _ _ _ hb];unfold qT;have:((0+b.toNat:Nat):Int)=b:=by omega
 rw[this];rfl
theorem II{first:List Int}{ps:List (Int×Int)}{n b v:Int}(lf:first.length=n.toNat)(b0:0<=b)(b1:b<n):(beh first ps 0).set b.toNat v=beh first (gY ps b v) 0:=by
 refine Zs λi=>?_;by_cases hi:i<first.length
 rw[oJ _ _ _ _ hi,List.getElem?_set,jT];by_cases e:b.toNat=i;have:((0+i:Nat):Int)=b:=by omega
 rw[Xe e,Xe 24,uy,this,Xe rfl];rfl;rw[Xd e,oJ _ _ _ _ hi,uy,Xd 24];rw[Zd (by simp[jT];omega),Zd (by rw[jT];omega)]
variable{first:List Int}
theorem IJ:beh first [] 0=first:=by
 refine Zs λi=>?_;by_cases hi:i<first.length
 rw[oJ _ _ _ _ hi,ZK hi];simp[cg,Zo,ZK hi];rw[Zd (by rw[jT];omega),Zd 24]
def mN(ls lo lh ll:Nat):List (Key×U):=[(.inr "state",.ref ls),(.inr "own",.ref lo),(.inr "hands",.ref lh),(.inr "looked",.ref ll)]
variable{ls lo lh ll:Nat}
def dG:cg (mN ls lo lh ll) (.inr "state")=some (.ref ls):=by rfl
def jq:cg (mN ls lo lh ll) (.inr "own")=some (.ref lo):=by rfl
def cU:cg (mN ls lo lh ll) (.inr "hands")=some (.ref lh):=by rfl
def d8:cg (mN ls lo lh ll) (.inr "looked")=some (.ref ll):=by rfl
def Dv{x:Nat}:gY (mN ls lo lh ll) (.inr "state") (.ref x)=mN x lo lh ll:=by rfl
def LA{x:Nat}:gY (mN ls lo lh ll) (.inr "own") (.ref x)=mN ls x lh ll:=by rfl
def Dw{x:Nat}:gY (mN ls lo lh ll) (.inr "hands") (.ref x)=mN ls lo x ll:=by rfl
structure Al(first:List Int)(i ls lo lh ll:Nat)(m:M)(S:Sto):Prop where
 ei:S[i]?=some (.dic (mN ls lo lh ll))
 es:S[ls]?=some (.lst 83)
 eo:S[lo]?=some (.lst ((m.ps.map (·.1)).map U.int))
 eh:S[lh]?=some (.lst (m.hs.map U.int))
 el:S[ll]?=some (.lst (m.lk.map U.int))
 nd:ls≠lo/\ls≠lh/\ls≠ll/\lo≠lh/\lo≠ll/\lh≠ll
variable{w:Int}{i:Nat}
section
variable{m:M}
theorem DB{x y:Nat}{kus:List (Key×U)}{us:List U}(a:S[x]?=some (.dic kus))(b:S[y]?=some (.lst us)):x≠y:=λz=>by rw[z,b]at a;cases a
theorem Al.ns(h:Al first i ls lo lh ll m S):i≠ls/\i≠lo/\i≠lh/\i≠ll:=⟨DB h.ei h.es,DB h.ei h.eo,DB h.ei h.eh,DB h.ei h.el⟩
theorem Al.app(h:Al first i ls lo lh ll m S)(T:Sto):Al first i ls lo lh ll m (S++T):=⟨ar h.ei,ar h.es,ar h.eo,ar h.eh,ar h.el,h.nd⟩
theorem Al.setH(h:Al first i ls lo lh ll m S)(hs:List Int):Al first i ls lo lh ll ⟨hs,m.ps,m.lk⟩ (S.set lh (.lst (hs.map U.int))):=by
 let⟨n1,n2,n3,n4,n5,n6⟩:=h.nd;let⟨k1,k2,k3,k4⟩:=h.ns;exact⟨by rw[ZZ (Ne.symm k3)];exact h.ei,by rw[ZZ (Ne.symm n2)];exact h.es,by rw[ZZ (Ne.symm n4)];exact h.eo,ZE (a9 h.eh),by rw[ZZ n6];exact h.el,h.nd⟩
theorem Al.setL(h:Al first i ls lo lh ll m S)(lk:List Int):Al first i ls lo lh ll ⟨m.hs,m.ps,lk⟩ (S.set ll (.lst (lk.map U.int))):=by
 let⟨n1,n2,n3,n4,n5,n6⟩:=h.nd;let⟨k1,k2,k3,k4⟩:=h.ns;exact⟨by rw[ZZ (Ne.symm k4)];exact h.ei,by rw[ZZ (Ne.symm n3)];exact h.es,by rw[ZZ (Ne.symm n5)];exact h.eo,by rw[ZZ (Ne.symm n6)];exact h.eh,ZE (a9 h.el),h.nd⟩
theorem qz{α:Type}{l:List α}{k:Nat}{x:α}(h:l[k]?=some x):l.set k x=l:=by
 refine Zs λj=>?_;by_cases c:k=j;subst c;rw[ZE (a9 h),h];rw[ZZ c]
theorem Al.setP(h:Al first i ls lo lh ll m S)(ps:List (Int×Int)){S':Sto}(e:S'=(S.set ls (.lst ((beh first ps 0).map U.int))).set lo (.lst ((ps.map (·.1)).map U.int))):Al first i ls lo lh ll ⟨m.hs,ps,m.lk⟩ S':=by
 let⟨n1,n2,n3,n4,n5,n6⟩:=h.nd;let⟨k1,k2,k3,k4⟩:=h.ns;subst e;exact⟨by rw[ZZ (Ne.symm k2),ZZ (Ne.symm k1)];exact h.ei,by rw[ZZ (Ne.symm n1)];exact ZE (a9 h.es),ZE ‹a9 h.eo›,by rw[ZZ n4,ZZ n2];exact h.eh,by rw[ZZ n5,ZZ n3];exact h.el,h.nd⟩
def Jg:Fn:=fnU 6 3 b7
theorem Pk{n:Int}{d:eZ}(h:Al first i ls lo lh ll m S)(wf:Wf n m)(od:d.ok n w)(lf:first.length=n.toNat)(n0:0<=n)(n1:n<=6)(w0:2<=w)(nw:d≠.wait)(nl:∀h k,d≠.leap h k) :
  ∃S',Jg [.tup 92,d.u,.ref i] S=some (.non,S')/\Al first i ls lo lh ll (step w first m d) S'/\Fr [i,ls,lo,lh,ll] S S':=by
 unfold Jg;rw[Mx];let⟨f1,f2⟩:=wf.few n0 n1;have h4:=wf.h4;have i4:∀{h:Int},0<=h->h<4->ixN (m.hs.map U.int).length h=some h.toNat:=λh0 h1=>ixL (n:=4) ‹h4› h0 h1;have fl:∀{b:Int} {l:List Int},gI (.int b)=true/\(l.map U.int).all gI=true:=λ{b l}=>⟨rfl,PX l⟩;have hp':((m.ps.map (·.1)).map U.int).length<LIM:=by simp;unfold LIM;omega
 have hl':(m.lk.map U.int).length<LIM:=by simp;unfold LIM;omega
 cases d with
 |wait=>exact absurd rfl nw
 |leap h k=>exact absurd rfl (nl h k)
 |look g b=>
  let⟨h0,h1,b0,b1⟩:=od;have ba:=MF (m:=m) lf b0 b1;cases hv:(cg m.ps b).isSome with
  |true=>
   have h2:=h.setH (m.hs.set g.toNat (qT first m b));refine⟨_,?_,by simp only[step,hv,if_true];exact h2,.set 51⟩;rwa[b7,eZ.u,h.ei,h.es,h.eo,h.eh,h.el,jq,cU,dG,d8,yI fl,inI,E8,hv,ba,i4 h0 h1,map_set,if_true,SNX]
  |false=>
   by_cases hk:b∈m.lk
   ·have h2:=h.setH (m.hs.set g.toNat (qT first m b));refine⟨_,?_,by simp only[step,hv,vG,hk,if_true,Zt,if_false];exact h2,.set 51⟩;rwa[b7,eZ.u,h.ei,h.es,h.eo,h.eh,h.el,jq,cU,dG,d8,yI fl,inI,E8,hv,hk,ba,i4 h0 h1,map_set,if_true,if_false,Zt,SNX]
   ·have h1':=h.setL (m.lk++[b]);have h2:=h1'.setH (m.hs.set g.toNat (qT first m b));simp only[Zb,ZR,Zm]at h1' h2;refine⟨_,?_,by simp only[step,hv,vG,hk,if_true,Zt,if_false];exact h2,Fr.trans (.set 51) (.set 51)⟩;rwa[b7,eZ.u,h.ei,h.es,h.eo,h.eh,h.el,h1'.ei,h1'.es,h1'.eh,jq,cU,dG,d8,yI fl,fR hl',inI,E8,hv,hk,ba,i4 h0 h1,map_set,if_true,if_false,Zt,SNX]
 |put b g=>
  let⟨h0,h1,b0,b1⟩:=od;have bi:ixN ((beh first m.ps 0).map U.int).length b=some b.toNat:=ixL (n:=n.toNat) (by simp[jT,lf]) b0 24;have bp:=II (ps:=m.ps) (v:=m.hs.getD g.toNat 0) lf b0 b1;have hk:=nT b (m.hs.getD g.toNat 0) m.ps;let⟨m1,m2,m3,m4,m5,m6⟩:=h.nd;let⟨k1,k2,k3,k4⟩:=h.ns;have g1:∀X,(S.set ls X)[i]?=some (.dic (mN ls lo lh ll)):=λX=>by rw[ZZ (Ne.symm k1)];exact h.ei
  have g2:∀X,(S.set ls X)[lo]?=some (.lst ((m.ps.map (·.1)).map U.int)):=λX=>by rw[ZZ m1];exact h.eo
  cases hv:(cg m.ps b).isSome with
  |true=>
   have hm:b∈m.ps.map (·.1):=of_decide_eq_true (by rw[E8,hv]);rw[vG,Xe hm]at hk;have h2:=h.setP (gY m.ps b (m.hs.getD g.toNat 0)) (S':=S.set ls (.lst ((beh first (gY m.ps b (m.hs.getD g.toNat 0)) 0).map U.int))) (by
    rw[hk,qz (g2 _)])
   refine⟨_,?_,h2,.set 51⟩;rwa[b7,eZ.u,h.ei,h.es,h.eo,h.eh,h.el,g1,g2,jq,cU,dG,d8,yI fl,inI,E8,hv,bi,bp,at4 h4 h0 h1,map_set,if_true,SNX]
  |false=>
   have hm:¬b∈m.ps.map (·.1):=of_decide_eq_false (by rw[E8,hv]);rw[vG,Xd hm]at hk;have h2:=h.setP (gY m.ps b (m.hs.getD g.toNat 0)) rfl;refine⟨_,?_,h2,Fr.trans (.set 51) (.set 51)⟩;rwa[b7,eZ.u,h.ei,h.es,h.eo,h.eh,h.el,g1,g2,jq,cU,dG,d8,yI fl,fR hp',inI,E8,hv,bi,bp,hk,at4 h4 h0 h1,map_set,if_true,Zb,SNX]
 |set g v=>
  let⟨h0,h1,b0,b1⟩:=od;have h2:=h.setH (m.hs.set g.toNat v);refine⟨_,?_,h2,.set 51⟩;rwa[b7,eZ.u,h.ei,h.es,h.eo,h.eh,h.el,jq,cU,dG,d8,i4 h0 h1,map_set,SNX]
 |plus g k=>
  let⟨h0,h1,g0,g1⟩:=od;have h2:=h.setH (m.hs.set g.toNat ((m.hs.getD g.toNat 0+m.hs.getD k.toNat 0) % w));refine⟨_,?_,h2,.set 51⟩;rwa[b7,eZ.u,h.ei,h.es,h.eo,h.eh,h.el,jq,cU,dG,d8,i4 h0 h1,at4 h4 h0 h1,at4 h4 g0 g1,rY (show 0<w by omega),map_set,SNX]
end
variable{fw:Fn}
section
variable{m:M}
theorem Hc{x x1 x2:Nat}{S1:Sto}(len:S.length<=S1.length)(p:x1=x\/S.length<=x1)(q:x2=x1\/S1.length<=x2):x2=x\/S.length<=x2:=by omega
theorem Ff{ls1 lo1 lh1:Nat}{S1 S2:Sto}(a:Fr [i,ls,lo,lh,ll] S S1)(p:ls1=ls\/S.length<=ls1)(q:lo1=lo\/S.length<=lo1)(r:lh1=lh\/S.length<=lh1)(b:Fr [i,ls1,lo1,lh1,ll] S1 S2):Fr [i,ls,lo,lh,ll] S S2:=
 ⟨X2 a.len b.len,λl hl hn=>by
  rw[b.old l (ZI hl a.len) ?_,a.old l hl hn];simp only[ZT,Zv,or_false,not_or]at hn ⊢;omega⟩
def ReL(first:List Int)(i ls lo lh ll:Nat)(S S':Sto)(r:Bool×M):Prop:=
 ∃ls' lo' lh',Al first i ls' lo' lh' ll r.2 S'/\Fr [i,ls,lo,lh,ll] S S'/\(ls'=ls\/S.length<=ls')/\(lo'=lo\/S.length<=lo')/\(lh'=lh\/S.length<=lh')
theorem ReL.here(h:Al first i ls lo lh ll m S){b:Bool}:ReL first i ls lo lh ll S S (b,m):=⟨ls,lo,lh,h,.refl,.inl rfl,.inl rfl,.inl rfl⟩
theorem ReL.go{ls1 lo1 lh1:Nat}{S1 S2:Sto}{r:Bool×M}(a:Fr [i,ls,lo,lh,ll] S S1)(p:ls1=ls\/S.length<=ls1)(q:lo1=lo\/S.length<=lo1)(t:lh1=lh\/S.length<=lh1)(h:ReL first i ls1 lo1 lh1 ll S1 S2 r):ReL first i ls lo lh ll S S2 r:=by
 let⟨ls',lo',lh',e1,e2,e3,e4,e5⟩:=h;exact⟨ls',lo',lh',e1,Ff a p q t e2,Hc a.len p e3,Hc a.len q e4,Hc a.len t e5⟩
def jK(N:Nat):List (Key×U):=[(.inr "state",.ref (N+1)),(.inr "own",.ref (N+2)),(.inr "hands",.ref (N+3))]
def HN(N:Nat):pJ [(.inr "state",.ref (N+1)),(.inr "own",.ref (N+2)),(.inr "hands",.ref (N+3))]=jK N:=by rfl
def DN(N:Nat):cg (jK N) (.inr "state")=some (.ref (N+1)):=by rfl
def LI(N:Nat):cg (jK N) (.inr "own")=some (.ref (N+2)):=by rfl
def DO(N:Nat):cg (jK N) (.inr "hands")=some (.ref (N+3)):=by rfl
def qO{a b c d:Nat}:(mN a b c d).length<LIM:=by show 4<LIM;unfold LIM;omega
theorem IK{fp:Fn}{N:Nat}{ρ:Rho}(hi:S[i]?=some (.dic (mN ls lo lh ll)))(hN:S[N]?=some (.dic (jK N))){r0 r1 r3 r4 r6:Option U} :
  ∃r6',Bs (af 5) (gNm 6) (cS fp fw) [r0,r1,some (.ref i),r3,r4,some (.ref N),r6] S=some (.nx,[r0,r1,some (.ref i),r3,r4,some (.ref N),r6'],S.set i (.dic (mN (N+1) (N+2) (N+3) ll))):=by
 have ni:i≠N:=λz=>by subst z;rw[hi]at hN;cases hN
 have li:=a9 hi;have lN:=a9 hN;refine⟨some (.str "hands"),?_⟩;unfold Bs;simp only[BY,Zx,Xy,yD,Z4,hN];refine vZ λep=>?_;have g0:∀X Y,((S.set N X).set i Y)[N]?=some X:=λX Y=>by rw[ZZ ni];exact ZE lN
 have g00:∀X,(S.set N X)[N]?=some X:=λX=>ZE lN;have g1:∀X Y,((S.set N X).set i Y)[i]?=some Y:=λX Y=>ZE ‹li›;have g2:∀X,(S.set N X)[i]?=some (.dic (mN ls lo lh ll)):=λX=>by rw[ZZ (Ne.symm ni)];exact hi
 have e:dC (λS'=>S'[N]?=some (.fdc ep (jK N))) (gNm 6) (cS fp fw) ((jK N).map λq=>kU q.1) [r0,r1,some (.ref i),r3,r4,some (.ref N),r6] (S.set N (.fdc ep (jK N)))
   = some (.nx,[r0,r1,some (.ref i),r3,r4,some (.ref N),some (.str "hands")],(S.set N (.fdc ep (jK N))).set i (.dic (mN (N+1) (N+2) (N+3) ll))):=by
  refine(bf (ρ1:=[r0,r1,some (.ref i),r3,r4,some (.ref N),some (.str "state")]) (S1:=(S.set N (.fdc ep (jK N))).set i (.dic (mN (N+1) lo lh ll))) (g00 _) rfl ?_).trans ?_;rwa[cS,kU,g00,g2,FP,DN,Dv,qO,if_true];refine(bf (ρ1:=[r0,r1,some (.ref i),r3,r4,some (.ref N),some (.str "own")]) (S1:=(S.set N (.fdc ep (jK N))).set i (.dic (mN (N+1) (N+2) lh ll))) (g0 _ _) rfl ?_).trans ?_;rwa[cS,kU,g0,g1,FP,LI,LA,qO,if_true,XG];refine(bf (ρ1:=[r0,r1,some (.ref i),r3,r4,some (.ref N),some (.str "hands")]) (S1:=(S.set N (.fdc ep (jK N))).set i (.dic (mN (N+1) (N+2) (N+3) ll))) (g0 _ _) rfl ?_).trans ?_;rwa[cS,kU,g0,g1,FP,DO,Dw,qO,if_true,XG];exact c8 (g0 _ _)
 rw[e,Z4];simp only[g0];congr 3;rw[List.set_comm _ _ ni,XG,qz hN]
end
def Fr.app{ls:List Nat}{S:Sto}(T:Sto):Fr ls S (S++T):=⟨by simp,λl hl _=>by rw[Zk hl]⟩
variable{n:Int}
section
variable{m:M}
variable{rn:List α->M->Bool×M}{f:α->U}{k:List α->Prop}
def HwT(first:List Int)(n w:Int)(i:Nat)(fw:Fn)(rn:List α->M->Bool×M)(f:α->U)(k:List α->Prop):Prop:=∀(a:List α) (m:M) (ls lo lh ll:Nat) (S:Sto),k a->Al first i ls lo lh ll m S->Wf n m->∃S',fw [.tup 92,.tup (a.map f),.ref i] S=some (.bl (!(rn a m).1),S')/\ReL first i ls lo lh ll S S' (rn a m)/\Wf n (rn a m).2
theorem fA(Hw:HwT first n w i fw rn f k)(all:U)(lf:first.length=n.toNat)(n0:0<=n)(n1:n<=6)(w0:2<=w):∀(ds:List (DF α)) (out:Nat) (r4 r5 r6:Option U) (m:M) (ls lo lh:Nat) (S:Sto),(∀d∈ds,d.ok n w k)->Al first i ls lo lh ll m S->Wf n m->
  ∃ρ S',dC (λ_=>True) (gNm 4) (a8 Jg fw) (ds.map (DF.u f)) [some 28,some all,some (.ref i),some (.int out),r4,r5,r6] S=some (if (dz w first rn ds out m).1 then Out.nx else Out.rt (.bl true),ρ,S')/\ReL first i ls lo lh ll S S' (dz w first rn ds out m)/\Wf n (dz w first rn ds out m).2
 |[],out,r4,r5,r6,m,ls,lo,lh,S,_,h,wf=>⟨_,S,by rw[dz];exact c8 trivial,by rw[dz];exact .here h,by rw[dz];exact wf⟩
 |d::r,out+1,r4,r5,r6,m,ls,lo,lh,S,oa,h,wf=>by
  let⟨ρ,S',e,ih⟩:=fA Hw all lf n0 n1 w0 r out (some (d.u f)) r5 r6 m ls lo lh S (λx hx=>oa x (ZY _ hx)) h wf;rw[dz];refine⟨ρ,S',(bf trivial rfl ?_).trans e,ih⟩;have e1:(0:Int)<((out+1:Nat):Int):=by omega
  have e2:((out+1:Nat):Int)-1=(out:Int):=by omega
  rwa[a8,e1,e2]
 |d::r,0,r4,r5,r6,m,ls,lo,lh,S,oa,h,wf=>by
  have od:=oa d ZD;have or:∀x∈r,x.ok n w k:=λx hx=>oa x (ZY _ hx);have z0:¬((0:Int)<((0:Nat):Int)):=by decide
  have h4:=wf.h4;have plain:∀d':eZ,d=.pl d'->d'≠.wait->(∀h k,d'≠.leap h k)->(∃x rr,d'.u=.tup (.str x::rr)/\decide (x=("wait":Str))=false/\decide (x=("leap":Str))=false/\decide (x=("try":Str))=false)->dz w first rn (.pl d'::r) 0 m=dz w first rn r 0 (step w first m d')->
    ∃ρ S',dC (λ_=>True) (gNm 4) (a8 Jg fw) ((d::r).map (DF.u f)) [some 28,some all,some (.ref i),some (.int (0:Nat)),r4,r5,r6] S=some (if (dz w first rn (.pl d'::r) 0 m).1 then Out.nx else Out.rt (.bl true),ρ,S')/\ReL first i ls lo lh ll S S' (dz w first rn (.pl d'::r) 0 m)/\Wf n (dz w first rn (.pl d'::r) 0 m).2:=by
   rintro d' rfl nw nl ⟨x,rr,e0,s1,s2,s3⟩ e;let⟨S1,hg,a1,f1⟩:=Pk (w:=w) h wf od lf n0 n1 w0 nw nl;let⟨ρ,S',el,ih,iw⟩:=fA Hw all lf n0 n1 w0 r 0 (some d'.u) r5 r6 (step w first m d') ls lo lh S1 or a1 (zj wf od);rw[e];refine⟨ρ,S',(bf trivial rfl ?_).trans el,.go f1 (.inl rfl) (.inl rfl) (.inl rfl) ih,iw⟩;simp only[DF.u];rw[e0]at hg ⊢;rwa[a8,z0,s1,s2,s3,hg]
  cases d with
  |tr a b=>
   let⟨ka,kb⟩:=od;have li:=a9 h.ei;have l1:=a9 h.es;have l2:=a9 h.eo;have l3:=a9 h.eh;have l4:=a9 h.el;have h1:=h.app [.dic []];have h2:=h.app [.dic [],.lst 83];have h3:=h.app [.dic [],.lst 83,.lst ((m.ps.map (·.1)).map U.int)];have h4:=h.app [.dic (jK S.length),.lst 83,.lst ((m.ps.map (·.1)).map U.int),.lst (m.hs.map U.int)];let⟨S5,er,⟨ls5,lo5,lh5,a5,f5,p5,q5,t5⟩,wf5⟩:=Hw a m ls lo lh ll _ ka h4 wf;have ff:Fr [i,ls,lo,lh,ll] S S5:=Fr.trans (Fr.app _) f5;have len5:=f5.len;simp only[ZV,ZM,XX]at len5 p5 q5 t5;rw[dz];unfold I0;cases e:rn a m with
   |mk t m'=>
    rw[e]at er a5 wf5;cases t with
    |true=>
     let⟨ρ,S',el,ih,iw⟩:=fA Hw all lf n0 n1 w0 r 0 (some (DF.u f (.tr a b))) (some (.ref S.length)) r6 m' ls5 lo5 lh5 S5 or a5 wf5;refine⟨ρ,S',(bf trivial rfl ?_).trans el,.go ff 24 24 24 ih,iw⟩;rwa[a8,DF.u,z0,h.ei,h1.ei,h1.es,h2.ei,h2.eo,h3.ei,h3.eh,dG,jq,cU,HN,er,ZV,Xq,Nat.reduceAdd,SNX]
    |false=>
     have old:∀x,x<4->S5[S.length+x]?=[O.dic (jK S.length),.lst 83,.lst ((m.ps.map (·.1)).map U.int),.lst (m.hs.map U.int)][x]?:=λx hx=>by
      rw[f5.old _ 72 72,ga]
     have o0:S5[S.length]?=some (.dic (jK S.length)):=old 0 24;let⟨r6',eb⟩:=IK (fw:=fw) (fp:=Jg) (ρ:=[]) (r0:=some 28) (r1:=some all) (r3:=some (.int (0:Nat))) (r4:=some (DF.u f (.tr a b))) (r6:=r6) a5.ei o0;have k5:=a5.ns;have a6:Al first i (S.length+1) (S.length+2) (S.length+3) ll ⟨m.hs,m.ps,m'.lk⟩ (S5.set i (.dic (mN (S.length+1) (S.length+2) (S.length+3) ll))):=
      ⟨ZE (a9 a5.ei),by rw[ZZ 24];exact old 1 24,by rw[ZZ 24];exact old 2 24,by rw[ZZ 24];exact old 3 24,by rw[ZZ k5.2.2.2];exact a5.el,by omega⟩
     have f6:Fr [i,ls,lo,lh,ll] S (S5.set i (.dic (mN (S.length+1) (S.length+2) (S.length+3) ll))):=ff.trans (.set 51);let⟨S7,er7,⟨ls7,lo7,lh7,a7,f7,p7,q7,t7⟩,wf7⟩:=Hw b ⟨m.hs,m.ps,m'.lk⟩ _ _ _ _ _ kb a6 ⟨wf.h4,wf.pk,wf.pb,wf5.lk,wf5.lb⟩;have ff7:Fr [i,ls,lo,lh,ll] S S7:=Ff f6 (.inr 24) (.inr 24) (.inr 24) f7;have len7:=f7.len;simp only[XO]at len7 p7 q7 t7;simp only[DF.u]at eb;have e6:=a6.ei;cases e2:rn b ⟨m.hs,m.ps,m'.lk⟩with
     |mk t2 m2=>
      rw[e2]at er7 a7 wf7;cases t2 with
      |true=>
       let⟨ρ,S',el,ih,iw⟩:=fA Hw all lf n0 n1 w0 r 0 (some (DF.u f (.tr a b))) (some (.ref S.length)) r6' m2 ls7 lo7 lh7 S7 or a7 wf7;simp only[e2];refine⟨ρ,S',(bf trivial rfl ?_).trans el,.go ff7 (.inr 24) (.inr 24) (.inr 24) ih,iw⟩;rwa[a8,DF.u,z0,h.ei,h1.ei,h1.es,h2.ei,h2.eo,h3.ei,h3.eh,dG,jq,cU,HN,er,eb,er7,ZV,Xq,Nat.reduceAdd,SNX]
      |false=>
       simp only[e2];refine⟨[some 28,some all,some (.ref i),some (.int (0:Nat)),some (DF.u f (.tr a b)),some (.ref S.length),r6'],S7,uS trivial rfl ?_,⟨ls7,lo7,lh7,a7,ff7,.inr 24,.inr 24,.inr 24⟩,wf7⟩;rwa[a8,DF.u,z0,h.ei,h1.ei,h1.es,h2.ei,h2.eo,h3.ei,h3.eh,dG,jq,cU,HN,er,eb,er7,ZV,Xq,Nat.reduceAdd,SNX]
  |pl d=>
   cases d with
   |wait=>
    refine⟨[some 28,some all,some (.ref i),some (.int (0:Nat)),some (eZ.u .wait),r5,r6],S,(uS trivial rfl ?_).trans (by rw[dz];rfl),by rw[dz];exact .here h,by rw[dz];exact wf⟩;rwa[a8,z0,DF.u,eZ.u,SNX]
   |leap g j=>
    let⟨h0,h4',k0,k1⟩:=od;rw[dz];have cm:∀{x:Int},yC j x:=λ{x}=>.inl ⟨by omega,by omega⟩;by_cases z:m.hs.getD g.toNat 0=0;rw[Xe z];let⟨ρ,S',el,ih⟩:=fA Hw all lf n0 n1 w0 r j.toNat (some (eZ.u (.leap g j))) r5 r6 m ls lo lh S or h wf;refine⟨ρ,S',(bf trivial rfl ?_).trans el,ih⟩;have e1:((j.toNat:Nat):Int)=j*1:=by omega
    rw[e1];rwa[a8,z0,DF.u,eZ.u,h.ei,h.eh,cU,at4 h4 h0 h4',z,Ca cm,if_true,SNX];rw[Xd z];let⟨ρ,S',el,ih⟩:=fA Hw all lf n0 n1 w0 r 0 (some (eZ.u (.leap g j))) r5 r6 m ls lo lh S or h wf;refine⟨ρ,S',(bf trivial rfl ?_).trans el,ih⟩;have e1:((0:Nat):Int)=j*0:=by omega
    rw[e1];rwa[a8,Int.mul_zero,Int.lt_irrefl,DF.u,eZ.u,h.ei,h.eh,cU,at4 h4 h0 h4',z,Ca cm,if_false,Zt,SNX]
   |look g b=>exact plain _ rfl 51 51 ⟨_,_,rfl,iL,iM,gU⟩ (by rw[dz])
   |put g b=>exact plain _ rfl 51 51 ⟨_,_,rfl,jy,jA,jd⟩ (by rw[dz])
   |set g b=>exact plain _ rfl 51 51 ⟨_,_,rfl,jw,jx,jc⟩ (by rw[dz])
   |plus g b=>exact plain _ rfl 51 51 ⟨_,_,rfl,iJ,iK,gT⟩ (by rw[dz])
end
section
variable{m:M}
def rL(fw:Fn):Fn:=fnU 7 3 (fV Jg fw)
theorem qi{α:Type}{fw:Fn}{rn:List α->M->Bool×M}{f:α->U}{k:List α->Prop}(Hw:HwT first n w i fw rn f k)(lf:first.length=n.toNat)(n0:0<=n)(n1:n<=6)(w0:2<=w)(ds:List (DF α))(oa:∀d∈ds,d.ok n w k)(h:Al first i ls lo lh ll m S)(wf:Wf n m) :
  ∃S',rL fw [.tup 92,.tup (ds.map (DF.u f)),.ref i] S=some (.bl (!(dz w first rn ds 0 m).1),S')/\ReL first i ls lo lh ll S S' (dz w first rn ds 0 m)/\Wf n (dz w first rn ds 0 m).2:=by
 unfold rL;rw[Mw];let⟨ρ,S',e1,e2,e3⟩:=fA Hw (.tup (ds.map (DF.u f))) lf n0 n1 w0 ds 0 none none none m ls lo lh S oa h wf;refine⟨S',?_,e2,e3⟩;have z:((0:Nat):Int)=0:=rfl;rw[z]at e1;cases e:(dz w first rn ds 0 m).1 with
 |true=>rw[e]at e1;simp only[if_true]at e1;rwa[fV,ji,iTp,e1]
 |false=>rw[e]at e1;simp only[Zt,if_false]at e1;rwa[fV,ji,iTp,e1]
def vH:Nat->Fn
 |0=>rL λ_ _=>none
 |j+1=>rL (vH j)
theorem vV(lf:first.length=n.toNat)(n0:0<=n)(n1:n<=6)(w0:2<=w):∀J j:Nat,j<=J->HwT first n w i (vH J) (oW w first j) (Dl.u j) (OkL n w j)
 |0,0,_=>λa m ls lo lh ll S ka h wf=>qi (k:=λ_=>False) (λa m ls lo lh ll S ka=>ka.elim) lf n0 n1 w0 a ka.2 h wf
 |J+1,0,_=>λa m ls lo lh ll S ka h wf=>qi (k:=λ_=>False) (λa m ls lo lh ll S ka=>ka.elim) lf n0 n1 w0 a ka.2 h wf
 |J+1,j+1,hJ=>λa m ls lo lh ll S ka h wf=>qi (vV lf n0 n1 w0 J j 24) lf n0 n1 w0 a ka.2 h wf
def dI(j:Nat):Fn:=fnU 4 3 (fW (vH j))
theorem E2(N:Nat):pJ [(.inr "state",.ref (N+1)),(.inr "own",.ref (N+2)),(.inr "hands",.ref (N+3)),(.inr "looked",.ref (N+4))]=mN (N+1) (N+2) (N+3) (N+4):=by rfl
theorem Ar{J j:Nat}(hJ:j<=J)(S0:Sto)(ds:List (Dl j))(od:OkL n w j ds)(lf:first.length=n.toNat)(n0:0<=n)(n1:n<=6)(w0:2<=w) :
  ∃G l,dI J [.tup 92,.tup (ds.map (Dl.u j)),.tup 82] S0=some (told (oW w first j ds m0) first l,S0++G)/\((oW w first j ds m0).1=false->(S0++G)[l]?=some (.lst ((dY (oW w first j ds m0).2.lk).map U.int))/\S0.length<=l)/\Wf n (oW w first j ds m0).2:=by
 unfold dI;rw[Mz];have h0:Al first S0.length (S0.length+1) (S0.length+2) (S0.length+3) (S0.length+4) m0 (S0++[.dic (mN (S0.length+1) (S0.length+2) (S0.length+3) (S0.length+4)),.lst 82,.lst [],.lst [.int 0,.int 0,.int 0,.int 0],.lst []]):=
  ⟨by rw[ga0];rfl,by rw[ga];simp[m0,IJ],by rw[ga];rfl,by rw[ga];rfl,by rw[ga];rfl,by omega⟩
 let⟨S1,er,⟨ls1,lo1,lh1,a1,f1,p1,q1,t1⟩,wf1⟩:=vV lf n0 n1 w0 J j hJ ds m0 _ _ _ _ _ od h0 ⟨rfl,by simp[m0],by simp[m0],by simp[m0],by simp[m0]⟩;obtain⟨G1,rfl⟩:∃G,S1=S0++G:=Fg (ls:=[]) (by have:=f1.len;simp at this;omega) λl hl=>by
  rw[f1.old l 72 72,Zk hl]
 let⟨_,k2⟩:=wf1.few n0 n1;unfold told;cases e:oW w first j ds m0 with
 |mk b m=>
  rw[e]at er a1 k2 wf1;cases b with
  |true=>
   refine⟨G1,0,?_,by simp,wf1⟩;rwa[fW,E2,dG,cU,d8,er,a1.ei,a1.es,a1.eh,ZV,Xq,Nat.reduceAdd]
  |false=>
   have l0:m.lk.length<64:=Nat.lt_of_le_of_lt k2 54;have hs:iR [.ref (S0.length+4)] (S0++G1)=some (.ref (S0++G1).length,(S0++G1)++[.lst ((dY m.lk).map U.int)]):=by
    simp only[iR,a1.el,gH,Z4,l0,if_true]
   refine⟨G1++[.lst ((dY m.lk).map U.int)],(S0++G1).length,?_,λ_=>⟨?_,by simp⟩,wf1⟩;rwa[fW,E2,dG,cU,d8,er,a1.ei,hs,ZV,Xq,Nat.reduceAdd];rw[<-ZJ,ga0];rfl
end
def FQ{x:U}{S:Sto}:Mn x .non S=some (.bl (qV x),S):=rfl
section
variable{f:α->U}{k:List α->Prop}{s:List α->Int}
def szF(s:List α->Int):List (DF α)->Int
 |[]=>0
 |.pl _::r=>1+szF s r
 |.tr a b::r=>1+s a+s b+szF s r
theorem qq(s:List α->Int):∀(x y:List (DF α)),szF s (x++y)=szF s x+szF s y
 |[],y=>by simp[szF]
 |.pl d::r,y=>by simp only[Zu,szF,qq s r y];omega
 |.tr a b::r,y=>by simp only[Zu,szF,qq s r y];omega
def HsT(fs:Fn)(f:α->U)(k:List α->Prop)(s:List α->Int):Prop:=∀(a:List α) (S:Sto),k a->fs [.tup (a.map f)] S=some (.int (s a),S)
def xn(fs:Fn):Fn:=fnU 3 1 (jR fs)
theorem nG{fs:Fn}(Hs:HsT fs f k s)(x:U):∀(ds:List (DF α)) (G_:Int) (r2:Option U) (S:Sto),(∀d∈ds,d.ok n w k)->
  ∃r2',dC (λ_=>True) (gNm 2) (fj fs) (ds.map (DF.u f)) [some x,some (.int G_),r2] S=some (.nx,[some x,some (.int (G_+szF s ds)),r2'],S)
 |[],G_,r2,S,_=>⟨r2,by simp only[szF,Int.add_zero,Zm];exact c8 trivial⟩
 |d::r,G_,r2,S,oa=>by
  have od:=oa d ZD;cases d with
  |pl d=>
   let⟨r2',ih⟩:=nG Hs x r (G_+1) (some d.u) S λy hy=>oa y (ZY _ hy);have e:G_+szF s (.pl d::r)=G_+1+szF s r:=by simp only[szF];omega
   rw[e];refine⟨r2',(bf trivial rfl ?_).trans ih⟩;have h0:∃y rr,d.u=.tup (.str y::rr)/\decide (y=("try":Str))=false:=by
    cases d<;>first|exact⟨_,_,rfl,gU⟩|exact⟨_,_,rfl,jd⟩|exact⟨_,_,rfl,jc⟩|exact⟨_,_,rfl,gT⟩|exact⟨_,_,rfl,by decide +kernel⟩
   let⟨y,rr,e0,e1⟩:=h0;simp only[DF.u];rw[e0];rwa[fj,e1]
  |tr a b=>
   let⟨ka,kb⟩:=od;let⟨r2',ih⟩:=nG Hs x r (G_+1+s a+s b) (some (DF.u f (.tr a b))) S λy hy=>oa y (ZY _ hy);have e:G_+szF s (.tr a b::r)=G_+1+s a+s b+szF s r:=by simp only[szF];omega
   rw[e];refine⟨r2',(bf trivial rfl ?_).trans ih⟩;rwa[fj,DF.u,Hs a _ ka,Hs b _ kb,SNX]
theorem uE{fs:Fn}(Hs:HsT fs f k s)(ds:List (DF α))(S:Sto)(oa:∀d∈ds,d.ok n w k):xn fs [.tup (ds.map (DF.u f))] S=some (.int (szF s ds),S):=by
 unfold xn;rw[P5];let⟨r2,e⟩:=nG Hs (.tup (ds.map (DF.u f))) ds 0 none S oa;rw[Int.zero_add]at e;rwa[jR,ji,iTp,e]
end
def yp:Nat->Fn
 |0=>xn λ_ _=>none
 |j+1=>xn (yp j)
def GB:(j:Nat)->List (Dl j)->Int
 |0,ds=>szF (λ_=>0) ds
 |j+1,ds=>szF (GB j) ds
theorem qy{n w:Int}:∀J j:Nat,j<=J->HsT (yp J) (Dl.u j) (OkL n w j) (GB j)
 |0,0,_=>λa S ka=>uE (n:=n) (w:=w) (k:=λ_=>False) (λ_ _ z=>z.elim) a S ka.2
 |J+1,0,_=>λa S ka=>uE (n:=n) (w:=w) (k:=λ_=>False) (λ_ _ z=>z.elim) a S ka.2
 |J+1,j+1,h=>λa S ka=>uE (n:=n) (w:=w) (qy J j 24) a S ka.2
section
variable{f:α->U}{k:List α->Prop}{s:List α->Int}
def HdT(n w t:Int)(fd:Fn)(f:α->U)(k:List α->Prop)(s:List α->Int):Prop:=∀(ns:List Int) (T:Sto) (a c room:Int),0<=a->0<=c->0<=room->room<=40->
 ∃(ds:List α) (a' c':Int) (G:Sto),fd [.ref 1,.tup 92,.int room,.int t] (scr ns::pen a c::T)=some (.tup (ds.map f),scr ns::pen a' c'::(T++G))/\k ds/\s ds<=room/\0<=s ds/\0<=a'/\0<=c'/\ds.length<=12
def jm(ag bc aI aS:Fn):CS:=
 (bV (pY (aA (cOp fGt (af 5) 48)) (pY (aA (cOp fLt (cCB e9 (ae (af 4) aq)) (cC (.int 12)))) (aA (cOp fLt (af 7) (cC (.int 13)))))) (aM (eP (cBM cf (af 4) (ae (cCB bc (ae (af 0) (ae (af 1) (ae (af 7) (ae (af 8) aq))))) aq)))
  (bB 5 (cOp pM (af 5) 46))) (bV (pY (aA (cOp fGt (af 5) (cC (.int 0)))) (pY (aA (cOp fLt (cCB e9 (ae (af 4) aq)) (cC (.int 12)))) (cOr (aA (cOp fEq (af 7) (cC (.int 13)))) (aA (cOp fEq (af 3) (cC (.int 0))))))) (aM (bV (pY (aA (cOp fGt (af 5) (cC (.int 1)))) (pY (aA (cOp fLt (cCB e9 (ae (af 4) aq)) (cC (.int 11)))) (aA (cOp fGt (cCB ag (ae (af 0) (ae (cC (.int 4)) aq))) (cC (.int 0)))))) (aM (eP (cBM cf (af 4) (ae (b8 (ae (cC (.str "leap")) (ae (af 8) (ae (cC (.int 1)) aq)))) aq)))
  (bB 5 (cOp pM (af 5) 46))) aT)
  (aM (eP (cBM cf (af 4) (ae (b8 (ae (cC (.str "wait")) aq)) aq)))
  (bB 5 (cOp pM (af 5) 46)))) (bV (pY (aA (cOp fGt (af 5) (cC (.int 0)))) (aA (cOp fLt (cCB e9 (ae (af 4) aq)) (cC (.int 12))))) (aM (bB 9 (cCB aI (ae (af 0) (ae (af 1) (ae (cCB ag (ae (af 0) (ae (af 5) aq))) (ae (cOp pM (af 3) (cC (.int 1))) aq))))))
  (aM (bB 5 (cOp pM (cOp pM (af 5) 46) (cCB aS (ae (af 9) aq))))
  (aM (bB 10 (cCB aI (ae (af 0) (ae (af 1) (ae (cCB ag (ae (af 0) (ae (cOp eJ (af 5) 46) aq))) (ae (cOp pM (af 3) 46) aq))))))
  (aM (bB 5 (cOp pM (af 5) (cCB aS (ae (af 10) aq))))
  (eP (cBM cf (af 4) (ae (b8 (ae (cC (.str "try")) (ae (af 9) (ae (af 10) aq)))) aq))))))) aT)))
theorem MG{f g h i:Fn}:dH f g h i=aM (bB 7 (cCB f (ae (af 0) (ae (cC (.int 16)) aq)))) (aM (bB 8 (cCB f (ae (af 0) (ae (cC (.int 4)) aq)))) (jm f g h i)):=rfl
theorem dh(ns:List Int)(T:Sto){n w room t:Int}{fd fs:Fn}(Hs:HsT fs f k s)(Hd:t≠0->HdT n w (t-1) fd f k s)(n0:1<=n)(n1:n<=6)(w0:2<=w)(w1:w<=1000)(rm:room<=40):∀(us:List U) (r6 r7 r8 r9 r10:Option U) (left:Int) (ds:List (DF α)) (G:Sto) {a c:Int},0<=a->0<=c->ds.length<=12->(∀d∈ds,d.ok n w k)->0<=left->szF s ds+left<=room->0<=szF s ds->
  ∃(ds':List (DF α)) (ρ:Rho) (a' c':Int) (G':Sto),dC (λ_=>True) (gNm 6) (dH dD lM fd fs) us [some (.ref 1),some 28,some (.int room),some (.int t),some (.ref (T.length+1+1)),some (.int left),r6,r7,r8,r9,r10] (scr ns::pen a c::(T++.lst (ds.map (DF.u f))::G))
   = some (.nx,some (.ref 1)::some (.tup 92)::some (.int room)::some (.int t)::some (.ref (T.length+1+1))::ρ,scr ns::pen a' c'::(T++.lst (ds'.map (DF.u f))::G'))/\ds'.length<=12/\(∀d∈ds',d.ok n w k)/\szF s ds'<=room/\0<=szF s ds'/\0<=a'/\0<=c'
 |[],r6,r7,r8,r9,r10,left,ds,G,a,c,ha,hc,hl,hd,l0,sz,s0=>⟨ds,_,a,c,G,by simp[dC];rfl,hl,hd,by omega,s0,ha,hc⟩
 |u::us,r6,r7,r8,r9,r10,left,ds,G,a,c,ha,hc,hl,hd,l0,sz,s0=>by
  let⟨f1,a1,c1,e1,p1,q1,ha1,hc1⟩:=bC ns (T++.lst (ds.map (DF.u f))::G) (m:=16) ha hc 54 39;let⟨f2,a2,c2,e2,p2,q2,ha2,hc2⟩:=bC ns (T++.lst (ds.map (DF.u f))::G) (m:=4) ha1 hc1 54 39;have pre:dH dD lM fd fs [some (.ref 1),some 28,some (.int room),some (.int t),some (.ref (T.length+1+1)),some (.int left),some u,r7,r8,r9,r10] (scr ns::pen a c::(T++.lst (ds.map (DF.u f))::G))
    = jm dD lM fd fs [some (.ref 1),some 28,some (.int room),some (.int t),some (.ref (T.length+1+1)),some (.int left),some u,some (.int f1),some (.int f2),r9,r10] (scr ns::pen a2 c2::(T++.lst (ds.map (DF.u f))::G)):=by
   rw[MG];rwa[e1,e2]
  by_cases hL:0<left;case neg=>
   let⟨ds',ρ,a',c',G',h,kk⟩:=dh ns T (room:=room) (t:=t) (fd:=fd) (fs:=fs) Hs Hd n0 n1 w0 w1 rm us (some u) (some (.int f1)) (some (.int f2)) r9 r10 left ds G ha2 hc2 hl hd l0 sz s0;exact⟨ds',ρ,a',c',G',(bf trivial rfl (pre.trans (by rwa[jm,hL]))).trans h,kk⟩
  by_cases hN:(ds.length:Int)<12;case neg=>
   let⟨ds',ρ,a',c',G',h,kk⟩:=dh ns T (room:=room) (t:=t) (fd:=fd) (fs:=fs) Hs Hd n0 n1 w0 w1 rm us (some u) (some (.int f1)) (some (.int f2)) r9 r10 left ds G ha2 hc2 hl hd l0 sz s0;exact⟨ds',ρ,a',c',G',(bf trivial rfl (pre.trans (by rwa[jm,hL,hN,ZQ]))).trans h,kk⟩
  have hlm:(ds.map (DF.u f)).length<LIM:=by unfold LIM;simp;omega
  have okd:∀{ds:List (DF α)} {d:DF α},(∀d∈ds,d.ok n w k)->d.ok n w k->∀x∈ds++[d],x.ok n w k:=λh1 h2 x hx=>by
   rcases X4.mp hx with z|z;exact h1 x z;simp at z;subst z;exact h2
  have s1:∀(x:List (DF α)) (d:eZ),szF s (x++[.pl d])=szF s x+1:=λx d=>by rw[qq];simp[szF]
  by_cases hW:f1<13;let⟨d,a3,c3,G3,e3,od,ha3,hc3⟩:=C7 ns (T++.lst (ds.map (DF.u f))::G) ha2 hc2 n0 n1 w0 w1 p1 p2 q2;let⟨ds',ρ,a',c',G',h,kk⟩:=dh ns T (room:=room) (t:=t) (fd:=fd) (fs:=fs) Hs Hd n0 n1 w0 w1 rm us (some u) (some (.int f1)) (some (.int f2)) r9 r10 (left-1) (ds++[.pl d]) (G++G3) ha3 hc3 72 (okd hd (show DF.ok n w k (.pl d)from od)) 24 (by rw[s1];omega) (by rw[s1];omega);simp only[Zb,ZR,Zm,DF.u]at h;exact⟨ds',ρ,a',c',G',(bf trivial rfl (pre.trans (by rwa[jm,e3,hL,hN,hW,fR hlm,ZQ]))).trans h,kk⟩
  ·have wt:DF.u f (.pl .wait)=U.tup [.str "wait"]:=rfl;obtain⟨bE,hE⟩:∃b,decide (f1=13)=b:=⟨_,rfl⟩;obtain⟨bT,hT⟩:∃b,decide (t=0)=b:=⟨_,rfl⟩;by_cases hX:bE=false/\bT=false;let⟨rfl,rfl⟩:=hX;have tz:t≠0:=of_decide_eq_false hT;let⟨f3,a3,c3,e3,p3,q3,ha3,hc3⟩:=bC ns (T++.lst (ds.map (DF.u f))::G) (m:=left) ha2 hc2 hL (l9 24 24);let⟨A,a4,c4,G4,e4,kA,sA,sA0,ha4,hc4,_⟩:=Hd tz ns (T++.lst (ds.map (DF.u f))::G) a3 c3 f3 ha3 hc3 p3 24;let⟨f5,a5,c5,e5,p5,q5,ha5,hc5⟩:=bC ns (T++.lst (ds.map (DF.u f))::(G++G4)) (m:=left-1-s A+1) ha4 hc4 24 (l9 24 24);let⟨B,a6,c6,G6,e6,kB,sB,sB0,ha6,hc6,_⟩:=Hd tz ns (T++.lst (ds.map (DF.u f))::(G++G4)) a5 c5 f5 ha5 hc5 p5 24;have s2:szF s (ds++[.tr A B])=szF s ds+1+s A+s B:=by rw[qq];simp only[szF];omega
   let⟨ds',ρ,a',c',G',h,kk⟩:=dh ns T (room:=room) (t:=t) (fd:=fd) (fs:=fs) Hs Hd n0 n1 w0 w1 rm us (some u) (some (.int f1)) (some (.int f2)) (some (.tup (A.map f))) (some (.tup (B.map f))) (left-1-s A-s B) (ds++[.tr A B]) (G++(G4++G6)) ha6 hc6 72 (okd hd (show DF.ok n w k (.tr A B)from⟨kA,kB⟩)) 24 (by rw[s2];omega) (by rw[s2];omega);simp only[Zb,ZR,Zm,DF.u]at h;simp only[ZJ,Zu]at e4 e6;exact⟨ds',ρ,a',c',G',(bf trivial rfl (pre.trans (by rwa[jm,e3,e4,e5,e6,Hs A _ kA,Hs B _ kB,hL,hN,hW,hE,hT,fR hlm,ZQ]))).trans h,kk⟩;have hO:(bE||bT)=true:=by cases bE<;>cases bT<;>simp_all
   have hC:∀S':Sto,(cOr (aA (cOp fEq (af 7) (cC (.int 13)))) (aA (cOp fEq (af 3) 48))) [some (.ref 1),some 28,some (.int room),some (.int t),some (.ref (T.length+1+1)),some (.int left),some u,some (.int f1),some (.int f2),r9,r10] S'=some (true,S'):=λS'=>by
    cases bE<;>cases bT<;>first|(exact absurd hO 54)|rwa[hE,hT]
   by_cases hM:1<left;case neg=>
    let⟨ds',ρ,a',c',G',h,kk⟩:=dh ns T (room:=room) (t:=t) (fd:=fd) (fs:=fs) Hs Hd n0 n1 w0 w1 rm us (some u) (some (.int f1)) (some (.int f2)) r9 r10 (left-1) (ds++[.pl .wait]) G ha2 hc2 72 (okd hd (show DF.ok n w k (.pl .wait)from trivial)) 24 (by rw[s1];omega) (by rw[s1];omega);simp only[Zb,ZR,Zm]at h;refine⟨ds',ρ,a',c',G',(bf trivial rfl ?_).trans h,kk⟩;refine pre.trans ?_;rwa[jm,hC,hL,hN,hW,hM,wt,fR hlm,ZQ]
   by_cases hK:(ds.length:Int)<11;case neg=>
    let⟨ds',ρ,a',c',G',h,kk⟩:=dh ns T (room:=room) (t:=t) (fd:=fd) (fs:=fs) Hs Hd n0 n1 w0 w1 rm us (some u) (some (.int f1)) (some (.int f2)) r9 r10 (left-1) (ds++[.pl .wait]) G ha2 hc2 72 (okd hd (show DF.ok n w k (.pl .wait)from trivial)) 24 (by rw[s1];omega) (by rw[s1];omega);simp only[Zb,ZR,Zm]at h;refine⟨ds',ρ,a',c',G',(bf trivial rfl ?_).trans h,kk⟩;refine pre.trans ?_;rwa[jm,hC,hL,hN,hW,hM,hK,wt,fR hlm,ZQ]
   let⟨f3,a3,c3,e3,p3,q3,ha3,hc3⟩:=bC ns (T++.lst (ds.map (DF.u f))::G) (m:=4) ha2 hc2 54 39;by_cases hZ:0<f3;have lp:DF.u f (.pl (.leap f2 1))=U.tup [.str "leap",.int f2,.int 1]:=rfl;have hlm2:(ds.map (DF.u f)++[U.tup [.str "leap",.int f2,.int 1]]).length<LIM:=by unfold LIM;simp;omega
   let⟨ds',ρ,a',c',G',h,kk⟩:=dh ns T (room:=room) (t:=t) (fd:=fd) (fs:=fs) Hs Hd n0 n1 w0 w1 rm us (some u) (some (.int f1)) (some (.int f2)) r9 r10 (left-1-1) (ds++[.pl (.leap f2 1)]++[.pl .wait]) G ha3 hc3 72 (okd (okd hd (show DF.ok n w k (.pl (.leap f2 1))from⟨p2,q2,by omega,by omega⟩)) (show DF.ok n w k (.pl .wait)from trivial)) 24 (by rw[s1,s1];omega) (by rw[s1,s1];omega);simp only[Zb,ZR,Zm]at h;refine⟨ds',ρ,a',c',G',(bf trivial rfl ?_).trans h,kk⟩;refine pre.trans ?_;rwa[jm,hC,e3,hL,hN,hW,hM,hK,hZ,lp,wt,fR hlm,fR hlm2,ZQ];let⟨ds',ρ,a',c',G',h,kk⟩:=dh ns T (room:=room) (t:=t) (fd:=fd) (fs:=fs) Hs Hd n0 n1 w0 w1 rm us (some u) (some (.int f1)) (some (.int f2)) r9 r10 (left-1) (ds++[.pl .wait]) G ha3 hc3 72 (okd hd (show DF.ok n w k (.pl .wait)from trivial)) 24 (by rw[s1];omega) (by rw[s1];omega);simp only[Zb,ZR,Zm]at h;refine⟨ds',ρ,a',c',G',(bf trivial rfl ?_).trans h,kk⟩;refine pre.trans ?_;rwa[jm,hC,e3,hL,hN,hW,hM,hK,hZ,wt,fR hlm,ZQ]
theorem mS{n w t:Int}{fd fs:Fn}(Hs:HsT fs f k s)(Hd:t≠0->HdT n w (t-1) fd f k s)(n0:1<=n)(n1:n<=6)(w0:2<=w)(w1:w<=1000):HdT n w t (xw fd fs) (DF.u f) (λds=>ds.length<=30/\∀d∈ds,DF.ok n w k d) (szF s):=by
 intro ns T a c room ha hc r0 r1;unfold xw;rw[MA];have hm:PY [.int 12,.int room]=λS=>some (.int (if room<12 then room else 12),S):=rfl;have hk:0<=(if room<12 then room else 12)/\(if room<12 then room else 12)<=12:=by split<;>omega
 generalize (if room<12 then room else 12)=mm at hm hk;let⟨f1,a1,c1,e1,p1,q1,ha1,hc1⟩:=bC ns (T++[.lst []]) (m:=mm+1) ha hc 24 (l9 24 24);let⟨ds,ρ,a',c',G,h,k1,k2,k3,k4,k5,k6⟩:=dh ns T (room:=room) (t:=t) (fd:=fd) (fs:=fs) Hs Hd n0 n1 w0 w1 r1 (cE 0 f1.toNat) none none none none none room [] [] ha1 hc1 51 51 r0 (by simp[szF]) (by simp[szF]);refine⟨ds,a',c',.lst (ds.map (DF.u f))::G,?_,⟨by omega,k2⟩,k3,k4,k5,k6,k1⟩;have hr:-(2^62)<=f1/\f1<2^62:=by omega
 simp only[Zm]at h;rwa[gu,ji,gq,hm,e1,hr,h,if_true,and_self]
end
def rQ:Nat->Fn
 |0=>xw (λ_ _=>none) λ_ _=>none
 |j+1=>xw (rQ j) (yp j)
theorem w9{n w:Int}(n0:1<=n)(n1:n<=6)(w0:2<=w)(w1:w<=1000):∀(J j t:Nat),t<=j->j<=J->HdT n w t (rQ J) (Dl.u j) (OkL n w j) (GB j)
 |0,0,0,_,_=>mS (k:=λ_=>False) (λ_ _ z=>z.elim) (λz=>absurd rfl z) n0 n1 w0 w1
 |J+1,0,0,_,_=>mS (k:=λ_=>False) (λ_ _ z=>z.elim) (λz=>absurd rfl z) n0 n1 w0 w1
 |J+1,j+1,0,_,h=>mS (qy J j 24) (λz=>absurd rfl z) n0 n1 w0 w1
 | J+1,j+1,t+1,h,h'=>mS (qy J j 24) (λ_=>by
   have e:((t+1:Nat):Int)-1=(t:Int):=by omega
   rw[e];exact w9 n0 n1 w0 w1 J j t 24 24) n0 n1 w0 w1
def xB{x:U}{S:Sto}:lD x .non S=some (.bl (!qV x),S):=rfl
def wW:qV .non=true:=rfl
def AH{us:List U}:qV (.tup us)=false:=rfl
def Mb{i:Int}:qV (.int i)=false:=rfl
theorem OI{us:List U}{k:Nat}{S:Sto}(h:k<us.length):fSl (.tup us) none (some (k:Int)) S=some (.tup (us.take k),S):=by
 have e:HT.sIx us.length us.length (some (k:Int))=k:=by rw[HT.sIx_nat];omega
 simp only[fSl,HT.sIx_none,e,Fp,List.drop_zero,Nat.sub_zero];rw[Xd 24]
theorem GA{us:List U}{k:Nat}{S:Sto}(h0:0<k)(h:k<=us.length):fSl (.tup us) (some (k:Int)) none S=some (.tup (us.drop k),S):=by
 have e:HT.sIx us.length 0 (some (k:Int))=k:=by rw[HT.sIx_nat];omega
 simp only[fSl,HT.sIx_none,e,Fp];rw[Xd 24,List.take_of_length_le 51]
def xl:Fn:=fnU 3 3 oF
theorem yU{us:List U}{k:Int}{v:U}{S:Sto}(k0:0<=k)(h:k<us.length)(hl:us.length<=50):xl [.tup us,.int k,v] S=some (.tup (us.set k.toNat v),S):=by
 unfold xl;rw[vm];have ek:k=((k.toNat:Nat):Int):=by omega
 have hk:k.toNat<us.length:=by omega
 have e1:k+1=((k.toNat+1:Nat):Int):=by omega
 have a1:fSl (.tup us) none (some k) S=some (.tup (us.take k.toNat),S):=by rw[ek];exact OI hk
 have a2:fSl (.tup us) (some (k+1)) none S=some (.tup (us.drop (k.toNat+1)),S):=by rw[e1];exact GA 24 24
 have b1:eJ (.tup (us.take k.toNat)) (.tup [v]) S=some (.tup (us.take k.toNat++[v]),S):=by
  unfold eJ;simp only;rw[Xe (by simp;unfold LIM;omega)]
 have b2:eJ (.tup (us.take k.toNat++[v])) (.tup (us.drop (k.toNat+1))) S=some (.tup (us.take k.toNat++[v]++us.drop (k.toNat+1)),S):=by
  unfold eJ;simp only;rw[Xe (by simp;unfold LIM;omega)]
 rw[List.set_eq_take_append_cons_drop,Xe hk];rwa[oF,cSl,ym,a1,a2,b1,b2]
def pt(ds:List U)(q:Int)(A B:U):U:=.tup [.tup ds,.int q,A,B]
inductive Onw:Nat->U->U->Prop
 |stop {d:Nat} {ds:List U} {q:Int} {A B:U}:q<ds.length->Onw d (pt ds q A B) (pt ds q A B)
 |top {d:Nat} {ds:List U} {q:Int} {B:U}:Onw d (pt ds q .non B) (pt ds q .non B)
 |up {d:Nat} {ds ds':List U} {q q':Int} {A' B B' y:U}:(ds.length:Int)<=q->Onw d (pt ds' q' A' B') y->Onw (d+1) (pt ds q (pt ds' q' A' B') B) y
def yr:Fn:=fnU 2 1 (oG 100)
theorem Du{F:Nat}{d:Nat}{x y:U}{S:Sto}{r:Option U}(h:Onw d x y):∀(fuel:Nat),d<fuel->
  dA (pY (aA (cOp fGe (cOp fIx (af 1) 46) (cCB e9 (ae (cOp fIx (af 1) 48) aq)))) (aA (cOp lD (cOp fIx (af 1) 71) (cC .non)))) (jU F) fuel [r,some x] S=some (.nx,[r,some y],S):=by
 induction h with
 |@stop d ds q A B h=>
  intro fuel hf;obtain⟨f,rfl⟩:∃f,fuel=f+1:=⟨fuel-1,by omega⟩;have c:¬(ds.length:Int)<=q:=by omega
  refine jY ?_;unfold pt;rwa[c]
 |@top d ds q B=>
  intro fuel hf;obtain⟨f,rfl⟩:∃f,fuel=f+1:=⟨fuel-1,by omega⟩;refine jY ?_;unfold pt;by_cases c:(ds.length:Int)<=q;rwa[c,xB,wW];rwa[c]
 |@up d ds ds' q q' A' B B' y h _ ih=>
  intro fuel hf;obtain⟨f,rfl⟩:∃f,fuel=f+1:=⟨fuel-1,by omega⟩;refine(qh (ρ1:=[r,some (pt ds' q' A' B')]) (S1:=S) (S0:=S) ?_ ?_).trans (ih f 24);unfold pt;rwa[h,xB,AH];unfold pt;rwa[jU]
theorem wF{d:Nat}{x y:U}{S:Sto}(h:Onw d x y)(hd:d<100):yr [x] S=some (y,S):=by
 unfold yr;rw[A8];rwa[oG,Du h 100 hd]
def vk(n:Nat)(ps:List (Int×Int)):List U:=(Zp n).map λb:Nat=>((cg ps (b:Int)).map U.int).getD .non
def kK{n:Nat}{ps:List (Int×Int)}:(vk n ps).length=n:=by simp[vk]
theorem A6{n:Nat}{ps:List (Int×Int)}{b:Int}(b0:0<=b)(b1:b<n):atI (vk n ps) b=some (((cg ps b).map U.int).getD .non):=by
 refine p8 b0 ?_;unfold vk;rw[Zz,Xk 24];have:((b.toNat:Nat):Int)=b:=by omega
 simp[this]
theorem D5{n:Nat}{ps:List (Int×Int)}{b v:Int}(b0:0<=b)(b1:b<n):(vk n ps).set b.toNat (.int v)=vk n (gY ps b v):=by
 refine Zs λi=>?_;by_cases hi:i<n;rw[List.getElem?_set,kK];unfold vk;rw[Zz,Zz,Xk hi];simp only[XU,uy];by_cases e:b.toNat=i;have:(i:Int)=b:=by omega
 rw[Xe e,Xe 24,this,Xe rfl];rfl;rw[Xd e,Xd 24];rw[Zd (by rw[XO,kK];omega),Zd (by rw[kK];omega)]
theorem D6{n:Nat}:vk n []=ZO n .non:=by
 unfold vk;refine Zs λi=>?_;by_cases hi:i<n;rw[Zz,Xk hi,XB,Xe hi];rfl;rw[Zd 72,Zd 72]
def dO(cD:Cl)(w:Int)(n:Nat)(m:M)(x:U):O:=.ins cD [some (.int w),some (.tup (m.hs.map U.int)),some (.tup (vk n m.ps)),some x]
structure Cf(cD:Cl)(w:Int)(n i ll:Nat)(m:M)(x:U)(S:Sto):Prop where
 ei:S[i]?=some (dO cD w n m x)
 el:S[ll]?=some (.dic (yk m.lk))
structure Kp(ls:List Nat)(S S':Sto):Prop where
 len:S'.length=S.length
 old:∀l,l∉ls->S'[l]?=S[l]?
def Kp.refl{ls:List Nat}{S:Sto}:Kp ls S S:=⟨rfl,λ_ _=>rfl⟩
theorem Kp.set{ls:List Nat}{S:Sto}{l:Nat}{o:O}(h:l∈ls):Kp ls S (S.set l o):=⟨by simp,λk hk=>by rw[ZZ (λz=>hk (by subst z;exact h))]⟩
theorem Kp.trans{ls:List Nat}{S S' S'':Sto}(a:Kp ls S S')(b:Kp ls S' S''):Kp ls S S'':=⟨b.len.trans a.len,λl hn=>by rw[b.old l hn,a.old l hn]⟩
variable{cD:Cl}{x A B:U}{ds:List U}{q:Int}
section
variable{n:Nat}{m:M}
def Cf.ne(h:Cf cD w n i ll m x S):i≠ll:=λz=>by have a:=h.ei;have b:=h.el;rw[z,b]at a;cases a
theorem Cf.setI(h:Cf cD w n i ll m x S)(hs:List Int)(ps:List (Int×Int))(y:U):Cf cD w n i ll ⟨hs,ps,m.lk⟩ y (S.set i (dO cD w n ⟨hs,ps,m.lk⟩ y)):=
 ⟨ZE (a9 h.ei),by rw[ZZ h.ne];exact h.el⟩
theorem Cf.setL(h:Cf cD w n i ll m x S)(lk:List Int):Cf cD w n i ll ⟨m.hs,m.ps,lk⟩ x (S.set ll (.dic (yk lk))):=
 ⟨by rw[ZZ (Ne.symm h.ne)];exact h.ei,ZE (a9 h.el)⟩
def jt(cD:Cl):Fn:=fnU 1 1 (fX cD)
theorem iT{u:U}(h:Cf cD w n i ll m (pt ds q A B) S)(q0:0<=q)(hu:ds[q.toNat]?=some u):jt cD [.ref i] S=some (u,S):=by
 unfold jt;rw[Ea];have hl:=a9 hu;have c:¬(ds.length:Int)<=q:=by omega
 have ha:atI ds q=some u:=p8 q0 hu;have e:=h.ei;unfold dO pt at e;rwa[fX,e,c,ha]
theorem Ed(h:Cf cD w n i ll m (pt ds q A B) S)(hq:(ds.length:Int)<=q):jt cD [.ref i] S=some (.non,S):=by
 unfold jt;rw[Ea];have e:=h.ei;unfold dO pt at e;rwa[fX,e,hq]
def xq(cD:Cl):Fn:=fnU 3 3 (iY xl cD)
theorem qY{k v:Int}(h:Cf cD w n i ll m x S)(h4:m.hs.length=4)(k0:0<=k)(k1:k<4):xq cD [.ref i,.int k,.int v] S=some (.non,S.set i (dO cD w n ⟨m.hs.set k.toNat v,m.ps,m.lk⟩ x)):=by
 unfold xq;rw[vm];have e:=h.ei;unfold dO at e ⊢;have hw:=yU (us:=m.hs.map U.int) (v:=.int v) (S:=S) k0 72 72;rw[map_set]at hw;rwa[iY,e,hw]
def Nk(cD:Cl):Fn:=fnU 3 2 (dN cD)
theorem Ll{k:Int}(h:Cf cD w n i ll m (pt ds q A B) S):Nk cD [.ref i,.int k] S=some (pt ds (q+1+k) A B,S):=by
 unfold Nk;rw[P4];have e:=h.ei;unfold dO pt at e;unfold pt;rwa[dN,e]
def Nl(cD:Cl):Fn:=fnU 2 2 (eM yr (Nk cD) cD)
theorem yg{k:Int}{d:Nat}{y:U}(h:Cf cD w n i ll m (pt ds q A B) S)(ho:Onw d (pt ds (q+1+k) A B) y)(hd:d<100):Nl cD [.ref i,.int k] S=some (.non,S.set i (dO cD w n m y)):=by
 unfold Nl;rw[D9];have e:=h.ei;have ep:=Ll (k:=k) h;have eo:=wF (S:=S) ho hd;unfold dO at e ⊢;rwa[eM,e,ep,eo]
def xt(cD:Cl):Fn:=fnU 2 2 (iZ (xq cD) (jt cD) (Nl cD) cD)
theorem Ib{g b v:Int}{d:Nat}{y:U}(h:Cf cD w n i ll m (pt ds q A B) S)(h4:m.hs.length=4)(q0:0<=q)(hu:ds[q.toNat]?=some (eZ.u (.look g b)))(g0:0<=g)(g1:g<4)(ho:Onw d (pt ds (q+1+0) A B) y)(hd:d<100) :
  xt cD [.ref i,.int v] S=some (.non,S.set i (dO cD w n ⟨m.hs.set g.toNat v,m.ps,m.lk⟩ y)):=by
 unfold xt;rw[D9];have e:=h.ei;have ed:=iT h q0 hu;have eh:=qY (v:=v) h h4 g0 g1;have h2:=h.setI (m.hs.set g.toNat v) m.ps (pt ds q A B);have e2:=h2.ei;have eg:=yg h2 ho hd;unfold dO at e e2 eh eg ⊢;rw[XG]at eg;unfold eZ.u at ed;rwa[iZ,e,ed,eh,e2,eg]
def qd(cD:Cl):Fn:=fnU 2 1 (dj cD)
theorem BA(h:Cf cD w n i ll m (pt ds q A .non) S):qd cD [.ref i] S=some (.bl false,S):=by
 unfold qd;rw[A8];have e:=h.ei;unfold dO pt at e;rwa[dj,e,FQ,wW]
def bk(n:Nat)(hs:List Int)(ps:List (Int×Int))(y:U):U:=.tup [.tup (hs.map U.int),.tup (vk n ps),y]
theorem Bz{hs:List Int}{ps:List (Int×Int)}{y:U}(h:Cf cD w n i ll m (pt ds q A (bk n hs ps y)) S):qd cD [.ref i] S=some (.bl true,S.set i (dO cD w n ⟨hs,ps,m.lk⟩ y)):=by
 unfold qd;rw[A8];have l:=a9 h.ei;have e:=h.ei;unfold dO pt bk at e;unfold dO;have g:∀o:O,(S.set i o)[i]?=some o:=λo=>ZE l;rwa[dj,e,FQ,AH,g,XG]
def vK(cD:Cl):Fn:=fnU 5 3 (eO yr (Nk cD) cD)
theorem D4{a b:List U}{d d':Nat}{y z:U}(h:Cf cD w n i ll m (pt ds q A B) S)(ho:Onw d (pt b 0 (pt ds (q+1+0) A B) B) z)(hd:d<100)
  (ho':Onw d' (pt a 0 (pt ds (q+1+0) A B) (bk n m.hs m.ps z)) y) (hd':d'<100):vK cD [.ref i,.tup a,.tup b] S=some (.non,S.set i (dO cD w n m y)):=by
 unfold vK;rw[P2];have e:=h.ei;have ep:=Ll (k:=0) h;have e1:=wF (S:=S) ho hd;have e2:=wF (S:=S) ho' hd';unfold dO at e ⊢;unfold pt at ep e1 e2 e;unfold bk at e2;rwa[eO,e,ep,e1,e2]
end
def lv(m:M):eZ->Int
 |.leap h k=>if m.hs.getD h.toNat 0=0 then k else 0
 |_=>0
variable{F:Nat}
section
variable{m:M}{r3:Option U}
def mB(cD:Cl):Fn:=fnU 2 1 (fY (jt cD) cD)
theorem rJ{x:Str}{r:List U}(h:95)(q0:0<=q)(hu:ds[q.toNat]?=some (.tup (.str x::r)))(hx:decide (x=("look":Str))=false):mB cD [.ref i] S=some (.bl false,S):=by
 unfold mB;rw[A8];have e:=h.ei;have ed:=iT h q0 hu;unfold dO at e;rwa[fY,e,ed,hx]
theorem BD{g b:Int}(h:95)(q0:0<=q)(hu:ds[q.toNat]?=some (eZ.u (.look g b)))(b0:0<=b)(b1:b<n):mB cD [.ref i] S=some (.bl (!(cg m.ps b).isSome),S):=by
 unfold mB;rw[A8];have e:=h.ei;have ed:=iT h q0 hu;have ea:=A6 (n:=n.toNat) (ps:=m.ps) b0 24;have ei:qV (((cg m.ps b).map U.int).getD .non)=!(cg m.ps b).isSome:=by cases cg m.ps b<;>rfl
 unfold dO at e;unfold eZ.u at ed;rwa[fY,e,ed,ea,FQ,ei,SNX]
def Fx(cD:Cl):Fn:=fnU 4 1 (aZ xl (jt cD) (qd cD) (vK cD) (xq cD) (Nl cD) cD)
theorem Bb(h:95)(q0:0<=q)(hu:ds[q.toNat]?=some (eZ.u .wait)){r:U×Sto}(hb:qd cD [.ref i] S=some r):Fx cD [.ref i] S=some r:=by
 unfold Fx;rw[Iy];have e:=h.ei;have ed:=iT h q0 hu;unfold dO at e;unfold eZ.u at ed;let⟨u,S'⟩:=r;rwa[aZ,e,ed,hb,SNX]
theorem MB{a b:List U}{d d':Nat}{y z:U}(h:95)(q0:0<=q)(hu:ds[q.toNat]?=some (.tup [.str "try",.tup a,.tup b]))(ho:Onw d (pt b 0 (pt ds (q+1+0) A B) B) z)(hd:d<100)
  (ho':Onw d' (pt a 0 (pt ds (q+1+0) A B) (bk n.toNat m.hs m.ps z)) y) (hd':d'<100):Fx cD [.ref i] S=some (.bl true,S.set i (dO cD w n.toNat m y)):=by
 unfold Fx;rw[Iy];have e:=h.ei;have ed:=iT h q0 hu;have en:=D4 h ho hd ho' hd';unfold dO at e en ⊢;rwa[aZ,e,ed,en,SNX]
theorem Eb{d:eZ}{dd:Nat}{y:U}(nw:d≠.wait)(h:95)(wf:Wf n m)(w0:2<=w)(n1:n<=6)(od:d.ok n w)(q0:0<=q)(hu:ds[q.toNat]?=some d.u)(ha:∀g b,d=.look g b->(cg m.ps b).isSome=true)(ho:Onw dd (pt ds (q+1+lv m d) A B) y)(hd:dd<100) :
  Fx cD [.ref i] S=some (.bl true,S.set i (dO cD w n.toNat (step w first m d) y)):=by
 unfold Fx;rw[Iy];have e:=h.ei;have ed:=iT h q0 hu;have h4:=wf.h4;cases d with
 |wait=>exact absurd rfl nw
 |look g b=>
  let⟨g0,g1,b0,b1⟩:=od;let⟨v,hv⟩:=Option.isSome_iff_exists.mp (ha g b rfl);have ea:=A6 (n:=n.toNat) (ps:=m.ps) b0 24;rw[hv,XU,X9]at ea;have eh:=qY (v:=v) h h4 g0 g1;have h2:=h.setI (m.hs.set g.toNat v) m.ps (pt ds q A B);have e2:=h2.ei;have eg:=yg h2 ho hd;unfold dO at e e2 eh eg ⊢;rw[XG]at eg;unfold eZ.u at ed;simp only[step,qT,hv,X9,Option.isSome_some,if_true];simp only[lv]at eg;rwa[aZ,e,ed,ea,eh,e2,eg,SNX]
 |put b g=>
  let⟨g0,g1,b0,b1⟩:=od;have hw:=yU (us:=vk n.toNat m.ps) (v:=.int (m.hs.getD g.toNat 0)) (S:=S) b0 (by rw[kK];omega) (by rw[kK];omega);rw[D5 b0 24]at hw;have h2:=h.setI m.hs (gY m.ps b (m.hs.getD g.toNat 0)) (pt ds q A B);have e2:=h2.ei;have eg:=yg h2 ho hd;unfold dO at e e2 eg ⊢;rw[XG]at eg;unfold eZ.u at ed;simp only[lv]at eg;simp only[step];rwa[aZ,e,ed,at4 h4 g0 g1,hw,e2,eg,SNX]
 |set g v=>
  let⟨g0,g1,b0,b1⟩:=od;have eh:=qY (v:=v) h h4 g0 g1;have h2:=h.setI (m.hs.set g.toNat v) m.ps (pt ds q A B);have e2:=h2.ei;have eg:=yg h2 ho hd;unfold dO at e e2 eh eg ⊢;rw[XG]at eg;unfold eZ.u at ed;simp only[lv]at eg;simp only[step];rwa[aZ,e,ed,eh,e2,eg,SNX]
 |plus g k=>
  let⟨g0,g1,b0,b1⟩:=od;have eh:=qY (v:=(m.hs.getD g.toNat 0+m.hs.getD k.toNat 0) % w) h h4 g0 g1;have h2:=h.setI (m.hs.set g.toNat ((m.hs.getD g.toNat 0+m.hs.getD k.toNat 0) % w)) m.ps (pt ds q A B);have e2:=h2.ei;have eg:=yg h2 ho hd;unfold dO at e e2 eh eg ⊢;rw[XG]at eg;unfold eZ.u at ed;simp only[lv]at eg;simp only[step];rwa[aZ,e,ed,at4 h4 g0 g1,at4 h4 b0 b1,rY (show 0<w by omega),eh,e2,eg,SNX]
 |leap g k=>
  let⟨g0,g1,b0,b1⟩:=od;have eg:=yg h ho hd;unfold dO at e eg ⊢;unfold eZ.u at ed;simp only[step];simp only[lv]at eg;by_cases z:m.hs.getD g.toNat 0=0;rw[Xe z]at eg;rwa[aZ,e,ed,at4 h4 g0 g1,z,eg,SNX];rw[Xd z]at eg;rwa[aZ,e,ed,at4 h4 g0 g1,z,eg,SNX]
abbrev bG(cD:Cl)(F:Nat):CS:=bD (jt cD) (mB cD) (xt cD) (Fx cD) cD F
def J8(d:eZ):∃x r,d.u=.tup (.str x::r):=by cases d<;>exact⟨_,_,rfl⟩
theorem wN{d:eZ}{dd:Nat}{y:U}(nw:d≠.wait)(h:95)(wf:Wf n m)(lf:first.length=n.toNat)(w0:2<=w)(n0:0<=n)(n1:n<=6)(od:d.ok n w)(q0:0<=q)(hu:ds[q.toNat]?=some d.u)(ho:Onw dd (pt ds (q+1+lv m d) A B) y)(hd:dd<100) :
  ∃r3' S',bG cD F 66 S=some (.nx,[some (.ref i),some (.tup 82),some (.ref ll),r3'],S')/\Cf cD w n.toNat i ll (step w first m d) y S'/\Kp [i,ll] S S':=by
 have e:=h.ei;have go:(∀g b,d=.look g b->(cg m.ps b).isSome=true)->mB cD [.ref i] S=some (.bl false,S)->(step w first m d).lk=m.lk->∃r3' S',bG cD F 66 S=some (.nx,[some (.ref i),some (.tup 82),some (.ref ll),r3'],S')/\Cf cD w n.toNat i ll (step w first m d) y S'/\Kp [i,ll] S S':=by
  intro ha hk hl;have ed:=Eb (first:=first) nw h wf w0 n1 od q0 hu ha ho hd;refine⟨r3,_,?_,⟨ZE (a9 h.ei),by rw[ZZ h.ne,hl];exact h.el⟩,.set 51⟩;unfold dO at e;rwa[bG,bD,e,hk,ed]
 have other:∀x r,d.u=.tup (.str x::r)->decide (x=("look":Str))=false->mB cD [.ref i] S=some (.bl false,S):=λx r e1 e2=>rJ h q0 (by rw[hu,e1]) e2;cases d with
 |wait=>exact absurd rfl nw
 |put b g=>exact go (by intro _ _ z;cases z) (other _ _ rfl 39) rfl
 |set b g=>exact go (by intro _ _ z;cases z) (other _ _ rfl 39) rfl
 |plus b g=>exact go (by intro _ _ z;cases z) (other _ _ rfl 39) rfl
 |leap b g=>exact go (by intro _ _ z;cases z) (other _ _ rfl 39) rfl
 |look g b=>
  let⟨g0,g1,b0,b1⟩:=id od;have hk:=BD h q0 hu b0 b1;cases hv:cg m.ps b with
  |some v=>
   rw[hv]at hk;exact go (by intro _ _ z;cases z;rw[hv];rfl) hk (by simp[step,hv])
  |none=>
   rw[hv]at hk;have h2:=h.setL (vG m.lk b);have ed:=iT h q0 hu;have eh:=Ib (v:=first.getD b.toNat 0) h2 wf.h4 q0 hu g0 g1 ho hd;have h3:=h2.setI (m.hs.set g.toNat (first.getD b.toNat 0)) m.ps y;have e2:=h2.ei;have es:step w first m (.look g b)=⟨m.hs.set g.toNat (first.getD b.toNat 0),m.ps,vG m.lk b⟩:=by simp[step,qT,hv]
   rw[es];refine⟨some (.int b),_,?_,h3,(Kp.set 51).trans (.set 51)⟩;have fl:(yk m.lk).length<LIM:=by have:=(wf.few n0 n1).2;unfold yk LIM;simp;omega
   unfold dO at e e2;unfold eZ.u at ed;simp only[Option.isSome_none]at hk;rwa[bG,bD,e,hk,ed,h.el,C2,fl,if_true,e2,atF lf b0 b1,eh]
theorem Fb{a b:List U}{d d':Nat}{y z:U}(h:95)(q0:0<=q)(hu:ds[q.toNat]?=some (.tup [.str "try",.tup a,.tup b]))(ho:Onw d (pt b 0 (pt ds (q+1+0) A B) B) z)(hd:d<100)
  (ho':Onw d' (pt a 0 (pt ds (q+1+0) A B) (bk n.toNat m.hs m.ps z)) y) (hd':d'<100) :
  ∃S',bG cD F 66 S=some (.nx,66,S')/\Cf cD w n.toNat i ll m y S'/\Kp [i,ll] S S':=by
 have e:=h.ei;have hk:=rJ h q0 hu 39;have ed:=MB h q0 hu ho hd ho' hd';refine⟨_,?_,h.setI m.hs m.ps y,.set 51⟩;unfold dO at e;rwa[bG,bD,e,hk,ed]
theorem AB{hs:List Int}{ps:List (Int×Int)}{y:U}(h:Cf cD w n.toNat i ll m (pt ds q A (bk n.toNat hs ps y)) S)(q0:0<=q)(hu:ds[q.toNat]?=some (eZ.u .wait)) :
  ∃S',bG cD F 66 S=some (.nx,66,S')/\Cf cD w n.toNat i ll ⟨hs,ps,m.lk⟩ y S'/\Kp [i,ll] S S':=by
 have e:=h.ei;have hk:=rJ h q0 hu 39;have ed:=Bb h q0 hu (Bz h);refine⟨_,?_,h.setI hs ps y,.set 51⟩;unfold dO at e;rwa[bG,bD,e,hk,ed]
theorem HX(h:Cf cD w n.toNat i ll m (pt ds q A .non) S)(q0:0<=q)(hu:ds[q.toNat]?=some (eZ.u .wait)) :
  bG cD F 66 S=some (.rt (.bl false),66,S):=by
 have e:=h.ei;have hk:=rJ h q0 hu 39;have ed:=Bb h q0 hu (BA h);unfold dO at e;rwa[bG,bD,e,hk,ed]
end
def OnA(dep:Nat)(ds:List U)(A B:U):Prop:=∀p:Int,(ds.length:Int)<=p->∃y,Onw dep (pt ds p A B) y
theorem OnA.any{dep:Nat}{ds:List U}{A B:U}(h:OnA dep ds A B)(p:Int):∃y,Onw dep (pt ds p A B) y:=by
 by_cases c:p<ds.length;exact⟨_,.stop c⟩;exact h p 24
def OnA.top{dep:Nat}{ds:List U}{B:U}:OnA dep ds .non B:=λp _=>⟨_,.top⟩
theorem OnA.up{dep:Nat}{ds ds':List U}{q':Int}{A' B B' y:U}(h:Onw dep (pt ds' q' A' B') y):OnA (dep+1) ds (pt ds' q' A' B') B:=λp hp=>⟨y,.up hp h⟩
theorem Onw.here{dep:Nat}{ds:List U}{q:Int}{A B x:U}(h:Onw dep (pt ds q A B) x)(c:q<ds.length):x=pt ds q A B:=by
 generalize e:pt ds q A B=z at h;cases h with
 |stop _=>rfl
 |top=>rfl
 |up h' _=>
  unfold pt at e;injection e with e;injection e with e1 e2;injection e1 with e1;injection e2 with e2 _;injection e2 with e2;subst e1 e2;omega
theorem Onw.upInv{dep:Nat}{ds ds':List U}{q q':Int}{A' B B' x:U}(h:Onw (dep+1) (pt ds q (pt ds' q' A' B') B) x)(c:(ds.length:Int)<=q):Onw dep (pt ds' q' A' B') x:=by
 generalize e:pt ds q (pt ds' q' A' B') B=z at h;generalize e0:dep+1=k at h;cases h with
 |stop h'=>
  unfold pt at e;injection e with e;injection e with e1 e2;injection e1 with e1;injection e2 with e2 _;injection e2 with e2;subst e1 e2;omega
 |top=>
  unfold pt at e;injection e with e;injection e with _ e;injection e with _ e;injection e with e _;cases e
 |up h' h2=>
  unfold pt at e;injection e with e;injection e with _ e;injection e with _ e;injection e with e _;injection e with e;injection e with e1 e;injection e1 with e1;injection e with e2 e;injection e2 with e2;injection e with e3 e;injection e with e4 _;subst e1 e2 e3 e4;cases e0;exact h2
section
abbrev tG(cD:Cl):CT:=aA (cOp lD (eY cD (jt cD) (af 0) aq) (cC .non))
theorem qk{m:M}{ds us:List U}{q:Int}{A B:U}{S:Sto}{ρ:Rho}(h:95)(q0:0<=q)(hu:ds[q.toNat]?=some (.tup us)):tG cD (some (.ref i)::ρ) S=some (true,S):=by
 have e:=h.ei;have ed:=iT h q0 hu;unfold dO at e;rwa[tG,e,ed,xB,AH]
theorem CJ{m:M}{ds:List U}{q:Int}{A B:U}{S:Sto}{ρ:Rho}(h:95)(hq:(ds.length:Int)<=q):tG cD (some (.ref i)::ρ) S=some (false,S):=by
 have e:=h.ei;have ed:=Ed h hq;unfold dO at e;rwa[tG,e,ed,xB,wW]
abbrev Mt(first:List Int)(i ll:Nat)(r3:Option U):Rho:=[some (.ref i),some (.tup 82),some (.ref ll),r3]
def Rch(cD:Cl)(F:Nat)(first:List Int)(i ll s:Nat)(S S':Sto):Prop:=∀r3,∃r3',∀fuel,dA (tG cD) (bG cD F) (fuel+s) (Mt first i ll r3) S=dA (tG cD) (bG cD F) fuel (Mt first i ll r3') S'
def Rch.refl{S:Sto}:Rch cD F first i ll 0 S S:=λr3=>⟨r3,λ_=>rfl⟩
theorem Rch.trans{s t:Nat}{S S' S'':Sto}(a:Rch cD F first i ll s S S')(b:Rch cD F first i ll t S' S''):Rch cD F first i ll (s+t) S S'':=λr3=>by
 let⟨r4,ha⟩:=a r3;let⟨r5,hb⟩:=b r4;exact⟨r5,λfuel=>by rw[show fuel+(s+t)=fuel+t+s by omega,ha,hb]⟩
theorem Rch.one{S S':Sto}(ht:∀r3,tG cD (Mt first i ll r3) S=some (true,S))(h:∀r3,∃r3',bG cD F (Mt first i ll r3) S=some (.nx,Mt first i ll r3',S')):Rch cD F first i ll 1 S S':=λr3=>by
 let⟨r4,h⟩:=h r3;exact⟨r4,λfuel=>qh (ht r3) h⟩
def AtW(B x:U):Prop:=∃ds q A,x=pt ds q A B/\0<=q/\ds[q.toNat]?=some (eZ.u .wait)
def Qj(dep:Nat)(ds:List U)(A B x:U):Bool->Prop
 |true=>∃p:Int,(ds.length:Int)<=p/\Onw dep (pt ds p A B) x
 |false=>AtW B x
def HrT{α:Type}(cD:Cl)(F:Nat)(w n:Int)(first:List Int)(i ll D c:Nat)(rn:List α->M->Bool×M)(f:α->U)(k:List α->Prop):Prop:=
 ∀(a:List α) (m:M) (dep:Nat) (A B x:U) (S:Sto),k a->Wf n m->dep<=D->OnA dep (a.map f) A B->Onw dep (pt (a.map f) 0 A B) x->Cf cD w n.toNat i ll m x S->
  Wf n (rn a m).2/\∃s x' S',s<=c/\Cf cD w n.toNat i ll (rn a m).2 x' S'/\Kp [i,ll] S S'/\Rch cD F first i ll s S S'/\Qj dep (a.map f) A B x' (rn a m).1
variable{rn:List α->M->Bool×M}{f:α->U}{k:List α->Prop}{D c:Nat}
theorem CU(Hr:HrT cD F w n first i ll (D+1) c rn f k)(hD:D<=90)(lf:first.length=n.toNat)(w0:2<=w)(n0:0<=n)(n1:n<=6)(all:List (DF α))(oa:∀d∈all,d.ok n w k){dep:Nat}{A B:U}(Sh:dep<=D)(hA:OnA dep (all.map (DF.u f)) A B) :
  ∀(N place:Nat) (m:M) (x:U) (S:Sto),all.length-place<=N->Wf n m->Onw dep (pt (all.map (DF.u f)) place A B) x->Cf cD w n.toNat i ll m x S->
  Wf n (dz w first rn (all.drop place) 0 m).2/\∃s x' S',s<=N*(2*c+2)/\Cf cD w n.toNat i ll (dz w first rn (all.drop place) 0 m).2 x' S'/\Kp [i,ll] S S'/\Rch cD F first i ll s S S'/\Qj dep (all.map (DF.u f)) A B x' (dz w first rn (all.drop place) 0 m).1:=by
 intro N;induction N with
 |zero=>
  intro place m x S hN wf ho h;rw[List.drop_eq_nil_of_le 24,dz];exact⟨wf,0,x,S,X5 _,h,.refl,.refl,(place:Int),by simp;omega,ho⟩
 |succ N ih=>
  intro place m x S hN wf ho h;by_cases cl:place<all.length;case neg=>
   rw[List.drop_eq_nil_of_le 24,dz];exact⟨wf,0,x,S,X5 _,h,.refl,.refl,(place:Int),by simp;omega,ho⟩
  have hd:=ZK cl;have od:=oa _ (XT cl);generalize all[place]=d at hd od;rw[kL hd];have hx:=ho.here 72;subst hx;have hu:(all.map (DF.u f))[(place:Int).toNat]?=some (d.u f):=by rw[XQ,Zz,hd];rfl
  have q0:(0:Int)<=place:=by omega
  have c2:(N+1)*(2*c+2)=N*(2*c+2)+(2*c+2):=by rw[Nat.succ_mul]
  have goon:∀(p:Nat) (m':M) (x':U) (s1:Nat) (S1:Sto),place<p->Wf n m'->Onw dep (pt (all.map (DF.u f)) p A B) x'->Cf cD w n.toNat i ll m' x' S1->Kp [i,ll] S S1->s1<=2*c+2->Rch cD F first i ll s1 S S1->
    Wf n (dz w first rn (all.drop p) 0 m').2/\∃s x' S',s<=(N+1)*(2*c+2)/\Cf cD w n.toNat i ll (dz w first rn (all.drop p) 0 m').2 x' S'/\Kp [i,ll] S S'/\Rch cD F first i ll s S S'/\Qj dep (all.map (DF.u f)) A B x' (dz w first rn (all.drop p) 0 m').1:=by
   intro p m' x' s1 S1 hp wf1 ho1 h1 k1 l1 r1;let⟨wf2,s2,x2,S2,l2,h2,k2,r2,e2⟩:=ih p m' x' S1 24 wf1 ho1 h1;exact⟨wf2,s1+s2,x2,S2,by omega,h2,k1.trans k2,r1.trans r2,e2⟩
  cases d with
  |pl d=>
   by_cases dw:d=.wait;subst dw;rw[dz];exact⟨wf,0,_,S,X5 _,h,.refl,.refl,_,_,_,rfl,q0,hu⟩
   ·have lv0:0<=lv m d:=by
     cases d<;>simp only[lv]<;>try exact Int.le_refl _
     let⟨_,_,b,_⟩:=od;split<;>omega
    let⟨y,hy⟩:=hA.any ((place:Int)+1+lv m d);have e1:(place:Int)+1+lv m d=((place+1+(lv m d).toNat:Nat):Int):=by omega
    have one:∃S1,Rch cD F first i ll 1 S S1/\Cf cD w n.toNat i ll (step w first m d) y S1/\Kp [i,ll] S S1:=by
     let⟨_,S1,e0,h1,k1⟩:=wN (F:=F) (r3:=none) dw h wf lf w0 n0 n1 od q0 hu hy 24;refine⟨S1,.one (λr3=>?_) (λr3=>?_),h1,k1⟩;let⟨x0,r0,ex⟩:=J8 d;exact qk h q0 (by rw[hu];simp only[DF.u];rw[ex]);let⟨r4,S2,e2,h2,k2⟩:=wN (F:=F) (r3:=r3) dw h wf lf w0 n0 n1 od q0 hu hy 24;have es:S2=S1:=by
      refine Zs λl=>?_;by_cases z1:l=i;subst z1;rw[h2.ei,h1.ei];by_cases z2:l=ll;subst z2;rw[h2.el,h1.el];rw[k2.old l (by simp[z1,z2]),k1.old l (by simp[z1,z2])]
     exact⟨r4,by rw[e2,es]⟩
    let⟨S1,r1,h1,k1⟩:=one;have er:dz w first rn (.pl d::all.drop (place+1)) 0 m=dz w first rn (all.drop (place+1+(lv m d).toNat)) 0 (step w first m d):=by
     cases d with
     |wait=>exact absurd rfl dw
     |leap g j=>
      rw[dz,sM,List.drop_drop];simp only[lv,step];split<;>simp
     |look g b=>rw[dz];simp[lv]
     |put g b=>rw[dz];simp[lv]
     |set g b=>rw[dz];simp[lv]
     |plus g b=>rw[dz];simp[lv]
    rw[er];rw[e1]at hy;exact goon _ _ y 1 S1 24 (zj wf od) hy h1 k1 24 r1
  |tr a b=>
   let⟨ka,kb⟩:=od;simp only[DF.u]at hu;let⟨yb,hyb⟩:=hA.any ((place:Int)+1+0);have onb:∀(ds:List U) (B':U),OnA (dep+1) ds (pt (all.map (DF.u f)) ((place:Int)+1+0) A B) B':=λds B'=>.up hyb;let⟨z,hz⟩:=(onb (b.map f) B).any 0;let⟨y,hy⟩:=(onb (a.map f) (bk n.toNat m.hs m.ps z)).any 0;have e1:(place:Int)+1+0=((place+1:Nat):Int):=by omega
   have one:∃S1,Rch cD F first i ll 1 S S1/\Cf cD w n.toNat i ll m y S1/\Kp [i,ll] S S1:=by
    let⟨S1,e0,h1,k1⟩:=Fb (F:=F) (first:=first) (r3:=none) h q0 hu hz 24 hy 24;refine⟨S1,.one (λr3=>qk h q0 hu) (λr3=>?_),h1,k1⟩;let⟨S2,e2,h2,k2⟩:=Fb (F:=F) (first:=first) (r3:=r3) h q0 hu hz 24 hy 24;have es:S2=S1:=by
     refine Zs λl=>?_;by_cases z1:l=i;subst z1;rw[h2.ei,h1.ei];by_cases z2:l=ll;subst z2;rw[h2.el,h1.el];rw[k2.old l (by simp[z1,z2]),k1.old l (by simp[z1,z2])]
    exact⟨r3,by rw[e2,es]⟩
   let⟨S1,r1,h1,k1⟩:=one;let⟨wf2,s2,x2,S2,l2,h2,k2,r2,e2⟩:=Hr a m (dep+1) _ _ y S1 ka wf 24 (onb _ _) hy h1;rw[dz];unfold I0;cases er:rn a m with
   |mk t m'=>
    rw[er]at wf2 h2 e2;cases t with
    |true=>
     let⟨p,hp,hp2⟩:=e2;have:=hp2.upInv hp;rw[e1]at this;exact goon (place+1) m' x2 (1+s2) S2 24 wf2 this h2 (k1.trans k2) 24 (r1.trans r2)
    |false=>
     let⟨ds',q',A',rfl,q0',hw⟩:=e2;have back:∃S3,Rch cD F first i ll 1 S2 S3/\Cf cD w n.toNat i ll ⟨m.hs,m.ps,m'.lk⟩ z S3/\Kp [i,ll] S2 S3:=by
      let⟨S3,e0,h3,k3⟩:=AB (F:=F) (first:=first) (r3:=none) h2 q0' hw;refine⟨S3,.one (λr3=>qk h2 q0' hw) (λr3=>?_),h3,k3⟩;let⟨S4,e4,h4,k4⟩:=AB (F:=F) (first:=first) (r3:=r3) h2 q0' hw;have es:S4=S3:=by
       refine Zs λl=>?_;by_cases z1:l=i;subst z1;rw[h4.ei,h3.ei];by_cases z2:l=ll;subst z2;rw[h4.el,h3.el];rw[k4.old l (by simp[z1,z2]),k3.old l (by simp[z1,z2])]
      exact⟨r3,by rw[e4,es]⟩
     let⟨S3,r3,h3,k3⟩:=back;let⟨wf4,s4,x4,S4,l4,h4,k4,r4,e4⟩:=Hr b ⟨m.hs,m.ps,m'.lk⟩ (dep+1) _ _ z S3 kb ⟨wf.h4,wf.pk,wf.pb,wf2.lk,wf2.lb⟩ 24 (onb _ _) hz h3;have kk:=((k1.trans k2).trans k3).trans k4;have rr:=((r1.trans r2).trans r3).trans r4;simp only;cases er2:rn b ⟨m.hs,m.ps,m'.lk⟩with
     |mk t2 m2=>
      rw[er2]at wf4 h4 e4;cases t2 with
      |true=>
       let⟨p,hp,hp2⟩:=e4;have:=hp2.upInv hp;rw[e1]at this;exact goon (place+1) m2 x4 (1+s2+1+s4) S4 24 wf4 this h4 kk 24 rr
      |false=>exact⟨wf4,1+s2+1+s4,x4,S4,by omega,h4,kk,rr,e4⟩
theorem ES(Hr:HrT cD F w n first i ll (D+1) c rn f k)(hD:D<=90)(lf:first.length=n.toNat)(w0:2<=w)(n0:0<=n)(n1:n<=6):HrT cD F w n first i ll D (30*(2*c+2)) (λds m=>dz w first rn ds 0 m) (DF.u f) (λds=>ds.length<=30/\∀d∈ds,DF.ok n w k d):=by
 intro a m dep A B x S ka wf Sh hA ho h;exact CU Hr hD lf w0 n0 n1 a ka.2 Sh hA 30 0 m x S 24 wf ho h
def cJ:Nat->Nat
 |0=>60
 |j+1=>30*(2*cJ j+2)
theorem zA(lf:first.length=n.toNat)(w0:2<=w)(n0:0<=n)(n1:n<=6):∀(j D:Nat),D+j<=90->HrT cD F w n first i ll D (cJ j) (oW w first j) (Dl.u j) (OkL n w j)
 |0,D,hD=>ES (c:=0) (k:=λ_=>False) (λa m dep A B x S ka=>ka.elim) 24 lf w0 n0 n1
 |j+1,D,hD=>ES (k:=OkL n w j) (zA lf w0 n0 n1 j (D+1) 24) 24 lf w0 n0 n1
def xv(cD:Cl):Fn:=fnU 4 3 (eW (jt cD) (mB cD) (xt cD) (Fx cD) cD 20000000)
theorem Ik{j:Nat}(hj:j<=3)(lf:first.length=n.toNat)(w0:2<=w)(n0:0<=n)(n1:n<=6)(ds:List (Dl j))(od:OkL n w j ds){m:M}{S:Sto}(wf:Wf n m)(h:Cf cD w n.toNat i ll m (pt (ds.map (Dl.u j)) 0 .non .non) S) :
  Wf n (oW w first j ds m).2/\∃x' S',xv cD [.ref i,.tup 82,.ref ll] S=some (.bl (oW w first j ds m).1,S')/\Cf cD w n.toNat i ll (oW w first j ds m).2 x' S'/\Kp [i,ll] S S':=by
 let⟨wf1,s,x',S',ls,h1,k1,r1,e1⟩:=zA (cD:=cD) (F:=20000000) (i:=i) (ll:=ll) lf w0 n0 n1 j 0 24 ds m 0 .non .non _ S od wf (ZW _) .top .top h;refine⟨wf1,x',S',?_,h1,k1⟩;have hc:cJ j<=13179660:=by
  have:j=0\/j=1\/j=2\/j=3:=by omega
  rcases this with rfl|rfl|rfl|rfl<;>decide
 let⟨r3,r1⟩:=r1 none;have r2:=r1 (20000000-s);rw[show 20000000-s+s=20000000 by omega]at r2;unfold xv;rw[Mz];obtain⟨fl,hfl⟩:∃fl,20000000-s=fl+1:=⟨20000000-s-1,by omega⟩;rw[hfl]at r2;cases er:(oW w first j ds m).1 with
 |true=>
  rw[er]at e1;let⟨p,hp,ho⟩:=e1;have hx:x'=pt (ds.map (Dl.u j)) p .non .non:=by
   generalize ez:pt (ds.map (Dl.u j)) p .non .non=z at ho;cases ho with
   |stop _=>rfl
   |top=>rfl
  subst hx;have ht:=CJ (ρ:=[some (.tup 82),some (.ref ll),r3]) h1 hp;have r4:=r2.trans (jY ht);rwa[eW,r4]
 |false=>
  rw[er]at e1;let⟨ds',q',A',rfl,q0',hw⟩:=e1;have ht:=qk (ρ:=[some (.tup 82),some (.ref ll),r3]) h1 q0' hw;have r4:=r2.trans (Cv ht (HX h1 q0' hw));rwa[eW,r4]
end
def prs:List (Option Int)->Nat->List (Int×Int)
 |[],_=>[]
 |none::r,k=>prs r (k+1)
 |some v::r,k=>((k:Int),v)::prs r (k+1)
def oq(n:Nat)(ps:List (Int×Int)):List (Option Int):=(Zp n).map λb:Nat=>cg ps (b:Int)
def ou:Option Int->U
 |none=>.non
 |some v=>.int v
theorem Ir{n:Nat}{ps:List (Int×Int)}:vk n ps=(oq n ps).map ou:=by
 unfold vk oq;rw[Za];refine XW λb _=>?_;simp only[Function.comp];cases cg ps (b:Int)<;>rfl
def pU(p:Int×Int):U:=.tup [.int p.1,.int p.2]
theorem lI{ok:Sto->Prop}{g:CG}{ct:CT}{ce:CE}{l:Nat}{ρ:Rho}{S:Sto}(h:ok S):cT ok g ct ce l [] ρ S=some S:=by rw[cT,Xe h]
theorem oC{ok:Sto->Prop}{g:CG}{ct:CT}{ce:CE}{l:Nat}{ρ ρ0:Rho}{S S0 S1:Sto}{u:U}{us:List U}(h:ok S)(hg:g u ρ S=some (ρ0,S0))(ht:ct ρ0 S0=some (false,S1)):cT ok g ct ce l (u::us) ρ S=cT ok g ct ce l us ρ0 S1:=by
 rw[cT,Xe h,hg,Z4,ht,Z4,Xd ZF]
theorem pQ{ok:Sto->Prop}{g:CG}{ct:CT}{ce:CE}{l:Nat}{ρ ρ0:Rho}{S S0 S1 S2:Sto}{u x:U}{us ys:List U}(h:ok S)(hg:g u ρ S=some (ρ0,S0))(ht:ct ρ0 S0=some (true,S1))(he:ce ρ0 S1=some (x,S2))(hl:S2[l]?=some (.lst ys))(hn:ys.length<LIM) :
  cT ok g ct ce l (u::us) ρ S=cT ok g ct ce l us ρ0 (S2.set l (.lst (ys++[x]))):=by
 rw[cT,Xe h,hg,Z4,ht,Z4,Xe rfl,he,Z4];simp only[hl,hn,if_true]
theorem uM(S:Sto):∀(qs:List (Option Int)) (k:Nat) (ys:List (Int×Int)) (r0 r1:Option U),ys.length+qs.length<=1000->
  cT (λ_=>True) (gTp [0,1]) (aA (cOp lD (af 1) (cC .non))) (b8 (ae (af 0) 89)) S.length (((qs.map ou).zipIdx k).map λp=>.tup [.int p.2,p.1]) [r0,r1] (S++[.lst (ys.map pU)])
   = some (S++[.lst ((ys++prs qs k).map pU)])
 |[],k,ys,r0,r1,hl=>by
  simp only[Zm,List.zipIdx_nil,prs,Zj];exact lI trivial
 |none::qs,k,ys,r0,r1,hl=>by
  have ih:=uM S qs (k+1) ys (some (.int k)) (some .non) (by simp at hl ⊢;omega);simp only[ZR,List.zipIdx_cons,prs,ou];refine(oC (ρ0:=[some (.int k),some .non]) (S0:=S++[.lst (ys.map pU)]) (S1:=S++[.lst (ys.map pU)]) trivial rfl ?_).trans ih;rwa[xB,wW]
 |some v::qs,k,ys,r0,r1,hl=>by
  have ih:=uM S qs (k+1) (ys++[((k:Int),v)]) (some (.int k)) (some (.int v)) (by simp at hl ⊢;omega);simp only[ZR,List.zipIdx_cons,prs,ou];refine(pQ (ρ0:=[some (.int k),some (.int v)]) (S0:=S++[.lst (ys.map pU)]) (S1:=S++[.lst (ys.map pU)]) (S2:=S++[.lst (ys.map pU)]) (x:=pU (k,v)) (ys:=ys.map pU) trivial rfl ?_ ?_ ?_ (by simp at hl ⊢;unfold LIM;omega)).trans ?_;rwa[xB,Mb];rwa[pU];rwa[];have e5:(S++[O.lst (ys.map pU)]).set S.length (.lst (ys.map pU++[pU ((k:Int),v)]))=S++[.lst ((ys++[((k:Int),v)]).map pU)]:=by
   rwa[Zb,ZR,Zm]
  rw[e5,ih];simp
section
variable{m:M}
def Nj(cD:Cl):Fn:=fnU 1 1 (eK cD)
def ppL(n:Int)(m:M):List (Int×Int):=prs (oq n.toNat m.ps) 0
theorem O1(h:Cf cD w n.toNat i ll m x S)(n1:n<=6):Nj cD [.ref i] S=some (.ref S.length,S++[.lst ((ppL n m).map pU)]):=by
 unfold Nj;rw[Ea];have e:=h.ei;unfold dO at e;have hb:=uM S (oq n.toNat m.ps) 0 [] none none (by simp[oq];omega);simp only[X6,Zm]at hb;rw[Ir]at e;unfold ppL;rwa[eK,du,tM,Ja,A5,qA,e,hb,ZO]
theorem uL:∀(qs:List (Option Int)) (k:Nat) (p:Int×Int),p∈prs qs k->∃j:Nat,p.1=((k+j:Nat):Int)/\qs[j]?=some (some p.2)
 |[],k,p,h=>by simp[prs]at h
 |none::r,k,p,h=>by
  let⟨j,e1,e2⟩:=uL r (k+1) p (by simpa [prs] using h);exact⟨j+1,by rw[e1];omega,by simpa using e2⟩
 |some v::r,k,p,h=>by
  simp only[prs,ZT]at h;rcases h with rfl|h;exact⟨0,by simp,by simp⟩;let⟨j,e1,e2⟩:=uL r (k+1) p h;exact⟨j+1,by rw[e1];omega,by simpa using e2⟩
theorem Ls{ps:List (Int×Int)}{j:Nat}{v:Int}:(oq n.toNat ps)[j]?=some (some v)↔(j<n.toNat/\cg ps (j:Int)=some v):=by
 unfold oq;rw[Zz];by_cases c:j<n.toNat;rw[Xk c];simp[c];rw[Zd ‹c›];simp[c]
theorem G9{p:Int×Int}(h:p∈ppL n m):0<=p.1/\p.1<n/\cg m.ps p.1=some p.2:=by
 let⟨j,e1,e2⟩:=uL _ _ _ h;let⟨e3,e4⟩:=Ls.mp e2;rw[Xq]at e1;rw[e1];exact⟨by omega,by omega,e4⟩
theorem rq:∀(qs:List (Option Int)) (k:Nat) (R:List Int) (j:Nat),((prs qs k).foldl (λr p=>r.set p.1.toNat p.2) R)[j]?=(R[j]?).map λx=>if k<=j then((qs[j-k]?).join).getD x else x
 |[],k,R,j=>by simp[prs]
 |none::r,k,R,j=>by
  rw[prs,rq r (k+1) R j];congr 1;funext x;by_cases h1:k+1<=j;rw[Xe h1,Xe 24,show j-k=j-(k+1)+1 by omega,Zx];rw[Xd h1];by_cases h2:k<=j;rw[Xe h2,show j-k=0 by omega];simp;rw[Xd h2]
 |some v::r,k,R,j=>by
  rw[prs,List.foldl_cons,rq r (k+1) _ j];simp only[XQ];by_cases h1:k+1<=j;rw[ZZ 24];congr 1;funext x;rw[Xe h1,Xe 24,show j-k=j-(k+1)+1 by omega,Zx];by_cases h2:k=j;subst h2;rw[List.getElem?_set_self'];cases R[k]? with
  |none=>rfl
  |some z=>simp;intro h;omega
  rw[ZZ h2];congr 1;funext x;rw[Xd h1,Xd 24]
theorem D0(lf:first.length=n.toNat):(ppL n m).foldl (λr p=>r.set p.1.toNat p.2) first=beh first m.ps 0:=by
 refine Zs λj=>?_;unfold ppL;rw[rq];by_cases c:j<first.length
 rw[oJ _ _ _ _ c,ZK c];have e:(oq n.toNat m.ps)[j]?=some (cg m.ps (j:Int)):=by unfold oq;rw[Zz,Xk 24];rfl
 simp only[XU,X5,if_true,Nat.sub_zero,e,Option.join_some,Xq,Zo,ZK c,X9]
 ·rw[Zd (l:=first) 24,Zd (l:=beh first m.ps 0) (by rw[jT];omega)];rfl
end
def xp(cD:Cl):Fn:=fnU 3 3 (iX yr cD)
theorem H0{S0:Sto}{ds:List U}(n0:1<=n)(n1:n<=6):xp cD [.ref S0.length,.tup 92,.tup ds] (S0++[.ins cD [none,none,none,none]])=some (.non,S0++[dO cD w n.toNat m0 (pt ds 0 .non .non)]):=by
 unfold xp;rw[vm];have eo:∀S:Sto,yr [.tup [.tup ds,.int 0,.non,.non]] S=some (.tup [.tup ds,.int 0,.non,.non],S):=λS=>wF (d:=0) (.top:Onw 0 (pt ds 0 .non .non) _) 54;have em:∀S:Sto,AZ (.tup [.non]) (.int n) S=some (.tup (vk n.toNat []),S):=λS=>by
  unfold AZ;simp only;rw[Xe ⟨by simp,n0,by simp;omega⟩,D6];congr 3;induction n.toNat with
  |zero=>rfl
  |succ k ih=>rw[XY,XY,Xj,ih];rfl
 unfold dO pt m0;rwa[iX,em,eo]
theorem zm{S:Sto}{ll:Nat}{lk:List Int}(h:S[ll]?=some (.dic (yk lk)))(hl:lk.length<64):iR [.ref ll] S=some (.ref S.length,S++[.lst ((dY lk).map U.int)]):=by
 simp only[iR,h,tD,Z4,hl,if_true]
theorem LJ{S0:Sto}{X:Sto}{S':Sto}{a b:Nat}(k:Kp [a,b] (S0++X) S')(ha:S0.length<=a)(hb:S0.length<=b):∃Y,S'=S0++Y/\Y.length=X.length:=by
 let⟨Y,rfl⟩:=Fg (ls:=[]) (S0:=S0) (S':=S') (by have:=k.len;simp at this;omega) λl hl=>by
  rw[k.old l 72,Zk hl]
 exact⟨Y,rfl,by have:=k.len;simp at this;omega⟩
def wf0:Wf n m0:=⟨rfl,by simp[m0],by simp[m0],by simp[m0],by simp[m0]⟩
def bQ(cD:Cl):Fn:=fnU 8 3 (rE (xv cD) (Nj cD) (xp cD) cD)
theorem BF{x3 x4:Option U}{lr lp:Nat}{us:List U}{xs:U}{ys:U}{f1 f2 f3:Fn}:∀(ps:List (Int×Int)) (R:List Int) (S:Sto) (r6 r7:Option U),S[lr]?=some (.lst (R.map U.int))->S[lp]?=some (.lst us)->lr≠lp->(∀p∈ps,0<=p.1/\p.1<R.length)->
  ∃r6' r7',dC (λS=>S[lp]?=some (.lst us)) (gTp [6,7]) (oM f1 f2 f3 cD) (ps.map pU) [some xs,some ys,some (.tup 82),x3,x4,some (.ref lr),r6,r7] S
   = some (.nx,[some xs,some ys,some (.tup 82),x3,x4,some (.ref lr),r6',r7'],S.set lr (.lst ((ps.foldl (λr p=>r.set p.1.toNat p.2) R).map U.int)))
 |[],R,S,r6,r7,h1,h2,ne,_=>⟨r6,r7,by rw[Zm,c8 h2,List.foldl_nil,qz h1]⟩
 |p::ps,R,S,r6,r7,h1,h2,ne,hb=>by
  let⟨b0,b1⟩:=hb p ZD;have h1':(S.set lr (.lst ((R.set p.1.toNat p.2).map U.int)))[lr]?=some (.lst ((R.set p.1.toNat p.2).map U.int)):=ZE (a9 h1);let⟨r6',r7',ih⟩:=BF (x3:=x3) (x4:=x4) (lr:=lr) (lp:=lp) (us:=us) (xs:=xs) (ys:=ys) (f1:=f1) (f2:=f2) (f3:=f3) ps (R.set p.1.toNat p.2) (S.set lr (.lst ((R.set p.1.toNat p.2).map U.int))) (some (.int p.1)) (some (.int p.2)) h1' (by rw[ZZ ne];exact h2) ne λq hq=>by rw[XO];exact hb q (ZY _ hq)
  rw[XG]at ih;refine⟨r6',r7',?_⟩;rw[ZR,List.foldl_cons];refine(bf h2 (ρ0:=[some xs,some ys,some (.tup 82),x3,x4,some (.ref lr),some (.int p.1),some (.int p.2)]) (S0:=S) (by rwa[pU]) ?_).trans ih;have ix:ixN (R.map U.int).length p.1=some p.1.toNat:=by unfold ixN;rw[Xe b0,Xe 72]
  rwa[oM,h1,ix,map_set]
theorem Eu{j:Nat}(hj:j<=3)(S0:Sto)(hns:cD.ns.length=4)(ds:List (Dl j))(od:OkL n w j ds)(lf:first.length=n.toNat)(n0:1<=n)(n1:n<=6)(w0:2<=w) :
  Wf n (oW w first j ds m0).2/\∃G l,bQ cD [.tup 92,.tup (ds.map (Dl.u j)),.tup 82] S0=some (told (oW w first j ds m0) first l,S0++G)/\((oW w first j ds m0).1=false->(S0++G)[l]?=some (.lst ((dY (oW w first j ds m0).2.lk).map U.int))/\S0.length<=l):=by
 have c0:Cf cD w n.toNat S0.length (S0.length+1) m0 (pt (ds.map (Dl.u j)) 0 .non .non) (S0++[dO cD w n.toNat m0 (pt (ds.map (Dl.u j)) 0 .non .non),.dic []]):=⟨by rw[ga0];rfl,by rw[ga];rfl⟩;let⟨wf,x',S',eg,c1,k1⟩:=Ik hj lf w0 24 n1 ds od wf0 c0;refine⟨wf,?_⟩;have hi:=H0 (cD:=cD) (w:=w) (S0:=S0) (ds:=ds.map (Dl.u j)) n0 n1;let⟨Y,rfl,lY⟩:=LJ k1 (ZW _) 24;have lk6:=(wf.few 24 n1).2;unfold bQ;rw[Mu];have es:=zm c1.el 24;unfold told;cases er:oW w first j ds m0 with
 |mk t m=>
  rw[er]at eg c1 es lk6 wf;cases t with
  |false=>
   refine⟨Y++[.lst ((dY m.lk).map U.int)],S0.length+Y.length,?_,λ_=>⟨?_,by omega⟩⟩;simp only[ZV,ZJ]at es;rwa[rE,EG,hns,ZO,hi,eg,es,ZV];rw[<-ZJ,<-ZV,ga0];rfl
  |true=>
   have c2:Cf cD w n.toNat S0.length (S0.length+1) m x' (S0++(Y++[.lst 82])):=by rw[<-ZJ];exact⟨ar c1.ei,ar c1.el⟩
   have ep:=O1 c2 n1;have ei:=c2.ei;have c3:Cf cD w n.toNat S0.length (S0.length+1) m x' (S0++(Y++[.lst 83,.lst ((ppL n m).map pU)])):=by rw[<-ZJ];exact⟨ar c1.ei,ar c1.el⟩
   have e3:=c3.ei;let⟨r6,r7,el⟩:=BF (first:=first) (cD:=cD) (f1:=xv cD) (f2:=Nj cD) (f3:=xp cD) (x3:=some (.ref S0.length)) (x4:=some (.ref (S0.length+1))) (xs:=.tup 92) (ys:=.tup (ds.map (Dl.u j))) (lr:=S0.length+Y.length) (lp:=S0.length+(Y.length+1)) (us:=(ppL n m).map pU) (ppL n m) first (S0++(Y++[.lst 82,.lst ((ppL n m).map pU)])) none none
    (by rw[<-ZJ,<-ZV,ga0];rfl) (by rw[<-ZJ,<-Nat.add_assoc,<-ZV,ga];rfl) 24 (λp hp=>by let⟨a,b,_⟩:=G9 hp;omega)
   rw[D0 lf]at el;have gset:(S0++(Y++[O.lst 82,.lst ((ppL n m).map pU)])).set (S0.length+Y.length) (.lst 83)=S0++(Y++[.lst 83,.lst ((ppL n m).map pU)]):=by
    rw[gs,gs0];rfl
   rw[gset]at el;have gl:(S0++(Y++[O.lst 82,.lst ((ppL n m).map pU)]))[S0.length+(Y.length+1)]?=some (.lst ((ppL n m).map pU)):=by rw[<-ZJ,<-Nat.add_assoc,<-ZV,ga];rfl
   have gr:(S0++(Y++[O.lst 83,.lst ((ppL n m).map pU)]))[S0.length+Y.length]?=some (.lst 83):=by rw[<-ZJ,<-ZV,ga0];rfl
   refine⟨Y++[.lst 83,.lst ((ppL n m).map pU)],0,?_,λz=>by cases z⟩;simp only[ZV,ZJ,ZM,XX,Xq,Zu,X6]at ep;unfold dO at ei e3;rwa[rE,EG,hns,ZO,hi,eg,ep,ei,ji,iTp,el,e3,gl,gr,ZV]
def Lay(k:Nat)(S:Sto)(u:U):Prop:=∃d,Dt S u d/\d.canLay0=true/\d.depth<=k
def lK(k:Nat)(S:Sto)(u v:U):Prop:=∃d,Dt S u d/\Dt S v d/\d.canLay0=true/\d.depth<=k
def kT(k:Nat)(S:Sto)(us vs:List U):Prop:=∃ds,DtL S us ds/\DtL S vs ds/\PyData.canLayAll0 ds=true/\PyData.depthAll ds<=k
variable{us:List U}
section
variable{k:Nat}{u v:U}{vs:List U}
def Lay.int{i:Int}:Lay k S (.int i):=⟨_,.int i,rfl,X5 _⟩
def lK.refl(h:Lay k S u):lK k S u u:=by let⟨d,a,b,c⟩:=h;exact⟨d,a,a,b,c⟩
def kT.nil:kT k S [] []:=⟨[],.nil,.nil,rfl,X5 _⟩
theorem kT.cons(h:lK k S u v)(t:kT k S us vs):kT k S (u::us) (v::vs):=by
 let⟨d,a,b,c,e⟩:=h;let⟨ds,a',b',c',e'⟩:=t;refine⟨d::ds,.cons a a',.cons b b',by unfold PyData.canLayAll0;rw[c,c'];rfl,?_⟩;unfold PyData.depthAll;exact Nat.max_le.mpr ⟨e,e'⟩
theorem kT.all:∀{us:List U},(∀u∈us,Lay k S u)->kT k S us us
 |[],_=>.nil
 |u::us,h=>.cons (.refl (h u ZD)) (kT.all λx hx=>h x (ZY _ hx))
theorem lK.lst{l l':Nat}(h1:S[l]?=some (.lst us))(h2:S[l']?=some (.lst vs))(h:kT k S us vs):lK (k+1) S (.ref l) (.ref l'):=by
 let⟨ds,a,b,c,e⟩:=h;refine⟨.list ds,.lst h1 a,.lst h2 b,by unfold PyData.canLay0;exact c,?_⟩;unfold PyData.depth;omega
theorem lK.eq(h:lK k S u v)(hk:k<=60):vj false u v S=some (.bl true,S):=by
 let⟨d,a,b,c,e⟩:=h;exact vi false (.inl ⟨d,d,a,b,⟨c,X2 e hk⟩,⟨c,X2 e hk⟩,(SeqAt.eqv_refl d c).symm⟩)
theorem lK.ne(h:lK k S u v)(hk:k<=60):vj true u v S=some (.bl false,S):=by
 let⟨d,a,b,c,e⟩:=h;exact vi true (.inl ⟨d,d,a,b,⟨c,X2 e hk⟩,⟨c,X2 e hk⟩,(SeqAt.eqv_refl d c).symm⟩)
end
def dlU{j:Nat}(d:List (Dl j)):U:=.tup (d.map (Dl.u j))
abbrev Pl:=List Int×List Int
def plU(p:Pl):U:=.tup [.tup (p.1.map U.int),.tup (p.2.map U.int)]
def nkP(p:Pl):NK:=[p.1,p.2]
abbrev Kn:=List (Pl×List Int)
def goD(w:Int)(st:List Int)(d:List (Dl 2)):Option (List Int):=match oW w st 2 d m0 with
 |(true,m)=>some (beh st m.ps 0)
 |(false,_)=>none
def BQ(w:Int)(p:Pl)(d:List (Dl 2))(k:Nat):List (Int×Pl):=if (k:Int)∈p.1 then[]else match goD w p.2 d with
 |some st=>[((k:Int),(dY (p.1++[(k:Int)]),st))]
 |none=>[]
def br(w:Int)(p:Pl):List (List (Dl 2))->Nat->List (Int×Pl)
 |[],_=>[]
 |d::r,k=>BQ w p d k++br w p r (k+1)
def vF(row:List Int):List (Int×Pl)->Kn->Kn
 |[],kn=>kn
 |(a,p)::r,kn=>vF row r (if p∈kn.map (·.1)then kn else kn++[(p,row++[a])])
variable{Ds:List (List (Dl 2))}{st0 r row:List Int}{p p':Pl}{a:Int}{kn:Kn}
theorem Il{st st':List Int}{d:List (Dl 2)}(h:goD w st d=some st'):st'.length=st.length:=by
 unfold goD at h;split at h;cases h;rw[jT];cases h
theorem iG:∀{ds:List (List (Dl 2))} {k:Nat},(a,p')∈br w p ds k->∃i:Nat,a=((k+i:Nat):Int)/\i<ds.length/\a∉p.1/\∃st,goD w p.2 (ds.getD i [])=some st/\p'=(dY (p.1++[a]),st)
 |[],k,h=>by cases h
 |d::ds,k,h=>by
  rcases X4.mp h with h|h;unfold BQ at h;split at h;cases h;rename_i hn;split at h;rename_i st hg;rw[Zw]at h;cases h;exact⟨0,rfl,by simp,hn,st,hg,rfl⟩;cases h;let⟨i,h1,h2,h3,st,h4,h5⟩:=iG h;exact⟨i+1,by rw[h1];congr 1;omega,by rw[ZM];omega,h3,st,by simpa using h4,h5⟩
inductive rK(w:Int)(Ds:List (List (Dl 2)))(st0:List Int):List Int->Pl->Prop
 |nil:rK w Ds st0 [] ([],st0)
 |snoc {r:List Int} {p p':Pl} {a:Int}:rK w Ds st0 r p->(a,p')∈br w p Ds 0->rK w Ds st0 (r++[a]) p'
theorem xJ:dY (dY r++[a])=dY (r++[a]):=
 (fS ((dP _).trans ((dP r).append_right [a])) (iI _))
structure MJ(Ds:List (List (Dl 2)))(st0 r:List Int)(p:Pl):Prop where
 nd:r.Nodup
 bd:∀b∈r,0<=b/\b<(Ds.length:Int)
 gone:p.1=dY r
 len:p.2.length=st0.length
theorem rK.ok(h:rK w Ds st0 r p):MJ Ds st0 r p:=by
 induction h with
 |nil=>exact⟨List.nodup_nil,λb hb=>(Zv hb).elim,by simp[dY],rfl⟩
 |@snoc r p p' a _ hw ih=>
  let⟨i,h1,h2,h3,st,h4,h5⟩:=iG hw;subst h5;have na:a∉r:=λz=>h3 (by rw[ih.gone];exact(dP r).mem_iff.mpr z);refine⟨Xz.mpr ⟨ih.nd,by simp,λx hx y hy e=>na (by rw[Zw.mp hy]at e;rw[<-e];exact hx)⟩,λb hb=>?_,by rw[ih.gone,xJ],by rw[Il h4,ih.len]⟩;rcases X4.mp hb with z|z;exact ih.bd b z;rw[Zw.mp z,h1];omega
theorem Cz{p1 p2:Pl}(h1:(a,p1)∈br w p Ds 0)(h2:(a,p2)∈br w p Ds 0):p1=p2:=by
 let⟨i,e1,_,_,st,g1,rfl⟩:=iG h1;let⟨j,e2,_,_,st',g2,rfl⟩:=iG h2;have:i=j:=by omega
 subst this;rw[g1]at g2;cases g2;rfl
theorem rK.det(h:rK w Ds st0 r p):∀{p'},rK w Ds st0 r p'->p=p':=by
 induction h with
 |nil=>
  intro p' h;generalize e:([]:List Int)=r at h;cases h with
  |nil=>rfl
  |snoc _ _=>exact absurd e.symm 51
 |@snoc r p q a h1 hw ih=>
  intro p' h;generalize e:r++[a]=s at h;cases h with
  |nil=>exact absurd e 51
  |@snoc r' p2 _ a' h2 hw'=>
   let⟨e1,e2⟩:=List.append_inj' e rfl;cases e2;subst e1;have:=ih h2;subst this;exact Cz hw hw'
def RN(r:List Int):List (List Int):=([0,1,2,3,4,5]:List Int).filterMap λa=>if a∈r then none else some (r++[a])
def Pn:Nat->List (List Int)
 |0=>[[]]
 |k+1=>(Pn k).flatMap RN
def Q4:List (List Int):=[0,1,2,3,4,5,6].flatMap Pn
def Ex:Q4.length=1957:=by decide +kernel
theorem rK.lev(hN:Ds.length<=6)(h:rK w Ds st0 r p):r∈Pn r.length:=by
 induction h with
 |nil=>exact Zw.mpr rfl
 |@snoc r p p' a h0 hw ih=>
  have ok:=(rK.snoc h0 hw).ok;rw[ZV,List.length_singleton];refine List.mem_flatMap.mpr ⟨r,ih,List.mem_filterMap.mpr ⟨a,?_,?_⟩⟩;have:=ok.bd a (Zg _ ZD);simp only[ZT,Zv,or_false];omega;rw[Xd λz=>(Xz.mp ok.nd).2.2 a z a ZD rfl]
theorem rK.few(hN:Ds.length<=6)(h:rK w Ds st0 r p):r.length<=Ds.length:=by
 have ok:=h.ok;have:=List.Nodup.length_le_of_subset ok.nd (l₂:=(Zp Ds.length).map λi:Nat=>(i:Int)) λb hb=>by
  let⟨h1,h2⟩:=ok.bd b hb;exact Zy.mpr ⟨b.toNat,XH.mpr 24,by omega⟩
 simpa using this
structure KnI(w:Int)(Ds:List (List (Dl 2)))(st0:List Int)(kn:Kn):Prop where
 nd:(kn.map (·.1)).Nodup
 pa:∀q∈kn,rK w Ds st0 q.2 q.1
theorem KnI.few(h:KnI w Ds st0 kn)(hN:Ds.length<=6):kn.length<=1957:=by
 have nd:(kn.map (·.2)).Nodup:=by
  refine List.pairwise_map.mpr (List.Pairwise.imp_of_mem (λ{x y} hx hy hn e=>hn ?_) (List.pairwise_map.mp h.nd));have h1:=h.pa x hx;have h2:=h.pa y hy;rw[<-e]at h2;exact h1.det h2
 have:=List.Nodup.length_le_of_subset nd (l₂:=Q4) λx hx=>by
  let⟨q,hq,rfl⟩:=Zy.mp hx;have hp:=h.pa q hq;have hl:=hp.few hN;refine List.mem_flatMap.mpr ⟨q.2.length,?_,hp.lev hN⟩;have:q.2.length<=6:=by omega
  generalize q.2.length=z at this;match z,this with
  |0,_=>simp
  |1,_=>simp
  |2,_=>simp
  |3,_=>simp
  |4,_=>simp
  |5,_=>simp
  |6,_=>simp
  |z+7,h=>omega
 rw[Ex,ZQ]at this;exact this
theorem KnI.add(hp:rK w Ds st0 row p):∀(ws:List (Int×Pl)) (kn:Kn),KnI w Ds st0 kn->(∀x∈ws,x∈br w p Ds 0)->KnI w Ds st0 (vF row ws kn)
 |[],kn,h,_=>h
 |(a,q)::ws,kn,h,hw=>by
  unfold vF;refine KnI.add hp ws _ ?_ λx hx=>hw x (ZY _ hx);split
  ·exact h
  ·rename_i hn;refine⟨?_,λx hx=>?_⟩;rw[Zb,Xz];exact⟨h.nd,by simp,λx hx y hy e=>hn (by rw[ZR,Zm,Zw]at hy;rw[e,hy]at hx;exact hx)⟩;rcases X4.mp hx with z|z;exact h.pa x z;rw[Zw.mp z];exact .snoc hp (hw _ ZD)
theorem hU:∀(ws:List (Int×Pl)) (kn:Kn),∃t,vF row ws kn=kn++t
 |[],kn=>⟨[],(Zj _).symm⟩
 |(a,q)::ws,kn=>by
  unfold vF;split
  ·exact hU ws kn
  ·let⟨t,e⟩:=hU ws (kn++[(q,row++[a])]);exact⟨[(q,row++[a])]++t,by rw[e,ZJ]⟩
theorem xh:∀(ws:List (Int×Pl)) (kn:Kn) (x:Int×Pl),x∈ws->x.2∈(vF row ws kn).map (·.1)
 |(a,q)::ws,kn,x,hx=>by
  unfold vF;rcases ZT.mp hx with rfl|hx
  ·let⟨t,e⟩:=hU (row:=row) ws (if q∈kn.map (·.1)then kn else kn++[(q,row++[a])]);rw[e,Zb];refine Xx _ ?_;split;assumption;rw[Zb];exact Zg _ 51
  ·exact xh ws _ x hx
def kn0(st0:List Int):Kn:=[(([],st0),[])]
def Au:KnI w Ds st0 (kn0 st0):=⟨by simp[kn0],λq hq=>by rw[Zw.mp hq];exact .nil⟩
def bfs(w:Int)(Ds:List (List (Dl 2))):Nat->Nat->Kn->Kn
 |0,_,kn=>kn
 |f+1,i,kn=>match kn[i]? with
  |none=>kn
  |some q=>bfs w Ds f (i+1) (vF q.2 (br w q.1 Ds 0) kn)
theorem Ft:∀(f i:Nat) (kn:Kn),KnI w Ds st0 kn->KnI w Ds st0 (bfs w Ds f i kn)
 |0,_,kn,h=>h
 |f+1,i,kn,h=>by
  unfold bfs;split;exact h;rename_i q hq;exact Ft f (i+1) _ (KnI.add (h.pa q (X3 hq)) _ _ h λx hx=>hx)
def e8(w:Int)(Ds:List (List (Dl 2)))(st0:List Int):Kn:=bfs w Ds 3000 0 (kn0 st0)
def mK:KnI w Ds st0 (e8 w Ds st0):=Ft _ _ _ Au
def jB{ca cb:CS}{ρ ρ':Rho}{S S':Sto}(h:ca ρ S=some (.nx,ρ',S')):aM ca cb ρ S=cb ρ' S':=by rw[rW,h,Z4,vO]
def gR(x:Int×Pl):U:=.tup [.int x.1,plU x.2]
variable{f:Fn}{ld:Nat}
def fP(n w:Int)(f:Fn):Prop:=∀(d:List (Dl 2)) (st:List Int) (S:Sto),OkL n w 2 d->st.length=n.toNat->∃G l,f [.tup 92,dlU d,.tup (st.map U.int)] S=some (told (oW w st 2 d m0) st l,S++G)
theorem Ac{k:Int}{xs:List Int}{S:Sto}:fIn true (.int k) (.tup (xs.map U.int)) S=some (.bl (!decide (k∈xs)),S):=by
 have h1:(xs.map U.int).all gI=true:=by rw[List.all_map];exact XJ.mpr λ_ _=>rfl
 have h2:inU (.int k) (xs.map U.int)=decide (k∈xs):=by
  induction xs with
  |nil=>rfl
  |cons x xs ih=>
   have ih:=ih (by rw[List.all_map];exact XJ.mpr λ_ _=>rfl);unfold inU at ih ⊢;rw[ZR,XR,ih];have:eqF (.int x) (.int k)=(x == k):=rfl;rw[this];by_cases e:x=k;subst e;simp;have e':¬k=x:=λz=>e z.symm;simp[e,e']
 unfold fIn;dsimp only;rw[Xe ⟨rfl,h1⟩,h2];rfl
theorem CL{xs:List Int}{k:Int}{S:Sto}(h:xs.length<=40):jf [.tup (xs.map U.int++[.int k])] S=some (.ref S.length,S++[.lst ((dY (xs++[k])).map U.int)]):=by
 have e:xs.map U.int++[U.int k]=(xs++[k]).map U.int:=by rw[Zb];rfl
 have hl:(xs++[k]).length<64:=by rw[ZV,List.length_singleton];omega
 rw[e];simp only[jf,gH,Z4,Xe hl]
def OF:decide (("done":Str)="done")=true:=by decide +kernel
def OB:decide (("waits":Str)="done")=false:=by decide +kernel
theorem CB(hf:fP n w f){d:List (Dl 2)}{k:Nat}(od:OkL n w 2 d)(hp:p.1.length<=40)(hs:p.2.length=n.toNat){acc:List (Int×Pl)}{G:Sto}{r6:Option U}(ha:acc.length<=900) :
  ∃G' r6',cM f [some 28,some 84,some (plU p),some (.ref S.length),some (.int k),some (dlU d),r6] (S++(.lst (acc.map gR)::G))
   = some (.nx,[some 28,some 84,some (plU p),some (.ref S.length),some (.int k),some (dlU d),r6'],S++(.lst ((acc++BQ w p d k).map gR)::(G++G'))):=by
 unfold BQ;have hL:(acc.map gR).length<LIM:=by unfold LIM;rw[ZQ];omega
 have hA:(p.1.map U.int).length+1<=LIM:=by unfold LIM;rw[ZQ];omega
 by_cases hk:(k:Int)∈p.1;rw[Xe hk];refine⟨[],r6,?_⟩;have h1:∀Y,fIn true (.int k) (.tup (p.1.map U.int)) Y=some (.bl false,Y):=λY=>by rw[Ac,Xa hk];rfl
 rwa[cM,plU,h1,Zj];rw[Xd hk];have h1:∀Y,fIn true (.int k) (.tup (p.1.map U.int)) Y=some (.bl true,Y):=λY=>by rw[Ac,Xf hk];rfl
 let⟨G1,l,h2⟩:=hf d p.2 (S++(.lst (acc.map gR)::G)) od hs;unfold goD;cases er:oW w p.2 2 d m0 with
 |mk t m=>
  rw[er]at h2;cases t with
  |false=>
   refine⟨G1,some (.tup [.str "waits",.ref l]),?_⟩;dsimp only[told]at h2;simp only[ZJ,Zu]at h2;rwa[cM,plU,h1,h2,OB,Zj]
  |true=>
   dsimp only[told]at h2;obtain⟨Y1,hY⟩:∃Y1,Y1=S++(.lst (acc.map gR)::G)++G1:=⟨_,rfl⟩;rw[<-hY]at h2;have h3:∀Y,eJ (.tup (p.1.map U.int)) (.tup [.int k]) Y=some (.tup (p.1.map U.int++[.int k]),Y):=λY=>by
    simp only[eJ];rw[Xe ‹hA›]
   have g1:∀X,(Y1++X)[S.length]?=some (.lst (acc.map gR)):=λX=>by rw[hY];exact ar (ar (by rw[ga0];rfl))
   have g0:∀Z:Sto,(Y1++Z)[Y1.length]?=Z[0]?:=λZ=>ga0;refine⟨G1++[.lst ((dY (p.1++[(k:Int)])).map U.int)],some (.tup [.str "done",.tup ((beh p.2 m.ps 0).map U.int),.tup (m.hs.map U.int)]),?_⟩;have eS:S++(O.lst ((acc++[((k:Int),(dY (p.1++[(k:Int)]),beh p.2 m.ps 0))]).map gR)::(G++(G1++[O.lst ((dY (p.1++[(k:Int)])).map U.int)])))=(Y1++[O.lst ((dY (p.1++[(k:Int)])).map U.int)]).set S.length (O.lst (acc.map gR++[U.tup [.int k,.tup [.tup ((dY (p.1++[(k:Int)])).map U.int),.tup ((beh p.2 m.ps 0).map U.int)]]])):=by
    rw[hY,ZJ,ZJ,gs0,Zb];simp only[Zu,List.set_cons_zero];rfl
   dsimp only;rw[eS];obtain⟨Sl,hSl⟩:∃Sl,Sl=S.length:=⟨_,rfl⟩;rw[<-hSl]at g1 ⊢;have h2':f [.tup 92,dlU d,.tup (p.2.map U.int)] (S++(.lst (acc.map gR)::G))=_:=h2;obtain⟨Y0,hY0⟩:∃Y0,Y0=S++(O.lst (acc.map gR)::G):=⟨_,rfl⟩;rw[<-hY0]at h2' ⊢;clear hY eS hY0 h2;have g2:Y1[Sl]?=some (.lst (acc.map gR)):=by have:=g1 [];rw[Zj]at this;exact this
   rwa[cM,plU,h1,h2',OF,h3,CL hp,g0,g1,g2,fR hL]
theorem sh(hf:fP n w f)(hp:p.1.length<=40)(hs:p.2.length=n.toNat)(hd:S[ld]?=some 59):∀(ds:List (List (Dl 2))) (k:Nat) (acc:List (Int×Pl)) (G:Sto) (r4 r5 r6:Option U),(∀d∈ds,OkL n w 2 d)->acc.length+ds.length<=900->
  ∃G' r4' r5' r6',dC (λZ=>Z[ld]?=some 59) (gTp [4,5]) (cM f) (((ds.map dlU).zipIdx k).map λp=>.tup [.int p.2,p.1]) [some 28,some 84,some (plU p),some (.ref S.length),r4,r5,r6] (S++(.lst (acc.map gR)::G))
   = some (.nx,[some 28,some 84,some (plU p),some (.ref S.length),r4',r5',r6'],S++(.lst ((acc++br w p ds k).map gR)::G'))
 |[],k,acc,G,r4,r5,r6,_,_=>⟨G,r4,r5,r6,by rw[show br w p [] k=[]from rfl,Zj];exact c8 (ar hd)⟩
 |d::ds,k,acc,G,r4,r5,r6,ok,hl=>by
  rw[ZM]at hl;let⟨G1,r6',h1⟩:=CB (S:=S) (ld:=ld) (k:=k) (acc:=acc) (G:=G) (r6:=r6) hf (ok d ZD) hp hs 24;have hw:(BQ w p d k).length<=1:=by unfold BQ;split;exact X5 _;split;exact ZW _;exact X5 _
  let⟨G',a4,a5,a6,ih⟩:=sh hf hp hs hd ds (k+1) (acc++BQ w p d k) (G++G1) (some (.int k)) (some (dlU d)) r6' (λx hx=>ok x (ZY _ hx)) (by rw[ZV];omega);refine⟨G',a4,a5,a6,?_⟩;rw[ZR,List.zipIdx_cons,ZR,show br w p (d::ds) k=BQ w p d k++br w p ds (k+1)from rfl,<-ZJ];exact(bf (ar hd) rfl h1).trans ih
def my(f:Fn):Fn:=fnU 7 3 (jP f)
theorem yW(hf:fP n w f)(hp:p.1.length<=40)(hs:p.2.length=n.toNat)(hd:S[ld]?=some 59)(ok:75)(hl:Ds.length<=900) :
  ∃G,my f [.tup 92,.ref ld,plU p] S=some (.ref S.length,S++(.lst ((br w p Ds 0).map gR)::G)):=by
 unfold my;rw[Mw];let⟨G,r4,r5,r6,h⟩:=sh (S:=S) (ld:=ld) hf hp hs hd Ds 0 [] [] none none none ok (by rw[XX];omega);refine⟨G,?_⟩;rw[X6]at h;have e1:bB 3 (fZ aq) [some 28,some 84,some (plU p),none,none,none,none] S=some (.nx,[some 28,some 84,some (plU p),some (.ref S.length),none,none,none],S++[.lst []]):=rfl;have gl:(S++[O.lst []])[ld]?=some (.lst (Ds.map dlU)):=ar hd;have e2:ji (tM (af 1)) (gTp [4,5]) (cM f) [some 28,some 84,some (plU p),some (.ref S.length),none,none,none] (S++[.lst []])=some (.nx,[some 28,some 84,some (plU p),some (.ref S.length),r4,r5,r6],S++(.lst ((br w p Ds 0).map gR)::G)):=by
  have ei:tM (af 1) [some 28,some 84,some (plU p),some (.ref S.length),none,none,none] (S++[.lst []])=some (A5 (Ds.map dlU),λZ=>Z[ld]?=some 59,S++[.lst []]):=by
   have v0:af 1 [some 28,some 84,some (plU p),some (.ref S.length),none,none,none] (S++[.lst []])=some (.ref ld,S++[.lst []]):=rfl;unfold tM;rw[v0,Z4];simp only[Ja,gl,Z4]
  unfold ji;rw[ei,Z4];exact h
 unfold jP;rw[jB e1,jB e2];rfl
theorem qP{p q:Pl}(h:nkP p=nkP q):p=q:=by
 unfold nkP at h;simp only[List.cons.injEq,and_true]at h;exact Prod.ext h.1 h.2
def RA(b:Nat)(no:List Nat)(Y:Sto):Kn->List (NK×U)->Prop:=Paired λ(q:Pl×List Int) (k:NK×U)=>k.1=nkP q.1/\∃l,k.2=.ref l/\b<=l/\l∉no/\Y[l]?=some (.lst (q.2.map U.int))
variable{b dl:Nat}{Y Z:Sto}{kus:List (NK×U)}{lus:List U}
section
variable{no:List Nat}{Y':Sto}
theorem RA.mono(h:RA b no Y kn kus)(m:∀l,b<=l->l∉no->∀o,Y[l]?=some o->Y'[l]?=some o):RA b no Y' kn kus:=Paired.mapP h λq k ⟨e,l,h1,h2,h3,h4⟩=>⟨e,l,h1,h2,h3,m l h2 h3 _ h4⟩
def RA.length(h:RA b no Y kn kus):kn.length=kus.length:=Paired.length h
theorem RA.none(h:RA b no Y kn kus)(hp:p∉kn.map (·.1)):cg kus (nkP p)=none:=by
 induction h with
 |nil=>rfl
 |@cons q k ks us r t ih=>
  rw[ZR,ZT,not_or]at hp;have ne:¬k.1=nkP p:=λz=>hp.1 (qP (z.symm.trans r.1));have:=ih hp.2;unfold cg at this ⊢;rw[Zl,Xf ne];exact this
theorem RA.val(h:RA b no Y kn kus)(nd:(kn.map (·.1)).Nodup){q:Pl×List Int}(hq:q∈kn):∃l,cg kus (nkP q.1)=some (.ref l)/\b<=l/\l∉no/\Y[l]?=some (.lst (q.2.map U.int)):=by
 induction h with
 |nil=>cases hq
 |@cons x k ks us r t ih=>
  rw[ZR,Xb]at nd;let⟨e,l,h1,h2,h3,h4⟩:=r;rcases ZT.mp hq with rfl|hq;refine⟨l,?_,h2,h3,h4⟩;unfold cg;rw[Zl,Xa e,XU,h1];let⟨l',v,e_⟩:=ih nd.2 hq;have ne:¬k.1=nkP q.1:=λz=>nd.1 (by rw[qP (e.symm.trans z)];exact Zy.mpr ⟨q,hq,rfl⟩);refine⟨l',?_,e_⟩;unfold cg at v ⊢;rw[Zl,Xf ne];exact v
theorem C3{κ α:Type}[DecidableEq κ]{kus:List (κ×α)}{k:κ}{u:α}(h:cg kus k=none):gY kus k u=kus++[(k,u)]:=by
 induction kus with
 |nil=>rfl
 |cons x r ih=>
  unfold cg at h;rw[Zl]at h;by_cases e:x.1=k;rw[Xa e]at h;cases h
  ·rw[Xf e]at h;have:=ih h;simp only[gY,e,XR,decide_false,Bool.false_or,ZR,if_false]at this ⊢;split at this
   ·rename_i c;rw[Xe c,this];try rfl
   ·rename_i c;rw[Xd c];try rfl
structure BI(Z:Sto)(dl ll:Nat)(kn:Kn)(lus:List U)(kus:List (NK×U))(Y:Sto):Prop where
 pre:∃G,Y=Z++G
 hd:Y[dl]?=some (.dnt kus)
 hl:Y[ll]?=some (.lst lus)
 ne:dl≠ll
 zd:Z.length<=dl
 zl:Z.length<=ll
 ra:RA Z.length [dl,ll] Y kn kus
def Fv(Y:Sto)(dl ll:Nat)(kus:List (NK×U))(lus:List U)(row:List Int)(a:Int)(p:Pl):Sto:=
 ((Y++[O.lst [.int a],O.lst ((row++[a]).map U.int)]).set dl (O.dnt (kus++[(nkP p,.ref (Y.length+1))]))).set ll (O.lst (lus++[plU p]))
theorem BI.grow(B:BI Z dl ll kn lus kus Y)(G:Sto):BI Z dl ll kn lus kus (Y++G):=by
 let⟨G0,e⟩:=B.pre;exact⟨⟨G0++G,by rw[e,ZJ]⟩,ar B.hd,ar B.hl,B.ne,B.zd,B.zl,B.ra.mono λl _ _ o h=>ar h⟩
theorem xi(B:BI Z dl ll kn lus kus Y){l:Nat}{o:O}(h1:l≠dl)(h2:l≠ll)(h:Y[l]?=some o):(Fv Y dl ll kus lus row a p)[l]?=some o:=by
 unfold Fv;rw[ZZ (Ne.symm h2),ZZ (Ne.symm h1)];exact ar h
theorem BI.add(B:BI Z dl ll kn lus kus Y):BI Z dl ll (kn++[(p,row++[a])]) (lus++[plU p]) (kus++[(nkP p,.ref (Y.length+1))]) (Fv Y dl ll kus lus row a p):=by
 let⟨G0,e⟩:=B.pre;have ld:dl<Y.length:=(Z9.mp B.hd).1;have l2:ll<Y.length:=(Z9.mp B.hl).1;have zy:Z.length<=Y.length:=by rw[e,ZV];omega
 refine⟨?_,?_,?_,B.ne,B.zd,B.zl,?_⟩;unfold Fv;rw[e,ZJ,List.set_append_right _ _ B.zd,List.set_append_right _ _ B.zl];exact⟨_,rfl⟩;unfold Fv;rw[ZZ (Ne.symm B.ne),ZE (by rw[ZV];omega)];unfold Fv;rw[ZE (by rw[XO,ZV];omega)];refine Paired.snoc (B.ra.mono λl h1 h2 o h=>?_) ⟨rfl,Y.length+1,rfl,by omega,?_,?_⟩;simp only[ZT,Zv,or_false,not_or]at h2;exact xi B h2.1 h2.2 h;simp only[ZT,Zv,or_false,not_or];omega;unfold Fv;rw[ZZ 24,ZZ 24,ga];rfl
theorem BI.left(B:BI Z dl ll kn lus kus Y)(RY:List U):BI Z dl ll kn RY kus (Y.set ll (.lst RY)):=by
 let⟨G0,e⟩:=B.pre;have l2:ll<Y.length:=(Z9.mp B.hl).1;refine⟨?_,by rw[ZZ (Ne.symm B.ne)];exact B.hd,ZE l2,B.ne,B.zd,B.zl,B.ra.mono λl h1 h2 o h=>?_⟩;rw[e,List.set_append_right _ _ B.zl];exact⟨_,rfl⟩;simp only[ZT,Zv,or_false,not_or]at h2;rw[ZZ (Ne.symm h2.2)];exact h
def jH:uO [.tup (p.1.map U.int),.tup (p.2.map U.int)]=some (nkP p):=by simp only[uO,gH,Z4,XU,nkP]
theorem BZ{l:Nat}(h:Y[l]?=some (.dnt kus)):wY (plU p) (.ref l) Y=some (.bl (!(cg kus (nkP p)).isSome),Y):=by
 unfold wY plU;dsimp only;rw[jH,Z4];unfold vt;rw[h];rfl
theorem NT{l:Nat}{u:U}(h:Y[l]?=some (.dnt kus))(v:cg kus (nkP p)=some u):yx (.ref l) (plU p) Y=some (u,Y):=by
 unfold yx plU;dsimp only;rw[jH,Z4];unfold vt;rw[h];dsimp only;rw[Z4,v];rfl
theorem Jp{co ci cv:CE}{ρ:Rho}{S1 S2 S3:Sto}{v:U}{l:Nat}(h1:cv ρ Y=some (v,S1))(h2:co ρ S1=some (.ref l,S2))(h3:ci ρ S2=some (plU p,S3))(h:S3[l]?=some (.dnt kus))(hl:kus.length<LIM)(hn:cg kus (nkP p)=none) :
  i6 co ci cv ρ Y=some (.nx,ρ,S3.set l (.dnt (kus++[(nkP p,v)]))):=by
 unfold i6;rw[h1,Z4];dsimp only;rw[h2,Z4];dsimp only;rw[h3,Z4];dsimp only[plU];rw[h];dsimp only;rw[jH,Z4,Xe hl,C3 hn]
theorem Oh{l k:Nat}{r1 r2:List Int}(h1:Y[l]?=some (.lst (r1.map U.int)))(h2:Y[k]?=some (.lst (r2.map U.int)))(hl:r1.length+r2.length<=900):eJ (.ref l) (.ref k) Y=some (.ref Y.length,Y++[.lst ((r1++r2).map U.int)]):=by
 have:(r1.map U.int).length+(r2.map U.int).length<=LIM:=by unfold LIM;rw[ZQ,ZQ];omega
 simp only[eJ,lE,h1,h2];rw[Xe this,Zb]
end
section
variable{p0:Pl}{wl:Nat}
def knA(kn:Kn)(row:List Int)(a:Int)(p:Pl):Kn:=if p∈kn.map (·.1)then kn else kn++[(p,row++[a])]
def luA(kn:Kn)(lus:List U)(p:Pl):List U:=if p∈kn.map (·.1)then lus else lus++[plU p]
def stA(kn:Kn)(Y:Sto)(dl ll:Nat)(kus:List (NK×U))(lus:List U)(row:List Int)(a:Int)(p:Pl):Sto:=if p∈kn.map (·.1)then Y else Fv Y dl ll kus lus row a p
theorem BI.stA(B:BI Z dl ll kn lus kus Y):∃v_,BI Z dl ll (knA kn row a p) (luA kn lus p) v_ (stA kn Y dl ll kus lus row a p):=by
 unfold knA luA OQ.stA;split;exact⟨_,B⟩;exact⟨_,B.add⟩
theorem Gv(B:BI Z dl ll kn lus kus Y){l:Nat}{o:O}(h1:l≠dl)(h2:l≠ll)(h:Y[l]?=some o):(stA kn Y dl ll kus lus row a p)[l]?=some o:=by
 unfold stA;split;exact h;exact xi B h1 h2 h
theorem Gr{cd cl cp cn cr:CE}{ρ:Rho}(B:BI Z dl ll kn lus kus Y)(nd:(kn.map (·.1)).Nodup)(hq:(p0,row)∈kn)(hk:kn.length<=1957)(hl:lus.length<=1957)(hr:row.length<=6)
  (vd:∀S,cd ρ S=some (.ref dl,S)) (vl:∀S,cl ρ S=some (.ref ll,S)) (vp:cp ρ Y=some (plU p0,Y)) (vn:∀S,cn ρ S=some (.int a,S)) (vr:∀S,cr ρ S=some (plU p,S)) :
  bV (aA (cOp wY cr cd)) (aM (i6 cd cr (cOp eJ (cOp yx cd cp) (fZ (ae cn aq)))) (eP (cBM cf cl (ae cr aq)))) aT ρ Y=some (.nx,ρ,stA kn Y dl ll kus lus row a p):=by
 have t1:aA (cOp wY cr cd) ρ Y=some (!(cg kus (nkP p)).isSome,Y):=by
  rwa[vr,vd,BZ B.hd]
 rw[xC,t1,Z4];unfold stA;by_cases hp:p∈kn.map (·.1);rw[Xe hp];let⟨q,hq',e⟩:=Zy.mp hp;let⟨l,v,_⟩:=B.ra.val nd hq';rw[e]at v;rw[v];rfl;rw[Xd hp];have hn:=B.ra.none hp;rw[hn];let⟨l,v,l1,l2,l3⟩:=B.ra.val nd hq;dsimp only at v l3;have e1:(Y++[O.lst [.int a]])[Y.length]?=some (.lst ([a].map U.int)):=by rw[ga0];rfl
 have hv:cOp eJ (cOp yx cd cp) (fZ (ae cn aq)) ρ Y=some (.ref (Y.length+1),Y++[O.lst [.int a],O.lst ((row++[a]).map U.int)]):=by
  have s1:cOp yx cd cp ρ Y=some (.ref l,Y):=by
   rwa[vd,vp,NT B.hd v]
  have s2:fZ (ae cn aq) ρ Y=some (.ref Y.length,Y++[O.lst [.int a]]):=by
   rwa[vn]
  have s3:=Oh (Y:=Y++[O.lst [.int a]]) (ar l3) e1 (by rw[List.length_singleton];omega);rw[yG,s1,Z4,mV,s2,Z4,oY,s3,ZJ,ZV];rfl
 have hd2:(Y++[O.lst [.int a],O.lst ((row++[a]).map U.int)])[dl]?=some (.dnt kus):=ar B.hd;have hs:=Jp (ρ:=ρ) hv (vd _) (vr _) hd2 (by rw[<-B.ra.length];unfold LIM;omega) hn;have gl:((Y++[O.lst [.int a],O.lst ((row++[a]).map U.int)]).set dl (.dnt (kus++[(nkP p,.ref (Y.length+1))])))[ll]?=some (.lst lus):=by
  rw[ZZ B.ne];exact ar B.hl
 have hL:lus.length<LIM:=by unfold LIM;omega
 show aM _ _ ρ Y=_;rw[jB hs];rwa[vl,vr,gl,fR hL];rfl
def BG{ws:List (Int×Pl)}:vF row ((a,p)::ws) kn=vF row ws (knA kn row a p):=rfl
def luW(lus:List U):List (Int×Pl)->Kn->List Int->List U
 |[],_,_=>lus
 |(a,p)::ws,kn,row=>luW (luA kn lus p) ws (knA kn row a p) row
theorem Ai:∀(ws:List (Int×Pl)) (kn:Kn) (lus:List U) (t:List (Pl×List Int)),vF row ws kn=kn++t->luW lus ws kn row=lus++t.map λq=>plU q.1
 |[],kn,lus,t,h=>by
  have:t=[]:=by have:=congrArg List.length h;rw[show vF row [] kn=kn from rfl,ZV]at this;exact List.eq_nil_of_length_eq_zero 24
  subst this;exact(Zj _).symm
 |(a,p)::ws,kn,lus,t,h=>by
  rw[BG]at h;unfold luW;by_cases hp:p∈kn.map (·.1)
  ·have e1:knA kn row a p=kn:=by unfold knA;rw[Xe hp]
   have e2:luA kn lus p=lus:=by unfold luA;rw[Xe hp]
   rw[e1]at h;rw[e1,e2];exact Ai ws kn lus t h
  ·have e1:knA kn row a p=kn++[(p,row++[a])]:=by unfold knA;rw[Xd hp]
   have e2:luA kn lus p=lus++[plU p]:=by unfold luA;rw[Xd hp]
   rw[e1]at h;rw[e1,e2];let⟨t',e⟩:=hU (row:=row) ws (kn++[(p,row++[a])]);rw[e,ZJ]at h;have ht:t=[(p,row++[a])]++t':=(List.append_cancel_left h).symm;rw[Ai ws _ (lus++[plU p]) t' e,ht,ZJ,Zb];rfl
theorem yX(R:List U->Prop)(Rm:∀l u,R l->R (l++[u])){ρ0:Option U->Option U->Rho}{cb:CS}{us:List U}(hp:rK w Ds st0 row p0)(hN:Ds.length<=6)(g67:∀u6 u7 v6 v7 S,gTp [6,7] (.tup [u6,u7]) (ρ0 v6 v7) S=some (ρ0 (some u6) (some u7),S))
  (body:∀{kn:Kn} {lus:List U} {kus:List (NK×U)} {Y:Sto} {a:Int} {p:Pl},BI Z dl ll kn lus kus Y->(kn.map (·.1)).Nodup->(p0,row)∈kn->kn.length<=1957->lus.length<=1957->R lus->cb (ρ0 (some (.int a)) (some (plU p))) Y=some (.nx,ρ0 (some (.int a)) (some (plU p)),stA kn Y dl ll kus lus row a p))
  (h1:wl≠dl) (h2:wl≠ll):∀(ws:List (Int×Pl)) (kn:Kn) (lus:List U) (kus:List (NK×U)) (Y:Sto) (v6 v7:Option U),(∀x∈ws,x∈br w p0 Ds 0)->KnI w Ds st0 kn->(p0,row)∈kn->lus.length<=kn.length->R lus->BI Z dl ll kn lus kus Y->Y[wl]?=some (.lst us)->
  ∃v_ Y' v6' v7',dC (λZ=>Z[wl]?=some (.lst us)) (gTp [6,7]) cb (ws.map gR) (ρ0 v6 v7) Y=some (.nx,ρ0 v6' v7',Y')/\BI Z dl ll (vF row ws kn) (luW lus ws kn row) v_ Y'
 |[],kn,lus,kus,Y,v6,v7,_,_,_,_,_,B,hw=>⟨kus,Y,v6,v7,c8 hw,B⟩
 |(a,p)::ws,kn,lus,kus,Y,v6,v7,hws,I,hq,hll,hR,B,hw=>by
  have few:=I.few hN;have I':KnI w Ds st0 (knA kn row a p):=KnI.add hp [(a,p)] kn I λx hx=>by rw[Zw.mp hx];exact hws _ ZD
  have hq':(p0,row)∈knA kn row a p:=by unfold knA;split;exact hq;exact Xx _ hq
  have hb:=body (a:=a) (p:=p) B I.nd hq few 24 hR;let⟨kus1,B1⟩:=B.stA (row:=row) (a:=a) (p:=p);have hll':(luA kn lus p).length<=(knA kn row a p).length:=by
   unfold luA knA;split;exact hll;rw[ZV,ZV];exact Nat.add_le_add_right hll _
  let⟨v_,Y',a6,a7,ih,B'⟩:=yX R Rm hp hN g67 body h1 h2 ws _ _ kus1 _ (some (.int a)) (some (plU p)) (λx hx=>hws x (ZY _ hx)) I' hq' hll' (by unfold luA;split;exact hR;exact Rm _ _ hR) B1 (Gv B h1 h2 hw);refine⟨v_,Y',a6,a7,?_,B'⟩;rw[ZR];exact(bf hw (g67 _ _ _ _ _) hb).trans ih
end
def plQ(q:Pl×List Int):U:=plU q.1
section
variable{st:U}
abbrev rhP(n w:Int)(st:U)(ld dl ll:Nat)(r5 r6 r7:Option U):Rho:=[some 28,some st,some 84,some (.ref dl),some (.ref ll),r5,r6,r7]
abbrev wtP:CT:=aA (cOp fGt (cCB e9 (ae (af 4) aq)) 48)
theorem RF{us:List U}{u:U}{l:Nat}(h:Y[l]?=some (.lst (u::us)))(hl:us.length<=1957):oy (.ref l) [.int 0] Y=some (u,Y.set l (.lst us)):=by
 have c:(0:Int)<=0/\(0:Int)<((u::us).length:Int)/\(u::us).length<=LIM:=⟨Int.le_refl _,by rw[ZM];omega,by unfold LIM;rw[ZM];omega⟩;simp only[oy,h];rw[Xe c];rfl
theorem IA{i:Nat}{q:Pl×List Int}(h:kn[i]?=some q):kn.drop i=q::kn.drop (i+1):=by
 let⟨hi,e⟩:=Z9.mp h;rw[List.drop_eq_getElem_cons hi,e]
theorem sV(hf:fP n w f)(hN:Ds.length<=6)(hs:st0.length=n.toNat)(ok:75)(hz:Z[ld]?=some 59):∀(g i:Nat) (kn:Kn) (kus:List (NK×U)) (Y:Sto) (r5 r6 r7:Option U),KnI w Ds st0 kn->i<=kn.length->1958<=g+i->BI Z dl ll kn ((kn.drop i).map plQ) kus Y->
  ∃v_ RY Y' r5' r6' r7',dA wtP (eC (my f) F) g (rhP n w st ld dl ll r5 r6 r7) Y=some (.nx,rhP n w st ld dl ll r5' r6' r7',Y')/\BI Z dl ll (bfs w Ds g i kn) RY v_ Y'
 |0,i,kn,kus,Y,r5,r6,r7,I,hi,hg,B=>by have:=I.few hN;omega
 |g+1,i,kn,kus,Y,r5,r6,r7,I,hi,hg,B=>by
  have few:=I.few hN;unfold bfs;cases hq:kn[i]? with
  |none=>
   have e:i=kn.length:=by have:=List.getElem?_eq_none_iff.mp hq;omega
   have eL:(kn.drop i).map plQ=[]:=by rw[e,List.drop_length];rfl
   have hl:=B.hl;rw[eL]at hl;refine⟨kus,_,Y,r5,r6,r7,jY ?_,B⟩;rwa[wtP,rhP,hl];rfl
  |some q=>
   dsimp only;have hm:q∈kn:=X3 hq;have pa:=I.pa q hm;have pok:=pa.ok;have rl:=pa.few hN;have ed:=IA hq;have hl:=B.hl;rw[ed,ZR]at hl;have dl1:((kn.drop (i+1)).map plQ).length<=1957:=by rw[ZQ,List.length_drop];omega
   have B1:=B.left ((kn.drop (i+1)).map plQ);obtain⟨Y1,hY1⟩:∃Y1,Y1=Y.set ll (.lst ((kn.drop (i+1)).map plQ)):=⟨_,rfl⟩;rw[<-hY1]at B1;have z1:Y1[ld]?=some (.lst (Ds.map dlU)):=by let⟨G,e⟩:=B1.pre;rw[e];exact ar hz
   let⟨G,hw⟩:=yW (S:=Y1) (p:=q.1) hf (by rw[pok.gone,(dP _).length_eq];omega) (by rw[pok.len];exact hs) z1 ok 24;obtain⟨Y2,hY2⟩:∃Y2,Y2=Y1++(O.lst ((br w q.1 Ds 0).map gR)::G):=⟨_,rfl⟩;have B2:=B1.grow (O.lst ((br w q.1 Ds 0).map gR)::G);rw[<-hY2]at B2 hw;have gw:Y2[Y1.length]?=some (.lst ((br w q.1 Ds 0).map gR)):=by rw[hY2,ga0];rfl
   have d1:Y1.length≠dl:=by have:=(Z9.mp B1.hd).1;omega
   have d2:Y1.length≠ll:=by have:=(Z9.mp B1.hl).1;omega
   let⟨v_,Y',a6,a7,hL,B'⟩:=yX (λ_=>True) (λ_ _ _=>trivial) (ρ0:=λv6 v7=>rhP n w st ld dl ll (some (plU q.1)) v6 v7) (cb:=f9 (my f) F) (row:=q.2) pa hN (λ_ _ _ _ _=>rfl)
    (λ{kn lus kus Y a p} B nd hq hk hl _=>Gr B nd hq hk hl 24 (λ_=>rfl) (λ_=>rfl) rfl (λ_=>rfl) (λ_=>rfl)) d1 d2 _ kn ((kn.drop (i+1)).map plQ) kus Y2 r6 r7 (λx hx=>hx) I hm (by rw[ZQ,List.length_drop];omega) trivial B2 gw
   let⟨t,et⟩:=hU (row:=q.2) (br w q.1 Ds 0) kn;have el:=Ai (row:=q.2) (br w q.1 Ds 0) kn ((kn.drop (i+1)).map plQ) t et;have hi1:i+1<=kn.length:=(Z9.mp hq).1;have el2:luW ((kn.drop (i+1)).map plQ) (br w q.1 Ds 0) kn q.2=((vF q.2 (br w q.1 Ds 0) kn).drop (i+1)).map plQ:=by
    rw[el,et,List.drop_append_of_le_length hi1,Zb];rfl
   rw[el2]at B';have I':=KnI.add pa (br w q.1 Ds 0) kn I λx hx=>hx;let⟨kus2,lus2,Y3,c5,c6,c7,ih,B3⟩:=sV hf hN hs ok hz g (i+1) _ v_ Y' (some (plU q.1)) a6 a7 I' (by rw[et,ZV];omega) 24 B';refine⟨kus2,lus2,Y3,c5,c6,c7,(qh (S0:=Y) ?_ ?_).trans ih,B3⟩;have ge:decide (((plQ q::(kn.drop (i+1)).map plQ).length:Int)>0)=true:=by rw[ZM];exact Xa 24
   simp only[wtP,rhP,hl,BY,yD,yG,mV,oY,Og,JP,rZ,mW,uq,FG,x_c,rV,yE,EI,EJ,Qm,ge,Xy,Zx,Z4];unfold eC;have e5:bB 5 (cBM oy (af 4) (ae 48 aq)) (rhP n w st ld dl ll r5 r6 r7) Y=some (.nx,rhP n w st ld dl ll (some (plU q.1)) r6 r7,Y1):=by
    have:=RF hl dl1;rw[<-hY1]at this;rwa[rhP,hl,this,plQ]
   rw[jB e5];have ei:iTp (cCB (my f) (ae (af 0) (ae (af 2) (ae (af 5) aq)))) (rhP n w st ld dl ll (some (plU q.1)) r6 r7) Y1=some ((br w q.1 Ds 0).map gR,λZ=>Z[Y1.length]?=some (.lst ((br w q.1 Ds 0).map gR)),Y2):=by
    have ec:cCB (my f) (ae (af 0) (ae (af 2) (ae (af 5) aq))) (rhP n w st ld dl ll (some (plU q.1)) r6 r7) Y1=some (.ref Y1.length,Y2):=hw;unfold iTp;rw[ec,Z4];simp only[gw]
   unfold ji;rw[ei,Z4];exact hL
def js(f:Fn)(F:Nat):Fn:=fnU 8 3 (fb (my f) F)
theorem Es{X:Sto}{dl ll k:Nat}(hZ:∃G,X=S++G)(h1:X[dl]?=some (.dnt [(nkP ([],st0),.ref k)]))(h2:X[ll]?=some (.lst [plU ([],st0)]))(h3:X[k]?=some (.lst []))(ne:dl≠ll)(k1:k≠dl)(k2:k≠ll)(zd:S.length<=dl)(zl:S.length<=ll)(zk:S.length<=k):BI S dl ll (kn0 st0) ((kn0 st0).map plQ) [(nkP ([],st0),.ref k)] X:=
 ⟨hZ,h1,h2,ne,zd,zl,.cons ⟨rfl,k,rfl,zk,by simp[k1,k2],h3⟩ .nil⟩
theorem GK(hf:fP n w f)(hN:Ds.length<=6)(hs:st0.length=n.toNat)(ok:75)(hz:S[ld]?=some 59) :
  ∃kus lus Y,js f 3000 [.tup 92,.tup (st0.map U.int),.ref ld] S=some (.ref S.length,Y)/\BI S S.length (S.length+2) (e8 w Ds st0) lus kus Y:=by
 unfold js;rw[Mu];obtain⟨Y0,hY0⟩:∃Y0,Y0=S++[O.dnt [(nkP ([],st0),.ref (S.length+1))],O.lst [],O.lst [plU ([],st0)]]:=⟨_,rfl⟩;have B0:=Es (S:=S) (X:=Y0) (st0:=st0) (dl:=S.length) (ll:=S.length+2) (k:=S.length+1) ⟨_,hY0⟩ (by rw[hY0,ga0];rfl) (by rw[hY0,ga];rfl) (by rw[hY0,ga];rfl) 24 24 24 (ZW _) 24 24;let⟨kus,lus,Y,r5,r6,r7,hL,B⟩:=sV (Z:=S) (F:=3000) (st:=.tup (st0.map U.int)) hf hN hs ok hz 3000 0 (kn0 st0) _ Y0 none none none Au (X5 _) 24 B0;refine⟨kus,lus,Y,?_,B⟩;have e1:bB 3 (uc (b8 (ae (b8 aq) 89)) (fZ aq)) [some 28,some 56,some 84,none,none,none,none,none] S=some (.nx,[some 28,some 56,some 84,some (.ref S.length),none,none,none,none],S++[O.dnt [(nkP ([],st0),.ref (S.length+1))],O.lst []]):=by
  have ed:uc (b8 (ae (b8 aq) 89)) (fZ aq) [some 28,some 56,some 84,none,none,none,none,none] S=some (.ref S.length,S++[O.dnt [(nkP ([],st0),.ref (S.length+1))],O.lst []]):=by
   have k1:b8 (ae (b8 aq) 89) [some 28,some 56,some 84,none,none,none,none,none] (S++[.dnt []])=some (.tup [.tup [],.tup (st0.map U.int)],S++[.dnt []]):=rfl;have k2:fZ aq [some 28,some 56,some 84,none,none,none,none,none] (S++[.dnt []])=some (.ref (S++[O.dnt []]).length,S++[.dnt []]++[.lst []]):=rfl;have nk:uO [.tup [],.tup (st0.map U.int)]=some (nkP ([],st0)):=jH (p:=([],st0));unfold uc;rw[k1,Z4];dsimp only;rw[k2,Z4];dsimp only;rw[nk,Z4,ZJ,ga0];dsimp only[Zu,X6,Xy];rw[gs0,ZV];rfl
  rw[xA,ed];rfl
 have e2:bB 4 (fZ (ae (b8 (ae (b8 aq) 89)) aq)) [some 28,some 56,some 84,some (.ref S.length),none,none,none,none] (S++[O.dnt [(nkP ([],st0),.ref (S.length+1))],O.lst []])=some (.nx,rhP n w 56 ld S.length (S.length+2) none none none,Y0):=by
  rw[hY0];have:(S++[O.dnt [(nkP ([],st0),.ref (S.length+1))],O.lst []]).length=S.length+2:=by rw[ZV];rfl
  have e:fZ (ae (b8 (ae (b8 aq) 89)) aq) [some 28,some 56,some 84,some (.ref S.length),none,none,none,none] (S++[O.dnt [(nkP ([],st0),.ref (S.length+1))],O.lst []])=some (.ref (S++[O.dnt [(nkP ([],st0),.ref (S.length+1))],O.lst []]).length,S++[O.dnt [(nkP ([],st0),.ref (S.length+1))],O.lst []]++[.lst [plU ([],st0)]]):=rfl;rw[xA,e,this,ZJ];rfl
 unfold fb;rw[jB e1,jB e2,jB hL];rfl
end
def yu:Fn:=fnU 2 2 (fe dD)
theorem wX(ns:List Int)(T:Sto){n w:Int}(w0:2<=w)(w1:w<=1000):∀(us:List U) (r:Option U) (ys:List Int) (G:Sto) {a c:Int},0<=a->0<=c->ys.length+us.length<=1000->(∀z∈ys,0<=z/\z<w)->
  ∃(zs:List Int) (a' c':Int) (G':Sto),jO (λ_=>True) (gNm 0) (cCB dD (ae (af 1) (ae (cOp fIx (fZ (ae 71 (ae (cOp fIx (af 2) 46) aq))) (cCB Mo (ae (cOp fEq (cCB dD (ae (af 1) (ae (cC (.int 4)) aq))) 48) aq))) aq))) (T.length+1+1) us [r,some (.ref 1),some 28] (scr ns::pen a c::(T++.lst (ys.map U.int)::G))
   = some (scr ns::pen a' c'::(T++.lst (zs.map U.int)::G'))/\zs.length=ys.length+us.length/\0<=a'/\0<=c'/\∀z∈zs,0<=z/\z<w
 |[],r,ys,G,a,c,ha,hc,hl,hy=>⟨ys,a,c,G,rD trivial,rfl,ha,hc,hy⟩
 |u::us,r,ys,G,a,c,ha,hc,hl,hy=>by
  let⟨f,a1,c1,h1,p1,q1,ha1,hc1⟩:=bC ns (T++.lst (ys.map U.int)::(G++[.lst [.int 2,.int w]])) (m:=4) ha hc 54 39;obtain⟨z,hz,z0,z1⟩:∃z:Int,atI [U.int 2,U.int w] (if (decide (f=0))=true then 1 else 0)=some (.int z)/\0<z/\z<=w:=by
   by_cases e:f=0;rw[Xe (Xa e)];exact⟨w,rfl,by omega,Int.le_refl _⟩;rw[Xf e];exact⟨2,rfl,by omega,by omega⟩
  let⟨g,a2,c2,h2,p2,q2,ha2,hc2⟩:=bC ns (T++.lst (ys.map U.int)::(G++[.lst [.int 2,.int w]])) (m:=z) ha1 hc1 z0 (l9 24 24);let⟨zs,a3,c3,G',h3,e3,ha3,hc3,hb3⟩:=wX ns T (n:=n) w0 w1 us (some u) (ys++[g]) (G++[.lst [.int 2,.int w]]) ha2 hc2 (by simp at hl ⊢;omega) (λx hx=>(X4.mp hx).elim (hy x) λe=>by rw[Zw.mp e];omega);refine⟨zs,a3,c3,G',?_,by simp at e3 ⊢;omega,ha3,hc3,hb3⟩;refine(oB (ρ0:=[some u,some (.ref 1),some 28]) (S0:=scr ns::pen a c::(T++.lst (ys.map U.int)::G)) (S1:=scr ns::pen a2 c2::(T++.lst (ys.map U.int)::(G++[.lst [.int 2,.int w]]))) (x:=.int g) (ys:=ys.map U.int) trivial rfl ?_ ?_ (by unfold LIM;simp at hl ⊢;omega)).trans ?_;have gg:(T++O.lst (ys.map U.int)::(G++[O.lst [.int 2,.int w]]))[T.length+(G.length+1)]?=some (.lst [.int 2,.int w]):=by rw[ga,Zx,ga0];rfl
  rwa[h1,h2,hz,gg,ZV];rwa[];rw[<-h3];rwa[Zb,ZR,Zm]
theorem Ip(ns:List Int)(T:Sto){a c n w:Int}(ha:0<=a)(hc:0<=c)(n0:1<=n)(n1:n<=6)(w0:2<=w)(w1:w<=1000) :
  ∃(zs:List Int) (a' c':Int) (G:Sto),yu [.ref 1,.tup 92] (scr ns::pen a c::T)=some (.tup (zs.map U.int),scr ns::pen a' c'::(T++G))/\zs.length=n.toNat/\0<=a'/\0<=c'/\∀z∈zs,0<=z/\z<w:=by
 unfold yu;rw[D9];let⟨zs,a',c',G',h,e,ha',hc',hb'⟩:=wX ns T (n:=n) w0 w1 (cE 0 n.toNat) none [] [] ha hc (by simp[cE];omega) (λz h=>by cases h);refine⟨zs,a',c',.lst (zs.map U.int)::G',?_,by rw[e];simp[cE],ha',hc',hb'⟩;have hr:-(2^62)<=n/\n<2^62:=by omega
 simp only[Zm]at h;rwa[fe,iD,gq,qA,hr,h,if_true,and_self,ZO,X9]
def qc:Fn:=fnU 8 2 (fH dD)
abbrev pd(d:eZ):Dl 2:=DF.pl d
abbrev pd1(d:eZ):Dl 1:=DF.pl d
abbrev td(a b:List eZ):Dl 2:=DF.tr (a.map pd1) (b.map pd1)
theorem ok1{n w:Int}{ds:List eZ}(h:∀d∈ds,d.ok n w)(hl:ds.length<=30):OkL n w 1 (ds.map pd1):=⟨by rw[ZQ];exact hl,λd hd=>by
 let⟨x,hx,rfl⟩:=Zy.mp hd;exact h x hx⟩
theorem ok2{n w:Int}{ds:List (Dl 2)}{b v:Int}(h:ds.length<=20)(k:∀d∈ds,DF.ok n w (OkL n w 1) d)(b0:0<=b)(b1:b<n)(v0:0<=v)(v1:v<w):OkL n w 2 (ds++[pd (.set 3 v),pd (.put b 3)]):=⟨by rw[ZV];simp;omega,λd hd=>by
 rcases X4.mp hd with z|z;exact k d z;simp only[ZT,Zv,or_false]at z;rcases z with rfl|rfl;exact⟨by omega,by omega,v0,v1⟩;exact⟨by omega,by omega,b0,b1⟩⟩
theorem HR(ns:List Int)(T:Sto){a c n w:Int}(ha:0<=a)(hc:0<=c)(n0:1<=n)(n1:n<=6)(w0:2<=w)(w1:w<=1000) :
  ∃(d:List (Dl 2)) (a' c':Int) (G:Sto),qc [.ref 1,.tup 92] (scr ns::pen a c::T)=some (dlU d,scr ns::pen a' c'::(T++G))/\OkL n w 2 d/\0<=a'/\0<=c':=by
 unfold qc;rw[Mv];let⟨f,a1,c1,e1,p1,q1,ha1,hc1⟩:=bC ns T (m:=n) ha hc 24 (l9 24 24);let⟨g,a2,c2,e2,p2,q2,ha2,hc2⟩:=bC ns T (m:=n) ha1 hc1 24 (l9 24 24);let⟨k,a3,c3,e3,p3,q3,ha3,hc3⟩:=bC ns T (m:=5) ha2 hc2 54 39;let⟨t,a4,c4,e4,p4,q4,ha4,hc4⟩:=bC ns (T++[.lst [.int f,.int g]]) (m:=2) ha3 hc3 54 39;let⟨v,a5,c5,e5,p5,q5,ha5,hc5⟩:=bC ns (T++[.lst [.int f,.int g]]) (m:=2) ha4 hc4 54 39;obtain⟨b,hb,b0,b1⟩:∃b:Int,atI [U.int f,U.int g] t=some (.int b)/\0<=b/\b<n:=by
  have:t=0\/t=1:=by omega
  rcases this with rfl|rfl;exact⟨f,rfl,p1,q1⟩;exact⟨g,rfl,p2,q2⟩
 have cat:∀(x y z u v:U) (S:Sto),eJ (.tup [x,y,z]) (.tup [u,v]) S=some (.tup [x,y,z,u,v],S):=λ_ _ _ _ _ _=>rfl;have cat2:∀(x y u v:U) (S:Sto),eJ (.tup [x,y]) (.tup [u,v]) S=some (.tup [x,y,u,v],S):=λ_ _ _ _ _=>rfl;have cat5:∀(x y z p q u v:U) (S:Sto),eJ (.tup [x,y,z,p,q]) (.tup [u,v]) S=some (.tup [x,y,z,p,q,u,v],S):=λ_ _ _ _ _ _ _ _=>rfl;by_cases k0:k=0;refine⟨[pd (.look 0 f),pd (.set 1 1),pd (.leap 0 1),pd (.leap 2 1),pd .wait]++[pd (.set 3 v),pd (.put b 3)],a5,c5,[.lst [.int f,.int g]],?_,ok2 51 (λd hd=>?_) b0 b1 p5 24,ha5,hc5⟩;have t0:decide (k=0)=true:=Xa k0;have t1:decide (k=1)=false:=Xf 24;rwa[fH,e1,e2,e3,t0,t1,e4,hb,e5,cat,cat2,cat5];rfl;simp only[ZT,Zv,or_false]at hd;rcases hd with rfl|rfl|rfl|rfl|rfl;exact⟨by omega,by omega,p1,q1⟩;exact⟨by omega,by omega,by omega,by omega⟩;exact⟨by omega,by omega,by omega,by omega⟩;exact⟨by omega,by omega,by omega,by omega⟩;exact trivial;have t0:decide (k=0)=false:=Xf k0;by_cases k1:k=1;refine⟨[pd (.look 0 f),td [.leap 0 1,.leap 2 1,.wait] [.look 0 g,.leap 0 1,.wait]]++[pd (.set 3 v),pd (.put b 3)],a5,c5,[.lst [.int f,.int g]],?_,ok2 51 (λd hd=>?_) b0 b1 p5 24,ha5,hc5⟩;have t1:decide (k=1)=true:=Xa k1;rwa[fH,e1,e2,e3,t0,t1,e4,hb,e5,cat,cat2,cat5];rfl;simp only[ZT,Zv,or_false]at hd;rcases hd with rfl|rfl;exact⟨by omega,by omega,p1,q1⟩;refine⟨ok1 (λd hd=>?_) 51,ok1 (λd hd=>?_) 51⟩;simp only[ZT,Zv,or_false]at hd;rcases hd with rfl|rfl|rfl;exact⟨by omega,by omega,by omega,by omega⟩;exact⟨by omega,by omega,by omega,by omega⟩;exact trivial;simp only[ZT,Zv,or_false]at hd;rcases hd with rfl|rfl|rfl;exact⟨by omega,by omega,p2,q2⟩;exact⟨by omega,by omega,by omega,by omega⟩;exact trivial;refine⟨[pd (.look 0 f),pd (.leap 0 1),pd .wait]++[pd (.set 3 v),pd (.put b 3)],a5,c5,[.lst [.int f,.int g]],?_,ok2 51 (λd hd=>?_) b0 b1 p5 24,ha5,hc5⟩;have t1:decide (k=1)=false:=Xf k1;rwa[fH,e1,e2,e3,t0,t1,e4,hb,e5,cat,cat2,cat5];rfl;simp only[ZT,Zv,or_false]at hd;rcases hd with rfl|rfl|rfl;exact⟨by omega,by omega,p1,q1⟩;exact⟨by omega,by omega,by omega,by omega⟩;exact trivial
def oP:Fn:=fnU 6 3 (dr dD (rQ 3) qc)
theorem sE(ns:List Int)(T:Sto){n w m y:Int}(n0:1<=n)(n1:n<=6)(w0:2<=w)(w1:w<=1000):∀(us:List U) (r:Option U) (ys:List (List (Dl 2))) (G:Sto) {a c:Int},0<=a->0<=c->ys.length+us.length<=900->(∀d∈ys,OkL n w 2 d)->
  ∃(zs:List (List (Dl 2))) (a' c':Int) (G':Sto) (r':Option U),dC (λ_=>True) (gNm 5) (aX dD (rQ 3) qc) us [some (.ref 1),some 28,some (.int y),some (.ref (T.length+1+1)),some (.int m),r] (scr ns::pen a c::(T++.lst (ys.map dlU)::G))
   = some (.nx,[some (.ref 1),some 28,some (.int y),some (.ref (T.length+1+1)),some (.int m),r'],scr ns::pen a' c'::(T++.lst (zs.map dlU)::G'))/\zs.length=ys.length+us.length/\(∀d∈zs,OkL n w 2 d)/\0<=a'/\0<=c'
 |[],r,ys,G,a,c,ha,hc,hl,hy=>⟨ys,a,c,G,r,c8 trivial,rfl,hy,ha,hc⟩
 |u::us,r,ys,G,a,c,ha,hc,hl,hy=>by
  have step:∃(d:List (Dl 2)) (a1 c1:Int) (G1:Sto),aX dD (rQ 3) qc [some (.ref 1),some 28,some (.int y),some (.ref (T.length+1+1)),some (.int m),some u] (scr ns::pen a c::(T++.lst (ys.map dlU)::G))
    = some (.nx,[some (.ref 1),some 28,some (.int y),some (.ref (T.length+1+1)),some (.int m),some u],scr ns::pen a1 c1::(T++.lst ((ys++[d]).map dlU)::(G++G1)))/\OkL n w 2 d/\0<=a1/\0<=c1:=by
   have hL:(ys.map dlU).length<LIM:=by unfold LIM;simp at hl ⊢;omega
   have em:∀d:List (Dl 2),(ys++[d]).map dlU=ys.map dlU++[dlU d]:=λd=>by rw[Zb];rfl
   let⟨f,a1,c1,e1,p1,q1,ha1,hc1⟩:=bC ns (T++.lst (ys.map dlU)::G) (m:=4) ha hc 54 39;have mk:∀{a c:Int},0<=a->0<=c->∃(d:List (Dl 2)) (a1 c1:Int) (G1:Sto),qc [.ref 1,.tup 92] (scr ns::pen a c::(T++.lst (ys.map dlU)::G))=some (dlU d,scr ns::pen a1 c1::(T++.lst (ys.map dlU)::(G++G1)))/\OkL n w 2 d/\0<=a1/\0<=c1:=λha hc=>by
    let⟨d,a1,c1,G1,h,k⟩:=HR ns (T++.lst (ys.map dlU)::G) ha hc n0 n1 w0 w1;exact⟨d,a1,c1,G1,by rw[h,ZJ,Zu],k⟩
   by_cases m5:m<5;have t5:decide (m<5)=true:=Xa m5;by_cases f0:f=0;have t0:decide (f=0)=true:=Xa f0;let⟨d,a2,c2,G1,h1,kd,_,_,ha2,hc2,_⟩:=w9 n0 n1 w0 w1 3 2 2 24 24 ns (T++.lst (ys.map dlU)::G) a1 c1 10 ha1 hc1 24 24;have c2':((2:Nat):Int)=2:=rfl;simp only[c2',ZJ,Zu]at h1;refine⟨d,a2,c2,G1,?_,kd,ha2,hc2⟩;rw[em];rwa[aX,e1,t5,t0,h1,fR hL,dlU];have t0:decide (f=0)=false:=Xf f0;let⟨d,a2,c2,G1,h1,kd,ha2,hc2⟩:=mk ha1 hc1;refine⟨d,a2,c2,G1,?_,kd,ha2,hc2⟩;rw[em];rwa[aX,e1,t5,t0,h1,fR hL];have t5:decide (m<5)=false:=Xf m5;let⟨d,a2,c2,G1,h1,kd,ha2,hc2⟩:=mk ha hc;refine⟨d,a2,c2,G1,?_,kd,ha2,hc2⟩;rw[em];rwa[aX,t5,h1,fR hL]
  let⟨d,a1,c1,G1,h1,kd,ha1,hc1⟩:=step;let⟨zs,a2,c2,G2,r',h2,e2,b2,ha2,hc2⟩:=sE ns T n0 n1 w0 w1 us (some u) (ys++[d]) (G++G1) (m:=m) ha1 hc1 (by simp at hl ⊢;omega) (λx hx=>by
   rcases X4.mp hx with z|z;exact hy x z;rw[Zw.mp z];exact kd)
  exact⟨zs,a2,c2,G2,r',(bf trivial rfl h1).trans h2,by simp at e2 ⊢;omega,b2,ha2,hc2⟩
theorem CM(ns:List Int)(T:Sto){a c n w y:Int}(y0:0<y)(y1:y<=6)(ha:0<=a)(hc:0<=c)(n0:1<=n)(n1:n<=6)(w0:2<=w)(w1:w<=1000) :
  ∃(Ds:List (List (Dl 2))) (a' c':Int) (G:Sto),oP [.ref 1,.tup 92,.int y] (scr ns::pen a c::T)=some (.ref (T.length+1+1),scr ns::pen a' c'::(T++.lst (Ds.map dlU)::G))/\((Ds.length:Int)<=y/\1<=Ds.length)/\(∀d∈Ds,OkL n w 2 d)/\0<=a'/\0<=c':=by
 unfold oP;rw[Mx];let⟨f,a1,c1,e1,p1,q1,ha1,hc1⟩:=bC ns (T++[.lst []]) (m:=y) ha hc y0 (l9 24 24);let⟨zs,a2,c2,G2,r',h2,e2,b2,ha2,hc2⟩:=sE (y:=y) ns T n0 n1 w0 w1 (cE 0 (1+f).toNat) none [] [] (m:=1+f) ha1 hc1 (by simp[cE];omega) 51;refine⟨zs,a2,c2,G2,?_,⟨by rw[e2];simp[cE];omega,by rw[e2];simp[cE];omega⟩,b2,ha2,hc2⟩;have hr:-(2^62)<=1+f/\1+f<2^62:=by omega
 simp only[Zm]at h2;rwa[dr,ji,gq,e1,hr,h2,if_true,and_self]
theorem Gy(ns:List Int)(T:Sto){a c n w:Int}(ha:0<=a)(hc:0<=c)(n0:1<=n)(n1:n<=6)(w0:2<=w)(w1:w<=1000) :
  ∃(Ds:List (List (Dl 2))) (a' c':Int) (G:Sto),oP [.ref 1,.tup 92,.int 6] (scr ns::pen a c::T)=some (.ref (T.length+1+1),scr ns::pen a' c'::(T++.lst (Ds.map dlU)::G))/\Ds.length<=6/\(∀d∈Ds,OkL n w 2 d)/\0<=a'/\0<=c':=by
 let⟨Ds,a',c',G,h,l,k⟩:=CM ns T (y:=6) 24 24 ha hc n0 n1 w0 w1;exact⟨Ds,a',c',G,h,by omega,k⟩
section
variable{no:List Nat}
def PR(N:Nat)(q:Pl×List Int):Bool:=decide ((q.1.1.length:Int)=(N:Int))
theorem RA.keys(h:RA b no Y kn kus):(kus.map λq=>nU q.1)=kn.map plQ:=by
 induction h with
 |nil=>rfl
 |@cons q k ks us r t ih=>
  rw[ZR,ZR,ih,r.1];rfl
theorem JG{l:Nat}{u:U}{p:Pl}{ep:Nat}(h:Y[l]?=some (.fdn ep kus))(v:cg kus (nkP p)=some u):yx (.ref l) (plU p) Y=some (u,Y):=by
 unfold yx plU;dsimp only;rw[jH,Z4];unfold vt;rw[h];dsimp only;rw[Z4,v];rfl
theorem wg{o1 o2:O}(h:Y[dl]?=some o2):(Y.set dl o1).set dl o2=Y:=by
 rw[XG];refine Zs λi=>?_;by_cases e:dl=i;subst e;rw[ZE (Z9.mp h).1,h];rw[ZZ e]
end
local macro_rules
 | `(tactic| and_intros) => `(tactic| (repeat' first | assumption | exact k_var | exact k_c | exact k_nil | exact k_skip | exact k_dnew | exact k_gnm | exact k_gtp | exact z_ix | exact z_fI | exact z_eqq | exact z_neq | exact z_isn | exact z_notn | exact z_len | exact z_list | exact z_tuple | exact z_sorted | exact z_sortedU | exact z_in | exact z_add | exact z_mulR | exact z_int | exact (λ_ _ => z_append) | apply k_fn | apply k_seq | apply k_set | apply k_ret | apply k_drop | apply k_ifs | apply k_op | apply k_cons | apply k_tup | apply k_lst | apply k_cb | apply k_test | apply k_and | apply k_or | apply k_not | apply k_andV | apply k_fld | apply k_setF | apply k_meth | apply k_make | apply k_bm | apply k_setIx | apply k_asg | apply k_while | apply k_for | apply k_itp | apply k_enum | apply k_forD | apply k_compIf | apply k_sl | (apply k_disp; simp only [List.forall_mem_cons, List.forall_mem_nil, and_true]) | (intro _ hx; cases hx) | (intro _ hx; cases hx; done) | apply And.intro))
variable{z:Fz}{f:Fn}
def gJ(aR:Fn):CS:=
 (bR (kQ (cOp fLt (cCB e9 (ae (cOp fIx (af 2) 48) aq)) (cCB e9 89)) (cOp fEq (cCB e9 (ae (cCB aR (ae (af 0) (ae (af 1) (ae (af 2) aq)))) aq)) 48)))
def kS(aK cw:Fn):CS:=
 (bV (aA (cCB cw (ae (af 0) (ae (af 2) (ae (af 4) aq))))) (bR (b8 (ae (cC (.str "stuck")) (ae (cOp yx (af 3) (af 4)) aq)))) aT)
def Bp(aK cw:Fn):CS:=
 (aM (bB 3 (cCB aK (ae (af 0) (ae (af 1) (ae (af 2) aq)))))
  (aM (ph (af 3) (gNm 4) (kS aK cw))
  (bR (b8 (ae (cC (.str "free")) (ae (cCB mx (ae (af 3) aq)) aq))))))
abbrev ln(q:Pl×List Int):Nat:=q.1.1.length
def stk(w:Int)(Ds:List (List (Dl 2)))(q:Pl×List Int):Bool:=decide ((q.1.1.length:Int)<(Ds.length:Int))&&decide (((br w q.1 Ds 0).length:Int)=0)
def FC(w:Int)(Ds:List (List (Dl 2)))(kn:Kn)(q:Pl×List Int):Prop:=∀x∈br w q.1 Ds 0,x.2∈kn.map (·.1)
theorem Bx:∀(g i:Nat) (kn:Kn),∃t,bfs w Ds g i kn=kn++t
 |0,i,kn=>⟨[],(Zj _).symm⟩
 |g+1,i,kn=>by
  unfold bfs;split;exact⟨[],(Zj _).symm⟩;rename_i q hq;let⟨t,e⟩:=hU (row:=q.2) (br w q.1 Ds 0) kn;let⟨t',e'⟩:=Bx g (i+1) (vF q.2 (br w q.1 Ds 0) kn);exact⟨t++t',by rw[e',e,ZJ]⟩
theorem pZ(hN:Ds.length<=6):∀(g i:Nat) (kn:Kn),KnI w Ds st0 kn->1958<=g+i->i<=kn.length->(∀j<i,∀q,kn[j]?=some q->FC w Ds kn q)->∀q∈bfs w Ds g i kn,FC w Ds (bfs w Ds g i kn) q
 |0,i,kn,I,hg,hi,_=>by have:=I.few hN;omega
 |g+1,i,kn,I,hg,hi,hJ=>by
  unfold bfs;cases hq:kn[i]? with
  |none=>
   have e:i=kn.length:=by have:=List.getElem?_eq_none_iff.mp hq;omega
   intro q hm;dsimp only at hm ⊢;let⟨j,hj,ej⟩:=List.getElem_of_mem hm;exact hJ j 24 q (by rw[ZK hj,ej])
  |some q=>
   dsimp only;have pa:=I.pa q (X3 hq);have hl:i<kn.length:=(Z9.mp hq).1;let⟨t,et⟩:=hU (row:=q.2) (br w q.1 Ds 0) kn;refine pZ hN g (i+1) _ (KnI.add pa _ _ I λx hx=>hx) 24 (by rw[et,ZV];omega) λj hj q' hq'=>?_;rcases Nat.lt_or_ge j i with c|c;have hj':kn[j]?=some q':=by
    rw[et,Zk 24]at hq';exact hq'
   intro x hx;rw[et,Zb];exact Xx _ (hJ j c q' hj' x hx);have:j=i:=by omega
   subst this;have:q'=q:=by
    rw[et,Zk hl,hq]at hq';injection hq' with h;exact h.symm
   subst this;exact λx hx=>xh _ _ x hx
theorem sN(hN:Ds.length<=6)(h:rK w Ds st0 r p):p∈(e8 w Ds st0).map (·.1):=by
 have cl:=pZ (w:=w) (st0:=st0) hN 3000 0 (kn0 st0) Au 24 (X5 _) λj hj=>by omega
 induction h with
 |nil=>
  let⟨t,e⟩:=Bx (w:=w) (Ds:=Ds) 3000 0 (kn0 st0);unfold e8;rw[e,Zb];exact Xx _ (by simp[kn0])
 |@snoc r p p' a _ hw ih=>
  let⟨q,hq,e⟩:=Zy.mp ih;exact cl q hq (a,p') (by rw[e];exact hw)
theorem vY{κ α:Type}[DecidableEq κ]{kus:List (κ×α)}{k:κ}{v:α}(h:cg kus k=some v):(k,v)∈kus:=by
 unfold cg at h;let⟨q,hq,rfl⟩:=X1.mp h;have e:=List.find?_some hq;have e':q.1=k:=of_decide_eq_true e;rw[<-e'];exact List.mem_of_find?_eq_some hq
def Bd(w:Int)(m:M):Prop:=(∀h∈m.hs,0<=h/\h<w)/\∀p∈m.ps,0<=p.2/\p.2<w
section
variable{m:M}{rn:List α->M->Bool×M}{kk:List α->Prop}
theorem AU{l:List Int}{k:Nat}(hw:0<w)(h:∀z∈l,0<=z/\z<w):0<=l.getD k 0/\l.getD k 0<w:=by
 rw[Zo];cases e:l[k]? with
 |none=>exact⟨Int.le_refl 0,hw⟩
 |some z=>exact h z (X3 e)
theorem zr{l:List Int}{k:Nat}{v:Int}(h:∀z∈l,0<=z/\z<w)(hv:0<=v/\v<w):∀z∈l.set k v,0<=z/\z<w:=λz hz=>by
 rcases List.mem_or_eq_of_mem_set hz with hz|rfl;exact h z hz;exact hv
theorem DD{ps:List (Int×Int)}{b v:Int}{p:Int×Int}(h:p∈gY ps b v):p∈ps\/p.2=v:=by
 unfold gY at h;split at h;let⟨q,hq,rfl⟩:=Zy.mp h;split;exact .inr rfl;exact .inl hq;rcases X4.mp h with h|h;exact .inl h;rw[Zw.mp h];exact .inr rfl
theorem qt(hw:0<w)(hf:∀z∈first,0<=z/\z<w){d:eZ}(od:d.ok n w)(h:Bd w m):Bd w (step w first m d):=by
 cases d with
 |look g b=>
  refine⟨zr h.1 ?_,h.2⟩;unfold qT;cases e:cg m.ps b with
  |none=>exact AU hw hf
  |some v=>exact h.2 _ (vY e)
 |put b g=>
  refine⟨h.1,λp hp=>?_⟩;rcases DD hp with hp|hp;exact h.2 p hp;rw[hp];exact AU hw h.1
 |set g v=>exact⟨zr h.1 ⟨od.2.2.1,od.2.2.2⟩,h.2⟩
 |plus g k=>exact⟨zr h.1 ⟨Xg _ 24,Int.emod_lt_of_pos _ hw⟩,h.2⟩
 |leap g k=>exact h
 |wait=>exact h
theorem Gq(hm:∀a m,kk a->Bd w m->Bd w (rn a m).2){a b:List α}(ka:kk a)(kb:kk b)(h:Bd w m):Bd w (I0 rn a b m).2:=by
 unfold I0;have h1:=hm a m ka h;cases e:rn a m with
 |mk t m'=>
  rw[e]at h1;cases t with
  |true=>exact h1
  |false=>exact hm b _ kb ⟨h.1,h.2⟩
theorem gX(hw:0<w)(hf:∀z∈first,0<=z/\z<w)(hm:∀a m,kk a->Bd w m->Bd w (rn a m).2):∀(ds:List (DF α)) (k:Nat) (m:M),(∀d∈ds,DF.ok n w kk d)->Bd w m->Bd w (dz w first rn ds k m).2
 |[],k,m,_,h=>by rw[dz];exact h
 |d::r,k+1,m,hd,h=>by rw[dz];exact gX hw hf hm r k m (λd z=>hd d (ZY _ z)) h
 |.tr a b::r,0,m,hd,h=>by
  rw[dz];obtain⟨ka,kb⟩:kk a/\kk b:=hd _ ZD;have h1:=Gq hm ka kb h;cases e:I0 rn a b m with
  |mk t m'=>
   rw[e]at h1;cases t with
   |true=>exact gX hw hf hm r 0 m' (λd z=>hd d (ZY _ z)) h1
   |false=>exact h1
 |.pl .wait::r,0,m,hd,h=>by rw[dz];exact h
 |.pl (.leap g k)::r,0,m,hd,h=>by rw[dz];exact gX hw hf hm r _ m (λd z=>hd d (ZY _ z)) h
 |.pl (.look g b)::r,0,m,hd,h=>by rw[dz];exact gX hw hf hm r 0 _ (λd z=>hd d (ZY _ z)) (qt (n:=n) hw hf (d:=.look g b) (hd _ ZD) h)
 |.pl (.put g b)::r,0,m,hd,h=>by rw[dz];exact gX hw hf hm r 0 _ (λd z=>hd d (ZY _ z)) (qt (n:=n) hw hf (d:=.put g b) (hd _ ZD) h)
 |.pl (.set g b)::r,0,m,hd,h=>by rw[dz];exact gX hw hf hm r 0 _ (λd z=>hd d (ZY _ z)) (qt (n:=n) hw hf (d:=.set g b) (hd _ ZD) h)
 |.pl (.plus g b)::r,0,m,hd,h=>by rw[dz];exact gX hw hf hm r 0 _ (λd z=>hd d (ZY _ z)) (qt (n:=n) hw hf (d:=.plus g b) (hd _ ZD) h)
theorem zB(hw:0<w)(hf:∀z∈first,0<=z/\z<w):∀(j:Nat) (ds:List (Dl j)) (m:M),OkL n w j ds->Bd w m->Bd w (oW w first j ds m).2
 |0,ds,m,od,h=>gX (n:=n) (rn:=λ_ m=>(true,m)) (kk:=λ_=>False) hw hf (λ_ _ _ h=>h) ds 0 m od.2 h
 |j+1,ds,m,od,h=>gX (n:=n) (rn:=oW w first j) (kk:=OkL n w j) hw hf (λa m ka h=>zB hw hf j a m ka h) ds 0 m od.2 h
theorem bd0(hw:0<w):Bd w m0:=⟨λh hh=>by
 simp only[m0,ZT,Zv,or_false]at hh;rcases hh with rfl|rfl|rfl|rfl<;>exact⟨Int.le_refl 0,hw⟩,λp hp=>by cases hp⟩
end
structure PlOk(n w:Int)(N:Nat)(p:Pl):Prop where
 so:p.1.Pairwise (· < ·)
 bd:∀b∈p.1,0<=b/\b<(N:Int)
 ln:p.2.length=n.toNat
 sb:∀z∈p.2,0<=z/\z<w
structure gN(n w:Int)(Ds:List (List (Dl 2)))(st0:List Int)(ks:List Pl):Prop where
 pl:∀p∈ks,PlOk n w Ds.length p
 cl:∀p∈ks,∀x∈br w p Ds 0,x.2∈ks
 st:([],st0)∈ks
 ln:ks.length<=4000
theorem Mh{st st':List Int}{d:List (Dl 2)}(hw:0<w)(od:OkL n w 2 d)(hb:∀z∈st,0<=z/\z<w)(h:goD w st d=some st'):∀z∈st',0<=z/\z<w:=by
 have hd:=zB (n:=n) hw hb 2 d m0 od (bd0 hw);unfold goD at h;split at h;rename_i m e;rw[e]at hd;cases h;intro z hz;unfold beh at hz;let⟨q,hq,rfl⟩:=Zy.mp hz;cases hv:cg m.ps (q.2:Int)with
 |none=>exact hb _ (List.fst_mem_of_mem_zipIdx hq)
 |some v=>
  exact hd.2 _ (vY hv)
 cases h
theorem rK.bd(hw:0<w)(ok:75)(hb:∀z∈st0,0<=z/\z<w)(h:rK w Ds st0 r p):∀z∈p.2,0<=z/\z<w:=by
 induction h with
 |nil=>exact hb
 |@snoc r p p' a _ hm ih=>
  let⟨i,h1,h2,h3,st,h4,rfl⟩:=iG hm;refine Mh (d:=Ds.getD i []) hw (ok _ ?_) ih h4;rw[Zo,ZK h2];exact XT h2
theorem CV(hN:Ds.length<=6)(w0:0<w)(hs:st0.length=n.toNat)(ok:75)(hb:∀z∈st0,0<=z/\z<w):gN n w Ds st0 ((e8 w Ds st0).map (·.1)):=by
 have I:=mK (w:=w) (Ds:=Ds) (st0:=st0);have few:=I.few hN;refine⟨λp hp=>?_,λp hp x hx=>?_,sN hN .nil,by rw[ZQ];omega⟩;let⟨q,hq,rfl⟩:=Zy.mp hp;have pa:=I.pa q hq;have po:=pa.ok;refine⟨?_,λb h=>po.bd b (by rw[po.gone]at h;exact(dP _).mem_iff.mp h),by rw[po.len];exact hs,pa.bd w0 ok hb⟩;have nd:(dY q.2).Nodup:=(dP q.2).nodup_iff.mpr po.nd;rw[po.gone];exact((iI q.2).and nd).imp λ⟨a,b⟩=>by omega
 let⟨q,hq,rfl⟩:=Zy.mp hp;exact sN hN (.snoc (I.pa q hq) hx)
theorem gN.of{ks ks':List Pl}(T:gN n w Ds st0 ks)(h:∀p,p∈ks'↔p∈ks)(hl:ks'.length<=4000):gN n w Ds st0 ks':=
 ⟨λp hp=>T.pl p ((h p).mp hp),λp hp x hx=>(h _).mpr (T.cl p ((h p).mp hp) x hx),(h _).mpr T.st,hl⟩
theorem zE(n:Nat):cE 0 n=((Zp n).map λi:Nat=>(i:Int)).map U.int:=by
 unfold cE;rw[Za];refine XW λi _=>?_;simp
theorem lH{α:Type}{ok:Sto->Prop}{gg:CG}{ct:CT}{ce:CE}{S:Sto}{f:α->U}{p:α->Bool}{v:α->U}{Rel:Rho->Prop}(hok:∀ys G,ok (S++(.lst ys::G))) :
  ∀(xs:List α) (ys:List U) (G:Sto) (ρ:Rho),Rel ρ->ys.length+xs.length<=9999->
  (∀x∈xs,∀ys G ρ,Rel ρ->∃ρ0 G1,Rel ρ0/\gg (f x) ρ (S++(.lst ys::G))=some (ρ0,S++(.lst ys::G))/\ct ρ0 (S++(.lst ys::G))=some (p x,S++(.lst ys::(G++G1)))/\
   (p x=true->∃G2,ce ρ0 (S++(.lst ys::(G++G1)))=some (v x,S++(.lst ys::(G++G1++G2)))))->
  ∃G',cT ok gg ct ce S.length (xs.map f) ρ (S++(.lst ys::G))=some (S++(.lst (ys++(xs.filter p).map v)::(G++G')))
 |[],ys,G,ρ,_,_,_=>⟨[],by simp only[Zm,List.filter_nil,Zj];exact lI (hok ys G)⟩
 |x::xs,ys,G,ρ,hr,hl,hb=>by
  rw[ZM]at hl;let⟨ρ0,G1,r0,h1,h2,h3⟩:=hb x ZD ys G ρ hr;have hb':=λx (hx:x∈xs)=>hb x (ZY _ hx);cases hp:p x with
  |false=>
   rw[hp]at h2;let⟨G',h⟩:=lH hok xs ys (G++G1) ρ0 r0 24 hb';refine⟨G1++G',?_⟩;rw[ZR,List.filter_cons_of_neg (by simp[hp])];refine(oC (hok ys G) h1 h2).trans ?_;rw[h,ZJ]
  |true=>
   rw[hp]at h2;let⟨G2,h4⟩:=h3 hp;let⟨G',h⟩:=lH hok xs (ys++[v x]) (G++G1++G2) ρ0 r0 72 hb';refine⟨G1++(G2++G'),?_⟩;rw[ZR,List.filter_cons_of_pos hp];refine(pQ (hok ys G) h1 h2 h4 (by rw[ga0];rfl) (by unfold LIM;omega)).trans ?_;rw[gs0];simp only[List.set_cons_zero];rw[h];simp only[ZR,ZJ,Zu,X6]
theorem xa{α:Type}{ok:Sto->Prop}{gg:CG}{ce:CE}{S:Sto}{f:α->U}{v:α->U}{Rel:Rho->Prop}(hok:∀ys G,ok (S++(.lst ys::G))) :
  ∀(xs:List α) (ys:List U) (G:Sto) (ρ:Rho),Rel ρ->ys.length+xs.length<=9999->
  (∀x∈xs,∀ys G ρ,Rel ρ->∃ρ0 G1,Rel ρ0/\gg (f x) ρ (S++(.lst ys::G))=some (ρ0,S++(.lst ys::G))/\ce ρ0 (S++(.lst ys::G))=some (v x,S++(.lst ys::(G++G1))))->
  ∃G',jO ok gg ce S.length (xs.map f) ρ (S++(.lst ys::G))=some (S++(.lst (ys++xs.map v)::(G++G')))
 |[],ys,G,ρ,_,_,_=>⟨[],by simp only[Zm,Zj];exact rD (hok ys G)⟩
 |x::xs,ys,G,ρ,hr,hl,hb=>by
  rw[ZM]at hl;let⟨ρ0,G1,r0,h1,h2⟩:=hb x ZD ys G ρ hr;let⟨G',h⟩:=xa hok xs (ys++[v x]) (G++G1) ρ0 r0 72 (λx hx=>hb x (ZY _ hx));refine⟨G1++G',?_⟩;rw[ZR];refine(oB (hok ys G) h1 h2 (by rw[ga0];rfl) (by unfold LIM;omega)).trans ?_;rw[gs0];simp only[List.set_cons_zero];rw[h];simp only[ZR,ZJ,Zu,X6]
theorem oA{α:Type}{ok:Sto->Prop}{gg:CG}{ce:CE}{S:Sto}{f:α->U}{v:α->U}{Rel:Rho->Prop}(hok:∀ys G,ok (S++(.lst ys::G))) :
  ∀(xs:List α) (ys:List U) (G:Sto) (ρ:Rho),Rel ρ->ys.length+xs.length<=9999->
  (∀x∈xs,∀ys G ρ,Rel ρ->∃ρ0,Rel ρ0/\gg (f x) ρ (S++(.lst ys::G))=some (ρ0,S++(.lst ys::G))/\ce ρ0 (S++(.lst ys::G))=some (v x,S++(.lst ys::G)))->
  jO ok gg ce S.length (xs.map f) ρ (S++(.lst ys::G))=some (S++(.lst (ys++xs.map v)::G))
 |[],ys,G,ρ,_,_,_=>by simp only[Zm,Zj];exact rD (hok ys G)
 |x::xs,ys,G,ρ,hr,hl,hb=>by
  rw[ZM]at hl;let⟨ρ0,r0,h1,h2⟩:=hb x ZD ys G ρ hr;have h:=oA hok xs (ys++[v x]) G ρ0 r0 72 (λx hx=>hb x (ZY _ hx));rw[ZR];refine(oB (hok ys G) h1 h2 (by rw[ga0];rfl) (by unfold LIM;omega)).trans ?_;rw[gs0];simp only[List.set_cons_zero];rw[h];simp only[ZR,ZJ,Zu,X6]
def Wp{α:Type}(x:Option α)(Q:α->Prop):Prop:=∃r,x=some r/\Q r
section
variable{x:Option α}{Q:α->Prop}
def yT{r:α}:Wp (some r) Q=Q r:=propext ⟨λ⟨_,e,h⟩=>by cases e;exact h,λh=>⟨r,rfl,h⟩⟩
def Wp.of{r:α}(h:x=some r)(q:Q r):Wp x Q:=⟨r,h,q⟩
end
variable{ca:CE}{t:CT}{ρ:Rho}{Q:U×Sto->Prop}
section
variable{ci:CI}{gg:CG}{ct:CT}{ce:CE}{caps:List Nat}{cs:Rho}{S1:Sto}{ok:Sto->Prop}{xs:List α}{f v:α->U}{p:α->Bool}{l:Nat}
theorem mG(h:ca ρ S=some (.ref l,S1))(hl:S1[l]?=some (.lst us)):iTp ca ρ S=some (us,λS=>S[l]?=some (.lst us),S1):=by
 unfold iTp;rw[h,Z4];simp only[hl]
theorem Ia(h:ca ρ S=some (.tup us,S1)):iTp ca ρ S=some (us,λ_=>True,S1):=by
 unfold iTp;rw[h,Z4]
theorem uw(hi:ci ρ S=some (xs.map f,ok,S1))(hok:∀G,ok (S1++G))(hn:xs.length<=9000)(hr:qA 1 caps ρ=none::cs)
  (hb:∀x∈xs,∀G,Wp (ct (some (f x)::cs) (S1++G)) λs=>s.1=p x/\∃G1,s.2=S1++G++G1/\(p x=true->Wp (ce (some (f x)::cs) (S1++G++G1)) λt=>t.1=v x/\∃G2,t.2=S1++G++G1++G2))
  (hQ:∀G,Q (.ref S1.length,S1++(.lst ((xs.filter p).map v)::G))):Wp (du ci (gNm 0) ct ce 1 caps ρ S) Q:=by
 let⟨G,e⟩:=lH (S:=S1) (ok:=ok) (gg:=gNm 0) (ct:=ct) (ce:=ce) (f:=f) (p:=p) (v:=v) (Rel:=λρ=>∃r0,ρ=r0::cs) (λys G=>hok _) xs [] [] (none::cs) ⟨_,rfl⟩ 72 (λx hx ys G ρ hρ=>by
  let⟨r0,rfl⟩:=hρ;let⟨⟨b,S2⟩,e1,e2,G1,e3,h⟩:=hb x hx (.lst ys::G);dsimp only at e2 e3;subst e2 e3;refine⟨some (f x)::cs,G1,⟨_,rfl⟩,rfl,by rw[e1,ZJ,Zu],λhp=>?_⟩;let⟨⟨b,S2⟩,e4,e5,G2,e6⟩:=h hp;dsimp only at e5 e6;subst e5 e6;refine⟨G2,?_⟩;simp only[ZJ,Zu]at e4 ⊢;exact e4)
 refine⟨_,?_,hQ G⟩;unfold du;rw[hi,Z4,hr];dsimp only;rw[e];rfl
theorem J5(hi:ci ρ S=some (xs.map f,ok,S1))(hok:∀G,ok (S1++G))(hn:xs.length<=9000)(hr:qA 1 caps ρ=none::cs)
  (hb:∀x∈xs,∀G,Wp (ce (some (f x)::cs) (S1++G)) λt=>t.1=v x/\∃G2,t.2=S1++G++G2)
  (hQ:∀G,Q (.ref S1.length,S1++(.lst (xs.map v)::G))):Wp (iD ci (gNm 0) ce 1 caps ρ S) Q:=by
 let⟨G,e⟩:=xa (S:=S1) (ok:=ok) (gg:=gNm 0) (ce:=ce) (f:=f) (v:=v) (Rel:=λρ=>∃r0,ρ=r0::cs) (λys G=>hok _) xs [] [] (none::cs) ⟨_,rfl⟩ 72 (λx hx ys G ρ hρ=>by
  let⟨r0,rfl⟩:=hρ;let⟨⟨b,S2⟩,e1,e2,G1,e3⟩:=hb x hx (.lst ys::G);dsimp only at e2 e3;subst e2 e3;exact⟨some (f x)::cs,G1,⟨_,rfl⟩,rfl,by rw[e1,ZJ,Zu]⟩)
 refine⟨_,?_,hQ G⟩;unfold iD;rw[hi,Z4,hr];dsimp only;rw[e];rfl
theorem MW{bs:List Bool}(hl:S[l]?=some (.lst (bs.map U.bl)))(q:Q (.bl (bs.all id),S)):Wp (yi [.ref l] S) Q:=
 .of (by simp only[yi,hl,rF,Z4]) q
theorem Rv{bs:List Bool}(hl:S[l]?=some (.lst (bs.map U.bl)))(q:Q (.bl (bs.any id),S)):Wp (Je [.ref l] S) Q:=
 .of (by simp only[Je,hl,rF,Z4]) q
end
section
variable{c1 c2:CS}{ta tb:CT}{cb:CE}{cr:CA}{u:U}{n k:Nat}{b:Bool}{R:Out×Rho×Sto->Prop}{T:Bool×Sto->Prop}{A:List U×Sto->Prop}
theorem Nb(h:Wp (c1 ρ S) λr=>r.1=.nx/\Wp (c2 r.2.1 r.2.2) R):Wp (aM c1 c2 ρ S) R:=by
 let⟨⟨o,ρ1,S1⟩,e,rfl,r,e2,q⟩:=h;exact⟨r,by rw[rW,e];exact e2,q⟩
theorem RK(h:Wp (ca ρ S) λr=>R (.nx,ρ.set i (some r.1),r.2)):Wp (bB i ca ρ S) R:=by
 let⟨⟨u,S1⟩,e,q⟩:=h;exact⟨_,by rw[xA,e];rfl,q⟩
theorem PL(h:Wp (ca ρ S) λr=>R (.rt r.1,ρ,r.2)):Wp (bR ca ρ S) R:=by
 let⟨⟨u,S1⟩,e,q⟩:=h;exact⟨_,by rw[yF,e];rfl,q⟩
theorem QQ(h:Wp (t ρ S) λr=>r.1=false/\R (.nx,ρ,r.2)):Wp (bV t c1 aT ρ S) R:=by
 let⟨⟨u,S1⟩,e,rfl,q⟩:=h;exact⟨_,by rw[xC,e];rfl,q⟩
theorem LY(h:Wp (ca ρ S) λr=>r.1=.bl b/\T (b,r.2)):Wp (aA ca ρ S) T:=by
 let⟨⟨u,S1⟩,e,rfl,q⟩:=h;exact⟨_,by rw[rV,e];rfl,q⟩
theorem RM(h:Wp (t ρ S) λr=>T (!r.1,r.2)):Wp (jS t ρ S) T:=by
 let⟨⟨u,S1⟩,e,q⟩:=h;exact⟨_,by rw[FF,e];rfl,q⟩
theorem RL(h:Wp (ta ρ S) λr=>r.1=false/\Wp (tb ρ r.2) T):Wp (cOr ta tb ρ S) T:=by
 let⟨⟨u,S1⟩,e,rfl,r,e2,q⟩:=h;exact⟨r,by rw[Qk,e];exact e2,q⟩
theorem jOp{g:U->U->Sto->Option (U×Sto)}(h:Wp (ca ρ S) λr=>Wp (cb ρ r.2) λs=>Wp (g r.1 s.1 s.2) Q):Wp (cOp g ca cb ρ S) Q:=by
 let⟨⟨u,S1⟩,e,⟨v,S2⟩,e2,r,e3,q⟩:=h;refine⟨r,?_,q⟩;rw[yG,e,Z4,mV];exact(congrArg (λz=>Option.bind z (M8 g u)) e2).trans e3
theorem DS(h:Wp (cr ρ S) λr=>Wp (f r.1 r.2) Q):Wp (cCB f cr ρ S) Q:=by
 let⟨⟨u,S1⟩,e,r,e2,q⟩:=h;exact⟨r,by rw[Og,e];exact e2,q⟩
def Nd(h:A ([],S)):Wp (aq ρ S) A:=⟨_,rfl,h⟩
theorem DR(h:Wp (ca ρ S) λr=>Wp (cr ρ r.2) λs=>A (r.1::s.1,s.2)):Wp (ae ca cr ρ S) A:=by
 let⟨⟨u,S1⟩,e,⟨v,S2⟩,e2,q⟩:=h;refine⟨_,?_,q⟩;rw[rZ,e,Z4,mW];exact(congrArg (λz=>Option.bind z (wM u)) e2).trans rfl
def RJ(h:ρ[i]?=some (some u))(q:Q (u,S)):Wp (af i ρ S) Q:=⟨_,by rw[BY,h];rfl,q⟩
theorem jFn(hl:us.length=k)(h:Wp (c1 (iH n us) S) λr=>∃u,r.1=.rt u/\Q (u,r.2.2)):Wp (fnU n k c1 us S) Q:=by
 let⟨⟨o,ρ1,S1⟩,e,u,rfl,q⟩:=h;exact⟨_,by rw[pj hl,e];rfl,q⟩
end
theorem A9{α:Type}{ci:CI}{ce:CE}{caps:List Nat}{ρ cs:Rho}{S S1:Sto}{ok:Sto->Prop}{xs:List α}{f v:α->U}(hi:ci ρ S=some (xs.map f,ok,S1))(hok:∀G,ok (S1++G))(hn:xs.length<=9000)(hr:qA 1 caps ρ=none::cs)
  (hb:∀x∈xs,∀G,ce (some (f x)::cs) (S1++G)=some (v x,S1++G)):iD ci (gNm 0) ce 1 caps ρ S=some (.ref S1.length,S1++[.lst (xs.map v)]):=by
 have e:=oA (S:=S1) (ok:=ok) (gg:=gNm 0) (ce:=ce) (f:=f) (v:=v) (Rel:=λρ=>∃r0,ρ=r0::cs) (λys G=>hok _) xs [] [] (none::cs) ⟨_,rfl⟩ 72 (λx hx ys G ρ hρ=>by
  let⟨r0,rfl⟩:=hρ;exact⟨some (f x)::cs,⟨_,rfl⟩,rfl,hb x hx _⟩)
 unfold iD;rw[hi,Z4,hr];dsimp only;rw[e];rfl
theorem Q0{α:Type}{c:CE}{ρ:Rho}{S S1:Sto}{xs:List α}(h:c ρ S=some (.ref S1.length,S1++[.lst (xs.map λ_=>U.bl true)])):aA (cCB yi (ae c aq)) ρ S=some (true,S1++[.lst (xs.map λ_=>U.bl true)]):=by
 obtain⟨⟨b,S2⟩,e,rfl,rfl⟩:Wp (aA (cCB yi (ae c aq)) ρ S) λr=>r.1=true/\r.2=S1++[.lst (xs.map λ_=>U.bl true)]:=
  LY (b:=true) (DS (DR (.of h (Nd (MW (bs:=xs.map λ_=>true) (by rw[ga0,Za];rfl) ⟨by simp,rfl,rfl⟩)))))
 exact e
theorem Fj{α:Type}{c0 ce:CE}{caps:List Nat}{ρ cs:Rho}{S S1:Sto}{xs:List α}{f v:α->U}{dl:Nat}{kus:List (NK×U)}(h0:c0 ρ S=some (.ref dl,S1))(hd:S1[dl]?=some (.dnt kus))(hk:(kus.map λq=>nU q.1)=xs.map f)(hn:xs.length<=9000)(hr:qA 1 caps ρ=none::cs)
  (hb:∀x∈xs,∀ep G,ce (some (f x)::cs) (S1.set dl (.fdn ep kus)++G)=some (v x,S1.set dl (.fdn ep kus)++G)):ud c0 (gNm 0) ce 1 caps ρ S=some (.ref S1.length,S1++[.lst (xs.map v)]):=by
 have hl:dl<S1.length:=(Z9.mp hd).1;unfold ud Br;rw[h0,Z4];dsimp only;rw[hd];dsimp only;rw[hk,hr];refine vZ λep=>?_;have e:=oA (S:=S1.set dl (.fdn ep kus)) (ok:=λS'=>S'[dl]?=some (.fdn ep kus)) (gg:=gNm 0) (ce:=ce) (f:=f) (v:=v) (Rel:=λρ=>∃r0,ρ=r0::cs) (λys G=>ar (ZE hl)) xs [] [] (none::cs) ⟨_,rfl⟩ 72 (λx hx ys G ρ hρ=>by
  let⟨r0,rfl⟩:=hρ;exact⟨some (f x)::cs,⟨_,rfl⟩,rfl,hb x hx ep _⟩)
 rw[XO]at e;rw[e,Z4,ar (ZE hl)];dsimp only;rw[List.set_append_left _ _ (by rw[XO];exact hl),XG,X6];congr 2;refine congrArg (·++_) (Zs λi=>?_);by_cases e:dl=i;subst e;rw[ZE hl,hd];rw[ZZ e]
theorem E3:∀k:NK,uO (k.map λl=>U.tup (l.map U.int))=some k
 |[]=>rfl
 |l::k=>by
  rw[ZR];unfold uO;rw[gH,Z4,E3 k];rfl
theorem wz(v:U):∀ks:List NK,prU (ks.map λk=>U.tup [nU k,v])=some (ks.map λk=>(k,v))
 |[]=>rfl
 |k::ks=>by
  rw[ZR];unfold nU prU;have:=wz v ks;unfold nU at this;rw[E3,Z4,this];rfl
theorem DP(kus:List (NK×U))(k:NK)(v:U):∀j,j∈(gY kus k v).map (·.1)↔j∈kus.map (·.1)\/j=k:=λj=>by
 unfold gY;split
 ·rename_i h;have e:(kus.map λkv=>if kv.1=k then(kv.1,v)else kv).map (·.1)=kus.map (·.1):=by
   rw[Za];refine XW λp _=>?_;show(if p.1=k then(p.1,v)else p).1=p.1;split<;>rfl
  rw[e];constructor;exact .inl;rintro(h1|rfl);exact h1;let⟨p,hp,e⟩:=List.any_eq_true.mp h;exact Zy.mpr ⟨p,hp,of_decide_eq_true e⟩
 simp
theorem tw:∀(L kus:List (NK×U)) (j:NK),j∈(o3 kus L).map (·.1)↔j∈kus.map (·.1)\/j∈L.map (·.1)
 |[],kus,j=>by simp[o3]
 |q::L,kus,j=>by
  have:=tw L (gY kus q.1 q.2) j;unfold o3 at this ⊢;rw[List.foldl_cons,this,DP,ZR,ZT,or_assoc]
def tbl(ks:List Pl):List (NK×U):=o3 [] (ks.map λp=>(nkP p,U.bl true))
theorem uC{ks:List Pl}{j:NK}:j∈(tbl ks).map (·.1)↔j∈ks.map nkP:=by
 unfold tbl;rw[tw,Za];constructor;rintro(h|h);cases h;exact h;exact .inr
theorem Av:∀{ns:List NK} {ks:List Pl},(∀j∈ns,j∈ks.map nkP)->∃ps:List Pl,ns=ps.map nkP/\∀p∈ps,p∈ks
 |[],ks,_=>⟨[],rfl,λp h=>by cases h⟩
 |j::ns,ks,h=>by
  let⟨p,hp,rfl⟩:=Zy.mp (h j ZD);let⟨ps,e,h2⟩:=Av (ks:=ks) λj hj=>h j (ZY _ hj);exact⟨p::ps,by rw[e];rfl,λq hq=>(ZT.mp hq).elim (λe=>e▸hp) (h2 q)⟩
theorem za(ks:List Pl):∃ps:List Pl,(tbl ks).map (·.1)=ps.map nkP/\(∀p∈ps,p∈ks)/\∀p∈ks,p∈ps:=by
 let⟨ps,e,h⟩:=Av (ns:=(tbl ks).map (·.1)) (ks:=ks) λj hj=>uC.mp hj;refine⟨ps,e,h,λp hp=>?_⟩;have:=uC.mpr (Zy.mpr ⟨p,hp,rfl⟩);rw[e]at this;let⟨q,hq,e2⟩:=Zy.mp this;rwa[<-qP e2]
theorem J6{kus:List (NK×U)}{k:NK}:(cg kus k).isSome=decide (k∈kus.map (·.1)):=by
 unfold cg;rw[XS];cases h:kus.find? λkv=>decide (kv.1=k)with
 |none=>
  have:=List.find?_eq_none.mp h;refine(Xf λz=>?_).symm;let⟨p,hp,e⟩:=Zy.mp z;exact this p hp (Xa e)
 |some q=>
  have hq:=List.find?_some h;exact(Xa (Zy.mpr ⟨q,List.mem_of_find?_eq_some h,of_decide_eq_true hq⟩)).symm
theorem ql{ks:List Pl}{p:Pl}:(cg (tbl ks) (nkP p)).isSome=decide (p∈ks):=by
 rw[J6,decide_eq_decide,uC];constructor;intro h;let⟨q,hq,e⟩:=Zy.mp h;rwa[<-qP e];exact λh=>Zy.mpr ⟨p,h,rfl⟩
theorem wy{kus:List (NK×U)}{k:NK}{v:U}:(gY kus k v).length<=kus.length+1:=by
 unfold gY;split;rw[ZQ];omega;rw[ZV];simp
theorem wq:∀{L kus:List (NK×U)},(o3 kus L).length<=kus.length+L.length
 |[],kus=>by simp[o3]
 |q::L,kus=>by
  have h1:=wq (L:=L) (kus:=gY kus q.1 q.2);have h2:=wy (kus:=kus) (k:=q.1) (v:=q.2);unfold o3 at h1 ⊢;rw[List.foldl_cons,ZM];omega
theorem zb{ks:List Pl}:(tbl ks).length<=ks.length:=by
 have:=wq (L:=ks.map λp=>(nkP p,U.bl true)) (kus:=[]);simpa [tbl] using this
theorem uF{P:Nat->Prop}:∀{us:List U},(∀u∈us,RfU P u)->RfL P us
 |[],_=>trivial
 |u::us,h=>⟨h u ZD,uF λx hx=>h x (ZY _ hx)⟩
theorem zC{P:Nat->Prop}{xs:List Int}:RfL P (xs.map U.int):=uF λu hu=>by
 let⟨i,_,rfl⟩:=Zy.mp hu;trivial
def OM{P:Nat->Prop}{p:Pl}:RfU P (plU p):=⟨zC,zC,trivial⟩
def Kw{P:Nat->Prop}{x:Int×Pl}:RfU P (gR x):=⟨trivial,OM,trivial⟩
def pV:CS:=
 (bR (kQ (rR .int (af 0)) (vC (rR .bool (af 0)))))
def jQ(dc:Fn):CS:=
 (bR (kQ (cCB dc (ae (af 0) aq)) (kP fLe fLe (af 1) (af 0) (af 2))))
end OQ
namespace OL
open PySem PySem.Spec PyProof.Rows L2 OG OP OQ
def top(i:Nat):Zn:=PySem.Challenge.pw_oneglance_k56_tables_of_waits.main.body.getD i (.Pass ⟨0,0,0,0⟩)
abbrev mf:Zn:=fE (top 1) 0
abbrev mj:Zn:=fE (top 1) 1
abbrev mq:Zn:=fE (top 1) 2
abbrev mi:Zn:=fE (top 1) 3
abbrev iN:Zn:=fE (top 1) 4
abbrev mh:Zn:=fE (top 1) 5
abbrev fC:Zn:=fE (top 1) 6
abbrev gE:Zn:=fE (top 1) 7
abbrev gF:Zn:=fE (top 1) 8
abbrev gD:Zn:=fE (top 1) 9
abbrev gC:Zn:=fE (top 1) 10
abbrev sH:Zn:=top 2
abbrev sI:Zn:=top 3
abbrev jk:Zn:=top 4
abbrev zw:Zn:=top 5
abbrev pD:Zn:=top 7
abbrev nJ:Zn:=top 8
abbrev pF:Zn:=top 10
abbrev fB:Zn:=top 12
abbrev pG:Zn:=top 13
abbrev sJ:Zn:=top 14
abbrev nI:Zn:=top 16
abbrev iA:Zn:=top 17
abbrev pE:Zn:=top 18
abbrev pH:Zn:=top 19
abbrev zv:Zn:=top 20
abbrev j5:Zn:=top 21
abbrev l6:Zn:=top 22
abbrev gW:Zn:=top 23
abbrev k8:Zn:=top 25
abbrev nK:Zn:=top 26
abbrev l7:Zn:=top 27
abbrev nL:Zn:=top 29
abbrev gB:Zn:=top 30
abbrev jl:Zn:=top 31
abbrev ma:Zn:=top 32
abbrev l8:Zn:=top 33
abbrev me:Zn:=top 34
abbrev nN:Zn:=top 35
abbrev fh:Zn:=top 36
abbrev iB:Zn:=top 37
abbrev nM:Zn:=top 38
abbrev fT:Zn:=top 40
abbrev j6:Zn:=top 41
abbrev j7:Zn:=top 42
abbrev md:Zn:=top 43
abbrev nO:Zn:=top 44
abbrev GJ:Zn:=top 45
variable{P:Zq}{w:Zr}{K:Z3}{mg:Str->Option Z5}{base:Heap}
theorem u3{k:Nat}(d:Def K mg "_law_take" nK ["pen","many"])(B:Blt mg):bh P w K mg base "_law_take" (k+1) ["pen","many"] (fnU 8 2 (g8 )):=
 d.pu ["pen","many","at","cell","one","two","three","found"] λhr hu nd=>ah (aV (aJ d7 kj (qx hu (qv 0) qI) qI (aE _)) (ah (qss 2 nd (qx hu (qv 0) qI))
   (ah (d5 hu (qv 0) qI (dB dM dJ (qv 2) qI))
   (ah (qss 3 nd qI)
   (ah (aV (aJ jG uN (qv 2) 87 (aE _)) (aC (qss 3 nd (qx hu (qx hu (qv 0) qI) (qv 2)))) (aC (aV (aJ sZ EY 87 qI (aE _)) (aC (qss 3 nd (dB dM dJ (dB km qK (qx hu (qx hu (qv 0) qI) (dB km qK (dB jo qJ (qv 2) qI) 87)) qI) (dB jo qJ qI (qv 2))))) aN)))
   (ah (qss 4 nd (dB km qK (dB jo qJ (dB dM dJ (dB dM dJ (dB km qK (qv 3) qI) (dB jo qJ qI (qv 2))) qI) qI) qI))
   (ah (qss 5 nd (dB km qK (dB dM dJ (dB dM dJ (dB jo qJ (qv 4) (qv 4)) (dB jo qJ qI (qv 2))) qI) qI))
   (ah (qss 6 nd (dB km qK (dB dM dJ (dB jo qJ (qv 5) (qv 5)) (qv 4)) qI))
   (ah (d5 hu (qv 0) qI (dB dM dJ (dB qL Ht (dB dM dJ (dB jo qJ (qv 5) qI) (qv 6)) qI) qI))
   (aC (aV (aJ Hy Pa (qv 3) (dB EZ Lm qI qI) (aE _)) (aC (d5 hu (qv 0) qI (dB qL Ht (qv 3) (dB EZ Lm qI qI)))) aN)))))))))) aN)
   (ah (qss 7 nd (dB km qK (qx hu (qv 0) qI) (qv 1)))
   (ah (d5 hu (qv 0) qI (dB qL Ht (qx hu (qv 0) qI) (qv 1)))
   (qr (qv 7))))
theorem tP{k:Nat}{ag:Fn}(d:Def K mg "_law_world" l7 ["pen"])(B:Blt mg)(aw:93):bh P w K mg base "_law_world" (k+1) ["pen"] (fnU 1 1 (iV ag)):=
 d.pu ["pen"] λhr hu nd=>qr (aY (ab (dB dM dJ qI 78) (ab (qx hu (fQ (ab qI (ab qI (ab qI (ab qI (ab (dB dM dJ qI 78) ak)))))) 78) ak)))
theorem jL{k:Nat}{aS:Fn}(d:Def K mg "_law_size" nL ["dealing"])(B:Blt mg)(fN:bh P w K mg base "_law_size" (k) ["dealing"] aS):bh P w K mg base "_law_size" (k+1) ["dealing"] (fnU 3 1 (jR aS)):=
 d.pu ["dealing","many","deed"] λhr hu nd=>(ah (qss 1 nd qI)
   (ah (gG PassesOwn.never rfl (dQ (qv 0)) (bj (aF (i:=2) nd rfl 76)) (ah (qss 1 nd (dB dM dJ (qv 1) qI))
   (aC (aV (aJ d7 kj 94 qS (aE _)) (aC (qss 1 nd (dB dM dJ (dB dM dJ (qv 1) (aB fN hr rfl (ab 94 ak))) (aB fN hr rfl (ab 94 ak))))) aN))))
   (qr (qv 1))))
theorem lq{k:Nat}{ag:Fn}(d:Def K mg "_law_plain_deed" gB ["pen","world","way","hand"])(B:Blt mg)(aw:93):bh P w K mg base "_law_plain_deed" (k+1) ["pen","world","way","hand"] (fnU 4 4 (bq ag)):=
 d.pu ["pen","world","way","hand"] λhr hu nd=>ah (aV (aJ jG uN (qv 2) qI (aE _)) (qr (aY (ab qS (ab (qv 3) (ab (aB aw hr rfl (ab (qv 0) (ab 68 ak))) ak))))) aN)
   (ah (aV (aJ jG uN (qv 2) qI (aE _)) (qr (aY (ab qS (ab (aB aw hr rfl (ab (qv 0) (ab 68 ak))) (ab (qv 3) ak))))) aN)
   (ah (aV (aJ jG uN (qv 2) qI (aE _)) (qr (aY (ab qS (ab (qv 3) (ab (aB aw hr rfl (ab (qv 0) (ab 68 ak))) ak))))) aN)
   (ah (aV (aJ jG uN (qv 2) qI (aE _)) (qr (aY (ab qS (ab (qv 3) (ab 78 ak))))) aN)
   (qr (aY (ab qS (ab (qv 3) (ab (dB dM dJ qI (aB aw hr rfl (ab (qv 0) (ab (qx hu (fQ (ab qI (ab qI ak))) 78) ak)))) ak))))))))
theorem eV{k:Nat}{ag bc aI aS:Fn}(d:Def K mg "_law_dealing" jl ["pen","world","room","tries"])(B:Blt mg)(aw:93)(bL:bh P w K mg base "_law_plain_deed" (k) ["pen","world","way","hand"] bc)(eX:bh P w K mg base "_law_dealing" (k) ["pen","world","room","tries"] aI)(fN:bh P w K mg base "_law_size" (k) ["dealing"] aS):bh P w K mg base "_law_dealing" (k+1) ["pen","world","room","tries"] (fnU 11 4 (gu ag bc aI aS)):=
 d.pu ["pen","world","room","tries","deeds","left","k","way","hand","one","other"] λhr hu nd=>(ah (qss 4 nd (fQ ak))
   (ah (qss 5 nd (qv 2))
   (ah (gG PassesOwn.never rfl (j8 rfl B.range (ab (aB aw hr rfl (ab (qv 0) (ab (dB dM dJ (aP (Bn rfl) O8 rfl B.min OG.Ep (ab qI (ab (qv 2) ak))) qI) ak))) ak)) (bj (aF (i:=6) nd rfl 76)) (ah (qss 7 nd 78)
   (ah (qss 8 nd 78)
   (aC (aV (uI (oZ (aJ sZ EY (qv 5) qI (aE _)) (oZ (aJ jG uN (aP eF eE rfl B.len PySem.boot_len (ab (qv 4) ak)) qI (aE _)) (nS (aJ jG uN (qv 7) qI (aE _)))))) (ah (cq (d6 (qv 4) (ab (aB bL hr rfl (ab (qv 0) (ab (qv 1) (ab (qv 7) (ab (qv 8) ak))))) ak)))
   (aC (qss 5 nd (dB jn o6 (qv 5) qI)))) (aC (aV (uI (oZ (aJ sZ EY (qv 5) qI (aE _)) (oZ (aJ jG uN (aP eF eE rfl B.len PySem.boot_len (ab (qv 4) ak)) qI (aE _)) (nS (uI (C0 (aJ d7 kj (qv 7) qI (aE _)) (sR (aJ d7 kj (qv 3) qI (aE _))))))))) (ah (aV (uI (oZ (aJ sZ EY (qv 5) qI (aE _)) (oZ (aJ jG uN (aP eF eE rfl B.len PySem.boot_len (ab (qv 4) ak)) qI (aE _)) (nS (aJ sZ EY (aB aw hr rfl (ab (qv 0) (ab qI ak))) qI (aE _)))))) (ah (cq (d6 (qv 4) (ab (aY (ab qS (ab (qv 8) (ab qI ak)))) ak)))
   (aC (qss 5 nd (dB jn o6 (qv 5) qI)))) aN)
   (ah (cq (d6 (qv 4) (ab (aY (ab qS ak)) ak)))
   (aC (qss 5 nd (dB jn o6 (qv 5) qI))))) (aC (aV (uI (oZ (aJ sZ EY (qv 5) qI (aE _)) (nS (aJ jG uN (aP eF eE rfl B.len PySem.boot_len (ab (qv 4) ak)) qI (aE _))))) (ah (qss 9 nd (aB eX hr rfl (ab (qv 0) (ab (qv 1) (ab (aB aw hr rfl (ab (qv 0) (ab (qv 5) ak))) (ab (dB jn o6 (qv 3) qI) ak))))))
   (ah (qss 5 nd (dB jn o6 (dB jn o6 (qv 5) qI) (aB fN hr rfl (ab (qv 9) ak))))
   (ah (qss 10 nd (aB eX hr rfl (ab (qv 0) (ab (qv 1) (ab (aB aw hr rfl (ab (qv 0) (ab (dB dM dJ (qv 5) qI) ak))) (ab (dB jn o6 (qv 3) qI) ak))))))
   (ah (qss 5 nd (dB jn o6 (qv 5) (aB fN hr rfl (ab (qv 10) ak))))
   (aC (cq (d6 (qv 4) (ab (aY (ab qS (ab (qv 9) (ab (qv 10) ak)))) ak)))))))) aN)))))))))
   (qr (bt cL jF rfl B.tuple OG.bW (ab (qv 4) ak))))))
theorem tQ{k:Nat}(d:Def K mg "_law_plain" ma ["world","deed","now"])(B:Blt mg):bh P w K mg base "_law_plain" (k+1) ["world","deed","now"] (fnU 6 3 (b7 )):=
 d.pu ["world","deed","now","word","one","other"] λhr hu nd=>(ah (KD (qv 1) (nQ rfl (cH (aF (i:=3) nd rfl 76) (cH (aF (i:=4) nd rfl 76) (cH (aF (i:=5) nd rfl 76) jE)))))
   (aC (aV (aJ d7 kj (qv 3) qS (aE _)) (ah (aV (uI (oZ (ke hu (qv 5) (qx hu (qv 2) qS) 81) (nS (ke hu (qv 5) (qx hu (qv 2) qS) 81)))) (aC (cq (d6 (qx hu (qv 2) qS) (ab (qv 5) ak)))) aN)
   (aC (d5 hu (qx hu (qv 2) qS) (qv 4) (qx hu (qx hu (qv 2) qS) (qv 5))))) (aC (aV (aJ d7 kj (qv 3) qS (aE _)) (ah (d5 hu (qx hu (qv 2) qS) (qv 4) (qx hu (qx hu (qv 2) qS) (qv 5)))
   (aC (aV (ke hu (qv 4) (qx hu (qv 2) qS) 81) (aC (cq (d6 (qx hu (qv 2) qS) (ab (qv 4) ak)))) aN))) (aC (aV (aJ d7 kj (qv 3) qS (aE _)) (aC (d5 hu (qx hu (qv 2) qS) (qv 4) (qv 5))) (aC (d5 hu (qx hu (qv 2) qS) (qv 4) (dB km qK (dB dM dJ (qx hu (qx hu (qv 2) qS) (qv 4)) (qx hu (qx hu (qv 2) qS) (qv 5))) (qx hu (qv 0) qI)))))))))))
theorem fU{k:Nat}{cF aW:Fn}(d:Def K mg "_law_waits" l8 ["world","dealing","now"])(B:Blt mg)(dX:bh P w K mg base "_law_plain" (k) ["world","deed","now"] cF)(gn:bh P w K mg base "_law_waits" (k) ["world","dealing","now"] aW):bh P w K mg base "_law_waits" (k+1) ["world","dealing","now"] (fnU 7 3 (fV cF aW)):=
 d.pu ["world","dealing","now","out","deed","kept","part"] λhr hu nd=>(ah (qss 3 nd qI)
   (ah (gG PassesOwn.never rfl (dQ (qv 1)) (bj (aF (i:=4) nd rfl 76)) (aC (aV (aJ sZ EY (qv 3) qI (aE _)) (aC (qss 3 nd (dB jn o6 (qv 3) qI))) (aC (aV (aJ d7 kj (qx hu (qv 4) qI) qS (aE _)) (qr qB) (aC (aV (aJ d7 kj (qx hu (qv 4) qI) qS (aE _)) (aC (qss 3 nd (dB jo qJ (qx hu (qv 4) qI) (bt ua Lq rfl B.int OG.mT (ab (k9 d7 kj (qx hu (qx hu (qv 2) qS) (qx hu (qv 4) qI)) qI (aE _)) ak))))) (aC (aV (aJ z7 Ln (qx hu (qv 4) qI) qS (aE _)) (aC (cq (aB dX hr rfl (ab (qv 0) (ab (qv 4) (ab (qv 2) ak)))))) (ah (qss 5 nd (EX (jD qS (bt bJ ki rfl B.list OG.bP (ab (qx hu (qv 2) qS) ak)) (jD qS (bt bJ ki rfl B.list OG.bP (ab (qx hu (qv 2) qS) ak)) (jD qS (bt bJ ki rfl B.list OG.bP (ab (qx hu (qv 2) qS) ak)) EW))) rfl rfl 51 (by exact XI rfl) (by exact XI rfl)))
   (aC (aV (cW (aB gn hr rfl (ab (qv 0) (ab (qx hu (qv 4) qI) (ab (qv 2) ak))))) (ah (GP PassesOwn.never rfl (qv 5) (bj (aF (i:=6) nd rfl 76)) (aC (d5 hu (qv 2) (qv 6) (qx hu (qv 5) (qv 6)))))
   (aC (aV (cW (aB gn hr rfl (ab (qv 0) (ab (qx hu (qv 4) qI) (ab (qv 2) ak))))) (qr qB) aN))) aN))))))))))))
   (qr qB)))
theorem tU{k:Nat}{aW:Fn}(d:Def K mg "_law_alone" me ["world","dealing","state"])(B:Blt mg)(gn:bh P w K mg base "_law_waits" (k) ["world","dealing","now"] aW):bh P w K mg base "_law_alone" (k+1) ["world","dealing","state"] (fnU 4 3 (fW aW)):=
 d.pu ["world","dealing","state","now"] λhr hu nd=>(ah (qss 3 nd (EX (jD qS (bt bJ ki rfl B.list OG.bP (ab (qv 2) ak)) (jD qS (fQ ak) (jD qS (fQ (ab qI (ab qI (ab qI (ab qI ak))))) (jD qS (fQ ak) EW)))) rfl rfl 51 (by exact XI rfl) (by exact XI rfl)))
   (ah (aV (cW (aB gn hr rfl (ab (qv 0) (ab (qv 1) (ab (qv 3) ak))))) (qr (aY (ab qS (ab (aP (wG rfl) wC rfl B.sorted OG.fJ (ab (qx hu (qv 3) qS) ak)) ak)))) aN)
   (qr (aY (ab qS (ab (bt cL jF rfl B.tuple OG.bW (ab (qx hu (qv 3) qS) ak)) (ab (bt cL jF rfl B.tuple OG.bW (ab (qx hu (qv 3) qS) ak)) ak)))))))
theorem AO{k:Nat}(d:Def K mg "with_at" sH ["row","place","value"])(B:Blt mg):bh P w K mg base "with_at" (k+1) ["row","place","value"] (fnU 3 3 (oF )):=
 d.pu ["row","place","value"] λhr hu nd=>qr (dB dM dJ (dB dM dJ (M0 (qv 0) qE (qD (qv 1))) (aY (ab (qv 2) ak))) (M0 (qv 0) (qD (dB dM dJ (qv 1) qI)) qE))
theorem AQ{k:Nat}{fuel:Nat}(d:Def K mg "onwards" sI ["part"])(B:Blt mg):bh P w K mg base "onwards" (k+1) ["part"] (fnU 2 1 (oG fuel)):=
 d.pu ["part","reached"] λhr hu nd=>ah (qss 1 nd (qv 0))
   (ah (qC fuel PassesOwn.never (uI (oZ (aJ Hy Pa 68 (aP eF eE rfl B.len PySem.boot_len (ab 68 ak)) (aE _)) (nS (aJ nX sY 68 qN (aE _))))) (aC (qss 1 nd 68)))
   (qr (qv 1)))
theorem tY{k:Nat}{ao:Cl}(d:MtD K ao.C "deed" "Doing.deed" mj ["self"])(B:Blt mg)(b_:67):i7 P w K mg base ao "deed" (k+1) ["self"] (fnU 1 1 (fX ao)):=
 d.pu ["self"] λhr hu nd=>ah (aV (aJ Hy Pa (qx hu (qf b_ rfl (qv 0)) qI) (aP eF eE rfl B.len PySem.boot_len (ab (qx hu (qf b_ rfl (qv 0)) qI) ak)) (aE _)) (qr qN) aN)
   (qr (qx hu (qx hu (qf b_ rfl (qv 0)) qI) (qx hu (qf b_ rfl (qv 0)) qI)))
theorem tZ{k:Nat}{aG:Fn}{ao:Cl}(d:MtD K ao.C "asks" "Doing.asks" mq ["self"])(B:Blt mg)(b_:67)(c_:i7 P w K mg base ao "deed" (k) ["self"] aG):i7 P w K mg base ao "asks" (k+1) ["self"] (fnU 2 1 (fY aG ao)):=
 d.pu ["self","deed"] λhr hu nd=>ah (qss 1 nd (qm0 b_ c_ hr (qv 0)))
   (qr (kg (k9 d7 kj 68 qS (aE _)) (sS (k9 E1 Lp (qx hu (qf b_ rfl (qv 0)) 68) qN (aE _)))))
theorem tW{k:Nat}{d9:Fn}{ao:Cl}(d:MtD K ao.C "hold" "Doing.hold" mh ["self","hand","number"])(B:Blt mg)(b_:67)(gP:bh P w K mg base "with_at" (k) ["row","place","value"] d9):i7 P w K mg base ao "hold" (k+1) ["self","hand","number"] (fnU 3 3 (iY d9 ao)):=
 d.pu ["self","hand","number"] λhr hu nd=>aC (qsf b_ rfl (qv 0) (aB gP hr rfl (ab (qf b_ rfl (qv 0)) (ab (qv 1) (ab (qv 2) ak)))))
theorem jM{k:Nat}{ao:Cl}(d:MtD K ao.C "part_behind" "Doing.part_behind" fC ["self","left_out"])(B:Blt mg)(b_:67):i7 P w K mg base ao "part_behind" (k+1) ["self","left_out"] (fnU 3 2 (dN ao)):=
 d.pu ["self","left_out","part"] λhr hu nd=>ah (qss 2 nd (qf b_ rfl (qv 0)))
   (qr (aY (ab 94 (ab (dB dM dJ (dB dM dJ 94 qI) (qv 1)) (ab 94 (ab 94 ak))))))
theorem lA{k:Nat}{bN aL:Fn}{ao:Cl}(d:MtD K ao.C "go_behind" "Doing.go_behind" gE ["self","left_out"])(B:Blt mg)(b_:67)(dE:bh P w K mg base "onwards" (k) ["part"] bN)(d_:i7 P w K mg base ao "part_behind" (k) ["self","left_out"] aL):i7 P w K mg base ao "go_behind" (k+1) ["self","left_out"] (fnU 2 2 (eM bN aL ao)):=
 d.pu ["self","left_out"] λhr hu nd=>aC (qsf b_ rfl (qv 0) (aB dE hr rfl (ab (qm b_ d_ hr (qv 0) (ab (qv 1) ak)) ak)))
theorem tX{k:Nat}{bA aG aU:Fn}{ao:Cl}(d:MtD K ao.C "hear" "Doing.hear" mi ["self","number"])(B:Blt mg)(b_:67)(j_:i7 P w K mg base ao "hold" (k) ["self","hand","number"] bA)(c_:i7 P w K mg base ao "deed" (k) ["self"] aG)(f_:i7 P w K mg base ao "go_behind" (k) ["self","left_out"] aU):i7 P w K mg base ao "hear" (k+1) ["self","number"] (fnU 2 2 (iZ bA aG aU ao)):=
 d.pu ["self","number"] λhr hu nd=>ah (cq (qm b_ j_ hr (qv 0) (ab (qx hu (qm0 b_ c_ hr (qv 0)) qI) (ab (qv 1) ak))))
   (aC (cq (qm b_ f_ hr (qv 0) (ab qI ak))))
theorem lB{k:Nat}{bN aL:Fn}{ao:Cl}(d:MtD K ao.C "enter_try" "Doing.enter_try" gF ["self","one","other"])(B:Blt mg)(b_:67)(dE:bh P w K mg base "onwards" (k) ["part"] bN)(d_:i7 P w K mg base ao "part_behind" (k) ["self","left_out"] aL):i7 P w K mg base ao "enter_try" (k+1) ["self","one","other"] (fnU 5 3 (eO bN aL ao)):=
 d.pu ["self","one","other","behind","instead"] λhr hu nd=>ah (qss 3 nd (qm b_ d_ hr (qv 0) (ab qI ak)))
   (ah (qss 4 nd (aB dE hr rfl (ab (aY (ab (qv 2) (ab qI (ab (qv 3) (ab (qx hu (qv 3) qI) ak))))) ak)))
   (aC (qsf b_ rfl (qv 0) (aB dE hr rfl (ab (aY (ab (qv 1) (ab qI (ab (qv 3) (ab (aY (ab (qf b_ rfl (qv 0)) (ab (qf b_ rfl (qv 0)) (ab (qv 4) ak)))) ak))))) ak)))))
theorem lz{k:Nat}{ao:Cl}(d:MtD K ao.C "goes_back" "Doing.goes_back" gD ["self"])(B:Blt mg)(b_:67):i7 P w K mg base ao "goes_back" (k+1) ["self"] (fnU 2 1 (dj ao)):=
 d.pu ["self","back"] λhr hu nd=>ah (qss 1 nd (qx hu (qf b_ rfl (qv 0)) qI))
   (ah (aV (aJ E1 Lp (qv 1) qN (aE _)) (qr qB) aN)
   (ah (qsf b_ rfl (qv 0) 68)
   (ah (qsf b_ rfl (qv 0) 68)
   (ah (qsf b_ rfl (qv 0) 68)
   (qr qB)))))
theorem om{k:Nat}{d9 aG de dg bA aU:Fn}{ao:Cl}(d:MtD K ao.C "do_deed" "Doing.do_deed" iN ["self"])(B:Blt mg)(b_:67)(gP:bh P w K mg base "with_at" (k) ["row","place","value"] d9)(c_:i7 P w K mg base ao "deed" (k) ["self"] aG)(q_:i7 P w K mg base ao "goes_back" (k) ["self"] de)(o_:i7 P w K mg base ao "enter_try" (k) ["self","one","other"] dg)(j_:i7 P w K mg base ao "hold" (k) ["self","hand","number"] bA)(f_:i7 P w K mg base ao "go_behind" (k) ["self","left_out"] aU):i7 P w K mg base ao "do_deed" (k+1) ["self"] (fnU 4 1 (aZ d9 aG de dg bA aU ao)):=
 d.pu ["self","deed","word","left_out"] λhr hu nd=>ah (qss 1 nd (qm0 b_ c_ hr (qv 0)))
   (ah (qss 2 nd 68)
   (ah (aV (aJ d7 kj (qv 2) qS (aE _)) (qr (qm0 b_ q_ hr (qv 0))) aN)
   (ah (aV (aJ d7 kj (qv 2) qS (aE _)) (ah (cq (qm b_ o_ hr (qv 0) (ab 68 (ab 68 ak))))
   (qr qB)) aN)
   (ah (qss 3 nd qI)
   (ah (aV (aJ d7 kj (qv 2) qS (aE _)) (aC (cq (qm b_ j_ hr (qv 0) (ab 68 (ab (qx hu (qf b_ rfl (qv 0)) 68) ak))))) (aC (aV (aJ d7 kj (qv 2) qS (aE _)) (aC (qsf b_ rfl (qv 0) (aB gP hr rfl (ab (qf b_ rfl (qv 0)) (ab 68 (ab (qx hu (qf b_ rfl (qv 0)) 68) ak)))))) (aC (aV (aJ d7 kj (qv 2) qS (aE _)) (aC (cq (qm b_ j_ hr (qv 0) (ab 68 (ab 68 ak))))) (aC (aV (aJ d7 kj (qv 2) qS (aE _)) (aC (cq (qm b_ j_ hr (qv 0) (ab 68 (ab (dB km qK (dB dM dJ (qx hu (qf b_ rfl (qv 0)) 68) (qx hu (qf b_ rfl (qv 0)) 68)) (qf b_ rfl (qv 0))) ak))))) (aC (aV (aJ d7 kj (qx hu (qf b_ rfl (qv 0)) 68) qI (aE _)) (aC (qss 3 nd 68)) aN)))))))))
   (ah (cq (qm b_ f_ hr (qv 0) (ab (qv 3) ak)))
   (qr qB)))))))
theorem lu{k:Nat}{ao:Cl}(d:MtD K ao.C "put_pairs" "Doing.put_pairs" gC ["self"])(B:Blt mg)(b_:67):i7 P w K mg base ao "put_pairs" (k+1) ["self"] (fnU 1 1 (eK ao)):=
 d.pu ["self"] λhr hu nd=>qr (kf (Nc:=["box","number"]) (tn:=["box","number"]) (capN:=[]) (caps:=[]) rfl (uH rfl B.enumerate (qf b_ rfl (qv 0))) (λ_ _ _=>nQ rfl (cH (aF (i:=0) (show(["box","number"]:List Str).Nodup by decide +kernel) rfl 76) (cH (aF (i:=1) (show(["box","number"]:List Str).Nodup by decide +kernel) rfl 76) jE))) (λ_ _ _=>aJ nX sY (qv 1) qN (aE _)) (λ_ _ _=>aY (ab (qv 0) (ab (qv 1) ak))) rfl rfl 39 39 trivial rfl .nil rfl rfl)
theorem tV{k:Nat}{bN:Fn}{ao:Cl}(d:MkD K mg ao.C "Doing" "Doing.__init__" mf ["self","world","dealing"])(B:Blt mg)(b_:67)(dE:bh P w K mg base "onwards" (k) ["part"] bN):CMk P w K mg base ao "Doing" (k+1) ["self","world","dealing"] (fnU 3 3 (iX bN ao)):=
 d.pu b_ ["self","world","dealing"] λhr hu nd=>ah (qsf b_ rfl (qv 0) 68)
   (ah (qsf b_ rfl (qv 0) (aY (ab qI (ab qI (ab qI (ab qI ak))))))
   (ah (qsf b_ rfl (qv 0) (dB Ly Lo (aY (ab qN ak)) 68))
   (aC (qsf b_ rfl (qv 0) (aB dE hr rfl (ab (aY (ab (qv 2) (ab qI (ab qN (ab qN ak))))) ak))))))
theorem o8{k:Nat}{aG dW dU cA:Fn}{ao:Cl}{fuel:Nat}(d:Def K mg "goes_through" jk ["doing","state","looked"])(B:Blt mg)(b_:67)(c_:i7 P w K mg base ao "deed" (k) ["self"] aG)(y_:i7 P w K mg base ao "asks" (k) ["self"] dW)(zz:i7 P w K mg base ao "hear" (k) ["self","number"] dU)(u_:i7 P w K mg base ao "do_deed" (k) ["self"] cA):bh P w K mg base "goes_through" (k+1) ["doing","state","looked"] (fnU 4 3 (eW aG dW dU cA ao fuel)):=
 d.pu ["doing","state","looked","box"] λhr hu nd=>ah (qC fuel PassesOwn.never (aJ nX sY (qm0 b_ c_ hr (qv 0)) qN (aE _)) (aC (aV (cW (qm0 b_ y_ hr (qv 0))) (ah (qss 3 nd (qx hu (qm0 b_ c_ hr (qv 0)) qI))
   (ah (d5 hu (qv 2) (qv 3) qB)
   (aC (cq (qm b_ zz hr (qv 0) (ab (qx hu (qv 1) (qv 3)) ak)))))) (aC (aV (eD (cW (qm0 b_ u_ hr (qv 0)))) (qr qB) aN)))))
   (qr qB)
theorem Ih{k:Nat}{cR bK dS:Fn}{ao:Cl}(d:Def K mg "alone" zw ["world","dealing","state"])(B:Blt mg)(b_:67)(gv:bh P w K mg base "goes_through" (k+1) ["doing","state","looked"] cR)(p_:i7 P w K mg base ao "put_pairs" (k+1) ["self"] bK)(R8:CMk P w K mg base ao "Doing" k ["self","world","dealing"] dS):bh P w K mg base "alone" (k+1+1) ["world","dealing","state"] (fnU 8 3 (rE cR bK dS ao)):=
 d.pu ["world","dealing","state","doing","looked","reached","box","number"] λhr hu nd=>(ah (qss 3 nd (KJ R8 hr rfl (ab (qv 0) (ab (qv 1) ak))))
   (ah (qss 4 nd KP)
   (ah (aV (eD (cW (aB gv hr rfl (ab (qv 3) (ab (qv 2) (ab (qv 4) ak)))))) (qr (aY (ab qS (ab (aP (wG rfl) wC rfl B.sorted OG.fJ (ab (qv 4) ak)) ak)))) aN)
   (ah (qss 5 nd (bt bJ ki rfl B.list OG.bP (ab (qv 2) ak)))
   (ah (gG PassesOwn.never rfl (dQ (qm0 b_ p_ hr (qv 3))) (nQ rfl (cH (aF (i:=6) nd rfl 76) (cH (aF (i:=7) nd rfl 76) jE))) (aC (d5 hu (qv 5) (qv 6) (qv 7))))
   (qr (aY (ab qS (ab (bt cL jF rfl B.tuple OG.bW (ab (qv 5) ak)) (ab (qf b_ rfl (qv 3)) ak))))))))))
theorem va{k:Nat}{ag:Fn}(d:Def K mg "_law_keen" nN ["pen","world"])(B:Blt mg)(aw:93):bh P w K mg base "_law_keen" (k+1) ["pen","world"] (fnU 8 2 (fH ag)):=
 d.pu ["pen","world","box","there","way","guard","other","goal"] λhr hu nd=>ah (qss 2 nd (aB aw hr rfl (ab (qv 0) (ab 68 ak))))
   (ah (qss 3 nd (aB aw hr rfl (ab (qv 0) (ab 68 ak))))
   (ah (qss 4 nd 78)
   (ah (qss 5 nd (aY (ab (aY (ab qS (ab qI (ab (qv 2) ak)))) (ab (aY (ab qS (ab qI (ab qI ak)))) (ab (aY (ab qS ak)) ak)))))
   (ah (aV (aJ d7 kj (qv 4) qI (aE _)) (aC (qss 5 nd (aY (ab (aY (ab qS (ab qI (ab (qv 2) ak)))) (ab (aY (ab qS (ab qI (ab qI ak)))) (ab (aY (ab qS (ab qI (ab qI ak)))) (ab (aY (ab qS (ab qI (ab qI ak)))) (ab (aY (ab qS ak)) ak)))))))) aN)
   (ah (aV (aJ d7 kj (qv 4) qI (aE _)) (ah (qss 6 nd (aY (ab (aY (ab qS (ab qI (ab (qv 3) ak)))) (ab (aY (ab qS (ab qI (ab qI ak)))) (ab (aY (ab qS ak)) ak)))))
   (aC (qss 5 nd (aY (ab (aY (ab qS (ab qI (ab (qv 2) ak)))) (ab (aY (ab qS (ab (aY (ab (aY (ab qS (ab qI (ab qI ak)))) (ab (aY (ab qS (ab qI (ab qI ak)))) (ab (aY (ab qS ak)) ak)))) (ab (qv 6) ak)))) ak)))))) aN)
   (ah (qss 7 nd (qx hu (fQ (ab (qv 2) (ab (qv 3) ak))) 78))
   (qr (dB dM dJ (qv 5) (aY (ab (aY (ab qS (ab qI (ab 78 ak)))) (ab (aY (ab qS (ab (qv 7) (ab qI ak)))) ak)))))))))))
theorem jh{k:Nat}{ag aI eI:Fn}(d:Def K mg "_law_some_dealings" fh ["pen","world","most"])(B:Blt mg)(aw:93)(eX:bh P w K mg base "_law_dealing" (k) ["pen","world","room","tries"] aI)(jW:bh P w K mg base "_law_keen" (k) ["pen","world"] eI):bh P w K mg base "_law_some_dealings" (k+1) ["pen","world","most"] (fnU 6 3 (dr ag aI eI)):=
 d.pu ["pen","world","most","found","many","k"] λhr hu nd=>(ah (qss 3 nd (fQ ak))
   (ah (qss 4 nd (dB dM dJ qI (aB aw hr rfl (ab (qv 0) (ab (qv 2) ak)))))
   (ah (gG PassesOwn.never rfl (j8 rfl B.range (ab (qv 4) ak)) (bj (aF (i:=5) nd rfl 76)) (aC (aV (uI (oZ (aJ jG uN (qv 4) qI (aE _)) (nS (aJ d7 kj 78 qI (aE _))))) (aC (cq (d6 (qv 3) (ab (aB eX hr rfl (ab (qv 0) (ab (qv 1) (ab qI (ab qI ak))))) ak)))) (aC (cq (d6 (qv 3) (ab (aB jW hr rfl (ab (qv 0) (ab (qv 1) ak))) ak)))))))
   (qr (qv 3)))))
theorem mI{k:Nat}{ag:Fn}(d:Def K mg "_law_few_state" iB ["pen","world"])(B:Blt mg)(aw:93):bh P w K mg base "_law_few_state" (k+1) ["pen","world"] (fnU 2 2 (fe ag)):=
 d.pu ["pen","world"] λhr hu nd=>qr (bt cL jF rfl B.tuple OG.bW (ab (mr (Nc:=["box","pen","world"]) (tn:=["box"]) (capN:=["pen","world"]) (caps:=[0,1]) rfl (j8 rfl B.range (ab 68 ak)) (λ_ _ _=>bj (aF (i:=0) (show(["box","pen","world"]:List Str).Nodup by decide +kernel) rfl 76)) (λ_ _ _=>aB aw hr rfl (ab (qv 1) (ab (qx hu (fQ (ab qI (ab 94 ak))) (bt ua Lq rfl B.int OG.mT (ab (k9 d7 kj (aB aw hr rfl (ab (qv 1) (ab qI ak))) qI (aE _)) ak))) ak))) rfl rfl 39 39 ⟨rfl,rfl,trivial⟩ rfl (.cons ⟨rfl,rfl,rfl,_,rfl⟩ 65) rfl rfl) ak))
theorem u9{k:Nat}{dR:Fn}(d:Def K mg "_law_next" nM ["world","dealings","row"])(B:Blt mg)(jb:bh P w K mg base "_law_alone" (k) ["world","dealing","state"] dR):bh P w K mg base "_law_next" (k+1) ["world","dealings","row"] (fnU 7 3 (vB dR)):=
 d.pu ["world","dealings","row","found","number","dealing","told"] λhr hu nd=>(ah (qss 3 nd (fQ ak))
   (ah (gG PassesOwn.never rfl (uH rfl B.enumerate (qv 1)) (nQ rfl (cH (aF (i:=4) nd rfl 76) (cH (aF (i:=5) nd rfl 76) jE))) (aC (aV (ke hu (qv 4) 94 81) (ah (qss 6 nd (aB jb hr rfl (ab (qv 0) (ab (qv 5) (ab 94 ak)))))
   (aC (aV (aJ d7 kj (qx hu (qv 6) qI) qS (aE _)) (aC (cq (d6 (qv 3) (ab (aY (ab (qv 4) (ab (aY (ab (bt cL jF rfl B.tuple OG.bW (ab (aP tm sX rfl B.sorted OG.fJ (ab (dB dM dJ 94 (aY (ab (qv 4) ak))) ak)) ak)) (ab (qx hu (qv 6) qI) ak))) ak))) ak)))) aN))) aN)))
   (qr (qv 3))))
def eB:CS:=
 (aM (bV (jS (aA (rR .tuple (af 0)))) 61 aT)
  (bR (cOp (fIn true) (cC (.bl false)) (iD (iTp (af 0)) (gNm 0) (kQ (rR .int (af 0)) (kQ (vC (rR .bool (af 0))) (kP fLe fLt 48 (af 0) (af 1)))) 1 [1]))))
theorem kG{k:Nat}(d:Def K mg "_law_are_numbers" fT ["thing","many"])(B:Blt mg):bh P w K mg base "_law_are_numbers" (k+1) ["thing","many"] (fnU 2 2 (eB )):=
 d.pu ["thing","many"] λhr hu nd=>(ah (aV (eD (cW (nR (T:=.tuple) (by intro z;cases z) (qv 0) (iE rfl B.tuple OG.bW) rfl B.isinstance))) (qr qB) aN)
   (qr (GR hu qB (mr (Nc:=["one","many"]) (tn:=["one"]) (capN:=["many"]) (caps:=[1]) rfl (dQ (qv 0)) (λ_ _ _=>bj (aF (i:=0) (show(["one","many"]:List Str).Nodup by decide +kernel) rfl 76)) (λ_ _ _=>kg (nR (T:=.int) (by intro z;cases z) (qv 0) (iE rfl B.int OG.mT) rfl B.isinstance) (kg (zI (nR (T:=.bool) (by intro z;cases z) (qv 0) (iE rfl B.bool OG.ue) rfl B.isinstance)) (sS (zL Hx O9 jG uN qI (qv 0) (qv 1))))) rfl rfl 39 39 ⟨rfl,trivial⟩ rfl 65 rfl rfl) 81)))
def g9(bZ:Fn):CS:=
 (aM (bV (cOr (jS (aA (rR .tuple (af 2)))) (cOr (aA (cOp fNe (cCB e9 (ae (af 2) aq)) 71)) (jS (aA (cCB bZ (ae (cOp fIx (af 2) 48) (ae (cCB e9 89) aq))))))) 61 aT)
  (aM (bV (cOr (jS (aA (cCB bZ (ae (cOp fIx (af 2) 46) (ae (cOp fIx (af 0) 46) aq))))) (aA (cOp fNe (cCB e9 (ae (cOp fIx (af 2) 46) aq)) (cOp fIx (af 0) 48)))) 61 aT)
  (bR (cOp (vj false) (cCB iS (ae (cOp fIx (af 2) 48) aq)) (kN (cOp fIx (af 2) 48))))))
theorem rj{k:Nat}{bZ:Fn}(d:Def K mg "_law_is_row" j6 ["world","dealings","row"])(B:Blt mg)(cV:bh P w K mg base "_law_are_numbers" (k) ["thing","many"] bZ):bh P w K mg base "_law_is_row" (k+1) ["world","dealings","row"] (fnU 3 3 (g9 bZ)):=
 d.pu ["world","dealings","row"] λhr hu nd=>(ah (aV (uI (C0 (eD (cW (nR (T:=.tuple) (by intro z;cases z) (qv 2) (iE rfl B.tuple OG.bW) rfl B.isinstance))) (C0 (aJ z7 Ln (aP eF eE rfl B.len PySem.boot_len (ab (qv 2) ak)) qI (aE _)) (sR (eD (cW (aB cV hr rfl (ab 94 (ab (aP eF eE rfl B.len PySem.boot_len (ab (qv 1) ak)) ak))))))))) (qr qB) aN)
   (ah (aV (uI (C0 (eD (cW (aB cV hr rfl (ab 94 (ab (qx hu (qv 0) qI) ak))))) (sR (aJ z7 Ln (aP eF eE rfl B.len PySem.boot_len (ab 94 ak)) (qx hu (qv 0) qI) (aE _))))) (qr qB) aN)
   (qr (k9 (tj hr.units) xQ (bt bJ ki rfl B.list OG.bP (ab 94 ak)) (xN rfl rfl B.sorted rfl B.set 94) (aE _)))))
def fK(bY bo:Fn):CS:=
 (i6 (af 4) (af 5) (cC (.bl true)))
def cY(bY bo:Fn):CS:=
 (bV (aA (cOp (vj true) (du (iTp (cCB bo (ae (af 0) (ae (af 2) (ae (af 5) aq))))) (gTp [0,1]) (aA (cOp wY (af 1) (af 2))) (af 1) 2 [4]) (fZ aq))) 61 aT)
def hG(bY bo:Fn):CS:=
 (aM (bV (cOr (jS (aA (rR .list (af 3)))) (aA (cOp (fIn false) (cC (.bl false)) (iD (iTp (af 3)) (gNm 0) (cCB bY 74) 1 [0,2])))) 61 aT)
  (aM (bB 4 Bu)
  (aM (ji (iTp (af 3)) (gNm 5) (fK bY bo))
  (aM (bV (aA (cOp wY (b8 (ae (b8 aq) 89)) (af 4))) 61 aT)
  (aM (ji (iTp (af 3)) (gNm 5) (cY bY bo))
  (bR (cC (.bl true))))))))
theorem rp{k:Nat}{bY bo:Fn}(d:Def K mg "_law_closed" j7 55)(B:Blt mg)(ie:bh P w K mg base "_law_is_row" (k) ["world","dealings","row"] bY)(fO:bh P w K mg base "_law_next" (k) ["world","dealings","row"] bo):bh P w K mg base "_law_closed" (k+1) 55 (fnU 6 4 (hG bY bo)):=
 d.pu ["world","state","dealings","thing","known","row"] λhr hu nd=>(ah (aV (uI (C0 (eD (cW (nR (T:=.list) (by intro z;cases z) (qv 3) (iE rfl B.list OG.bP) rfl B.isinstance))) (sR (KG hu qB (mr (Nc:=["row","world","dealings"]) (tn:=["row"]) (capN:=["world","dealings"]) (caps:=[0,2]) rfl (dQ (qv 3)) (λ_ _ _=>bj (aF (i:=0) (show(["row","world","dealings"]:List Str).Nodup by decide +kernel) rfl 76)) (λ_ _ _=>aB ie hr rfl (ab (qv 1) (ab (qv 2) (ab (qv 0) ak)))) rfl rfl 39 39 ⟨rfl,rfl,trivial⟩ rfl (.cons ⟨rfl,rfl,rfl,_,rfl⟩ 65) rfl rfl) 81)))) (qr qB) aN)
   (ah (qss 4 nd GV)
   (ah (gG PassesOwn.never rfl (dQ (qv 3)) (bj (aF (i:=5) nd rfl 76)) (aC (sP (iP hr) (qv 4) (qv 5) qB)))
   (ah (aV (j9 (iP hr) (aY (ab (aY ak) (ab (qv 1) ak))) (qv 4) 81) (qr qB) aN)
   (ah (gG PassesOwn.never rfl (dQ (qv 3)) (bj (aF (i:=5) nd rfl 76)) (aC (aV (aJ (Lv hr.units) xQ (kf (Nc:=["number","after","known"]) (tn:=["number","after"]) (capN:=["known"]) (caps:=[4]) rfl (dQ (aB fO hr rfl (ab (qv 0) (ab (qv 2) (ab (qv 5) ak))))) (λ_ _ _=>nQ rfl (cH (aF (i:=0) (show(["number","after","known"]:List Str).Nodup by decide +kernel) rfl 76) (cH (aF (i:=1) (show(["number","after","known"]:List Str).Nodup by decide +kernel) rfl 76) jE))) (λ_ _ _=>j9 (iP hr) (qv 1) (qv 2) 81) (λ_ _ _=>qv 1) rfl rfl 39 39 ⟨rfl,trivial⟩ rfl 65 rfl rfl) (fQ ak) (aE _)) (qr qB) aN)))
   (qr qB))))))
def iW(bH:Fn):CS:=
 (aM (bV (jS (aA (cCB bH (ae (af 0) (ae (af 1) (ae (af 2) (ae (af 3) aq))))))) 61 aT)
  (bR (cOp (vj false) (du (iTp (af 3)) (gNm 0) (aA (cOp fEq (cCB e9 (ae (cOp fIx (af 0) 48) aq)) (cCB e9 89))) (af 0) 1 [2]) (fZ aq))))
theorem tR{k:Nat}{bH:Fn}(d:Def K mg "_law_never" md 55)(B:Blt mg)(dq:bh P w K mg base "_law_closed" (k) 55 bH):bh P w K mg base "_law_never" (k+1) 55 (fnU 4 4 (iW bH)):=
 d.pu 55 λhr hu nd=>(ah (aV (eD (cW (aB dq hr rfl (ab (qv 0) (ab (qv 1) (ab (qv 2) (ab (qv 3) ak))))))) (qr qB) aN)
   (qr (k9 (tj hr.units) xQ (kf (Nc:=["row","dealings"]) (tn:=["row"]) (capN:=["dealings"]) (caps:=[2]) rfl (dQ (qv 3)) (λ_ _ _=>bj (aF (i:=0) (show(["row","dealings"]:List Str).Nodup by decide +kernel) rfl 76)) (λ_ _ _=>aJ d7 kj 87 (aP eF eE rfl B.len PySem.boot_len (ab (qv 1) ak)) (aE _)) (λ_ _ _=>qv 0) rfl rfl 39 39 ⟨rfl,trivial⟩ rfl 65 rfl rfl) (fQ ak) (aE _))))
def oH(bH bo:Fn):CS:=
 (aM (bV (jS (aA (cCB bH (ae (af 0) (ae (af 1) (ae (af 2) (ae (af 3) aq))))))) 61 aT)
  (aM (bB 4 (du (iTp (af 3)) (gNm 0) (aA (cOp fLt (cCB e9 (ae (cOp fIx (af 0) 48) aq)) (cCB e9 89))) (af 0) 1 [2]))
  (bR (cOp (vj false) (du (iTp (af 4)) (gNm 0) (aA (cOp (vj false) (cCB bo 74) (fZ aq))) (af 0) 1 [0,2]) (fZ aq)))))
theorem vb{k:Nat}{bH bo:Fn}(d:Def K mg "_law_free" nO 55)(B:Blt mg)(dq:bh P w K mg base "_law_closed" (k) 55 bH)(fO:bh P w K mg base "_law_next" (k) ["world","dealings","row"] bo):bh P w K mg base "_law_free" (k+1) 55 (fnU 5 4 (oH bH bo)):=
 d.pu ["world","state","dealings","thing","left"] λhr hu nd=>(ah (aV (eD (cW (aB dq hr rfl (ab (qv 0) (ab (qv 1) (ab (qv 2) (ab (qv 3) ak))))))) (qr qB) aN)
   (ah (sQ (Nc:=["row","dealings"]) (tn:=["row"]) (capN:=["dealings"]) (caps:=[2]) rfl (dQ (qv 3)) (λ_ _ _=>bj (aF (i:=0) (show(["row","dealings"]:List Str).Nodup by decide +kernel) rfl 76)) (λ_ _ _=>aJ jG uN 87 (aP eF eE rfl B.len PySem.boot_len (ab (qv 1) ak)) (aE _)) (λ_ _ _=>qv 0) rfl rfl 39 39 ⟨rfl,trivial⟩ rfl 65 rfl rfl nd rfl rfl rfl)
   (qr (k9 (tj hr.units) xQ (kf (Nc:=["row","world","dealings"]) (tn:=["row"]) (capN:=["world","dealings"]) (caps:=[0,2]) rfl (dQ (qv 4)) (λ_ _ _=>bj (aF (i:=0) (show(["row","world","dealings"]:List Str).Nodup by decide +kernel) rfl 76)) (λ_ _ _=>aJ (tj hr.units) xQ (aB fO hr rfl (ab (qv 1) (ab (qv 2) (ab (qv 0) ak)))) (fQ ak) (aE _)) (λ_ _ _=>qv 0) rfl rfl 39 39 ⟨rfl,rfl,trivial⟩ rfl (.cons ⟨rfl,rfl,rfl,_,rfl⟩ 65) rfl rfl) (fQ ak) (aE _)))))
theorem x8{k:Nat}(d:Def K mg "is_whole" pD ["thing"])(B:Blt mg):bh P w K mg base "is_whole" (k+1) ["thing"] (fnU 1 1 (pV )):=
 d.pu ["thing"] λhr hu nd=>qr (kg (nR (T:=.int) (by intro z;cases z) (qv 0) (iE rfl B.int OG.mT) rfl B.isinstance) (sS (zI (nR (T:=.bool) (by intro z;cases z) (qv 0) (iE rfl B.bool OG.ue) rfl B.isinstance))))
theorem uZ{k:Nat}{dc:Fn}(d:Def K mg "is_within" nJ ["thing","least","most"])(B:Blt mg)(fu:bh P w K mg base "is_whole" (k) ["thing"] dc):bh P w K mg base "is_within" (k+1) ["thing","least","most"] (fnU 3 3 (jQ dc)):=
 d.pu ["thing","least","most"] λhr hu nd=>qr (kg (aB fu hr rfl (ab (qv 0) ak)) (sS (zL Hx O9 Hx O9 (qv 1) (qv 0) (qv 2))))
def pW(g5:Fn):CS:=
 (aM (bV (cOr (jS (aA (rR .tuple (af 1)))) (aA (cOp fNe (cCB e9 89) (cOp fIx (af 0) 48)))) 61 aT)
  (bR (cCB yi (ae (iD (iTp (af 1)) (gNm 0) (cCB g5 (ae (af 0) (ae 48 (ae (cOp pM (cOp fIx (af 1) 46) 46) aq)))) 1 [0]) aq))))
theorem yc{k:Nat}{g5:Fn}(d:Def K mg "is_state" pF ["world","thing"])(B:Blt mg)(jV:bh P w K mg base "is_within" (k) ["thing","least","most"] g5):bh P w K mg base "is_state" (k+1) ["world","thing"] (fnU 2 2 (pW g5)):=
 d.pu ["world","thing"] λhr hu nd=>(ah (aV (uI (C0 (eD (cW (nR (T:=.tuple) (by intro z;cases z) (qv 1) (iE rfl B.tuple OG.bW) rfl B.isinstance))) (sR (aJ z7 Ln (aP eF eE rfl B.len PySem.boot_len (ab (qv 1) ak)) (qx hu (qv 0) qI) (aE _))))) (qr qB) aN)
   (qr (aP (kM rfl) z6 rfl B.all OG.kR (ab (mr (Nc:=["number","world"]) (tn:=["number"]) (capN:=["world"]) (caps:=[0]) rfl (dQ (qv 1)) (λ_ _ _=>bj (aF (i:=0) (show(["number","world"]:List Str).Nodup by decide +kernel) rfl 76)) (λ_ _ _=>aB jV hr rfl (ab (qv 0) (ab qI (ab (dB jn o6 68 qI) ak)))) rfl rfl 39 39 ⟨rfl,trivial⟩ rfl 65 rfl rfl) ak))))
def ub(dc:Fn):CS:=
 (aM (bV (cOr (jS (aA (rR .tuple (af 1)))) (jS (aA (cCB yi (ae (iD (iTp (af 1)) (gNm 0) (cCB dc (ae (af 0) aq)) 1 []) aq))))) 61 aT)
  (bR (cOp (vj false) (cCB iS 89) (du (iTp (af 0)) (gNm 0) (aA (cOp (fIn false) (af 0) (af 1))) (af 0) 1 [1]))))
theorem AR{k:Nat}{dc:Fn}(d:Def K mg "is_some" sJ ["ones","thing"])(B:Blt mg)(fu:bh P w K mg base "is_whole" (k) ["thing"] dc):bh P w K mg base "is_some" (k+1) ["ones","thing"] (fnU 2 2 (ub dc)):=
 d.pu ["ones","thing"] λhr hu nd=>(ah (aV (uI (C0 (eD (cW (nR (T:=.tuple) (by intro z;cases z) (qv 1) (iE rfl B.tuple OG.bW) rfl B.isinstance))) (sR (eD (cW (aP (kM rfl) z6 rfl B.all OG.kR (ab (mr (Nc:=["a"]) (tn:=["a"]) (capN:=[]) (caps:=[]) rfl (dQ (qv 1)) (λ_ _ _=>bj (aF (i:=0) (show(["a"]:List Str).Nodup by decide +kernel) rfl 76)) (λ_ _ _=>aB fu hr rfl (ab (qv 0) ak)) rfl rfl 39 39 trivial rfl .nil rfl rfl) ak))))))) (qr qB) aN)
   (qr (k9 (tj hr.units) xQ (bt bJ ki rfl B.list OG.bP (ab (qv 1) ak)) (kf (Nc:=["a","thing"]) (tn:=["a"]) (capN:=["thing"]) (caps:=[1]) rfl (dQ (qv 0)) (λ_ _ _=>bj (aF (i:=0) (show(["a","thing"]:List Str).Nodup by decide +kernel) rfl 76)) (λ_ _ _=>KG hu (qv 0) (qv 1) 81) (λ_ _ _=>qv 0) rfl rfl 39 39 ⟨rfl,trivial⟩ rfl 65 rfl rfl) (aE _))))
def lJ(kH je:Fn):CS:=
 (aM (bV (cOr (jS (aA (rR .tuple (af 2)))) (aA (cOp fNe (cCB e9 (ae (af 2) aq)) 71))) 61 aT)
  (bR (kQ (cCB kH (ae (af 1) (ae (cOp fIx (af 2) 48) aq))) (cCB je (ae (af 0) (ae (cOp fIx (af 2) 46) aq))))))
theorem yd{k:Nat}{kH je:Fn}(d:Def K mg "is_place" pG ["world","ones","thing"])(B:Blt mg)(oR:bh P w K mg base "is_some" (k) ["ones","thing"] kH)(lO:bh P w K mg base "is_state" (k) ["world","thing"] je):bh P w K mg base "is_place" (k+1) ["world","ones","thing"] (fnU 3 3 (lJ kH je)):=
 d.pu ["world","ones","thing"] λhr hu nd=>(ah (aV (uI (C0 (eD (cW (nR (T:=.tuple) (by intro z;cases z) (qv 2) (iE rfl B.tuple OG.bW) rfl B.isinstance))) (sR (aJ z7 Ln (aP eF eE rfl B.len PySem.boot_len (ab (qv 2) ak)) qI (aE _))))) (qr qB) aN)
   (qr (kg (aB oR hr rfl (ab (qv 1) (ab 94 ak))) (sS (aB lO hr rfl (ab (qv 0) (ab 94 ak)))))))
theorem uY{k:Nat}{lC:Fn}(d:Def K mg "ways_from" nI ["world","dealings","place"])(B:Blt mg)(vN:bh P w K mg base "alone" (k) ["world","dealing","state"] lC):bh P w K mg base "ways_from" (k+1) ["world","dealings","place"] (fnU 7 3 (jP lC)):=
 d.pu ["world","dealings","place","ways","number","dealing","told"] λhr hu nd=>(ah (qss 3 nd (fQ ak))
   (ah (gG PassesOwn.never rfl (uH rfl B.enumerate (qv 1)) (nQ rfl (cH (aF (i:=4) nd rfl 76) (cH (aF (i:=5) nd rfl 76) jE))) (aC (aV (ke hu (qv 4) 94 81) (ah (qss 6 nd (aB vN hr rfl (ab (qv 0) (ab (qv 5) (ab 94 ak)))))
   (aC (aV (aJ d7 kj (qx hu (qv 6) qI) qS (aE _)) (aC (cq (d6 (qv 3) (ab (aY (ab (qv 4) (ab (aY (ab (bt cL jF rfl B.tuple OG.bW (ab (aP tm sX rfl B.sorted OG.fJ (ab (dB dM dJ 94 (aY (ab (qv 4) ak))) ak)) ak)) (ab (qx hu (qv 6) qI) ak))) ak))) ak)))) aN))) aN)))
   (qr (qv 3))))
theorem iq:cN ["world","state","ones","thing","ways","places","place"] ["world","state","ones","thing","ways"] (ay fB):=fsc
def cB(ft:Fn)(Φ:Obj->List V->Prop)(cb:CE):CS:=
 (bV (jS (aA (cCB yi (ae (iD (iTp (El Φ cb (af 4) (af 6))) (gNm 0) (cOp vh (cOp fIx (af 0) 46) (af 1)) 1 [5]) aq)))) (bR (cC .non)) aT)
def fG(ft:Fn)(Φ:Obj->List V->Prop)(cb:CE):CS:=
 (aM (bV (cOr (jS (aA (rR .list (af 3)))) (jS (aA (cCB yi (ae (iD (iTp (af 3)) (gNm 0) (cCB ft 74) 1 [0,2]) aq))))) (bR (cC .non)) aT)
  (aM (bB 5 (cCB pN (ae (iD (iTp (af 3)) (gNm 0) (b8 (ae (af 0) (ae (cC (.bl true)) aq))) 1 []) aq)))
  (aM (bV (aA (cOp wY (b8 (ae (b8 aq) 89)) (af 5))) (bR (cC .non)) aT)
  (aM (ph (af 5) (gNm 6) (cB ft Φ cb))
  (bR (af 5))))))
theorem oj{k kr:Nat}{ft:Fn}{cb:CE}(d:Def K mg "closed_places" fB ["world","state","ones","thing","ways"])(B:Blt mg)(lP:bh P w K mg base "is_place" k ["world","ones","thing"] ft)(hk:kr+1<=k):xx P w K mg base "closed_places" (k+1) ["world","state","ones","thing","ways"] (λΦ=>fnU 7 5 (fG ft Φ cb)) cb kr:=
 DfD.lam d iq λΦ f cdv A outer s H E hr L=>(by
  have hu:=x6 hr;have nd:=iq.nd;exact(ah (aV (uI (C0 (eD (cW (nR (T:=.list) (by intro z;cases z) (qv 3) (iE rfl B.list OG.bP) rfl B.isinstance))) (sR (eD (cW (aP (kM rfl) z6 rfl B.all OG.kR (ab (mr (Nc:=["place","world","ones"]) (tn:=["place"]) (capN:=["world","ones"]) (caps:=[0,2]) rfl (dQ (qv 3)) (λ_ _ _=>bj (aF (i:=0) (show(["place","world","ones"]:List Str).Nodup by decide +kernel) rfl 76)) (λ_ _ _=>aB lP hr rfl (ab (qv 1) (ab (qv 2) (ab (qv 0) ak)))) rfl rfl 39 39 ⟨rfl,rfl,trivial⟩ rfl (.cons ⟨rfl,rfl,rfl,_,rfl⟩ 65) rfl rfl) ak))))))) (qr qN) aN)
   (ah (qss 5 nd (bt (HD rfl (Mg hr)) Hu rfl B.dict OG.Bw (ab (mr (Nc:=["place"]) (tn:=["place"]) (capN:=[]) (caps:=[]) rfl (dQ (qv 3)) (λ_ _ _=>bj (aF (i:=0) (show(["place"]:List Str).Nodup by decide +kernel) rfl 76)) (λ_ _ _=>aY (ab (qv 0) (ab qB ak))) rfl rfl 39 39 trivial rfl .nil rfl rfl) ak)))
   (ah (aV (j9 (iP hr) (aY (ab (aY ak) (ab (qv 1) ak))) (qv 5) 81) (qr qN) aN)
   (ah (uG PassesOwn.never rfl (qv 5) (bj (aF (i:=6) nd rfl 76)) (aC (aV (eD (cW (aP (kM rfl) z6 rfl B.all OG.kR (ab (mr (Nc:=["way","places"]) (tn:=["way"]) (capN:=["places"]) (caps:=[5]) rfl (dQ (zJ L (hr.mono hk) (qv 4) (qv 6))) (λ_ _ _=>bj (aF (i:=0) (show(["way","places"]:List Str).Nodup by decide +kernel) rfl 76)) (λ_ _ _=>OX (iP hr) (qx hu (qv 0) qI) (qv 1) 81) rfl rfl 39 39 ⟨rfl,trivial⟩ rfl 65 rfl rfl) ak)))) (qr qN) aN)))
   (qr (qv 5)))))))
theorem mH{k:Nat}{aR:Fn}{fuel:Nat}(d:Def K mg "rows_to_places" iA ["world","state","dealings"])(B:Blt mg)(cZ:bh P w K mg base "ways_from" (k) ["world","dealings","place"] aR):bh P w K mg base "rows_to_places" (k+1) ["world","state","dealings"] (fnU 8 3 (fb aR fuel)):=
 d.pu ["world","state","dealings","rows","left","place","number","reached"] λhr hu nd=>(ah (qss 3 nd (GW (iP hr) (aY (ab (aY ak) (ab (qv 1) ak))) (fQ ak)))
   (ah (qss 4 nd (fQ (ab (aY (ab (aY ak) (ab (qv 1) ak))) ak)))
   (ah (qC fuel PassesOwn.never (aJ sZ EY (aP eF eE rfl B.len PySem.boot_len (ab (qv 4) ak)) qI (aE _)) (ah (qss 5 nd (GQ (qv 4) (ab qI ak)))
   (aC (gG PassesOwn.never rfl (dQ (aB cZ hr rfl (ab (qv 0) (ab (qv 2) (ab (qv 5) ak))))) (nQ rfl (cH (aF (i:=6) nd rfl 76) (cH (aF (i:=7) nd rfl 76) jE))) (aC (aV (j9 (iP hr) (qv 7) (qv 3) 81) (ah (sP (iP hr) (qv 3) (qv 7) (dB dM dJ (GU (iP hr) (qv 3) (qv 5) (λ_ _=>rfl)) (fQ (ab (qv 6) ak))))
   (aC (cq (d6 (qv 4) (ab (qv 7) ak))))) aN))))))
   (qr (qv 3)))))
theorem ya{k:Nat}{aR:Fn}(d:Def K mg "is_stuck" pE ["world","dealings","place"])(B:Blt mg)(cZ:bh P w K mg base "ways_from" (k) ["world","dealings","place"] aR):bh P w K mg base "is_stuck" (k+1) ["world","dealings","place"] (fnU 3 3 (gJ aR)):=
 d.pu ["world","dealings","place"] λhr hu nd=>qr (kg (k9 jG uN (aP eF eE rfl B.len PySem.boot_len (ab 94 ak)) (aP eF eE rfl B.len PySem.boot_len (ab (qv 1) ak)) (aE _)) (sS (k9 d7 kj (aP eF eE rfl B.len PySem.boot_len (ab (aB cZ hr rfl (ab (qv 0) (ab (qv 1) (ab (qv 2) ak)))) ak)) qI (aE _))))
theorem ye{k:Nat}{aK:Fn}(d:Def K mg "all_done" pH ["world","state","dealings"])(B:Blt mg)(bX:bh P w K mg base "rows_to_places" (k) ["world","state","dealings"] aK):bh P w K mg base "all_done" (k+1) ["world","state","dealings"] (fnU 5 3 (pX aK)):=
 d.pu ["world","state","dealings","rows","place"] λhr hu nd=>(ah (qss 3 nd (aB bX hr rfl (ab (qv 0) (ab (qv 1) (ab (qv 2) ak)))))
   (ah (uG PassesOwn.never rfl (qv 3) (bj (aF (i:=4) nd rfl 76)) (aC (aV (aJ d7 kj (aP eF eE rfl B.len PySem.boot_len (ab (qx hu (qv 4) qI) ak)) (aP eF eE rfl B.len PySem.boot_len (ab (qv 2) ak)) (aE _)) (qr (aY (ab qS (ab (GU (iP hr) (qv 3) (qv 4) (λ_ _=>rfl)) ak)))) aN)))
   (qr (aY (ab qS (ab (bt (Ab rfl) zZ rfl B.list OG.bP (ab (qv 3) ak)) ak))))))
theorem Ig{k:Nat}{aK cw:Fn}(d:Def K mg "stuck" zv ["world","state","dealings"])(B:Blt mg)(bX:bh P w K mg base "rows_to_places" (k) ["world","state","dealings"] aK)(fz:bh P w K mg base "is_stuck" (k) ["world","dealings","place"] cw):bh P w K mg base "stuck" (k+1) ["world","state","dealings"] (fnU 5 3 (Bp aK cw)):=
 d.pu ["world","state","dealings","rows","place"] λhr hu nd=>(ah (qss 3 nd (aB bX hr rfl (ab (qv 0) (ab (qv 1) (ab (qv 2) ak)))))
   (ah (uG PassesOwn.never rfl (qv 3) (bj (aF (i:=4) nd rfl 76)) (aC (aV (cW (aB fz hr rfl (ab (qv 0) (ab (qv 2) (ab (qv 4) ak))))) (qr (aY (ab qS (ab (GU (iP hr) (qv 3) (qv 4) (λ_ _=>rfl)) ak)))) aN)))
   (qr (aY (ab qS (ab (bt (Ab rfl) zZ rfl B.list OG.bP (ab (qv 3) ak)) ak))))))
def jj:cN ["world","state","dealings","thing","ones"] 55 (ay gW):=fsc
abbrev FD(p:Addr):O:=.cod p ⟨166,52,166,99⟩ ("told_places"++".<locals>."++"<lambda>")
abbrev oE(aR:Fn):CE:=cCB aR (ae (af 2) (ae (af 1) (ae (af 0) aq)))
def g6(fc:(Obj->List V->Prop)->Fn)(zO:O):CS:=
 (aM (bB 4 (gM (ae (cCB e9 (ae (af 2) aq)) aq)))
  (bR (En zO [2,0] fc (ae (af 0) (ae (af 1) (ae (af 4) (ae (af 3) aq)))))))
theorem rg{h0:Heap}{k kr:Nat}{fc:(Obj->List V->Prop)->Fn}{aR:Fn}{cO pO:Addr}(X0:K.In h0)(G0:h0.Ns mainGlobals mg)(d:Def K mg "told_places" gW 55)(cd:IZ K "told_places" cO pO)(bm:BP mg base)(B:Blt mg)(fM:xx P w K mg base "closed_places" k ["world","state","ones","thing","ways"] fc (oE aR) kr)(cZ:bh P w K mg base "ways_from" kr ["world","dealings","place"] aR):bh P w K mg base "told_places" (k+1) 55 (fnU 5 4 (g6 fc (FD pO))):=by
 have hC:=cd;let⟨_,_,_,_,_,_,_,hC⟩:=hC;exact DfD.pureC X0 G0 d cd jj λf A outer s H E hr=>(by
  have hu:=x6 hr;have nd:=jj.nd;exact ah (qss 4 nd (uJ rfl rfl B.list rfl B.range (ab (aP eF eE rfl B.len PySem.boot_len (ab (qv 2) ak)) ak) rfl rfl)) (qr (KO (x:="closed_places") (pa:="place") (ks:=[2,0]) (caps:=["dealings","world"]) (cl:=[("world",s.heap.objs.size+1),("dealings",s.heap.objs.size+1+1)]) fM hr (λ_=>rfl) rfl (mM (qv 0) (mM (qv 1) (mM (qv 4) (mM (qv 3) (Ho (Lf rfl hC bm rfl rfl)))))) (Aq rfl rfl) (.cons ⟨rfl,rfl,rfl,_,rfl⟩ 65) ⟨rfl,rfl,rfl,by decide +kernel,rfl⟩ (λ_ _ _ _=>rfl) (DM 39) λc outer f A s' H' hr'=>aB cZ hr' rfl (ab (qv 2) (ab (qv 1) (ab (qv 0) ak))))))
def g7(bF:Fn):CS:=
 (aM (bB 4 (cCB bF (ae (af 0) (ae (af 1) (ae (af 2) (ae (af 3) aq))))))
  (bR (kQ (cOp lD (af 4) (cC .non)) (cCB yi (ae (ud (af 4) (gNm 0) (cOp fLt (cCB e9 (ae (cOp fIx (af 0) 48) aq)) (cCB e9 89)) 1 [2]) aq)))))
theorem rh{k:Nat}{bF:Fn}(d:Def K mg "shows_never" j5 55)(B:Blt mg)(dk:bh P w K mg base "told_places" (k) 55 bF):bh P w K mg base "shows_never" (k+1) 55 (fnU 5 4 (g7 bF)):=
 d.pu ["world","state","dealings","thing","places"] λhr hu nd=>(ah (qss 4 nd (aB dk hr rfl (ab (qv 0) (ab (qv 1) (ab (qv 2) (ab (qv 3) ak))))))
   (qr (kg (k9 nX sY (qv 4) qN (aE _)) (sS (aP (kM rfl) z6 rfl B.all OG.kR (ab (zK (Nc:=["place","dealings"]) (tn:=["place"]) (capN:=["dealings"]) (caps:=[2]) rfl (qv 4) (λ_ _ _=>bj (aF (i:=0) (show(["place","dealings"]:List Str).Nodup by decide +kernel) rfl 76)) (λ_ _ _=>k9 jG uN 87 (aP eF eE rfl B.len PySem.boot_len (ab (qv 1) ak)) (aE _)) rfl rfl 39 39 ⟨rfl,trivial⟩ rfl 65 rfl rfl) ak))))))
def iU(bF cw:Fn):CS:=
 (aM (bB 4 (cCB bF (ae (af 0) (ae (af 1) (ae (af 2) (ae (af 3) aq))))))
  (bR (kQ (cOp lD (af 4) (cC .non)) (vC (cCB Je (ae (ud (af 4) (gNm 0) (cCB cw 74) 1 [0,2]) aq))))))
theorem tN{k:Nat}{bF cw:Fn}(d:Def K mg "shows_free" l6 55)(B:Blt mg)(dk:bh P w K mg base "told_places" (k) 55 bF)(fz:bh P w K mg base "is_stuck" (k) ["world","dealings","place"] cw):bh P w K mg base "shows_free" (k+1) 55 (fnU 5 4 (iU bF cw)):=
 d.pu ["world","state","dealings","thing","places"] λhr hu nd=>(ah (qss 4 nd (aB dk hr rfl (ab (qv 0) (ab (qv 1) (ab (qv 2) (ab (qv 3) ak))))))
   (qr (kg (k9 nX sY (qv 4) qN (aE _)) (sS (zI (aP (Ej rfl) Pb rfl B.any OG.Er (ab (zK (Nc:=["place","world","dealings"]) (tn:=["place"]) (capN:=["world","dealings"]) (caps:=[0,2]) rfl (qv 4) (λ_ _ _=>bj (aF (i:=0) (show(["place","world","dealings"]:List Str).Nodup by decide +kernel) rfl 76)) (λ_ _ _=>aB fz hr rfl (ab (qv 1) (ab (qv 2) (ab (qv 0) ak)))) rfl rfl 39 39 ⟨rfl,rfl,trivial⟩ rfl (.cons ⟨rfl,rfl,rfl,_,rfl⟩ 65) rfl rfl) ak)))))))
def ER:cN ["script","pen","world","turn","state","dealings","told","other","table"] ["script"] (ay GJ):=fsc
def IM(bx aQ aH cy bz ag bg fF bO bw:Fn):CS:=
 (bV (aA (cOp lF (cCB bg (ae (af 2) (ae (af 4) (ae (af 5) (ae (cCB iS (ae (af 8) aq)) aq))))) (cC (.bl true)))) 61 aT)
def IL(bx aQ aH cy bz ag bg fF bO bw:Fn):CS:=
 (bV (aA (cOp lF (cCB bw (ae (af 2) (ae (af 4) (ae (af 5) (ae (cCB iS (ae (af 8) aq)) aq))))) (cC (.bl true)))) 61 aT)
def oK(bx aQ aH cy bz ag bg fF bO bw:Fn):CS:=
 (aM (bB 4 (cCB aQ (ae (af 1) (ae (af 2) aq))))
  (aM (bB 5 (cCB aH (ae (af 1) (ae (af 2) (ae (cC (.int 6)) aq)))))
  (aM (bB 6 (cCB cy (ae (af 2) (ae (af 4) (ae (af 5) aq)))))
  (aM (bV (aA (cOp fEq (cOp fIx (af 6) 48) (cC (.str "never")))) (aM (bV (jS (aA (cCB bz (ae (af 2) (ae (af 4) (ae (af 5) (ae (cOp fIx (af 6) 46) aq))))))) 61 aT)
  (aM (bB 7 (cOp fIx (fZ 91) (cCB ag (ae (af 1) (ae 71 aq)))))
  (ji (iTp (fZ (ae (cOp fIx (af 6) 46) (ae (af 7) aq)))) (gNm 8) (IM bx aQ aH cy bz ag bg fF bO bw)))) aT)
  (aM (bB 6 (cCB fF (ae (af 2) (ae (af 4) (ae (af 5) aq)))))
  (bV (aA (cOp fEq (cOp fIx (af 6) 48) (cC (.str "free")))) (aM (bV (jS (aA (cCB bO (ae (af 2) (ae (af 4) (ae (af 5) (ae (cOp fIx (af 6) 46) aq))))))) 61 aT)
  (aM (bB 7 (cOp fIx (fZ 91) (cCB ag (ae (af 1) (ae 71 aq)))))
  (ji (iTp (fZ (ae (cOp fIx (af 6) 46) (ae (af 7) aq)))) (gNm 8) (IL bx aQ aH cy bz ag bg fF bO bw)))) aT))))))
def Bq(bx aQ aH cy bz ag bg fF bO bw:Fn):CS:=
 (aM (bB 2 (cCB bx 89))
  (aM (ji (gq (ae (cC (.int 3)) aq)) (gNm 3) (oK bx aQ aH cy bz ag bg fF bO bw))
  (bR (cC (.bl true)))))
theorem PM{k:Nat}{bx aQ aH cy bz ag bg fF bO bw:Fn}{fa pO:Addr}{fd:XF}(F:Fun K "law" "law" GJ fa fd)(B:Blt mg)(yv:Has P w K mg base "_law_pen" (k) ["script"] (EO K))(i9:bh P w K mg base "_law_world" (k) ["pen"] bx)(fg:bh P w K mg base "_law_few_state" (k) ["pen","world"] aQ)(dv:bh P w K mg base "_law_some_dealings" (k) ["pen","world","most"] aH)(lQ:bh P w K mg base "all_done" (k) ["world","state","dealings"] cy)(ja:bh P w K mg base "_law_never" (k) 55 bz)(aw:93)(ib:bh P w K mg base "shows_never" (k) 55 bg)(vM:bh P w K mg base "stuck" (k) ["world","state","dealings"] fF)(jX:bh P w K mg base "_law_free" (k) 55 bO)(i8:bh P w K mg base "shows_free" (k) 55 bw)
  (ok:∀(ns:List Int) (a c:Int),0<=a->0<=c->∃ρ' S',Bq bx aQ aH cy bz ag bg fF bO bw [none,some (.ref 1),none,none,none,none,none,none,none] [.lst (ns.map U.int),.lst [.ref 0,.int a,.int c],FD pO]=some (.rt (.bl true),ρ',S')):kX P w K mg base CX0 (k+1) fa fd ["script"] (qu pO K):=by
 refine Fun.okW F ER (λvs H Q E h=>(by let⟨a,ns,rfl,_⟩:=h;rfl)) λcdv A outer s H vs Q E hr h=>?_;let⟨a,ns,rfl,hS,h_,hpO,q⟩:=h;have hu:=x6 hr;have nd:=ER.nd;refine⟨_,se (u:=tS K (Bq bx aQ aH cy bz ag bg fF bO bw)) (yK (i:=1) nd rfl 76 (EL yv hr rfl (dZ (wpv 0) iF))) (ah (qss 2 nd (aB i9 hr rfl (ab (qv 1) ak)))
   (ah (gG PassesOwn.never rfl (j8 rfl B.range (ab qI ak)) (bj (aF (i:=3) nd rfl 76)) (ah (qss 4 nd (aB fg hr rfl (ab (qv 1) (ab (qv 2) ak))))
   (ah (qss 5 nd (aB dv hr rfl (ab (qv 1) (ab (qv 2) (ab qI ak)))))
   (ah (qss 6 nd (aB lQ hr rfl (ab (qv 2) (ab (qv 4) (ab (qv 5) ak)))))
   (ah (aV (aJ d7 kj (qx hu (qv 6) qI) qS (aE _)) (ah (aV (eD (cW (aB ja hr rfl (ab (qv 2) (ab (qv 4) (ab (qv 5) (ab (qx hu (qv 6) qI) ak))))))) (qr qB) aN)
   (ah (qss 7 nd (qx hu (fQ (ab (KH (qx hu (qv 6) qI) (C1 qI)) (ab (dB dM dJ (qx hu (qv 6) qI) (M0 (qx hu (qv 6) qI) (qD (C1 qI)) qE)) ak))) (aB aw hr rfl (ab (qv 1) (ab qI ak)))))
   (aC (gG PassesOwn.never rfl (dQ (fQ (ab (qx hu (qv 6) qI) (ab (qv 7) ak)))) (bj (aF (i:=8) nd rfl 76)) (aC (aV (aJ nY wD (aB ib hr rfl (ab (qv 2) (ab (qv 4) (ab (qv 5) (ab (bt bJ ki rfl B.list OG.bP (ab (qv 8) ak)) ak))))) qB (aE _)) (qr qB) aN)))))) aN)
   (ah (qss 6 nd (aB vM hr rfl (ab (qv 2) (ab (qv 4) (ab (qv 5) ak)))))
   (aC (aV (aJ d7 kj (qx hu (qv 6) qI) qS (aE _)) (ah (aV (eD (cW (aB jX hr rfl (ab (qv 2) (ab (qv 4) (ab (qv 5) (ab (qx hu (qv 6) qI) ak))))))) (qr qB) aN)
   (ah (qss 7 nd (qx hu (fQ (ab (KH (qx hu (qv 6) qI) (C1 qI)) (ab (dB dM dJ (qx hu (qv 6) qI) (M0 (qx hu (qv 6) qI) (qD (C1 qI)) qE)) ak))) (aB aw hr rfl (ab (qv 1) (ab qI ak)))))
   (aC (gG PassesOwn.never rfl (dQ (fQ (ab (qx hu (qv 6) qI) (ab (qv 7) ak)))) (bj (aF (i:=8) nd rfl 76)) (aC (aV (aJ nY wD (aB i8 hr rfl (ab (qv 2) (ab (qv 4) (ab (qv 5) (ab (bt bJ ki rfl B.list OG.bP (ab (qv 8) ak)) ak))))) qB (aE _)) (qr qB) aN)))))) aN))))))))
   (qr qB))),?_⟩
 refine⟨_,rfl,a,ns,rfl,hS,λp xs H1 s1 P1 n1=>?_⟩;exact Ao P1 (s1 _ _ hpO) ok q
variable{n:Int}{p:Pl}{S:Sto}{f:Fn}{lo:Nat}
section
variable{w:Int}{N:Nat}
def Qe:Fn:=fnU 1 1 pV
def Qd:Fn:=fnU 3 3 (jQ Qe)
def ML:Fn:=gcF 0 (fnU 2 2 (pW Qd))
def MM:Fn:=gcF 0 (fnU 2 2 (ub Qe))
def vJ:Fn:=gcF 0 (fnU 3 3 (lJ MM ML))
def J3{k:Int}:Qe [.int k] S=some (.bl true,S):=rfl
theorem Ow{k a b:Int}(h1:a<=k)(h2:k<=b):Qd [.int k,.int a,.int b] S=some (.bl true,S):=by
 have hc:kP fLe fLe (af 1) (af 0) (af 2) [some (.int k),some (.int a),some (.int b)] S=some (.bl true,S):=by
  have v1:af 1 [some (.int k),some (.int a),some (.int b)] S=some (.int a,S):=rfl;have v0:af 0 [some (.int k),some (.int a),some (.int b)] S=some (.int k,S):=rfl;have v2:af 2 [some (.int k),some (.int a),some (.int b)] S=some (.int b,S):=rfl;unfold kP;rw[v1,Z4];dsimp only;rw[v0,Z4];dsimp only;rw[MV,Z4,Xa h1];dsimp only;rw[v2,Z4,MV,Xa h2]
 have e:=J3 (S:=S) (k:=k);unfold Qd;rw[vm];rwa[jQ,e,hc]
theorem gc0{g:Fn}{us:List U}{u:U}(h:Wp (g us S) λr=>r.1=u/\∃G,r.2=S++G)(hu:RfU (· < S.length) u):gcF 0 g us S=some (u,S):=by
 let⟨⟨u',S'⟩,e,rfl,G,rfl⟩:=h;exact PQ e hu
def sT{us:List U}{Y:Sto}:tyU (.tup us) Y=some .tuple:=rfl
def sTT:BR .tuple .tuple=true:=rfl
theorem L4(w0:2<=w)(n0:0<=n)(n1:n<=6){st:List Int}(hs:st.length=n.toNat)(hb:∀z∈st,0<=z/\z<w):ML [.tup 92,.tup (st.map U.int)] S=some (.bl true,S):=by
 refine gc0 (jFn rfl (Nb (QQ (.of (r:=(false,S)) ?_ ⟨rfl,rfl,?_⟩)))) trivial;have l1:decide (((st.map U.int).length:Int)=n)=true:=Xa (by rw[ZQ];omega);rwa[iH,sT,sTT,l1,ZM,XX];refine PL (DS (DR (J5 (xs:=st) (f:=U.int) (v:=λ_=>U.bl true) (ok:=λ_=>True) (S1:=S) (cs:=[some 28]) (Ia rfl) (λ_=>trivial) 24 rfl (λx hx G=>?_) λG=>Nd (MW (bs:=st.map λ_=>true) (by rw[ga0,Za];rfl) ?_))));let⟨h1,h2⟩:=hb x hx;have e:=Ow (S:=S++G) (k:=x) (a:=0) (b:=w-1) h1 24;rwa[e,yT];exact⟨trivial,[],by simp⟩;exact⟨_,rfl,by simp,_,rfl⟩
theorem PU{xs:List Int}(so:xs.Pairwise (· < ·))(bd:∀b∈xs,0<=b/\b<(N:Int)):((Zp N).map λi:Nat=>(i:Int)).filter (λi=>decide (i∈xs))=xs:=by
 have e1:dY xs=xs:=(fS (.refl _) (so.imp λh=>Int.le_of_lt h)).symm;rw[<-e1];refine fS ((List.perm_ext_iff_of_nodup (List.Nodup.sublist List.filter_sublist ?_) (so.imp λh e=>by omega)).mpr λa=>?_) ?_;exact List.pairwise_map.mpr (List.Pairwise.imp (λh e=>h (Int.ofNat.inj e)) List.nodup_range);rw[e1,List.mem_filter,decide_eq_true_eq];refine⟨λh=>h.2,λh=>⟨?_,h⟩⟩;let⟨h1,h2⟩:=bd a h;exact Zy.mpr ⟨a.toNat,XH.mpr 24,by omega⟩;exact(List.pairwise_map.mpr (List.Pairwise.imp (λh=>by omega) List.pairwise_lt_range)).sublist List.filter_sublist
theorem NX{k:Int}{xs:List Int}:fIn false (.int k) (.tup (xs.map U.int)) S=some (.bl (decide (k∈xs)),S):=by
 have h1:(xs.map U.int).all gI=true:=by rw[List.all_map];exact XJ.mpr λ_ _=>rfl
 have h2:=Ac (k:=k) (xs:=xs) (S:=S);unfold fIn at h2 ⊢;dsimp only at h2 ⊢;rw[Xe ⟨rfl,h1⟩]at h2 ⊢;injection h2 with h2;injection h2 with h2;injection h2 with h2;have h3:inU (.int k) (xs.map U.int)=decide (k∈xs):=by
  revert h2;cases inU (.int k) (xs.map U.int)<;>cases decide (k∈xs)<;>simp
 rw[h3];rfl
theorem L6{xs:List Int}(hN:N<=900)(so:xs.Pairwise (· < ·))(bd:∀b∈xs,0<=b/\b<(N:Int))(hl:xs.length<=900)(ho:S[lo]?=some (.lst (cE 0 N))):MM [.ref lo,.tup (xs.map U.int)] S=some (.bl true,S):=by
 refine gc0 (jFn rfl (Nb (QQ (RL (.of (r:=(false,S)) ?_ ⟨rfl,RM (LY (b:=true) ?_)⟩))))) trivial;rwa[iH,sT,sTT,ZM,XX];refine DS (DR (J5 (xs:=xs) (f:=U.int) (v:=λ_=>U.bl true) (ok:=λ_=>True) (S1:=S) (cs:=[]) (Ia rfl) (λ_=>trivial) 24 rfl (λx hx G=>?_) λG=>Nd (MW (bs:=xs.map λ_=>true) (by rw[ga0,Za];rfl) ?_)));have e:=J3 (S:=S++G) (k:=x);rwa[e,yT];exact⟨trivial,[],by simp⟩;refine⟨by simp,rfl,rfl,PL (jOp (DS (DR (RJ rfl (Nd ?_)))))⟩;obtain⟨S1,hS1⟩:∃S1,S1=S++(O.lst (xs.map λ_=>U.bl true)::G):=⟨_,rfl⟩;show Wp (iS [.tup (xs.map U.int)] (S++(O.lst (xs.map λ_=>U.bl true)::G))) _;rw[<-hS1];refine .of (r:=(.ref S1.length,S1++[.lst (xs.map U.int)])) (by rwa[]) ?_;have ho1:∀Z,(S1++Z)[lo]?=some (.lst (cE 0 N)):=λZ=>ar (by rw[hS1];exact ar ho);refine uw (xs:=(Zp N).map λi:Nat=>(i:Int)) (f:=U.int) (v:=U.int) (p:=λi=>decide (i∈xs)) (S1:=S1++[.lst (xs.map U.int)]) (cs:=[some (.tup (xs.map U.int))]) (ok:=λS=>S[lo]?=some (.lst (cE 0 N))) ?_ (λG=>by rw[ZJ];exact ho1 _) 72 rfl (λx hx G=>?_) λG=>?_;have:=mG (ca:=af 0) (ρ:=iH 2 [.ref lo,.tup (xs.map U.int)]) (S:=S1++[.lst (xs.map U.int)]) rfl (ho1 _);rw[zE]at this ⊢;exact this;refine .of (r:=(decide (x∈xs),S1++[.lst (xs.map U.int)]++G)) ?_ ⟨rfl,[],by simp,λ_=>.of (r:=(.int x,S1++[.lst (xs.map U.int)]++G++[])) rfl ⟨rfl,[],by simp⟩⟩;rwa[NX];rw[PU so bd];have g1:(S1++[O.lst (xs.map U.int)]++(O.lst (xs.map U.int)::G))[S1.length]?=some (.lst (xs.map U.int)):=by rw[ZJ,ga0];rfl
 have g2:(S1++[O.lst (xs.map U.int)]++(O.lst (xs.map U.int)::G))[(S1++[O.lst (xs.map U.int)]).length]?=some (.lst (xs.map U.int)):=by rw[ga0];rfl
 refine .of (r:=(.bl true,S1++[O.lst (xs.map U.int)]++(O.lst (xs.map U.int)::G))) ?_ ⟨_,rfl,rfl,_,by rw[hS1,ZJ,ZJ]⟩;exact(lK.lst (k:=0) g1 g2 (.all λx hx=>by
  let⟨d,_,rfl⟩:=Zy.mp hx;exact .int)).eq (by omega)
theorem L5(hN:N<=900)(hp:PlOk n w N p)(w0:2<=w)(n0:0<=n)(n1:n<=6)(hl:p.1.length<=900)(ho:S[lo]?=some (.lst (cE 0 N))):vJ [.tup 92,.ref lo,plU p] S=some (.bl true,S):=by
 refine gc0 (.of (r:=(.bl true,S)) ?_ ⟨rfl,[],by simp⟩) trivial;have e1:=L6 hN hp.so hp.bd hl ho;have e2:=L4 (S:=S) w0 n0 n1 hp.ln hp.sb;have l2:decide (((0+1+1:Nat):Int)=2)=true:=rfl;rw[vm];rwa[lJ,plU,sT,sTT,l2,e1,e2]
end
variable{Z:Sto}{Ds:List (List (Dl 2))}{st0:List Int}{ld dl ep:Nat}{kus:List (NK×U)}{ks:List Pl}
section
variable{w:Int}{ll lt:Nat}{Φ:Obj->List V->Prop}
def p9(f:Fn):Fn:=gcF 1 (my f)
theorem Cb(hf:fP n w f)(hp:p.1.length<=40)(hs:p.2.length=n.toNat)(hd:S[ld]?=some 59)(ok:75)(hl:Ds.length<=900):p9 f [.tup 92,.ref ld,plU p] S=some (.ref S.length,S++[.lst ((br w p Ds 0).map gR)]):=by
 let⟨G,h⟩:=yW hf hp hs hd ok hl;exact PN h (Nat.lt_succ_self _) (uF λu hu=>by let⟨x,_,rfl⟩:=Zy.mp hu;exact Kw)
def su(w:Int)(Ds:List (List (Dl 2)))(p:Pl):Sto:=[.lst ((br w p Ds 0).map gR),.lst ((br w p Ds 0).map λ_=>U.bl true)]
theorem si:∀(ds:List (List (Dl 2))) (k:Nat),(br w p ds k).length<=ds.length
 |[],_=>ZW _
 |d::ds,k=>by
  have:=si ds (k+1);have h1:(BQ w p d k).length<=1:=by unfold BQ;split<;>(try split)<;>simp
  unfold br;rw[ZV,ZM];omega
theorem w6{X:Sto}(h:vt Z dl=some kus):vt (Z++X) dl=some kus:=by
 unfold vt at h ⊢;split at h<;>try cases h
 rename_i e;rw[ar e];rename_i e;rw[ar e]
theorem Ma{q:Pl}(hd:vt Z dl=some (tbl ks))(hq:q∈ks):vh (plU q) (.ref dl) Z=some (.bl true,Z):=by
 unfold vh plU;dsimp only;rw[jH,Z4,hd,Z4,ql,Xa hq]
abbrev rhC(n w:Int)(st0:List Int)(lo lt ll dl:Nat)(r6:Option U):Rho:=[some 28,some 56,some (.ref lo),some (.ref lt),some (.ref ll),some (.ref dl),r6]
theorem IG(hf:fP n w f)(ok:75)(hN:Ds.length<=900)(hp:p.1.length<=40)(hs:p.2.length=n.toNat)(hz:Z[ll]?=some (.lam Φ [.ref ld,.tup 92]))(hd:Z[ld]?=some 59)(hk:vt Z dl=some (tbl ks))(cl:∀x∈br w p Ds 0,x.2∈ks) :
  cB vJ Φ (oE (p9 f)) (rhC n w st0 lo lt ll dl (some (plU p))) Z=some (.nx,rhC n w st0 lo lt ll dl (some (plU p)),Z++su w Ds p):=by
 have e1:=Cb hf hp hs hd ok hN;obtain⟨Z1,hZ1⟩:∃Z1,Z1=Z++[O.lst ((br w p Ds 0).map gR)]:=⟨_,rfl⟩;have g1:Z1[Z.length]?=some (.lst ((br w p Ds 0).map gR)):=by rw[hZ1,ga0];rfl
 have hk1:∀G,vt (Z1++G) dl=some (tbl ks):=λG=>by rw[hZ1];exact w6 (w6 hk)
 rw[<-hZ1]at e1;have el:El Φ (oE (p9 f)) (af 4) (af 6) (rhC n w st0 lo lt ll dl (some (plU p))) Z=some (.ref Z.length,Z1):=by
  have v4:af 4 (rhC n w st0 lo lt ll dl (some (plU p))) Z=some (.ref ll,Z):=rfl;have v6:af 6 (rhC n w st0 lo lt ll dl (some (plU p))) Z=some (plU p,Z):=rfl;unfold El;rw[v4,Z4];dsimp only;rw[v6,Z4];dsimp only;rw[hz];dsimp only;rw[Xe rfl];exact e1
 have ec:=A9 (ce:=cOp vh (cOp fIx (af 0) 46) (af 1)) (caps:=[5]) (ρ:=rhC n w st0 lo lt ll dl (some (plU p))) (cs:=[some (.ref dl)]) (f:=gR) (v:=λ_=>U.bl true) (mG el g1) (λG=>ar g1) (by have:=si (w:=w) (p:=p) Ds 0;omega) rfl λx hx G=>by
  have h1:=Ma (hk1 G) (cl x hx);let⟨a,q⟩:=x;simp only[gR]at h1 ⊢;rwa[h1]
 have ea:=Q0 ec;unfold cB;rw[xC,FF,ea,su];simp only[Z4,EF,EK,EE,Xh];rw[hZ1,ZJ];rfl
def kE:List Pl->Option U->Option U
 |[],r=>r
 |p::ps,_=>kE ps (some (plU p))
theorem v8(hf:fP n w f)(ok:75)(hN:Ds.length<=900):∀(ps:List Pl) (Z:Sto) (r6:Option U),(∀p∈ps,p.1.length<=40/\p.2.length=n.toNat/\∀x∈br w p Ds 0,x.2∈ks)->Z[ll]?=some (.lam Φ [.ref ld,.tup 92])->Z[ld]?=some 59->Z[dl]?=some (.fdn ep (tbl ks))->
  dC (λS'=>S'[dl]?=some (.fdn ep (tbl ks))) (gNm 6) (cB vJ Φ (oE (p9 f))) (ps.map plU) (rhC n w st0 lo lt ll dl r6) Z=some (.nx,rhC n w st0 lo lt ll dl (kE ps r6),Z++ps.flatMap (su w Ds))
 |[],Z,r6,_,_,_,h=>by rw[List.flatMap_nil,Zj];exact c8 h
 |p::ps,Z,r6,hp,h1,h2,h3=>by
  let⟨a,b,c⟩:=hp p ZD;have e:=IG (st0:=st0) (lo:=lo) (lt:=lt) hf ok hN a b h1 h2 (by unfold vt;rw[h3]) c;have ih:=v8 hf ok hN ps (Z++su w Ds p) (some (plU p)) (λq hq=>hp q (ZY _ hq)) (ar h1) (ar h2) (ar h3);exact(bf h3 rfl e).trans (by rw[ih,List.flatMap_cons,ZJ];rfl)
theorem _root_.OQ.PlOk.len{N:Nat}(h:PlOk n w N p):p.1.length<=N:=by
 have nd:p.1.Nodup:=h.so.imp λh e=>by omega
 have:=List.Nodup.length_le_of_subset nd (l₂:=(Zp N).map λi:Nat=>(i:Int)) λb hb=>by
  let⟨h1,h2⟩:=h.bd b hb;exact Zy.mpr ⟨b.toNat,XH.mpr 24,by omega⟩
 simpa using this
abbrev Nm(f:Fn)(Φ:Obj->List V->Prop):Fn:=fnU 7 5 (fG vJ Φ (oE (p9 f)))
theorem Bj(hf:fP n w f)(ok:75)(hN:Ds.length<=40)(w0:2<=w)(n0:0<=n)(n1:n<=6)(T:gN n w Ds st0 ks)(hd:S[ld]?=some 59)(ht:S[lt]?=some (.lst (ks.map plU)))(ho:S[lo]?=some (.lst (cE 0 Ds.length))) :
  ∃G,∀Φ,Nm f Φ [.tup 92,.tup (st0.map U.int),.ref lo,.ref lt,.ref S.length] (S++[.lam Φ [.ref ld,.tup 92]])=some (.ref (S.length+3),S++.lam Φ [.ref ld,.tup 92]::.lst (ks.map λ_=>U.bl true)::.lst (ks.map λp=>U.tup [plU p,.bl true])::.dnt (tbl ks)::G):=by
 let⟨ps,eps,p1,p2⟩:=za ks;refine⟨ps.flatMap (su w Ds),λΦ=>?_⟩;obtain⟨S1,hS1⟩:∃S1,S1=S++[O.lam Φ [.ref ld,.tup 92]]:=⟨_,rfl⟩;have kd:∀{l o} (G:Sto),S[l]?=some o->(S1++G)[l]?=some o:=λG h=>by rw[hS1];exact ar (ar h)
 have l1:S1.length=S.length+1:=by rw[hS1,ZV];rfl
 rw[<-hS1];unfold Nm;rw[PZ];unfold fG;have ty:tyU (.ref lt) S1=some .list:=by
  have:=kd [] ht;rw[Zj]at this;simp only[tyU,this]
 have ec1:=A9 (ce:=cCB vJ 74) (caps:=[0,2]) (ρ:=[some 28,some 56,some (.ref lo),some (.ref lt),some (.ref S.length),none,none]) (S:=S1) (cs:=[some 28,some (.ref lo)]) (f:=plU) (v:=λ_=>U.bl true) (xs:=ks) (ok:=λS=>S[lt]?=some (.lst (ks.map plU))) (S1:=S1) (ci:=iTp (af 3)) (mG rfl (by have:=kd [] ht;rwa[Zj]at this)) (λG=>kd G ht) (by have:=T.ln;omega) rfl λp hp G=>by
  have hpl:=T.pl p hp;have h1:=L5 (S:=S1++G) (lo:=lo) 24 hpl w0 n0 n1 (by have:=hpl.len;omega) (kd G ho);rwa[h1]
 have ea1:=Q0 ec1;obtain⟨S2,hS2⟩:∃S2,S2=S1++[O.lst (ks.map λ_=>U.bl true)]:=⟨_,rfl⟩;have l2:S2.length=S.length+2:=by rw[hS2,ZV,l1];rfl
 have kd2:∀{l o} (G:Sto),S[l]?=some o->(S2++G)[l]?=some o:=λG h=>by rw[hS2,ZJ];exact kd _ h
 rw[<-hS2]at ea1;have s1:bV (cOr (jS (aA (rR .list (af 3)))) (jS (aA (cCB yi (ae (iD (iTp (af 3)) (gNm 0) (cCB vJ 74) 1 [0,2]) aq))))) (bR (cC .non)) aT [some 28,some 56,some (.ref lo),some (.ref lt),some (.ref S.length),none,none] S1=some (.nx,[some 28,some 56,some (.ref lo),some (.ref lt),some (.ref S.length),none,none],S2):=by
  have sL:BR .list .list=true:=rfl;rwa[ty,sL,ea1]
 rw[jB s1];have ec2:=A9 (ce:=b8 (ae (af 0) (ae (cC (.bl true)) aq))) (caps:=[]) (ρ:=[some 28,some 56,some (.ref lo),some (.ref lt),some (.ref S.length),none,none]) (S:=S2) (cs:=[]) (f:=plU) (v:=λp=>U.tup [plU p,.bl true]) (xs:=ks) (ok:=λS=>S[lt]?=some (.lst (ks.map plU))) (S1:=S2) (ci:=iTp (af 3)) (mG rfl (by have:=kd2 [] ht;rwa[Zj]at this)) (λG=>kd2 G ht) (by have:=T.ln;omega) rfl λp hp G=>rfl;obtain⟨S3,hS3⟩:∃S3,S3=S2++[O.lst (ks.map λp=>U.tup [plU p,.bl true])]:=⟨_,rfl⟩;have l3:S3.length=S.length+3:=by rw[hS3,ZV,l2];rfl
 have kd3:∀{l o} (G:Sto),S[l]?=some o->(S3++G)[l]?=some o:=λG h=>by rw[hS3,ZJ];exact kd2 _ h
 rw[<-hS3]at ec2;have g3:S3[S2.length]?=some (.lst (ks.map λp=>U.tup [plU p,.bl true])):=by rw[hS3,ga0];rfl
 have ed:pN [.ref S2.length] S3=some (.ref S3.length,S3++[.dnt (tbl ks)]):=by
  have e:=wz (.bl true) (ks.map nkP);rw[Za,Za]at e;have e':prU (ks.map λp=>U.tup [plU p,.bl true])=some (ks.map λp=>(nkP p,U.bl true)):=e;have hl:(ks.map λp=>U.tup [plU p,.bl true]).length<=9000:=by rw[ZQ];have:=T.ln;omega
  simp only[pN,g3,Xe hl,e',Z4];rfl
 have s2:bB 5 (cCB pN (ae (iD (iTp (af 3)) (gNm 0) (b8 (ae (af 0) (ae (cC (.bl true)) aq))) 1 []) aq)) [some 28,some 56,some (.ref lo),some (.ref lt),some (.ref S.length),none,none] S2=some (.nx,rhC n w st0 lo lt S.length (S.length+3) none,S3++[.dnt (tbl ks)]):=by
  rw[l3]at ed;rwa[ec2,ed]
 rw[jB s2];obtain⟨S4,hS4⟩:∃S4,S4=S3++[O.dnt (tbl ks)]:=⟨_,rfl⟩;have g4:S4[S.length+3]?=some (.dnt (tbl ks)):=by rw[hS4,<-l3,ga0];rfl
 have hl4:S.length+3<S4.length:=(Z9.mp g4).1;rw[<-hS4];have s3:bV (aA (cOp wY (b8 (ae (b8 aq) 89)) (af 5))) (bR (cC .non)) aT (rhC n w st0 lo lt S.length (S.length+3) none) S4=some (.nx,rhC n w st0 lo lt S.length (S.length+3) none,S4):=by
  have h:=BZ (p:=([],st0)) g4;rw[ql,Xa T.st]at h;simp only[plU,Zm]at h;rwa[h]
 rw[jB s3];have ldl:ld<S.length:=(Z9.mp hd).1;have gl:S4[S.length]?=some (.lam Φ [.ref ld,.tup 92]):=by rw[hS4,hS3,hS2,hS1];exact ar (ar (ar (by rw[ga0];rfl)))
 have lp:ph (af 5) (gNm 6) (cB vJ Φ (oE (p9 f))) (rhC n w st0 lo lt S.length (S.length+3) none) S4=some (.nx,rhC n w st0 lo lt S.length (S.length+3) (kE ps none),S4++ps.flatMap (su w Ds)):=by
  have v5:af 5 (rhC n w st0 lo lt S.length (S.length+3) none) S4=some (.ref (S.length+3),S4):=rfl;unfold ph;rw[v5,Z4];dsimp only;rw[g4];dsimp only;have ek:((tbl ks).map λq=>nU q.1)=ps.map plU:=by
   have:=congrArg (List.map nU) eps;rw[Za,Za]at this;exact this
  rw[ek];refine vZ λep=>?_;have h:=v8 (st0:=st0) (lo:=lo) (lt:=lt) (ll:=S.length) (dl:=S.length+3) (ep:=ep) (Φ:=Φ) hf ok 24 ps (S4.set (S.length+3) (.fdn ep (tbl ks))) none (λp hp=>?_) (by rw[ZZ 24];exact gl) (by rw[ZZ 24,hS4];exact kd3 _ hd) (ZE hl4);rw[h,Z4];dsimp only;rw[ar (ZE hl4)];dsimp only;rw[List.set_append_left _ _ (by rw[XO];exact hl4),wg g4];have hpl:=T.pl p (p1 p hp);exact⟨by have:=hpl.len;omega,hpl.ln,T.cl p (p1 p hp)⟩
 rw[jB lp];have fin:bR (af 5) (rhC n w st0 lo lt S.length (S.length+3) (kE ps none)) (S4++ps.flatMap (su w Ds))=some (.rt (.ref (S.length+3)),rhC n w st0 lo lt S.length (S.length+3) (kE ps none),S4++ps.flatMap (su w Ds)):=rfl;rw[fin,hS4,hS3,hS2,hS1];simp only[ZJ,Zu,X6];rfl
end
variable{wd:Str}
section
variable{w:Int}{Y:Sto}{cb:CS}{t:Pl×List Int->Bool}{ot:Str}
def BM(f:Fn):Fn:=gcF 0 (fnU 3 3 (gJ (p9 f)))
theorem zi(hf:fP n w f)(q:Pl×List Int)(hp:q.1.1.length<=40)(hs:q.1.2.length=n.toNat)(hd:S[ld]?=some 59)(ok:75)(hl:Ds.length<=900):BM f [.tup 92,.ref ld,plU q.1] S=some (.bl (stk w Ds q),S):=by
 have hw:=Cb hf hp hs hd ok hl;obtain⟨T,hT⟩:∃T,T=S++[O.lst ((br w q.1 Ds 0).map gR)]:=⟨_,rfl⟩;have gw:T[S.length]?=some (.lst ((br w q.1 Ds 0).map gR)):=by rw[hT,ga0];rfl
 rw[<-hT]at hw;have l1:((q.1.1.map U.int).length:Int)=(q.1.1.length:Int):=by rw[ZQ]
 have l2:((Ds.map dlU).length:Int)=(Ds.length:Int):=by rw[ZQ]
 have l3:(((br w q.1 Ds 0).map gR).length:Int)=((br w q.1 Ds 0).length:Int):=by rw[ZQ]
 have e:fnU 3 3 (gJ (p9 f)) [.tup 92,.ref ld,plU q.1] S=some (.bl (stk w Ds q),if decide ((q.1.1.length:Int)<(Ds.length:Int))=true then T else S):=by
  rw[vm];unfold stk;simp only[plU]at hw;cases c:decide ((q.1.1.length:Int)<(Ds.length:Int))with
  |false=>rwa[gJ,plU,l1,l2,hd,c,Bool.false_and];rfl
  |true=>rwa[gJ,plU,l1,l2,l3,hd,c,hw,gw,Bool.true_and];rfl
 refine gc0 (.of e ⟨rfl,?_⟩) trivial;dsimp only;split;exact⟨_,hT⟩;exact⟨[],by simp⟩
abbrev rhE(n w:Int)(st0:List Int)(ld dl:Nat)(r4:Option U):Rho:=[some 28,some 56,some 84,some (.ref dl),r4]
structure Fnd(n w:Int)(st0:List Int)(Ds:List (List (Dl 2)))(kn:Kn)(t:Pl×List Int->Bool)(wd:Str)(cb:CS):Prop where
 yes:∀q∈kn,t q=true->∀{X:Sto} {ld dl ep:Nat} {kus:List (NK×U)} {u:U},X[dl]?=some (.fdn ep kus)->X[ld]?=some 59->cg kus (nkP q.1)=some u->cb (rhE n w st0 ld dl (some (plU q.1))) X=some (.rt (.tup [.str wd,u]),rhE n w st0 ld dl (some (plU q.1)),X)
 no:∀q∈kn,t q=false->∀{X:Sto} {ld dl ep:Nat} {kus:List (NK×U)},X[dl]?=some (.fdn ep kus)->X[ld]?=some 59->cb (rhE n w st0 ld dl (some (plU q.1))) X=some (.nx,rhE n w st0 ld dl (some (plU q.1)),X)
def Nf(kus:List (NK×U))(t:Pl×List Int->Bool)(wd:Str)(kn:Kn):Out:=match kn.find? t with
 |some q=>.rt (.tup [.str wd,(cg kus (nkP q.1)).getD .non])
 |none=>.nx
def CY(t:Pl×List Int->Bool):Kn->Option U->Option U
 |[],r=>r
 |q::kn,_=>if t q=true then some (plU q.1)else CY t kn (some (plU q.1))
theorem t4{kn0:Kn}(F:Fnd n w st0 Ds kn0 t wd cb)(hz:Y[ld]?=some 59)(hf:Y[dl]?=some (.fdn ep kus)):∀(kn:Kn) (r4:Option U),(∀q∈kn,q∈kn0/\∃u,cg kus (nkP q.1)=some u)->
  dC (λS'=>S'[dl]?=some (.fdn ep kus)) (gNm 4) cb (kn.map plQ) (rhE n w st0 ld dl r4) Y=some (Nf kus t wd kn,rhE n w st0 ld dl (CY t kn r4),Y)
 |[],r4,_=>c8 hf
 |q::kn,r4,hv=>by
  have ih:=t4 F hz hf kn (some (plU q.1)) λx hx=>hv x (ZY _ hx);let⟨m,u,v⟩:=hv q ZD;unfold Nf CY;rw[Zl,ZR];cases hq:t q with
  |true=>
   refine uS hf rfl ?_;rw[v];exact F.yes q m hq hf hz v
  |false=>exact(bf hf rfl (F.no q m hq hf hz)).trans ih
def xg(P:Fn)(cb:CS)(ot:Str):CS:=
 aM (bB 3 (cCB P (ae (af 0) (ae (af 1) (ae (af 2) aq))))) (aM (ph (af 3) (gNm 4) cb) (bR (b8 (ae (cC (.str ot)) (ae (cCB mx (ae (af 3) aq)) aq)))))
def ED(S Y:Sto)(t:Pl×List Int->Bool)(wd ot:Str)(kn:Kn)(v:U):Prop:=∃l,S.length<=l/\match kn.find? t with
 |some q=>v=.tup [.str wd,.ref l]/\Y[l]?=some (.lst (q.2.map U.int))
 |none=>v=.tup [.str ot,.ref l]/\Y[l]?=some (.lst (kn.map plQ))
theorem AV(hf:fP n w f)(hN:Ds.length<=6)(hs:st0.length=n.toNat)(ok:75)(F:Fnd n w st0 Ds (e8 w Ds st0) t wd cb)(hz:S[ld]?=some 59) :
  ∃v G,fnU 5 3 (xg (js f 3000) cb ot) [.tup 92,.tup (st0.map U.int),.ref ld] S=some (v,S++G)/\ED S (S++G) t wd ot (e8 w Ds st0) v:=by
 have e0:fnU 5 3 (xg (js f 3000) cb ot) [.tup 92,.tup (st0.map U.int),.ref ld] S=((xg (js f 3000) cb ot) [some 28,some 56,some 84,none,none] S).bind kFn:=pj rfl;rw[e0];let⟨kus,lus,Y,e1,B⟩:=GK hf hN hs ok hz;let⟨G,eG⟩:=B.pre;have I:=mK (w:=w) (Ds:=Ds) (st0:=st0);have hl:S.length<Y.length:=(Z9.mp B.hd).1;have ldS:ld<S.length:=(Z9.mp hz).1;have s1:bB 3 (cCB (js f 3000) (ae (af 0) (ae (af 1) (ae (af 2) aq)))) [some 28,some 56,some 84,none,none] S=some (.nx,rhE n w st0 ld S.length none,Y):=by
  rwa[e1]
 have lp:ph (af 3) (gNm 4) cb (rhE n w st0 ld S.length none) Y=some (Nf kus t wd (e8 w Ds st0),rhE n w st0 ld S.length (CY t (e8 w Ds st0) none),Y):=by
  have v3:af 3 (rhE n w st0 ld S.length none) Y=some (.ref S.length,Y):=rfl;unfold ph;rw[v3,Z4];dsimp only;rw[B.hd];dsimp only;rw[B.ra.keys];refine vZ λep=>?_;have h:=t4 (Y:=Y.set S.length (.fdn ep kus)) (ep:=ep) (kus:=kus) (dl:=S.length) (ld:=ld) F (by rw[ZZ 24,eG];exact ar hz) (ZE hl) (e8 w Ds st0) none λq hq=>⟨hq,by
   let⟨l,v,_⟩:=B.ra.val I.nd hq;exact⟨_,v⟩⟩
  rw[h,Z4];dsimp only;rw[ZE hl];dsimp only;rw[wg B.hd]
 unfold xg;rw[jB s1];unfold Nf at lp;cases hq:(e8 w Ds st0).find? t with
 |some q=>
  rw[hq]at lp;let⟨l,v,l1,l2,l3⟩:=B.ra.val I.nd (List.mem_of_find?_eq_some hq);dsimp only at lp;rw[v]at lp;refine⟨.tup [.str wd,.ref l],G,?_,l,l1,?_⟩;rw[rW,lp,eG];rfl;rw[hq,<-eG];exact⟨rfl,l3⟩
 |none=>
  rw[hq]at lp;refine⟨.tup [.str ot,.ref Y.length],G++[.lst ((e8 w Ds st0).map plQ)],?_,Y.length,by omega,?_⟩;have el:∀ρ:Rho,ρ[3]?=some (some (.ref S.length))->bR (b8 (ae (cC (.str ot)) (ae (cCB mx (ae (af 3) aq)) aq))) ρ Y=some (.rt (.tup [.str ot,.ref Y.length]),ρ,Y++[.lst ((e8 w Ds st0).map plQ)]):=λρ h=>by
   have h3:mx [.ref S.length] Y=some (.ref Y.length,Y++[.lst ((e8 w Ds st0).map plQ)]):=by
    simp only[mx,B.hd,B.ra.keys]
   rwa[h,h3]
  rw[jB lp,el _ rfl,<-ZJ,<-eG];rfl;rw[hq];exact⟨rfl,by rw[<-ZJ,<-eG,ga0];rfl⟩
def IU(f:Fn):Fn:=fnU 5 3 (pX (js f 3000))
def MK(f:Fn):Fn:=fnU 5 3 (Bp (js f 3000) (BM f))
theorem LK(hN:Ds.length<=6)(hs:st0.length=n.toNat):∀q∈e8 w Ds st0,q.1.1.length<=40/\q.1.2.length=n.toNat:=λq hq=>by
 have pa:=(mK (w:=w) (Ds:=Ds) (st0:=st0)).pa q hq;have po:=pa.ok;have:=pa.few hN;exact⟨by rw[po.gone,(dP _).length_eq];omega,by rw[po.len];exact hs⟩
theorem Qa(hf:fP n w f)(hN:Ds.length<=6)(hs:st0.length=n.toNat)(ok:75)(hz:S[ld]?=some 59) :
  ∃v G,IU f [.tup 92,.tup (st0.map U.int),.ref ld] S=some (v,S++G)/\ED S (S++G) (PR Ds.length) "all" "never" (e8 w Ds st0) v:=by
 refine AV (cb:=gh (js f 3000)) hf hN hs ok ⟨λq hq ht {X ld dl ep kus u} h1 h2 v=>?_,λq hq ht {X ld dl ep kus} h1 h2=>?_⟩ hz;have ln:((q.1.1.map U.int).length:Int)=(q.1.1.length:Int):=by rw[ZQ]
 have ld':((Ds.map dlU).length:Int)=(Ds.length:Int):=by rw[ZQ]
 have t:decide ((q.1.1.length:Int)=(Ds.length:Int))=true:=ht;have hx:=JG h1 v;simp only[plU]at hx;rwa[gh,plU,h2,ln,ld',t,hx];have ln:((q.1.1.map U.int).length:Int)=(q.1.1.length:Int):=by rw[ZQ]
 have ld':((Ds.map dlU).length:Int)=(Ds.length:Int):=by rw[ZQ]
 have t:decide ((q.1.1.length:Int)=(Ds.length:Int))=false:=ht;rwa[gh,plU,h2,ln,ld',t]
theorem OJ(hf:fP n w f)(hN:Ds.length<=6)(hs:st0.length=n.toNat)(ok:75)(hz:S[ld]?=some 59) :
  ∃v G,MK f [.tup 92,.tup (st0.map U.int),.ref ld] S=some (v,S++G)/\ED S (S++G) (stk w Ds) "stuck" "free" (e8 w Ds st0) v:=by
 refine AV (cb:=kS (js f 3000) (BM f)) hf hN hs ok ⟨λq hq ht {X ld dl ep kus u} h1 h2 v=>?_,λq hq ht {X ld dl ep kus} h1 h2=>?_⟩ hz;let⟨a,b⟩:=LK hN hs q hq;have e:=zi hf q a b h2 ok 24;rw[ht]at e;have hx:=JG h1 v;simp only[plU]at hx e;rwa[kS,plU,e,hx];let⟨a,b⟩:=LK hN hs q hq;have e:=zi hf q a b h2 ok 24;rw[ht]at e;simp only[plU]at e;rwa[kS,plU,e]
end
variable{zO:O}
section
variable{w:Int}{lt:Nat}
def xm(f:Fn)(zO:O):Fn:=fnU 5 4 (g6 (Nm f) zO)
theorem y9(hf:fP n w f)(ok:75)(hN:Ds.length<=40)(w0:2<=w)(n0:0<=n)(n1:n<=6)(T:gN n w Ds st0 ks)(hz:∃j:Nat,S[j]?=some zO)(hd:S[ld]?=some 59)(ht:S[lt]?=some (.lst (ks.map plU))) :
  ∃G dl,xm f zO 80 S=some (.ref dl,S++G)/\(S++G)[dl]?=some (.dnt (tbl ks)):=by
 obtain⟨S1,hS1⟩:∃S1,S1=S++[O.lst (cE 0 Ds.length)]:=⟨_,rfl⟩;have l1:S1.length=S.length+1:=by rw[hS1,ZV];rfl
 let⟨G,h⟩:=Bj (S:=S1) (lo:=S.length) hf ok hN w0 n0 n1 T (by rw[hS1];exact ar hd) (by rw[hS1];exact ar ht) (by rw[hS1,ga0];rfl);unfold xm;rw[Iw];unfold g6;have s1:bB 4 (gM (ae (cCB e9 (ae (af 2) aq)) aq)) [some 28,some 56,some 84,some (.ref lt),none] S=some (.nx,[some 28,some 56,some 84,some (.ref lt),some (.ref S.length)],S1):=by
  have ec:ae (cCB e9 (ae (af 2) aq)) aq [some 28,some 56,some 84,some (.ref lt),none] S=some ([.int ((Ds.map dlU).length)],S):=by
   rwa[hd]
  have er:gM (ae (cCB e9 (ae (af 2) aq)) aq) [some 28,some 56,some 84,some (.ref lt),none] S=some (.ref S.length,S1):=by
   unfold gM;rw[ec,Z4];dsimp only;rw[ZQ,Xe ⟨by omega,by omega⟩,XQ,hS1]
  rw[xA,er];rfl
 rw[jB s1];have ca:ae (af 0) (ae (af 1) (ae (af 4) (ae (af 3) aq))) [some 28,some 56,some 84,some (.ref lt),some (.ref S.length)] S1=some ([.tup 92,.tup (st0.map U.int),.ref S.length,.ref lt],S1):=rfl;let⟨j,hj⟩:=hz;have el:=Em (z:=zO) (ks:=[2,0]) (fc:=Nm f) (cs:=[.ref ld,.tup 92]) (j:=j) (r:=(.ref (S1.length+3),S1++.lam lamT [.ref ld,.tup 92]::.lst (ks.map λ_=>U.bl true)::.lst (ks.map λp=>U.tup [plU p,.bl true])::.dnt (tbl ks)::G)) ca (by rw[hS1];exact ar hj) rfl λΦ=>⟨_,h Φ,by rw[ga0];rfl,by rw[gs0];rfl⟩;refine⟨.lst (cE 0 Ds.length)::.lam lamT [.ref ld,.tup 92]::.lst (ks.map λ_=>U.bl true)::.lst (ks.map λp=>U.tup [plU p,.bl true])::.dnt (tbl ks)::G,S1.length+3,?_,?_⟩;rw[yF,el,hS1,ZJ];rfl;rw[l1,Nat.add_assoc,ga];rfl
def yt(f:Fn)(zO:O):Fn:=gcF 0 (fnU 5 4 (g7 (xm f zO)))
def BO(f:Fn)(zO:O):Fn:=gcF 0 (fnU 5 4 (iU (xm f zO) (BM f)))
theorem LC(hf:fP n w f)(ok:75)(hN:Ds.length<=40)(w0:2<=w)(n0:0<=n)(n1:n<=6)(T:gN n w Ds st0 ks)(hz:∃j:Nat,S[j]?=some zO)(hd:S[ld]?=some 59)(ht:S[lt]?=some (.lst (ks.map plU)))(hk:∀p∈ks,p.1.length≠Ds.length) :
  yt f zO 80 S=some (.bl true,S):=by
 let⟨G,dl,e1,g1⟩:=y9 (zO:=zO) hf ok hN w0 n0 n1 T hz hd ht;let⟨ps,eps,p1,p2⟩:=za ks;refine gc0 ?_ trivial;obtain⟨S1,hS1⟩:∃S1,S1=S++G:=⟨_,rfl⟩;have hd1:S1[ld]?=some (.lst (Ds.map dlU)):=by rw[hS1];exact ar hd
 rw[<-hS1]at e1 g1;have hl:dl<S1.length:=(Z9.mp g1).1;have ek:((tbl ks).map λq=>nU q.1)=ps.map plU:=by
  have:=congrArg (List.map nU) eps;rw[Za,Za]at this;exact this
 have lps:ps.length<=9000:=by
  have h1:=congrArg List.length eps;rw[ZQ,ZQ]at h1;have:=zb (ks:=ks);have:=T.ln;omega
 have nd:ld≠dl:=λz=>by rw[<-z,hd1]at g1;cases g1
 have ec:=Fj (c0:=af 4) (ce:=cOp fLt (cCB e9 (ae (cOp fIx (af 0) 48) aq)) (cCB e9 89)) (caps:=[2]) (ρ:=[some 28,some 56,some 84,some (.ref lt),some (.ref dl)]) (cs:=[some 84]) (S:=S1) (xs:=ps) (f:=plU) (v:=λ_=>U.bl true) rfl g1 ek lps rfl λp hp ep G=>by
  have g:(S1.set dl (.fdn ep (tbl ks))++G)[ld]?=some (.lst (Ds.map dlU)):=ar (by rw[ZZ (Ne.symm nd)];exact hd1);have h1:=hk p (p1 p hp);have h2:=(T.pl p (p1 p hp)).len;have l1:((p.1.map U.int).length:Int)=(p.1.length:Int):=by rw[ZQ]
  have l2:((Ds.map dlU).length:Int)=(Ds.length:Int):=by rw[ZQ]
  have c:decide ((p.1.length:Int)<(Ds.length:Int))=true:=Xa 24;rwa[plU,l1,l2,g,c]
 have ea:yi [.ref S1.length] (S1++[.lst (ps.map λ_=>U.bl true)])=some (.bl true,S1++[.lst (ps.map λ_=>U.bl true)]):=by
  let⟨⟨u,X⟩,e,rfl,rfl⟩:=MW (Q:=λr=>r.1=.bl true/\r.2=S1++[.lst (ps.map λ_=>U.bl true)]) (S:=S1++[.lst (ps.map λ_=>U.bl true)]) (l:=S1.length) (bs:=ps.map λ_=>true) (by rw[ga0,Za];rfl) ⟨by simp,rfl⟩;exact e
 refine .of (r:=(.bl true,S1++[.lst (ps.map λ_=>U.bl true)])) ?_ ⟨rfl,_,by rw[hS1,ZJ]⟩;rw[Iw];have nn:∀{Y:Sto},lD (.ref dl) .non Y=some (.bl true,Y):=rfl;rwa[g7,e1,nn,ec,ea]
theorem Ml(hf:fP n w f)(ok:75)(hN:Ds.length<=40)(w0:2<=w)(n0:0<=n)(n1:n<=6)(T:gN n w Ds st0 ks)(hz:∃j:Nat,S[j]?=some zO)(hd:S[ld]?=some 59)(ht:S[lt]?=some (.lst (ks.map plU)))(hk:∀p∈ks,stk w Ds (p,[])=false) :
  BO f zO 80 S=some (.bl true,S):=by
 let⟨G,dl,e1,g1⟩:=y9 (zO:=zO) hf ok hN w0 n0 n1 T hz hd ht;let⟨ps,eps,p1,p2⟩:=za ks;refine gc0 ?_ trivial;obtain⟨S1,hS1⟩:∃S1,S1=S++G:=⟨_,rfl⟩;have hd1:S1[ld]?=some (.lst (Ds.map dlU)):=by rw[hS1];exact ar hd
 rw[<-hS1]at e1 g1;have hl:dl<S1.length:=(Z9.mp g1).1;have ek:((tbl ks).map λq=>nU q.1)=ps.map plU:=by
  have:=congrArg (List.map nU) eps;rw[Za,Za]at this;exact this
 have lps:ps.length<=9000:=by
  have h1:=congrArg List.length eps;rw[ZQ,ZQ]at h1;have:=zb (ks:=ks);have:=T.ln;omega
 have nd:ld≠dl:=λz=>by rw[<-z,hd1]at g1;cases g1
 have ec:=Fj (c0:=af 4) (ce:=cCB (BM f) 74) (caps:=[0,2]) (ρ:=[some 28,some 56,some 84,some (.ref lt),some (.ref dl)]) (cs:=[some 28,some 84]) (S:=S1) (xs:=ps) (f:=plU) (v:=λ_=>U.bl false) rfl g1 ek lps rfl λp hp ep G=>by
  have g:(S1.set dl (.fdn ep (tbl ks))++G)[ld]?=some (.lst (Ds.map dlU)):=ar (by rw[ZZ (Ne.symm nd)];exact hd1);have hpl:=T.pl p (p1 p hp);have h2:=hpl.len;have e:=zi hf (p,[]) (by dsimp only;omega) hpl.ln g ok 24;rw[hk p (p1 p hp)]at e;rwa[e]
 have ea:Je [.ref S1.length] (S1++[.lst (ps.map λ_=>U.bl false)])=some (.bl false,S1++[.lst (ps.map λ_=>U.bl false)]):=by
  let⟨⟨u,X⟩,e,rfl,rfl⟩:=Rv (Q:=λr=>r.1=.bl false/\r.2=S1++[.lst (ps.map λ_=>U.bl false)]) (S:=S1++[.lst (ps.map λ_=>U.bl false)]) (l:=S1.length) (bs:=ps.map λ_=>false) (by rw[ga0,Za];rfl) ⟨by simp,rfl⟩;exact e
 refine .of (r:=(.bl true,S1++[.lst (ps.map λ_=>U.bl false)])) ?_ ⟨rfl,_,by rw[hS1,ZJ]⟩;rw[Iw];have nn:∀{Y:Sto},lD (.ref dl) .non Y=some (.bl true,Y):=rfl;rwa[iU,e1,nn,ec,ea]
end
section
variable{w:Int}
def xo:Fn:=gcF 0 (fnU 2 2 eB)
def oQ:Fn:=gcF 0 (fnU 3 3 (g9 xo))
def BN(f:Fn):Fn:=gcF 0 (fnU 6 4 (hG oQ (p9 f)))
def qb(f:Fn):Fn:=gcF 0 (fnU 4 4 (iW (BN f)))
def uj(f:Fn):Fn:=gcF 0 (fnU 5 4 (oH (BN f) (p9 f)))
theorem AI{α:Type}{xs:List α}{l:Nat}{b:Bool}(h:S[l]?=some (.lst (xs.map λ_=>U.bl true))):fIn b (.bl false) (.ref l) S=some (.bl b,S):=by
 have a:(xs.map λ_=>U.bl true).all gI=true:=XJ.mpr λx hx=>by let⟨_,_,rfl⟩:=Zy.mp hx;rfl
 have c:inU (.bl false) (xs.map λ_=>U.bl true)=false:=by
  unfold inU;refine List.any_eq_false.mpr λx hx=>?_;let⟨_,_,rfl⟩:=Zy.mp hx;exact ZF
 unfold fIn;dsimp only;rw[h];dsimp only;rw[Xe ⟨rfl,a⟩,c];cases b<;>rfl
theorem MD{c1 c2 c3:CE}{ρ:Rho}{a i b:Int}(h1:c1 ρ S=some (.int a,S))(h2:c2 ρ S=some (.int i,S))(h3:c3 ρ S=some (.int b,S))(ha:a<=i)(hb:i<b):kP fLe fLt c1 c2 c3 ρ S=some (.bl true,S):=by
 unfold kP;rw[h1,Z4];dsimp only;rw[h2,Z4];dsimp only;rw[MV,Z4,Xa ha];dsimp only;rw[h3,Z4,Ql,Xa hb]
theorem An{m:Int}{xs:List Int}(hl:xs.length<=900)(hb:∀x∈xs,0<=x/\x<m):xo [.tup (xs.map U.int),.int m] S=some (.bl true,S):=by
 refine gc0 (.of (r:=(.bl true,S++[.lst (xs.map λ_=>U.bl true)])) ?_ ⟨rfl,_,rfl⟩) trivial;rw[D9];have ec:=A9 (ce:=kQ (rR .int (af 0)) (kQ (vC (rR .bool (af 0))) (kP fLe fLt 48 (af 0) (af 1)))) (caps:=[1]) (ρ:=[some (.tup (xs.map U.int)),some (.int m)]) (S:=S) (cs:=[some (.int m)]) (f:=U.int) (v:=λ_=>U.bl true) (xs:=xs) (ok:=λ_=>True) (S1:=S) (ci:=iTp (af 0)) (Ia rfl) (λ_=>trivial) 24 rfl λx hx G=>by
  let⟨h1,h2⟩:=hb x hx;have tI:∀{k:Int} {Y:Sto},tyU (.int k) Y=some .int:=rfl;have s1:BR .int .int=true:=rfl;have s2:BR .int .bool=false:=rfl;have hc:=MD (S:=S++G) (c1:=cC (.int 0)) (c2:=af 0) (c3:=af 1) (ρ:=[some (.int x),some (.int m)]) rfl rfl rfl h1 h2;rwa[tI,s1,s2,hc]
 have ei:=AI (S:=S++[.lst (xs.map λ_=>U.bl true)]) (l:=S.length) (b:=true) (xs:=xs) (by rw[ga0];rfl);rwa[eB,sT,sTT,ec,ei]
theorem HG(hN:Ds.length<=6)(hp:PlOk n w Ds.length p)(n0:0<=n)(n1:n<=6)(hd:S[ld]?=some 59):oQ [.tup 92,.ref ld,plU p] S=some (.bl true,S):=by
 have hl:=hp.len;refine gc0 (.of (r:=(.bl true,S++[.lst (p.1.map U.int),.lst (p.1.map U.int)])) ?_ ⟨rfl,_,rfl⟩) trivial;have e1:=An (S:=S) (m:=(Ds.length:Int)) 24 hp.bd;have e2:=An (S:=S) (m:=w) (by rw[hp.ln];omega) hp.sb;have l1:((Ds.map dlU).length:Int)=(Ds.length:Int):=by rw[ZQ]
 have l2:decide (((0+1+1:Nat):Int)=2)=true:=rfl;have l3:decide (((p.2.map U.int).length:Int)=n)=true:=Xa (by rw[ZQ,hp.ln];omega);obtain⟨S1,hS1⟩:∃S1,S1=S++[O.lst (p.1.map U.int)]:=⟨_,rfl⟩;have so:dY (BU p.1)=p.1:=by
  have nd:p.1.Nodup:=hp.so.imp λh e=>by omega
  exact(fS ((List.perm_ext_iff_of_nodup nd qM).mpr λy=>ko.symm) (hp.so.imp λh=>Int.le_of_lt h)).symm
 have es:∀ρ:Rho,ρ[2]?=some (some (plU p))->kN (cOp fIx (af 2) 48) ρ S1=some (.ref S1.length,S1++[.lst (p.1.map U.int)]):=λρ h=>by
  have e:cOp fIx (af 2) 48 ρ S1=some (.tup (p.1.map U.int),S1):=by
   rwa[h,plU]
  unfold kN;rw[e,Z4];dsimp only;rw[gH,Z4,Xe ⟨by omega,λz hz=>by have:=hp.bd z hz;omega⟩,so]
 have g1:(S1++[O.lst (p.1.map U.int)])[S.length]?=some (.lst (p.1.map U.int)):=by rw[hS1];exact ar (by rw[ga0];rfl)
 have g2:(S1++[O.lst (p.1.map U.int)])[S1.length]?=some (.lst (p.1.map U.int)):=by rw[ga0];rfl
 have eq:=(lK.lst (k:=0) g1 g2 (.all λx hx=>by
  let⟨d,_,rfl⟩:=Zy.mp hx;exact .int)).eq (by omega)
 have eS:S++[.lst (p.1.map U.int),.lst (p.1.map U.int)]=S1++[O.lst (p.1.map U.int)]:=by rw[hS1,ZJ];rfl
 have es':=es [some 28,some 84,some (plU p)] rfl;rw[vm,eS];have el:cCB iS (ae (cOp fIx (af 2) 48) aq) [some 28,some 84,some (plU p)] S=some (.ref S.length,S1):=by
  rw[hS1];rwa[plU]
 unfold g9;have c1:bV (cOr (jS (aA (rR .tuple (af 2)))) (cOr (aA (cOp fNe (cCB e9 (ae (af 2) aq)) 71)) (jS (aA (cCB xo (ae (cOp fIx (af 2) 48) (ae (cCB e9 89) aq))))))) 61 aT [some 28,some 84,some (plU p)] S=some (.nx,[some 28,some 84,some (plU p)],S):=by
  rwa[plU,sT,sTT,l2,hd,l1,e1]
 have c2:bV (cOr (jS (aA (cCB xo (ae (cOp fIx (af 2) 46) (ae (cOp fIx (af 0) 46) aq))))) (aA (cOp fNe (cCB e9 (ae (cOp fIx (af 2) 46) aq)) (cOp fIx (af 0) 48)))) 61 aT [some 28,some 84,some (plU p)] S=some (.nx,[some 28,some 84,some (plU p)],S):=by
  rwa[plU,l3,e2]
 rw[jB c1,jB c2,yF,yG,el,Z4,mV,es',Z4,oY,eq];rfl
end
section
variable{w:Int}{lt:Nat}
abbrev rhL(n w:Int)(st0:List Int)(ld lt dl:Nat)(r5:Option U):Rho:=[some 28,some 56,some 84,some (.ref lt),some (.ref dl),r5]
theorem we{us:List U}{fr fn:Fn}(ne:lt≠dl):∀(L:List Pl) (Z:Sto) (kus:List (NK×U)) (r5:Option U),Z[lt]?=some (.lst us)->Z[dl]?=some (.dnt kus)->kus.length+L.length<=9000->
  dC (λS=>S[lt]?=some (.lst us)) (gNm 5) (fK fr fn) (L.map plU) (rhL n w st0 ld lt dl r5) Z=some (.nx,rhL n w st0 ld lt dl (kE L r5),Z.set dl (.dnt (o3 kus (L.map λp=>(nkP p,U.bl true)))))
 |[],Z,kus,r5,h1,h2,_=>(c8 h1).trans (by
  have:Z.set dl (.dnt kus)=Z:=by
   refine Zs λi=>?_;by_cases e:dl=i;subst e;rw[ZE (Z9.mp h2).1,h2];rw[ZZ e]
  show _=some (Out.nx,rhL n w st0 ld lt dl r5,Z.set dl (.dnt kus));rw[this])
 |p::L,Z,kus,r5,h1,h2,hl=>by
  rw[ZM]at hl;have hd:=(Z9.mp h2).1;have l2:=wy (kus:=kus) (k:=nkP p) (v:=U.bl true);have ih:=we (fr:=fr) (fn:=fn) ne L (Z.set dl (.dnt (gY kus (nkP p) (.bl true)))) (gY kus (nkP p) (.bl true)) (some (plU p)) (by rw[ZZ (Ne.symm ne)];exact h1) (ZE hd) 24;refine(bf (ρ1:=rhL n w st0 ld lt dl (some (plU p))) (S1:=Z.set dl (.dnt (gY kus (nkP p) (.bl true)))) h1 rfl ?_).trans (ih.trans ?_);have vv:cC (.bl true) (rhL n w st0 ld lt dl (some (plU p))) Z=some (.bl true,Z):=rfl;have v4:af 4 (rhL n w st0 ld lt dl (some (plU p))) Z=some (.ref dl,Z):=rfl;have v5:af 5 (rhL n w st0 ld lt dl (some (plU p))) Z=some (plU p,Z):=rfl;show i6 (af 4) (af 5) (cC (.bl true)) (rhL n w st0 ld lt dl (some (plU p))) Z=_;unfold i6;rw[vv,Z4];dsimp only;rw[v4,Z4];dsimp only;rw[v5,Z4];unfold plU;dsimp only;rw[h2];dsimp only;rw[jH,Z4,Xe (by unfold LIM;omega)];rw[XG];rfl
def uz(w:Int)(Ds:List (List (Dl 2)))(p:Pl):Sto:=[.lst ((br w p Ds 0).map gR),.lst [],.lst []]
theorem IE{α:Type}{ok:Sto->Prop}{gg:CG}{ct:CT}{ce:CE}{l:Nat}{S:Sto}{f:α->U}{R:Rho->Prop}(hok:ok S):∀(xs:List α) (ρ:Rho),R ρ->(∀x∈xs,∀ρ,R ρ->∃ρ0,R ρ0/\gg (f x) ρ S=some (ρ0,S)/\ct ρ0 S=some (false,S))->cT ok gg ct ce l (xs.map f) ρ S=some S
 |[],ρ,_,_=>lI hok
 |x::xs,ρ,hr,h=>by
  let⟨ρ0,r0,h1,h2⟩:=h x ZD ρ hr;rw[ZR];exact(oC hok h1 h2).trans (IE hok xs ρ0 r0 λx hx=>h x (ZY _ hx))
theorem uR{l1 l2:Nat}(b:Bool)(h1:S[l1]?=some (.lst []))(h2:S[l2]?=some (.lst [])):vj b (.ref l1) (.ref l2) S=some (.bl (!b),S):=by
 cases b with
 |false=>exact(lK.lst (k:=0) h1 h2 .nil).eq 24
 |true=>exact(lK.lst (k:=0) h1 h2 .nil).ne 24
theorem HH{fr:Fn}(hf:fP n w f)(ok:75)(hN:Ds.length<=900)(hp:p.1.length<=40)(hs:p.2.length=n.toNat)(hd:Z[ld]?=some 59)(hk:Z[dl]?=some (.dnt (tbl ks)))(cl:∀x∈br w p Ds 0,x.2∈ks) :
  cY fr (p9 f) (rhL n w st0 ld lt dl (some (plU p))) Z=some (.nx,rhL n w st0 ld lt dl (some (plU p)),Z++uz w Ds p):=by
 have e1:=Cb hf hp hs hd ok hN;obtain⟨Z1,hZ1⟩:∃Z1,Z1=Z++[O.lst ((br w p Ds 0).map gR)]:=⟨_,rfl⟩;have g1:Z1[Z.length]?=some (.lst ((br w p Ds 0).map gR)):=by rw[hZ1,ga0];rfl
 have k1:∀G,(Z1++G)[dl]?=some (.dnt (tbl ks)):=λG=>by rw[hZ1];exact ar (ar hk)
 rw[<-hZ1]at e1;have ei:iTp (cCB (p9 f) (ae (af 0) (ae (af 2) (ae (af 5) aq)))) (rhL n w st0 ld lt dl (some (plU p))) Z=some ((br w p Ds 0).map gR,λS=>S[Z.length]?=some (.lst ((br w p Ds 0).map gR)),Z1):=mG (by rwa[e1]) g1;have ec:du (iTp (cCB (p9 f) (ae (af 0) (ae (af 2) (ae (af 5) aq))))) (gTp [0,1]) (aA (cOp wY (af 1) (af 2))) (af 1) 2 [4] (rhL n w st0 ld lt dl (some (plU p))) Z=some (.ref Z1.length,Z1++[.lst []]):=by
  unfold du;rw[ei,Z4];dsimp only;have hr:qA 2 [4] (rhL n w st0 ld lt dl (some (plU p)))=[none,none,some (.ref dl)]:=rfl;rw[hr,IE (R:=λρ=>∃a b,ρ=[a,b,some (.ref dl)]) (ar g1) _ _ ⟨_,_,rfl⟩ λx hx ρ hρ=>?_];rfl;let⟨a,b,rfl⟩:=hρ;have h:=BZ (p:=x.2) (k1 [.lst []]);rw[ql,Xa (cl x hx)]at h;refine⟨[some (.int x.1),some (plU x.2),some (.ref dl)],⟨_,_,rfl⟩,rfl,?_⟩;rwa[h]
 have eq:=uR (S:=Z1++[O.lst [],.lst []]) (l1:=Z1.length) (l2:=Z1.length+1) true (by rw[ga0];rfl) (by rw[ga];rfl);have en:fZ aq (rhL n w st0 ld lt dl (some (plU p))) (Z1++[.lst []])=some (.ref (Z1.length+1),Z1++[.lst [],.lst []]):=by
  rwa[ZV]
 unfold cY;rw[xC,rV,yG,ec,Z4,mV,en,Z4,oY,eq,uz,hZ1,ZJ];rfl
theorem tq{us:List U}{fr:Fn}(hf:fP n w f)(ok:75)(hN:Ds.length<=900):∀(ps:List Pl) (Z:Sto) (r5:Option U),(∀p∈ps,p.1.length<=40/\p.2.length=n.toNat/\∀x∈br w p Ds 0,x.2∈ks)->Z[lt]?=some (.lst us)->Z[ld]?=some 59->Z[dl]?=some (.dnt (tbl ks))->
  dC (λS=>S[lt]?=some (.lst us)) (gNm 5) (cY fr (p9 f)) (ps.map plU) (rhL n w st0 ld lt dl r5) Z=some (.nx,rhL n w st0 ld lt dl (kE ps r5),Z++ps.flatMap (uz w Ds))
 |[],Z,r5,_,h,_,_=>by rw[List.flatMap_nil,Zj];exact c8 h
 |p::ps,Z,r5,hp,h1,h2,h3=>by
  let⟨a,b,c⟩:=hp p ZD;have e:=HH (fr:=fr) (st0:=st0) (lt:=lt) hf ok hN a b h2 h3 c;have ih:=tq (fr:=fr) hf ok hN ps (Z++uz w Ds p) (some (plU p)) (λq hq=>hp q (ZY _ hq)) (ar h1) (ar h2) (ar h3);exact(bf h1 rfl e).trans (by rw[ih,List.flatMap_cons,ZJ];rfl)
theorem E6(hf:fP n w f)(ok:75)(hN:Ds.length<=6)(n0:0<=n)(n1:n<=6)(T:gN n w Ds st0 ks)(hd:S[ld]?=some 59)(ht:S[lt]?=some (.lst (ks.map plU))) :
  BN f 80 S=some (.bl true,S):=by
 obtain⟨S1,hS1⟩:∃S1,S1=S++[O.lst (ks.map λ_=>U.bl true)]:=⟨_,rfl⟩;obtain⟨S2,hS2⟩:∃S2,S2=S1++[O.dnt (tbl ks)]:=⟨_,rfl⟩;refine gc0 (.of (r:=(.bl true,S2++ks.flatMap (uz w Ds))) ?_ ⟨rfl,[O.lst (ks.map λ_=>U.bl true)]++([O.dnt (tbl ks)]++ks.flatMap (uz w Ds)),by rw[hS2,hS1];simp only[ZJ]⟩) trivial;have ltl:lt<S.length:=(Z9.mp ht).1;have l1:S1.length=S.length+1:=by rw[hS1,ZV];rfl
 rw[P0];unfold hG;have ec:=A9 (ce:=cCB oQ 74) (caps:=[0,2]) (ρ:=[some 28,some 56,some 84,some (.ref lt),none,none]) (S:=S) (cs:=[some 28,some 84]) (f:=plU) (v:=λ_=>U.bl true) (xs:=ks) (ok:=λS=>S[lt]?=some (.lst (ks.map plU))) (S1:=S) (ci:=iTp (af 3)) (mG rfl ht) (λG=>ar ht) (by have:=T.ln;omega) rfl λp hp G=>by
  have e:=HG (S:=S++G) hN (T.pl p hp) n0 n1 (ar hd);rwa[e]
 have ei:=AI (S:=S1) (l:=S.length) (b:=false) (xs:=ks) (by rw[hS1,ga0];rfl);have ty:tyU (.ref lt) S=some .list:=by simp only[tyU,ht]
 have sL:BR .list .list=true:=rfl;rw[<-hS1]at ec;have s1:bV (cOr (jS (aA (rR .list (af 3)))) (aA (cOp (fIn false) (cC (.bl false)) (iD (iTp (af 3)) (gNm 0) (cCB oQ 74) 1 [0,2])))) 61 aT [some 28,some 56,some 84,some (.ref lt),none,none] S=some (.nx,[some 28,some 56,some 84,some (.ref lt),none,none],S1):=by
  rwa[ty,sL,ec,ei]
 have s2:bB 4 Bu [some 28,some 56,some 84,some (.ref lt),none,none] S1=some (.nx,rhL n w st0 ld lt S1.length none,S1++[.dnt []]):=rfl;have ht1:∀G,(S1++G)[lt]?=some (.lst (ks.map plU)):=λG=>by rw[hS1];exact ar (ar ht)
 have hd1:∀G,(S1++G)[ld]?=some (.lst (Ds.map dlU)):=λG=>by rw[hS1];exact ar (ar hd)
 have lp1:=we (fr:=oQ) (fn:=p9 f) (n:=n) (w:=w) (st0:=st0) (ld:=ld) (us:=ks.map plU) (lt:=lt) (dl:=S1.length) 24 ks (S1++[.dnt []]) [] none (ht1 _) (by rw[ga0];rfl) (by have:=T.ln;simp;omega);rw[gs0]at lp1;have s3:ji (iTp (af 3)) (gNm 5) (fK oQ (p9 f)) (rhL n w st0 ld lt S1.length none) (S1++[.dnt []])=some (.nx,rhL n w st0 ld lt S1.length (kE ks none),S2):=by
  have ei:=mG (ca:=af 3) (ρ:=rhL n w st0 ld lt S1.length none) (S:=S1++[.dnt []]) rfl (ht1 _);unfold ji;rw[ei,Z4];dsimp only;rw[lp1,hS2];rfl
 have g2:S2[S1.length]?=some (.dnt (tbl ks)):=by rw[hS2,ga0];rfl
 have s4:bV (aA (cOp wY (b8 (ae (b8 aq) 89)) (af 4))) 61 aT (rhL n w st0 ld lt S1.length (kE ks none)) S2=some (.nx,rhL n w st0 ld lt S1.length (kE ks none),S2):=by
  have h:=BZ (p:=([],st0)) g2;rw[ql,Xa T.st]at h;simp only[plU,Zm]at h;rwa[h]
 have s5:ji (iTp (af 3)) (gNm 5) (cY oQ (p9 f)) (rhL n w st0 ld lt S1.length (kE ks none)) S2=some (.nx,rhL n w st0 ld lt S1.length (kE ks (kE ks none)),S2++ks.flatMap (uz w Ds)):=by
  have ei:=mG (ca:=af 3) (ρ:=rhL n w st0 ld lt S1.length (kE ks none)) (S:=S2) (l:=lt) (us:=ks.map plU) rfl (by rw[hS2];exact ht1 _);unfold ji;rw[ei,Z4];exact tq hf ok 24 ks S2 _ (λp hp=>⟨by have:=(T.pl p hp).len;omega,(T.pl p hp).ln,T.cl p hp⟩) (by rw[hS2];exact ht1 _) (by rw[hS2];exact hd1 _) g2
 rw[jB s1,jB s2,jB s3,jB s4,jB s5];rfl
theorem HI(hf:fP n w f)(ok:75)(hN:Ds.length<=6)(n0:0<=n)(n1:n<=6)(T:gN n w Ds st0 ks)(hd:S[ld]?=some 59)(ht:S[lt]?=some (.lst (ks.map plU)))(hk:∀p∈ks,p.1.length≠Ds.length) :
  qb f 80 S=some (.bl true,S):=by
 have e1:=E6 hf ok hN n0 n1 T hd ht;refine gc0 (.of (r:=(.bl true,S++[.lst [],.lst []])) ?_ ⟨rfl,_,rfl⟩) trivial;have ec:du (iTp (af 3)) (gNm 0) (aA (cOp fEq (cCB e9 (ae (cOp fIx (af 0) 48) aq)) (cCB e9 89))) (af 0) 1 [2] [some 28,some 56,some 84,some (.ref lt)] S=some (.ref S.length,S++[.lst []]):=by
  have ei:=mG (ca:=af 3) (ρ:=[some 28,some 56,some 84,some (.ref lt)]) (S:=S) rfl ht;unfold du;rw[ei,Z4];dsimp only;have hr:qA 1 [2] [some 28,some 56,some 84,some (.ref lt)]=[none,some 84]:=rfl;rw[hr,IE (R:=λρ=>∃a,ρ=[a,some 84]) (ar ht) _ _ ⟨_,rfl⟩ λp hp ρ hρ=>?_];rfl;let⟨a,rfl⟩:=hρ;have g:(S++[O.lst []])[ld]?=some (.lst (Ds.map dlU)):=ar hd;have l1:((p.1.map U.int).length:Int)=(p.1.length:Int):=by rw[ZQ]
  have l2:((Ds.map dlU).length:Int)=(Ds.length:Int):=by rw[ZQ]
  have c:decide ((p.1.length:Int)=(Ds.length:Int))=false:=Xf (by have:=hk p hp;omega);refine⟨[some (plU p),some 84],⟨_,rfl⟩,rfl,?_⟩;rwa[plU,l1,l2,g,c]
 have eq:=uR (S:=S++[O.lst [],.lst []]) (l1:=S.length) (l2:=S.length+1) false (by rw[ga0];rfl) (by rw[ga];rfl);have en:fZ aq [some 28,some 56,some 84,some (.ref lt)] (S++[.lst []])=some (.ref (S.length+1),S++[.lst [],.lst []]):=by
  rwa[ZV]
 have s1:bV (jS (aA (cCB (BN f) (ae (af 0) (ae (af 1) (ae (af 2) (ae (af 3) aq))))))) 61 aT [some 28,some 56,some 84,some (.ref lt)] S=some (.nx,[some 28,some 56,some 84,some (.ref lt)],S):=by
  rwa[e1]
 rw[My];unfold iW;rw[jB s1,yF,yG,ec,Z4,mV,en,Z4,oY,eq];rfl
theorem Mq{l1 l2:Nat}{us:List U}(h1:S[l1]?=some (.lst us))(h2:S[l2]?=some (.lst []))(hu:us≠[]):vj false (.ref l1) (.ref l2) S=some (.bl false,S):=
 vi (x:=.ref l1) (y:=.ref l2) false (.inr ⟨_,_,_,_,rfl,rfl,h1,h2,by intro z;exact hu (List.eq_nil_of_length_eq_zero z),rfl⟩)
theorem HJ(hf:fP n w f)(ok:75)(hN:Ds.length<=6)(n0:0<=n)(n1:n<=6)(T:gN n w Ds st0 ks)(hd:S[ld]?=some 59)(ht:S[lt]?=some (.lst (ks.map plU)))(hk:∀p∈ks,stk w Ds (p,[])=false) :
  uj f 80 S=some (.bl true,S):=by
 have e1:=E6 hf ok hN n0 n1 T hd ht;refine gc0 (jFn rfl (Nb ?_)) trivial;have s1:bV (jS (aA (cCB (BN f) (ae (af 0) (ae (af 1) (ae (af 2) (ae (af 3) aq))))))) 61 aT (iH 5 80) S=some (.nx,[some 28,some 56,some 84,some (.ref lt),none],S):=by
  rwa[iH,e1,ZM,XX];rfl
 refine .of s1 ⟨rfl,Nb (RK (uw (xs:=ks) (f:=plU) (v:=plU) (p:=λp=>decide ((p.1.length:Int)<(Ds.length:Int))) (S1:=S) (cs:=[some 84]) (ok:=λS=>S[lt]?=some (.lst (ks.map plU))) (mG rfl ht) (λG=>ar ht) (by have:=T.ln;omega) rfl (λp hp G=>?_) λG=>⟨rfl,?_⟩))⟩;have g:(S++G)[ld]?=some (.lst (Ds.map dlU)):=ar hd;have l1:((p.1.map U.int).length:Int)=(p.1.length:Int):=by rw[ZQ]
 have l2:((Ds.map dlU).length:Int)=(Ds.length:Int):=by rw[ZQ]
 refine .of (r:=(decide ((p.1.length:Int)<(Ds.length:Int)),S++G)) (by rwa[plU,l1,l2,g]) ⟨rfl,[],by simp,λ_=>.of (r:=(plU p,S++G++[])) rfl ⟨rfl,[],by simp⟩⟩;obtain⟨L,hL⟩:∃L,L=ks.filter λp=>decide ((p.1.length:Int)<(Ds.length:Int)):=⟨_,rfl⟩;obtain⟨S1,hS1⟩:∃S1,S1=S++(O.lst (L.map plU)::G):=⟨_,rfl⟩;have g1:S1[S.length]?=some (.lst (L.map plU)):=by rw[hS1,ga0];rfl
 have d1:∀X,(S1++X)[ld]?=some (.lst (Ds.map dlU)):=λX=>by rw[hS1];exact ar (ar hd)
 have hl:L.length<=9000:=by have h1:=List.length_filter_le (λp:Pl=>decide ((p.1.length:Int)<(Ds.length:Int))) ks;rw[<-hL]at h1;have:=T.ln;omega
 rw[<-hL];dsimp only;show Wp (bR _ [some 28,some 56,some 84,some (.ref lt),some (.ref S.length)] (S++(O.lst (L.map plU)::G))) _;rw[<-hS1];refine PL (jOp (uw (xs:=L) (f:=plU) (v:=plU) (p:=λ_=>false) (S1:=S1) (cs:=[some 28,some 84]) (ok:=λS'=>S'[S.length]?=some (.lst (L.map plU))) (mG rfl g1) (λG=>ar g1) hl rfl (λp hp X=>?_) λX=>?_));rw[hL]at hp;let⟨hm,hc⟩:=List.mem_filter.mp hp;have hpl:=T.pl p hm;have hw:=Cb hf (by have:=hpl.len;omega) hpl.ln (d1 X) ok 24;have ne:br w p Ds 0≠[]:=λz=>by
  have h:=hk p hm;unfold stk at h;rw[z,hc]at h;exact absurd h 54
 obtain⟨Y,hY⟩:∃Y,Y=S1++X++[O.lst ((br w p Ds 0).map gR)]:=⟨_,rfl⟩;have gy:(Y++[O.lst []])[(S1++X).length]?=some (.lst ((br w p Ds 0).map gR)):=by rw[hY];exact ar (by rw[ga0];rfl)
 have eq:=Mq gy (l2:=Y.length) (by rw[ga0];rfl) ‹ne›;rw[<-hY]at hw;have et:aA (cOp (vj false) (cCB (p9 f) 74) (fZ aq)) (some (plU p)::[some 28,some 84]) (S1++X)=some (false,Y++[.lst []]):=by
  have ec:cCB (p9 f) 74 (some (plU p)::[some 28,some 84]) (S1++X)=some (.ref (S1++X).length,Y):=hw;have en:fZ aq (some (plU p)::[some 28,some 84]) Y=some (.ref Y.length,Y++[.lst []]):=rfl;rw[rV,yG,ec,Z4,mV,en,Z4,oY,eq];rfl
 exact .of et ⟨rfl,[O.lst ((br w p Ds 0).map gR),.lst []],by rw[hY];simp only[ZJ,Zu,X6],λz=>by cases z⟩;have ef:(L.filter λ_=>false)=[]:=List.filter_eq_nil_iff.mpr λ_ _=>ZF;rw[ef,Zm];obtain⟨Y,hY⟩:∃Y,Y=S1++(O.lst []::X):=⟨_,rfl⟩;rw[<-hY];have eq:=uR (S:=Y++[O.lst []]) (l1:=S1.length) (l2:=Y.length) false (by rw[hY];exact ar (by rw[ga0];rfl)) (by rw[ga0];rfl);refine .of (r:=(.ref Y.length,Y++[.lst []])) rfl (.of eq ⟨_,rfl,rfl,O.lst (L.map plU)::G++(O.lst []::X)++[.lst []],?_⟩);dsimp only;rw[hY,hS1];simp only[ZJ]
end
abbrev fL(cD:Cl)(zO:O)(f:Fn->Fn->Fn->Fn->Fn->Fn->Fn->Fn->Fn->Fn->CS):CS:=f lL yu oP (IU (bQ cD)) (qb (dI 3)) dD (yt (bQ cD) zO) (MK (bQ cD)) (uj (dI 3)) (BO (bQ cD) zO)
section
variable{cD:Cl}{w:Int}{st:List Int}{l:Nat}{Pl_ Ps:Fn}{Good:List Pl->Prop}
theorem RR(hns:cD.ns.length=4)(n0:1<=n)(n1:n<=6)(w0:2<=w):fP n w (bQ cD):=λd st S od hs=>by
 let⟨_,G,l,h,_⟩:=Eu (cD:=cD) (j:=2) 24 S hns d od hs n0 n1 w0;exact⟨G,l,h⟩
theorem RS(n0:1<=n)(n1:n<=6)(w0:2<=w):fP n w (dI 3):=λd st S od hs=>by
 let⟨G,l,h,_⟩:=Ar (J:=3) (j:=2) 24 S d od hs 24 n1 w0;exact⟨G,l,h⟩
def xf(Ps:Fn):CS:=bV (aA (cOp lF (cCB Ps (ae (af 2) (ae (af 4) (ae (af 5) (ae (cCB iS (ae (af 8) aq)) aq))))) (cC (.bl true)))) 61 aT
def Ek(Pl_ Ps:Fn):CS:=
 aM (bV (jS (aA (cCB Pl_ (ae (af 2) (ae (af 4) (ae (af 5) (ae (cOp fIx (af 6) 46) aq))))))) 61 aT)
  (aM (bB 7 (cOp fIx (fZ 91) (cCB dD (ae (af 1) (ae 71 aq)))))
  (ji (iTp (fZ (ae (cOp fIx (af 6) 46) (ae (af 7) aq)))) (gNm 8) (xf Ps)))
def MI(n w:Int)(Ds:List (List (Dl 2)))(st:List Int)(zO:O)(Good:List Pl->Prop)(P:Fn):Prop:=∀(ks:List Pl) (S:Sto) (ld lt:Nat),Good ks->(∃j:Nat,S[j]?=some zO)->S[ld]?=some 59->S[lt]?=some (.lst (ks.map plU))->P [.tup 92,.tup (st.map U.int),.ref ld,.ref lt] S=some (.bl true,S)
abbrev rhW(n w:Int)(st:List Int)(ld:Nat)(r3 r6 r7 r8:Option U):Rho:=[none,some (.ref 1),some 28,r3,some (.tup (st.map U.int)),some 84,r6,r7,r8]
theorem xb(hs:MI n w Ds st zO Good Ps){r3 r6 r7:Option U}{S:Sto}{lt:Nat}(g:Good ks)(hz:∃j:Nat,S[j]?=some zO)(hd:S[ld]?=some 59)(ht:S[lt]?=some (.lst (ks.map plU))) :
  xf Ps (rhW n w st ld r3 r6 r7 (some (.ref lt))) S=some (.nx,rhW n w st ld r3 r6 r7 (some (.ref lt)),S++[.lst (ks.map plU)]):=by
 let⟨j,hj⟩:=hz;have e1:=hs ks (S++[.lst (ks.map plU)]) ld S.length g ⟨j,ar hj⟩ (ar hd) (by rw[ga0];rfl);have ni:∀{Y:Sto},lF (.bl true) (.bl true) Y=some (.bl false,Y):=rfl;unfold xf;rwa[ht,e1,ni]
theorem RQ(lo hi:Option Int):∃ks':List Pl,Fp (ks.map plU) lo hi=ks'.map plU/\(∀p∈ks',p∈ks)/\ks'.length<=ks.length:=by
 unfold Fp;rw[<-List.map_drop,<-List.map_take];exact⟨_,rfl,λp hp=>List.mem_of_mem_drop (List.mem_of_mem_take hp),by rw[XN,List.length_drop];omega⟩
theorem MC(ns:List Int)(hl:MI n w Ds st zO Good Pl_)(hs:MI n w Ds st zO Good Ps)(gm:∀ks',(∀p,p∈ks'↔p∈ks)->ks'.length<=4000->Good ks')(lk:ks.length<=2000){r3 r7 r8:Option U}{T:Sto}{a c:Int}(ha:0<=a)(hc:0<=c)(hz:T[0]?=some zO)(hd:(scr ns::pen a c::T)[ld]?=some 59)(h2:2<=ld)(l2:2<=l)(ht:(scr ns::pen a c::T)[l]?=some (.lst (ks.map plU))) :
  ∃r7' r8' a' c' G,Ek Pl_ Ps (rhW n w st ld r3 (some (.tup [.str wd,.ref l])) r7 r8) (scr ns::pen a c::T)=some (.nx,rhW n w st ld r3 (some (.tup [.str wd,.ref l])) r7' r8',scr ns::pen a' c'::(T++G))/\0<=a'/\0<=c':=by
 obtain⟨l',rfl⟩:∃l',l=l'+2:=⟨l-2,by omega⟩;obtain⟨d',rfl⟩:∃d',ld=d'+2:=⟨ld-2,by omega⟩;simp only[Zx]at ht hd;have gk:Good ks:=gm ks (λ_=>Iff.rfl) 24;have el:=hl ks (scr ns::pen a c::T) (d'+2) (l'+2) gk ⟨2,by simp only[Zx];exact hz⟩ (by simp only[Zx];exact hd) (by simp only[Zx];exact ht);let⟨k1,ek1,m1,n1⟩:=RQ (ks:=ks) (some (-1)) none;have gr:Good ks.reverse:=gm _ (λp=>List.mem_reverse) (by rw[List.length_reverse];omega);have gc:Good (ks++k1):=gm _ (λp=>by rw[X4];exact⟨λh=>h.elim id (m1 p),.inl⟩) (by rw[ZV];omega);obtain⟨ρ1,hρ1⟩:∃ρ1,ρ1=rhW n w st (d'+2) r3 (some (.tup [.str wd,.ref (l'+2)])) r7 r8:=⟨_,rfl⟩;have v6:∀Y,cOp fIx (af 6) 46 ρ1 Y=some (.ref (l'+2),Y):=λY=>by
  rw[hρ1];rfl
 have vn:∀Y,um 46 ρ1 Y=some (.int (-1),Y):=λY=>rfl;have s1:bV (jS (aA (cCB Pl_ (ae (af 2) (ae (af 4) (ae (af 5) (ae (cOp fIx (af 6) 46) aq))))))) 61 aT (rhW n w st (d'+2) r3 (some (.tup [.str wd,.ref (l'+2)])) r7 r8) (scr ns::pen a c::T)=some (.nx,rhW n w st (d'+2) r3 (some (.tup [.str wd,.ref (l'+2)])) r7 r8,scr ns::pen a c::T):=by
  rwa[el]
 have g0:∀(a c:Int) (X:Sto),(scr ns::pen a c::(T++X))[l'+2]?=some (.lst (ks.map plU)):=λa c X=>by
  simp only[Zx];exact ar ht
 have cl:∀(a c:Int) (X:Sto),(scr ns::pen a c::(T++X)).length=T.length+X.length+2:=λa c X=>by simp only[ZM,ZV]
 have gx:∀(a c:Int) (X:Sto) (i:Nat),(scr ns::pen a c::(T++X))[T.length+i+2]?=X[i]?:=λa c X i=>by
  simp only[Zx];exact ga
 have q1:cOp D1 (cOp fIx (af 6) 46) (um 46) ρ1 (scr ns::pen a c::T)=some (.ref (T.length+2),scr ns::pen a c::(T++[.lst (ks.reverse.map plU)])):=by
  have h:=g0 a c [];rw[Zj]at h;rw[yG,v6,Z4,mV,vn,Z4,oY];unfold D1;dsimp only;rw[h];dsimp only;rw[Xd 24,Xe rfl,List.map_reverse];rfl
 have q2:cSl (cOp fIx (af 6) 46) (some (um 46)) none ρ1 (scr ns::pen a c::(T++[.lst (ks.reverse.map plU)]))=some (.ref (T.length+1+2),scr ns::pen a c::(T++[.lst (ks.reverse.map plU),.lst (k1.map plU)])):=by
  unfold cSl;rw[v6,Z4];have pn:∀Y,ym (some (um 46)) ρ1 Y=some (some (-1),Y):=λY=>rfl;have p0:∀Y,ym none ρ1 Y=some (none,Y):=λY=>rfl;dsimp only;rw[pn,Z4];dsimp only;rw[p0,Z4];unfold fSl;dsimp only;rw[g0];dsimp only;rw[ek1,cl];simp only[Zu,ZJ,X6,ZM,XX]
 have q3:cOp eJ (cOp fIx (af 6) 46) (cSl (cOp fIx (af 6) 46) (some (um 46)) none) ρ1 (scr ns::pen a c::(T++[.lst (ks.reverse.map plU)]))=some (.ref (T.length+2+2),scr ns::pen a c::(T++[.lst (ks.reverse.map plU),.lst (k1.map plU),.lst ((ks++k1).map plU)])):=by
  rw[yG,v6,Z4,mV,q2,Z4,oY];have ec:∀{x y:Nat} {Y:Sto},eJ (.ref x) (.ref y) Y=lE (.ref x) (.ref y) Y:=by intro x y Y;simp only[eJ]
  rw[ec];unfold lE;dsimp only;rw[g0,gx];dsimp only[Zx,Xy];rw[Xe (by unfold LIM;rw[ZQ,ZQ];omega),cl,Zb];simp only[Zu,ZJ,X6,ZM,XX]
 obtain⟨X,hX⟩:∃X:Sto,X=[.lst (ks.reverse.map plU),.lst (k1.map plU),.lst ((ks++k1).map plU),.lst [.ref (T.length+2),.ref (T.length+2+2)]]:=⟨_,rfl⟩;have q4:fZ 91 ρ1 (scr ns::pen a c::T)=some (.ref (T.length+3+2),scr ns::pen a c::(T++X)):=by
  rw[JA,rZ,q1,Z4,mW,rZ,q3,Z4,mW,FG];simp only[Z4,uq,EH];rw[cl,hX];simp only[Zu,ZJ,X6,ZM,XX]
 let⟨f,a1,c1,e1,p1,p2,ha1,hc1⟩:=bC ns (T++X) (m:=2) ha hc 24 39;have q5:cCB dD (ae (af 1) (ae 71 aq)) ρ1 (scr ns::pen a c::(T++X))=some (.int f,scr ns::pen a1 c1::(T++X)):=by
  rw[hρ1];rwa[e1]
 obtain⟨k2,lo,i,gk2,hlo,hlo',hi⟩:∃(k2:List Pl) (lo i:Nat),Good k2/\X[i]?=some (.lst (k2.map plU))/\lo=T.length+i+2/\atI [U.ref (T.length+2),U.ref (T.length+2+2)] f=some (.ref lo):=by
  rcases(by omega:f=0\/f=1)with rfl|rfl;exact⟨ks.reverse,T.length+0+2,0,gr,by rw[hX];rfl,rfl,rfl⟩;exact⟨ks++k1,T.length+2+2,2,gc,by rw[hX];rfl,rfl,rfl⟩
 have q6:cOp fIx (fZ 91) (cCB dD (ae (af 1) (ae 71 aq))) ρ1 (scr ns::pen a c::T)=some (.ref lo,scr ns::pen a1 c1::(T++X)):=by
  have h:=gx a1 c1 X 3;rw[hX]at h;simp only[Zx,Xy]at h;rw[<-hX]at h;have h':(scr ns::pen a1 c1::(T++X))[T.length+3+2]?=some (.lst [.ref (T.length+2),.ref (T.length+2+2)]):=by
   simp only[Zx];exact h
  rw[yG,q4,Z4,mV,q5,Z4,oY,JE,h',JF,hi];rfl
 have s2:=(xA (i:=7)).trans ((congrArg (λz=>Option.bind z (Pp 7 ρ1)) q6).trans rfl);obtain⟨S2,hS2⟩:∃S2:Sto,S2=scr ns::pen a1 c1::(T++X):=⟨_,rfl⟩;have gz:∃j:Nat,S2[j]?=some zO:=⟨2,by rw[hS2];simp only[Zx];exact ar hz⟩;have gd:S2[d'+2]?=some (.lst (Ds.map dlU)):=by rw[hS2];simp only[Zx];exact ar hd
 have gt:S2[l'+2]?=some (.lst (ks.map plU)):=by rw[hS2];exact g0 _ _ _
 have go:S2[lo]?=some (.lst (k2.map plU)):=by rw[hS2,hlo',gx];exact hlo
 obtain⟨S3,hS3⟩:∃S3,S3=S2++[O.lst [.ref (l'+2),.ref lo]]:=⟨_,rfl⟩;have g3:∀Y,(S3++Y)[S2.length]?=some (.lst [.ref (l'+2),.ref lo]):=λY=>by rw[hS3];exact ar (by rw[ga0];rfl)
 have t1:=xb (ld:=d'+2) (r3:=r3) (r6:=some (.tup [.str wd,.ref (l'+2)])) (r7:=some (.ref lo)) (S:=S3) (lt:=l'+2) hs gk (let ⟨j,h⟩:=gz;⟨j,by rw[hS3];exact ar h⟩) (by rw[hS3];exact ar gd) (by rw[hS3];exact ar gt);have t2:=xb (ld:=d'+2) (r3:=r3) (r6:=some (.tup [.str wd,.ref (l'+2)])) (r7:=some (.ref lo)) (S:=S3++[.lst (ks.map plU)]) (lt:=lo) hs gk2 (let ⟨j,h⟩:=gz;⟨j,by rw[hS3];exact ar (ar h)⟩) (by rw[hS3];exact ar (ar gd)) (by rw[hS3];exact ar (ar go));have el3:fZ (ae (cOp fIx (af 6) 46) (ae (af 7) aq)) (rhW n w st (d'+2) r3 (some (.tup [.str wd,.ref (l'+2)])) (some (.ref lo)) r8) S2=some (.ref S2.length,S3):=by rw[hS3];rfl
 have lp:ji (iTp (fZ (ae (cOp fIx (af 6) 46) (ae (af 7) aq)))) (gNm 8) (xf Ps) (rhW n w st (d'+2) r3 (some (.tup [.str wd,.ref (l'+2)])) (some (.ref lo)) r8) S2=some (.nx,rhW n w st (d'+2) r3 (some (.tup [.str wd,.ref (l'+2)])) (some (.ref lo)) (some (.ref lo)),S3++[.lst (ks.map plU)]++[.lst (k2.map plU)]):=by
  have ei:=mG el3 (by have:=g3 [];rwa[Zj]at this);unfold ji;rw[ei,Z4];exact(bf (by have:=g3 [];rwa[Zj]at this) rfl t1).trans ((bf (g3 _) rfl t2).trans (c8 (by rw[ZJ];exact g3 _)))
 refine⟨some (.ref lo),some (.ref lo),a1,c1,X++([O.lst [.ref (l'+2),.ref lo]]++([.lst (ks.map plU)]++[.lst (k2.map plU)])),?_,ha1,hc1⟩;unfold Ek;rw[hρ1,<-hS2]at s2;rw[jB s1,jB s2,<-ZJ];show ji _ _ _ (rhW n w st (d'+2) r3 (some (.tup [.str wd,.ref (l'+2)])) (some (.ref lo)) r8) S2=_;rw[lp,hS3,hS2];simp only[ZJ,Zu]
theorem zt{a b c:CS}:aM (aM a b) c=aM a (aM b c):=by
 funext ρ S;rw[rW,rW,rW];cases a ρ S with
 |none=>rfl
 |some r=>
  let⟨o,ρ1,S1⟩:=r;cases o with
  |nx=>rw[Z4,vO,Z4,vO,rW]
  |rt v=>rfl
  |bk=>rfl
  |ct=>rfl
def OH:decide (("all":Str)="never")=false:=by decide +kernel
def OD:decide (("never":Str)="never")=true:=by decide +kernel
def OC:decide (("stuck":Str)="free")=false:=by decide +kernel
def OE:decide (("free":Str)="free")=true:=by decide +kernel
theorem Fu(ns:List Int){t:Pl×List Int->Bool}{w1 w2:Str}{P:Fn}(hd:decide (w1=w2)=false)(he:decide (w2=w2)=true)(hl:MI n w Ds st zO Good Pl_)(hs:MI n w Ds st zO Good Ps)(hN:Ds.length<=6)
  (gm:(∀q∈e8 w Ds st,t q=false)->∀ks',(∀p,p∈ks'↔p∈(e8 w Ds st).map (·.1))->ks'.length<=4000->Good ks')
  (hP:∀S:Sto,S[ld]?=some 59->∃v G,P [.tup 92,.tup (st.map U.int),.ref ld] S=some (v,S++G)/\ED S (S++G) t w1 w2 (e8 w Ds st) v)
  {r3 r6 r7 r8:Option U} {T:Sto} {a c:Int} (ha:0<=a) (hc:0<=c) (hz:T[0]?=some zO) (h2:2<=ld) (hdl:(scr ns::pen a c::T)[ld]?=some 59) :
  ∃r6' r7' r8' a' c' G,aM (bB 6 (cCB P (ae (af 2) (ae (af 4) (ae (af 5) aq))))) (bV (aA (cOp fEq (cOp fIx (af 6) 48) (cC (.str w2)))) (Ek Pl_ Ps) aT) (rhW n w st ld r3 r6 r7 r8) (scr ns::pen a c::T)=some (.nx,rhW n w st ld r3 r6' r7' r8',scr ns::pen a' c'::(T++G))/\0<=a'/\0<=c':=by
 let⟨v,G,e1,l,ll,D⟩:=hP _ hdl;have l2:2<=l:=by rw[ZM,ZM]at ll;omega
 simp only[Zu]at e1 D;have s6:bB 6 (cCB P (ae (af 2) (ae (af 4) (ae (af 5) aq)))) (rhW n w st ld r3 r6 r7 r8) (scr ns::pen a c::T)=some (.nx,rhW n w st ld r3 (some v) r7 r8,scr ns::pen a c::(T++G)):=by
  rwa[e1]
 have I:=mK (w:=w) (Ds:=Ds) (st0:=st);have few:=I.few hN;cases hq:(e8 w Ds st).find? t with
 |some q=>
  rw[hq]at D;let⟨rfl,gl⟩:=D;refine⟨some (.tup [.str w1,.ref l]),r7,r8,a,c,G,?_,ha,hc⟩;rw[jB s6];rwa[hd]
 |none=>
  rw[hq]at D;let⟨rfl,gl⟩:=D;have fr:∀q∈e8 w Ds st,t q=false:=λq h=>by
   have:=List.find?_eq_none.mp hq q h;simpa using this
  have em:(e8 w Ds st).map plQ=((e8 w Ds st).map (·.1)).map plU:=by rw[Za];rfl
  rw[em]at gl;let⟨r7',r8',a',c',G',e2,ha',hc'⟩:=MC (wd:=w2) (ks:=(e8 w Ds st).map (·.1)) (ld:=ld) (l:=l) (r3:=r3) (r7:=r7) (r8:=r8) (T:=T++G) ns hl hs (gm fr) (by rw[ZQ];omega) ha hc (ar hz) (by
   obtain⟨d',rfl⟩:∃d',ld=d'+2:=⟨ld-2,by omega⟩;simp only[Zx]at hdl ⊢;exact ar hdl) h2 l2 gl
  refine⟨some (.tup [.str w2,.ref l]),r7',r8',a',c',G++G',?_,ha',hc'⟩;rw[jB s6,<-ZJ,<-e2,xC];have et:aA (cOp fEq (cOp fIx (af 6) 48) (cC (.str w2))) (rhW n w st ld r3 (some (.tup [.str w2,.ref l])) r7 r8) (scr ns::pen a c::(T++G))=some (true,scr ns::pen a c::(T++G)):=by
   rwa[he]
  rw[et];rfl
theorem sk(hns:cD.ns.length=4)(ns:List Int)(n0:1<=n)(n1:n<=6)(w0:2<=w)(w1:w<=1000):∀(us:List U) (T:Sto) (a c:Int) (r3 r4 r5 r6 r7 r8:Option U),0<=a->0<=c->T[0]?=some zO->
  ∃ρ S',dC (λ_=>True) (gNm 3) (fL cD zO oK) us [none,some (.ref 1),some 28,r3,r4,r5,r6,r7,r8] (scr ns::pen a c::T)=some (.nx,ρ,S')
 |[],T,a,c,r3,r4,r5,r6,r7,r8,_,_,_=>⟨_,_,c8 trivial⟩
 |u::us,T,a,c,r3,r4,r5,r6,r7,r8,ha,hc,hz=>by
  let⟨st,a1,c1,G1,e1,hs,ha1,hc1,hb⟩:=Ip ns T ha hc n0 n1 w0 w1;let⟨Ds,a2,c2,G2,e2,hN,ok,ha2,hc2⟩:=Gy ns (T++G1) ha1 hc1 n0 n1 w0 w1;obtain⟨ld,hld⟩:∃ld,ld=(T++G1).length+1+1:=⟨_,rfl⟩;obtain⟨T2,hT2⟩:∃T2,T2=T++G1++.lst (Ds.map dlU)::G2:=⟨_,rfl⟩;have z2:T2[0]?=some zO:=by rw[hT2,ZJ];exact ar hz
  have g2:∀a c X,(scr ns::pen a c::(T2++X))[ld]?=some (.lst (Ds.map dlU)):=λa c X=>by
   rw[hT2,hld];simp only[Zx];exact ar (by rw[ga0];rfl)
  rw[<-hld,<-hT2]at e2;have s4:bB 4 (cCB yu (ae (af 1) (ae (af 2) aq))) [none,some (.ref 1),some 28,some u,r4,r5,r6,r7,r8] (scr ns::pen a c::T)=some (.nx,[none,some (.ref 1),some 28,some u,some (.tup (st.map U.int)),r5,r6,r7,r8],scr ns::pen a1 c1::(T++G1)):=by rwa[e1]
  have s5:bB 5 (cCB oP (ae (af 1) (ae (af 2) (ae (cC (.int 6)) aq)))) [none,some (.ref 1),some 28,some u,some (.tup (st.map U.int)),r5,r6,r7,r8] (scr ns::pen a1 c1::(T++G1))=some (.nx,rhW n w st ld (some u) r6 r7 r8,scr ns::pen a2 c2::T2):=by rwa[e2]
  have al:=RR (n:=n) (w:=w) (cD:=cD) hns n0 n1 w0;have ll:=RS (n:=n) (w:=w) n0 n1 w0;have tab:=CV (st0:=st) hN 24 hs ok hb;have n00:0<=n:=by omega
  let⟨r6',r7',r8',a3,c3,G3,e6,ha3,hc3⟩:=Fu (Good:=λks=>gN n w Ds st ks/\∀p∈ks,p.1.length≠Ds.length) (Pl_:=qb (dI 3)) (Ps:=yt (bQ cD) zO) (P:=IU (bQ cD)) (t:=PR Ds.length) (zO:=zO) (ld:=ld) (r3:=some u) (r6:=r6) (r7:=r7) (r8:=r8) ns OH OD
   (λks S ld lt g _ hd ht=>HI ll ok 24 n00 n1 g.1 hd ht g.2)
   (λks S ld lt g hz hd ht=>LC al ok 24 w0 n00 n1 g.1 hz hd ht g.2) hN
   (λfr ks' m hl=>⟨tab.of m hl,λp hp z=>by
    let⟨q,hq,rfl⟩:=Zy.mp ((m p).mp hp);have h:=fr q hq;unfold PR at h;rw[Xa 24]at h;cases h⟩)
   (λS hd=>Qa al hN hs ok hd) ha2 hc2 z2 24 (by have:=g2 a2 c2 [];rwa[Zj]at this)
  let⟨r6'',r7'',r8'',a4,c4,G4,e7,ha4,hc4⟩:=Fu (Good:=λks=>gN n w Ds st ks/\∀p∈ks,stk w Ds (p,[])=false) (Pl_:=uj (dI 3)) (Ps:=BO (bQ cD) zO) (P:=MK (bQ cD)) (t:=stk w Ds) (zO:=zO) (ld:=ld) (r3:=some u) (r6:=r6') (r7:=r7') (r8:=r8') (T:=T2++G3) ns OC OE
   (λks S ld lt g _ hd ht=>HJ ll ok 24 n00 n1 g.1 hd ht g.2)
   (λks S ld lt g hz hd ht=>Ml al ok 24 w0 n00 n1 g.1 hz hd ht g.2) hN
   (λfr ks' m hl=>⟨tab.of m hl,λp hp=>by
    let⟨q,hq,rfl⟩:=Zy.mp ((m p).mp hp);exact fr q hq⟩)
   (λS hd=>OJ al hN hs ok hd) ha3 hc3 (ar z2) 24 (g2 a3 c3 G3)
  let⟨ρ',S',ih⟩:=sk hns ns n0 n1 w0 w1 us (T2++G3++G4) a4 c4 (some u) (some (.tup (st.map U.int))) (some 84) r6'' r7'' r8'' ha4 hc4 (ar (ar z2));refine⟨ρ',S',(bf trivial rfl ?_).trans ih⟩;show oK lL yu oP (IU (bQ cD)) (qb (dI 3)) dD (yt (bQ cD) zO) (MK (bQ cD)) (uj (dI 3)) (BO (bQ cD) zO) _ _=_;unfold oK;simp only[List.set_cons_succ,List.set_cons_zero];rw[jB s4,jB s5];obtain⟨c6,hc6⟩:∃c6,c6=bB 6 (cCB (IU (bQ cD)) (ae (af 2) (ae (af 4) (ae (af 5) aq)))):=⟨_,rfl⟩;rw[<-zt];have e6':aM (bB 6 (cCB (IU (bQ cD)) (ae (af 2) (ae (af 4) (ae (af 5) aq))))) (bV (aA (cOp fEq (cOp fIx (af 6) 48) (cC (.str "never")))) (Ek (qb (dI 3)) (yt (bQ cD) zO)) aT) (rhW n w st ld (some u) r6 r7 r8) (scr ns::pen a2 c2::T2)=_:=e6;exact(jB e6').trans e7
theorem LH{cD:Cl}(hns:cD.ns.length=4)(zO:O)(ns:List Int)(a c:Int)(ha:0<=a)(hc:0<=c):∃ρ' S',(fL cD zO Bq) [none,some (.ref 1),none,none,none,none,none,none,none] [.lst (ns.map U.int),.lst [.ref 0,.int a,.int c],zO]=some (.rt (.bl true),ρ',S'):=by
 let⟨n,w,a1,c1,G,e1,n0,n1,w0,w1,ha1,hc1⟩:=Cu ns [zO] ha hc;let⟨ρ,S',e6⟩:=sk (cD:=cD) (zO:=zO) hns ns n0 n1 w0 w1 (cE 0 3) ([zO]++G) a1 c1 none none none none none none ha1 hc1 rfl;refine⟨ρ,S',?_⟩;have s2:bB 2 (cCB lL 89) [none,some (.ref 1),none,none,none,none,none,none,none] [scr ns,pen a c,zO]=some (.nx,[none,some (.ref 1),some 28,none,none,none,none,none,none],scr ns::pen a1 c1::([zO]++G)):=by rwa[e1]
 have r2:gq (ae (cC (.int 3)) aq)=λρ S=>some (cE 0 3,λ_=>True,S):=rfl;have e7:ji (gq (ae (cC (.int 3)) aq)) (gNm 3) (fL cD zO oK) [none,some (.ref 1),some 28,none,none,none,none,none,none] (scr ns::pen a1 c1::([zO]++G))=some (.nx,ρ,S'):=by
  rw[r2];exact e6
 show Bq lL yu oP (IU (bQ cD)) (qb (dI 3)) dD (yt (bQ cD) zO) (MK (bQ cD)) (uj (dI 3)) (BO (bQ cD) zO) _ [scr ns,pen a c,zO]=_;unfold Bq;rw[jB s2,jB e7];rfl
end
def nH:cN ["script"] ["script"] (ay k8):=⟨rfl,rfl,rfl,by decide +kernel,rfl,by decide +kernel,by decide +kernel⟩
theorem Ie{k:Nat}(B:Blt mg)(d:Def K mg "_law_pen" k8 ["script"]):Has P w K mg base "_law_pen" (k+1) ["script"] (EO K):=by
 refine d.has nH (λvs H Q E h=>?_) (λf cdv A outer s H vs Q E hr h=>?_);let⟨a,ns,rfl,_⟩:=h;rfl;let⟨a,ns,rfl,hS,q⟩:=h;have nd:=nH.nd;refine⟨_,(vP (yL (yP (dZ (kZ bJ rfl B.list OG.bP (dZ (sf zp (wpv 0) vR (vQ qg)) iF)) (dZ qg (dZ qg iF)))))),?_⟩;refine⟨_,rfl,_,rfl,a,_,rfl,hS,λp hp=>⟨p,_,rfl,.inl (SqL.of ax),λl hl=>⟨(by show 3<=ZC;decide),λr hr'=>?_⟩⟩⟩;obtain⟨ms,em⟩:∃ms:List Int,Bi (ns.map V.int) none (some 63)=ms.map V.int:=⟨_,Ee _ _ _⟩;rw[em]at hl hr' ⊢;refine q r l _ (((cG hp _).trans (cG hl _)).trans (cG hr' _)) ⟨ms,0,0,ax,?_,cQ ax hr',by decide,by decide⟩ ?_;rw[aD (cQ ax hr')];exact ax;exact(((cG hp _).trans (cG hl _))).free hr'
theorem HK{P:Zq}{w:Zr}{K:Z3}{h:Heap}{mg:79}{st:Zn}{k:Nat}{sp:Sp}{fa:Addr}(d:MS K "law" st)(X:K.In h)(G:h.Ns mainGlobals mg)(hfa:mg "law"=some (.ref fa))(ok:∀fd,Fun K "law" "law" st fa fd->∀base:Heap,BP mg base->kX P w K mg base CX0 k fa fd ["script"] sp)
  (b:∀(kV doc pm:Z5) (an:Option Addr) (cdv ct v:Z5),bindArgs (PySem.W.fnOf "law" "law" (jN st) (cK st) (ay st) .none kV doc pm an cdv ct) ⟨[v],[]⟩=pure [(("script":Str),v)]:=by intros;rfl) :
  ∃fd:XF,(∀(s:Z6) (v:Z5),BindsTo s fd ⟨[v],[]⟩ [("script",v)])/\∀base:Heap,K.In base->base.Ns mainGlobals mg->BP mg base->kX P w K mg base CX0 k fa fd ["script"] sp:=by
 let⟨f,a,fd,F⟩:=d;cases hfa.symm.trans (PySem.W.mg_of X G a);refine⟨fd,λs v=>?_,λbase _ _ bm=>ok fd F base bm⟩;let⟨oc,od,kV,doc,pm,an,cdv,ct,osl,rfl,lk,hcd⟩:=F.ex;exact .of_eq (b kV doc pm an cdv ct v)
theorem MH{l:PySem.W.OpenLaw}{w:Zr}{K:Z3}{h:Heap}{mg:79}{fa:Addr}(X:K.In h)(G:h.Ns mainGlobals mg)(hfa:mg "law"=some (.ref fa))
  {Q_:Addr}
  (ds:MR K (("_law_take",nK)::("_law_world",l7)::("_law_size",nL)::("_law_plain_deed",gB)::("_law_dealing",jl)::("_law_plain",ma)::("_law_waits",l8)::("_law_alone",me)::("with_at",sH)::("onwards",sI)::("goes_through",jk)::("alone",zw)::("_law_keen",nN)::("_law_some_dealings",fh)::("_law_few_state",iB)::("_law_next",nM)::("_law_are_numbers",fT)::[("_law_is_row",j6),("_law_closed",j7),("_law_never",md),("_law_free",nO),("is_whole",pD),("is_within",nJ),("is_state",pF),("is_some",sJ),("is_place",pG),("ways_from",nI),("closed_places",fB),("rows_to_places",iA),("is_stuck",pE),("all_done",pH),("stuck",zv),("told_places",gW),("shows_never",j5),("shows_free",l6),("_law_pen",k8),("law",GJ)]))
  (cl_Doing:MU K "Doing" Q_ ["wheel","held","puts","part"] [("__init__","Doing.__init__",mf),("deed","Doing.deed",mj),("asks","Doing.asks",mq),("hold","Doing.hold",mh),("part_behind","Doing.part_behind",fC),("go_behind","Doing.go_behind",gE),("hear","Doing.hear",mi),("enter_try","Doing.enter_try",gF),("goes_back","Doing.goes_back",gD),("do_deed","Doing.do_deed",iN),("put_pairs","Doing.put_pairs",gC)])
  (zs:Nn K Q3)
  {cO pO:Addr} (cd:IZ K "told_places" cO pO) :
  ∃fd:XF,(∀(s:Z6) (v:Z5),BindsTo s fd ⟨[v],[]⟩ [("script",v)])/\∀base:Heap,K.In base->base.Ns mainGlobals mg->BP mg base->kX l.prog w K mg base CX0 11 fa fd ["script"] (qu pO K):=by
 obtain⟨d__law_take,d__law_world,d__law_size,d__law_plain_deed,d__law_dealing,d__law_plain,d__law_waits,d__law_alone,d_with_at,d_onwards,d_goes_through,d_alone,d__law_keen,d__law_some_dealings,d__law_few_state,d__law_next,d__law_are_numbers,d__law_is_row,d__law_closed,d__law_never,d__law_free,d_is_whole,d_is_within,d_is_state,d_is_some,d_is_place,d_ways_from,d_closed_places,d_rows_to_places,d_is_stuck,d_all_done,d_stuck,d_told_places,d_shows_never,d_shows_free,d__law_pen,d_law,-⟩:=ds;obtain⟨m_Doing_init,m_Doing_deed,m_Doing_asks,m_Doing_hold,m_Doing_part_behind,m_Doing_go_behind,m_Doing_hear,m_Doing_enter_try,m_Doing_goes_back,m_Doing_do_deed,m_Doing_put_pairs,-⟩:=cl_Doing.ms;have b_:=cl_Doing.tc;have B:=zs.blt X G;refine HK d_law X G hfa λfd Sj base bm=>?_;have Gp:=Ie (P:=l.prog) (w:=w) (base:=base) (k:=0) B (d__law_pen.df X G);have aw:=u3 (P:=l.prog) (w:=w) (base:=base) (k:=0) (d__law_take.df X G) B;have i9:=tP (P:=l.prog) (w:=w) (base:=base) (k:=1) (d__law_world.df X G) B aw;have mD:bh l.prog w K mg base "_law_size" 1 ["dealing"] (yp 0):=jL (P:=l.prog) (w:=w) (base:=base) (k:=0) (d__law_size.df X G) B ((d__law_size.df X G (ps:=["dealing"])).no);have mC:bh l.prog w K mg base "_law_size" 2 ["dealing"] (yp 1):=jL (P:=l.prog) (w:=w) (base:=base) (k:=1) (d__law_size.df X G) B mD;have uk:bh l.prog w K mg base "_law_size" 3 ["dealing"] (yp 2):=jL (P:=l.prog) (w:=w) (base:=base) (k:=2) (d__law_size.df X G) B mC;have bL:=lq (P:=l.prog) (w:=w) (base:=base) (k:=1) (d__law_plain_deed.df X G) B aw;have oV:bh l.prog w K mg base "_law_dealing" 3 ["pen","world","room","tries"] (rQ 0):=eV (P:=l.prog) (w:=w) (base:=base) (k:=2) (d__law_dealing.df X G) B (Has.mono aw 54) bL ((d__law_dealing.df X G (ps:=["pen","world","room","tries"])).no) ((d__law_size.df X G (ps:=["dealing"])).no);have oU:bh l.prog w K mg base "_law_dealing" 4 ["pen","world","room","tries"] (rQ 1):=eV (P:=l.prog) (w:=w) (base:=base) (k:=3) (d__law_dealing.df X G) B (Has.mono aw 54) (Has.mono bL 54) oV (Has.mono mD 54);have oT:bh l.prog w K mg base "_law_dealing" 5 ["pen","world","room","tries"] (rQ 2):=eV (P:=l.prog) (w:=w) (base:=base) (k:=4) (d__law_dealing.df X G) B (Has.mono aw 54) (Has.mono bL 54) oU (Has.mono mC 54);have oS:bh l.prog w K mg base "_law_dealing" 6 ["pen","world","room","tries"] (rQ 3):=eV (P:=l.prog) (w:=w) (base:=base) (k:=5) (d__law_dealing.df X G) B (Has.mono aw 54) (Has.mono bL 54) oT (Has.mono uk 54);have dX:=tQ (P:=l.prog) (w:=w) (base:=base) (k:=0) (d__law_plain.df X G) B;have rP:bh l.prog w K mg base "_law_waits" 2 ["world","dealing","now"] (vH 0):=fU (P:=l.prog) (w:=w) (base:=base) (k:=1) (d__law_waits.df X G) B dX ((d__law_waits.df X G (ps:=["world","dealing","now"])).no);have rO:bh l.prog w K mg base "_law_waits" 3 ["world","dealing","now"] (vH 1):=fU (P:=l.prog) (w:=w) (base:=base) (k:=2) (d__law_waits.df X G) B (Has.mono dX 54) rP;have rN:bh l.prog w K mg base "_law_waits" 4 ["world","dealing","now"] (vH 2):=fU (P:=l.prog) (w:=w) (base:=base) (k:=3) (d__law_waits.df X G) B (Has.mono dX 54) rO;have rM:bh l.prog w K mg base "_law_waits" 5 ["world","dealing","now"] (vH 3):=fU (P:=l.prog) (w:=w) (base:=base) (k:=4) (d__law_waits.df X G) B (Has.mono dX 54) rN;have jb:=tU (P:=l.prog) (w:=w) (base:=base) (k:=5) (d__law_alone.df X G) B rM;have gP:=AO (P:=l.prog) (w:=w) (base:=base) (k:=0) (d_with_at.df X G) B;have dE:=AQ (P:=l.prog) (w:=w) (base:=base) (k:=0) (fuel:=100) (d_onwards.df X G) B;have c_:=tY (P:=l.prog) (w:=w) (base:=base) (k:=0) (m_Doing_deed.mt) B b_;have y_:=tZ (P:=l.prog) (w:=w) (base:=base) (k:=1) (m_Doing_asks.mt) B b_ c_;have j_:=tW (P:=l.prog) (w:=w) (base:=base) (k:=1) (m_Doing_hold.mt) B b_ gP;have d_:=jM (P:=l.prog) (w:=w) (base:=base) (k:=0) (m_Doing_part_behind.mt) B b_;have f_:=lA (P:=l.prog) (w:=w) (base:=base) (k:=1) (m_Doing_go_behind.mt) B b_ dE d_;have zz:=tX (P:=l.prog) (w:=w) (base:=base) (k:=2) (m_Doing_hear.mt) B b_ j_ (c_.mono 54) f_;have o_:=lB (P:=l.prog) (w:=w) (base:=base) (k:=1) (m_Doing_enter_try.mt) B b_ dE d_;have q_:=lz (P:=l.prog) (w:=w) (base:=base) (k:=0) (m_Doing_goes_back.mt) B b_;have u_:=om (P:=l.prog) (w:=w) (base:=base) (k:=2) (m_Doing_do_deed.mt) B b_ (Has.mono gP 54) (c_.mono 54) (q_.mono 54) o_ j_ f_;have p_:=lu (P:=l.prog) (w:=w) (base:=base) (k:=0) (m_Doing_put_pairs.mt) B b_;have M_Doing_init:=tV (P:=l.prog) (w:=w) (base:=base) (k:=1) (cl_Doing.mkd m_Doing_init X G) B b_ dE;have gv:=o8 (P:=l.prog) (w:=w) (base:=base) (k:=3) (fuel:=20000000) (d_goes_through.df X G) B b_ (c_.mono 54) (y_.mono 54) zz u_;have vN:=Ih (P:=l.prog) (w:=w) (base:=base) (k:=3) (d_alone.df X G) B b_ gv (p_.mono 54) (M_Doing_init.mono 54);have jW:=va (P:=l.prog) (w:=w) (base:=base) (k:=1) (d__law_keen.df X G) B aw;have dv:=jh (P:=l.prog) (w:=w) (base:=base) (k:=6) (d__law_some_dealings.df X G) B (Has.mono aw 54) oS (Has.mono jW 54);have fg:=mI (P:=l.prog) (w:=w) (base:=base) (k:=1) (d__law_few_state.df X G) B aw;have fO:=u9 (P:=l.prog) (w:=w) (base:=base) (k:=6) (d__law_next.df X G) B jb;have Gl:=bh.gc fO 1;have cV:=bh.gc (kG (P:=l.prog) (w:=w) (base:=base) (k:=0) (d__law_are_numbers.df X G) B ) 0;have ie:=bh.gc (rj (P:=l.prog) (w:=w) (base:=base) (k:=1) (d__law_is_row.df X G) B cV) 0;have dq:=bh.gc (rp (P:=l.prog) (w:=w) (base:=base) (k:=7) (d__law_closed.df X G) B (Has.mono ie 54) Gl) 0;have ja:=bh.gc (tR (P:=l.prog) (w:=w) (base:=base) (k:=8) (d__law_never.df X G) B dq) 0;have jX:=bh.gc (vb (P:=l.prog) (w:=w) (base:=base) (k:=8) (d__law_free.df X G) B dq (Has.mono Gl 54)) 0;have fu:=x8 (P:=l.prog) (w:=w) (base:=base) (k:=0) (d_is_whole.df X G) B;have jV:=uZ (P:=l.prog) (w:=w) (base:=base) (k:=1) (d_is_within.df X G) B fu;have lO:=bh.gc (yc (P:=l.prog) (w:=w) (base:=base) (k:=2) (d_is_state.df X G) B jV) 0;have oR:=bh.gc (AR (P:=l.prog) (w:=w) (base:=base) (k:=1) (d_is_some.df X G) B fu) 0;have lP:=bh.gc (yd (P:=l.prog) (w:=w) (base:=base) (k:=3) (d_is_place.df X G) B (Has.mono oR 54) lO) 0;have cZ:=uY (P:=l.prog) (w:=w) (base:=base) (k:=5) (d_ways_from.df X G) B vN;have Gw:=bh.gc cZ 1;have fM:=oj (P:=l.prog) (w:=w) (base:=base) (k:=7) (kr:=6) (cb:=oE (p9 (bQ (⟨Q_,["wheel","held","puts","part"]⟩:Cl)))) (d_closed_places.df X G) B (Has.mono lP 54) 54;have bX:=mH (P:=l.prog) (w:=w) (base:=base) (k:=6) (fuel:=3000) (d_rows_to_places.df X G) B cZ;have fz:=bh.gc (ya (P:=l.prog) (w:=w) (base:=base) (k:=6) (d_is_stuck.df X G) B Gw) 0;have lQ:=ye (P:=l.prog) (w:=w) (base:=base) (k:=7) (d_all_done.df X G) B bX;have vM:=Ig (P:=l.prog) (w:=w) (base:=base) (k:=7) (d_stuck.df X G) B bX fz;have dk:=rg (P:=l.prog) (w:=w) (base:=base) (k:=8) (kr:=6) X G (d_told_places.df X G) cd bm B fM Gw;have ib:=bh.gc (rh (P:=l.prog) (w:=w) (base:=base) (k:=9) (d_shows_never.df X G) B dk) 0;have i8:=bh.gc (tN (P:=l.prog) (w:=w) (base:=base) (k:=9) (d_shows_free.df X G) B dk (Has.mono fz 54)) 0;exact PM (P:=l.prog) (w:=w) (base:=base) (k:=10) Sj B (Has.mono Gp 54) (Has.mono i9 54) (Has.mono fg 54) (Has.mono dv 54) (Has.mono lQ 54) (Has.mono ja 54) (Has.mono aw 54) ib (Has.mono vM 54) (Has.mono jX 54) i8 λns a c ha hc=>LH (cD:=⟨Q_,_⟩) rfl (FD pO) ns a c ha hc
theorem Ru{l:PySem.W.OpenLaw}{q:Zq}{I_:List Str}{XP:(Str->Option Z5)->Heap->Prop}{YP:Zr->Heap->Prop}{d:DefRec}{K:Params->Z3}(p:Addr)(hn:l.most=some 63)(hdf:d.params.defaults=[])
  (hY:∀(w:Zr) (h:Heap),YP w h->(K w.params).In h/\h.get? p=some (PySem.W.tabObj #[])) (hK:∀w:Zr,(K w.params).lookup p=none) (hC:∀w:Zr,∃c,PySem.W.codeHdIn (K w.params) c p=true)
  (F:∀(w:Zr) (mg:79) (fa:Addr) (h:Heap),(K w.params).In h->h.Ns mainGlobals mg->mg d.name=some (.ref fa)->
   ∃fd:XF,(∀(s:Z6) (u:Z5),BindsTo s fd ⟨[u],[]⟩ [("script",u)])/\∀base:Heap,(K w.params).In base->base.Ns mainGlobals mg->BP mg base->kX l.prog w (K w.params) mg base CX0 11 fa fd ["script"] (qu p (K w.params))) :
  PySem.W.WalkO q I_ XP YP l.row.toRowW d [] (λf vs=>PySem.call f vs):=
 L2.CC (n:=63) (k:=11) (x:="script") (p:=p) (sp:=λw=>qu p (K w.params)) hn 54 hdf ⟨rfl,by decide,by decide,rfl⟩ hY hK hC F (λ_ _ a ns hl hO hS=>⟨a,ns,rfl,hS,hl,hO.1,λ_=>rfl⟩)
end OL
namespace PySem.W.Fast
def tw14637818891098480041:=0
def tw8579089915064870383:=0
def tw15527561216110387309:=0
def tw16346916724449764202:=0
def tw5503052252337462978:=0
def tw13958623321064152506:=0
def tw2656051718395112896:=0
def tw9582863476589190194:=0
def tw4001389668616907316:=0
def tw5418906335449964847:=0
def tw85098825200184631:=0
def tw16947680437193098652:=0
def tw5560715176632266539:=0
def tw9117209686983131627:=0
def tw9320108735196769320:=0
def tw4522396370190856368:=0
def tw9316400774520533594:=0
def tw6069519450166713007:=0
def tw437596569258527426:=0
def tw1100555229937981014:=0
def tw15718121896307877789:=0
def tw8458955775340270722:=0
def tw1560643185680911028:=0
def tw16203706924789716911:=0
def tw9337211426640464569:=0
def tw1997590165577933556:=0
def tw7473668204036029048:=0
def tw2658304104623725760:=0
def tw14926898453793300695:=0
def tw1098244991920950063:=0
def tw16994009983074063596:=0
def tw16079922422109614064:=0
def tw7267740249037496838:=0
def tw12569587654713915851:=0
def tw3365641454993638916:=0
def tw252044758968626059:=0
def tw11568300557759841451:=0
def tw15881375623605708196:=0
def tw17763835764360512776:=0
def tw6258325910626360686:=0
def tw4106893726595417973:=0
def tw10438046995433722423:=0
def tw14097946801951231110:=0
def tw13229467947013707266:=0
def tw150654983257191445:=0
def tw4586062581174535168:=0
def tw176924222101749870:=0
def tw12206890656835039639:=0
def tw15967320054490920939:=0
def tw9901153429224655630:=0
def tw5420419228118295637:=0
def tw17167170341516346780:=0
def tw3479982634817830439:=0
def tw7508586252135676407:=0
def tw4858797095025492977:=0
def tw13960319205697821717:=0
def tw10266083997049371331:=0
def tw6287093428425150857:=0
def tw9731249430675803194:=0
def tw1102097057292391537:=0
def tw9642272124316919289:=0
def tw6525306690454749373:=0
def tw10226199610840469808:=0
def tw4096203736359039826:=0
def tw14755402454424485202:=0
def tw7130864545907338372:=0
def tw9938823150756845406:=0
def tw17880252078453459827:=0
def tw2296345720652170297:=0
def tw10372977217173310221:=0
def tw2344623200204299299:=0
def tw14393608024763587659:=0
def tw12777999951223435819:=0
def tw8111410879748123514:=0
def tw12644662502279389770:=0
def tw1886741440348225534:=0
def tw3408765610159464832:=0
def tw16489697296277821768:=0
def tw9232154249303149206:=0
def tw9279472320880026446:=0
def tw1326597982895588808:=0
def tw17821782433001790039:=0
def tw1683276261731363758:=0
def tw6566427194381144842:=0
def tw1235683805001517028:=0
def tw16737667085634310734:=0
def tw4500570082524665986:=0
def tw11997775577010731092:=0
def tw10834159789956954228:=0
def tw14980246507869883519:=0
def tw1838260120862685818:=0
def tw5824686648743433119:=0
def tw7746557376239330905:=0
def tw7160603699169057271:=0
def tw18337224951368036424:=0
def tw8415445270474300764:=0
def tw11645670163966588098:=0
def tw4725439193147521665:=0
def tw6147853998184709778:=0
def tw11467344439915887915:=0
def tw7896407315448993395:=0
def tw16070566611181837882:=0
def tw10198268327800772735:=0
def tw8619717167593867053:=0
def tw11256572018879509230:=0
def tw5038313505045302358:=0
def tw4017988939946520315:=0
def tw7726413981870346428:=0
def tw16029765872946700126:=0
def tw13206513033435230842:=0
def tw12808016020543963583:=0
def tw14174517673770257007:=0
def tw17829017573742043715:=0
def tw4565365808946357594:=0
def tw15625940632606744607:=0
def tw10934445275769061529:=0
def tw8993135939244291015:=0
def tw5025941769682980030:=0
def tw16308535045048834846:=0
def tw11925904739456792171:=0
def tw10432083948132462069:=0
def tw6139078566766365083:=0
def tw12755466861210387212:=0
def tw41299397207757060:=0
def tw17471631839628506604:=0
def tw5996625171064813043:=0
def tw6901754343706152217:=0
def tw14652947039265191375:=0
def tw618492653895695650:=0
def tw2912097051872518080:=0
def tw9260078061757074817:=0
def tw10626753342919890723:=0
def tw8035026794942980091:=0
def tw14598277394885193564:=0
def tw13946072333660746107:=0
def tw8033669285535647315:=0
def tw18043547507568218253:=0
def tw2284884899470222880:=0
def tw10372041538945495165:=0
def tw5177536606391107342:=0
def tw5532595535554885219:=0
def tw18343045542174710871:=0
def tw17080487299951735738:=0
def tw9577191506775279491:=0
def tw18074694867747496129:=0
def tw8104567624755057396:=0
def tw4901848654835742328:=0
def tw6907990175660873542:=0
def tw587488050325477454:=0
def tw13904106745280324404:=0
def tw10784214436579792959:=0
def tw921534647564925113:=0
def tw8778882359212822362:=0
def tw12674247186083646810:=0
def tw227860046295710370:=0
def tw14658441597925923849:=0
def tw940806931699879385:=0
def tw8218417853116394585:=0
def tw1133154600814938911:=0
def tw18204663152095913599:=0
def tw3981613922426015467:=0
def tw12470092155611506790:=0
def tw11496695098351091763:=0
def tw323230450127558005:=0
def tw3132214460441714232:=0
def tw7771390090783246927:=0
def tw6013840686427356360:=0
def tw15533102465836496146:=0
def tw10983448284366336412:=0
def tw9469891829122456671:=0
def tw4944420420179797160:=0
def tw15207532122121075942:=0
def tw2479522949032730986:=0
def tw14446449676127065059:=0
def tw2129289424211631918:=0
def tw2237025653075319577:=0
def tw12810523310131936566:=0
def tw8799957927382358739:=0
def tw201467453701776716:=0
def tw1015879070671570648:=0
def tw15017740369811807583:=0
def tw7995068554308193202:=0
def tw7771394024041199735:=0
def tw17061998039894563453:=0
def tw1210812744211766785:=0
def tw2682678625384145764:=0
def tw13071135617391068039:=0
def tw6191127782778571133:=0
def tw5224191125560934763:=0
def tw6906173583127180632:=0
def tw5150323786759677843:=0
def tw5010708273317281535:=0
def tw9499874749199868008:=0
def tw3706911414769095891:=0
def tw16524508373587503471:=0
def tw12187665960261849049:=0
def tw16540634570900850798:=0
def tw16098540533409613709:=0
def tw820399163520889467:=0
def tw2955065700135730908:=0
def tw1564513976325571698:=0
def tw7130283806480197245:=0
def tw6599854811402845569:=0
def tw18041613425009623721:=0
def tw8244416510064479223:=0
def tw15192730057929345543:=0
def tw2639851204949392986:=0
def tw9023323576962663677:=0
def tw6994133563884446638:=0
def tw6648041746259976953:=0
def tw2405344192556269929:=0
def tw3274021324232788290:=0
def tw17190904730238928423:=0
def tw13051707094153414541:=0
def tw4939114007487946747:=0
def tw16733978873607076162:=0
def tw1658519601972440158:=0
def tw3247430118009511591:=0
def tw12650346917354462191:=0
def tw1343338131620899173:=0
def tw1062536167967273525:=0
def tw16503045751077385760:=0
def tw10727991979993022513:=0
def tw1771443088021833296:=0
def tw9322362273183199777:=0
def tw16120962606328983156:=0
def tw1348912708497183456:=0
def tw10107370706362957218:=0
def tw9550045594800511677:=0
def tw93072973209527930:=0
def tw9230131668695094202:=0
def tw9112066843482981092:=0
def tw8767263330785327476:=0
def tw8748153628911248537:=0
def tw8598788499076148924:=0
def tw8493588686883664099:=0
def tw8053497268435316678:=0
def tw7969122527079911291:=0
def tw7869873924797680821:=0
def tw7685873370383313703:=0
def tw7033257825992888771:=0
def tw6946858314196795662:=0
def tw6673236866864726059:=0
def tw6653787464320292217:=0
def tw6576901754871276860:=0
def tw650532888814262824:=0
def tw6364815831718981164:=0
def tw6340128626420443922:=0
def tw6279353019556208349:=0
def tw6047801569644130833:=0
def tw6027138910561110356:=0
def tw5869001965357492553:=0
def tw5653939741483027472:=0
def tw5520976888300494920:=0
def tw5040414120526368204:=0
def tw480522575333534075:=0
def tw4542306565332515291:=0
def tw4510990288303427550:=0
def tw4340077779436249313:=0
def tw4153690605667924008:=0
def tw4061139196132370113:=0
def tw3953155713987032168:=0
def tw3861431428704640707:=0
def tw3721132801332667607:=0
def tw3113293107100984884:=0
def tw3096815808961101674:=0
def tw3088647826167416859:=0
def tw2272082910662905736:=0
def tw2097527878265553488:=0
def tw2009409568005801681:=0
def tw1952746380444680922:=0
def tw18198388365314941275:=0
def tw17551762922604272051:=0
def tw1710678249035854370:=0
def tw1673118007365906635:=0
def tw16648219060388185504:=0
def tw16556564313923943783:=0
def tw16427796928940477653:=0
def tw16323803467097369844:=0
def tw1617011448306065195:=0
def tw15671269415222665172:=0
def tw15595299729243515297:=0
def tw15432085820167750964:=0
def tw15360808949836006511:=0
def tw15152608085468032261:=0
def tw15012281401853139892:=0
def tw14863648188951932634:=0
def tw14808519230610297508:=0
def tw14721406443970960416:=0
def tw1451426717726330947:=0
def tw14475129271947018054:=0
def tw14373239478357271762:=0
def tw14217039916884146284:=0
def tw14108932938232067752:=0
def tw13762955338268300857:=0
def tw13422901990097392917:=0
def tw13388476869906818487:=0
def tw13106308605156189155:=0
def tw13101740154497870953:=0
def tw1291987515634220356:=0
def tw12773729616255031092:=0
def tw12596444358127863322:=0
def tw12566200809631319800:=0
def tw12187749492739610328:=0
def tw12032666548441967237:=0
def tw11944204621819847897:=0
def tw11781761063755904866:=0
def tw11697843210826282831:=0
def tw11504926333237559067:=0
def tw11461823840567239384:=0
def tw11360460624567198318:=0
def tw1125104433878143494:=0
def tw11066084812813244986:=0
def tw11021533855226265315:=0
def tw10633124875145850769:=0
def tw10521833871523986170:=0
def tw10312801246153350445:=0
def tw10267311685304612707:=0
end PySem.W.Fast
open PySem PySem.W PyProof.Rows
open OP in
set_option maxRecDepth 100000 in
set_option maxHeartbeats 0 in
theorem PySem.Challenge.cw_oneglance_k56_tables_of_waits_holds : PySem.Challenge.rw_oneglance_k56_tables_of_waits.Holds := by
 w_on; o_law; k_head; (case hw => w_witness2)
 k_fill
 refine OL.Ru (l := PySem.Challenge.rw_oneglance_k56_tables_of_waits) 214 rfl rfl (λw h Y => ⟨PySem.W.km_in_of Y, PySem.W.km_tabs_of Y 214 (by simp)⟩) (λw => by kernel_rfl) (λw => ⟨218, by kernel_rfl⟩) ?F;case F =>
  intro w mg fa h KX G hmg;refine' OL.MH KX G hmg ?ds ?cl_Doing ?zs ?cd
  (case ds => (repeat (refine' ⟨RO ?a ?l ?c ?k, ?_⟩; (case a => k_is); (case l => k_is); (case c => k_is); (case k => k_is))); exact trivial)
  (case cl_Doing => (refine' ⟨?a, ?b, ?c, ?d, ?e, ?f, ?g, ?n, ?m⟩; (case a => k_is); (case b => k_is); (case c => k_is); (case d => k_is); (case e => k_is); (case f => k_is); (case g => k_is); (case n => (repeat (refine' ⟨?a, ?_⟩; (case a => k_is))); exact trivial); (case m => (repeat (refine' ⟨RH ?a ?i ?l ?c ?k, ?_⟩; (case a => k_is); (case i => k_is); (case l => k_is); (case c => k_is); (case k => k_is))); exact trivial)))
  (case zs => (repeat (refine' ⟨?a, ?_⟩; (case a => k_is))); exact trivial)
  (case cd => exact ⟨_, _, _, by k_is, by k_is, rfl, rfl, by kernel_rfl⟩)
