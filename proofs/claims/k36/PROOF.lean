import PyProof.Rows.All
import Wide.All
import OpenK.AllK
import Wide.FinOn
import Lean
import PyProof.EqAt
import PyProof.EqKinds
import PyProof.TupleCall
import PySem.Challenge.RW_oneglance_k36_apart_none_falls
set_option maxHeartbeats 4000000
set_option Elab.async false
set_option linter.all false
set_option maxRecDepth 100000
namespace L2
open PySem PySem.Spec PyProof.Rows
noncomputable abbrev Key := Sum Int Str
noncomputable def kK : Key → Value → Bool
 | .inl k, v => Value.isInt k v
 | .inr x, v => Value.isStrOf x v
noncomputable def DG (w : World) : Key → Int
 | .inl k => hashInt k
 | .inr x => hashStr w x
theorem aZ : ∀ {k : Key} {v : Value}, kK k v = true → (∃ i t, k = Sum.inl i ∧ v = Value.int i t) ∨ (∃ x t, k = Sum.inr x ∧ v = Value.str x t)
 | .inl i, v, h => by
  obtain ⟨t, e⟩ := Value.isInt_shape (k := i) (v := v) h
  exact .inl ⟨i, t, rfl, e⟩
 | .inr x, v, h => by
  obtain ⟨t, e⟩ := Value.isStrOf_shape (x := x) (v := v) h
  exact .inr ⟨x, t, rfl, e⟩
theorem qE (i : Int) (t : Tok) : kK (.inl i) (.int i t) = true := by simp [kK, Value.isInt]
theorem qD (x : Str) (t : Tok) : kK (.inr x) (.str x t) = true := by simp [kK, Value.isStrOf]
theorem zP (a b : Int) : decide ((Sum.inl a : Key) = Sum.inl b) = (a == b) := by
 by_cases e : a = b
 ·subst e; simp
 ·have h : ¬ (Sum.inl a : Key) = Sum.inl b := fun q => e (Sum.inl.inj q)
  rw [decide_eq_false h]
  exact (beq_eq_false_iff_ne.mpr e).symm
theorem zM (a b : Str) : decide ((Sum.inr a : Key) = Sum.inr b) = decide (a = b) := by
 by_cases e : a = b
 ·subst e; simp
 ·have h : ¬ (Sum.inr a : Key) = Sum.inr b := fun q => e (Sum.inr.inj q)
  rw [decide_eq_false h, decide_eq_false e]
theorem zO (a : Int) (b : Str) : decide ((Sum.inl a : Key) = Sum.inr b) = false := decide_eq_false (fun q => nomatch q)
theorem zN (a : Str) (b : Int) : decide ((Sum.inr a : Key) = Sum.inl b) = false := decide_eq_false (fun q => nomatch q)
noncomputable def bS (prog : Program) (w : World) : PySem.KeyKind prog w Key where
 is := kK
 hash := DG w
 inj := fun v a b ha hb => by
  rcases aZ ha with ⟨i, t, rfl, rfl⟩ | ⟨x, t, rfl, rfl⟩
  ·rcases aZ hb with ⟨j, u, rfl, e⟩ | ⟨y, u, rfl, e⟩
   ·injection e with e1 _; rw [e1]
   ·exact nomatch e
  ·rcases aZ hb with ⟨j, u, rfl, e⟩ | ⟨y, u, rfl, e⟩
   ·exact nomatch e
   ·injection e with e1 _; rw [e1]
 byValue := fun k v h => by
  rcases aZ h with ⟨i, t, rfl, rfl⟩ | ⟨x, t, rfl, rfl⟩ <;> rfl
 pyHash := fun hv h => by
  rcases aZ hv with ⟨i, t, rfl, rfl⟩ | ⟨x, t, rfl, rfl⟩
  ·exact wpAny_pyHash_int h
  ·exact wpAny_pyHash_str h
 eqBool := fun hu hv h => by
  rcases aZ hu with ⟨i, t, rfl, rfl⟩ | ⟨x, t, rfl, rfl⟩
  ·rcases aZ hv with ⟨j, u, rfl, rfl⟩ | ⟨y, u, rfl, rfl⟩
   ·rw [zP] at h; exact wpAny_eqBool_int h
   ·rw [zO] at h; exact SeqAt.EqAt.int_str i t y u _ _ _ _ h
  ·rcases aZ hv with ⟨j, u, rfl, rfl⟩ | ⟨y, u, rfl, rfl⟩
   ·rw [zN] at h; exact SeqAt.EqAt.str_int x t j u _ _ _ _ h
   ·rw [zM] at h; exact wpAny_eqBool_str h
 «strs» := fun k x t v h => by
  rcases aZ h with ⟨i, u, rfl, e⟩ | ⟨y, u, rfl, e⟩
  ·exact nomatch e
  ·injection e with e1 _
   subst e1
   cases v <;> rfl
theorem mq (prog : Program) (w : World) (i : Int) (t : Tok) : (bS prog w).is (.inl i) (.int i t) = true := qE i t
theorem ml (prog : Program) (w : World) (x : Str) (t : Tok) : (bS prog w).is (.inr x) (.str x t) = true := qD x t
inductive V where
 | non | bl (b : Bool) | int (i : Int) | str (x : Str) | byt (b : Array UInt8) | flt (b : UInt64) | ref (a : Addr) | ty (n : String)
 deriving DecidableEq
noncomputable def cL : V → Value → Prop
 | .non, u => u = Value.none
 | .bl b, u => u = Value.bool b
 | .int i, u => ∃ t, u = Value.int i t
 | .str x, u => ∃ t, u = Value.str x t
 | .byt b, u => ∃ t, u = Value.bytes b t
 | .flt b, u => ∃ t, u = Value.float b t
 | .ref a, u => u = Value.ref a
 | .ty n, u => u = Value.type n
noncomputable abbrev bR : List V → List Value → Prop := Paired cL
theorem bR.length {xs : List V} {us : List Value} (r : bR xs us) : xs.length = us.length := Paired.length r
theorem bR.get : ∀ {xs : List V} {us : List Value} {i : Nat} {x : V}, bR xs us → xs[i]? = some x → ∃ u, us[i]? = some u ∧ cL x u
 | _, _, _, _, .nil, e => by simp at e
 | _, _, 0, _, .cons r _, e => by simp at e; subst e; exact ⟨_, rfl, r⟩
 | _, _, i + 1, x, .cons _ t, e => by
  obtain ⟨u, h1, h2⟩ := bR.get (i := i) (x := x) t (by simpa using e)
  exact ⟨u, by simpa using h1, h2⟩
theorem bR.set {x : V} {u : Value} (r : cL x u) : ∀ {xs : List V} {us : List Value} (i : Nat), bR xs us → bR (xs.set i x) (us.set i u)
 | _, _, _, .nil => .nil
 | _, _, 0, .cons _ t => .cons r t
 | _, _, i + 1, .cons q t => .cons q (bR.set r i t)
theorem bR.append : ∀ {xs ys : List V} {us ws : List Value}, bR xs us → bR ys ws → bR (xs ++ ys) (us ++ ws)
 | _, _, _, _, .nil, s => s
 | _, _, _, _, .cons r t, s => .cons r (bR.append t s)
noncomputable def j5 : Option V → Option Value → Prop
 | some v, some u => cL v u
 | none, none => True
 | _, _ => False
noncomputable def KV {κ : Type} : List (κ × V) → List (κ × Value) → Prop := Paired fun (p : κ × V) (q : κ × Value) => p.1 = q.1 ∧ cL p.2 q.2
noncomputable def kV : Key → V
 | .inl i => .int i
 | .inr x => .str x
inductive HO where
 | lst (xs : List V)
 | tup (xs : List V)
 | dK (kvs : List (Key × V)) | dT (kvs : List (List Key × V))
 | set (S : Int → Bool) (n : Nat)
 | ins (C dx : Addr) (fs : List (Str × V))
 | own (x : Addr)
 | xd (fs : List (Str × V))
 | met (f x : Addr)
 | rng (lo hi : Int)
 | frz (o : Obj) (u : HO)
 | tbl (ps : Array Value)
 | ext (φ : Heap → Prop)
noncomputable abbrev Hp := Addr → Option HO
noncomputable def upd (H : Hp) (a : Addr) (o : HO) : Hp := fun b => if b = a then some o else H b
theorem aP {H : Hp} {a : Addr} {o : HO} : upd H a o a = some o := by unfold upd; rw [if_pos rfl]
theorem bh {H : Hp} {a b : Addr} {o : HO} (h : b ≠ a) : upd H a o b = H b := by unfold upd; rw [if_neg h]
theorem B5 {H : Hp} {a b : Addr} {o u : HO} (h : H a = some o) (h' : H b = some u) (d : o ≠ u) : a ≠ b := by
 intro e; subst e; rw [h] at h'; exact d (Option.some.inj h')
theorem cX {H : Hp} {a b : Addr} {o : HO} (h : H a = some o) (h' : H b = none) : a ≠ b := by
 intro e; subst e; rw [h] at h'; cases h'
section
variable (P : Program) (w : World)
noncomputable def dG (H : Hp) (h : Heap) (a : Addr) : HO → Prop
 | .lst xs => xs.length ≤ sizeLine ∧ ∃ (its : List Value) (n : Nat), bR xs its ∧ h.get? a = some { cls := .type "list", data := .seq its.toArray n }
 | .tup xs => xs.length ≤ sizeLine ∧ ∃ its : List Value, bR xs its ∧ IsTup h a its.toArray
 | .dK kvs => kvs.length ≤ sizeLine ∧ (a == sysModules) = false ∧ ∃ vs, KV kvs vs ∧ h.DictOf (bS P w) a vs
 | .dT kvs => kvs.length ≤ sizeLine ∧ (a == sysModules) = false ∧ ∃ xs : List (List Key × Addr × Value),
   Paired (fun (p : List Key × V) (q : List Key × Addr × Value) => p.1 = q.1 ∧ H q.2.1 = some (.tup (p.1.map kV)) ∧ cL p.2 q.2.2) kvs xs ∧
   ∃ o es ep, h.get? a = some o ∧ o.ExactDict ∧ o.data = .dict es ep ∧ es.toList = xs.map (entryOfKey (tupleKind (bS P w))) ∧ (xs.map (·.1)).Nodup
 | .set S n => h.SetOf (intKind P w) a S n
 | .ins C dx fs => H dx = some (.own a) ∧ fs.length ≤ 1000 ∧ dx ≠ a ∧ h.get? a = some (PySem.W.instObj C dx) ∧
   ∃ mA, h.Ns1 dx mA ∧ (∀ f, j5 (fs.lookup f) (mA f)) ∧ PySem.Within mA (fs.map (·.1))
 | .own _ => ∃ o, h.get? a = some o
 | .xd fs => ∃ mA, h.Ns1 a mA ∧ ∀ f, j5 (fs.lookup f) (mA f)
 | .rng lo hi => ∃ t u v, h.get? a = some { cls := .type "range", data := .fields #[.int lo t, .int hi u, .int 1 v] }
 | .frz o u => h.get? a = some o ∧ dG H h a u
 | .tbl ps => h.get? a = some { cls := .none, data := .fields ps }
 | .met f x => h.get? a = some (PySem.W.methodObj (.ref f) (.ref x))
 | .ext φ => φ h ∧ (∃ o, h.get? a = some o) ∧ ∀ h1 h2 : Heap, φ h1 → (∀ o, h1.get? a = some o → h2.get? a = some o) → φ h2
noncomputable def HOk (H : Hp) (h : Heap) : Prop := ∀ a o, H a = some o → dG P w H h a o
end
section
variable {P : Program} {w : World} {H H' : Hp} {h h' : Heap} {a : Addr} {o : HO}
theorem dG.lt (x : dG P w H h a o) : a < h.objs.size := by
 cases o with
 | lst xs => obtain ⟨_, _, _, _, e⟩ := x; exact Heap.lt_size e
 | tup xs => obtain ⟨_, _, _, p⟩ := x; exact p.lt
 | dK kvs => obtain ⟨_, _, _, _, o, _, _, e, _⟩ := x; exact Heap.lt_size e
 | dT kvs => obtain ⟨_, _, _, _, o, _, _, e, _⟩ := x; exact Heap.lt_size e
 | set S n => obtain ⟨o, _, _, _, e, _⟩ := x; exact Heap.lt_size e
 | ins C dx fs => obtain ⟨_, _, _, e, _⟩ := x; exact Heap.lt_size e
 | own y => obtain ⟨_, e⟩ := x; exact Heap.lt_size e
 | xd fs => obtain ⟨_, ⟨_, _, _, e, _⟩, _⟩ := x; exact Heap.lt_size e
 | rng lo hi => obtain ⟨_, _, _, e⟩ := x; exact Heap.lt_size e
 | frz ob u => obtain ⟨e, _⟩ := x; exact Heap.lt_size e
 | tbl ps => exact Heap.lt_size (show h.get? a = some _ from x)
 | met f y => exact Heap.lt_size (show h.get? a = some _ from x)
 | ext φ => obtain ⟨_, ⟨_, e⟩, _⟩ := x; exact Heap.lt_size e
theorem Paired.mapP {α β : Type} {F G : α → β → Prop} : ∀ {l₁ : List α} {l₂ : List β}, Paired F l₁ l₂ → (∀ a b, F a b → G a b) → Paired G l₁ l₂
 | _, _, .nil, _ => .nil
 | _, _, .cons r t, f => .cons (f _ _ r) (Paired.mapP t f)
theorem dG.stay (x : dG P w H h a o) (k : ∀ b u, (b = a ∨ H b = some (.own a)) → h.get? b = some u → h'.get? b = some u)
  (ho : ∀ b, H b = some (.own a) → H' b = some (.own a)) (ht : ∀ b xs, H b = some (.tup xs) → H' b = some (.tup xs)) : dG P w H' h' a o := by
 induction o with
 | lst xs => obtain ⟨z, its, n, r, e⟩ := x; exact ⟨z, its, n, r, k _ _ (.inl rfl) e⟩
 | tup xs => obtain ⟨z, its, r, ob, e, c⟩ := x; exact ⟨z, its, r, ob, k _ _ (.inl rfl) e, c⟩
 | dK kvs => obtain ⟨z, y, vs, r, ob, es, ep, e, c⟩ := x; exact ⟨z, y, vs, r, ob, es, ep, k _ _ (.inl rfl) e, c⟩
 | dT kvs =>
  obtain ⟨z, y, xs, r, ob, es, ep, e, c⟩ := x
  exact ⟨z, y, xs, Paired.mapP r fun p q z => ⟨z.1, ht _ _ z.2.1, z.2.2⟩, ob, es, ep, k _ _ (.inl rfl) e, c⟩
 | set S n => obtain ⟨ob, es, ep, t, e, c⟩ := x; exact ⟨ob, es, ep, t, k _ _ (.inl rfl) e, c⟩
 | ins C dx fs =>
  obtain ⟨d, z, ne, e, mA, ⟨od, es, ep, e2, c⟩, r⟩ := x
  exact ⟨ho _ d, z, ne, k _ _ (.inl rfl) e, mA, ⟨od, es, ep, k _ _ (.inr d) e2, c⟩, r⟩
 | own y => obtain ⟨ob, e⟩ := x; exact ⟨ob, k _ _ (.inl rfl) e⟩
 | xd fs => obtain ⟨mA, ⟨od, es, ep, e, c⟩, r⟩ := x; exact ⟨mA, ⟨od, es, ep, k _ _ (.inl rfl) e, c⟩, r⟩
 | rng lo hi => obtain ⟨t, u, v, e⟩ := x; exact ⟨t, u, v, k _ _ (.inl rfl) e⟩
 | frz ob u ih => obtain ⟨e, q⟩ := x; exact ⟨k _ _ (.inl rfl) e, ih q⟩
 | tbl ps =>
  have e : h.get? a = some { cls := .none, data := .fields ps } := x
  show h'.get? a = some { cls := .none, data := .fields ps }
  exact k a _ (.inl rfl) e
 | met f y =>
  have e : h.get? a = some (PySem.W.methodObj (.ref f) (.ref y)) := x
  show h'.get? a = some (PySem.W.methodObj (.ref f) (.ref y))
  exact k a _ (.inl rfl) e
 | ext φ => obtain ⟨p, ⟨o, e⟩, st⟩ := x; exact ⟨st _ _ p fun o q => k _ _ (.inl rfl) q, ⟨o, k _ _ (.inl rfl) e⟩, st⟩
theorem HOk.lt (x : HOk P w H h) (e : H a = some o) : a < h.objs.size := (x a o e).lt
theorem HOk.fresh (x : HOk P w H h) (e : h.objs.size ≤ a) : H a = none := by
 cases q : H a with
 | none => rfl
 | some u => exact absurd (Nat.lt_of_lt_of_le (x.lt q) e) (Nat.lt_irrefl _)
theorem HOk.kept (x : HOk P w H h) (k : ∀ b u, h.get? b = some u → h'.get? b = some u) : HOk P w H h' := fun a o e =>
 (x a o e).stay (fun b u _ q => k b u q) (fun _ q => q) fun _ _ q => q
theorem HOk.laid (x : HOk P w H h) (k : ∀ b u, h.get? b = some u → h'.get? b = some u) (hp : h.objs.size ≤ a) (new : dG P w (upd H a o) h' a o) : HOk P w (upd H a o) h' := fun b u e => by
 have hn := x.fresh hp
 by_cases hb : b = a
 ·subst hb; rw [aP] at e; cases e; exact new
 ·rw [bh hb] at e
  exact (x b u e).stay (fun c v _ q => k c v q) (fun c q => by rw [bh (cX q hn)]; exact q) fun c xs q => by rw [bh (cX q hn)]; exact q
end
noncomputable def Rd (H : Hp) (a : Addr) (u : HO) : Prop := H a = some u ∨ ∃ o, H a = some (.frz o u)
theorem Rd.ok {P : Program} {w : World} {H : Hp} {h : Heap} {a : Addr} {u : HO} (r : Rd H a u) (x : HOk P w H h) : dG P w H h a u := by
 rcases r with r | ⟨o, r⟩
 ·exact x a u r
 ·obtain ⟨_, q⟩ := x a _ r
  exact q
noncomputable def Mut : Option HO → Prop
 | some (.lst _) => True
 | some (.dK _) => True
 | some (.dT _) => True
 | some (.set _ _) => True
 | some (.ins _ _ _) => True
 | some (.ext _) => True
 | _ => False
section
variable {P : Program} {w : World} {H : Hp} {h h' : Heap} {x e : Addr} {o' : HO}
theorem HOk.write (ok : HOk P w H h) (mu : Mut (H x)) (he : e = x ∨ H e = some (.own x)) (k : ∀ b u, b ≠ e → h.get? b = some u → h'.get? b = some u) (heo : ∃ u, h'.get? e = some u)
  (new : dG P w (upd H x o') h' x o') : HOk P w (upd H x o') h' := fun b u q => by
 have nown : ∀ c y, H c = some (.own y) → c ≠ x := fun c y r z => by subst z; rw [r] at mu; exact mu
 have ntup : ∀ c xs, H c = some (.tup xs) → c ≠ x := fun c xs r z => by subst z; rw [r] at mu; exact mu
 by_cases hb : b = x
 ·subst hb; rw [aP] at q; cases q; exact new
 ·rw [bh hb] at q
  by_cases hbe : b = e
  ·have q' : H b = some (.own x) := by
    rcases he with z | z
    ·exact absurd (hbe.trans z) hb
    ·rw [hbe]; exact z
   rw [q] at q'; cases q'
   obtain ⟨v, hv⟩ := heo
   exact ⟨v, by rw [hbe]; exact hv⟩
  ·refine (ok b u q).stay (fun c v hc r => k c v ?_ r) (fun c r => by rw [bh (nown c b r)]; exact r) fun c xs r => by rw [bh (ntup c xs r)]; exact r
   rcases hc with rfl | hc
   ·exact hbe
   ·rintro rfl
    rcases he with z | z
    ·exact nown c b hc z
    ·rw [hc] at z; cases z; exact hb rfl
end
structure Un (fs ex : List Addr) (H H' : Hp) (h h' : Heap) : Prop where
 keep : ∀ b o, h.get? b = some o → H b = none → b ∉ fs → b ∉ ex → h'.get? b = some o
 slot : ∀ b o, h.get? b = some o → H b = none → b ∈ fs → b ∉ ex → ∃ sl, h'.get? b = some { o with slots := sl }
 free : ∀ b o, h.get? b = some o → H b = none → b ∉ ex → H' b = none
 there : ∀ b o, h.get? b = some o → b ∉ ex → ∃ o', h'.get? b = some o'
 tups : ∀ b xs, H b = some (.tup xs) → H' b = some (.tup xs)
 frzs : ∀ b o u, H b = some (.frz o u) → H' b = some (.frz o u)
 tbls : ∀ b ps, H b = some (.tbl ps) → ∃ more, H' b = some (.tbl (ps ++ more))
section
variable {fs fs' ex ex' : List Addr} {H H1 H2 : Hp} {h h1 h2 h' : Heap} {a x e : Addr} {o : HO}
theorem Un.any (u : Un fs ex H H1 h h1) {b : Addr} {ob : Obj} (q : h.get? b = some ob) (n : H b = none) (hx : b ∉ ex) : ∃ sl, h1.get? b = some { ob with slots := sl } := by
 by_cases hb : b ∈ fs
 ·exact u.slot b ob q n hb hx
 ·exact ⟨ob.slots, u.keep b ob q n hb hx⟩
theorem Un.kept (k : ∀ b u, h.get? b = some u → h'.get? b = some u) : Un fs ex H H h h' :=
 ⟨fun b ob q _ _ _ => k b ob q, fun b ob q _ _ _ => ⟨ob.slots, k b ob q⟩, fun _ _ _ n _ => n, fun b ob q _ => ⟨ob, k b ob q⟩, fun _ _ q => q, fun _ _ _ q => q, fun _ ps q => ⟨#[], by rw [q]; simp⟩⟩
theorem Un.refl : Un fs ex H H h h := Un.kept fun _ _ q => q
theorem Un.laid (k : ∀ b u, h.get? b = some u → h'.get? b = some u) (hp : h.objs.size ≤ a) (hn : H a = none) : Un fs ex H (upd H a o) h h' where
 keep := fun b u q _ _ _ => k b u q
 slot := fun b u q _ _ _ => ⟨u.slots, k b u q⟩
 free := fun b u q n _ => by rw [bh (Nat.ne_of_lt (Nat.lt_of_lt_of_le (Heap.lt_size q) hp))]; exact n
 there := fun b u q _ => ⟨u, k b u q⟩
 tups := fun b xs q => by rw [bh (cX q hn)]; exact q
 frzs := fun b u xs q => by rw [bh (cX q hn)]; exact q
 tbls := fun b ps q => ⟨#[], by rw [bh (cX q hn), q]; simp⟩
theorem Un.write (mu : Mut (H x)) (he : e = x ∨ H e = some (.own x)) (k : ∀ b u, b ≠ e → h.get? b = some u → h'.get? b = some u) (heo : ∃ u, h'.get? e = some u) : Un fs ex H (upd H x o) h h' := by
 have hx : ∀ b, H b = none → b ≠ x := fun b n z => by subst z; rw [n] at mu; exact mu
 have hb : ∀ b, H b = none → b ≠ e := fun b n z => by
  subst z
  rcases he with r | r
  ·exact hx b n r
  ·rw [n] at r; cases r
 have hm : ∀ b u, H b = some u → ¬ Mut (some u) → b ≠ x := fun b u q nm z => by subst z; rw [q] at mu; exact nm mu
 refine ⟨fun b u q n _ _ => k b u (hb b n) q, fun b u q n _ _ => ⟨u.slots, k b u (hb b n) q⟩, fun b u q n _ => by rw [bh (hx b n)]; exact n, fun b u q _ => ?_,
  fun b xs q => by rw [bh (hm b _ q fun z => z)]; exact q, fun b u xs q => by rw [bh (hm b _ q fun z => z)]; exact q, fun b ps q => ⟨#[], by rw [bh (hm b _ q fun z => z), q]; simp⟩⟩
 by_cases hbe : b = e
 ·subst hbe; exact heo
 ·exact ⟨u, k b u hbe q⟩
end
noncomputable def trk (h : Heap) (H : Hp) : List Addr := (List.range h.objs.size).filter fun a => (H a).isSome
noncomputable def ud (h : Heap) (H : Hp) : Heap := PySem.W.hideAll h (trk h H)
theorem qP (h : Heap) (H : Hp) : (ud h H).objs.size = h.objs.size := PySem.W.hideAll_size _ _
theorem uc {h : Heap} {H : Hp} {b : Addr} {o : Obj} (e : h.get? b = some o) (n : H b = none) : (ud h H).get? b = some o :=
 PySem.W.hideAll_get _ e fun hm => by
  have q : (H b).isSome = true := (List.mem_filter.mp hm).2
  rw [n] at q; simp at q
theorem xg {h : Heap} {H : Hp} {b : Addr} {o : Obj} (e : (ud h H).get? b = some o) : h.get? b = some o ∧ H b = none := by
 have e' : h.get? b = some o := PySem.W.of_hideAll (trk h H) e
 refine ⟨e', ?_⟩
 cases q : H b with
 | none => rfl
 | some x =>
  have hm : b ∈ trk h H := List.mem_filter.mpr ⟨List.mem_range.mpr (Heap.lt_size e'), by simp [q]⟩
  have z : (ud h H).get? b = none := PySem.W.hideAll_none (trk h H) hm
  rw [z] at e; cases e
structure Mod (K : PySem.W.Frag) (mg : Str → Option Value) (base : Heap) : Prop where
 kin : K.In base
 glob : base.Ns mainGlobals mg
 blt : ∃ mb, base.Ns builtinsNs mb ∧ ∀ x : Str, x ≠ "__name__" → mb x = bootBuiltins x
 nolimit : base.NoLimit
structure Cx where
 prog : Program
 w : World
 K : PySem.W.Frag
 mg : Str → Option Value
 base : Heap
 A : Around
 N : List Str
 s₀ : Shared
 H₀ : Hp
 env : Env
 outer : List Env
 stack : List Env
 ex : List Addr
 fn : Str → Bool
 calm : Bool
 pn : List (Addr × Obj)
 xe : Value → Shared → Prop
noncomputable def frs (l : List Env) : List Addr := l.filterMap (·.frame)
noncomputable abbrev Cx.fs (X : Cx) : List Addr := frs X.outer
noncomputable def Vis (sc : Scope) (x : Str) : Prop := sc.names.lookup x = some .local ∨ sc.names.lookup x = some .cell ∨ sc.names.lookup x = some .free
noncomputable def Loc (sc : Scope) (x : Str) : Prop := sc.names.lookup x = some .local ∨ sc.names.lookup x = some .cell
noncomputable def DM (env : Env) (h : Heap) (m : Str → Option Value) (x : Str) (u : Value) : Prop :=
 (env.kindOf x = some .local ∧ m x = some u) ∨ ((env.kindOf x = some .cell ∨ env.kindOf x = some .free) ∧ ∃ c, env.cells.lookup x = some c ∧ h.IsCell c (some u))
structure Cx.Ok (X : Cx) : Prop where
 mod : Mod X.K X.mg X.base
 kind : X.env.scope.kind = .function
 glob : X.env.globals = mainGlobals
 blt : X.env.builtins = builtinsNs
 above : X.s₀.heap.objs.size ≤ X.env.locals
 inj : ∀ x y c, X.env.cells.lookup x = some c → X.env.cells.lookup y = some c → x = y
 has : ∀ x, (X.env.kindOf x = some .cell ∨ X.env.kindOf x = some .free) → ∃ c, X.env.cells.lookup x = some c
 cab : ∀ x c, X.fn x = true → X.env.cells.lookup x = some c → X.s₀.heap.objs.size ≤ c
 hd : X.calm = true → X.A.handled = none
 frames : X.A.frames = some X.stack
 stk : X.stack = X.outer ∨ (X.stack = X.env :: X.outer ∧ X.env.frame = some X.env.locals)
 exf : ∀ b ∈ X.ex, b ≠ X.env.locals ∧ ∀ x c, X.env.cells.lookup x = some c → c ≠ b
 bs : ∀ b o, X.base.get? b = some o → X.s₀.heap.get? b = some o ∧ X.H₀ b = none
 bsz : X.base.objs.size ≤ X.s₀.heap.objs.size
 noex : ∀ b o, X.base.get? b = some o → b ∉ X.ex
 exfs : ∀ b ∈ X.ex, b ∉ X.fs
 funs : X.s₀.heap.FunFrames X.base X.outer
 frf : ∀ b ∈ X.fs, X.H₀ b = none
structure Inv (X : Cx) (pins : List (Addr × Obj)) (σ : List (Option V)) (H : Hp) (s : Shared) : Prop where
 ok : X.Ok
 os : s.os = X.s₀.os
 bare : AllBare s.gens
 base : Un X.fs X.ex X.H₀ H X.s₀.heap s.heap
 loc : ∃ m, s.heap.Ns X.env.locals m ∧ ∀ (i : Nat) (x : Str) (v : V), X.N[i]? = some x → σ[i]? = some (some v) → Vis X.env.scope x → ∃ u, cL v u ∧ DM X.env s.heap m x u
 cell : ∀ x c, X.env.cells.lookup x = some c → ∃ v, s.heap.IsCell c v
 free : H X.env.locals = none
 freeC : ∀ x c, X.env.cells.lookup x = some c → H c = none
 pin : ∀ p ∈ X.pn ++ pins, s.heap.get? p.1 = some p.2 ∧ H p.1 = none ∧ p.1 ≠ X.env.locals ∧ p.1 ∉ X.fs ∧ ∀ v, p.2.data ≠ .cell v
 hok : HOk X.prog X.w H s.heap
 len : σ.length = X.N.length
section
variable {X : Cx} {pins : List (Addr × Obj)} {σ : List (Option V)} {H H' : Hp} {s : Shared} {h' : Heap}
theorem Cx.Ok.nofr (ok : X.Ok) {b : Addr} {o : Obj} (e : X.base.get? b = some o) : b ∉ X.fs := fun hb => by
 have := (ok.funs.mem hb).1
 rw [e] at this; cases this
theorem Inv.bs (I : Inv X pins σ H s) : ∀ b o, X.base.get? b = some o → s.heap.get? b = some o ∧ H b = none := fun b o e =>
 ⟨I.base.keep b o (I.ok.bs b o e).1 (I.ok.bs b o e).2 (I.ok.nofr e) (I.ok.noex b o e), I.base.free b o (I.ok.bs b o e).1 (I.ok.bs b o e).2 (I.ok.noex b o e)⟩
theorem Inv.bk (I : Inv X pins σ H s) : ∀ b o, X.base.get? b = some o → s.heap.get? b = some o := fun b o e => (I.bs b o e).1
theorem Inv.mod (I : Inv X pins σ H s) : Mod X.K X.mg X.base := I.ok.mod
theorem Inv.kIn (I : Inv X pins σ H s) : X.K.In s.heap := I.ok.mod.kin.keeps I.bk
theorem Inv.lt (I : Inv X pins σ H s) : X.env.locals < s.heap.objs.size := let ⟨_, hn, _⟩ := I.loc; hn.lt
theorem Inv.sz (I : Inv X pins σ H s) : X.s₀.heap.objs.size ≤ s.heap.objs.size := Nat.le_trans I.ok.above (Nat.le_of_lt I.lt)
theorem Inv.nofs (I : Inv X pins σ H s) {a : Addr} (h : s.heap.objs.size ≤ a) : a ∉ X.fs := fun hb => by
 obtain ⟨_, o, ho, _⟩ := I.ok.funs.mem hb
 exact absurd (Nat.lt_of_lt_of_le (Heap.lt_size ho) (Nat.le_trans I.sz h)) (Nat.lt_irrefl _)
theorem Inv.cne (I : Inv X pins σ H s) : ∀ x c, X.env.cells.lookup x = some c → c ≠ X.env.locals := fun x c e z => by
 obtain ⟨v, o, ho, hd⟩ := I.cell x c e
 obtain ⟨m, ⟨o', es, ep, ho', hd', _⟩, _⟩ := I.loc
 rw [z, ho'] at ho; cases ho; rw [hd'] at hd; cases hd
theorem Inv.funs (I : Inv X pins σ H s) : s.heap.FunFrames X.base X.outer := by
 have all : ∀ (l : List Env), (∀ b ∈ frs l, b ∈ X.fs) → X.s₀.heap.FunFrames X.base l → s.heap.FunFrames X.base l := by
  intro l
  induction l with
  | nil => intro _ _; trivial
  | cons env r ih =>
   intro hs hl
   obtain ⟨hk, ⟨L, o, hf, hn, ho, hd⟩, hr⟩ := hl
   have hL : L ∈ X.fs := hs L (by unfold frs; rw [List.filterMap_cons, hf]; exact List.mem_cons_self)
   obtain ⟨sl, e⟩ := I.base.slot L o ho (I.ok.frf L hL) hL fun z => I.ok.exfs L z hL
   exact ⟨hk, ⟨L, _, hf, hn, e, hd⟩, ih (fun b hb => hs b (by unfold frs; rw [List.filterMap_cons, hf]; exact List.mem_cons_of_mem _ hb)) hr⟩
 exact all X.outer (fun _ hb => hb) I.ok.funs
theorem Inv.stack (I : Inv X pins σ H s) : s.heap.FunFrames X.base X.stack := by
 rcases I.ok.stk with e | ⟨e, hf⟩
 ·rw [e]; exact I.funs
 ·rw [e]
  obtain ⟨m, hn, _⟩ := I.loc
  refine .cons (by rw [I.ok.kind]; decide) hf hn ?_ I.funs
  exact Heap.get?_none_of_le (Nat.le_trans I.ok.bsz I.ok.above)
theorem Inv.stkSub (I : Inv X pins σ H s) : ∀ b ∈ frs X.stack, b ∈ X.env.locals :: X.fs := fun b hb => by
 rcases I.ok.stk with e | ⟨e, hf⟩
 ·rw [e] at hb; exact List.mem_cons_of_mem _ hb
 ·rw [e] at hb
  unfold frs at hb
  rw [List.filterMap_cons, hf] at hb
  exact hb
theorem Inv.stkFree (I : Inv X pins σ H s) : ∀ b ∈ frs X.stack, H b = none := fun b hb => by
 rcases List.mem_cons.mp (I.stkSub b hb) with e | hb
 ·rw [e]; exact I.free
 ·obtain ⟨_, o, ho, _⟩ := I.ok.funs.mem hb
  exact I.base.free b o ho (I.ok.frf b hb) fun z => I.ok.exfs b z hb
theorem Inv.step {g' : Array GenState} {t' : Nat} {d' : Drawn} {ch : List Addr} (I : Inv X pins σ H s)
  (hch : ∀ b ∈ ch, (b ∈ X.ex ∨ X.s₀.heap.objs.size ≤ b) ∧ b ≠ X.env.locals ∧ (∀ x c, X.env.cells.lookup x = some c → c ≠ b) ∧ ∀ p ∈ X.pn ++ pins, p.1 ≠ b)
  (keep : ∀ b o, b ≠ X.env.locals → b ∉ X.fs → b ∉ ch → s.heap.get? b = some o → H b = none → h'.get? b = some o)
  (slot : ∀ b o, b ≠ X.env.locals → b ∈ X.fs → b ∉ ch → s.heap.get? b = some o → H b = none → ∃ sl, h'.get? b = some { o with slots := sl }) (free : ∀ b o, b ∉ ch → s.heap.get? b = some o → H b = none → H' b = none)
  (there : ∀ b o, b ∉ ch → s.heap.get? b = some o → ∃ o', h'.get? b = some o')
  (tups : ∀ b xs, H b = some (.tup xs) → H' b = some (.tup xs)) (frzs : ∀ b o u, H b = some (.frz o u) → H' b = some (.frz o u)) (tbls : ∀ b ps, H b = some (.tbl ps) → ∃ more, H' b = some (.tbl (ps ++ more)))
  (ns : ∀ m, s.heap.Ns X.env.locals m → h'.Ns X.env.locals m) (hok : HOk X.prog X.w H' h') (hg : AllBare g') :
  Inv X pins σ H' { s with heap := h', gens := g', drawn := d', toks := t' } := by
 have neL : ∀ b o, X.s₀.heap.get? b = some o → b ≠ X.env.locals := fun b o e => Nat.ne_of_lt (Nat.lt_of_lt_of_le (Heap.lt_size e) I.ok.above)
 have neC : ∀ b o, X.s₀.heap.get? b = some o → b ∉ X.ex → b ∉ ch := fun b o e hx hb => by
  rcases (hch b hb).1 with z | z
  ·exact hx z
  ·exact absurd (Nat.lt_of_lt_of_le (Heap.lt_size e) z) (Nat.lt_irrefl _)
 have cellK : ∀ x c, X.env.cells.lookup x = some c → ∀ v, s.heap.IsCell c v → h'.IsCell c v := fun x c e v ⟨o, ho, hd⟩ => by
  have nch : c ∉ ch := fun z => (hch c z).2.2.1 x c e rfl
  by_cases hc : c ∈ X.fs
  ·obtain ⟨sl, q⟩ := slot c o (I.cne x c e) hc nch ho (I.freeC x c e)
   exact ⟨_, q, hd⟩
  ·exact ⟨o, keep c o (I.cne x c e) hc nch ho (I.freeC x c e), hd⟩
 refine ⟨I.ok, I.os, hg, ⟨fun b o e n hb hx => ?_, fun b o e n hb hx => ?_, fun b o e n hx => ?_, fun b o e hx => ?_, fun b xs e => tups b xs (I.base.tups b xs e), fun b o xs e => frzs b o xs (I.base.frzs b o xs e), fun b ps e => ?_⟩, ?_, fun x c e => ?_, ?_, fun x c e => ?_, fun p hp => ?_, hok, I.len⟩
 ·exact keep b o (neL b o e) hb (neC b o e hx) (I.base.keep b o e n hb hx) (I.base.free b o e n hx)
 ·obtain ⟨sl, e1⟩ := I.base.slot b o e n hb hx
  obtain ⟨sl', e2⟩ := slot b _ (neL b o e) hb (neC b o e hx) e1 (I.base.free b o e n hx)
  exact ⟨sl', e2⟩
 ·obtain ⟨o', e1⟩ := I.base.there b o e hx
  exact free b o' (neC b o e hx) e1 (I.base.free b o e n hx)
 ·obtain ⟨o', e1⟩ := I.base.there b o e hx
  exact there b o' (neC b o e hx) e1
 ·obtain ⟨m1, e1⟩ := I.base.tbls b ps e
  obtain ⟨m2, e2⟩ := tbls b _ e1
  exact ⟨m1 ++ m2, by rw [e2, Array.append_assoc]⟩
 ·obtain ⟨m, hn, hl⟩ := I.loc
  refine ⟨m, ns m hn, fun i x v e1 e2 e3 => ?_⟩
  obtain ⟨u, r, l⟩ := hl i x v e1 e2 e3
  refine ⟨u, r, ?_⟩
  rcases l with l | ⟨k, c, e, z⟩
  ·exact .inl l
  ·exact .inr ⟨k, c, e, cellK x c e _ z⟩
 ·obtain ⟨v, z⟩ := I.cell x c e
  exact ⟨v, cellK x c e v z⟩
 ·obtain ⟨m, ⟨o, _, _, ho, _⟩, _⟩ := I.loc
  exact free _ o (fun z => (hch _ z).2.1 rfl) ho I.free
 ·obtain ⟨v, o, ho, hd⟩ := I.cell x c e
  exact free c o (fun z => (hch c z).2.2.1 x c e rfl) ho (I.freeC x c e)
 ·obtain ⟨e, n, ne, nf, d⟩ := I.pin p hp
  have nch : p.1 ∉ ch := fun z => (hch p.1 z).2.2.2 p hp rfl
  exact ⟨keep p.1 p.2 ne nf nch e n, free p.1 p.2 nch e n, ne, nf, d⟩
theorem Inv.un {t' : Nat} (I : Inv X pins σ H s) (u : Un X.fs [] H H' s.heap h') (hok : HOk X.prog X.w H' h') : Inv X pins σ H' { s with heap := h', toks := t' } := by
 obtain ⟨m, ⟨o, es, ep, ho, r⟩, _⟩ := id I.loc
 obtain ⟨sl, hL⟩ := u.any ho I.free (by simp)
 exact I.step (g' := s.gens) (d' := s.drawn) (ch := []) (fun _ z => nomatch z) (fun b o _ hb _ e n => u.keep b o e n hb (by simp)) (fun b o _ hb _ e n => u.slot b o e n hb (by simp)) (fun b o _ e n => u.free b o e n (by simp)) (fun b o _ e => u.there b o e (by simp)) u.tups u.frzs u.tbls (fun m' hm => by
  obtain ⟨o', es', ep', ho', r'⟩ := hm
  rw [ho] at ho'; cases ho'
  exact ⟨_, es', ep', hL, r'⟩) hok I.bare
theorem Inv.call {g' : Array GenState} {t' : Nat} {d' : Drawn} {ch : List Addr} (I : Inv X pins σ H s) (u : Un (frs X.stack) ch H H' s.heap h') (hok : HOk X.prog X.w H' h') (hg : AllBare g')
  (hch : ∀ b ∈ ch, (b ∈ X.ex ∨ X.s₀.heap.objs.size ≤ b) ∧ b ≠ X.env.locals ∧ (∀ x c, X.env.cells.lookup x = some c → c ≠ b) ∧ ∀ p ∈ X.pn ++ pins, p.1 ≠ b) :
  Inv X pins σ H' { s with heap := h', gens := g', drawn := d', toks := t' } := by
 obtain ⟨m, ⟨o, es, ep, ho, r⟩, _⟩ := id I.loc
 obtain ⟨sl, hL⟩ := u.any ho I.free fun z => (hch _ z).2.1 rfl
 exact I.step (ch := ch) hch (fun b o hL hb hc e n => u.keep b o e n (fun z => (List.mem_cons.mp (I.stkSub b z)).elim hL hb) hc) (fun b o _ _ hc e n => u.any e n hc) (fun b o hc e n => u.free b o e n hc) (fun b o hc e => u.there b o e hc) u.tups u.frzs u.tbls (fun m' hm => by
  obtain ⟨o', es', ep', ho', r'⟩ := hm
  rw [ho] at ho'; cases ho'
  exact ⟨_, es', ep', hL, r'⟩) hok hg
theorem Inv.turned {t' : Nat} {it : Addr} (I : Inv X pins σ H s) (k : ∀ b o, b ≠ it → s.heap.get? b = some o → h'.get? b = some o) (hn : H it = none) (hL : it ≠ X.env.locals)
  (h1 : it ∈ X.ex ∨ X.s₀.heap.objs.size ≤ it) (h2 : ∀ x c, X.env.cells.lookup x = some c → c ≠ it) (h3 : ∀ p ∈ X.pn ++ pins, p.1 ≠ it) : Inv X pins σ H { s with heap := h', toks := t' } := by
 have nit : ∀ b u, H b = some u → b ≠ it := fun b u e z => by rw [z, hn] at e; cases e
 refine I.step (g' := s.gens) (d' := s.drawn) (ch := [it]) (fun b hb => ?_) (fun b o _ _ hc e _ => k b o (fun z => hc (by simp [z])) e) (fun b o _ _ hc e _ => ⟨o.slots, k b o (fun z => hc (by simp [z])) e⟩) (fun _ _ _ _ n => n)
  (fun b o hc e => ⟨o, k b o (fun z => hc (by simp [z])) e⟩) (fun _ _ e => e) (fun _ _ _ e => e) (fun b ps e => ⟨#[], by rw [e]; simp⟩) (fun m hm => ?_) (fun b u e => ?_) I.bare
 ·have e : b = it := by simpa using hb
  subst e
  exact ⟨h1, hL, h2, h3⟩
 ·obtain ⟨o, es, ep, ho, r⟩ := hm
  exact ⟨o, es, ep, k _ o (Ne.symm hL) ho, r⟩
 ·refine (I.hok b u e).stay (fun c v hc q => k c v ?_ q) (fun _ q => q) fun _ _ q => q
  rcases hc with z | z
  ·rw [z]; exact nit b u e
  ·exact nit c _ z
theorem Inv.tok (I : Inv X pins σ H s) (t : Nat) : Inv X pins σ H { s with toks := t } := I.un (h' := s.heap) (t' := t) Un.refl I.hok
theorem Inv.kept {t' : Nat} (I : Inv X pins σ H s) (k : ∀ b u, s.heap.get? b = some u → h'.get? b = some u) : Inv X pins σ H { s with heap := h', toks := t' } := I.un (Un.kept k) (I.hok.kept k)
theorem Inv.laid {a : Addr} {o : HO} {t' : Nat} (I : Inv X pins σ H s) (k : ∀ b u, s.heap.get? b = some u → h'.get? b = some u) (hp : s.heap.objs.size ≤ a) (new : dG X.prog X.w (upd H a o) h' a o) :
  Inv X pins σ (upd H a o) { s with heap := h', toks := t' } := I.un (Un.laid k hp (I.hok.fresh hp)) (I.hok.laid k hp new)
theorem Inv.write {x e : Addr} {o : HO} {t' : Nat} (I : Inv X pins σ H s) (mu : Mut (H x)) (he : e = x ∨ H e = some (.own x)) (k : ∀ b u, b ≠ e → s.heap.get? b = some u → h'.get? b = some u) (heo : ∃ u, h'.get? e = some u)
  (new : dG X.prog X.w (upd H x o) h' x o) : Inv X pins σ (upd H x o) { s with heap := h', toks := t' } := I.un (Un.write mu he k heo) (I.hok.write mu he k heo new)
theorem Inv.pins_of {pins' : List (Addr × Obj)} (I : Inv X pins σ H s) (h : ∀ p ∈ pins', s.heap.get? p.1 = some p.2 ∧ H p.1 = none ∧ p.1 ≠ X.env.locals ∧ p.1 ∉ X.fs ∧ ∀ v, p.2.data ≠ .cell v) : Inv X pins' σ H s :=
 ⟨I.ok, I.os, I.bare, I.base, I.loc, I.cell, I.free, I.freeC, fun p hp => (List.mem_append.mp hp).elim (fun z => I.pin p (List.mem_append_left _ z)) (h p), I.hok, I.len⟩
theorem nC {N : List Str} (hN : N.Nodup) {i j : Nat} {x : Str} (a : N[i]? = some x) (b : N[j]? = some x) : i = j := by
 obtain ⟨h1, e1⟩ := List.getElem?_eq_some_iff.mp a
 obtain ⟨h2, e2⟩ := List.getElem?_eq_some_iff.mp b
 exact (List.getElem_inj hN).mp (e1.trans e2.symm)
theorem ko {M : Model} {A : Around} {E : Value → Shared → Prop} {i : Nat} {x : Str} {v : V} {u : Value} {Q : Unit → Shared → Prop} (I : Inv X pins σ H s) (hN : X.N.Nodup) (hi : X.N[i]? = some x) (hx : Loc X.env.scope x) (r : cL v u)
  (h : ∀ s', Inv X pins (σ.set i (some v)) H s' → (∃ a, Heap.SameBut a s.heap s'.heap ∧ (a = X.env.locals ∨ X.env.cells.lookup x = some a)) → Q () s') (hf : X.fn x = true ∨ X.env.scope.names.lookup x = some .local := by first | exact .inl rfl | exact .inr rfl | assumption) : wpAny M A (storeName X.env x u) Q E s := by
 obtain ⟨m, hn, hl⟩ := id I.loc
 have hcls : (X.env.scope.kind == .class || (X.env.scope.kind == .module && X.env.locals != X.env.globals)) = false := by rw [I.ok.kind]; rfl
 have hiσ : i < σ.length := by rw [I.len]; exact (List.getElem?_eq_some_iff.mp hi).1
 have cne := I.cne
 have tracked : ∀ {a : Addr} {h' : Heap}, (∃ o, s.heap.get? a = some o ∧ H a = none) → Heap.SameBut a s.heap h' → HOk X.prog X.w H h' := fun {a h'} ha hs b ob e => by
  obtain ⟨_, _, hfree⟩ := ha
  refine (I.hok b ob e).stay (fun c w' hc q => (hs.2 c ?_).trans q) (fun _ q => q) fun _ _ q => q
  rintro rfl
  rcases hc with rfl | hc
  ·rw [hfree] at e; cases e
  ·rw [hfree] at hc; cases hc
 rcases hx with hk | hk
 ·refine wpAny_storeName_local hk hn (fun h' hn' hs => ?_) hcls
  obtain ⟨oL, _, _, hoL, _⟩ := id hn
  refine h _ ⟨I.ok, I.os, I.bare, ⟨fun b o e n hb hx => ?_, fun b o e n hb hx => ?_, I.base.free, fun b o e hx => ?_, I.base.tups, I.base.frzs, I.base.tbls⟩, ⟨_, hn', fun j y v' e1 e2 e3 => ?_⟩, fun y c e => ?_, I.free, I.freeC, fun p hp => ?_, tracked ⟨oL, hoL, I.free⟩ hs, by simpa using I.len⟩ ⟨_, hs, .inl rfl⟩
  ·exact (hs.2 b (Nat.ne_of_lt (Nat.lt_of_lt_of_le (Heap.lt_size e) I.ok.above))).trans (I.base.keep b o e n hb hx)
  ·obtain ⟨sl, e1⟩ := I.base.slot b o e n hb hx
   exact ⟨sl, (hs.2 b (Nat.ne_of_lt (Nat.lt_of_lt_of_le (Heap.lt_size e) I.ok.above))).trans e1⟩
  ·obtain ⟨o', e1⟩ := I.base.there b o e hx
   exact ⟨o', (hs.2 b (Nat.ne_of_lt (Nat.lt_of_lt_of_le (Heap.lt_size e) I.ok.above))).trans e1⟩
  ·by_cases hj : j = i
   ·subst hj
    rw [hi] at e1; cases e1
    rw [List.getElem?_set_self hiσ] at e2
    cases e2
    exact ⟨u, r, .inl ⟨hk, by simp⟩⟩
   ·rw [List.getElem?_set_ne (Ne.symm hj)] at e2
    obtain ⟨u', r', q⟩ := hl j y v' e1 e2 e3
    refine ⟨u', r', ?_⟩
    rcases q with ⟨k, e⟩ | ⟨k, c, e, z⟩
    ·refine .inl ⟨k, ?_⟩
     have : y ≠ x := fun e => hj (nC hN e1 (e ▸ hi))
     simp [this, e]
    ·exact .inr ⟨k, c, e, z.sameBut hs (cne y c e)⟩
  ·obtain ⟨w', z⟩ := I.cell y c e
   exact ⟨w', z.sameBut hs (cne y c e)⟩
  ·obtain ⟨e, n, ne, nf, d⟩ := I.pin p hp
   exact ⟨(hs.2 p.1 ne).trans e, n, ne, nf, d⟩
 ·have hfn : X.fn x = true := by
   rcases hf with z | z
   ·exact z
   ·rw [z] at hk; cases hk
  obtain ⟨c, hc⟩ := I.ok.has x (.inl hk)
  obtain ⟨w', z⟩ := I.cell x c hc
  refine wpAny_storeName_cell I.ok.kind hk hc z (fun h' hc' hs => ?_)
  obtain ⟨oc, hoc, hocd⟩ := id z
  refine h { s with heap := h' } ⟨I.ok, I.os, I.bare, ⟨fun b o e n hb hx => ?_, fun b o e n hb hx => ?_, I.base.free, fun b o e hx => ?_, I.base.tups, I.base.frzs, I.base.tbls⟩, ⟨m, hn.sameBut hs (Ne.symm (cne x c hc)), fun j y v' e1 e2 e3 => ?_⟩, fun y c' e => ?_, I.free, I.freeC, fun p hp => ?_, tracked ⟨oc, hoc, I.freeC x c hc⟩ hs, by simpa using I.len⟩ ⟨c, hs, .inr hc⟩
  ·exact (hs.2 b (Nat.ne_of_lt (Nat.lt_of_lt_of_le (Heap.lt_size e) (I.ok.cab x c hfn hc)))).trans (I.base.keep b o e n hb hx)
  ·obtain ⟨sl, e1⟩ := I.base.slot b o e n hb hx
   exact ⟨sl, (hs.2 b (Nat.ne_of_lt (Nat.lt_of_lt_of_le (Heap.lt_size e) (I.ok.cab x c hfn hc)))).trans e1⟩
  ·obtain ⟨o', e1⟩ := I.base.there b o e hx
   exact ⟨o', (hs.2 b (Nat.ne_of_lt (Nat.lt_of_lt_of_le (Heap.lt_size e) (I.ok.cab x c hfn hc)))).trans e1⟩
  ·by_cases hj : j = i
   ·subst hj
    rw [hi] at e1; cases e1
    rw [List.getElem?_set_self hiσ] at e2
    cases e2
    exact ⟨u, r, .inr ⟨.inl hk, c, hc, hc'⟩⟩
   ·rw [List.getElem?_set_ne (Ne.symm hj)] at e2
    obtain ⟨u', r', q⟩ := hl j y v' e1 e2 e3
    refine ⟨u', r', ?_⟩
    rcases q with q | ⟨k, c', e, z'⟩
    ·exact .inl q
    ·refine .inr ⟨k, c', e, z'.sameBut hs ?_⟩
     rintro rfl
     exact hj (nC hN e1 (I.ok.inj _ _ _ e hc ▸ hi))
  ·by_cases hcc : c' = c
   ·subst hcc; exact ⟨_, hc'⟩
   ·obtain ⟨w2, z2⟩ := I.cell y c' e
    exact ⟨w2, z2.sameBut hs hcc⟩
  ·obtain ⟨e, n, ne, nf, d⟩ := I.pin p hp
   refine ⟨(hs.2 p.1 ?_).trans e, n, ne, nf, d⟩
   intro q
   rw [q, hoc] at e
   have q' : oc = p.2 := Option.some.inj e
   exact d w' (by rw [← q']; exact hocd)
theorem ng {M : Model} {A : Around} {E : Value → Shared → Prop} {i : Nat} {x : Str} {v : V} {u : Value} {Q : Unit → Shared → Prop} (I : Inv X pins σ H s) (hN : X.N.Nodup) (hi : X.N[i]? = some x) (hx : Loc X.env.scope x) (r : cL v u)
  (h : ∀ s', Inv X pins (σ.set i (some v)) H s' → Q () s') (hf : X.fn x = true ∨ X.env.scope.names.lookup x = some .local := by first | exact .inl rfl | exact .inr rfl | assumption) : wpAny M A (storeName X.env x u) Q E s :=
 ko I hN hi hx r (fun s' I' _ => h s' I') hf
theorem Inv.call' {s' : Shared} {ch : List Addr} (I : Inv X pins σ H s) (ho : s'.os = s.os) (u : Un (frs X.stack) ch H H' s.heap s'.heap) (hok : HOk X.prog X.w H' s'.heap) (hg : AllBare s'.gens)
  (hch : ∀ b ∈ ch, (b ∈ X.ex ∨ X.s₀.heap.objs.size ≤ b) ∧ b ≠ X.env.locals ∧ (∀ x c, X.env.cells.lookup x = some c → c ≠ b) ∧ ∀ p ∈ X.pn ++ pins, p.1 ≠ b) : Inv X pins σ H' s' := by
 obtain ⟨h', g', d', t', o'⟩ := s'
 have e : o' = s.os := ho
 subst e
 exact I.call (g' := g') (t' := t') (d' := d') u hok hg hch
end
noncomputable abbrev XK := Value → Option Addr → Hp → Prop
noncomputable abbrev St := List (Option V)
noncomputable abbrev VK := V → Hp → Prop
noncomputable abbrev TE := St → Hp → VK → Prop
noncomputable abbrev TT := St → Hp → (Bool → Hp → Prop) → Prop
noncomputable abbrev TA := St → Hp → (List V → Hp → Prop) → Prop
structure rP where
 nx : St → Hp → Prop
 rt : VK
 bk : St → Hp → Prop := fun _ _ => False
 ct : St → Hp → Prop := fun _ _ => False
noncomputable abbrev TS := rP → St → Hp → Prop
noncomputable def EP (X : Cx) (pins : List (Addr × Obj)) (σ : St) (Q : VK) (u : Value) (s' : Shared) : Prop := ∃ v H', Inv X pins σ H' s' ∧ cL v u ∧ Q v H'
noncomputable def TP (X : Cx) (pins : List (Addr × Obj)) (σ : St) (Q : Bool → Hp → Prop) (b : Bool) (s' : Shared) : Prop := ∃ H', Inv X pins σ H' s' ∧ Q b H'
noncomputable def AP (X : Cx) (pins : List (Addr × Obj)) (σ : St) (Q : List V → Hp → Prop) (us : List Value) (s' : Shared) : Prop := ∃ vs H', Inv X pins σ H' s' ∧ bR vs us ∧ Q vs H'
noncomputable def SP (X : Cx) (pins : List (Addr × Obj)) (D : rP) (f : Flow) (s' : Shared) : Prop :=
 match f with
 | .next => ∃ σ' H', Inv X pins σ' H' s' ∧ D.nx σ' H'
 | .brk => ∃ σ' H', Inv X pins σ' H' s' ∧ D.bk σ' H'
 | .cont => ∃ σ' H', Inv X pins σ' H' s' ∧ D.ct σ' H'
 | .ret u => ∃ v σ' H', Inv X pins σ' H' s' ∧ cL v u ∧ D.rt v H'
noncomputable def PE (X : Cx) (e : Expr) (t : TE) : Prop :=
 ∀ (pins : List (Addr × Obj)) (s : Shared) (σ : St) (H : Hp) (Q : VK), Inv X pins σ H s → t σ H Q → wpAny (model X.prog X.w) X.A (eval e X.env) (EP X pins σ Q) X.xe s
noncomputable def PT (X : Cx) (e : Expr) (t : TT) : Prop :=
 ∀ (pins : List (Addr × Obj)) (s : Shared) (σ : St) (H : Hp) (Q : Bool → Hp → Prop), Inv X pins σ H s → t σ H Q → wpAny (model X.prog X.w) X.A (isTrue e X.env (eval e X.env)) (TP X pins σ Q) X.xe s
noncomputable def PW (X : Cx) (e : Expr) (t : TT) : Prop :=
 ∀ (whole : Sem Value) (pins : List (Addr × Obj)) (s : Shared) (σ : St) (H : Hp) (Q : Bool → Hp → Prop), Inv X pins σ H s → t σ H Q → wpAny (model X.prog X.w) X.A (isTrue e X.env whole) (TP X pins σ Q) X.xe s
theorem PW.pt {X : Cx} {e : Expr} {t : TT} (h : PW X e t) : PT X e t := h _
noncomputable def PA (X : Cx) (es : List Expr) (t : TA) : Prop :=
 ∀ (pos : Pos) (pins : List (Addr × Obj)) (s : Shared) (σ : St) (H : Hp) (Q : List V → Hp → Prop), Inv X pins σ H s → t σ H Q → wpAny (model X.prog X.w) X.A (spliced (backTo pos (starEach es X.env))) (AP X pins σ Q) X.xe s
noncomputable def PS (X : Cx) (st : Stmt) (t : TS) : Prop :=
 ∀ (pins : List (Addr × Obj)) (s : Shared) (σ : St) (H : Hp) (D : rP), Inv X pins σ H s → t D σ H → wpAny (model X.prog X.w) X.A (exec st X.env) (SP X pins D) X.xe s
noncomputable def PSs (X : Cx) (st : List Stmt) (t : TS) : Prop :=
 ∀ (pins : List (Addr × Obj)) (s : Shared) (σ : St) (H : Hp) (D : rP), Inv X pins σ H s → t D σ H → wpAny (model X.prog X.w) X.A (execs st X.env) (SP X pins D) X.xe s
theorem thn {α : Type} {t : Sem α} {Q Q' : α → Shared → Prop} {M : Model} {A : Around} {E : Value → Shared → Prop} {s : Shared} (h : wpAny M A t Q E s) (hQ : ∀ a s, Q a s → Q' a s) : wpAny M A t Q' E s := wpAny_mono h hQ fun _ _ x => x
section
variable {X : Cx}
noncomputable def Ap (i : Nat) : TE := fun σ H Q => ∃ v, σ[i]? = some (some v) ∧ Q v H
noncomputable def tC (v : V) : TE := fun _ H Q => Q v H
theorem zj {i : Nat} {x : Str} {pos : Pos} (hN : X.N[i]? = some x) (hv : Vis X.env.scope x) (hd : (x == ("__debug__" : Str)) = false := by decide) (hcd : (x == ("__classdict__" : Str)) = false := by decide) : PE X (.Name x pos) (Ap i) := by
 intro pins s σ H Q I h
 obtain ⟨v, e, h⟩ := h
 obtain ⟨m, hn, hl⟩ := I.loc
 obtain ⟨u, r, l⟩ := hl i x v hN e hv
 have fin : EP X pins σ Q u s := ⟨v, H, I, r, h⟩
 rcases l with ⟨hk, hm⟩ | ⟨hk, c, hc, hcell⟩
 ·exact wpAny_Name (wpAny_loadName_local I.ok.kind hk hn hm fin) hd
 ·rcases hk with hk | hk
  ·exact wpAny_Name (wpAny_loadName_cell I.ok.kind hk hc hcell fin) hd
  ·exact wpAny_Name (wpAny_loadName_free I.ok.kind hk hc hcell fin hcd) hd
theorem zr {i j pos} : PE X (.Constant (.int i) j pos) (tC (.int i)) := fun _ _ _ H _ I h => wpAny_Constant_int ⟨.int i, H, I.tok _, ⟨_, rfl⟩, h⟩
theorem BW {b j pos} : PE X (.Constant (.bool b) j pos) (tC (.bl b)) := fun _ _ _ H _ I h => Constant_bool ⟨.bl b, H, I, rfl, h⟩
theorem zp {j pos} : PE X (.Constant .none j pos) (tC .non) := fun _ _ _ H _ I h => Constant_none ⟨.non, H, I, rfl, h⟩
theorem zl {x j pos} : PE X (.Constant (.str x) j pos) (tC (.str x)) := fun _ _ _ H _ I h => Calls.Constant_str ⟨.str x, H, I.tok _, ⟨_, rfl⟩, h⟩
noncomputable def Gl (X : Cx) (x : Str) : Prop := X.env.kindOf x = some .globalImplicit
theorem qz {E : Value → Shared → Prop} {pins : List (Addr × Obj)} {s : Shared} {σ : St} {H : Hp} {x : Str} {u : Value} {pos : Pos} {Q : Value → Shared → Prop} (I : Inv X pins σ H s) (hg : Gl X x) (hm : X.mg x = some u) (h : Q u s)
  (hd : (x == ("__debug__" : Str)) = false := by decide) : wpAny (model X.prog X.w) X.A (eval (.Name x pos) X.env) Q E s :=
 Calls.Name_function_global I.ok.kind hg (Calls.loadGlobal_global (by rw [I.ok.glob]; exact I.mod.glob.keeps I.bk) hm h) hd
theorem qA {E : Value → Shared → Prop} {pins : List (Addr × Obj)} {s : Shared} {σ : St} {H : Hp} {x : Str} {u : Value} {pos : Pos} {Q : Value → Shared → Prop} (I : Inv X pins σ H s) (hg : Gl X x) (hm : X.mg x = none) (hv : bootBuiltins x = some u) (h : Q u s)
  (hn : x ≠ "__name__" := by decide) (hd : (x == ("__debug__" : Str)) = false := by decide) : wpAny (model X.prog X.w) X.A (eval (.Name x pos) X.env) Q E s := by
 obtain ⟨mb, h1, h2⟩ := I.mod.blt
 exact Calls.Name_function_global I.ok.kind hg (Calls.loadGlobal_builtin (by rw [I.ok.glob]; exact I.mod.glob.keeps I.bk) hm (by rw [I.ok.blt]; exact h1.keeps I.bk) ((h2 x hn).trans hv) h) hd
variable {a b : Expr} {ta tb : TE} {pos : Pos}
noncomputable def PC (X : Cx) (op : CmpOp) (a b : Expr) (t : TE) : Prop :=
 ∀ (pins : List (Addr × Obj)) (s : Shared) (σ : St) (H : Hp) (Q : VK), Inv X pins σ H s → t σ H Q →
  wpAny (model X.prog X.w) X.A (eval a X.env) (fun v s₁ => wpAny (model X.prog X.w) X.A (eval b X.env) (fun u s₂ => wpAny (model X.prog X.w) X.A (compareOp op v u) (EP X pins σ Q) X.xe s₂) X.xe s₁) X.xe s
noncomputable def tB (t : TE) : TT := fun σ H Q => t σ H fun x H1 => ∃ c, x = .bl c ∧ Q c H1
theorem y9 {op : CmpOp} {t : TE} (h : PC X op a b t) (h1 : behindInMarks op b = false := by first | exact nobehind _ (by decide) (by decide) | rfl) : PT X (.Compare a [op] [b] pos) (tB t) := by
 intro pins s σ H Q I hw
 refine wpAny_isTrue_Compare1 (thn (h pins s σ H _ I hw) fun v s1 h1 => thn h1 fun u s2 h2 => thn h2 fun c s3 hz => ?_) h1
 obtain ⟨x, H1, I1, r1, q1⟩ := hz
 obtain ⟨d, rfl, q⟩ := q1
 cases r1
 exact wpAny_truthy_bool ⟨H1, I1, q⟩
theorem y6 {e : Expr} {t : TE} (h : PE X e t) (he : ∀ whole, isTrue e X.env whole = (do let v ← whole; standAt e.pos; holding [v] (truthy v)) := by intro _; rfl) : PT X e (tB t) := by
 intro pins s σ H Q I hw
 refine isTrue_plain (thn (h pins s σ H _ I hw) fun v s1 ⟨x, H1, I1, r1, q1⟩ => ?_) (he _)
 obtain ⟨d, rfl, q⟩ := q1
 cases r1
 exact wpAny_truthy_bool ⟨H1, I1, q⟩
variable {tA tB' : TT} {rest : List Expr}
noncomputable def CP (t u : TT) : TT := fun σ H Q => t σ H fun c H1 => if c = true then u σ H1 Q else Q false H1
noncomputable def tOr (t u : TT) : TT := fun σ H Q => t σ H fun c H1 => if c = true then Q true H1 else u σ H1 Q
noncomputable def CL (t : TT) : TT := fun σ H Q => t σ H fun c H1 => Q (!c) H1
theorem wD (ha : PT X a tA) : PW X (.BoolOp .And [a] pos) tA := by
 intro wh pins s σ H Q I h
 refine isTrue_and (thn (ha pins s σ H Q I h) fun c s1 e => ?_)
 cases c with
 | true => exact isTrue_and_nil e
 | false => exact e
theorem yZ (ha : PT X a tA) : PW X (.BoolOp .Or [a] pos) tA := by
 intro wh pins s σ H Q I h
 refine isTrue_or (thn (ha pins s σ H Q I h) fun c s1 e => ?_)
 cases c with
 | false => exact isTrue_or_nil e
 | true => exact e
theorem y4 (ha : PT X a tA) (hb : PW X (.BoolOp .And (b :: rest) pos) tB') : PW X (.BoolOp .And (a :: b :: rest) pos) (CP tA tB') := by
 intro wh pins s σ H Q I h
 refine isTrue_and (thn (ha pins s σ H _ I h) fun c s1 ⟨H1, I1, q1⟩ => ?_)
 cases c with
 | true => exact hb wh pins s1 σ H1 Q I1 q1
 | false => exact ⟨H1, I1, q1⟩
theorem BP (ha : PT X a tA) (hb : PW X (.BoolOp .Or (b :: rest) pos) tB') : PW X (.BoolOp .Or (a :: b :: rest) pos) (tOr tA tB') := by
 intro wh pins s σ H Q I h
 refine isTrue_or (thn (ha pins s σ H _ I h) fun c s1 ⟨H1, I1, q1⟩ => ?_)
 cases c with
 | true => exact ⟨H1, I1, q1⟩
 | false => exact hb wh pins s1 σ H1 Q I1 q1
theorem y8 (ha : PT X a tA) : PT X (.UnaryOp .Not a pos) (CL tA) := by
 intro pins s σ H Q I h
 exact isTrue_not (ha pins s σ H (fun c H1 => Q (!c) H1) I h)
noncomputable def CK (ta tb : TE) : TE := fun σ H Q => ta σ H fun x H1 => ∃ c, x = .bl c ∧ if c = true then Q (.bl true) H1 else tb σ H1 Q
theorem zm {op} {t : TE} (h : PE X a t) : PE X (.BoolOp op [a] pos) t := fun pins s σ H Q I hw => BoolOp_one (h pins s σ H Q I hw)
theorem BR (ha : PE X a ta) (hb : PE X (.BoolOp .Or (b :: rest) pos) tb) : PE X (.BoolOp .Or (a :: b :: rest) pos) (CK ta tb) := by
 intro pins s σ H Q I h
 refine BoolOp_or (thn (ha pins s σ H _ I h) fun v s1 hz => ?_)
 obtain ⟨x, H1, I1, r1, q1⟩ := hz
 obtain ⟨c, rfl, q1⟩ := q1
 cases r1
 refine wpAny_truthy_bool ?_
 cases c with
 | false => exact hb pins s1 σ H1 Q I1 q1
 | true => exact ⟨.bl true, H1, I1, rfl, q1⟩
end
noncomputable def SqL (K : PySem.W.Frag) (H : Hp) (a : Addr) (xs : List V) : Prop :=
 Rd H a (.lst xs) ∨
  ∃ (o : Obj) (its : Array Value) (n : Nat), K.lookup a = some o ∧ o.cls = .type "list" ∧ o.dict = none ∧ o.data = .seq its n ∧ its.size ≤ sizeLine ∧ bR xs its.toList
noncomputable def SqT (K : PySem.W.Frag) (H : Hp) (a : Addr) (xs : List V) : Prop :=
 Rd H a (.tup xs) ∨
  ∃ (o : Obj) (its : Array Value) (n : Nat), K.lookup a = some o ∧ o.cls = .type "tuple" ∧ o.data = .seq its n ∧ its.size ≤ sizeLine ∧ bR xs its.toList
noncomputable def DL : Value → Option V
 | .none => some .non
 | .bool b => some (.bl b)
 | .int i _ => some (.int i)
 | .str x _ => some (.str x)
 | .bytes b _ => some (.byt b)
 | .float b _ => some (.flt b)
 | .ref a => some (.ref a)
 | .type n => some (.ty n)
 | _ => none
theorem cL.abs {x : V} {u : Value} (r : cL x u) : DL u = some x := by
 cases x with
 | non => cases r; rfl
 | bl _ => cases r; rfl
 | int _ => obtain ⟨t, rfl⟩ := r; rfl
 | str _ => obtain ⟨t, rfl⟩ := r; rfl
 | byt _ => obtain ⟨t, rfl⟩ := r; rfl
 | flt _ => obtain ⟨t, rfl⟩ := r; rfl
 | ref _ => cases r; rfl
 | ty _ => cases r; rfl
theorem cL.inj {x y : V} {u : Value} (r : cL x u) (q : cL y u) : x = y := Option.some.inj (r.abs.symm.trans q.abs)
theorem bR.inj : ∀ {xs ys : List V} {us : List Value}, bR xs us → bR ys us → xs = ys
 | _, _, _, .nil, .nil => rfl
 | _, _, _, .cons r t, .cons r' t' => by rw [r.inj r', bR.inj t t']
section
variable {X : Cx} {pins : List (Addr × Obj)} {σ : St} {H : Hp} {s : Shared} {a : Addr} {xs ys : List V}
theorem SqL.of {K : PySem.W.Frag} (h : H a = some (.lst xs)) : SqL K H a xs := .inl (.inl h)
theorem SqT.of {K : PySem.W.Frag} (h : H a = some (.tup xs)) : SqT K H a xs := .inl (.inl h)
theorem Inv.list (I : Inv X pins σ H s) (h : SqL X.K H a xs) : ∃ its : List Value, bR xs its ∧ PlainL s.heap a its.toArray ∧ xs.length ≤ sizeLine := by
 rcases h with h | ⟨o, its, n, hk, hc, hd, hs, hz, r⟩
 ·obtain ⟨z, its, n, r, e⟩ := h.ok I.hok
  exact ⟨its, r, ⟨_, n, e, rfl, rfl, rfl⟩, z⟩
 ·refine ⟨its.toList, r, ⟨o, n, I.kIn a o hk, hc, hd, by simpa using hs⟩, ?_⟩
  have e := r.length
  simp only [Array.length_toList] at e
  omega
theorem Inv.tuple (I : Inv X pins σ H s) (h : SqT X.K H a xs) : ∃ its : List Value, bR xs its ∧ IsTup s.heap a its.toArray ∧ xs.length ≤ sizeLine := by
 rcases h with h | ⟨o, its, n, hk, hc, hs, hz, r⟩
 ·obtain ⟨z, its, r, p⟩ := h.ok I.hok
  exact ⟨its, r, p, z⟩
 ·refine ⟨its.toList, r, ⟨o, I.kIn a o hk, hc, n, by simpa using hs⟩, ?_⟩
  have e := r.length
  simp only [Array.length_toList] at e
  omega
theorem Inv.list_inj (I : Inv X pins σ H s) (h : SqL X.K H a xs) (h' : SqL X.K H a ys) : xs = ys := by
 obtain ⟨its, r, ⟨o, n, e, _, _, d⟩, _⟩ := I.list h
 obtain ⟨its', r', ⟨o', n', e', _, _, d'⟩, _⟩ := I.list h'
 rw [e] at e'; cases e'
 rw [d] at d'
 injection d' with d1 _
 have : its = its' := by simpa using congrArg Array.toList d1
 subst this
 exact r.inj r'
theorem Inv.tuple_inj (I : Inv X pins σ H s) (h : SqT X.K H a xs) (h' : SqT X.K H a ys) : xs = ys := by
 obtain ⟨its, r, ⟨o, e, _, n, d⟩, _⟩ := I.tuple h
 obtain ⟨its', r', ⟨o', e', _, n', d'⟩, _⟩ := I.tuple h'
 rw [e] at e'; cases e'
 rw [d] at d'
 injection d' with d1 _
 have : its = its' := by simpa using congrArg Array.toList d1
 subst this
 exact r.inj r'
end
noncomputable abbrev Cx.wish (X : Cx) (E : Value → Shared → Prop) : Cx := { X with xe := E }
noncomputable abbrev Cx.nox (X : Cx) : Cx := X.wish fun _ _ => False
theorem Cx.Ok.wish {X : Cx} (ok : X.Ok) (E : Value → Shared → Prop) : (X.wish E).Ok :=
 ⟨ok.mod, ok.kind, ok.glob, ok.blt, ok.above, ok.inj, ok.has, ok.cab, ok.hd, ok.frames, ok.stk, ok.exf, ok.bs, ok.bsz, ok.noex, ok.exfs, ok.funs, ok.frf⟩
theorem Cx.Ok.unwish {X : Cx} {E : Value → Shared → Prop} (ok : (X.wish E).Ok) : X.Ok :=
 ⟨ok.mod, ok.kind, ok.glob, ok.blt, ok.above, ok.inj, ok.has, ok.cab, ok.hd, ok.frames, ok.stk, ok.exf, ok.bs, ok.bsz, ok.noex, ok.exfs, ok.funs, ok.frf⟩
section
variable {X : Cx} {pins : List (Addr × Obj)} {σ : St} {H : Hp} {s : Shared} {E : Value → Shared → Prop}
theorem Inv.wish (I : Inv X pins σ H s) (E : Value → Shared → Prop) : Inv (X.wish E) pins σ H s := ⟨I.ok.wish E, I.os, I.bare, I.base, I.loc, I.cell, I.free, I.freeC, I.pin, I.hok, I.len⟩
theorem Inv.unwish (I : Inv (X.wish E) pins σ H s) : Inv X pins σ H s := ⟨I.ok.unwish, I.os, I.bare, I.base, I.loc, I.cell, I.free, I.freeC, I.pin, I.hok, I.len⟩
theorem SP.unwish {D : rP} {f : Flow} {s' : Shared} (h : SP (X.wish E) pins D f s') : SP X pins D f s' := by
 cases f with
 | next => obtain ⟨σ', H', I, q⟩ := h; exact ⟨σ', H', I.unwish, q⟩
 | brk => obtain ⟨σ', H', I, q⟩ := h; exact ⟨σ', H', I.unwish, q⟩
 | cont => obtain ⟨σ', H', I, q⟩ := h; exact ⟨σ', H', I.unwish, q⟩
 | ret u => obtain ⟨v, σ', H', I, r, q⟩ := h; exact ⟨v, σ', H', I.unwish, r, q⟩
theorem PSs.nox {st : List Stmt} {t : TS} (h : PSs X.nox st t) : PSs X st t := fun pins s σ H D I hw =>
 wpAny_mono (h pins s σ H D (I.wish _) hw) (fun _ _ q => q.unwish) fun _ _ z => False.elim z
end
section
variable {X : Cx} {st : Stmt} {rest : List Stmt} {t u : TS} {e : Expr} {te : TE} {pos : Pos}
noncomputable def yO : TS := fun D σ H => D.nx σ H
noncomputable def CH (t u : TS) : TS := fun D σ H => t { D with nx := u D } σ H
theorem wH : PSs X [] yO := fun _ _ σ H _ I h => wpAny_execs_nil ⟨σ, H, I, h⟩
theorem sM (h1 : PS X st t) (h2 : PSs X rest u) : PSs X (st :: rest) (CH t u) := by
 intro pins s σ H D I h
 refine wpAny_execs_cons (thn (h1 pins s σ H { D with nx := u D } I h) fun f s1 q => ?_)
 cases f with
 | next =>
  obtain ⟨σ', H', I', q⟩ := q
  exact h2 pins s1 σ' H' D I' q
 | ret v => exact q
 | brk => exact q
 | cont => exact q
theorem wG (h1 : PS X st t) : PSs X [st] t := by
 intro pins s σ H D I h
 refine wpAny_execs_cons (thn (h1 pins s σ H D I h) fun f s1 q => ?_)
 cases f with
 | next => exact wpAny_execs_nil q
 | ret v => exact q
 | brk => exact q
 | cont => exact q
noncomputable def uQ : TS := fun D σ H => D.bk σ H
theorem sO : PS X (.Break pos) uQ := fun _ _ σ H _ I h => wpAny_Break ⟨σ, H, I, h⟩
theorem Inv.quiet {pins : List (Addr × Obj)} {σ : St} {H : Hp} {s : Shared} (I : Inv X pins σ H s) : interactive X.env = false := by simp [interactive, I.ok.kind]
noncomputable def yP (te : TE) : TS := fun D σ H => te σ H fun _ H1 => D.nx σ H1
theorem wI (he : PE X e te) (hs : swapsWith e none pos.line X.env = pure false := by rfl) : PS X (.Expr e pos) (yP te) := by
 intro pins s σ H D I h
 exact wpAny_Expr_any (thn (he pins s σ H _ I h) fun v s1 ⟨x, H1, I1, r1, q1⟩ => ⟨σ, H1, I1, q1⟩) I.quiet hs
noncomputable def CJ (te : TE) : TS := fun D σ H => te σ H D.rt
theorem zb (he : PE X e te) : PS X (.Return (some e) pos) (CJ te) := by
 intro pins s σ H D I h
 exact wpAny_Return_some (thn (he pins s σ H _ I h) fun v s1 ⟨x, H1, I1, r1, q1⟩ => ⟨x, σ, H1, I1, r1, q1⟩)
noncomputable def CN (c : TT) (t u : TS) : TS := fun D σ H => c σ H fun b H1 => if b = true then t D σ H1 else u D σ H1
theorem BQ {c : Expr} {a b : List Stmt} {tc : TT} (hc : PT X c tc) (ha : PSs X a t) (hb : PSs X b u) : PS X (.If c a b pos) (CN tc t u) := by
 intro pins s σ H D I h
 refine wpAny_If (thn (hc pins s σ H _ I h) fun d s1 ⟨H1, I1, q1⟩ => ?_)
 cases d with
 | true => exact ha pins s1 σ H1 D I1 q1
 | false => exact hb pins s1 σ H1 D I1 q1
noncomputable def uM : TS := fun _ _ _ => False
theorem sN : PS X st uM := fun _ _ _ _ _ _ h => h.elim
end
noncomputable abbrev TG := V → St → Hp → (St → Hp → Prop) → Prop
noncomputable abbrev TGs := List V → St → Hp → (St → Hp → Prop) → Prop
noncomputable def PG (X : Cx) (target : Expr) (t : TG) : Prop :=
 ∀ (pins : List (Addr × Obj)) (s : Shared) (σ : St) (H : Hp) (v : V) (u : Value) (Q : St → Hp → Prop), Inv X pins σ H s → cL v u → t v σ H Q →
  wpAny (model X.prog X.w) X.A (assign target X.env u) (fun _ s' => ∃ σ' H', Inv X pins σ' H' s' ∧ Q σ' H') X.xe s
noncomputable def PGs (X : Cx) (ts : List Expr) (t : TGs) : Prop :=
 ∀ (pins : List (Addr × Obj)) (s : Shared) (σ : St) (H : Hp) (vs : List V) (us : List Value) (Q : St → Hp → Prop), Inv X pins σ H s → bR vs us → t vs σ H Q →
  wpAny (model X.prog X.w) X.A (assignInOrder ((assignEach ts X.env).map (·.2)) us) (fun _ s' => ∃ σ' H', Inv X pins σ' H' s' ∧ Q σ' H') X.xe s
noncomputable abbrev AK := V → V → V → Hp → (Hp → Prop) → Prop
noncomputable def CB (X : Cx) (t : AK) : Prop :=
 ∀ (pins : List (Addr × Obj)) (s : Shared) (σ : St) (H : Hp) (o i v : V) (ov iv u : Value) (Q : Hp → Prop), Inv X pins σ H s → cL o ov → cL i iv → cL v u → t o i v H Q →
  wpAny (model X.prog X.w) X.A (setItem ov iv u) (fun _ s' => ∃ H', Inv X pins σ H' s' ∧ Q H') X.xe s
section
variable {X : Cx} {pos : Pos}
noncomputable def oM (i : Nat) : TG := fun v σ H Q => Q (σ.set i (some v)) H
theorem wN {i : Nat} {x : Str} (hN : X.N.Nodup) (hi : X.N[i]? = some x) (hx : Loc X.env.scope x) (hf : X.fn x = true ∨ X.env.scope.names.lookup x = some .local := by first | exact .inl rfl | exact .inr rfl | assumption) : PG X (.Name x pos) (oM i) := by
 intro pins s σ H v u Q I r h
 exact wpAny_assign_Name (ng I hN hi hx r (fun s' I' => ⟨_, H, I', h⟩) hf)
noncomputable def Dd : TGs := fun vs σ H Q => vs = [] ∧ Q σ H
noncomputable def Aa (t : TG) (u : TGs) : TGs := fun vs σ H Q => ∃ v r, vs = v :: r ∧ t v σ H fun σ' H' => u r σ' H' Q
theorem wM : PGs X [] Dd := by
 intro pins s σ H vs us Q I r h
 obtain ⟨e, h⟩ := h
 subst e
 cases r
 exact assignInOrder_nil ⟨σ, H, I, h⟩
theorem sQ {e : Expr} {es : List Expr} {t : TG} {u : TGs} (h1 : PG X e t) (h2 : PGs X es u)
  (hs : (assignEach (e :: es) X.env).map (·.2) = assign e X.env :: (assignEach es X.env).map (·.2) := by rfl) : PGs X (e :: es) (Aa t u) := by
 intro pins s σ H vs us Q I r h
 obtain ⟨v, vr, e1, h⟩ := h
 subst e1
 cases r with
 | cons r rr =>
  rw [hs]
  refine assignInOrder_cons (thn (h1 pins s σ H _ _ _ I r h) fun _ s1 hz => ?_)
  obtain ⟨σ1, H1, I1, q1⟩ := hz
  exact h2 pins s1 σ1 H1 _ _ Q I1 rr q1
noncomputable def C9 (K : PySem.W.Frag) (n : Nat) (t : TGs) : TG := fun v σ H Q => ∃ a xs, v = .ref a ∧ SqT K H a xs ∧ xs.length = n ∧ t xs σ H Q
theorem zh {es : List Expr} {k : Nat} {t : TGs} {n : Nat} (hc : X.calm = true) (h : PGs X es t)
  (hn : (assignEach es X.env).length = n := by rfl) (hst : (assignEach es X.env).findIdx? (·.1) = none := by rfl) : PG X (.Tuple es k pos) (C9 X.K n t) := by
 intro pins s σ H v u Q I r hw
 obtain ⟨a, xs, e1, hq, hl, hw⟩ := hw
 subst e1
 cases r
 obtain ⟨its, rv, ht, hz⟩ := I.tuple hq
 refine assign_Tuple_tuple (I.ok.hd hc) ht (by simp [hn, ← hl, rv.length]) hst fun h' hx => ?_
 have I1 : Inv X pins σ H { s with heap := h' } := I.kept (t' := s.toks) fun b o e => hx b o (Nat.ne_of_lt (Heap.lt_size e)) e
 exact h pins _ σ H xs _ Q I1 (by simpa using rv) hw
noncomputable def Dc (to ti : TE) (t : AK) : TG := fun v σ H Q => to σ H fun o H1 => ti σ H1 fun i H2 => t o i v H2 fun H3 => Q σ H3
theorem zi {o i : Expr} {to ti : TE} {t : AK} (ho : PE X o to) (hi : PE X i ti) (hs : CB X t)
  (ha : ∀ v, assign (.Subscript o i pos) X.env v = (do
   let ov ← holding [v] (eval o X.env)
   let iv ← holding [v, ov] (eval i X.env)
   standAt pos
   holding [v, ov, iv] (setItem ov iv v)
   release [v, ov, iv] []) := by intro _; rfl) : PG X (.Subscript o i pos) (Dc to ti t) := by
 intro pins s σ H v u Q I r h
 rw [ha]
 refine wpAny_bind (wpAny_holding (thn (ho pins s σ H _ I h) fun ov s1 hz => ?_))
 obtain ⟨x, H1, I1, r1, q1⟩ := hz
 refine wpAny_bind (wpAny_holding (thn (hi pins s1 σ H1 _ I1 q1) fun iv s2 hz => ?_))
 obtain ⟨y, H2, I2, r2, q2⟩ := hz
 refine wpAny_bind (wpAny_standAt (wpAny_bind (wpAny_holding (thn (hs pins s2 σ H2 x y v ov iv u _ I2 r1 r2 r q2) fun _ s3 ⟨H3, I3, q3⟩ => ?_))))
 exact wpAny_release ⟨σ, H3, I3, q3⟩
noncomputable def yT (te : TE) (g : TG) : TS := fun D σ H => te σ H fun x H1 => g x σ H1 D.nx
theorem ze {tg e : Expr} {te : TE} {g : TG} (he : PE X e te) (hg : PG X tg g) (hs : swapsWithSole [tg] e pos.line X.env = pure false := by rfl) (hw : swappedStores [tg] e X.env = pure none := by rfl)
  (h1 : (assignEach [tg] X.env).map (·.2) = [assign tg X.env] := by rfl) : PS X (.Assign [tg] e pos) (yT te g) := by
 intro pins s σ H D I h
 refine wpAny_Assign_stores (thn (he pins s σ H _ I h) fun v s1 hz => ?_) hs hw
 obtain ⟨x, H1, I1, r1, q1⟩ := hz
 rw [h1]
 exact thn (hg pins s1 σ H1 x v _ I1 r1 q1) fun _ s2 q => q
theorem za {i : Nat} {x : Str} {e : Expr} {te : TE} {pos' : Pos} (hN : X.N.Nodup) (hi : X.N[i]? = some x) (hx : Loc X.env.scope x) (he : PE X e te) (hs : swapsWith e (some (.Name x pos')) pos.line X.env = pure false := by rfl) (hf : X.fn x = true ∨ X.env.scope.names.lookup x = some .local := by first | exact .inl rfl | exact .inr rfl | assumption) :
  PS X (.Assign [.Name x pos'] e pos) (yT te (oM i)) := by
 intro pins s σ H D I h
 refine wpAny_Assign_Name (thn (he pins s σ H _ I h) fun v s1 hz => ?_) hs
 obtain ⟨y, H1, I1, r1, q1⟩ := hz
 exact ng I1 hN hi hx r1 (fun s2 I2 => ⟨_, H1, I2, q1⟩) hf
end
structure It where
 go : Nat → Hp → Prop
 yld : Nat → Hp → V → Hp → Prop
 stop : Nat → Hp → Prop
noncomputable def rG (X : Cx) (pins : List (Addr × Obj)) (H : Hp) (b : Addr) : Prop :=
 H b = none ∧ b ≠ X.env.locals ∧ b ∉ X.fs ∧ (b ∈ X.ex ∨ X.s₀.heap.objs.size ≤ b) ∧ (∀ x c, X.env.cells.lookup x = some c → c ≠ b) ∧ ∀ p ∈ X.pn ++ pins, p.1 ≠ b
theorem Inv.fpOk {X : Cx} {pins : List (Addr × Obj)} {σ : St} {H H' : Hp} {s : Shared} {b : Addr} (I : Inv X pins σ H s) (hb : s.heap.objs.size ≤ b) (hn : H' b = none) : rG X pins H' b := by
 refine ⟨hn, Nat.ne_of_gt (Nat.lt_of_lt_of_le I.lt hb), I.nofs hb, .inr (Nat.le_trans I.sz hb), fun x c e z => ?_, fun p hp z => ?_⟩
 ·obtain ⟨v, q⟩ := I.cell x c e
  exact absurd (Nat.lt_of_lt_of_le q.lt (by rw [z]; exact hb)) (Nat.lt_irrefl _)
 ·exact absurd (Nat.lt_of_lt_of_le (Heap.lt_size (I.pin p hp).1) (by rw [z]; exact hb)) (Nat.lt_irrefl _)
structure Am (P : Program) (w : World) (K : PySem.W.Frag) (tg : Expr) (J : It) (fp : List Addr) (it : Addr) (tn : Nat → Heap → Prop) : Prop where
 mem : it ∈ fp
 obj : ∀ i h, tn i h → ∀ b ∈ fp, ∃ o, h.get? b = some o ∧ ∀ v, o.data ≠ .cell v
 keep : ∀ i h h', tn i h → (∀ b ∈ fp, ∀ o, h.get? b = some o → h'.get? b = some o) → tn i h'
 item : ∀ (X : Cx), X.prog = P → X.w = w → X.K = K → X.calm = true → ∀ (i : Nat) (pins : List (Addr × Obj)) (s : Shared) (σ : St) (H : Hp) (E : Value → Shared → Prop), Inv X pins σ H s → (∀ b ∈ fp, rG X pins H b) → tn i s.heap → J.go i H →
  wpAny (model P w) X.A (pyNext (.ref it)) (fun r s1 => ∃ u, r = some u ∧
   wpAny (model P w) X.A (letOwnedTupleGo tg (.ref it) u) (fun _ s2 => ∃ x H', Inv X pins σ H' s2 ∧ cL x u ∧ J.yld i H x H' ∧ tn (i + 1) s2.heap ∧ ∀ b ∈ fp, H' b = none) E s1) E s
 done : ∀ (X : Cx), X.prog = P → X.w = w → X.K = K → X.calm = true → ∀ (i : Nat) (pins : List (Addr × Obj)) (s : Shared) (σ : St) (H : Hp) (E : Value → Shared → Prop), Inv X pins σ H s → (∀ b ∈ fp, rG X pins H b) → tn i s.heap → J.stop i H →
  wpAny (model P w) X.A (pyNext (.ref it)) (fun r s1 => r = none ∧ Inv X pins σ H s1) E s
 self : ∀ (A : Around) (i : Nat) (s : Shared) (Q : Value → Shared → Prop) (E : Value → Shared → Prop), tn i s.heap → Q (.ref it) s → wpAny (model P w) A (pyIter (.ref it)) Q E s
noncomputable abbrev TI := St → Hp → (It → Hp → Prop) → Prop
noncomputable def PIE (X : Cx) (pins : List (Addr × Obj)) (σ : St) (tg : Expr) (R : It → Hp → Prop) (itv : Value) (s2 : Shared) : Prop :=
 ∃ (it : Addr) (fp : List Addr) (tn : Nat → Heap → Prop) (J : It) (H' : Hp), itv = .ref it ∧ Inv X pins σ H' s2 ∧ Am X.prog X.w X.K tg J fp it tn ∧ tn 0 s2.heap ∧ (∀ b ∈ fp, rG X pins H' b) ∧ R J H'
noncomputable def PI (X : Cx) (tg iter : Expr) (wi : TI) : Prop :=
 ∀ (pins : List (Addr × Obj)) (s : Shared) (σ : St) (H : Hp) (R : It → Hp → Prop), Inv X pins σ H s → wi σ H R →
  wpAny (model X.prog X.w) X.A (eval iter X.env) (fun v s1 => wpAny (model X.prog X.w) X.A (pyIter v) (PIE X pins σ tg R) X.xe s1) X.xe s
theorem ue {M : Model} {A : Around} {E : Value → Shared → Prop} {s : Shared} {tg : Expr} {it : Addr} {u : Value} {o : Obj} {n : String} {vs : Array Value} {Q : Unit → Shared → Prop} (ho : s.heap.get? it = some o) (hc : o.cls = .type n) (hd : o.data = .fields vs)
    (hn : ["enumerate", "zip", "dict_itemiterator", "dict_reverseitemiterator", "odict_iterator", "itertools.zip_longest", "itertools.pairwise"].contains n = false) (hQ : Q () s) : wpAny M A (letOwnedTupleGo tg (.ref it) u) Q E s := by
  unfold letOwnedTupleGo
  cases tg <;> first
    | exact wpAny_pure hQ
    | (cases u <;> first
        | exact wpAny_pure hQ
        | (refine wpAny_bind (wpAny_load ho ?_)
           rw [hc, hd]
           show wpAny M A (if (["enumerate", "zip", "dict_itemiterator", "dict_reverseitemiterator", "odict_iterator", "itertools.zip_longest", "itertools.pairwise"].contains n && vs[0]? == some (rawInt _)) = true then _ else _) Q E s
           rw [if_neg (by intro h; rw [hn, Bool.false_and] at h; cases h)]
           exact wpAny_pure hQ))
noncomputable def Itl (K : PySem.W.Frag) (a : Addr) : It :=
 ⟨fun i H => ∃ xs x, SqL K H a xs ∧ xs[i]? = some x, fun i H x H' => H' = H ∧ ∀ xs, SqL K H a xs → xs[i]? = some x, fun i H => ∃ xs, SqL K H a xs ∧ xs.length ≤ i⟩
noncomputable def Itt (K : PySem.W.Frag) (a : Addr) : It :=
 ⟨fun i H => ∃ xs x, SqT K H a xs ∧ xs[i]? = some x, fun i H x H' => H' = H ∧ ∀ xs, SqT K H a xs → xs[i]? = some x, fun i H => ∃ xs, SqT K H a xs ∧ xs.length ≤ i⟩
noncomputable def Itr (lo : Int) (n : Nat) : It := ⟨fun i _ => i < n, fun i H x H' => H' = H ∧ x = .int (lo + i), fun i _ => n ≤ i⟩
theorem pO {P : Program} {w : World} {K : PySem.W.Frag} {tg : Expr} (a it : Addr) : Am P w K tg (Itl K a) [it] it (fun i h => h.IsListIter it a i) where
 mem := by simp
 obj := fun i h st b hb => by
  have e : b = it := by simpa using hb
  subst e
  obtain ⟨o, e, c, d⟩ := st
  exact ⟨o, e, fun v z => by rw [d] at z; cases z⟩
 keep := fun i h h' st k => st.at fun o e => k it (by simp) o e
 item := by
  intro X hP hw hK hc i pins s σ H E I hf st hg
  subst hP hw hK
  obtain ⟨xs, x, hq, hx⟩ := hg
  obtain ⟨its, rv, p, hz⟩ := I.list hq
  obtain ⟨u, hu, ru⟩ := rv.get hx
  obtain ⟨f0, f1, f2, f3, f4, f5⟩ := hf it (by simp)
  refine wpAny_pyNext_list_item st p.isList (x := u) (by simpa using hu) fun h' st' sb => ?_
  have I1 : Inv X pins σ H { s with heap := h' } := I.turned (t' := s.toks) (fun b o hb e => (sb.2 b hb).trans e) f0 f1 f3 f4 f5
  obtain ⟨o, e, c, d⟩ := id st'
  exact ⟨u, rfl, ue (s := { s with heap := h' }) e c d (by decide) ⟨x, H, I1, ru, ⟨rfl, fun ys hy => by rw [I.list_inj hy hq]; exact hx⟩, st', fun b hb => (hf b hb).1⟩⟩
 done := by
  intro X hP hw hK hc i pins s σ H E I hf st hg
  subst hP hw hK
  obtain ⟨xs, hq, hx⟩ := hg
  obtain ⟨its, rv, p, hz⟩ := I.list hq
  obtain ⟨f0, f1, f2, f3, f4, f5⟩ := hf it (by simp)
  have hl := rv.length
  exact wpAny_pyNext_list_end (I.ok.hd hc) st p.isList (by simp; omega) fun h' eb => ⟨rfl, I.turned (t' := s.toks) (fun b o hb e => eb b o hb e) f0 f1 f3 f4 f5⟩
 self := fun _ _ _ _ _ st h => wpAny_pyIter_listiter st h
theorem ot {P : Program} {w : World} {K : PySem.W.Frag} {tg : Expr} (a it : Addr) : Am P w K tg (Itt K a) [it] it (fun i h => h.IsTupleIter it a i) where
 mem := by simp
 obj := fun i h st b hb => by
  have e : b = it := by simpa using hb
  subst e
  obtain ⟨o, e, c, d⟩ := st
  exact ⟨o, e, fun v z => by rw [d] at z; cases z⟩
 keep := fun i h h' st k => st.at fun o e => k it (by simp) o e
 item := by
  intro X hP hw hK hc i pins s σ H E I hf st hg
  subst hP hw hK
  obtain ⟨xs, x, hq, hx⟩ := hg
  obtain ⟨its, rv, p, hz⟩ := I.tuple hq
  obtain ⟨u, hu, ru⟩ := rv.get hx
  obtain ⟨f0, f1, f2, f3, f4, f5⟩ := hf it (by simp)
  refine wpAny_pyNext_tuple_item st (show s.heap.IsTuple a its.toArray from p) (x := u) (by simpa using hu) fun h' st' sb => ?_
  have I1 : Inv X pins σ H { s with heap := h' } := I.turned (t' := s.toks) (fun b o hb e => (sb.2 b hb).trans e) f0 f1 f3 f4 f5
  obtain ⟨o, e, c, d⟩ := id st'
  exact ⟨u, rfl, ue (s := { s with heap := h' }) e c d (by decide) ⟨x, H, I1, ru, ⟨rfl, fun ys hy => by rw [I.tuple_inj hy hq]; exact hx⟩, st', fun b hb => (hf b hb).1⟩⟩
 done := by
  intro X hP hw hK hc i pins s σ H E I hf st hg
  subst hP hw hK
  obtain ⟨xs, hq, hx⟩ := hg
  obtain ⟨its, rv, p, hz⟩ := I.tuple hq
  obtain ⟨f0, f1, f2, f3, f4, f5⟩ := hf it (by simp)
  have hl := rv.length
  exact wpAny_pyNext_tuple_end (I.ok.hd hc) st (show s.heap.IsTuple a its.toArray from p) (by simp; omega) fun h' eb => ⟨rfl, I.turned (t' := s.toks) (fun b o hb e => eb b o hb e) f0 f1 f3 f4 f5⟩
 self := fun _ _ _ _ _ st h => wpAny_pyIter_tupleiter st h
theorem ox {P : Program} {w : World} {K : PySem.W.Frag} {tg : Expr} (it : Addr) (lo : Int) (n : Nat) : Am P w K tg (Itr lo n) [it] it (fun i h => IsRangeIter h it (lo + (i : Nat) * 1) ((n : Int) - (i : Nat)) 1) where
 mem := by simp
 obj := fun i h st b hb => by
  have e : b = it := by simpa using hb
  subst e
  exact ⟨_, st, fun v z => by
   have z' : Data.fields _ = Data.cell v := z
   cases z'⟩
 keep := fun i h h' st k => k it (by simp) _ st
 item := by
  intro X hP hw hK hc i pins s σ H E I hf st hg
  subst hP hw hK
  obtain ⟨f0, f1, f2, f3, f4, f5⟩ := hf it (by simp)
  have W := Walks.range (prog := X.prog) (w := X.w) (I.ok.hd hc) it lo 1 n
  refine W.item i s _ _ hg st fun v h' tk hv st' kk => ?_
  obtain ⟨t, rfl⟩ := hv
  have I1 : Inv X pins σ H { s with heap := h', toks := tk } := I.turned (fun b o hb e => kk b o (by simpa using hb) e) f0 f1 f3 f4 f5
  refine ⟨_, rfl, ue (s := { s with heap := h', toks := tk }) (n := "range_iterator") st' rfl rfl (by decide) ⟨.int (lo + i), H, I1, ⟨t, ?_⟩, ⟨rfl, rfl⟩, st', fun b hb => (hf b hb).1⟩⟩
  rw [Int.mul_one]
 done := by
  intro X hP hw hK hc i pins s σ H E I hf st hg
  subst hP hw hK
  obtain ⟨f0, f1, f2, f3, f4, f5⟩ := hf it (by simp)
  exact wpAny_pyNext_range_end (I.ok.hd hc) st (by have : n ≤ i := hg; omega) fun h' eb => ⟨rfl, I.turned (t' := s.toks) (fun b o hb e => eb b o hb e) f0 f1 f3 f4 f5⟩
 self := fun _ _ _ _ _ st h => wpAny_pyIter_rangeiter st h
section
variable {X : Cx} {tg : Expr}
noncomputable def z9 (K : PySem.W.Frag) (tl : TE) : TI := fun σ H R => tl σ H fun x H1 => ∃ a, x = .ref a ∧ (∃ xs, SqL K H1 a xs) ∧ R (Itl K a) H1
noncomputable def C8 (K : PySem.W.Frag) (tl : TE) : TI := fun σ H R => tl σ H fun x H1 => ∃ a, x = .ref a ∧ (∃ xs, SqT K H1 a xs) ∧ R (Itt K a) H1
theorem wL {l : Expr} {tl : TE} (hl : PE X l tl) : PI X tg l (z9 X.K tl) := by
 intro pins s σ H R I h
 refine thn (hl pins s σ H _ I h) fun v s1 hz => ?_
 obtain ⟨x, H1, I1, r1, q1⟩ := hz
 obtain ⟨a, e, ⟨xs, hq⟩, q⟩ := q1
 subst e
 cases r1
 obtain ⟨its, rv, p, hz⟩ := I1.list hq
 refine wpAny_pyIter_list p.isList ?_
 refine ⟨s1.heap.objs.size, [s1.heap.objs.size], _, _, H1, rfl, I1.kept (t' := s1.toks) fun b o e => Heap.get?_push_of_some _ e, pO a _, ⟨_, Heap.get?_push_size _ rfl, rfl, rfl⟩, fun b hb => ?_, q⟩
 have e : b = s1.heap.objs.size := by simpa using hb
 subst e
 exact I1.fpOk (Nat.le_refl _) (I1.hok.fresh (Nat.le_refl _))
theorem zg {l : Expr} {tl : TE} (hl : PE X l tl) : PI X tg l (C8 X.K tl) := by
 intro pins s σ H R I h
 refine thn (hl pins s σ H _ I h) fun v s1 hz => ?_
 obtain ⟨x, H1, I1, r1, q1⟩ := hz
 obtain ⟨a, e, ⟨xs, hq⟩, q⟩ := q1
 subst e
 cases r1
 obtain ⟨its, rv, p, hz⟩ := I1.tuple hq
 refine wpAny_pyIter_tuple (show s1.heap.IsTuple a its.toArray from p) ?_
 refine ⟨s1.heap.objs.size, [s1.heap.objs.size], _, _, H1, rfl, I1.kept (t' := s1.toks) fun b o e => Heap.get?_push_of_some _ e, ot a _, ⟨_, Heap.get?_push_size _ rfl, rfl, rfl⟩, fun b hb => ?_, q⟩
 have e : b = s1.heap.objs.size := by simpa using hb
 subst e
 exact I1.fpOk (Nat.le_refl _) (I1.hok.fresh (Nat.le_refl _))
theorem sE {pins : List (Addr × Obj)} {σ : St} {H : Hp} {s : Shared} {R : It → Hp → Prop} {E : Value → Shared → Prop} {lo hi : Int} {t u v : Tok} {tk : Nat} (I : Inv X pins σ H s) (h1 : -(2 ^ 62) ≤ lo) (h2 : lo < 2 ^ 62) (h3 : -(2 ^ 62) ≤ hi) (h4 : hi < 2 ^ 62)
  (q : R (Itr lo (hi - lo).toNat) H) : wpAny (model X.prog X.w) X.A (pyIter (.ref s.heap.objs.size)) (PIE X pins σ tg R) E { s with heap := s.heap.push { cls := .type "range", data := .fields #[.int lo t, .int hi u, .int 1 v] }, toks := tk } := by
 refine wpAny_pyIter_range (IsRange.new ..) (small_one h1 h2 h3 h4) ?_
 have I1 : Inv X pins σ H { s with heap := s.heap.push { cls := .type "range", data := .fields #[.int lo t, .int hi u, .int 1 v] }, toks := tk } := I.kept fun b o e => Heap.get?_push_of_some _ e
 refine ⟨(s.heap.push { cls := .type "range", data := .fields #[.int lo t, .int hi u, .int 1 v] }).objs.size, [(s.heap.push { cls := .type "range", data := .fields #[.int lo t, .int hi u, .int 1 v] }).objs.size], _, _, H, rfl,
  I1.kept (t' := tk) fun b o e => Heap.get?_push_of_some _ e, ox _ lo (hi - lo).toNat, ?_, fun b hb => ?_, q⟩
 ·have e1 : lo + ((0 : Nat) : Int) * 1 = lo := by simp
  have e2 : (((hi - lo).toNat : Nat) : Int) - ((0 : Nat) : Int) = Builtin.Range.rangeSize lo hi 1 := by rw [rangeSize_one]; split <;> omega
  show IsRangeIter _ _ (lo + ((0 : Nat) : Int) * 1) ((((hi - lo).toNat : Nat) : Int) - ((0 : Nat) : Int)) 1
  rw [e1, e2]
  exact Heap.get?_push_size _ rfl
 ·have e : b = (s.heap.push { cls := .type "range", data := .fields #[.int lo t, .int hi u, .int 1 v] }).objs.size := by simpa using hb
  subst e
  exact I1.fpOk (Nat.le_refl _) (I1.hok.fresh (Nat.le_refl _))
noncomputable def z8 (ta : TA) : TI := fun σ H R => ta σ H fun vs H1 => ∃ j : Int, vs = [.int j] ∧ -(2 ^ 62) ≤ j ∧ j < 2 ^ 62 ∧ R (Itr 0 j.toNat) H1
theorem qe {a : Expr} {ta : TA} {p pos : Pos} (hg : Gl X "range") (hm : X.mg "range" = none) (ha : PA X [a] ta) (hs : starEach [a] X.env = [(false, eval a X.env)] := by rfl) : PI X tg (.Call (.Name "range" p) [a] [] pos) (z8 ta) := by
 intro pins s σ H R I h
 refine Call_ (qA I hg hm boot_range (PyProof.Rows.callWith_type1 (thn (ha pos pins s σ H _ I h) fun us s1 ⟨vs, H1, I1, r1, q1⟩ => ?_) hs rfl))
 obtain ⟨j, e, q1, q2, q⟩ := q1
 subst e
 cases r1 with
 | cons r rr =>
  cases rr
  obtain ⟨t, rfl⟩ := r
  exact call_range_1 (sE I1 (by omega) (by omega) q1 q2 (by simpa using q))
noncomputable def Ar (wi : TI) (g : TG) (tb : TS) : TS := fun D σ H => wi σ H fun J H1 => ∃ W : Nat → Nat → St → Hp → Prop, (∃ m, W 0 m σ H1) ∧ ∀ i m σ H, W i m σ H →
 (J.stop i H ∧ D.nx σ H) ∨ (J.go i H ∧ ∃ N : St → Hp → Prop, (∀ σ' H', N σ' H' → ∃ m', m' < m ∧ W (i + 1) m' σ' H') ∧ ∀ x H', J.yld i H x H' → g x σ H' fun σ2 H2 => tb { D with nx := N, ct := N, bk := D.nx } σ2 H2)
noncomputable def nA (fp : List Addr) (h : Heap) : List (Addr × Obj) := fp.filterMap fun b => (h.get? b).map fun o => (b, o)
theorem dR {fp : List Addr} {h : Heap} {b : Addr} {o : Obj} (hb : b ∈ fp) (e : h.get? b = some o) : (b, o) ∈ nA fp h := List.mem_filterMap.mpr ⟨b, hb, by rw [e]; rfl⟩
theorem qp {fp : List Addr} {h : Heap} {p : Addr × Obj} (hp : p ∈ nA fp h) : p.1 ∈ fp ∧ h.get? p.1 = some p.2 := by
 obtain ⟨b, hb, e⟩ := List.mem_filterMap.mp hp
 cases q : h.get? b with
 | none => rw [q] at e; cases e
 | some o =>
  rw [q] at e
  have e' : (b, o) = p := Option.some.inj e
  subst e'
  exact ⟨hb, q⟩
theorem Inv.pinned {pins : List (Addr × Obj)} {σ : St} {H : Hp} {s : Shared} {fp : List Addr} (I : Inv X pins σ H s) (hf : ∀ b ∈ fp, rG X pins H b) (ho : ∀ b ∈ fp, ∃ o, s.heap.get? b = some o ∧ ∀ v, o.data ≠ .cell v) : Inv X (pins ++ nA fp s.heap) σ H s :=
 I.pins_of fun p hp => (List.mem_append.mp hp).elim (fun z => I.pin p (List.mem_append_right _ z)) fun z => by
  obtain ⟨hb, e⟩ := qp z
  obtain ⟨f0, f1, f2, _⟩ := hf p.1 hb
  obtain ⟨o, e', d⟩ := ho p.1 hb
  rw [e] at e'; cases e'
  exact ⟨e, f0, f1, f2, d⟩
theorem Inv.unpinned {pins pl : List (Addr × Obj)} {σ : St} {H : Hp} {s : Shared} (I : Inv X (pins ++ pl) σ H s) : Inv X pins σ H s := I.pins_of fun p hp => I.pin p (List.mem_append_right _ (List.mem_append_left _ hp))
theorem zc {iter : Expr} {body : List Stmt} {wi : TI} {g : TG} {tb : TS} {pos : Pos} (hp : PassesOwn (model X.prog X.w) X.A X.env X.xe) (hc : X.calm = true) (hi : PI X tg iter wi) (hg : PG X tg g) (hb : PSs X body tb)
  (hs : ∀ x, foldedSetIterable iter X.env x = pure x := by intro _; rfl) : PS X (.For tg iter body [] pos) (Ar wi g tb) := by
 intro pins s σ H D I h
 refine wpAny_For (thn (hi pins s σ H _ I h) fun v s1 h1 => thn h1 fun itv s2 h2 => ?_) hs
 obtain ⟨it, fp, tn, J, H2, e, I2, T, st2, f2, W, ⟨m0, w0⟩, turn⟩ := h2
 subst e
 have stat : ∀ {H' : Hp}, (∀ b ∈ fp, H' b = none) → ∀ b ∈ fp, rG X pins H' b := fun hn b hb => ⟨hn b hb, (f2 b hb).2⟩
 refine codeAny_forLoop_any (fun n s' => ∃ i σ' H', Inv X pins σ' H' s' ∧ tn i s'.heap ∧ (∀ b ∈ fp, H' b = none) ∧ W i n σ' H') ?_ m0 ⟨0, σ, H2, I2, st2, fun b hb => (f2 b hb).1, w0⟩
 rintro n s3 ⟨i, σ3, H3, I3, st3, fr3, w3⟩
 rcases turn i n σ3 H3 w3 with ⟨stop, qn⟩ | ⟨go, N, hN, step⟩
 ·refine wpAny_passesOwn hp (thn (T.done X rfl rfl rfl hc i pins s3 σ3 H3 X.xe I3 (stat fr3) st3 stop) fun r s4 ⟨hr, I4⟩ => ?_)
  subst hr
  exact wpAny_execs_nil ⟨σ3, H3, I4, qn⟩
 ·refine wpAny_passesOwn hp (thn (T.item X rfl rfl rfl hc i pins s3 σ3 H3 X.xe I3 (stat fr3) st3 go) fun r s4 ⟨u, hr, h4⟩ => ?_)
  subst hr
  refine wpAny_passesOwn hp (thn h4 fun _ s5 hz => ?_)
  obtain ⟨x, H5, I5, r5, y5, st5, fr5⟩ := hz
  have I5' := I5.pinned (stat fr5) (T.obj _ _ st5)
  refine wpAny_passesOwn hp (thn (hg _ s5 σ3 H5 x u _ I5' r5 (step x H5 y5)) fun _ s6 hz => ?_)
  obtain ⟨σ6, H6, I6, q6⟩ := hz
  refine wpAny_passesOwn hp (thn (hb _ s6 σ6 H6 _ I6 q6) fun f s7 q7 => ?_)
  have again : ∀ {σ7 : St} {H7 : Hp}, Inv X (pins ++ nA fp s5.heap) σ7 H7 s7 → N σ7 H7 → ∃ m, m < n ∧ ∃ i σ' H', Inv X pins σ' H' s7 ∧ tn i s7.heap ∧ (∀ b ∈ fp, H' b = none) ∧ W i m σ' H' := fun {σ7 H7} I7 n7 => by
   obtain ⟨m', hm, w7⟩ := hN σ7 H7 n7
   refine ⟨m', hm, i + 1, σ7, H7, I7.unpinned, T.keep _ _ _ st5 fun b hb o e => (I7.pin (b, o) (List.mem_append_right _ (List.mem_append_right _ (dR hb e)))).1, fun b hb => ?_, w7⟩
   obtain ⟨o, e, d⟩ := T.obj _ _ st5 b hb
   exact (I7.pin (b, o) (List.mem_append_right _ (List.mem_append_right _ (dR hb e)))).2.1
  cases f with
  | next => obtain ⟨σ7, H7, I7, n7⟩ := q7; exact again I7 n7
  | cont => obtain ⟨σ7, H7, I7, n7⟩ := q7; exact again I7 n7
  | brk => obtain ⟨σ7, H7, I7, q7⟩ := q7; exact ⟨σ7, H7, I7.unpinned, q7⟩
  | ret v => obtain ⟨x7, σ7, H7, I7, r7, q7⟩ := q7; exact ⟨x7, σ7, H7, I7.unpinned, r7, q7⟩
end
noncomputable abbrev R2 := V → V → Hp → VK → Prop
noncomputable def OpR (X : Cx) (f : Value → Value → Sem Value) (r : R2) : Prop :=
 ∀ (pins : List (Addr × Obj)) (s : Shared) (σ : St) (H : Hp) (x y : V) (v u : Value) (Q : VK), Inv X pins σ H s → cL x v → cL y u → r x y H Q →
  wpAny (model X.prog X.w) X.A (f v u) (EP X pins σ Q) X.xe s
noncomputable def eJ (X : Cx) (f : Value) (r : List V → Hp → VK → Prop) : Prop :=
 ∀ (pins : List (Addr × Obj)) (s : Shared) (σ : St) (H : Hp) (xs : List V) (us : List Value) (Q : VK), Inv X pins σ H s → bR xs us → r xs H Q →
  wpAny (model X.prog X.w) X.A (call f us) (EP X pins σ Q) X.xe s
noncomputable def tOp (r : R2) (ta tb : TE) : TE := fun σ H Q => ta σ H fun x H1 => tb σ H1 fun y H2 => r x y H2 Q
noncomputable def rI (C : Int → Int → Prop) (g : Int → Int → V) : R2 := fun x y H Q => ∃ i j, x = .int i ∧ y = .int j ∧ C i j ∧ Q (g i j) H
noncomputable def rI0 (g : Int → Int → V) : R2 := fun x y H Q => ∃ i j, x = .int i ∧ y = .int j ∧ Q (g i j) H
section
variable {X : Cx} {a b c : Expr} {ta tb tc : TE} {pos : Pos}
theorem Cw (ha : PE X a ta) (hb : PE X b tb) {pins : List (Addr × Obj)} {s : Shared} {σ : St} {H : Hp} {R : V → V → Hp → Prop} (I : Inv X pins σ H s)
  (h : ta σ H fun x H1 => tb σ H1 fun y H2 => R x y H2) {Q : Value → Shared → Prop} {f : Value → Value → Sem Value}
  (hf : ∀ v u s2 x y H2, Inv X pins σ H2 s2 → cL x v → cL y u → R x y H2 → wpAny (model X.prog X.w) X.A (f v u) Q X.xe s2) :
  wpAny (model X.prog X.w) X.A (eval a X.env) (fun v s₁ => wpAny (model X.prog X.w) X.A (eval b X.env) (fun u s₂ => wpAny (model X.prog X.w) X.A (f v u) Q X.xe s₂) X.xe s₁) X.xe s := by
 refine thn (ha pins s σ H _ I h) fun v s1 hz => ?_
 obtain ⟨x, H1, I1, r1, q1⟩ := hz
 refine thn (hb pins s1 σ H1 _ I1 q1) fun u s2 hz => ?_
 obtain ⟨y, H2, I2, r2, q2⟩ := hz
 exact hf v u s2 x y H2 I2 r1 r2 q2
theorem BS {op : Operator} {r : R2} (ho : OpR X (binaryOp op) r) (ha : PE X a ta) (hb : PE X b tb) : PE X (.BinOp a op b pos) (tOp r ta tb) := by
 intro pins s σ H Q I h
 exact wpAny_BinOp (Cw ha hb I h fun v u s2 x y H2 I2 rx ry q => ho pins s2 σ H2 x y v u Q I2 rx ry q)
theorem opI {f : Value → Value → Sem Value} {C : Int → Int → Prop} {g : Int → Int → Int}
  (rule : ∀ (i j : Int) (t u : Tok) (s : Shared) (Q : Value → Shared → Prop) (E : Value → Shared → Prop), C i j → Q (.int (g i j) s.toks) { s with toks := s.toks + 1 } → wpAny (model X.prog X.w) X.A (f (.int i t) (.int j u)) Q E s) :
  OpR X f (rI C fun i j => .int (g i j)) := by
 intro pins s σ H x y v u Q I rx ry h
 obtain ⟨i, j, rfl, rfl, hc, q⟩ := h
 obtain ⟨t, rfl⟩ := rx
 obtain ⟨t', rfl⟩ := ry
 exact rule i j t t' s _ _ hc ⟨.int (g i j), H, I.tok _, ⟨_, rfl⟩, q⟩
theorem CW {f : Value → Value → Sem Value} {g : Int → Int → Int}
  (rule : ∀ (i j : Int) (t u : Tok) (s : Shared) (Q : Value → Shared → Prop) (E : Value → Shared → Prop), Q (.int (g i j) s.toks) { s with toks := s.toks + 1 } → wpAny (model X.prog X.w) X.A (f (.int i t) (.int j u)) Q E s) :
  OpR X f (rI0 fun i j => .int (g i j)) := by
 intro pins s σ H x y v u Q I rx ry h
 obtain ⟨i, j, rfl, rfl, q⟩ := h
 obtain ⟨t, rfl⟩ := rx
 obtain ⟨t', rfl⟩ := ry
 exact rule i j t t' s _ _ ⟨.int (g i j), H, I.tok _, ⟨_, rfl⟩, q⟩
theorem B4 {f : Value → Value → Sem Value} {g : Int → Int → Bool}
  (rule : ∀ (i j : Int) (t u : Tok) (s : Shared) (Q : Value → Shared → Prop) (E : Value → Shared → Prop), Q (.bool (g i j)) s → wpAny (model X.prog X.w) X.A (f (.int i t) (.int j u)) Q E s) :
  OpR X f (rI0 fun i j => .bl (g i j)) := by
 intro pins s σ H x y v u Q I rx ry h
 obtain ⟨i, j, rfl, rfl, q⟩ := h
 obtain ⟨t, rfl⟩ := rx
 obtain ⟨t', rfl⟩ := ry
 exact rule i j t t' s _ _ ⟨.bl (g i j), H, I, rfl, q⟩
noncomputable def Dg (i j : Int) : Prop := 0 ≤ j ∧ j ≤ 1000000 ∧ i.natAbs < 2 ^ 64
noncomputable def rH (i j : Int) : Prop := (-(2 ^ 64) < i ∧ i < 2 ^ 64) ∨ (-(2 ^ 64) < j ∧ j < 2 ^ 64)
theorem rH.ok {i j : Int} (h : rH i j) : IntMulOk i j := by
 rcases h with ⟨h1, h2⟩ | ⟨h1, h2⟩
 ·exact .of_left (intBits_le_64 h1 h2)
 ·exact .of_right (intBits_le_64 h1 h2)
theorem zG : OpR X (binaryOp .Add) (rI0 fun i j => .int (i + j)) := CW fun _ _ _ _ _ _ _ q => add_int q
theorem u6 : OpR X (binaryOp .Sub) (rI0 fun i j => .int (i - j)) := CW fun _ _ _ _ _ _ _ q => sub_int q
theorem gZ : OpR X (binaryOp .Mult) (rI rH fun i j => .int (i * j)) := opI fun _ _ _ _ _ _ _ hc q => mul_int q hc.ok
theorem kG : OpR X (binaryOp .Mod) (rI (fun _ j => 0 < j) fun i j => .int (i % j)) := opI fun i j _ _ _ _ _ hc q => by
 have h1 : (0 : Int) < j := hc
 exact mod_int' (by omega) (by rw [Int.fmod_eq_emod_of_nonneg i (by omega)]; exact q)
end
noncomputable def BF : V → V → Bool
 | .non, .non => true | .non, .int _ => true | .int _, .non => true | .non, .bl _ => true | .bl _, .non => true | .non, .str _ => true | .str _, .non => true
 | .int _, .int _ => true | .bl _, .bl _ => true | .str _, .str _ => true | .byt _, .byt _ => true
 | .int _, .str _ => true | .str _, .int _ => true | .bl _, .str _ => true | .str _, .bl _ => true
 | _, _ => false
noncomputable def rEq : R2 := fun x y H Q => BF x y = true ∧ Q (.bl (decide (x = y))) H
noncomputable def rNe : R2 := fun x y H Q => BF x y = true ∧ Q (.bl (!decide (x = y))) H
theorem qY {i j : Int} : decide (V.int i = V.int j) = (i == j) := by
 rw [Bool.eq_iff_iff]
 simp
theorem vu {i j : Bool} : decide (V.bl i = V.bl j) = (i == j) := by
 rw [Bool.eq_iff_iff]
 simp
theorem qX {i j : Str} : decide (V.str i = V.str j) = (i == j) := by
 rw [Bool.eq_iff_iff]
 simp
theorem qZ {i j : Array UInt8} : decide (V.byt i = V.byt j) = (i.toList == j.toList) := by
 rw [Bool.eq_iff_iff]
 cases i
 cases j
 simp
section
variable {X : Cx} {a b c : Expr} {ta tb tc : TE} {pos : Pos}
theorem bj {pins : List (Addr × Obj)} {σ : St} {H : Hp} {s : Shared} {Q : VK} {k k' : Bool} (I : Inv X pins σ H s) (q : Q (.bl k) H) (e : k = k') : EP X pins σ Q (.bool k') s := by
 subst e
 exact ⟨.bl k, H, I, rfl, q⟩
theorem oA : OpR X (compareOp .Eq) rEq := by
 intro pins s σ H x y v u Q I rx ry h
 obtain ⟨hs, q⟩ := h
 cases x with
 | non =>
  cases rx
  cases y with
  | non => cases ry; exact PySem.EqNone.eq_none_none (bj I q (by simp))
  | bl j => cases ry; exact PySem.EqNone.eq_none_bool (bj I q (by simp))
  | int j => obtain ⟨t', rfl⟩ := ry; exact PySem.EqNone.eq_none_int (bj I q (by simp))
  | str j => obtain ⟨t', rfl⟩ := ry; exact PySem.EqNone.eq_none_str (bj I q (by simp))
  | _ => exact absurd (show false = true from hs) Bool.false_ne_true
 | bl i =>
  cases rx
  cases y with
  | non => cases ry; exact PySem.EqNone.eq_bool_none (bj I q (by simp))
  | bl j => cases ry; exact eq_bool (bj I q vu)
  | str j => obtain ⟨t', rfl⟩ := ry; exact PySem.EqMixed.eq_bool_str (bj I q (by simp))
  | _ => exact absurd (show false = true from hs) Bool.false_ne_true
 | int i =>
  obtain ⟨t, rfl⟩ := rx
  cases y with
  | non => cases ry; exact PySem.EqNone.eq_int_none (bj I q (by simp))
  | int j => obtain ⟨t', rfl⟩ := ry; exact eq_int (bj I q qY)
  | str j => obtain ⟨t', rfl⟩ := ry; exact PySem.EqMixed.eq_int_str (bj I q (by simp))
  | _ => exact absurd (show false = true from hs) Bool.false_ne_true
 | str i =>
  obtain ⟨t, rfl⟩ := rx
  cases y with
  | non => cases ry; exact PySem.EqNone.eq_str_none (bj I q (by simp))
  | bl j => cases ry; exact PySem.EqMixed.eq_str_bool (bj I q (by simp))
  | int j => obtain ⟨t', rfl⟩ := ry; exact PySem.EqMixed.eq_str_int (bj I q (by simp))
  | str j => obtain ⟨t', rfl⟩ := ry; exact eq_str (bj I q qX)
  | _ => exact absurd (show false = true from hs) Bool.false_ne_true
 | byt i =>
  obtain ⟨t, rfl⟩ := rx
  cases y with
  | byt j => obtain ⟨t', rfl⟩ := ry; exact PySem.W.eq_bytes (bj I q qZ)
  | _ => exact absurd (show false = true from hs) Bool.false_ne_true
 | _ => cases y <;> exact absurd (show false = true from hs) Bool.false_ne_true
theorem w8 : OpR X (compareOp .NotEq) rNe := by
 intro pins s σ H x y v u Q I rx ry h
 obtain ⟨hs, q⟩ := h
 cases x with
 | non =>
  cases rx
  cases y with
  | non => cases ry; exact PySem.EqNone.ne_none_none (bj I q (by simp))
  | bl j => cases ry; exact PySem.EqNone.ne_none_bool (bj I q (by simp))
  | int j => obtain ⟨t', rfl⟩ := ry; exact PySem.EqNone.ne_none_int (bj I q (by simp))
  | str j => obtain ⟨t', rfl⟩ := ry; exact PySem.EqNone.ne_none_str (bj I q (by simp))
  | _ => exact absurd (show false = true from hs) Bool.false_ne_true
 | bl i =>
  cases rx
  cases y with
  | non => cases ry; exact PySem.EqNone.ne_bool_none (bj I q (by simp))
  | bl j => cases ry; exact ne_bool (bj I q (congrArg not vu))
  | str j => obtain ⟨t', rfl⟩ := ry; exact PySem.EqMixed.ne_bool_str (bj I q (by simp))
  | _ => exact absurd (show false = true from hs) Bool.false_ne_true
 | int i =>
  obtain ⟨t, rfl⟩ := rx
  cases y with
  | non => cases ry; exact PySem.EqNone.ne_int_none (bj I q (by simp))
  | int j => obtain ⟨t', rfl⟩ := ry; exact ne_int (bj I q (congrArg not qY))
  | str j => obtain ⟨t', rfl⟩ := ry; exact PySem.EqMixed.ne_int_str (bj I q (by simp))
  | _ => exact absurd (show false = true from hs) Bool.false_ne_true
 | str i =>
  obtain ⟨t, rfl⟩ := rx
  cases y with
  | non => cases ry; exact PySem.EqNone.ne_str_none (bj I q (by simp))
  | bl j => cases ry; exact PySem.EqMixed.ne_str_bool (bj I q (by simp))
  | int j => obtain ⟨t', rfl⟩ := ry; exact PySem.EqMixed.ne_str_int (bj I q (by simp))
  | str j => obtain ⟨t', rfl⟩ := ry; exact ne_str (bj I q (congrArg not qX))
  | _ => exact absurd (show false = true from hs) Bool.false_ne_true
 | byt i =>
  obtain ⟨t, rfl⟩ := rx
  cases y with
  | byt j => obtain ⟨t', rfl⟩ := ry; exact PySem.W.ne_bytes (bj I q (congrArg not qZ))
  | _ => exact absurd (show false = true from hs) Bool.false_ne_true
 | _ => cases y <;> exact absurd (show false = true from hs) Bool.false_ne_true
theorem w9 : OpR X (compareOp .Lt) (rI0 fun i j => .bl (decide (i < j))) := B4 fun _ _ _ _ _ _ _ q => lt_int q
theorem B3 : OpR X (compareOp .LtE) (rI0 fun i j => .bl (decide (i ≤ j))) := B4 fun _ _ _ _ _ _ _ q => le_int q
theorem xa : OpR X (compareOp .Gt) (rI0 fun i j => .bl (decide (j < i))) := B4 fun _ _ _ _ _ _ _ q => gt_int q
theorem qj : OpR X (compareOp .Is) (fun x y H Q => y = .non ∧ Q (.bl (decide (x = .non))) H) := by
 intro pins s σ H x y v u Q I rx ry h
 obtain ⟨rfl, q⟩ := h
 cases ry
 refine is_none_gen (bj I q ?_)
 cases x <;> first
  | (cases rx; rfl)
  | (obtain ⟨t, rfl⟩ := rx; rfl)
theorem w6 : OpR X (compareOp .IsNot) (fun x y H Q => y = .non ∧ Q (.bl (!decide (x = .non))) H) := by
 intro pins s σ H x y v u Q I rx ry h
 obtain ⟨rfl, q⟩ := h
 cases ry
 refine isnot_none_gen (bj I q ?_)
 cases x <;> first
  | (cases rx; rfl)
  | (obtain ⟨t, rfl⟩ := rx; rfl)
theorem OpR.or {f : Value → Value → Sem Value} {r r' : R2} (h : OpR X f r) (h' : OpR X f r') : OpR X f (fun x y H Q => r x y H Q ∨ r' x y H Q) := by
 intro pins s σ H x y v u Q I rx ry q
 rcases q with q | q
 ·exact h pins s σ H x y v u Q I rx ry q
 ·exact h' pins s σ H x y v u Q I rx ry q
theorem bK (b : Expr) {op : CmpOp} (h : op ≠ .In := by decide) (h2 : op ≠ .NotIn := by decide) : behindInMarks op b = false := by
 have e1 : (op == CmpOp.In) = false := by cases op <;> first | rfl | exact absurd rfl h
 have e2 : (op == CmpOp.NotIn) = false := by cases op <;> first | rfl | exact absurd rfl h2
 cases b <;> simp [behindInMarks, e1, e2]
theorem wU {op : CmpOp} {r : R2} (ho : OpR X (compareOp op) r) (ha : PE X a ta) (hb : PE X b tb) (hm : behindInMarks op b = false) : PE X (.Compare a [op] [b] pos) (tOp r ta tb) := by
 intro pins s σ H Q I h
 exact wpAny_Compare1 (Cw ha hb I h fun v u s2 x y H2 I2 rx ry q => ho pins s2 σ H2 x y v u Q I2 rx ry q) hm
noncomputable def yN (t : TE) : TT := fun σ H Q => t σ H fun x H' => ∃ k, x = .bl k ∧ Q k H'
theorem wF {op : CmpOp} {r : R2} (ho : OpR X (compareOp op) r) (ha : PE X a ta) (hb : PE X b tb) (hm : behindInMarks op b = false) : PT X (.Compare a [op] [b] pos) (yN (tOp r ta tb)) := by
 intro pins s σ H Q I h
 refine wpAny_isTrue_Compare1 (thn (ha pins s σ H _ I h) fun v s1 ⟨x, H1, I1, r1, q1⟩ => thn (hb pins s1 σ H1 _ I1 q1) fun u s2 ⟨y, H2, I2, r2, q2⟩ =>
  thn (ho pins s2 σ H2 x y v u _ I2 r1 r2 q2) fun c s3 ⟨z, H3, I3, r3, k, e, q3⟩ => ?_) hm
 subst e
 cases r3
 exact wpAny_truthy_bool ⟨H3, I3, q3⟩
theorem nG : (sizeLine : Nat) < 2 ^ 63 := by rw [sizeLine_eq]; decide
theorem oB : OpR X (binaryOp .Add) (fun x y H Q => ∃ i j, x = .str i ∧ y = .str j ∧ i.length + j.length ≤ sizeLine ∧ Q (.str (i ++ j)) H) := by
 intro pins s σ H x y v u Q I rx ry h
 obtain ⟨i, j, rfl, rfl, hz, q⟩ := h
 obtain ⟨t, rfl⟩ := rx
 obtain ⟨t', rfl⟩ := ry
 exact add_str (fun t' tk => ⟨.str (i ++ j), H, I.tok _, ⟨_, rfl⟩, q⟩) hz
theorem lY {x : V} {us : List Value} (r : bR [x] us) : ∃ u, us = [u] ∧ cL x u := by
 cases r with
 | cons r1 r2 => cases r2; exact ⟨_, rfl, r1⟩
theorem yK {x y : V} {us : List Value} (r : bR [x, y] us) : ∃ u w', us = [u, w'] ∧ cL x u ∧ cL y w' := by
 cases r with
 | cons r1 r2 =>
  cases r2 with
  | cons r3 r4 => cases r4; exact ⟨_, _, rfl, r1, r3⟩
theorem rh (hc : X.calm = true) : eJ X (.builtin "max") (fun xs H Q => ∃ i j, xs = [.int i, .int j] ∧ Q (.int (if j > i then j else i)) H) := by
 intro pins s σ H xs us Q I r h
 obtain ⟨i, j, rfl, q⟩ := h
 obtain ⟨u, w', rfl, ⟨t, rfl⟩, ⟨t', rfl⟩⟩ := yK r
 refine max_two_ints (I.ok.hd hc) fun h' tk k => ⟨_, H, I.kept k, ?_, q⟩
 by_cases hj : j > i
 ·rw [if_pos hj, if_pos hj]; exact ⟨_, rfl⟩
 ·rw [if_neg hj, if_neg hj]; exact ⟨_, rfl⟩
theorem lD (hc : X.calm = true) : eJ X (.builtin "min") (fun xs H Q => ∃ i j, xs = [.int i, .int j] ∧ Q (.int (if j < i then j else i)) H) := by
 intro pins s σ H xs us Q I r h
 obtain ⟨i, j, rfl, q⟩ := h
 obtain ⟨u, w', rfl, ⟨t, rfl⟩, ⟨t', rfl⟩⟩ := yK r
 refine min_two_ints (I.ok.hd hc) fun h' tk k => ⟨_, H, I.kept k, ?_, q⟩
 by_cases hj : j < i
 ·rw [if_pos hj, if_pos hj]; exact ⟨_, rfl⟩
 ·rw [if_neg hj, if_neg hj]; exact ⟨_, rfl⟩
end
structure xP (h : Heap) (x dx C : Addr) (mA : Str → Option Value) : Prop where
 obj : h.get? x = some (PySem.W.instObj C dx)
 ns : h.Ns1 dx mA
 ne : dx ≠ x
theorem qx {h : Heap} {dx : Addr} {mA : Str → Option Value} (n : h.Ns1 dx mA) : ∃ od, h.get? dx = some od ∧ ∀ name, PySem.W.lookIn name od = some (mA name) := by
 obtain ⟨o, es, ep, ho, hd, hk, _, hm⟩ := n
 refine ⟨o, ho, fun name => ?_⟩
 have e := hm name
 unfold nsFind findBy at e
 rw [← Array.find?_toList] at e
 unfold PySem.W.lookIn
 rw [hd]
 dsimp only
 split
 ·rename_i y q
  rw [q] at e
  exact congrArg some e
 ·rename_i q
  rw [q] at e
  have a : es.toList.any (·.refKey) = false := by
   rw [List.any_eq_false]
   intro y hy
   obtain ⟨z, t, hkey⟩ := hk y (Array.mem_toList_iff.mp hy)
   simp [DictEntry.refKey, hkey]
  have a' : ¬ es.toList.any (·.refKey) = true := by rw [a]; exact Bool.false_ne_true
  rw [if_neg a']
  exact congrArg some e
theorem xP.look {h : Heap} {x dx C : Addr} {mA : Str → Option Value} (I : xP h x dx C mA) : ∃ od, PySem.W.InstAt h x (PySem.W.instObj C dx) C (some od) ∧ ∀ name, PySem.W.lookIn name od = some (mA name) :=
 let ⟨od, ho, hl⟩ := qx I.ns
 ⟨od, ⟨I.obj, rfl, rfl, ho⟩, hl⟩
section
variable {prog : Program} {w : World} {A : Around} {E : Value → Shared → Prop} {s : Shared} {K : PySem.W.Frag} {x dx C f : Addr} {mA : Str → Option Value} {name : Str} {v : Value}
theorem xw {expr : Bool} {Q : Value → Shared → Prop} (X : K.In s.heap) (I : xP s.heap x dx C mA) (hg : PySem.W.plainGet K C name = true) (hh : PySem.W.hasDictIn K C = true)
  (ha : PySem.W.findIn K (.ref C) name = some none) (hv : mA name = some v) (hv' : PySem.W.handedIn v = true) (h : Q v { s with toks := s.toks + 1 }) :
  wpAny (model prog w) A (getAttr (.ref x) name expr) Q E s := by
 obtain ⟨od, J, hl⟩ := I.look
 exact PySem.W.get_value X J (PySem.W.plainGet_of hg).1 (PySem.W.findObj_own hh ha rfl (by rw [hl, hv])) hv' h
theorem uf {pl : Sem Bool} {Q : Value × List Value → Shared → Prop} (X : K.In s.heap) (I : xP s.heap x dx C mA) (hg : PySem.W.plainGet K C name = true)
  (hf : PySem.W.findIn K (.ref C) name = some (some (.ref f))) (ht : PySem.W.isFn K (.ref f) = true) (hv : mA name = none) (h : Q (.ref f, [.ref x]) s) :
  wpAny (model prog w) A (getMethod (.ref x) name pl) Q E s := by
 obtain ⟨od, J, hl⟩ := I.look
 exact PySem.W.method_fn X J (PySem.W.plainGet_of hg).1 (PySem.W.plainGet_of hg).2 hf (beq_iff_eq.mp ht) (by show (PySem.W.lookIn name od).map (·.isSome) = some false; rw [hl, hv]; rfl) h
theorem wy {ns : List Str} {Q : Unit → Shared → Prop} (X : K.In s.heap) (I : xP s.heap x dx C mA)
  (hs : PySem.W.findIn K (.ref C) "__setattr__" = some (some (.builtin "object.__setattr__"))) (hp : PySem.W.plainOver K C = true) (ht : PySem.W.takerIn K C name = some none) (hh : PySem.W.hasDictIn K C = true)
  (hw : PySem.Within mA ns) (hsz : ns.length ≤ sizeLine)
  (h : ∀ h', xP h' x dx C (fun y => if y = name then some v else mA y) → Heap.SameBut dx s.heap h' → Q () { s with heap := h', toks := s.toks + 2 }) :
  wpAny (model prog w) A (setAttr (.ref x) name v) Q E s := by
 obtain ⟨od, J, hl⟩ := I.look
 refine PySem.W.set_plain X J hs (PySem.W.osa_open (s := { s with toks := s.toks + 1 }) (r := none) X J hp ht fun b => ?_)
 obtain ⟨cd, hc, hd'⟩ := PySem.W.any_some hh
 have hx : s.heap.get? x = some ⟨.ref C, some dx, .plain, #[]⟩ := I.obj
 refine wpAny_bind (wpAny_pure (wpAny_bind (wpAny_bind (wpAny_loadPart hx (wpAny_bind (PySem.W.Looks.here (s := { s with toks := s.toks + 1 }) (PySem.W.looks_clsIn X hc) ?_))))))
 rw [hd']
 refine wpAny_pure (a := some dx) (wpAny_bind (wpAny_pure (wpAny_bind ?_)))
 refine wpAny_nsSet1 (s := { s with toks := s.toks + 1 }) I.ns fun h' hn2 hs2 => ?_
 obtain ⟨oD, esD, epD, hoD, hdD, hcD⟩ := hn2.count (PySem.Within.cons name v hw)
 refine wpAny_bind (wpAny_lookBehind hoD (by rw [hdD]; exact pastItsLine_dict (Nat.le_trans hcD (by rw [List.length_cons]; omega))) ?_)
 exact wpAny_pure (h _ ⟨(hs2.2 _ (Ne.symm I.ne)).trans I.obj, hn2, I.ne⟩ hs2)
theorem tK {R : Result → Shared → Prop} {vs : List Value} {kw : List (Str × Value)} (X : K.In s.heap) (hm : PySem.W.makesIn K C = true)
  (hi : PySem.W.findIn K (.ref C) "__init__" = some (some (.ref f))) (hf : PySem.W.typeIn K (.ref f) = some (.type "function"))
  (h : codeAny (model prog w) (A.under (.builtin "type.__call__" ⟨.ref C :: vs, kw⟩)) (.call (.ref f) ⟨.ref (s.heap.objs.size + 1) :: vs, kw⟩) (PySem.W.InitBack (s.heap.objs.size + 1) R)
   { s with heap := (s.heap.push PySem.W.emptyDict).push (PySem.W.instObj C s.heap.objs.size) }) :
  codeAny (model prog w) A (.call (.ref C) ⟨vs, kw⟩) R s := by
 obtain ⟨hh, g, d, t, os⟩ := s
 exact PySem.W.make_core (PySem.W.makes_of X hm) (PySem.W.looks_findIn X hi) (fun self => PySem.W.bind_fn X self hf) (.inl rfl) h
end
noncomputable def jf (f : Str) (v : V) : List (Str × V) → List (Str × V)
 | [] => [(f, v)]
 | (g, x) :: r => if g = f then (g, v) :: r else (g, x) :: jf f v r
theorem fV (f g : Str) (v : V) : ∀ fs : List (Str × V), (jf f v fs).lookup g = if g = f then some v else fs.lookup g
 | [] => by
  show List.lookup g [(f, v)] = _
  by_cases h : g = f
  ·have hb : (g == f) = true := beq_iff_eq.mpr h
   simp only [List.lookup, hb, if_pos h]
  ·have hb : (g == f) = false := beq_eq_false_iff_ne.mpr h
   simp only [List.lookup, hb, if_neg h]
 | (k, x) :: r => by
  have ih := fV f g v r
  rw [show jf f v ((k, x) :: r) = (if k = f then (k, v) :: r else (k, x) :: jf f v r) from rfl]
  by_cases hk : k = f
  ·rw [if_pos hk]
   by_cases h : g = k
   ·have hb : (g == k) = true := beq_iff_eq.mpr h
    simp only [List.lookup, hb, if_pos (h.trans hk)]
   ·have hb : (g == k) = false := beq_eq_false_iff_ne.mpr h
    simp only [List.lookup, hb, if_neg (fun e : g = f => h (e.trans hk.symm))]
  ·rw [if_neg hk]
   by_cases h : g = k
   ·have hb : (g == k) = true := beq_iff_eq.mpr h
    simp only [List.lookup, hb, if_neg (fun e : g = f => hk (h.symm.trans e))]
   ·have hb : (g == k) = false := beq_eq_false_iff_ne.mpr h
    simp only [List.lookup, hb]
    exact ih
theorem d6 (f : Str) (v : V) : ∀ fs : List (Str × V), f ∈ (jf f v fs).map (·.1) ∧ ∀ g, g ∈ fs.map (·.1) → g ∈ (jf f v fs).map (·.1)
 | [] => ⟨by simp [jf], fun g h => by simp at h⟩
 | (k, x) :: r => by
  obtain ⟨i1, i2⟩ := d6 f v r
  rw [show jf f v ((k, x) :: r) = (if k = f then (k, v) :: r else (k, x) :: jf f v r) from rfl]
  by_cases hk : k = f
  ·rw [if_pos hk]
   subst hk
   exact ⟨by simp, fun g h => by simpa using h⟩
  ·rw [if_neg hk]
   refine ⟨?_, fun g h => ?_⟩
   ·rw [List.map_cons]
    exact List.mem_cons_of_mem _ i1
   ·rw [List.map_cons] at h ⊢
    rcases List.mem_cons.mp h with e | e
    ·exact List.mem_cons.mpr (.inl e)
    ·exact List.mem_cons_of_mem _ (i2 g e)
theorem iM (f : Str) (v : V) : ∀ fs : List (Str × V), (jf f v fs).length ≤ fs.length + 1
 | [] => by simp [jf]
 | (k, x) :: r => by
  have ih := iM f v r
  rw [show jf f v ((k, x) :: r) = (if k = f then (k, v) :: r else (k, x) :: jf f v r) from rfl]
  by_cases hk : k = f
  ·rw [if_pos hk, List.length_cons, List.length_cons]; omega
  ·rw [if_neg hk, List.length_cons, List.length_cons]; omega
theorem j5.some_of {v : V} {o : Option Value} (r : j5 (some v) o) : ∃ u, o = some u ∧ cL v u := by
 cases o with
 | none => exact (show False from r).elim
 | some u => exact ⟨u, rfl, r⟩
theorem j5.none_of {o : Option Value} (r : j5 none o) : o = none := by
 cases o with
 | none => rfl
 | some u => exact (show False from r).elim
theorem qQ {v : V} {u : Value} (r : cL v u) : PySem.W.handedIn u = true := by
 cases v with
 | non => cases (show u = Value.none from r); rfl
 | bl b => cases (show u = Value.bool b from r); rfl
 | int i => obtain ⟨t, e⟩ := (show ∃ t, u = Value.int i t from r); cases e; rfl
 | str x => obtain ⟨t, e⟩ := (show ∃ t, u = Value.str x t from r); cases e; rfl
 | byt b => obtain ⟨t, e⟩ := (show ∃ t, u = Value.bytes b t from r); cases e; rfl
 | flt b => obtain ⟨t, e⟩ := (show ∃ t, u = Value.float b t from r); cases e; rfl
 | ref a => cases (show u = Value.ref a from r); rfl
 | ty n => cases (show u = Value.type n from r); rfl
section
variable {P : Program} {w : World} {H H' : Hp} {h h' : Heap} {a C dx : Addr} {fs fs' : List (Str × V)}
theorem mx (hok : HOk P w H h) (e : H a = some (.ins C dx fs)) : ∃ mA, xP h a dx C mA ∧ (∀ f, j5 (fs.lookup f) (mA f)) ∧ PySem.Within mA (fs.map (·.1)) ∧ fs.length ≤ 1000 ∧ H dx = some (.own a) := by
 obtain ⟨d, z, ne, ob, mA, n, r, q⟩ := (show dG P w H h a (.ins C dx fs) from hok a _ e)
 exact ⟨mA, ⟨ob, n, ne⟩, r, q, z, d⟩
end
structure Cls (K : PySem.W.Frag) (C : Addr) : Prop where
 pg : PySem.W.plainGet K C Str.empty = true
 hd : PySem.W.hasDictIn K C = true
 po : PySem.W.plainOver K C = true
 sa : PySem.W.findIn K (.ref C) "__setattr__" = some (some (.builtin "object.__setattr__"))
theorem Cls.get {K : PySem.W.Frag} {C : Addr} (c : Cls K C) (f : Str) : PySem.W.plainGet K C f = true := c.pg
noncomputable def fT (K : PySem.W.Frag) (C : Addr) (f : Str) : Prop := PySem.W.findIn K (.ref C) f = some none
theorem fT.taker {K : PySem.W.Frag} {C : Addr} {f : Str} (n : fT K C f) : PySem.W.takerIn K C f = some none := by
 unfold PySem.W.takerIn
 rw [show PySem.W.findIn K (.ref C) f = some none from n]
 rfl
structure fU (K : PySem.W.Frag) (C : Addr) (m : Str) (f : Addr) : Prop where
 at_ : PySem.W.findIn K (.ref C) m = some (some (.ref f))
 fn : PySem.W.isFn K (.ref f) = true
 kp : PySem.W.keepIn K (.ref f) = true
section
variable {X : Cx} {pins : List (Addr × Obj)} {σ : St} {H : Hp} {s : Shared} {a C dx : Addr} {fs : List (Str × V)} {f : Str} {v : V} {A : Around} {E : Value → Shared → Prop}
theorem oK {b : Bool} {Q : Value → Shared → Prop} (I : Inv X pins σ H s) (e : H a = some (.ins C dx fs)) (c : Cls X.K C) (n : fT X.K C f) (l : fs.lookup f = some v)
  (h : ∀ u s', Inv X pins σ H s' → cL v u → Q u s') : wpAny (model X.prog X.w) A (getAttr (.ref a) f b) Q E s := by
 obtain ⟨mA, O, r, _, _, _⟩ := mx I.hok e
 obtain ⟨u, hu, ru⟩ := j5.some_of (v := v) (o := mA f) (by rw [← l]; exact r f)
 exact xw I.kIn O (c.get f) c.hd n hu (qQ ru) (h u _ (I.tok _) ru)
theorem jE {m : Str} {g : Addr} {pl : Sem Bool} {Q : Value × List Value → Shared → Prop} (I : Inv X pins σ H s) (e : H a = some (.ins C dx fs)) (c : Cls X.K C) (k : fU X.K C m g) (l : fs.lookup m = none)
  (h : Q (.ref g, [.ref a]) s) : wpAny (model X.prog X.w) A (getMethod (.ref a) m pl) Q E s := by
 obtain ⟨mA, O, r, _, _, _⟩ := mx I.hok e
 have hn : mA m = none := j5.none_of (by rw [← l]; exact r m)
 exact uf I.kIn O (c.get m) k.at_ k.fn hn h
theorem oy {y : V} {u : Value} {Q : Unit → Shared → Prop} (I : Inv X pins σ H s) (e : H a = some (.ins C dx fs)) (c : Cls X.K C) (n : fT X.K C f) (hl : fs.length < 1000) (ry : cL y u)
  (h : ∀ s', Inv X pins σ (upd H a (.ins C dx (jf f y fs))) s' → Q () s') : wpAny (model X.prog X.w) A (setAttr (.ref a) f u) Q E s := by
 obtain ⟨mA, O, r, wi, _, ho⟩ := mx I.hok e
 have hz : (fs.map (·.1)).length ≤ sizeLine := by rw [List.length_map, sizeLine_eq]; omega
 refine wy I.kIn O c.sa c.po n.taker c.hd wi hz fun h' O' sb => h _ ?_
 have hd : ∃ o, h'.get? dx = some o := let ⟨o, _, _, e', _⟩ := O'.ns; ⟨o, e'⟩
 refine I.write (x := a) (e := dx) (by rw [e]; exact True.intro) (.inr ho) (fun b q hb z => (sb.2 b hb).trans z) hd ?_
 refine ⟨by rw [bh O.ne]; exact ho, ?_, O.ne, O'.obj, _, O'.ns, fun g => ?_, fun g hg => ?_⟩
 ·have := iM f y fs; omega
 ·show j5 ((jf f y fs).lookup g) (if g = f then some u else mA g)
  rw [fV]
  by_cases q : g = f
  ·rw [if_pos q, if_pos q]; exact ry
  ·rw [if_neg q, if_neg q]; exact r g
 ·by_cases q : g = f
  ·rw [q]; exact (d6 f y fs).1
  ·refine (d6 f y fs).2 g (wi g fun z => hg ?_)
   show (if g = f then some u else mA g) = none
   rw [if_neg q]; exact z
theorem Inv.made (I : Inv X pins σ H s) : Inv X pins σ (upd (upd H s.heap.objs.size (.own (s.heap.objs.size + 1))) (s.heap.objs.size + 1) (.ins C s.heap.objs.size []))
  { s with heap := (s.heap.push PySem.W.emptyDict).push (PySem.W.instObj C s.heap.objs.size) } := by
 have e1 : (s.heap.push PySem.W.emptyDict).get? s.heap.objs.size = some PySem.W.emptyDict := Heap.get?_push_size s.heap rfl
 have e2 : ((s.heap.push PySem.W.emptyDict).push (PySem.W.instObj C s.heap.objs.size)).get? (s.heap.objs.size + 1) = some (PySem.W.instObj C s.heap.objs.size) := by
  have := Heap.get?_push_size (s.heap.push PySem.W.emptyDict) (o := PySem.W.instObj C s.heap.objs.size) rfl
  rwa [Heap.size_push] at this
 have e3 : (s.heap.push PySem.W.emptyDict).Ns s.heap.objs.size (fun _ => none) := ⟨PySem.W.emptyDict, #[], _, e1, rfl, (fun e he => absurd he (by simp)), fun _ => rfl⟩
 have I1 := I.laid (a := s.heap.objs.size) (o := .own (s.heap.objs.size + 1)) (h' := s.heap.push PySem.W.emptyDict) (t' := s.toks) (fun b u q => Heap.get?_push_of_some _ q) (Nat.le_refl _) ⟨_, e1⟩
 refine I1.laid (a := s.heap.objs.size + 1) (o := .ins C s.heap.objs.size []) (t' := s.toks) (fun b u q => Heap.get?_push_of_some _ q) (Nat.le_of_eq (Heap.size_push _ _)) ?_
 have ne : s.heap.objs.size ≠ s.heap.objs.size + 1 := Nat.ne_of_lt (Nat.lt_succ_self _)
 refine ⟨by rw [bh ne, aP], Nat.zero_le _, ne, e2, fun _ => none, (Heap.Ns1.of_empty e3).at fun o q => Heap.get?_push_of_some _ q, fun _ => True.intro, fun y hy => absurd rfl hy⟩
theorem xM {prog : Program} {w : World} {env : Env} {e : Expr} {f : Str} {pos : Pos} {s : Shared} {Q : Value → Shared → Prop} (hb : attributeBase e f env (eval e env) = eval e env)
  (h : wpAny (model prog w) A (eval e env) (fun o s₁ => wpAny (model prog w) A (getAttr o f true) Q E s₁) E s) : wpAny (model prog w) A (eval (.Attribute e f pos) env) Q E s :=
 Attribute_any_ h (by rw [arm_eval_Attribute, hb])
end
noncomputable def CO (K : PySem.W.Frag) (ta : TE) (f : Str) : TE := fun σ H Q => ta σ H fun x H1 => ∃ a C dx fs v, x = .ref a ∧ H1 a = some (.ins C dx fs) ∧ Cls K C ∧ fT K C f ∧ fs.lookup f = some v ∧ Q v H1
noncomputable def CQ (K : PySem.W.Frag) (ta tv : TE) (f : Str) : TS := fun D σ H => tv σ H fun y H1 => ta σ H1 fun x H2 => ∃ a C dx fs, x = .ref a ∧ H2 a = some (.ins C dx fs) ∧ Cls K C ∧ fT K C f ∧ fs.length < 1000 ∧
 D.nx σ (upd H2 a (.ins C dx (jf f y fs)))
section
variable {X : Cx} {o e value : Expr} {f : Str} {pos pos' tpos : Pos} {ta tv : TE}
theorem zt (he : PE X e ta) (hb : attributeBase e f X.env (eval e X.env) = eval e X.env) : PE X (.Attribute e f pos) (CO X.K ta f) := by
 intro pins s σ H Q I h
 refine xM hb (thn (he pins s σ H _ I h) fun u s1 hz => ?_)
 obtain ⟨x, H1, I1, rx, a, C, dx, fs, v, ex, ea, c, n, l, q⟩ := hz
 subst ex
 obtain rfl : u = Value.ref a := rx
 exact oK I1 ea c n l fun u' s2 I2 ru => ⟨v, H1, I2, ru, q⟩
theorem zd (ha : PE X o ta) (hv : PE X value tv) (hs : swapsWith value (some (.Attribute o f pos')) pos.line X.env = pure false) : PS X (.Assign [.Attribute o f pos'] value pos) (CQ X.K ta tv f) := by
 intro pins s σ H D I h
 refine plainObj_wpAny_Assign_Attribute (thn (hv pins s σ H _ I h) fun u s1 ⟨y, H1, I1, ry, q⟩ => thn (ha pins s1 σ H1 _ I1 q) fun ov s2 hz => ?_) hs
 obtain ⟨x, H2, I2, rx, a, C, dx, fs, ex, ea, c, n, l, q2⟩ := hz
 subst ex
 obtain rfl : ov = Value.ref a := rx
 exact oy I2 ea c n l ry fun s3 I3 => ⟨σ, _, I3, q2⟩
end
structure fh (k : Nat) (A : Around) : Prop where
 hd : A.handled = none
 dp : A.depth + 3 * k + 5 < recursionLimit
 un : A.units + 16 * k + 200 < cLine
theorem fh.mono {j k : Nat} {A : Around} (r : fh k A) (h : j ≤ k) : fh j A := ⟨r.hd, by have := r.dp; omega, by have := r.un; omega⟩
theorem fh.deeper {k : Nat} {A : Around} (r : fh (k + 1) A) (env : Env) : fh k (A.deeper env) :=
 ⟨r.hd, by have := r.dp; show A.depth + 1 + 3 * k + 5 < _; omega, by have := r.un; show A.units + 3 + 16 * k + 200 < _; omega⟩
theorem oF {A : Around} {C : Addr} {us : List Value} {kw : List (Str × Value)} : (A.under (.builtin "type.__call__" ⟨.ref C :: us, kw⟩)).depth = A.depth + 1 := by
 first | rfl | simp [Around.under, Code.weight, Code.isCreation, Code.isGuard, Code.isCaller, Code.frames, Code.isFrame, guardIds]
theorem oE {A : Around} {C : Addr} {us : List Value} {kw : List (Str × Value)} : (A.under (.builtin "type.__call__" ⟨.ref C :: us, kw⟩)).units = A.units + 1 := by
 first | rfl | simp [Around.under, Code.cUnits, Code.frames, Code.isFrame]
theorem fh.make {k : Nat} {A : Around} (r : fh (k + 1) A) (C : Addr) (us : List Value) (kw : List (Str × Value)) : fh k (A.under (.builtin "type.__call__" ⟨.ref C :: us, kw⟩)) :=
 ⟨r.hd, by have := r.dp; rw [oF]; omega, by have := r.un; rw [oE]; omega⟩
theorem fh.depth {k : Nat} {A : Around} (r : fh k A) : A.depth < recursionLimit := by have := r.dp; omega
theorem fh.units {k : Nat} {A : Around} (r : fh k A) : A.units + 64 < cLine := by have := r.un; omega
noncomputable def Aq : TA := fun _ H Q => Q [] H
noncomputable def yR (ta : TE) (tr : TA) : TA := fun σ H Q => ta σ H fun x H1 => tr σ H1 fun xs H2 => Q (x :: xs) H2
section
variable {X : Cx} {e : Expr} {es : List Expr} {te : TE} {t : TA} {pos : Pos}
theorem zv : PA X [] Aq := fun _ _ _ _ H Q I h => Calls.spliced_nil ⟨[], H, I, .nil, h⟩
theorem wW (ha : PE X e te) (hr : PA X es t) (hs : starEach (e :: es) X.env = (false, eval e X.env) :: starEach es X.env := by rfl) : PA X (e :: es) (yR te t) := by
 intro pos pins s σ H Q I h
 rw [hs]
 show wpAny _ _ (spliced ((false, eval e X.env) :: backTo pos (starEach es X.env))) _ _ s
 refine Calls.spliced_cons (thn (ha pins s σ H _ I h) fun u s1 hz => ?_)
 obtain ⟨x, H1, I1, r1, q1⟩ := hz
 exact thn (hr pos pins s1 σ H1 _ I1 q1) fun us s2 ⟨xs, H2, I2, r2, q2⟩ => ⟨x :: xs, H2, I2, .cons r1 r2, q2⟩
noncomputable def CF (t : TA) : TE := fun σ H Q => t σ H fun xs H1 => xs.length ≤ sizeLine ∧ ∀ p, H1 p = none → Q (.ref p) (upd H1 p (.tup xs))
noncomputable def CM (t : TA) : TE := fun σ H Q => t σ H fun xs H1 => xs.length ≤ sizeLine ∧ ∀ p, H1 p = none → Q (.ref p) (upd H1 p (.lst xs))
theorem zk {x1} (h : PA X es t) : PE X (.Tuple es x1 pos) (CF t) := by
 intro pins s σ H Q I hq
 refine wpAny_Tuple_spliced (thn (h pos pins s σ H _ I hq) fun us s1 ⟨xs, H1, I1, r, z, q⟩ => ⟨by rw [← r.length]; exact z, ?_⟩)
 have hf : H1 s1.heap.objs.size = none := I1.hok.fresh (Nat.le_refl _)
 refine ⟨.ref s1.heap.objs.size, upd H1 s1.heap.objs.size (.tup xs), I1.laid (t' := s1.toks) (fun b u e => Heap.get?_push_of_some _ e) (Nat.le_refl _) ?_, rfl, q _ hf⟩
 exact ⟨z, us, r, ⟨_, Heap.get?_push_size _ rfl, rfl, _, rfl⟩⟩
theorem zq (h : PA X es t) : PE X (.List es pos) (CM t) := by
 intro pins s σ H Q I hq
 refine wpAny_List_spliced (thn (h pos pins s σ H _ I hq) fun us s1 ⟨xs, H1, I1, r, z, q⟩ => ⟨by rw [← r.length]; exact z, ?_⟩)
 have hf : H1 s1.heap.objs.size = none := I1.hok.fresh (Nat.le_refl _)
 refine ⟨.ref s1.heap.objs.size, upd H1 s1.heap.objs.size (.lst xs), I1.laid (t' := s1.toks) (fun b u e => Heap.get?_push_of_some _ e) (Nat.le_refl _) ?_, rfl, q _ hf⟩
 exact ⟨z, us, 0, r, Heap.get?_push_size _ rfl⟩
end
noncomputable abbrev Sp := List V → Hp → VK → XK → Prop
noncomputable abbrev CXT := List Env → Hp → Shared → XK → Value → Shared → Prop
structure xQ (P : Program) (w : World) (K : PySem.W.Frag) (mg : Str → Option Value) (base : Heap) (A : Around) (outer : List Env) (s : Shared) (H : Hp) : Prop where
 frames : A.frames = some outer
 mod : Mod K mg base
 bs : ∀ b o, base.get? b = some o → s.heap.get? b = some o ∧ H b = none
 bsz : base.objs.size ≤ s.heap.objs.size
 funs : s.heap.FunFrames base outer
 frf : ∀ b ∈ frs outer, H b = none
 hok : HOk P w H s.heap
 bare : AllBare s.gens
noncomputable def CE (outer : List Env) (P : Program) (w : World) (H : Hp) (s : Shared) (Q : VK) (u : Value) (s' : Shared) : Prop :=
 ∃ v H', s'.os = s.os ∧ AllBare s'.gens ∧ Un (frs outer) [] H H' s.heap s'.heap ∧ HOk P w H' s'.heap ∧ cL v u ∧ Q v H'
noncomputable def CR (CX : CXT) (outer : List Env) (P : Program) (w : World) (H : Hp) (s : Shared) (Q : VK) (E : XK) (r : Result) (s' : Shared) : Prop :=
 match r with
 | .ok (.ret u) => CE outer P w H s Q u s'
 | .ok _ => False
 | .error e => CX outer H s E e s'
structure iA (P : Program) (w : World) (K : PySem.W.Frag) (mg : Str → Option Value) (base : Heap) (CX : CXT) (k : Nat) (f : Addr) (fd : FuncData) (ps : List Str) (sp : Sp) : Prop where
 len : ∀ vs H Q E, sp vs H Q E → vs.length = ps.length
 run : ∀ (A : Around) (outer : List Env) (s : Shared) (H : Hp) (args : Args) (us : List Value) (vs : List V) (Q : VK) (E : XK), fh k A → xQ P w K mg base A outer s H → BindsTo s fd args (ps.zip us) → bR vs us → sp vs H Q E →
  codeAny (model P w) A (.call (.ref f) args) (CR CX outer P w H s Q E) s
theorem iA.mono {P : Program} {w : World} {K : PySem.W.Frag} {mg : Str → Option Value} {base : Heap} {CX : CXT} {j k : Nat} {f : Addr} {fd : FuncData} {ps : List Str} {sp : Sp} (F : iA P w K mg base CX j f fd ps sp) (h : j ≤ k) :
  iA P w K mg base CX k f fd ps sp := ⟨F.len, fun A outer s H args us vs Q E hr => F.run A outer s H args us vs Q E (hr.mono h)⟩
theorem xQ.make {P : Program} {w : World} {K : PySem.W.Frag} {mg : Str → Option Value} {base : Heap} {A : Around} {outer : List Env} {s : Shared} {H : Hp} (e : xQ P w K mg base A outer s H) (C : Addr) (us : List Value) (kw : List (Str × Value)) :
  xQ P w K mg base (A.under (.builtin "type.__call__" ⟨.ref C :: us, kw⟩)) outer s H := ⟨by first | exact e.frames | (simpa [Around.under, Code.envs, Code.isFrame, pushEnvs] using e.frames), e.mod, e.bs, e.bsz, e.funs, e.frf, e.hok, e.bare⟩
section
variable {X : Cx} {pins : List (Addr × Obj)} {σ : St} {H : Hp} {s s' : Shared}
theorem Inv.env0 (I : Inv X pins σ H s) : xQ X.prog X.w X.K X.mg X.base X.A X.stack s H :=
 ⟨I.ok.frames, I.ok.mod, I.bs, Nat.le_trans I.ok.bsz I.sz, I.stack, I.stkFree, I.hok, I.bare⟩
theorem Inv.after {Q : VK} {u : Value} (I : Inv X pins σ H s) (h : CE X.stack X.prog X.w H s Q u s') : EP X pins σ Q u s' := by
 obtain ⟨v, H', os, bare, un, hok, r, q⟩ := h
 obtain ⟨hh, g, d, t, os'⟩ := s'
 obtain rfl : os' = s.os := os
 exact ⟨v, H', I.call (h' := hh) (g' := g) (d' := d) (t' := t) (ch := []) un hok bare (fun b z => absurd z (by simp)), r, q⟩
end
noncomputable def yS (sp : Sp) (dvs : List V) (E : XK) (t : TA) : TE := fun σ H Q => t σ H fun vs H1 => sp (vs ++ dvs) H1 Q E
noncomputable def pR (C : Addr) (m : Str) (sp : Sp) (dvs : List V) (E : XK) (ta : TE) (t : TA) : TE := fun σ H Q => ta σ H fun x H1 => ∃ a dx fs, x = .ref a ∧ H1 a = some (.ins C dx fs) ∧ fs.lookup m = none ∧
 t σ H1 fun vs H2 => sp (x :: (vs ++ dvs)) H2 Q E
noncomputable def wt (C : Addr) (sp : Sp) (dvs : List V) (E : XK) (t : TA) : TE := fun σ H Q => t σ H fun vs H1 => ∀ x dx, H1 x = none → H1 dx = none → dx ≠ x →
 sp (.ref x :: (vs ++ dvs)) (upd (upd H1 dx (.own x)) x (.ins C dx [])) (fun v H2 => v = .non ∧ Q (.ref x) H2) E
noncomputable def cS (K : PySem.W.Frag) (fd : FuncData) (ps : List Str) (ds : List Value) : Prop :=
 ∀ (s : Shared) (us : List Value), K.In s.heap → (us ++ ds).length = ps.length → BindsTo s fd ⟨us, []⟩ (ps.zip (us ++ ds))
theorem cS.all {K : PySem.W.Frag} {fd : FuncData} {ps : List Str} (h : ∀ us : List Value, us.length = ps.length → bindArgs fd ⟨us, []⟩ = pure (ps.zip us)) : cS K fd ps [] := fun s us _ hl => by
 rw [List.append_nil] at hl ⊢
 exact .of_eq (h us hl)
noncomputable def fS (CX : CXT) (X : Cx) (E : XK) : Prop := ∀ (pins : List (Addr × Obj)) (σ : St) (H : Hp) (s : Shared) (e : Value) (s' : Shared), Inv X pins σ H s → CX X.stack H s E e s' → X.xe e s'
section
variable {X : Cx} {CX : CXT} {k : Nat} {f C : Addr} {fd : FuncData} {ps : List Str} {sp : Sp} {dvs : List V} {ds : List Value} {E : XK} {x m : Str} {p pos apos : Pos} {e o : Expr} {es : List Expr} {ta : TE} {t : TA}
theorem pW {pins : List (Addr × Obj)} {σ : St} {H : Hp} {s : Shared} {Q : VK} {us : List Value} {vs : List V} (F : iA X.prog X.w X.K X.mg X.base CX k f fd ps sp) (hr : fh k X.A) (hb : cS X.K fd ps ds) (hd : bR dvs ds) (hx : fS CX X E)
  (I : Inv X pins σ H s) (r : bR vs us) (h : sp (vs ++ dvs) H Q E) : wpAny (model X.prog X.w) X.A (call (.ref f) us) (EP X pins σ Q) X.xe s := by
 have r2 : bR (vs ++ dvs) (us ++ ds) := r.append hd
 have hl : (us ++ ds).length = ps.length := by rw [← r2.length]; exact F.len _ _ _ _ h
 refine wpAny_call (codeAny_mono (F.run X.A X.stack s H ⟨us, []⟩ (us ++ ds) (vs ++ dvs) Q E hr I.env0 (hb s us I.kIn hl) r2 h) fun r s' hq => ?_)
 cases r with
 | error e => exact hx pins σ H s e s' I hq
 | ok fl =>
  cases fl with
  | ret u => exact I.after hq
  | next => exact False.elim hq
  | brk => exact False.elim hq
  | cont => exact False.elim hq
theorem wV (F : iA X.prog X.w X.K X.mg X.base CX k f fd ps sp) (hr : fh k X.A) (hg : Gl X x) (hm : X.mg x = some (.ref f)) (hk : PySem.W.keepIn X.K (.ref f) = true) (hb : cS X.K fd ps ds) (hd : bR dvs ds) (hx : fS CX X E)
  (ha : PA X (e :: es) t) (hdb : (x == ("__debug__" : Str)) = false := by decide) (he : starEach (e :: es) X.env = (false, eval e X.env) :: starEach es X.env := by rfl) (hpl : (backTo pos (starEach es X.env)).any (·.1) = false := by rfl) :
  PE X (.Call (.Name x p) (e :: es) [] pos) (yS sp dvs E t) := by
 intro pins s σ H Q I h
 refine wpAny_Call_Name_kw (qz I hg hm ?_ hdb)
 refine PySem.W.callWith_K (h₀ := X.base) I.ok.mod.kin hk (thn (ha pos pins s σ H _ I h) fun us s1 ⟨vs, H1, I1, r, q⟩ => ⟨I1.kIn, ?_⟩) he hpl
 exact pW F hr hb hd hx I1 r q
theorem wO {pl : Sem Bool} (he : PE X o ta) (c : Cls X.K C) (hm : fU X.K C m f) (F : iA X.prog X.w X.K X.mg X.base CX k f fd ps sp) (hr : fh k X.A) (hb : cS X.K fd ps ds) (hd : bR dvs ds) (hx : fS CX X E) (ha : PA X (e :: es) t)
  (hst : starEach (e :: es) X.env = (false, eval e X.env) :: starEach es X.env := by rfl) (hpl : (backTo pos (starEach es X.env)).any (·.1) = false := by rfl)
  (ht : eval (.Call (.Attribute o m apos) (e :: es) [] pos) X.env = (do
   let ov ← eval o X.env
   standAt apos.atName
   let (f, first) ← holding [ov] (getMethod ov m pl)
   callWith pos f first (backTo pos (starEach (e :: es) X.env)) (backToKw pos (keywordEach [] X.env))) := by rfl) :
  PE X (.Call (.Attribute o m apos) (e :: es) [] pos) (pR C m sp dvs E ta t) := by
 intro pins s σ H Q I h
 refine PySem.W.methodCall_KW (pl := pl) (thn (he pins s σ H _ I h) fun u s1 hz => ?_) ht
 obtain ⟨x, H1, I1, rx, a, dx, fs, ex, ea, l, q⟩ := hz
 subst ex
 obtain rfl : u = Value.ref a := rx
 refine jE I1 ea c hm l ?_
 refine PySem.W.callWith_K (first := [.ref a]) (h₀ := X.base) I.ok.mod.kin hm.kp (thn (ha pos pins s1 σ H1 _ I1 q) fun us s2 ⟨vs, H2, I2, r, q2⟩ => ⟨I2.kIn, ?_⟩) hst hpl
 exact pW (us := .ref a :: us) (vs := .ref a :: vs) F hr hb hd hx I2 (.cons rfl r) q2
theorem sR {pl : Sem Bool} (he : PE X o ta) (c : Cls X.K C) (hm : fU X.K C m f) (F : iA X.prog X.w X.K X.mg X.base CX k f fd ps sp) (hr : fh k X.A) (hb : cS X.K fd ps ds) (hd : bR dvs ds) (hx : fS CX X E)
  (ht : eval (.Call (.Attribute o m apos) [] [] pos) X.env = (do
   let ov ← eval o X.env
   standAt apos.atName
   let (f, first) ← holding [ov] (getMethod ov m pl)
   callWith pos f first (backTo pos (starEach [] X.env)) (backToKw pos (keywordEach [] X.env))) := by rfl) :
  PE X (.Call (.Attribute o m apos) [] [] pos) (pR C m sp dvs E ta Aq) := by
 intro pins s σ H Q I h
 refine PySem.W.methodCall_KW (pl := pl) (thn (he pins s σ H _ I h) fun u s1 hz => ?_) ht
 obtain ⟨x, H1, I1, rx, a, dx, fs, ex, ea, l, q⟩ := hz
 subst ex
 obtain rfl : u = Value.ref a := rx
 refine jE I1 ea c hm l ?_
 exact PySem.W.callWith_K0 (first := [.ref a]) I1.kIn hm.kp (pW (us := [.ref a]) (vs := [.ref a]) F hr hb hd hx I1 (.cons rfl .nil) q)
structure Mk (K : PySem.W.Frag) (C f : Addr) : Prop where
 makes : PySem.W.makesIn K C = true
 init : PySem.W.findIn K (.ref C) "__init__" = some (some (.ref f))
 fn : PySem.W.isFn K (.ref f) = true
 kp : PySem.W.keepIn K (.ref C) = true
theorem sC {pins : List (Addr × Obj)} {σ : St} {H : Hp} {s : Shared} {Q : VK} {us : List Value} {vs : List V} (M : Mk X.K C f) (F : iA X.prog X.w X.K X.mg X.base CX k f fd ps sp) (hr : fh (k + 1) X.A) (hb : cS X.K fd ps ds) (hd : bR dvs ds)
  (hx : fS CX X E) (I : Inv X pins σ H s) (r : bR vs us)
  (h : ∀ x dx, H x = none → H dx = none → dx ≠ x → sp (.ref x :: (vs ++ dvs)) (upd (upd H dx (.own x)) x (.ins C dx [])) (fun v H2 => v = .non ∧ Q (.ref x) H2) E) :
  wpAny (model X.prog X.w) X.A (call (.ref C) us) (EP X pins σ Q) X.xe s := by
 have hq := h (s.heap.objs.size + 1) s.heap.objs.size (I.hok.fresh (Nat.le_succ _)) (I.hok.fresh (Nat.le_refl _)) (Nat.ne_of_lt (Nat.lt_succ_self _))
 have I2 := Inv.made (C := C) I
 have r2 : bR (V.ref (s.heap.objs.size + 1) :: (vs ++ dvs)) (Value.ref (s.heap.objs.size + 1) :: (us ++ ds)) := .cons rfl (r.append hd)
 have hl : (Value.ref (s.heap.objs.size + 1) :: us ++ ds).length = ps.length := by
  have e := r2.length
  rw [F.len _ _ _ _ hq] at e
  exact e.symm
 refine wpAny_call (tK (f := f) I.kIn M.makes M.init (beq_iff_eq.mp M.fn) (codeAny_mono (F.run _ X.stack _ _ ⟨Value.ref (s.heap.objs.size + 1) :: us, []⟩ (Value.ref (s.heap.objs.size + 1) :: (us ++ ds)) _ _ E (hr.make C us [])
  (I2.env0.make C us []) (hb _ (Value.ref (s.heap.objs.size + 1) :: us) I2.kIn hl) r2 hq) fun r s' hq' => ?_))
 cases r with
 | error e => exact hx pins σ _ _ e s' I2 hq'
 | ok fl =>
  cases fl with
  | ret u =>
   obtain ⟨v, H', I3, rv, ev, q3⟩ := I2.after hq'
   subst ev
   exact ⟨rv, ⟨V.ref (s.heap.objs.size + 1), H', I3, rfl, q3⟩⟩
  | next => exact False.elim hq'
  | brk => exact False.elim hq'
  | cont => exact False.elim hq'
theorem wQ (M : Mk X.K C f) (F : iA X.prog X.w X.K X.mg X.base CX k f fd ps sp) (hr : fh (k + 1) X.A) (hg : Gl X x) (hm : X.mg x = some (.ref C)) (hb : cS X.K fd ps ds) (hd : bR dvs ds) (hx : fS CX X E)
  (ha : PA X (e :: es) t) (hdb : (x == ("__debug__" : Str)) = false := by decide) (he : starEach (e :: es) X.env = (false, eval e X.env) :: starEach es X.env := by rfl) (hpl : (backTo pos (starEach es X.env)).any (·.1) = false := by rfl) :
  PE X (.Call (.Name x p) (e :: es) [] pos) (wt C sp dvs E t) := by
 intro pins s σ H Q I h
 refine wpAny_Call_Name_kw (qz I hg hm ?_ hdb)
 refine PySem.W.callWith_K (h₀ := X.base) I.ok.mod.kin M.kp (thn (ha pos pins s σ H _ I h) fun us s1 ⟨vs, H1, I1, r, q⟩ => ⟨I1.kIn, ?_⟩) he hpl
 exact sC M F hr hb hd hx I1 r q
end
structure aW (N P : List Str) (sc : Scope) : Prop where
 kind : sc.kind = .function
 co : sc.isCoroutine = false
 gen : sc.isGenerator = false
 nd : N.Nodup
 pre : N.take P.length = P
 par : ∀ x ∈ P, sc.names.lookup x = some .local ∨ sc.names.lookup x = some .cell
 nofree : ∀ y ∈ sc.names, y.2 ≠ .free
theorem lH {kindOf : Str → Option NameKind} {x : Str} : ∀ {binds : List (Str × Value)} {m : Str → Option Value}, (∀ v, (x, v) ∉ binds) → bindL kindOf binds m x = m x
 | [], _, _ => rfl
 | (n, v) :: r, m, h => by
  unfold bindL
  rw [lH fun w hw => h w (List.mem_cons_of_mem _ hw)]
  split
  ·have : x ≠ n := by rintro rfl; exact h v List.mem_cons_self
   simp [this]
  ·rfl
theorem lJ {kindOf : Str → Option NameKind} {x : Str} : ∀ {binds : List (Str × Value)} {m : Str → Option Value}, (∀ v, (x, v) ∉ binds) → bindC kindOf binds m x = m x
 | [], _, _ => rfl
 | (n, v) :: r, m, h => by
  unfold bindC
  rw [lJ fun w hw => h w (List.mem_cons_of_mem _ hw)]
  split
  ·rfl
  ·have : x ≠ n := by rintro rfl; exact h v List.mem_cons_self
   simp [this]
theorem lI {kindOf : Str → Option NameKind} {x : Str} {v : Value} : ∀ {P : List Str} {vs : List Value} {i : Nat} {m : Str → Option Value}, P.Nodup → P[i]? = some x → vs[i]? = some v → kindOf x = some .local →
  bindL kindOf (P.zip vs) m x = some v
 | [], _, _, _, _, h, _, _ => by simp at h
 | _ :: _, [], _, _, _, _, h, _ => by simp at h
 | p :: P, w :: vs, 0, m, nd, h1, h2, hk => by
  simp at h1 h2; subst h1; subst h2
  show bindL kindOf ((p, w) :: P.zip vs) m p = _
  unfold bindL
  rw [lH fun v hv => (List.nodup_cons.mp nd).1 (List.of_mem_zip hv).1, if_pos hk]
  simp
 | p :: P, w :: vs, i + 1, m, nd, h1, h2, hk => by
  show bindL kindOf ((p, w) :: P.zip vs) m x = _
  unfold bindL
  exact lI (i := i) (List.nodup_cons.mp nd).2 (by simpa using h1) (by simpa using h2) hk
theorem lK {kindOf : Str → Option NameKind} {x : Str} {v : Value} : ∀ {P : List Str} {vs : List Value} {i : Nat} {m : Str → Option Value}, P.Nodup → P[i]? = some x → vs[i]? = some v → kindOf x ≠ some .local →
  bindC kindOf (P.zip vs) m x = some v
 | [], _, _, _, _, h, _, _ => by simp at h
 | _ :: _, [], _, _, _, _, h, _ => by simp at h
 | p :: P, w :: vs, 0, m, nd, h1, h2, hk => by
  simp at h1 h2; subst h1; subst h2
  show bindC kindOf ((p, w) :: P.zip vs) m p = _
  unfold bindC
  rw [lJ fun v hv => (List.nodup_cons.mp nd).1 (List.of_mem_zip hv).1, if_neg hk]
  simp
 | p :: P, w :: vs, i + 1, m, nd, h1, h2, hk => by
  show bindC kindOf ((p, w) :: P.zip vs) m x = _
  unfold bindC
  exact lK (i := i) (List.nodup_cons.mp nd).2 (by simpa using h1) (by simpa using h2) hk
noncomputable def gj (N : List Str) (vs : List V) : St := vs.map some ++ List.replicate (N.length - vs.length) none
noncomputable def oW (CX : CXT) (P : Program) (w : World) (K : PySem.W.Frag) (mg : Str → Option Value) (base : Heap) (N : List Str) (qual : Str) (scope : Scope) (f : Addr) (cd : Value) (A : Around) (outer : List Env) (s : Shared) (H : Hp) (E : XK) : Cx where
 prog := P
 w := w
 K := K
 mg := mg
 base := base
 A := A.deeper (envOfC qual scope s.heap.objs.size f cd)
 N := N
 s₀ := s
 H₀ := H
 env := envOfC qual scope s.heap.objs.size f cd
 outer := outer
 stack := envOfC qual scope s.heap.objs.size f cd :: outer
 ex := []
 calm := true
 fn := fun _ => true
 pn := []
 xe := fun e s' => wpAny (model P w) (A.deeper (envOfC qual scope s.heap.objs.size f cd)) (leaving (envOfC qual scope s.heap.objs.size f cd) e) (fun _ s'' => CX outer H s E e s'') (fun e' s'' => CX outer H s E e' s'') s'
theorem n4 {sc : Scope} {n : Nat} {x : Str} (h : sc.names.lookup x = some .cell) : ∃ c, (cellsFrom n sc.names []).lookup x = some c := by
 have q := PySem.W.cellsFrom_some sc.names n [] (.inl h)
 exact Option.isSome_iff_exists.mp q
theorem qM {CX : CXT} {P : Program} {w : World} {K : PySem.W.Frag} {mg : Str → Option Value} {base : Heap} {N ps : List Str} {qual : Str} {scope : Scope} {f : Addr} {cd : Value} {A : Around} {outer : List Env} {s s1 : Shared} {H : Hp} {E : XK} {us : List Value} {vs : List V}
  (S : aW N ps scope) (hd : A.handled = none) (e0 : xQ P w K mg base A outer s H) (hl : vs.length = ps.length) (r : bR vs us)
  (x : InCallC s s.heap.objs.size (bindL (envOfC qual scope s.heap.objs.size f cd).kindOf (ps.zip us) fun _ => none) (cellsFrom (s.heap.objs.size + 1) scope.names []) (bindC (envOfC qual scope s.heap.objs.size f cd).kindOf (ps.zip us) fun _ => none) s1) :
  Inv (oW CX P w K mg base N qual scope f cd A outer s H E) [] (gj N vs) H s1 := by
 have hpl : ps.length ≤ N.length := by have := congrArg List.length S.pre; rw [List.length_take] at this; omega
 obtain ⟨h1, tk, rfl, hk⟩ := x.done
 have noA : ∀ b : Addr, b ∉ (oW CX P w K mg base N qual scope f cd A outer s H E).ex := fun b z => absurd (show b ∈ ([] : List Addr) from z) (by simp)
 refine ⟨⟨e0.mod, S.kind, rfl, rfl, Nat.le_refl _, fun y z c h1 h2 => ?_, fun y hy => ?_, fun y c _ h => ?_, fun _ => hd, Around.frames_deeper e0.frames, .inr ⟨rfl, rfl⟩, fun b z => absurd z (noA b), e0.bs, e0.bsz, fun b _ _ => noA b, fun b z => absurd z (noA b), e0.funs, e0.frf⟩,
  rfl, e0.bare, Un.kept hk, ⟨_, x.toInCall.ns, fun i y v h1 h2 h3 => ?_⟩, fun y c h => ⟨_, x.cell y c h⟩, e0.hok.fresh (Nat.le_refl _), fun y c h => ?_, fun p hp => absurd (show p ∈ ([] : List (Addr × Obj)) from hp) (by simp), e0.hok.kept hk, ?_⟩
 ·exact name_of_addr x.apart (PySem.mem_of_lookup h1) (PySem.mem_of_lookup h2)
 ·have hy : scope.names.lookup y = some .cell ∨ scope.names.lookup y = some .free := hy
  rcases hy with hy | hy
  ·exact n4 hy
  ·exact absurd rfl (S.nofree _ (PySem.mem_of_lookup hy))
 ·exact Nat.le_of_lt (x.above y c (PySem.mem_of_lookup h))
 ·have hi : i < vs.length := by
   unfold gj at h2
   by_cases hi : i < vs.length
   ·exact hi
   ·rw [List.getElem?_append_right (by simpa using hi)] at h2
    rw [List.getElem?_replicate] at h2
    split at h2 <;> cases h2
  have ha : vs[i]? = some v := by
   unfold gj at h2
   rw [List.getElem?_append_left (by simpa using hi), List.getElem?_map] at h2
   cases e : vs[i]? with
   | none => rw [e] at h2; cases h2
   | some a => rw [e] at h2; cases h2; rfl
  obtain ⟨u, hu, rv⟩ := r.get ha
  have hp : ps[i]? = some y := by
   rw [← S.pre, List.getElem?_take_of_lt (by omega)]; exact h1
  have ndP : ps.Nodup := by rw [← S.pre]; exact S.nd.sublist (List.take_sublist _ _)
  refine ⟨u, rv, ?_⟩
  rcases S.par y (List.mem_of_getElem? hp) with k | k
  ·exact .inl ⟨k, lI ndP hp hu k⟩
  ·obtain ⟨c, e⟩ := n4 (n := s.heap.objs.size + 1) k
   refine .inr ⟨.inl k, c, e, ?_⟩
   have q := x.cell y c e
   rw [lK ndP hp hu (by show scope.names.lookup y ≠ _; rw [k]; decide)] at q
   exact q
 ·exact e0.hok.fresh (Nat.le_of_lt (x.above y c (PySem.mem_of_lookup h)))
 ·unfold gj
  show _ = N.length
  rw [List.length_append, List.length_map, List.length_replicate]
  omega
theorem Cq {CX : CXT} {P : Program} {w : World} {K : PySem.W.Frag} {mg : Str → Option Value} {base : Heap} {k : Nat} {f : Addr} {name qual : Str} {params : Arguments} {body : List Stmt} {scope : Scope} {dV kV doc pm cdv ct oc : Value} {an od : Option Addr}
  {osl : Array (Option Value)} {N ps : List Str} {sp : Sp} (lk : K.lookup f = some ⟨oc, od, .func (PySem.W.fnOf name qual params body scope dV kV doc pm an cdv ct), osl⟩) (hcd : PySem.W.codeIn K cdv qual = true) (S : aW N ps scope)
  (len : ∀ vs H Q E, sp vs H Q E → vs.length = ps.length)
  (hbody : ∀ (A : Around) (outer : List Env) (s : Shared) (H : Hp) (vs : List V) (Q : VK) (E : XK), fh k (A.deeper (envOfC qual scope s.heap.objs.size f cdv)) → sp vs H Q E →
   ∃ t, PSs (oW CX P w K mg base N qual scope f cdv A outer s H E) body t ∧ t { nx := fun _ H' => Q .non H', rt := Q } (gj N vs) H) :
  iA P w K mg base CX (k + 1) f (PySem.W.fnOf name qual params body scope dV kV doc pm an cdv ct) ps sp := by
 refine ⟨len, fun A outer s H args us vs Q E hr e0 hb r hsp => ?_⟩
 have hl := len _ _ _ _ hsp
 have KX : K.In s.heap := e0.mod.kin.keeps fun b o e => (e0.bs b o e).1
 have lim : s.heap.NoLimit := e0.mod.nolimit.keeps fun b o e => (e0.bs b o e).1
 have hkind : ∀ y ∈ ps.zip us, scope.names.lookup y.1 = some .local ∨ (scope.names.lookup y.1 = some .cell ∧ ((cellsFrom (s.heap.objs.size + 1) scope.names []).lookup y.1).isSome = true) := fun ⟨n, v⟩ hy => by
  rcases S.par n (List.of_mem_zip hy).1 with q | q
  ·exact .inl q
  ·exact .inr ⟨q, PySem.W.cellsFrom_some _ _ _ (.inl q)⟩
 refine codeAny_call_function hr.depth (KX _ _ lk) rfl S.co S.gen rfl (PySem.W.codeRec_of KX hcd) (hb _ _ _ _ ?_)
 refine wpAny_newFunctionEnv_cells S.kind hkind fun env he s1 x => ?_
 subst he
 refine ⟨lim.keeps x.toInCall.keep, codeAny_func ?_⟩
 obtain ⟨t, ht, hq⟩ := hbody A outer s H vs Q E (hr.deeper _) hsp
 have I : Inv (oW CX P w K mg base N qual scope f cdv A outer s H E) [] (gj N vs) H s1 := qM S hr.hd e0 hl r x
 refine wpAny_mono (ht [] s1 (gj N vs) H _ I hq) (fun fl s' hs => ?_) fun e s' hs => hs
 have fin : ∀ {σ' : St} {H' : Hp} {v : V} {u : Value}, Inv (oW CX P w K mg base N qual scope f cdv A outer s H E) [] σ' H' s' → cL v u → Q v H' → CE outer P w H s Q u s' :=
  fun {σ' H' v u} J rv q => ⟨v, H', J.os, J.bare, J.base, J.hok, rv, q⟩
 cases fl with
 | ret u =>
  obtain ⟨v, σ', H', J, rv, q⟩ := hs
  exact fin J rv q
 | next =>
  obtain ⟨σ', H', J, q⟩ := hs
  exact fin (v := V.non) (u := Value.none) J rfl q
 | brk =>
  obtain ⟨_, _, _, q⟩ := hs
  exact False.elim q
 | cont =>
  obtain ⟨_, _, _, q⟩ := hs
  exact False.elim q
section
variable {X : Cx} {x : Str} {p pos : Pos} {e : Expr} {es : List Expr} {t : TA} {id T : String} {r : List V → Hp → VK → Prop}
noncomputable def tCB (r : List V → Hp → VK → Prop) (t : TA) : TE := fun σ H Q => t σ H fun vs H1 => r vs H1 Q
theorem sV (hc : eJ X (.builtin id) r) (hg : Gl X x) (hm : X.mg x = none) (hv : bootBuiltins x = some (.builtin id)) (ha : PA X (e :: es) t) (hn : x ≠ "__name__" := by decide) (hdb : (x == ("__debug__" : Str)) = false := by decide)
  (he : starEach (e :: es) X.env = (false, eval e X.env) :: starEach es X.env := by rfl) (hpl : (backTo pos (starEach es X.env)).any (·.1) = false := by rfl) : PE X (.Call (.Name x p) (e :: es) [] pos) (tCB r t) := by
 intro pins s σ H Q I h
 refine wpAny_Call_Name_kw (qA I hg hm hv ?_ hn hdb)
 exact PyProof.Rows.callWith_builtin1 (thn (ha pos pins s σ H _ I h) fun us s1 ⟨vs, H1, I1, r1, q1⟩ => hc pins s1 σ H1 vs us Q I1 r1 q1) he hpl
theorem qf (hc : eJ X (.type T) r) (hg : Gl X x) (hm : X.mg x = none) (hv : bootBuiltins x = some (.type T)) (ha : PA X (e :: es) t) (hn : x ≠ "__name__" := by decide) (hdb : (x == ("__debug__" : Str)) = false := by decide)
  (he : starEach (e :: es) X.env = (false, eval e X.env) :: starEach es X.env := by rfl) (hpl : (backTo pos (starEach es X.env)).any (·.1) = false := by rfl) : PE X (.Call (.Name x p) (e :: es) [] pos) (tCB r t) := by
 intro pins s σ H Q I h
 refine wpAny_Call_Name_kw (qA I hg hm hv ?_ hn hdb)
 exact PyProof.Rows.callWith_type1 (thn (ha pos pins s σ H _ I h) fun us s1 ⟨vs, H1, I1, r1, q1⟩ => hc pins s1 σ H1 vs us Q I1 r1 q1) he hpl
end
end L2
namespace HT
open PySem PyProof.Rows
section
variable {prog : Program} {w : World} {A : Around} {E : Value → Shared → Prop} {s : Shared}
theorem cat_tup {t b : Addr} {vs ws : List Value} {Q : Value → Shared → Prop} (ht : IsTup s.heap t vs.toArray) (hb : IsTup s.heap b ws.toArray) (hv : vs ≠ [])
  (h1 : ws = [] → Q (.ref t) s) (h2 : ws ≠ [] → Q (.ref s.heap.objs.size) { s with heap := s.heap.push { cls := .type "tuple", data := .seq (vs ++ ws).toArray } })
  (hsz : vs.length + ws.length ≤ sizeLine) : wpAny (model prog w) A (binaryOp .Add (.ref t) (.ref b)) Q E s := by
 obtain ⟨⟨cls, dd, data, sl⟩, ho, hc, n, hd⟩ := id ht
 obtain ⟨⟨cls2, dd2, data2, sl2⟩, ho2, hc2, n2, hd2⟩ := id hb
 simp only at hc hd hc2 hd2
 subst hc hd hc2 hd2
 have e : vs.toArray ++ ws.toArray = (vs ++ ws).toArray := by simp
 by_cases hw : ws = []
 ·exact concat_meets ⟨_, ho, rfl⟩ ⟨_, ho2, rfl⟩ noFill_tuple_add seq_tuple_add PySem.F.slot_tuple_add PySem.F.entry_tuple_add (PySem.F.args_tuple_add_2 _ _)
   (tuple_addW1 t b vs.toArray ws.toArray n n2 dd dd2 sl sl2 (by simpa using hv) (by simp [hw])) ⟨ho, ho2, h1 hw⟩
 ·refine concat_meets ⟨_, ho, rfl⟩ ⟨_, ho2, rfl⟩ noFill_tuple_add seq_tuple_add PySem.F.slot_tuple_add PySem.F.entry_tuple_add (PySem.F.args_tuple_add_2 _ _)
   (tuple_addW2 t b vs.toArray ws.toArray n n2 dd dd2 sl sl2 (by simpa using hv) (by simpa using hw) (by rw [List.size_toArray, List.size_toArray]; exact hsz)) ⟨ho, ho2, ?_⟩
  rw [e]
  exact h2 hw
end
end HT
namespace L2
open PySem PySem.Spec PyProof.Rows
noncomputable abbrev TO := St → Hp → (Option Int → Hp → Prop) → Prop
section
variable {X : Cx} {e : Expr} {te : TE} {lo hi : Option Expr} {tl th : TO} {pos p2 : Pos}
noncomputable def BJ (K : PySem.W.Frag) : R2 := fun x y H Q => ∃ a b xs ys, x = .ref a ∧ y = .ref b ∧ SqT K H a xs ∧ SqT K H b ys ∧ xs ≠ [] ∧ xs.length + ys.length ≤ sizeLine ∧
 (ys = [] → Q (.ref a) H) ∧ (ys ≠ [] → ∀ p, H p = none → Q (.ref p) (upd H p (.tup (xs ++ ys))))
theorem bR.nil_iff {xs : List V} {us : List Value} (r : bR xs us) : us = [] ↔ xs = [] := by
 cases r with
 | nil => simp
 | cons _ _ => simp
theorem xb : OpR X (binaryOp .Add) (BJ X.K) := by
 intro pins s σ H x y v u Q I rx ry h
 obtain ⟨a, b, xs, ys, rfl, rfl, ha, hb, hx, hz, q1, q2⟩ := h
 cases rx
 cases ry
 obtain ⟨its, r1, p1, _⟩ := I.tuple ha
 obtain ⟨its2, r2, p2, _⟩ := I.tuple hb
 refine HT.cat_tup p1 p2 (fun z => hx (r1.nil_iff.mp z)) (fun z => ⟨.ref a, H, I, rfl, q1 (r2.nil_iff.mp z)⟩) (fun z => ?_) (by rw [← r1.length, ← r2.length]; exact hz)
 refine ⟨.ref s.heap.objs.size, _, I.laid (t' := s.toks) (o := .tup (xs ++ ys)) (fun b ob q => Heap.get?_push_of_some _ q) (Nat.le_refl _) ?_, rfl, q2 (fun w => z (r2.nil_iff.mpr w)) _ (I.hok.fresh (Nat.le_refl _))⟩
 exact ⟨by rw [List.length_append]; exact hz, _, r1.append r2, IsTup.new _ _⟩
end
noncomputable def ixN (n : Nat) (i : Int) : Option Nat := if 0 ≤ i then (if i < n then some i.toNat else none) else if -(n : Int) ≤ i then some (i + n).toNat else none
noncomputable def atI {α : Type} (xs : List α) (i : Int) : Option α := (ixN xs.length i).bind fun j => xs[j]?
theorem qJ {n : Nat} {i : Int} {j : Nat} (h : ixN n i = some j) : seqIndex? i n = some j ∧ j < n ∧ -(n : Int) ≤ i ∧ i < n := by
 unfold ixN at h
 by_cases h0 : 0 ≤ i
 ·rw [if_pos h0] at h
  by_cases h1 : i < n
  ·rw [if_pos h1] at h
   have e : i.toNat = j := Option.some.inj h
   exact ⟨by rw [seqIndex_of h0 h1, e], by omega, by omega, h1⟩
  ·rw [if_neg h1] at h; cases h
 ·rw [if_neg h0] at h
  by_cases h1 : -(n : Int) ≤ i
  ·rw [if_pos h1] at h
   have e : (i + n).toNat = j := Option.some.inj h
   exact ⟨by rw [seqIndex_neg (by omega) h1, e], by omega, h1, by omega⟩
  ·rw [if_neg h1] at h; cases h
theorem rA {α : Type} {xs : List α} {i : Int} {v : α} (h : atI xs i = some v) : ∃ j, seqIndex? i xs.length = some j ∧ xs[j]? = some v ∧ j < xs.length ∧ -(xs.length : Int) ≤ i ∧ i < xs.length := by
 unfold atI at h
 cases e : ixN xs.length i with
 | none => rw [e] at h; cases h
 | some j =>
  rw [e] at h
  obtain ⟨h1, h2, h3, h4⟩ := qJ e
  exact ⟨j, h1, h, h2, h3, h4⟩
theorem fB {α : Type} {xs : List α} {j : Nat} {v : α} (h : xs[j]? = some v) : atI xs (j : Int) = some v := by
 have hj : j < xs.length := (List.getElem?_eq_some_iff.mp h).1
 have e : ixN xs.length (j : Int) = some j := by
  unfold ixN
  rw [if_pos (by omega), if_pos (by omega)]; simp
 unfold atI; rw [e]; exact h
noncomputable def mS (b : Expr) : Prop := ∀ o i, subscripted b false o i = operate [o, i] (getItem o i)
noncomputable def IxR (X : Cx) (r : R2) : Prop :=
 ∀ (value slice : Expr) (pins : List (Addr × Obj)) (s : Shared) (σ : St) (H : Hp) (x y : V) (v u : Value) (Q : VK), Inv X pins σ H s → cL x v → cL y u → r x y H Q →
  subscripted slice false v u = operate [v, u] (getItem v u) → wpAny (model X.prog X.w) X.A (subscriptTail value slice v u) (EP X pins σ Q) X.xe s
noncomputable def MtR (X : Cx) (id : String) (r : V → List V → Hp → VK → Prop) : Prop :=
 ∀ (pins : List (Addr × Obj)) (s : Shared) (σ : St) (H : Hp) (x : V) (xs : List V) (v : Value) (us : List Value) (Q : VK), Inv X pins σ H s → cL x v → bR xs us → r x xs H Q →
  wpAny (model X.prog X.w) X.A (call (.builtin id) (v :: us)) (EP X pins σ Q) X.xe s
section
variable {X : Cx} {a b : Expr} {ta tb : TE} {pos : Pos}
theorem IxR.or {r r' : R2} (h : IxR X r) (h' : IxR X r') : IxR X (fun x y H Q => r x y H Q ∨ r' x y H Q) := by
 intro value slice pins s σ H x y v u Q I rx ry q hs
 rcases q with q | q
 ·exact h value slice pins s σ H x y v u Q I rx ry q hs
 ·exact h' value slice pins s σ H x y v u Q I rx ry q hs
theorem BU {r : R2} (hr : IxR X r) (ha : PE X a ta) (hb : PE X b tb) (hs : mS b) : PE X (.Subscript a b pos) (tOp r ta tb) := by
 intro pins s σ H Q I h
 exact Subscript_ (Cw ha hb I h fun v u s2 x y H2 I2 rx ry q => hr a b pins s2 σ H2 x y v u Q I2 rx ry q (hs _ _))
noncomputable def DB (K : PySem.W.Frag) : R2 := fun x y H Q => ∃ p xs i v, x = .ref p ∧ y = .int i ∧ SqL K H p xs ∧ atI xs i = some v ∧ Q v H
noncomputable def Dz (K : PySem.W.Frag) : R2 := fun x y H Q => ∃ p xs i v, x = .ref p ∧ y = .int i ∧ SqT K H p xs ∧ atI xs i = some v ∧ Q v H
theorem xq : IxR X (DB X.K) := by
 intro value slice pins s σ H x y v u Q I rx ry h hs
 obtain ⟨p, xs, i, z, rfl, rfl, hq, he, q⟩ := h
 cases rx
 obtain ⟨t, rfl⟩ := ry
 obtain ⟨its, r, pl, hz⟩ := I.list hq
 obtain ⟨j, h1, h2, h3, h4, h5⟩ := rA he
 obtain ⟨w, ew, rw'⟩ := r.get h2
 have hl := r.length
 have hn := nG
 have fin : EP X pins σ Q w s := ⟨z, H, I, rw', q⟩
 by_cases h0 : 0 ≤ i
 ·have hj : i.toNat = j := by
   rw [seqIndex_of h0 h5] at h1
   exact Option.some.inj h1
  exact item_listR pl.isList h0 (by omega) (by rw [hj]; simpa using ew) fin hs
 ·have hj : (i + (its.toArray.size : Int)).toNat = j := by
   rw [seqIndex_neg (by omega) h4] at h1
   rw [List.size_toArray, ← hl]
   exact Option.some.inj h1
  exact subscriptTail_builtinR (x := w) pl.isList.typeIs slot_list_getitem.lookup
   (wpAny_getItem_list_neg (Q := fun r s' => r = w ∧ EP X pins σ Q r s') pl.isList (by omega) (by rw [List.size_toArray] <;> omega) (by omega) (by rw [hj]; simpa using ew) ⟨rfl, fin⟩) hs
theorem zX : IxR X (Dz X.K) := by
 intro value slice pins s σ H x y v u Q I rx ry h hs
 obtain ⟨p, xs, i, z, rfl, rfl, hq, he, q⟩ := h
 cases rx
 obtain ⟨t, rfl⟩ := ry
 obtain ⟨its, r, pl, hz⟩ := I.tuple hq
 obtain ⟨j, h1, h2, h3, h4, h5⟩ := rA he
 obtain ⟨w, ew, rw'⟩ := r.get h2
 have hl := r.length
 have hn := nG
 have fin : EP X pins σ Q w s := ⟨z, H, I, rw', q⟩
 exact subscriptTail_builtinR (x := w) pl.typeIs slot_tuple_getitem.lookup
  (getItem_tuple (j := j) (Q := fun r s' => r = w ∧ EP X pins σ Q r s') pl (by omega) (by omega) (by rw [List.size_toArray, ← hl]; exact h1) (by simpa using ew) ⟨rfl, fin⟩) hs
theorem oC (its : List Value) (n j : Nat) (u : Value) : Obj.mapSeq (·.setIfInBounds j u) { cls := .type "list", data := .seq its.toArray n } = { cls := .type "list", data := .seq (its.set j u).toArray n } := by
 simp [Obj.mapSeq]
theorem Inv.lst {pins : List (Addr × Obj)} {σ : St} {H : Hp} {s : Shared} {p : Addr} {xs : List V} (I : Inv X pins σ H s) (h : H p = some (.lst xs)) :
  ∃ (its : List Value) (n : Nat), bR xs its ∧ s.heap.get? p = some { cls := .type "list", data := .seq its.toArray n } ∧ xs.length ≤ sizeLine := by
 obtain ⟨z, its, n, r, e⟩ := I.hok p _ h
 exact ⟨its, n, r, e, z⟩
theorem Inv.lstUpd {pins : List (Addr × Obj)} {σ : St} {H : Hp} {s : Shared} {p : Addr} {xs ys : List V} {its its' : List Value} {n n' : Nat} {f : Obj → Obj} (I : Inv X pins σ H s) (h : H p = some (.lst xs))
  (ho : s.heap.get? p = some { cls := .type "list", data := .seq its.toArray n }) (hf : f { cls := .type "list", data := .seq its.toArray n } = { cls := .type "list", data := .seq its'.toArray n' }) (r : bR ys its') (hz : ys.length ≤ sizeLine) (t : Nat) :
  Inv X pins σ (upd H p (.lst ys)) { s with heap := s.heap.update p f, toks := t } := by
 have e : (s.heap.update p f).get? p = some { cls := .type "list", data := .seq its'.toArray n' } := by
  rw [Heap.get?_update_self f ho (by rw [hf] <;> rfl), hf]
 refine I.write (x := p) (e := p) (by rw [h]; trivial) (.inl rfl) (fun b u hb q => (Heap.get?_update_other _ _ (Ne.symm hb)).trans q) ⟨_, e⟩ ?_
 exact ⟨hz, its', n', r, e⟩
noncomputable def BG : V → V → V → Hp → (Hp → Prop) → Prop := fun o i v H Q => ∃ p xs k j, o = .ref p ∧ i = .int k ∧ H p = some (.lst xs) ∧ ixN xs.length k = some j ∧ Q (upd H p (.lst (xs.set j v)))
theorem sA : CB X BG := by
 intro pins s σ H o i v ov iv u Q I ro ri rv h
 obtain ⟨p, xs, k, j, rfl, rfl, hp, hj, q⟩ := h
 cases ro
 obtain ⟨t, rfl⟩ := ri
 obtain ⟨its, n, r, ho, hz⟩ := I.lst hp
 obtain ⟨h1, h2, h3, h4⟩ := qJ hj
 have hl := r.length
 have hn := nG
 have I' : Inv X pins σ (upd H p (.lst (xs.set j v))) { s with heap := s.heap.update p (Obj.mapSeq (·.setIfInBounds j u)) } :=
  I.lstUpd hp ho (oC its n j u) (r.set rv j) (by rw [List.length_set]; exact hz) s.toks
 by_cases h0 : 0 ≤ k
 ·have hk : k.toNat = j := by
   rw [seqIndex_of h0 h4] at h1
   exact Option.some.inj h1
  exact PySem.W.ki_setAt ho h0 (by omega) (by rw [List.size_toArray, ← hl]; exact h4) (by rw [hk]; exact ⟨_, I', q⟩)
 ·have hk : (k + (its.toArray.size : Int)).toNat = j := by
   rw [seqIndex_neg (by omega) h3] at h1
   rw [List.size_toArray, ← hl]
   exact Option.some.inj h1
  exact PySem.W.ki_setBack ho (by omega) (by rw [List.size_toArray, ← hl]; exact h3) (by omega) (by rw [hk]; exact ⟨_, I', q⟩)
noncomputable def jn : V → Bool
 | .non => true
 | .bl _ => true
 | .int _ => true
 | .str _ => true
 | _ => false
noncomputable def eqV : V → V → Bool
 | .non, .non => true
 | .bl a, .bl b => a == b
 | .bl a, .int b => (if a then 1 else 0) == b
 | .int a, .bl b => a == (if b then 1 else 0)
 | .int a, .int b => a == b
 | .str a, .str b => a == b
 | _, _ => false
theorem Ae {A : Around} {s : Shared} {y x : V} {u v : Value} (ry : cL y u) (rx : cL x v) (fy : jn y = true) (fx : jn x = true) : SeqAt.EqAt A s u v (eqV y x) := by
 cases y with
 | non =>
  cases ry
  cases x with
  | non => cases rx; exact SeqAt.EqAt.same _
  | bl b => cases rx; exact SeqAt.EqAt.none_bool b
  | int b => obtain ⟨t, rfl⟩ := rx; exact SeqAt.EqAt.none_int b t
  | str b => obtain ⟨t, rfl⟩ := rx; exact SeqAt.EqAt.none_str b t
  | _ => exact absurd (show false = true from fx) Bool.false_ne_true
 | bl a =>
  cases ry
  cases x with
  | non => cases rx; exact SeqAt.EqAt.bool_none a
  | bl b => cases rx; exact SeqAt.EqAt.bool_bool a b
  | int b => obtain ⟨t, rfl⟩ := rx; exact SeqAt.EqAt.bool_int a b t
  | str b => obtain ⟨t, rfl⟩ := rx; exact SeqAt.EqAt.bool_str a b t
  | _ => exact absurd (show false = true from fx) Bool.false_ne_true
 | int a =>
  obtain ⟨t', rfl⟩ := ry
  cases x with
  | non => cases rx; exact SeqAt.EqAt.int_none a t'
  | bl b => cases rx; exact SeqAt.EqAt.int_bool a t' b
  | int b => obtain ⟨t, rfl⟩ := rx; exact SeqAt.EqAt.int_int a t' b t
  | str b => obtain ⟨t, rfl⟩ := rx; exact SeqAt.EqAt.int_str a t' b t
  | _ => exact absurd (show false = true from fx) Bool.false_ne_true
 | str a =>
  obtain ⟨t', rfl⟩ := ry
  cases x with
  | non => cases rx; exact SeqAt.EqAt.str_none a t'
  | bl b => cases rx; exact SeqAt.EqAt.str_bool a t' b
  | int b => obtain ⟨t, rfl⟩ := rx; exact SeqAt.EqAt.str_int a t' b t
  | str b => obtain ⟨t, rfl⟩ := rx; exact SeqAt.EqAt.str_str a t' b t
  | _ => exact absurd (show false = true from fx) Bool.false_ne_true
 | _ => exact absurd (show false = true from fy) Bool.false_ne_true
noncomputable def eqU (x : V) (u : Value) : Bool := match u with
 | .none => eqV .non x
 | .bool b => eqV (.bl b) x
 | .int i _ => eqV (.int i) x
 | .str z _ => eqV (.str z) x
 | _ => false
theorem vm {x y : V} {u : Value} (r : cL y u) (f : jn y = true) : eqU x u = eqV y x := by
 cases y with
 | non => cases r; rfl
 | bl b => cases r; rfl
 | int i => obtain ⟨t, rfl⟩ := r; rfl
 | str z => obtain ⟨t, rfl⟩ := r; rfl
 | _ => exact absurd (show false = true from f) Bool.false_ne_true
theorem iW {x : V} : ∀ {xs : List V} {us : List Value}, bR xs us → xs.all jn = true → us.any (eqU x) = xs.any fun y => eqV y x
 | _, _, .nil, _ => rfl
 | y :: xs, u :: us, .cons r t, f => by
  rw [List.all_cons, Bool.and_eq_true] at f
  rw [List.any_cons, List.any_cons, vm r f.1, iW t f.2]
theorem gx {A : Around} {s : Shared} {x : V} {v : Value} (rx : cL x v) (fx : jn x = true) : ∀ {xs : List V} {us : List Value}, bR xs us → xs.all jn = true → ∀ u ∈ us, SeqAt.EqAt A s u v (eqU x u)
 | _, _, .nil, _ => fun u hu => by cases hu
 | y :: xs, u :: us, .cons r t, f => fun u' hu => by
  rw [List.all_cons, Bool.and_eq_true] at f
  rcases List.mem_cons.mp hu with rfl | hu
  ·rw [vm r f.1]; exact Ae r rx f.1 fx
  ·exact gx rx fx t f.2 u' hu
noncomputable def inV (x : V) (xs : List V) : Bool := xs.any fun y => eqV y x
noncomputable def rIn (K : PySem.W.Frag) (neg : Bool) : R2 := fun x y H Q => ∃ p xs, y = .ref p ∧ (SqL K H p xs ∨ SqT K H p xs) ∧ jn x = true ∧ xs.all jn = true ∧ Q (.bl (if neg then !inV x xs else inV x xs)) H
theorem ql : OpR X (compareOp .In) (rIn X.K false) := by
 intro pins s σ H x y v u Q I rx ry h
 obtain ⟨p, xs, rfl, hq, fx, fs, q⟩ := h
 cases ry
 rcases hq with hq | hq
 ·obtain ⟨its, r, pl, hz⟩ := I.list hq
  refine SeqAt.in_listAt (eqU x) pl.isList (fun w hw => gx rx fx r fs w (by simpa using hw)) ⟨.bl _, H, I, rfl, ?_⟩
  rw [show its.toArray.any (eqU x) = its.any (eqU x) by simp, iW r fs]
  exact q
 ·obtain ⟨its, r, pl, hz⟩ := I.tuple hq
  refine SeqAt.in_tupleAt (eqU x) pl (fun w hw => gx rx fx r fs w (by simpa using hw)) ⟨.bl _, H, I, rfl, ?_⟩
  rw [show its.toArray.any (eqU x) = its.any (eqU x) by simp, iW r fs]
  exact q
theorem kF : OpR X (compareOp .NotIn) (rIn X.K true) := by
 intro pins s σ H x y v u Q I rx ry h
 obtain ⟨p, xs, rfl, hq, fx, fs, q⟩ := h
 cases ry
 rcases hq with hq | hq
 ·obtain ⟨its, r, pl, hz⟩ := I.list hq
  refine SeqAt.notIn_listAt (eqU x) pl.isList (fun w hw => gx rx fx r fs w (by simpa using hw)) ⟨.bl _, H, I, rfl, ?_⟩
  rw [show its.toArray.any (eqU x) = its.any (eqU x) by simp, iW r fs]
  exact q
 ·obtain ⟨its, r, pl, hz⟩ := I.tuple hq
  refine SeqAt.notIn_tupleAt (eqU x) pl (fun w hw => gx rx fx r fs w (by simpa using hw)) ⟨.bl _, H, I, rfl, ?_⟩
  rw [show its.toArray.any (eqU x) = its.any (eqU x) by simp, iW r fs]
  exact q
theorem lE : eJ X (.builtin "len") (fun xs H Q => ∃ p ys, xs = [.ref p] ∧ (SqL X.K H p ys ∨ SqT X.K H p ys) ∧ Q (.int ys.length) H) := by
 intro pins s σ H xs us Q I r h
 obtain ⟨p, ys, rfl, hq, q⟩ := h
 obtain ⟨u, rfl, rx⟩ := lY r
 cases rx
 have hn := nG
 rcases hq with hq | hq
 ·obtain ⟨its, r', pl, hz⟩ := I.list hq
  have fe := r'.length
  exact Calls.call_len_list pl.isList (by simp only [List.size_toArray] <;> omega) ⟨.int ys.length, H, I.tok _, ⟨s.toks + 1, by rw [List.size_toArray, fe]⟩, q⟩
 ·obtain ⟨its, r', pl, hz⟩ := I.tuple hq
  have fe := r'.length
  exact len_tuple pl (by simp only [List.size_toArray] <;> omega) ⟨.int ys.length, H, I.tok _, ⟨s.toks + 1, by rw [List.size_toArray, fe]⟩, q⟩
theorem eJ.or {f : Value} {r r' : List V → Hp → VK → Prop} (h : eJ X f r) (h' : eJ X f r') : eJ X f (fun xs H Q => r xs H Q ∨ r' xs H Q) := by
 intro pins s σ H xs us Q I rs q
 rcases q with q | q
 ·exact h pins s σ H xs us Q I rs q
 ·exact h' pins s σ H xs us Q I rs q
theorem g7 : eJ X (.type "list") (fun xs H Q => ∃ p ys, xs = [.ref p] ∧ (SqL X.K H p ys ∨ SqT X.K H p ys) ∧ ∀ l, H l = none → Q (.ref l) (upd H l (.lst ys))) := by
 intro pins s σ H xs us Q I r h
 obtain ⟨p, ys, rfl, hq, q⟩ := h
 obtain ⟨u, rfl, rx⟩ := lY r
 cases rx
 have fin : ∀ (its : List Value), bR ys its → ys.length ≤ sizeLine → ∀ (h' : Heap) (c' : Nat), (∀ b o', s.heap.get? b = some o' → h'.get? b = some o') →
   h'.get? s.heap.objs.size = some { cls := .type "list", dict := none, data := .seq its.toArray c', slots := #[] } → EP X pins σ Q (.ref s.heap.objs.size) { s with heap := h' } := fun its r' hz h' c' kp e =>
  ⟨.ref s.heap.objs.size, _, I.laid (t' := s.toks) kp (Nat.le_refl _) (show dG X.prog X.w _ h' _ (.lst ys) from ⟨hz, its, c', r', e⟩), rfl, q _ (I.hok.fresh (Nat.le_refl _))⟩
 rcases hq with hq | hq
 ·obtain ⟨its, r', pl, hz⟩ := I.list hq
  have fe := r'.length
  obtain ⟨o, ho, hc, n, hd⟩ := pl.isList
  exact call_list_seq p (.inl rfl) ho hc hd (fun h' c' kp e => fin its r' hz h' c' kp e) (by simp only [List.size_toArray] <;> omega)
 ·obtain ⟨its, r', pl, hz⟩ := I.tuple hq
  have fe := r'.length
  obtain ⟨o, ho, hc, n, hd⟩ := pl
  exact call_list_seq p (.inr rfl) ho hc hd (fun h' c' kp e => fin its r' hz h' c' kp e) (by simp only [List.size_toArray] <;> omega)
theorem eR : eJ X (.type "tuple") (fun xs H Q => ∃ p ys, xs = [.ref p] ∧ ((SqL X.K H p ys ∧ ∀ l, H l = none → Q (.ref l) (upd H l (.tup ys))) ∨ (SqT X.K H p ys ∧ Q (.ref p) H))) := by
 intro pins s σ H xs us Q I r h
 obtain ⟨p, ys, rfl, h⟩ := h
 obtain ⟨u, rfl, rx⟩ := lY r
 cases rx
 rcases h with ⟨hq, q⟩ | ⟨hq, q⟩
 ·obtain ⟨its, r', pl, hz⟩ := I.list hq
  have fe := r'.length
  refine call_tuple_list pl.isList (fun h' kp => ?_) (by simp only [List.size_toArray] <;> omega)
  have I1 : Inv X pins σ H { s with heap := h' } := I.kept (t' := s.toks) kp
  have I2 : Inv X pins σ (upd H h'.objs.size (.tup ys)) { s with heap := h'.push { cls := .type "tuple", data := .seq its.toArray } } :=
   I1.laid (t' := s.toks) (fun b o e => Heap.get?_push_of_some _ e) (Nat.le_refl _) (show dG X.prog X.w _ _ _ (.tup ys) from ⟨hz, its, r', IsTup.new _ _⟩)
  exact ⟨.ref h'.objs.size, _, I2, rfl, q _ (I1.hok.fresh (Nat.le_refl _))⟩
 ·obtain ⟨its, r', pl, hz⟩ := I.tuple hq
  exact call_tuple_same pl ⟨.ref p, H, I, rfl, q⟩
noncomputable def tyV (K : PySem.W.Frag) (T : String) (x : V) (H : Hp) : Prop := match x with
 | .str _ => T = "str"
 | .int _ => T = "int"
 | .ref p => (T = "list" ∧ ∃ xs, SqL K H p xs) ∨ (T = "tuple" ∧ ∃ o, K.lookup p = some o ∧ o.cls = .type "tuple" ∧ o.dict = none) ∨
   (T = "dict" ∧ ((∃ kvs, H p = some (.dK kvs)) ∨ ∃ kvs, H p = some (.dT kvs))) ∨ (T = "set" ∧ ∃ S n, H p = some (.set S n))
 | _ => False
theorem yL {pins : List (Addr × Obj)} {σ : St} {H : Hp} {s : Shared} {T : String} {x : V} {v : Value} (I : Inv X pins σ H s) (r : cL x v) (ty : tyV X.K T x H) :
  s.TypeIs v T ∧ ∀ a, v = .ref a → ∃ ob, s.heap.get? a = some ob ∧ ob.dict = none := by
 cases x with
 | str z =>
  obtain ⟨t, rfl⟩ := r
  cases (show T = "str" from ty)
  exact ⟨typeIs_str s z t, fun _ e => nomatch e⟩
 | int i =>
  obtain ⟨t, rfl⟩ := r
  cases (show T = "int" from ty)
  exact ⟨typeIs_int s i t, fun _ e => nomatch e⟩
 | ref p =>
  cases r
  rcases ty with ⟨rfl, xs, hq⟩ | ⟨rfl, o, hk, hc, hd⟩ | ⟨rfl, hk⟩ | ⟨rfl, S, n, hk⟩
  ·obtain ⟨its, _, pl, _⟩ := I.list hq
   refine ⟨pl.isList.typeIs, fun a e => ?_⟩
   cases e
   obtain ⟨o, n, e, c, hd, _⟩ := pl
   exact ⟨o, e, hd⟩
  ·refine ⟨⟨o, I.kIn p o hk, hc⟩, fun a e => ?_⟩
   cases e
   exact ⟨o, I.kIn _ o hk, hd⟩
  ·have z : ∃ o, s.heap.get? p = some o ∧ o.ExactDict := by
    rcases hk with ⟨kvs, hk⟩ | ⟨kvs, hk⟩
    ·obtain ⟨_, _, _, _, o, _, _, e, ex, _⟩ := I.hok p _ hk
     exact ⟨o, e, ex⟩
    ·obtain ⟨_, _, _, _, o, _, _, e, ex, _⟩ := I.hok p _ hk
     exact ⟨o, e, ex⟩
   obtain ⟨o, e, ex⟩ := z
   refine ⟨⟨o, e, ex.1⟩, fun a e2 => ?_⟩
   cases e2
   exact ⟨o, e, ex.2.1⟩
  ·obtain ⟨o, _, _, _, e, ex, _⟩ := I.hok p _ hk
   refine ⟨⟨o, e, ex.1⟩, fun a e2 => ?_⟩
   cases e2
   exact ⟨o, e, ex.2.1⟩
 | _ => exact False.elim ty
noncomputable def tBM (K : PySem.W.Frag) (T : String) (r : V → List V → Hp → VK → Prop) (to : TE) (t : TA) : TE := fun σ H Q => to σ H fun x H1 => tyV K T x H1 ∧ t σ H1 fun xs H2 => r x xs H2 Q
variable {o e : Expr} {es : List Expr} {to : TE} {t : TA} {name : Str} {apos cpos : Pos} {T id : String} {r : V → List V → Hp → VK → Prop}
theorem BV (pa : PlainAttrs T) (slot : Slot T name id) (hty : typeOf (.builtin id) = pure (.type "method_descriptor")) (hm : MtR X id r) (ho : PE X o to) (ha : PA X (e :: es) t)
  (hbase : attributeBase o name X.env (eval o X.env) = eval o X.env := by rfl)
  (hfew : ((backTo cpos (starEach (e :: es) X.env)).all (fun x => !x.1) && (backToKw cpos (keywordEach [] X.env)).all (fun x => x.1.isSome)
   && decide ((e :: es).length + ([] : List Keyword).length + (if ([] : List Keyword).isEmpty then 0 else 1) < 30)) = true := by rfl)
  (hline : (apos.endLine == cpos.line) = true := by rfl) (hs : starEach (e :: es) X.env = (false, eval e X.env) :: starEach es X.env := by rfl) (hplain : (backTo cpos (starEach es X.env)).any (·.1) = false := by rfl) :
  PE X (.Call (.Attribute o name apos) (e :: es) [] cpos) (tBM X.K T r to t) := by
 intro pins s σ H Q I h
 refine wpAny_Call_method_late hbase hfew hline rfl (thn (ho pins s σ H _ I h) fun v s1 hz => ?_)
 obtain ⟨x, H1, I1, r1, ty, q1⟩ := hz
 obtain ⟨h1, h2⟩ := yL I1 r1 ty
 refine ⟨T, id, pa, slot, hty, h1, h2, ?_⟩
 have hA := ha cpos pins s1 σ H1 _ I1 q1
 rw [hs] at hA ⊢
 refine Calls.callWith_builtin (by show (false || (backTo cpos (starEach es X.env)).any (·.1)) = false; rw [hplain] <;> rfl) (Calls.evalArgs_plain ?_)
 exact thn hA fun us s2 ⟨vs, H2, I2, r2, q2⟩ => hm pins s2 σ H2 x vs v us Q I2 r1 r2 q2
end
noncomputable def MtM (X : Cx) (id : String) (r : V → List V → Hp → VK → Prop) : Prop :=
 ∀ (pins : List (Addr × Obj)) (s : Shared) (σ : St) (H : Hp) (x : V) (xs : List V) (v : Value) (us : List Value) (Q : VK), Inv X pins σ H s → cL x v → bR xs us → r x xs H Q →
  wpAny (model X.prog X.w) X.A (call (.builtin id) (v :: us)) (EP X pins σ Q) X.xe s
theorem bR.one : ∀ {x : V} {us : List Value}, bR [x] us → ∃ u, us = [u] ∧ cL x u
 | _, _, .cons r .nil => ⟨_, rfl, r⟩
theorem bR.eraseIdx : ∀ {xs : List V} {us : List Value} (i : Nat), bR xs us → bR (xs.eraseIdx i) (us.eraseIdx i)
 | _, _, _, .nil => .nil
 | _, _, 0, .cons _ t => t
 | _, _, i + 1, .cons r t => .cons r (bR.eraseIdx i t)
theorem bR.rep {xs : List V} {us : List Value} (h : bR xs us) : ∀ k : Nat, bR (List.replicate k xs).flatten (List.replicate k us).flatten
 | 0 => .nil
 | k + 1 => by
  rw [List.replicate_succ, List.replicate_succ, List.flatten_cons, List.flatten_cons]
  exact bR.append h (bR.rep h k)
theorem kJ {α : Type} : ∀ (l : List α) (i : Nat), (l.eraseIdx i).length ≤ l.length
 | [], _ => Nat.le_refl _
 | _ :: _, 0 => Nat.le_succ _
 | _ :: r, i + 1 => Nat.succ_le_succ (kJ r i)
theorem iO (its : List Value) : ∀ (k : Nat) (acc : List Value),
  List.foldl (fun x1 x2 => x1 ++ x2) acc.toArray (List.replicate k its.toArray) = (acc ++ (List.replicate k its).flatten).toArray
 | 0, acc => by simp
 | k + 1, acc => by
  have e : acc.toArray ++ its.toArray = (acc ++ its).toArray := by simp
  have e2 : (acc ++ its) ++ (List.replicate k its).flatten = acc ++ (List.replicate (k + 1) its).flatten := by
   rw [List.replicate_succ, List.flatten_cons, List.append_assoc]
  rw [← e2, ← iO its k (acc ++ its), ← e, List.replicate_succ, List.foldl_cons]
section
variable {X : Cx} {pins : List (Addr × Obj)} {σ : St} {H : Hp} {s : Shared} {l b : Addr} {xs ys zs : List V}
theorem Inv.lset {its its' : List Value} {n : Nat} {f : Array Value → Array Value} {t' : Nat} (I : Inv X pins σ H s) (hH : H l = some (.lst xs))
  (e : s.heap.get? l = some { cls := .type "list", data := .seq its.toArray n }) (hf : f its.toArray = its'.toArray) (hv : bR ys its') (hz : ys.length ≤ sizeLine) :
  Inv X pins σ (upd H l (.lst ys)) { s with heap := s.heap.update l (Obj.mapSeq f), toks := t' } := by
 have q := PySem.IsL.update e f
 rw [hf] at q
 refine I.write (x := l) (e := l) (by rw [hH]; exact trivial) (.inl rfl) (fun b' u hb hu => (Heap.get?_update_other s.heap (Obj.mapSeq f) (Ne.symm hb)).trans hu) ⟨_, q⟩ ?_
 exact ⟨hz, its', _, hv, q⟩
theorem Inv.lnew {its : List Value} {t' : Nat} (I : Inv X pins σ H s) (hv : bR ys its) (hz : ys.length ≤ sizeLine) :
  Inv X pins σ (upd H s.heap.objs.size (.lst ys)) { s with heap := s.heap.push { cls := .type "list", data := .seq its.toArray }, toks := t' } :=
 I.laid (fun _ _ q => Heap.get?_push_of_some _ q) (Nat.le_refl _) ⟨hz, its, 0, hv, Heap.get?_push_size _ rfl⟩
theorem Inv.fresh (I : Inv X pins σ H s) : H s.heap.objs.size = none := I.hok.fresh (Nat.le_refl _)
theorem Inv.lstM (I : Inv X pins σ H s) (hH : H l = some (.lst xs)) : xs.length ≤ sizeLine ∧ ∃ (its : List Value) (n : Nat), bR xs its ∧ xs.length = its.length ∧ s.heap.get? l = some { cls := .type "list", data := .seq its.toArray n } := by
 obtain ⟨z, its, n, r, e⟩ := I.hok l _ hH
 exact ⟨z, its, n, r, r.length, e⟩
theorem tH {n : Nat} (h : n ≤ sizeLine) : Builtin.List.listTooLong n = false := by
 unfold Builtin.List.listTooLong
 exact decide_eq_false (by omega)
end
section
variable {X : Cx}
noncomputable def pY : V → List V → Hp → VK → Prop := fun x vs H Q => ∃ l xs y, x = .ref l ∧ vs = [y] ∧ H l = some (.lst xs) ∧ xs.length < sizeLine ∧ Q .non (upd H l (.lst (xs ++ [y])))
theorem iJ : MtM X "list.append" pY := by
 intro pins s σ H x vs v us Q I rx rv h
 obtain ⟨l, xs, y, rfl, rfl, hH, hz, q⟩ := h
 cases rx
 obtain ⟨u, rfl, ru⟩ := rv.one
 obtain ⟨z, its, n, r, hl, e⟩ := I.lstM hH
 refine call_meets F.slot_list_append ⟨_, e, rfl⟩ F.entry_list_append (F.args_list_append_2 _ _) (PySem.list_append l its.toArray n u (by rw [List.size_toArray]; omega)) ⟨e, ?_⟩
 refine ⟨.non, _, I.lset (its' := its ++ [u]) hH e (by simp) (r.append (.cons ru .nil)) ?_, rfl, q⟩
 rw [List.length_append, List.length_singleton]
 omega
noncomputable def uS : V → List V → Hp → VK → Prop := fun x vs H Q => ∃ l xs i k y, x = .ref l ∧ vs = [.int i] ∧ H l = some (.lst xs) ∧ -(2 ^ 63) ≤ i ∧ i < 2 ^ 63 ∧ seqIndex? i xs.length = some k ∧ xs[k]? = some y ∧ Q y (upd H l (.lst (xs.eraseIdx k)))
theorem tJ : MtM X "list.pop" uS := by
 intro pins s σ H x vs v us Q I rx rv h
 obtain ⟨l, xs, i, k, y, rfl, rfl, hH, h1, h2, hk, hy, q⟩ := h
 cases rx
 obtain ⟨u, rfl, ru⟩ := rv.one
 obtain ⟨t, rfl⟩ := ru
 obtain ⟨z, its, n, r, hl, e⟩ := I.lstM hH
 obtain ⟨w, hw, rw'⟩ := r.get hy
 refine call_meets F.slot_list_pop ⟨_, e, rfl⟩ F.entry_list_pop (F.args_list_pop_2 _ _)
  (MeetsSeq.list_pop_at l its.toArray n i t k w (fitsIndex_both h1 h2) (by rw [List.size_toArray, ← hl]; exact hk) (by rw [← Array.getElem?_toList]; exact hw) (by rw [List.size_toArray]; omega)) ⟨e, ?_⟩
 refine ⟨y, _, I.lset (its' := its.eraseIdx k) hH e ?_ (r.eraseIdx k) ?_, rw', q⟩
 ·show its.toArray.eraseIdxIfInBounds k = (its.eraseIdx k).toArray
  rw [List.eraseIdxIfInBounds_toArray]
 ·have := kJ xs k
  omega
noncomputable def As : R2 := fun x y H Q => ∃ l b xs zs, x = .ref l ∧ y = .ref b ∧ H l = some (.lst xs) ∧ H b = some (.lst zs) ∧ xs.length + zs.length ≤ sizeLine ∧ ∀ p, H p = none → Q (.ref p) (upd H p (.lst (xs ++ zs)))
theorem zF : OpR X (binaryOp .Add) As := by
 intro pins s σ H x y v u Q I rx ry h
 obtain ⟨l, b, xs, zs, rfl, rfl, hH, hB, hz, q⟩ := h
 cases rx
 cases ry
 obtain ⟨z, its, n, r, hl, e⟩ := I.lstM hH
 obtain ⟨z2, its2, n2, r2, hl2, e2⟩ := I.lstM hB
 refine PySem.P.add_list e e2 ?_ (by rw [List.size_toArray, List.size_toArray]; omega)
 have ea : its.toArray ++ its2.toArray = (its ++ its2).toArray := by simp
 rw [ea]
 exact ⟨.ref _, _, I.lnew (t' := s.toks) (r.append r2) (by rw [List.length_append]; omega), rfl, q _ I.fresh⟩
noncomputable def BH : R2 := fun x y H Q => ∃ l k xs, x = .ref l ∧ y = .int k ∧ H l = some (.lst xs) ∧ -(2 ^ 63) ≤ k ∧ k < 2 ^ 63 ∧ xs.length * k.toNat ≤ sizeLine ∧
 ∀ p, H p = none → Q (.ref p) (upd H p (.lst (List.replicate k.toNat xs).flatten))
theorem mr {α : Type} (xs : List α) (k : Nat) : (List.replicate k xs).flatten.length = k * xs.length := by
 induction k with
 | zero => simp
 | succ k ih => rw [List.replicate_succ, List.flatten_cons, List.length_append, ih, Nat.succ_mul, Nat.add_comm]
theorem zC : OpR X (binaryOp .Mult) BH := by
 intro pins s σ H x y v u Q I rx ry h
 obtain ⟨l, k, xs, rfl, rfl, hH, h1, h2, hz, q⟩ := h
 cases rx
 obtain ⟨t, rfl⟩ := ry
 obtain ⟨z, its, n, r, hl, e⟩ := I.lstM hH
 have fe : its.toArray.size * k.toNat ≤ sizeLine := by rw [List.size_toArray, ← hl]; exact hz
 have hcap : ¬ its.toArray.size * k.toNat > (2 ^ 63 - 1) / 8 := by
  have : (sizeLine : Nat) ≤ (2 ^ 63 - 1) / 8 := by decide
  omega
 have hfit : ¬ (!Builtin.List.listFitsIndex k) = true := by
  rw [fitsIndex_both h1 h2]
  exact Bool.false_ne_true
 have hlong : ¬ Builtin.List.listTooLong (its.toArray.size * k.toNat) = true := by
  rw [tH fe]
  exact Bool.false_ne_true
 have hnew : List.foldl (fun x1 x2 => x1 ++ x2) #[] (List.replicate (if its.toArray.isEmpty = true then 0 else k.toNat) its.toArray) = (List.replicate k.toNat its).flatten.toArray := by
  have f0 : ∀ m : Nat, List.foldl (fun x1 x2 => x1 ++ x2) #[] (List.replicate m its.toArray) = (List.replicate m its).flatten.toArray := fun m => by
   have := iO its m []
   rw [List.nil_append] at this
   exact this
  rw [f0]
  cases its with
  | nil => simp
  | cons a r' => rw [if_neg (by simp)]
 refine wpAny_binaryOp_repeat_ref (T := "list") (U := "int") (by decide) ⟨_, e, rfl⟩ (fun s' => typeIs_int s' k t) noFill_list_mul F.fills_int_mul F.slot_int_rmul repeat_list F.slot_int_index.lookup
  (call_meets F.slot_int_rmul (typeIs_int s k t) F.entry_int_rmul (F.args_int_rmul_2 _ _) (int___rmul___int_list k t l its.toArray n)
   ⟨e, rfl, ⟨_, e, rfl⟩, call_meets F.slot_list_mul ⟨_, e, rfl⟩ F.entry_list_mul (F.args_list_mul_2 _ _) (AutoListH.list___mul___list_int_3 l its.toArray n k t hfit hcap hlong) ⟨e, ?_⟩⟩)
 rw [hnew]
 exact ⟨.ref _, _, I.lnew (t' := s.toks) (r.rep k.toNat) (by rw [mr, Nat.mul_comm]; exact hz), rfl, q _ I.fresh⟩
end
section
variable {κ : Type} [DecidableEq κ]
noncomputable def fG (kvs : List (κ × V)) (k : κ) : Option V := (kvs.find? fun kv => decide (kv.1 = k)).map (·.2)
noncomputable def j7 (kvs : List (κ × V)) (k : κ) (v : V) : List (κ × V) :=
 if (kvs.any fun kv => decide (kv.1 = k)) = true then kvs.map (fun kv => if kv.1 = k then (kv.1, v) else kv) else kvs ++ [(k, v)]
noncomputable def jZ (kvs : List (κ × V)) (k : κ) : List (κ × V) := kvs.filter fun kv => decide (kv.1 ≠ k)
theorem de {p : κ × V} {r : List (κ × V)} {k : κ} (e : p.1 = k) : fG (p :: r) k = some p.2 := by simp [fG, List.find?_cons, e]
theorem dg {p : κ × V} {r : List (κ × V)} {k : κ} (e : ¬ p.1 = k) : fG (p :: r) k = fG r k := by simp [fG, List.find?_cons, e]
theorem hZ (k : κ) : ∀ kvs : List (κ × V), (kvs.any fun kv => decide (kv.1 = k)) = (fG kvs k).isSome
 | [] => rfl
 | p :: r => by
  rw [List.any_cons]
  by_cases e : p.1 = k
  ·simp only [de e, decide_eq_true e, Bool.true_or, Option.isSome_some]
  ·rw [dg e, decide_eq_false e, Bool.false_or]; exact hZ k r
theorem m7 (k j : κ) (y : V) : ∀ kvs : List (κ × V), fG (kvs.map fun kv => if kv.1 = k then (kv.1, y) else kv) j = (fG kvs j).map fun x => if j = k then y else x
 | [] => rfl
 | p :: r => by
  have ih := m7 k j y r
  rw [List.map_cons]
  by_cases h : p.1 = k
  ·rw [if_pos h]
   by_cases e : p.1 = j
   ·rw [de (p := (p.1, y)) e, de e, Option.map_some, if_pos (e.symm.trans h)]
   ·rw [dg (p := (p.1, y)) e, dg e, ih]
  ·rw [if_neg h]
   by_cases e : p.1 = j
   ·rw [de (p := p) e, de e, Option.map_some, if_neg (fun z => h (e.trans z))]
   ·rw [dg (p := p) e, dg e, ih]
theorem kf (k j : κ) (y : V) : ∀ kvs : List (κ × V), fG kvs k = none → fG (kvs ++ [(k, y)]) j = if j = k then some y else fG kvs j
 | [], _ => by
  by_cases e : k = j
  ·rw [if_pos e.symm]; exact de (p := (k, y)) e
  ·rw [if_neg (fun z => e z.symm)]; exact dg (p := (k, y)) e
 | p :: r, hn => by
  rw [List.cons_append]
  have hk : ¬ p.1 = k := fun z => by rw [de z] at hn; cases hn
  rw [dg hk] at hn
  have ih := kf k j y r hn
  by_cases e : p.1 = j
  ·rw [de e, de e, if_neg (fun z => hk (e.trans z))]
  ·rw [dg e, dg e, ih]
theorem sj (kvs : List (κ × V)) (k j : κ) (y : V) : fG (j7 kvs k y) j = if j = k then some y else fG kvs j := by
 unfold j7
 by_cases a : (kvs.any fun kv => decide (kv.1 = k)) = true
 ·rw [if_pos a, m7]
  rw [hZ] at a
  by_cases e : j = k
  ·obtain ⟨x, hx⟩ := Option.isSome_iff_exists.mp a
   rw [if_pos e, e, hx, Option.map_some, if_pos rfl]
  ·rw [if_neg e]
   cases fG kvs j with
   | none => rfl
   | some x => rw [Option.map_some, if_neg e]
 ·rw [if_neg a]
  refine kf k j y kvs ?_
  rw [hZ] at a
  cases q : fG kvs k with
  | none => rfl
  | some x => rw [q] at a; exact (a rfl).elim
theorem iL (kvs : List (κ × V)) (k : κ) (v : V) : (j7 kvs k v).length ≤ kvs.length + 1 := by
 unfold j7
 split
 ·rw [List.length_map]; omega
 ·rw [List.length_append, List.length_cons, List.length_nil]; omega
theorem j5.isSome_eq {o : Option V} {u : Option Value} (r : j5 o u) : o.isSome = u.isSome := by
 cases o with
 | none => cases u with
  | none => rfl
  | some _ => exact (show False from r).elim
 | some _ => cases u with
  | none => exact (show False from r).elim
  | some _ => rfl
theorem j5.getD {o : Option V} {u : Option Value} {d : V} {d' : Value} (r : j5 o u) (rd : cL d d') : cL (o.getD d) (u.getD d') := by
 cases o with
 | none => cases u with
  | none => exact rd
  | some _ => exact (show False from r).elim
 | some _ => cases u with
  | none => exact (show False from r).elim
  | some _ => exact r
theorem KV.val {kvs : List (κ × V)} {vs : List (κ × Value)} (r : KV kvs vs) (k : κ) : j5 (fG kvs k) (valueAt vs k) := by
 unfold KV at r
 induction r with
 | nil => exact True.intro
 | @cons p q ps qs h t ih =>
  obtain ⟨h1, h2⟩ := h
  by_cases e : p.1 = k
  ·have e' : q.1 = k := h1.symm.trans e
   have b : valueAt (q :: qs) k = some q.2 := by simp [valueAt, List.find?_cons, e']
   rw [de e, b]; exact h2
  ·have e' : ¬ q.1 = k := fun z => e (h1.trans z)
   have b : valueAt (q :: qs) k = valueAt qs k := by simp [valueAt, List.find?_cons, e']
   rw [dg e, b]; exact ih
theorem KV.any {kvs : List (κ × V)} {vs : List (κ × Value)} (r : KV kvs vs) (k : κ) : (kvs.any fun kv => decide (kv.1 = k)) = vs.any fun kv => decide (kv.1 = k) := by
 unfold KV at r
 induction r with
 | nil => rfl
 | cons h t ih => rw [List.any_cons, List.any_cons, ih, h.1]
theorem KV.repl {kvs : List (κ × V)} {vs : List (κ × Value)} (r : KV kvs vs) (k : κ) {y : V} {u : Value} (ry : cL y u) :
  KV (kvs.map fun kv => if kv.1 = k then (kv.1, y) else kv) (vs.map fun kv => if kv.1 = k then (kv.1, u) else kv) := by
 unfold KV at r ⊢
 induction r with
 | nil => exact .nil
 | @cons p q ps qs h t ih =>
  rw [List.map_cons, List.map_cons]
  refine .cons ?_ ih
  obtain ⟨h1, h2⟩ := h
  by_cases e : p.1 = k
  ·rw [if_pos e, if_pos (h1.symm.trans e)]; exact ⟨h1, ry⟩
  ·rw [if_neg e, if_neg (fun z => e (h1.trans z))]; exact ⟨h1, h2⟩
theorem KV.put {kvs : List (κ × V)} {vs : List (κ × Value)} (r : KV kvs vs) (k : κ) {y : V} {u : Value} (ry : cL y u) : KV (j7 kvs k y) (stored vs k u) := by
 unfold j7 stored
 rw [r.any k]
 by_cases e : (vs.any fun kv => decide (kv.1 = k)) = true
 ·rw [if_pos e, if_pos e]; exact r.repl k ry
 ·rw [if_neg e, if_neg e]; exact Paired.snoc r ⟨rfl, ry⟩
theorem KV.drop {kvs : List (κ × V)} {vs : List (κ × Value)} (r : KV kvs vs) (k : κ) : KV (jZ kvs k) (without vs k) := by
 unfold KV at r ⊢
 unfold jZ without
 induction r with
 | nil => exact .nil
 | @cons p q ps qs h t ih =>
  obtain ⟨h1, h2⟩ := h
  rw [List.filter_cons, List.filter_cons]
  by_cases e : p.1 = k
  ·have a : ¬ decide (p.1 ≠ k) = true := by simp [e]
   have b : ¬ decide (q.1 ≠ k) = true := by simp [h1.symm.trans e]
   rw [if_neg a, if_neg b]; exact ih
  ·have e' : ¬ q.1 = k := fun z => e (h1.trans z)
   have a : decide (p.1 ≠ k) = true := by simp [e]
   have b : decide (q.1 ≠ k) = true := by simp [e']
   rw [if_pos a, if_pos b]; exact .cons ⟨h1, h2⟩ ih
theorem KV.length {kvs : List (κ × V)} {vs : List (κ × Value)} (r : KV kvs vs) : kvs.length = vs.length := Paired.length r
theorem uq (kvs : List (κ × V)) (k : κ) : (jZ kvs k).length ≤ kvs.length := List.length_filter_le _ _
end
theorem mw {P : Program} {w : World} {k : Key} {u : Value} (r : cL (kV k) u) : (bS P w).is k u = true := by
 cases k with
 | inl i => obtain ⟨t, e⟩ := (show ∃ t, u = Value.int i t from r); subst e; exact mq P w i t
 | inr x => obtain ⟨t, e⟩ := (show ∃ t, u = Value.str x t from r); subst e; exact ml P w x t
theorem kL {P : Program} {w : World} : ∀ {ks : List Key} {us : List Value}, bR (ks.map kV) us → ItemsAre (bS P w) ks us
 | [], _, r => by rw [List.map_nil] at r; cases r; exact .nil
 | k :: ks, _, r => by
  rw [List.map_cons] at r
  cases r with
  | cons h t => exact .cons (mw h) (kL t)
noncomputable abbrev KT (H : Hp) : List (List Key × V) → List (List Key × Addr × Value) → Prop := Paired fun p q => p.1 = q.1 ∧ H q.2.1 = some (.tup (p.1.map kV)) ∧ cL p.2 q.2.2
theorem KT.val {H : Hp} {kvs : List (List Key × V)} {xs : List (List Key × Addr × Value)} (r : KT H kvs xs) (k : List Key) : j5 (fG kvs k) ((atKey xs k).map (·.2)) := by
 induction r with
 | nil => exact True.intro
 | @cons p q ps qs h t ih =>
  obtain ⟨h1, _, h2⟩ := h
  by_cases e : p.1 = k
  ·have e' : q.1 = k := h1.symm.trans e
   have b : atKey (q :: qs) k = some q.2 := by simp [atKey, List.find?_cons, e']
   rw [de e, b]; exact h2
  ·have e' : ¬ q.1 = k := fun z => e (h1.trans z)
   have b : atKey (q :: qs) k = atKey qs k := by simp [atKey, List.find?_cons, e']
   rw [dg e, b]; exact ih
theorem KT.repl {H : Hp} {kvs : List (List Key × V)} {xs : List (List Key × Addr × Value)} (r : KT H kvs xs) (k : List Key) {y : V} {u : Value} (ry : cL y u) :
  KT H (kvs.map fun kv => if kv.1 = k then (kv.1, y) else kv) (xs.map (putAt k u)) := by
 induction r with
 | nil => exact .nil
 | @cons p q ps qs h t ih =>
  rw [List.map_cons, List.map_cons]
  refine .cons ?_ ih
  obtain ⟨h1, h2, h3⟩ := h
  unfold putAt
  by_cases e : p.1 = k
  ·rw [if_pos e, if_pos (h1.symm.trans e)]; exact ⟨h1, h2, ry⟩
  ·rw [if_neg e, if_neg (fun z => e (h1.trans z))]; exact ⟨h1, h2, h3⟩
theorem KT.put {H : Hp} {kvs : List (List Key × V)} {xs : List (List Key × Addr × Value)} (r : KT H kvs xs) (k : List Key) {b : Addr} {y : V} {u : Value} (hb : H b = some (.tup (k.map kV))) (ry : cL y u) :
  KT H (j7 kvs k y) (storedH xs k b u) := by
 have e : (kvs.any fun kv => decide (kv.1 = k)) = (atKey xs k).isSome := by
  rw [hZ, (r.val k).isSome_eq, Option.isSome_map]
 unfold j7 storedH
 rw [e]
 by_cases q : (atKey xs k).isSome = true
 ·rw [if_pos q, if_pos q]; exact r.repl k ry
 ·rw [if_neg q, if_neg q]; exact Paired.snoc r ⟨rfl, hb, ry⟩
theorem KT.keeps {H H' : Hp} {kvs : List (List Key × V)} {xs : List (List Key × Addr × Value)} (r : KT H kvs xs) (ht : ∀ b ys, H b = some (.tup ys) → H' b = some (.tup ys)) : KT H' kvs xs :=
 Paired.mapP r fun _ _ z => ⟨z.1, ht _ _ z.2.1, z.2.2⟩
section
variable {P : Program} {w : World} {H : Hp} {h : Heap} {a : Addr}
theorem yV {u : HO} (ok : HOk P w H h) (e : Rd H a u) : dG P w H h a u := e.ok ok
theorem lB {kvs : List (Key × V)} (ok : HOk P w H h) (e : Rd H a (.dK kvs)) : kvs.length ≤ sizeLine ∧ (a == sysModules) = false ∧ ∃ vs, KV kvs vs ∧ h.DictOf (bS P w) a vs :=
 show dG P w H h a (.dK kvs) from yV ok e
theorem mI {kvs : List (Key × V)} (ok : HOk P w H h) (e : H a = some (.dK kvs)) : kvs.length ≤ sizeLine ∧ (a == sysModules) = false ∧ ∃ vs, KV kvs vs ∧ h.DictOf (bS P w) a vs := lB ok (.inl e)
theorem jD {ks : List Key} (ok : HOk P w H h) (e : H a = some (.tup (ks.map kV))) : (tupleKind (bS P w)).is h ks a := by
 obtain ⟨_, its, r, o, h1, h2, n, h3⟩ := (show dG P w H h a (.tup (ks.map kV)) from ok a _ e)
 exact ⟨o, its.toArray, n, h1, h2, h3, by simpa using kL r⟩
theorem mH {kvs : List (List Key × V)} (ok : HOk P w H h) (e : Rd H a (.dT kvs)) : kvs.length ≤ sizeLine ∧ (a == sysModules) = false ∧
  ∃ xs, KT H kvs xs ∧ h.DictOfH (tupleKind (bS P w)) a xs := by
 obtain ⟨z, y, xs, r, o, es, ep, h1, h2, h3, h4, h5⟩ := (show dG P w H h a (.dT kvs) from yV ok e)
 refine ⟨z, y, xs, r, o, es, ep, h1, h2, h3, h4, fun x hx => ?_, h5⟩
 have all : ∀ {l : List (List Key × V)} {m : List (List Key × Addr × Value)}, KT H l m → ∀ x ∈ m, (tupleKind (bS P w)).is h x.1 x.2.1 := by
  intro l m q
  induction q with
  | nil => intro x hx; exact nomatch hx
  | @cons p q ps qs hq t ih =>
   intro x hx
   rcases List.mem_cons.mp hx with e | hx
   ·subst e
    exact jD ok (by rw [← hq.1]; exact hq.2.1)
   ·exact ih x hx
 exact all r x hx
theorem Cr {kvs : List (List Key × V)} (ok : HOk P w H h) (e : H a = some (.dT kvs)) : kvs.length ≤ sizeLine ∧ (a == sysModules) = false ∧
  ∃ xs, KT H kvs xs ∧ h.DictOfH (tupleKind (bS P w)) a xs := mH ok (.inl e)
end
noncomputable def DGet (H : Hp) (a : Addr) (y : V) (r : Option V) : Prop :=
 (∃ kvs k, Rd H a (.dK kvs) ∧ y = kV k ∧ r = fG kvs k) ∨ ∃ kvs k b, Rd H a (.dT kvs) ∧ y = .ref b ∧ H b = some (.tup (k.map kV)) ∧ r = fG kvs k
noncomputable def Ao (H : Hp) (a : Addr) (y v : V) (H' : Hp) : Prop :=
 (∃ kvs k, H a = some (.dK kvs) ∧ y = kV k ∧ kvs.length < sizeLine ∧ H' = upd H a (.dK (j7 kvs k v))) ∨
 ∃ kvs k b, H a = some (.dT kvs) ∧ y = .ref b ∧ H b = some (.tup (k.map kV)) ∧ kvs.length < sizeLine ∧ H' = upd H a (.dT (j7 kvs k v))
theorem DGet.k {H : Hp} {a : Addr} {kvs : List (Key × V)} {k : Key} (e : H a = some (.dK kvs)) : DGet H a (kV k) (fG kvs k) := .inl ⟨kvs, k, .inl e, rfl, rfl⟩
theorem Ao.k {H : Hp} {a : Addr} {kvs : List (Key × V)} {k : Key} {v : V} (e : H a = some (.dK kvs)) (hl : kvs.length < sizeLine) : Ao H a (kV k) v (upd H a (.dK (j7 kvs k v))) := .inl ⟨kvs, k, e, rfl, hl, rfl⟩
section
variable {X : Cx} {pins : List (Addr × Obj)} {σ : St} {H : Hp} {s : Shared} {a : Addr} {y v : V} {u r : Value} {o : Option V} {A : Around} {E : Value → Shared → Prop}
theorem Inv.big (I : Inv X pins σ H s) : sysModules < s.heap.objs.size := by
 have h : mainGlobals < s.heap.objs.size := (I.mod.glob.keeps I.bk).lt
 exact Nat.lt_trans (by decide) h
theorem rb {Q : Value → Shared → Prop} (hu : A.units + 1 < cLine) (I : Inv X pins σ H s) (g : DGet H a y (some v)) (ry : cL y u) (h : ∀ w' s', Inv X pins σ H s' → cL v w' → Q w' s') :
  wpAny (model X.prog X.w) A (getItem (.ref a) u) Q E s := by
 rcases g with ⟨kvs, k, e, ey, l⟩ | ⟨kvs, k, b, e, ey, eb, l⟩
 ·subst ey
  obtain ⟨z, hd, vs, rel, dd⟩ := lB I.hok e
  obtain ⟨w', hw, rw'⟩ := j5.some_of (v := v) (o := valueAt vs k) (by rw [l]; exact rel.val k)
  exact wpAny_getItem_of (mw ry) dd.mapOf hw (h w' _ (I.tok _) rw')
 ·subst ey
  cases (show u = Value.ref b from ry)
  obtain ⟨z, hd, xs, rel, dd⟩ := mH I.hok e
  obtain ⟨w', hw, rw'⟩ := j5.some_of (v := v) (o := (atKey xs k).map (·.2)) (by rw [l]; exact rel.val k)
  obtain ⟨p, hp, hp2⟩ := Option.map_eq_some_iff.mp hw
  refine wpAny_getItem_heap (tupleKind_room_in1 hu) (jD I.hok eb) dd hp ?_
  rw [hp2]
  exact h w' _ (I.tok _) rw'
theorem DJ {Q : Value → Shared → Prop} (hu : A.units + 1 < cLine) (I : Inv X pins σ H s) (g : DGet H a y o) (ry : cL y u) (h : ∀ s', Inv X pins σ H s' → Q (.bool o.isSome) s') :
  wpAny (model X.prog X.w) A (compareOp .In u (.ref a)) Q E s := by
 rcases g with ⟨kvs, k, e, ey, l⟩ | ⟨kvs, k, b, e, ey, eb, l⟩
 ·subst ey
  obtain ⟨z, hd, vs, rel, dd⟩ := lB I.hok e
  refine wpAny_in_of (mw ry) hd dd.mapOf ?_
  rw [← (rel.val k).isSome_eq, ← l]
  exact h _ (I.tok _)
 ·subst ey
  cases (show u = Value.ref b from ry)
  obtain ⟨z, hd, xs, rel, dd⟩ := mH I.hok e
  refine wpAny_in_heap (tupleKind_room_in1 hu) (jD I.hok eb) hd dd ?_
  have q := (rel.val k).isSome_eq
  rw [Option.isSome_map] at q
  rw [← q, ← l]
  exact h _ (I.tok _)
theorem xD {Q : Value → Shared → Prop} (hu : A.units + 1 < cLine) (I : Inv X pins σ H s) (g : DGet H a y o) (ry : cL y u) (h : ∀ s', Inv X pins σ H s' → Q (.bool (!o.isSome)) s') :
  wpAny (model X.prog X.w) A (compareOp .NotIn u (.ref a)) Q E s := by
 rcases g with ⟨kvs, k, e, ey, l⟩ | ⟨kvs, k, b, e, ey, eb, l⟩
 ·subst ey
  obtain ⟨z, hd, vs, rel, dd⟩ := lB I.hok e
  refine wpAny_notIn_of (mw ry) hd dd.mapOf ?_
  rw [← (rel.val k).isSome_eq, ← l]
  exact h _ (I.tok _)
 ·subst ey
  cases (show u = Value.ref b from ry)
  obtain ⟨z, hd, xs, rel, dd⟩ := mH I.hok e
  refine wpAny_notIn_heap (tupleKind_room_in1 hu) (jD I.hok eb) hd dd ?_
  have q := (rel.val k).isSome_eq
  rw [Option.isSome_map] at q
  rw [← q, ← l]
  exact h _ (I.tok _)
theorem mK {h' : Heap} {t' : Nat} {ob : HO} (I : Inv X pins σ H s) (mu : Mut (H a)) (hs : Heap.SameBut a s.heap h') (he : ∃ q, h'.get? a = some q) (new : dG X.prog X.w (upd H a ob) h' a ob) :
  Inv X pins σ (upd H a ob) { s with heap := h', toks := t' } :=
 I.write (x := a) (e := a) mu (.inl rfl) (fun b q hb z => (hs.2 b hb).trans z) he new
theorem vt {P : Program} {w : World} {H' : Hp} {h' : Heap} {kvs : List (Key × V)} {vs : List (Key × Value)} (z : kvs.length ≤ sizeLine) (hd : (a == sysModules) = false) (rel : KV kvs vs) (dd : h'.DictOf (bS P w) a vs) :
  dG P w H' h' a (.dK kvs) := ⟨z, hd, vs, rel, dd⟩
theorem ra {H' : Hp} {Q : Unit → Shared → Prop} (hu : A.units + 1 < cLine) (I : Inv X pins σ H s) (g : Ao H a y v H') (ry : cL y u) (rv : cL v r) (h : ∀ s', Inv X pins σ H' s' → Q () s') :
  wpAny (model X.prog X.w) A (setItem (.ref a) u r) Q E s := by
 rcases g with ⟨kvs, k, e, ey, l, eH⟩ | ⟨kvs, k, b, e, ey, eb, l, eH⟩
 ·subst ey eH
  obtain ⟨z, hd, vs, rel, dd⟩ := mI I.hok e
  have hz : vs.length ≤ sizeLine := by rw [← rel.length]; exact z
  have hl : (j7 kvs k v).length ≤ sizeLine := by have := iL kvs k v; omega
  refine wpAny_setItem_pairs (hsz := hz) (mw ry) dd fun h' dd' hs => h _ ?_
  have he : ∃ q, h'.get? a = some q := let ⟨q, _, _, hq, _⟩ := dd'; ⟨q, hq⟩
  exact mK I (by rw [e]; exact True.intro) hs he (vt hl hd (rel.put k rv) dd')
 ·subst ey eH
  cases (show u = Value.ref b from ry)
  obtain ⟨z, hd, xs, rel, dd⟩ := Cr I.hok e
  have hz : xs.length ≤ sizeLine := by rw [← Paired.length rel]; exact z
  have hl : (j7 kvs k v).length ≤ sizeLine := by have := iL kvs k v; omega
  refine wpAny_setItem_heap (hsz := hz) (tupleKind_room_in1 hu) (jD I.hok eb) dd fun h' dd' hs => h _ ?_
  obtain ⟨q, es, ep, hq, h2, h3, h4, _, h5⟩ := dd'
  refine mK I (by rw [e]; exact True.intro) hs ⟨q, hq⟩ ⟨hl, hd, _, (rel.put k eb rv).keeps fun c ys ec => ?_, q, es, ep, hq, h2, h3, h4, h5⟩
  rw [bh (B5 ec e (fun z => nomatch z))]
  exact ec
end
section
variable {X : Cx} {pins : List (Addr × Obj)} {σ : St} {H : Hp} {s : Shared} {a : Addr} {kvs : List (Key × V)} {k : Key} {u : Value} {A : Around} {E : Value → Shared → Prop}
theorem Cs {v : V} {more : List Value} {Q : Value → Shared → Prop} (I : Inv X pins σ H s) (e : H a = some (.dK kvs)) (ry : cL (kV k) u) (l : fG kvs k = some v) (hm : more = [] ∨ ∃ x, more = [x])
  (h : ∀ w' s', Inv X pins σ (upd H a (.dK (jZ kvs k))) s' → cL v w' → Q w' s') : wpAny (model X.prog X.w) A (call (.builtin "dict.pop") (.ref a :: u :: more)) Q E s := by
 obtain ⟨z, hd, vs, rel, dd⟩ := mI I.hok e
 obtain ⟨w', hw, rw'⟩ := j5.some_of (v := v) (o := valueAt vs k) (by rw [← l]; exact rel.val k)
 have hp : (keyPart u).isSome = true := by
  cases k with
  | inl i => obtain ⟨t, q⟩ := (show ∃ t, u = Value.int i t from ry); subst q; rfl
  | inr x => obtain ⟨t, q⟩ := (show ∃ t, u = Value.str x t from ry); subst q; rfl
 have ha : argsOk "dict.pop" ⟨.ref a :: u :: more, []⟩ := by
  rcases hm with q | ⟨x, q⟩
  ·subst q; exact PySem.F.args_dict_pop_2 _ _
  ·subst q; exact PySem.F.args_dict_pop_3 _ _ _
 refine call_meetsIn PySem.F.slot_dict_pop dd.typeIs PySem.F.entry_dict_pop ha (meets_dict_pop_there (bS X.prog X.w) a (mw ry) more hm hp)
  ⟨vs, w', dd, by rw [← rel.length]; exact z, hw, fun h' dd' hs => h w' _ ?_ rw'⟩
 have he : ∃ q, h'.get? a = some q := let ⟨q, _, _, hq, _⟩ := dd'; ⟨q, hq⟩
 exact mK I (by rw [e]; exact True.intro) hs he (vt (Nat.le_trans (uq kvs k) z) hd (rel.drop k) dd')
theorem Ct {Q : Value → Shared → Prop} (I : Inv X pins σ H s) (e : Rd H a (.dK kvs)) (h : ∀ t s', Inv X pins σ H s' → Q (.int kvs.length t) s') : wpAny (model X.prog X.w) A (call (.builtin "len") [.ref a]) Q E s := by
 obtain ⟨z, hd, vs, rel, dd⟩ := lB I.hok e
 refine call_len_dict hd dd (by rw [← rel.length]; rw [sizeLine_eq] at z; omega) ?_
 rw [← rel.length]
 exact h _ _ (I.tok _)
end
noncomputable def AM (i : Expr) : Prop := ∀ ov iv, subscripted i false ov iv = operate [ov, iv] (getItem ov iv)
theorem wu {prog : Program} {w : World} {A : Around} {E : Value → Shared → Prop} {s : Shared} {env : Env} {value slice : Expr} {pos : Pos} {T id : String} {Q : Value → Shared → Prop}
  (hl : typeLookup (.type T) "__getitem__" = pure (some (.builtin id))) (hs : AM slice)
  (h : wpAny (model prog w) A (eval value env) (fun o s₁ => wpAny (model prog w) A (eval slice env) (fun i s₂ => s₂.TypeIs o T ∧ wpAny (model prog w) A (getItem o i) Q E s₂) E s₁) E s) :
  wpAny (model prog w) A (eval (.Subscript value slice pos) env) Q E s := by
 refine Subscript_ (wpAny_mono h (fun o s₁ h₁ => wpAny_mono h₁ (fun i s₂ h₂ => ?_) fun _ _ x => x) fun _ _ x => x)
 obtain ⟨hT, h₂⟩ := h₂
 unfold subscriptTail
 refine wpAny_bind ?_
 rw [getitemInPython_of_ne hT.not_modules]
 refine wpAny_bind (wpAny_specialOf hT hl ?_)
 have fin : wpAny (model prog w) A (subscripted slice false o i) (fun r s₃ => wpAny (model prog w) A (letTemporaryGo value o r >>= fun _ => pure r) Q E s₃) E s₂ := by
  rw [hs o i]
  exact wpAny_operating (wpAny_mono h₂ (fun r s₃ h₃ => wpAny_bind (wpAny_letTemporaryGo (wpAny_pure h₃))) fun _ _ x => x)
 first
  | exact wpAny_pure (wpAny_bind fin)
  | exact wpAny_bind (wpAny_pure (wpAny_bind fin))
  | exact wpAny_bind fin
theorem mJ {X : Cx} {pins : List (Addr × Obj)} {σ : St} {H : Hp} {s : Shared} {a : Addr} {y : V} {o : Option V} (I : Inv X pins σ H s) (g : DGet H a y o) : s.TypeIs (.ref a) "dict" := by
 rcases g with ⟨kvs, k, e, _, _⟩ | ⟨kvs, k, b, e, _, _, _⟩
 ·obtain ⟨_, _, vs, _, dd⟩ := lB I.hok e
  exact dd.typeIs
 ·obtain ⟨_, _, xs, _, dd⟩ := mH I.hok e
  exact dd.typeIs
noncomputable def yQ (td ty : TE) : TE := fun σ H Q => td σ H fun x H1 => ty σ H1 fun y H2 => ∃ a v, x = .ref a ∧ DGet H2 a y (some v) ∧ Q v H2
noncomputable def BD (ty td : TE) : TE := fun σ H Q => ty σ H fun y H1 => td σ H1 fun x H2 => ∃ a o, x = .ref a ∧ DGet H2 a y o ∧ Q (.bl o.isSome) H2
noncomputable def me (ty td : TE) : TE := fun σ H Q => ty σ H fun y H1 => td σ H1 fun x H2 => ∃ a o, x = .ref a ∧ DGet H2 a y o ∧ Q (.bl (!o.isSome)) H2
noncomputable def yU (td ty tv : TE) : TS := fun D σ H => tv σ H fun v H1 => td σ H1 fun x H2 => ty σ H2 fun y H3 => ∃ a H4, x = .ref a ∧ Ao H3 a y v H4 ∧ D.nx σ H4
section
variable {X : Cx} {o i e value : Expr} {pos pos' tpos : Pos} {td ty tv : TE}
theorem wR (hu : X.A.units + 1 < cLine) (ho : PE X o td) (hi : PE X i ty) (hs : AM i) : PE X (.Subscript o i pos) (yQ td ty) := by
 intro pins s σ H Q I h
 refine wu PySem.F.slot_dict_getitem.lookup hs (thn (ho pins s σ H _ I h) fun u s1 ⟨x, H1, I1, rx, q1⟩ => thn (hi pins s1 σ H1 _ I1 q1) fun iv s2 hz => ?_)
 obtain ⟨y, H2, I2, ry, a, v, ex, g, q2⟩ := hz
 subst ex
 obtain rfl : u = Value.ref a := rx
 exact ⟨mJ I2 g, rb hu I2 g ry fun w' s3 I3 rw' => ⟨v, H2, I3, rw', q2⟩⟩
theorem zu (hu : X.A.units + 1 < cLine) (hi : PE X i ty) (ho : PE X o td) : PC X .In i o (BD ty td) := by
 intro pins s σ H Q I h
 refine thn (hi pins s σ H _ I h) fun iv s1 ⟨y, H1, I1, ry, q1⟩ => thn (ho pins s1 σ H1 _ I1 q1) fun u s2 hz => ?_
 obtain ⟨x, H2, I2, rx, a, ov, ex, g, q2⟩ := hz
 subst ex
 obtain rfl : u = Value.ref a := rx
 exact DJ hu I2 g ry fun s3 I3 => ⟨.bl ov.isSome, H2, I3, rfl, q2⟩
theorem qg (hu : X.A.units + 1 < cLine) (hi : PE X i ty) (ho : PE X o td) : PC X .NotIn i o (me ty td) := by
 intro pins s σ H Q I h
 refine thn (hi pins s σ H _ I h) fun iv s1 ⟨y, H1, I1, ry, q1⟩ => thn (ho pins s1 σ H1 _ I1 q1) fun u s2 hz => ?_
 obtain ⟨x, H2, I2, rx, a, ov, ex, g, q2⟩ := hz
 subst ex
 obtain rfl : u = Value.ref a := rx
 exact xD hu I2 g ry fun s3 I3 => ⟨.bl (!ov.isSome), H2, I3, rfl, q2⟩
theorem wJ (hu : X.A.units + 1 < cLine) (ho : PE X o td) (hi : PE X i ty) (hv : PE X value tv) (hs : swapsWith value (some (.Subscript o i pos')) pos.line X.env = pure false) :
  PS X (.Assign [.Subscript o i pos'] value pos) (yU td ty tv) := by
 intro pins s σ H D I h
 refine wpAny_Assign_Subscript (thn (hv pins s σ H _ I h) fun r s1 ⟨v, H1, I1, rv, q1⟩ => thn (ho pins s1 σ H1 _ I1 q1) fun u s2 ⟨x, H2, I2, rx, q2⟩ => thn (hi pins s2 σ H2 _ I2 q2) fun iv s3 hz => ?_) hs
 obtain ⟨y, H3, I3, ry, a, H4, ex, g, q3⟩ := hz
 subst ex
 obtain rfl : u = Value.ref a := rx
 exact ra hu I3 g ry rv fun s4 I4 => ⟨σ, H4, I4, q3⟩
end
theorem uu {P : Program} {w : World} {H : Hp} (h : Heap) (hb : sysModules < h.objs.size) : dG P w H (h.push { cls := .type "dict", data := .dict #[] }) h.objs.size (.dK []) :=
 ⟨Nat.zero_le _, beq_eq_false_iff_ne.mpr (Ne.symm (Nat.ne_of_lt hb)), [], .nil, Heap.DictOf.new h⟩
noncomputable def uO : TE := fun _ H Q => ∀ p, H p = none → Q (.ref p) (upd H p (.dK []))
section
variable {X : Cx} {pos : Pos}
theorem sT : PE X (.Dict [] [] pos) uO := fun pins s σ H Q I h =>
 wpAny_Dict_empty ⟨.ref s.heap.objs.size, _, I.laid (a := s.heap.objs.size) (o := .dK []) (t' := s.toks) (fun _ _ q => Heap.get?_push_of_some _ q) (Nat.le_refl _) (uu s.heap I.big), rfl, h _ (I.hok.fresh (Nat.le_refl _))⟩
end
structure M1 (X : Cx) (o : Expr) (m : Str) (apos : Pos) (e : Expr) (cpos : Pos) : Prop where
 base : attributeBase o m X.env (eval o X.env) = eval o X.env
 few : ((backTo cpos (starEach [e] X.env)).all (fun x => !x.1) && (backToKw cpos (keywordEach [] X.env)).all (fun x => x.1.isSome)
  && decide (([e] : List Expr).length + ([] : List Keyword).length + (if ([] : List Keyword).isEmpty then 0 else 1) < 30)) = true
 line : (apos.endLine == cpos.line) = true
 trees : backTo cpos (starEach [e] X.env) = [(false, eval e X.env)]
structure M2 (X : Cx) (o : Expr) (m : Str) (apos : Pos) (e f : Expr) (cpos : Pos) : Prop where
 base : attributeBase o m X.env (eval o X.env) = eval o X.env
 few : ((backTo cpos (starEach [e, f] X.env)).all (fun x => !x.1) && (backToKw cpos (keywordEach [] X.env)).all (fun x => x.1.isSome)
  && decide (([e, f] : List Expr).length + ([] : List Keyword).length + (if ([] : List Keyword).isEmpty then 0 else 1) < 30)) = true
 line : (apos.endLine == cpos.line) = true
 trees : backTo cpos (starEach [e, f] X.env) = [(false, eval e X.env), (false, eval f X.env)]
noncomputable def IsD (H : Hp) (a : Addr) : Prop := (∃ kvs, Rd H a (.dK kvs)) ∨ ∃ kvs, Rd H a (.dT kvs)
theorem vf {X : Cx} {pins : List (Addr × Obj)} {σ : St} {H : Hp} {s : Shared} {a : Addr} (I : Inv X pins σ H s) (d : IsD H a) :
  s.TypeIs (.ref a) "dict" ∧ (∀ b, Value.ref a = .ref b → ∃ ob, s.heap.get? b = some ob ∧ ob.dict = none) ∧ (a == sysModules) = false := by
 rcases d with ⟨kvs, e⟩ | ⟨kvs, e⟩
 ·obtain ⟨_, hd, vs, _, dd⟩ := lB I.hok e
  refine ⟨dd.typeIs, fun b q => ?_, hd⟩
  cases q
  obtain ⟨ob, _, _, h1, h2, _⟩ := dd
  exact ⟨ob, h1, h2.2.1⟩
 ·obtain ⟨_, hd, xs, _, dd⟩ := mH I.hok e
  refine ⟨dd.typeIs, fun b q => ?_, hd⟩
  cases q
  obtain ⟨ob, _, _, h1, h2, _⟩ := dd
  exact ⟨ob, h1, h2.2.1⟩
section
variable {X : Cx} {pins : List (Addr × Obj)} {σ : St} {H : Hp} {s : Shared} {a : Addr} {y d : V} {u r : Value} {o : Option V} {A : Around} {E : Value → Shared → Prop}
theorem Af {Q : Value → Shared → Prop} (hu : A.units + 1 < cLine) (I : Inv X pins σ H s) (g : DGet H a y o) (ry : cL y u) (rd : cL d r) (h : ∀ w' s', Inv X pins σ H s' → cL (o.getD d) w' → Q w' s') :
  wpAny (model X.prog X.w) A (call (.builtin "dict.get") [.ref a, u, r]) Q E s := by
 rcases g with ⟨kvs, k, e, ey, l⟩ | ⟨kvs, k, b, e, ey, eb, l⟩
 ·subst ey
  obtain ⟨z, hd, vs, rel, dd⟩ := lB I.hok e
  refine call_meetsIn PySem.F.slot_dict_get dd.typeIs PySem.F.entry_dict_get (PySem.F.args_dict_get_3 _ _ _) (meets_dict_get_default (bS X.prog X.w) a (mw ry) hd r) ⟨_, dd.mapOf, h _ _ (I.tok _) ?_⟩
  rw [l]
  exact (rel.val k).getD rd
 ·subst ey
  cases (show u = Value.ref b from ry)
  obtain ⟨z, hd, xs, rel, dd⟩ := mH I.hok e
  refine call_meetsIn PySem.F.slot_dict_get dd.typeIs PySem.F.entry_dict_get (PySem.F.args_dict_get_3 _ _ _) (meetsH_dict_get_default (tupleKind (bS X.prog X.w)) a b hd r) ⟨tupleKind_room_in1 hu, k, xs, jD I.hok eb, dd, h _ _ (I.tok _) ?_⟩
  rw [l]
  exact (rel.val k).getD rd
end
noncomputable def uP (td ty tx : TE) : TE := fun σ H Q => td σ H fun x H1 => ∃ a, x = .ref a ∧ IsD H1 a ∧ ty σ H1 fun y H2 => tx σ H2 fun z H3 => ∃ o, DGet H3 a y o ∧ Q (o.getD z) H3
noncomputable def uN (td ty : TE) : TE := fun σ H Q => td σ H fun x H1 => ∃ a, x = .ref a ∧ IsD H1 a ∧ ty σ H1 fun y H2 => ∃ kvs k v, H2 a = some (.dK kvs) ∧ y = kV k ∧ fG kvs k = some v ∧ Q v (upd H2 a (.dK (jZ kvs k)))
section
variable {X : Cx} {o e f : Expr} {apos cpos : Pos} {td ty tx : TE}
theorem sU (hu : X.A.units + 1 < cLine) (ho : PE X o td) (he : PE X e ty) (hf : PE X f tx) (m : M2 X o "get" apos e f cpos) : PE X (.Call (.Attribute o "get" apos) [e, f] [] cpos) (uP td ty tx) := by
 intro pins s σ H Q I h
 refine wpAny_Call_method m.base m.few m.line PySem.F.plainAttrs_dict PySem.F.slot_dict_get PySem.F.type_dict_get (thn (ho pins s σ H _ I h) fun u s1 hz => ?_)
 obtain ⟨x, H1, I1, rx, a, ex, d, q1⟩ := hz
 subst ex
 obtain rfl : u = Value.ref a := rx
 obtain ⟨t1, t2, _⟩ := vf I1 d
 refine ⟨t1, t2, ?_⟩
 rw [m.trees]
 refine Calls.callWith_builtin rfl (Calls.evalArgs_plain (Calls.spliced_cons (thn (he pins s1 σ H1 _ I1 q1) fun iv s2 ⟨y, H2, I2, ry, q2⟩ =>
  Calls.spliced_cons (thn (hf pins s2 σ H2 _ I2 q2) fun fv s3 ⟨z, H3, I3, rz, ov, g, q3⟩ => Calls.spliced_nil ?_))))
 exact Af hu I3 g ry rz fun w' s4 I4 rw' => ⟨_, H3, I4, rw', q3⟩
theorem sS (ho : PE X o td) (he : PE X e ty) (m : M1 X o "pop" apos e cpos) : PE X (.Call (.Attribute o "pop" apos) [e] [] cpos) (uN td ty) := by
 intro pins s σ H Q I h
 refine wpAny_Call_method m.base m.few m.line PySem.F.plainAttrs_dict PySem.F.slot_dict_pop PySem.F.type_dict_pop (thn (ho pins s σ H _ I h) fun u s1 hz => ?_)
 obtain ⟨x, H1, I1, rx, a, ex, d, q1⟩ := hz
 subst ex
 obtain rfl : u = Value.ref a := rx
 obtain ⟨t1, t2, _⟩ := vf I1 d
 refine ⟨t1, t2, ?_⟩
 rw [m.trees]
 refine Calls.callWith_builtin rfl (Calls.evalArgs_plain (Calls.spliced_cons (thn (he pins s1 σ H1 _ I1 q1) fun iv s2 ⟨y, H2, I2, ry, kvs, k, v, ea, ey, l, q2⟩ => Calls.spliced_nil ?_)))
 subst ey
 exact Cs I2 ea ry l (.inl rfl) fun w' s3 I3 rw' => ⟨v, _, I3, rw', q2⟩
end
end L2
namespace Att
open PySem PySem.W PySem.Calls PyProof.Rows
theorem iN {P : Params} {h : Heap} : ∀ (ns : List Int) (vs : List Value), WellAll P h vs (ns.map WData.int) → IntsAre vs ns := by
 intro ns
 induction ns with
 | nil =>
  intro vs w
  rw [List.map_nil] at w
  cases w
  exact .nil
 | cons n ns ih =>
  intro vs w
  rw [List.map_cons] at w
  cases w with
  | cons a b =>
   cases a
   exact .cons _ _ (ih _ b)
theorem pV {l : OpenLaw} {n : Nat} (hn : l.most = some n) {P : Params} {h : Heap} {args : List WData} {vals : List Value}
  (hpre : l.row.toRowW.claim.pre args = true) (hwl : WellAll P h vals args) :
  ∃ a vs ns, vals = [Value.ref a] ∧ args = [WData.list (ns.map WData.int)] ∧ h.get? a = some { cls := .type "list", data := .seq vs.toArray } ∧ IntsAre vs ns ∧ ns.length ≤ n := by
 have hsh : WShape.hasAll [] args [.list .int] = true := (pre_splitW hpre).1
 have hc : l.pre.holds [] { args := args } = true := (pre_splitW hpre).2
 obtain ⟨d, r, rfl, h1, h2⟩ := hasAllW_cons hsh
 obtain rfl := hasAllW_nil h2
 obtain ⟨xs, rfl, h3⟩ := hasW_list h1
 obtain ⟨ns, rfl⟩ := items_int h3
 have fe : ns.length ≤ n := by
  unfold OpenLaw.pre at hc
  have h4 : (WTm.not (.lt (.lit (.int (n : Int))) (.len (.arg 0)))).holds [] { args := [.list (ns.map .int)] } = true := by
   have h4 := (holds_andW hc).1
   rw [hn] at h4
   exact h4
  have h5 := condW_of h4 (w_not (w_lt w_lit (w_len_list (w_arg rfl))))
  rw [List.length_map] at h5
  refine Nat.le_of_not_lt fun q => ?_
  have q' : (n : Int) < ((ns.length : Nat) : Int) := by omega
  first
   | (rw [decide_eq_true q'] at h5; exact absurd h5 (by decide))
   | (simp at h5; omega)
 cases hwl with
 | cons w1 w2 =>
  cases w2
  cases w1 with
  | list ho hall => exact ⟨_, _, ns, rfl, rfl, ho, iN ns _ hall, fe⟩
theorem qc (l : OpenLaw) (args : List WData) : l.row.toRowW.claim.post args (.bool true) args = true :=
 postW_of (r := l.row.toRowW) (X := (true == true))
  (show WShape.has [] (.bool true) .bool = true by first | rfl | decide | simp [WShape.has, WShape.arms, WShape.armsAll])
  (show (WTm.eq .res (.lit (.bool true))).value [] { args := args, res := some (.bool true), after := args } = some (.bool (true == true)) from w_eq_bool (w_res rfl) w_lit) rfl
theorem attach_call {l : OpenLaw} {n : Nat} {q : Program} {loose : List Str} {XP : (Str → Option Value) → Heap → Prop} {YP : World → Heap → Prop} {d : DefRec}
  (hn : l.most = some n) (hdf : d.params.defaults = [])
  (call : ∀ (w : World) (s₀ s₁ : Shared) (mg mb : Str → Option Value) (fa : Addr) (o : Obj) (pm cd doc : Value) (a : Addr) (vs : List Value) (ns : List Int),
   Ground q loose [] XP w s₀ mg mb s₁.heap → YP w s₁.heap →
   s₁.heap.get? fa = some o → o.data = .func (docDef d.name d.params d.body d.scope pm cd doc) → s₁.heap.CodeRec cd d.name → mg d.name = some (.ref fa) →
   s₁.heap.get? a = some { cls := .type "list", data := .seq vs.toArray } → IntsAre vs ns → ns.length ≤ n → s₁.gens = #[] →
   codeAny (model l.prog w) callerA (.call (.ref fa) ⟨[.ref a], []⟩) (fun r s' => r = .ok (.ret (.bool true)) ∧ OldK s₁.heap s'.heap ∧ s'.os = s₁.os ∧ AllBare s'.gens) s₁) :
  WalkO q loose XP YP l.row.toRowW d [] (fun f vs => PySem.call f vs) := by
 intro w s₀ s₁ mg mb G Y fa o pm cd doc dV kV ho hd hcd hD hmg hg args vals as hpre hlay hrd hwl hlo
 obtain rfl : dV = .none := Dflts.none hD hdf
 obtain rfl : kV = .none := Dflts.noKw hD
 obtain ⟨a, vs, ns, rfl, rfl, hobj, hints, fe⟩ := pV hn hpre hwl
 refine enter_call (codeAny_mono (call w s₀ s₁ mg mb fa o pm cd doc a vs ns G Y ho (fd_plain hd) hcd hmg hobj hints fe hg) fun r s' hq => ?_)
 obtain ⟨rfl, h2, h3, h4⟩ := hq
 exact ⟨.inl ⟨.bool true, .bool true, [], rfl, fun _ => rfl, .bool true, qc l _, fun _ => ⟨List.Pairwise.nil, fun _ hm => (nomatch hm)⟩⟩, h2, h3, h4⟩
end Att
namespace L2
open PySem PySem.Spec PyProof.Rows
theorem fi : ∀ {vs : List Value} {ns : List Int}, IntsAre vs ns → bR (ns.map V.int) vs
 | _, _, .nil => .nil
 | _, _, .cons n t h => .cons ⟨t, rfl⟩ (fi h)
noncomputable def AL (H : Hp) : Prop := ∀ b, H b = none ∨ ∃ o xs, H b = some (.frz o (.lst xs))
theorem tW {P : Program} {w : World} {K : PySem.W.Frag} {mg mb : Str → Option Value} {CX : CXT} {k : Nat} {fa a : Addr} {fd : FuncData} {x : Str} {sp : Sp} {s₁ : Shared} {vs : List Value} {ns : List Int}
  (KX : K.In s₁.heap) (hns : s₁.heap.Ns mainGlobals mg) (hb : s₁.heap.Ns builtinsNs mb) (hbb : ∀ x : Str, x ≠ "__name__" → mb x = bootBuiltins x) (hlim : s₁.heap.NoLimit) (hg : s₁.gens = #[])
  (ha : s₁.heap.get? a = some { cls := .type "list", data := .seq vs.toArray }) (hi : IntsAre vs ns) (hl : ns.length ≤ sizeLine) (hr : fh k callerA)
  (F : ∀ base : Heap, K.In base → base.Ns mainGlobals mg → iA P w K mg base CX k fa fd [x] sp) (hbind : ∀ (s : Shared) (u : Value), BindsTo s fd ⟨[u], []⟩ [(x, u)])
  (hsp : ∀ H : Hp, AL H → SqL K H a (ns.map V.int) → sp [.ref a] H (fun v _ => v = .bl true) fun _ _ _ => False)
  (hCX : ∀ H e s', CX [] H s₁ (fun _ _ _ => False) e s' → False) :
  codeAny (model P w) callerA (.call (.ref fa) ⟨[.ref a], []⟩) (fun r s' => r = .ok (.ret (.bool true)) ∧ OldK s₁.heap s'.heap ∧ s'.os = s₁.os ∧ AllBare s'.gens) s₁ := by
 have rv := fi hi
 have lenV := hi.length
 have core : ∀ H : Hp, AL H → SqL K H a (ns.map V.int) → HOk P w H s₁.heap → (∀ b, H b ≠ none → b = a) → (H a ≠ none → K.lookup a = none) →
   codeAny (model P w) callerA (.call (.ref fa) ⟨[.ref a], []⟩) (fun r s' => r = .ok (.ret (.bool true)) ∧ OldK s₁.heap s'.heap ∧ s'.os = s₁.os ∧ AllBare s'.gens) s₁ := by
  intro H hO hS hok hA hK
  have base_of : ∀ {b : Addr} {o : Obj}, s₁.heap.get? b = some o → H b = none → (ud s₁.heap H).get? b = some o := fun e n => uc e n
  have noA : ∀ {b : Addr} {o : Obj} {es : Array DictEntry} {ep : Nat}, s₁.heap.get? b = some o → o.data = .dict es ep → H b = none := fun {b o es ep} e d => by
   cases q : H b with
   | none => rfl
   | some u =>
    have e' : b = a := hA b (by rw [q]; simp)
    subst e'
    rw [ha] at e; cases e
    have d' : Data.seq vs.toArray _ = Data.dict es ep := d
    cases d'
  have nsK : ∀ {b : Addr} {m : Str → Option Value}, s₁.heap.Ns b m → (ud s₁.heap H).Ns b m := fun {b m} ⟨o, es, ep, e, d, r⟩ => ⟨o, es, ep, base_of e (noA e d), d, r⟩
  have hKb : K.In (ud s₁.heap H) := fun b o e => base_of (KX b o e) (by
   cases q : H b with
   | none => rfl
   | some u =>
    have e' : b = a := hA b (by rw [q]; simp)
    subst e'
    rw [hK (by rw [q]; simp)] at e; cases e)
  have hM : Mod K mg (ud s₁.heap H) := ⟨hKb, nsK hns, ⟨mb, nsK hb, hbb⟩, let ⟨mc, h1, h2⟩ := hlim; ⟨mc, nsK h1, h2⟩⟩
  have e0 : xQ P w K mg (ud s₁.heap H) callerA [] s₁ H := ⟨rfl, hM, fun b o e => xg e, Nat.le_of_eq (qP _ _), trivial, fun b hb => absurd (show b ∈ ([] : List Addr) from hb) (by simp), hok, .of_eq hg⟩
  refine codeAny_mono ((F _ hKb (nsK hns)).run callerA [] s₁ H ⟨[.ref a], []⟩ [.ref a] [.ref a] _ _ hr e0 (hbind s₁ (.ref a)) (.cons rfl .nil) (hsp H hO hS)) fun r s' h => ?_
  cases r with
  | error e => exact (hCX H e s' h).elim
  | ok fl =>
   cases fl with
   | next => exact False.elim h
   | brk => exact False.elim h
   | cont => exact False.elim h
   | ret u =>
    obtain ⟨v, H', os, bare, un, hok', r', q⟩ := h
    have q' : v = .bl true := q
    subst q'
    obtain rfl : u = Value.bool true := r'
    refine ⟨rfl, OldK.of_keep fun b o e => ?_, os, bare⟩
    cases q : H b with
    | none => exact un.keep b o e q (by intro z; exact absurd (show b ∈ ([] : List Addr) from z) (by simp)) (by simp)
    | some u =>
     rcases hO b with z | ⟨ob, xs, z⟩
     ·rw [q] at z; cases z
     ·have z2 := un.frzs b ob _ z
      obtain ⟨e1, _⟩ := hok b _ z
      obtain ⟨e2, _⟩ := hok' b _ z2
      rw [e] at e1; cases e1
      exact e2
 cases hk : K.lookup a with
 | some o =>
  have e := KX a o hk
  rw [ha] at e
  cases e
  refine core (fun _ => none) (fun _ => .inl rfl) (.inr ⟨_, vs.toArray, _, hk, rfl, rfl, rfl, by rw [List.size_toArray, lenV]; exact hl, by simpa using rv⟩) (fun b u z => by have z' : (none : Option HO) = some u := z; cases z') (fun b z => absurd rfl z) fun z => absurd rfl z
 | none =>
  refine core (fun b => if b = a then some (.frz { cls := .type "list", data := .seq vs.toArray } (.lst (ns.map V.int))) else none) (fun b => ?_) (.inl (.inr ⟨{ cls := .type "list", data := .seq vs.toArray }, if_pos rfl⟩)) (fun b u z => ?_) (fun b z => ?_) fun _ => hk
  ·by_cases hb : b = a
   ·exact .inr ⟨_, _, if_pos hb⟩
   ·exact .inl (if_neg hb)
  ·by_cases hb : b = a
   ·have z' := (if_pos hb).symm.trans z
    cases z'
    subst hb
    exact ⟨ha, by rw [List.length_map]; exact hl, vs, _, rv, ha⟩
   ·have z' := (if_neg hb).symm.trans z
    cases z'
  ·by_cases hb : b = a
   ·exact hb
   ·exact absurd (if_neg hb) z
theorem wm {l : PySem.W.OpenLaw} {n k : Nat} {q : Program} {loose : List Str} {XP : (Str → Option Value) → Heap → Prop} {YP : World → Heap → Prop} {d : DefRec} {K : Params → PySem.W.Frag} {CX : World → CXT} {sp : World → Sp} {x : Str}
  (hn : l.most = some n) (hn2 : n ≤ sizeLine) (hdf : d.params.defaults = []) (hr : fh k callerA)
  (hY : ∀ (w : World) (h : Heap), YP w h → (K w.params).In h)
  (F : ∀ (w : World) (mg : Str → Option Value) (fa : Addr) (h : Heap), (K w.params).In h → h.Ns mainGlobals mg → mg d.name = some (.ref fa) →
   ∃ fd : FuncData, (∀ (s : Shared) (u : Value), BindsTo s fd ⟨[u], []⟩ [(x, u)]) ∧
    ∀ base : Heap, (K w.params).In base → base.Ns mainGlobals mg → iA l.prog w (K w.params) mg base (CX w) k fa fd [x] (sp w))
  (hsp : ∀ (w : World) (H : Hp) (a : Addr) (ns : List Int), ns.length ≤ n → AL H → SqL (K w.params) H a (ns.map V.int) → sp w [.ref a] H (fun v _ => v = .bl true) fun _ _ _ => False)
  (hCX : ∀ (w : World) (H : Hp) (s : Shared) (e : Value) (s' : Shared), CX w [] H s (fun _ _ _ => False) e s' → False) :
  PySem.W.WalkO q loose XP YP l.row.toRowW d [] (fun f vs => PySem.call f vs) := by
 refine Att.attach_call hn hdf fun w s₀ s₁ mg mb fa o pm cd doc a vs ns G Y ho hd hcd hmg hobj hints fe hg => ?_
 have KX := hY w _ Y
 obtain ⟨fd, hb, hF⟩ := F w mg fa _ KX G.T.g hmg
 exact tW KX G.T.g G.T.b G.T.builtins G.T.nolimit hg hobj hints (Nat.le_trans fe hn2) hr hF hb (fun H hO hS => hsp w H a ns fe hO hS) fun H e s' => hCX w H s₁ e s'
noncomputable def cR (s : Stmt) (j : Nat) : Stmt := match s with
 | .ClassDef _ _ _ body _ _ _ _ _ _ _ => body.getD j (.Pass ⟨0, 0, 0, 0⟩)
 | _ => .Pass ⟨0, 0, 0, 0⟩
noncomputable def ba (s : Stmt) : Arguments := match s with
 | .FunctionDef _ a _ _ _ _ _ _ _ _ => a
 | _ => { posonlyargs := [], args := [], vararg := none, kwonlyargs := [], kw_defaults := [], kwarg := none, defaults := [] }
noncomputable def aQ (s : Stmt) : List Stmt := match s with
 | .FunctionDef _ _ b _ _ _ _ _ _ _ => b
 | _ => []
noncomputable def aq (s : Stmt) : Scope := match s with
 | .FunctionDef _ _ _ _ _ _ sc _ _ _ => sc
 | _ => { kind := .function, names := [], isGenerator := false, isCoroutine := false }
noncomputable abbrev CX0 : CXT := fun _ _ _ _ _ _ => False
noncomputable abbrev E0 : XK := fun _ _ _ => False
theorem sW {X : Cx} : fS CX0 X E0 := fun _ _ _ _ _ _ _ h => h.elim
structure Fun (K : PySem.W.Frag) (x qual : Str) (st : Stmt) (f : Addr) (fd : FuncData) : Prop where
 ex : ∃ (oc : Value) (od : Option Addr) (kV doc pm : Value) (an : Option Addr) (cdv ct : Value) (osl : Array (Option Value)),
  fd = PySem.W.fnOf x qual (ba st) (aQ st) (aq st) .none kV doc pm an cdv ct ∧ K.lookup f = some ⟨oc, od, .func fd, osl⟩ ∧ PySem.W.codeIn K cdv qual = true
 kp : PySem.W.keepIn K (.ref f) = true
section
variable {P : Program} {w : World} {K : PySem.W.Frag} {mg : Str → Option Value} {base : Heap}
theorem Fun.ok {x qual : Str} {st : Stmt} {f : Addr} {fd : FuncData} {N ps : List Str} {k : Nat} {sp : Sp} (F : Fun K x qual st f fd) (S : aW N ps (aq st)) (len : ∀ vs H Q E, sp vs H Q E → vs.length = ps.length)
  (hbody : ∀ (cdv : Value) (A : Around) (outer : List Env) (s : Shared) (H : Hp) (vs : List V) (Q : VK) (E : XK), fh k (A.deeper (envOfC qual (aq st) s.heap.objs.size f cdv)) → sp vs H Q E →
   ∃ t, PSs (oW CX0 P w K mg base N qual (aq st) f cdv A outer s H E).nox (aQ st) t ∧ t { nx := fun _ H' => Q .non H', rt := Q } (gj N vs) H) : iA P w K mg base CX0 (k + 1) f fd ps sp := by
 obtain ⟨oc, od, kV, doc, pm, an, cdv, ct, osl, rfl, lk, hcd⟩ := F.ex
 refine Cq lk hcd S len fun A outer s H vs Q E hr hsp => ?_
 obtain ⟨t, h, q⟩ := hbody cdv A outer s H vs Q E hr hsp
 exact ⟨t, h.nox, q⟩
theorem Fun.binds {x qual : Str} {st : Stmt} {f : Addr} {fd : FuncData} {ps : List Str} (F : Fun K x qual st f fd)
  (h : ∀ (kV doc pm : Value) (an : Option Addr) (cdv ct : Value) (us : List Value), us.length = ps.length → bindArgs (PySem.W.fnOf x qual (ba st) (aQ st) (aq st) .none kV doc pm an cdv ct) ⟨us, []⟩ = pure (ps.zip us)) : cS K fd ps [] := by
 obtain ⟨oc, od, kV, doc, pm, an, cdv, ct, osl, rfl, lk, hcd⟩ := F.ex
 exact .all (h kV doc pm an cdv ct)
theorem cY {x qual : Str} {st : Stmt} {f : Addr} {oc : Value} {od an : Option Addr} {osl : Array (Option Value)} {kV doc pm cdv ct : Value} (l : K.lookup f = some ⟨oc, od, .func (PySem.W.fnOf x qual (ba st) (aQ st) (aq st) .none kV doc pm an cdv ct), osl⟩)
  (c : PySem.W.codeIn K cdv qual = true) (k : PySem.W.keepIn K (.ref f) = true) : Fun K x qual st f (PySem.W.fnOf x qual (ba st) (aQ st) (aq st) .none kV doc pm an cdv ct) := ⟨⟨oc, od, kV, doc, pm, an, cdv, ct, osl, rfl, l, c⟩, k⟩
end
theorem eF {A : Around} {k : Nat} (hr : fh k A) : A.units + 1 < cLine := Nat.lt_of_le_of_lt (Nat.add_le_add_left (by decide : 1 ≤ 64) _) hr.units
theorem pS {n : Nat} (h : n ≤ 1000) : n < sizeLine := Nat.lt_of_le_of_lt h (by decide)
section
variable {X : Cx}
theorem pv (i : Nat) {x : Str} {pos : Pos} (hN : X.N[i]? = some x := by rfl) (hv : Vis X.env.scope x := by first | exact Or.inl rfl | exact Or.inr (Or.inl rfl) | exact Or.inr (Or.inr rfl)) (hd : (x == ("__debug__" : Str)) = false := by decide)
  (hcd : (x == ("__classdict__" : Str)) = false := by decide) : PE X (.Name x pos) (Ap i) := zj hN hv hd hcd
theorem rj : eJ X (.builtin "len") (fun xs H Q => ∃ a kvs, xs = [V.ref a] ∧ H a = some (.dK kvs) ∧ Q (.int kvs.length) H) := by
 intro pins s σ H xs us Q I r h
 obtain ⟨a, kvs, rfl, ha, q⟩ := h
 obtain ⟨u, rfl, ru⟩ := lY r
 cases ru
 exact Ct I (.inl ha) fun t s' I' => ⟨.int kvs.length, H, I', ⟨t, rfl⟩, q⟩
end
theorem AE {A B : Prop} (h : B) : if false = true then A else B := by
 rw [if_neg Bool.false_ne_true]
 exact h
theorem AD {A B : Prop} (h : A) : if true = true then A else B := by
 rw [if_pos rfl]
 exact h
noncomputable def vx (H H' : Hp) : Prop := ∀ b o, H b = some o → H' b = some o
theorem vx.refl (H : Hp) : vx H H := fun _ _ h => h
end L2
namespace OG
open PySem PySem.Spec PyProof.Rows L2
structure WE (X : Cx) (e : Expr) (t : TE) : Prop where
 h : PE X e t
structure WT (X : Cx) (e : Expr) (t : TT) : Prop where
 h : PT X e t
structure WW (X : Cx) (e : Expr) (t : TT) : Prop where
 h : PW X e t
structure WA (X : Cx) (es : List Expr) (t : TA) : Prop where
 h : PA X es t
structure WS (X : Cx) (st : Stmt) (t : TS) : Prop where
 h : PS X st t
structure WSs (X : Cx) (st : List Stmt) (t : TS) : Prop where
 h : PSs X st t
structure WI (X : Cx) (tg iter : Expr) (wi : TI) : Prop where
 h : PI X tg iter wi
structure WG (X : Cx) (target : Expr) (t : TG) : Prop where
 h : PG X target t
structure WGs (X : Cx) (ts : List Expr) (t : TGs) : Prop where
 h : PGs X ts t
structure WC (X : Cx) (op : CmpOp) (a b : Expr) (t : TE) : Prop where
 h : PC X op a b t
section
variable {X : Cx}
theorem aC {i j pos} : WE X (.Constant (.int i) j pos) (tC (.int i)) := ⟨zr ⟩
end
section
variable {X : Cx}
theorem fN {b j pos} : WE X (.Constant (.bool b) j pos) (tC (.bl b)) := ⟨BW ⟩
end
section
variable {X : Cx}
theorem iB {j pos} : WE X (.Constant .none j pos) (tC .non) := ⟨zp ⟩
end
section
variable {X : Cx}
theorem bo {x j pos} : WE X (.Constant (.str x) j pos) (tC (.str x)) := ⟨zl ⟩
end
section
variable {X : Cx}
variable {a b : Expr} {ta tb : TE} {pos : Pos}
theorem px {op : CmpOp} {t : TE} (h : WC X op a b t) (h1 : behindInMarks op b = false := by first | exact nobehind _ (by decide) (by decide) | rfl) : WT X (.Compare a [op] [b] pos) (tB t) := ⟨y9 h.h h1⟩
end
section
variable {X : Cx}
variable {a b : Expr} {ta tb : TE} {pos : Pos}
theorem vU {e : Expr} {t : TE} (h : WE X e t) (he : ∀ whole, isTrue e X.env whole = (do let v ← whole; standAt e.pos; holding [v] (truthy v)) := by intro _; rfl) : WT X e (tB t) := ⟨y6 h.h he⟩
end
section
variable {X : Cx}
variable {a b : Expr} {ta tb : TE} {pos : Pos}
variable {tA tB' : TT} {rest : List Expr}
theorem rS (ha : WT X a tA) : WW X (.BoolOp .And [a] pos) tA := ⟨wD ha.h⟩
end
section
variable {X : Cx}
variable {a b : Expr} {ta tb : TE} {pos : Pos}
variable {tA tB' : TT} {rest : List Expr}
theorem vS (ha : WT X a tA) : WW X (.BoolOp .Or [a] pos) tA := ⟨yZ ha.h⟩
end
section
variable {X : Cx}
variable {a b : Expr} {ta tb : TE} {pos : Pos}
variable {tA tB' : TT} {rest : List Expr}
theorem vT (ha : WT X a tA) (hb : WW X (.BoolOp .And (b :: rest) pos) tB') : WW X (.BoolOp .And (a :: b :: rest) pos) (CP tA tB') := ⟨y4 ha.h hb.h⟩
end
section
variable {X : Cx}
variable {a b : Expr} {ta tb : TE} {pos : Pos}
variable {tA tB' : TT} {rest : List Expr}
theorem yE (ha : WT X a tA) (hb : WW X (.BoolOp .Or (b :: rest) pos) tB') : WW X (.BoolOp .Or (a :: b :: rest) pos) (tOr tA tB') := ⟨BP ha.h hb.h⟩
end
section
variable {X : Cx}
variable {a b : Expr} {ta tb : TE} {pos : Pos}
variable {tA tB' : TT} {rest : List Expr}
theorem vV (ha : WT X a tA) : WT X (.UnaryOp .Not a pos) (CL tA) := ⟨y8 ha.h⟩
end
section
variable {X : Cx}
variable {a b : Expr} {ta tb : TE} {pos : Pos}
variable {tA tB' : TT} {rest : List Expr}
theorem wb {op} {t : TE} (h : WE X a t) : WE X (.BoolOp op [a] pos) t := ⟨zm h.h⟩
end
section
variable {X : Cx}
variable {a b : Expr} {ta tb : TE} {pos : Pos}
variable {tA tB' : TT} {rest : List Expr}
theorem yG (ha : WE X a ta) (hb : WE X (.BoolOp .Or (b :: rest) pos) tb) : WE X (.BoolOp .Or (a :: b :: rest) pos) (CK ta tb) := ⟨BR ha.h hb.h⟩
end
section
variable {X : Cx} {st : Stmt} {rest : List Stmt} {t u : TS} {e : Expr} {te : TE} {pos : Pos}
theorem rW  : WSs X [] yO := ⟨wH ⟩
end
section
variable {X : Cx} {st : Stmt} {rest : List Stmt} {t u : TS} {e : Expr} {te : TE} {pos : Pos}
theorem pz (h1 : WS X st t) (h2 : WSs X rest u) : WSs X (st :: rest) (CH t u) := ⟨sM h1.h h2.h⟩
end
section
variable {X : Cx} {st : Stmt} {rest : List Stmt} {t u : TS} {e : Expr} {te : TE} {pos : Pos}
theorem rV (h1 : WS X st t) : WSs X [st] t := ⟨wG h1.h⟩
end
section
variable {X : Cx} {st : Stmt} {rest : List Stmt} {t u : TS} {e : Expr} {te : TE} {pos : Pos}
theorem pC  : WS X (.Break pos) uQ := ⟨sO ⟩
end
section
variable {X : Cx} {st : Stmt} {rest : List Stmt} {t u : TS} {e : Expr} {te : TE} {pos : Pos}
theorem rX (he : WE X e te) (hs : swapsWith e none pos.line X.env = pure false := by rfl) : WS X (.Expr e pos) (yP te) := ⟨wI he.h hs⟩
end
section
variable {X : Cx} {st : Stmt} {rest : List Stmt} {t u : TS} {e : Expr} {te : TE} {pos : Pos}
theorem vX (he : WE X e te) : WS X (.Return (some e) pos) (CJ te) := ⟨zb he.h⟩
end
section
variable {X : Cx} {st : Stmt} {rest : List Stmt} {t u : TS} {e : Expr} {te : TE} {pos : Pos}
theorem yF {c : Expr} {a b : List Stmt} {tc : TT} (hc : WT X c tc) (ha : WSs X a t) (hb : WSs X b u) : WS X (.If c a b pos) (CN tc t u) := ⟨BQ hc.h ha.h hb.h⟩
end
section
variable {X : Cx} {st : Stmt} {rest : List Stmt} {t u : TS} {e : Expr} {te : TE} {pos : Pos}
theorem pA  : WS X st uM := ⟨sN ⟩
end
section
variable {X : Cx} {pos : Pos}
theorem aT {i : Nat} {x : Str} (hN : X.N.Nodup) (hi : X.N[i]? = some x) (hx : Loc X.env.scope x) (hf : X.fn x = true ∨ X.env.scope.names.lookup x = some .local := by first | exact .inl rfl | exact .inr rfl | assumption) : WG X (.Name x pos) (oM i) := ⟨wN hN hi hx hf⟩
end
section
variable {X : Cx} {pos : Pos}
theorem sd  : WGs X [] Dd := ⟨wM ⟩
end
section
variable {X : Cx} {pos : Pos}
theorem pE {e : Expr} {es : List Expr} {t : TG} {u : TGs} (h1 : WG X e t) (h2 : WGs X es u) (hs : (assignEach (e :: es) X.env).map (·.2) = assign e X.env :: (assignEach es X.env).map (·.2) := by rfl) : WGs X (e :: es) (Aa t u) := ⟨sQ h1.h h2.h hs⟩
end
section
variable {X : Cx} {pos : Pos}
theorem v7 {es : List Expr} {k : Nat} {t : TGs} {n : Nat} (hc : X.calm = true) (h : WGs X es t) (hn : (assignEach es X.env).length = n := by rfl) (hst : (assignEach es X.env).findIdx? (·.1) = none := by rfl) : WG X (.Tuple es k pos) (C9 X.K n t) := ⟨zh hc h.h hn hst⟩
end
section
variable {X : Cx} {pos : Pos}
theorem v8 {o i : Expr} {to ti : TE} {t : AK} (ho : WE X o to) (hi : WE X i ti) (hs : CB X t) (ha : ∀ v, assign (.Subscript o i pos) X.env v = (do
   let ov ← holding [v] (eval o X.env)
   let iv ← holding [v, ov] (eval i X.env)
   standAt pos
   holding [v, ov, iv] (setItem ov iv v)
   release [v, ov, iv] []) := by intro _; rfl) : WG X (.Subscript o i pos) (Dc to ti t) := ⟨zi ho.h hi.h hs ha⟩
end
section
variable {X : Cx} {pos : Pos}
theorem pD {tg e : Expr} {te : TE} {g : TG} (he : WE X e te) (hg : WG X tg g) (hs : swapsWithSole [tg] e pos.line X.env = pure false := by rfl) (hw : swappedStores [tg] e X.env = pure none := by rfl) (h1 : (assignEach [tg] X.env).map (·.2) = [assign tg X.env] := by rfl) : WS X (.Assign [tg] e pos) (yT te g) := ⟨ze he.h hg.h hs hw h1⟩
end
section
variable {X : Cx} {pos : Pos}
theorem vW {i : Nat} {x : Str} {e : Expr} {te : TE} {pos' : Pos} (hN : X.N.Nodup) (hi : X.N[i]? = some x) (hx : Loc X.env.scope x) (he : WE X e te) (hs : swapsWith e (some (.Name x pos')) pos.line X.env = pure false := by rfl) (hf : X.fn x = true ∨ X.env.scope.names.lookup x = some .local := by first | exact .inl rfl | exact .inr rfl | assumption) : WS X (.Assign [.Name x pos'] e pos) (yT te (oM i)) := ⟨za hN hi hx he.h hs hf⟩
end
section
variable {X : Cx} {tg : Expr}
theorem rZ {l : Expr} {tl : TE} (hl : WE X l tl) : WI X tg l (z9 X.K tl) := ⟨wL hl.h⟩
end
section
variable {X : Cx} {tg : Expr}
theorem vZ {l : Expr} {tl : TE} (hl : WE X l tl) : WI X tg l (C8 X.K tl) := ⟨zg hl.h⟩
end
section
variable {X : Cx} {tg : Expr}
theorem oi {a : Expr} {ta : TA} {p pos : Pos} (hg : Gl X "range") (hm : X.mg "range" = none) (ha : WA X [a] ta) (hs : starEach [a] X.env = [(false, eval a X.env)] := by rfl) : WI X tg (.Call (.Name "range" p) [a] [] pos) (z8 ta) := ⟨qe hg hm ha.h hs⟩
end
section
variable {X : Cx} {tg : Expr}
theorem pB {iter : Expr} {body : List Stmt} {wi : TI} {g : TG} {tb : TS} {pos : Pos} (hp : PassesOwn (model X.prog X.w) X.A X.env X.xe) (hc : X.calm = true) (hi : WI X tg iter wi) (hg : WG X tg g) (hb : WSs X body tb) (hs : ∀ x, foldedSetIterable iter X.env x = pure x := by intro _; rfl) : WS X (.For tg iter body [] pos) (Ar wi g tb) := ⟨zc hp hc hi.h hg.h hb.h hs⟩
end
section
variable {X : Cx} {a b c : Expr} {ta tb tc : TE} {pos : Pos}
theorem yH {op : Operator} {r : R2} (ho : OpR X (binaryOp op) r) (ha : WE X a ta) (hb : WE X b tb) : WE X (.BinOp a op b pos) (tOp r ta tb) := ⟨BS ho ha.h hb.h⟩
end
section
variable {X : Cx} {a b c : Expr} {ta tb tc : TE} {pos : Pos}
theorem sh {op : CmpOp} {r : R2} (ho : OpR X (compareOp op) r) (ha : WE X a ta) (hb : WE X b tb) (hm : behindInMarks op b = false) : WE X (.Compare a [op] [b] pos) (tOp r ta tb) := ⟨wU ho ha.h hb.h hm⟩
end
section
variable {X : Cx} {a b c : Expr} {ta tb tc : TE} {pos : Pos}
theorem jJ {op : CmpOp} {r : R2} (ho : OpR X (compareOp op) r) (ha : WE X a ta) (hb : WE X b tb) (hm : behindInMarks op b = false) : WT X (.Compare a [op] [b] pos) (yN (tOp r ta tb)) := ⟨wF ho ha.h hb.h hm⟩
end
section
variable {X : Cx} {o e value : Expr} {f : Str} {pos pos' tpos : Pos} {ta tv : TE}
theorem wd (he : WE X e ta) (hb : attributeBase e f X.env (eval e X.env) = eval e X.env) : WE X (.Attribute e f pos) (CO X.K ta f) := ⟨zt he.h hb⟩
end
section
variable {X : Cx} {o e value : Expr} {f : Str} {pos pos' tpos : Pos} {ta tv : TE}
theorem vY (ha : WE X o ta) (hv : WE X value tv) (hs : swapsWith value (some (.Attribute o f pos')) pos.line X.env = pure false) : WS X (.Assign [.Attribute o f pos'] value pos) (CQ X.K ta tv f) := ⟨zd ha.h hv.h hs⟩
end
section
variable {X : Cx} {e : Expr} {es : List Expr} {te : TE} {t : TA} {pos : Pos}
theorem wg  : WA X [] Aq := ⟨zv ⟩
end
section
variable {X : Cx} {e : Expr} {es : List Expr} {te : TE} {t : TA} {pos : Pos}
theorem si (ha : WE X e te) (hr : WA X es t) (hs : starEach (e :: es) X.env = (false, eval e X.env) :: starEach es X.env := by rfl) : WA X (e :: es) (yR te t) := ⟨wW ha.h hr.h hs⟩
end
section
variable {X : Cx} {e : Expr} {es : List Expr} {te : TE} {t : TA} {pos : Pos}
theorem wa {x1} (h : WA X es t) : WE X (.Tuple es x1 pos) (CF t) := ⟨zk h.h⟩
end
section
variable {X : Cx} {e : Expr} {es : List Expr} {te : TE} {t : TA} {pos : Pos}
theorem wc (h : WA X es t) : WE X (.List es pos) (CM t) := ⟨zq h.h⟩
end
section
variable {X : Cx} {CX : CXT} {k : Nat} {f C : Addr} {fd : FuncData} {ps : List Str} {sp : Sp} {dvs : List V} {ds : List Value} {E : XK} {x m : Str} {p pos apos : Pos} {e o : Expr} {es : List Expr} {ta : TE} {t : TA}
theorem se {pl : Sem Bool} (he : WE X o ta) (c : Cls X.K C) (hm : fU X.K C m f) (F : iA X.prog X.w X.K X.mg X.base CX k f fd ps sp) (hr : fh k X.A) (hb : cS X.K fd ps ds) (hd : bR dvs ds) (hx : fS CX X E) (ha : WA X (e :: es) t) (hst : starEach (e :: es) X.env = (false, eval e X.env) :: starEach es X.env := by rfl) (hpl : (backTo pos (starEach es X.env)).any (·.1) = false := by rfl) (ht : eval (.Call (.Attribute o m apos) (e :: es) [] pos) X.env = (do
   let ov ← eval o X.env
   standAt apos.atName
   let (f, first) ← holding [ov] (getMethod ov m pl)
   callWith pos f first (backTo pos (starEach (e :: es) X.env)) (backToKw pos (keywordEach [] X.env))) := by rfl) : WE X (.Call (.Attribute o m apos) (e :: es) [] pos) (pR C m sp dvs E ta t) := ⟨wO he.h c hm F hr hb hd hx ha.h hst hpl ht⟩
end
section
variable {X : Cx} {CX : CXT} {k : Nat} {f C : Addr} {fd : FuncData} {ps : List Str} {sp : Sp} {dvs : List V} {ds : List Value} {E : XK} {x m : Str} {p pos apos : Pos} {e o : Expr} {es : List Expr} {ta : TE} {t : TA}
theorem pF {pl : Sem Bool} (he : WE X o ta) (c : Cls X.K C) (hm : fU X.K C m f) (F : iA X.prog X.w X.K X.mg X.base CX k f fd ps sp) (hr : fh k X.A) (hb : cS X.K fd ps ds) (hd : bR dvs ds) (hx : fS CX X E) (ht : eval (.Call (.Attribute o m apos) [] [] pos) X.env = (do
   let ov ← eval o X.env
   standAt apos.atName
   let (f, first) ← holding [ov] (getMethod ov m pl)
   callWith pos f first (backTo pos (starEach [] X.env)) (backToKw pos (keywordEach [] X.env))) := by rfl) : WE X (.Call (.Attribute o m apos) [] [] pos) (pR C m sp dvs E ta Aq) := ⟨sR he.h c hm F hr hb hd hx ht⟩
end
section
variable {X : Cx} {CX : CXT} {k : Nat} {f C : Addr} {fd : FuncData} {ps : List Str} {sp : Sp} {dvs : List V} {ds : List Value} {E : XK} {x m : Str} {p pos apos : Pos} {e o : Expr} {es : List Expr} {ta : TE} {t : TA}
theorem sf (M : Mk X.K C f) (F : iA X.prog X.w X.K X.mg X.base CX k f fd ps sp) (hr : fh (k + 1) X.A) (hg : Gl X x) (hm : X.mg x = some (.ref C)) (hb : cS X.K fd ps ds) (hd : bR dvs ds) (hx : fS CX X E) (ha : WA X (e :: es) t) (hdb : (x == ("__debug__" : Str)) = false := by decide) (he : starEach (e :: es) X.env = (false, eval e X.env) :: starEach es X.env := by rfl) (hpl : (backTo pos (starEach es X.env)).any (·.1) = false := by rfl) : WE X (.Call (.Name x p) (e :: es) [] pos) (wt C sp dvs E t) := ⟨wQ M F hr hg hm hb hd hx ha.h hdb he hpl⟩
end
section
variable {X : Cx} {x : Str} {p pos : Pos} {e : Expr} {es : List Expr} {t : TA} {id T : String} {r : List V → Hp → VK → Prop}
theorem pJ (hc : eJ X (.builtin id) r) (hg : Gl X x) (hm : X.mg x = none) (hv : bootBuiltins x = some (.builtin id)) (ha : WA X (e :: es) t) (hn : x ≠ "__name__" := by decide) (hdb : (x == ("__debug__" : Str)) = false := by decide) (he : starEach (e :: es) X.env = (false, eval e X.env) :: starEach es X.env := by rfl) (hpl : (backTo pos (starEach es X.env)).any (·.1) = false := by rfl) : WE X (.Call (.Name x p) (e :: es) [] pos) (tCB r t) := ⟨sV hc hg hm hv ha.h hn hdb he hpl⟩
end
section
variable {X : Cx} {x : Str} {p pos : Pos} {e : Expr} {es : List Expr} {t : TA} {id T : String} {r : List V → Hp → VK → Prop}
theorem om (hc : eJ X (.type T) r) (hg : Gl X x) (hm : X.mg x = none) (hv : bootBuiltins x = some (.type T)) (ha : WA X (e :: es) t) (hn : x ≠ "__name__" := by decide) (hdb : (x == ("__debug__" : Str)) = false := by decide) (he : starEach (e :: es) X.env = (false, eval e X.env) :: starEach es X.env := by rfl) (hpl : (backTo pos (starEach es X.env)).any (·.1) = false := by rfl) : WE X (.Call (.Name x p) (e :: es) [] pos) (tCB r t) := ⟨qf hc hg hm hv ha.h hn hdb he hpl⟩
end
section
variable {X : Cx} {a b : Expr} {ta tb : TE} {pos : Pos}
theorem yI {r : R2} (hr : IxR X r) (ha : WE X a ta) (hb : WE X b tb) (hs : mS b) : WE X (.Subscript a b pos) (tOp r ta tb) := ⟨BU hr ha.h hb.h hs⟩
end
section
variable {X : Cx} {a b : Expr} {ta tb : TE} {pos : Pos}
variable {o e : Expr} {es : List Expr} {to : TE} {t : TA} {name : Str} {apos cpos : Pos} {T id : String} {r : V → List V → Hp → VK → Prop}
theorem uK (pa : PlainAttrs T) (slot : Slot T name id) (hty : typeOf (.builtin id) = pure (.type "method_descriptor")) (hm : MtR X id r) (ho : WE X o to) (ha : WA X (e :: es) t) (hbase : attributeBase o name X.env (eval o X.env) = eval o X.env := by rfl) (hfew : ((backTo cpos (starEach (e :: es) X.env)).all (fun x => !x.1) && (backToKw cpos (keywordEach [] X.env)).all (fun x => x.1.isSome)
   && decide ((e :: es).length + ([] : List Keyword).length + (if ([] : List Keyword).isEmpty then 0 else 1) < 30)) = true := by rfl) (hline : (apos.endLine == cpos.line) = true := by rfl) (hs : starEach (e :: es) X.env = (false, eval e X.env) :: starEach es X.env := by rfl) (hplain : (backTo cpos (starEach es X.env)).any (·.1) = false := by rfl) : WE X (.Call (.Attribute o name apos) (e :: es) [] cpos) (tBM X.K T r to t) := ⟨BV pa slot hty hm ho.h ha.h hbase hfew hline hs hplain⟩
end
section
variable {X : Cx} {o i e value : Expr} {pos pos' tpos : Pos} {td ty tv : TE}
theorem sg (hu : X.A.units + 1 < cLine) (ho : WE X o td) (hi : WE X i ty) (hs : AM i) : WE X (.Subscript o i pos) (yQ td ty) := ⟨wR hu ho.h hi.h hs⟩
end
section
variable {X : Cx} {o i e value : Expr} {pos pos' tpos : Pos} {td ty tv : TE}
theorem we (hu : X.A.units + 1 < cLine) (hi : WE X i ty) (ho : WE X o td) : WC X .In i o (BD ty td) := ⟨zu hu hi.h ho.h⟩
end
section
variable {X : Cx} {o i e value : Expr} {pos pos' tpos : Pos} {td ty tv : TE}
theorem oo (hu : X.A.units + 1 < cLine) (hi : WE X i ty) (ho : WE X o td) : WC X .NotIn i o (me ty td) := ⟨qg hu hi.h ho.h⟩
end
section
variable {X : Cx} {o i e value : Expr} {pos pos' tpos : Pos} {td ty tv : TE}
theorem rY (hu : X.A.units + 1 < cLine) (ho : WE X o td) (hi : WE X i ty) (hv : WE X value tv) (hs : swapsWith value (some (.Subscript o i pos')) pos.line X.env = pure false) : WS X (.Assign [.Subscript o i pos'] value pos) (yU td ty tv) := ⟨wJ hu ho.h hi.h hv.h hs⟩
end
section
variable {X : Cx} {pos : Pos}
theorem pH  : WE X (.Dict [] [] pos) uO := ⟨sT ⟩
end
section
variable {X : Cx} {o e f : Expr} {apos cpos : Pos} {td ty tx : TE}
theorem pI (hu : X.A.units + 1 < cLine) (ho : WE X o td) (he : WE X e ty) (hf : WE X f tx) (m : M2 X o "get" apos e f cpos) : WE X (.Call (.Attribute o "get" apos) [e, f] [] cpos) (uP td ty tx) := ⟨sU hu ho.h he.h hf.h m⟩
end
section
variable {X : Cx} {o e f : Expr} {apos cpos : Pos} {td ty tx : TE}
theorem pG (ho : WE X o td) (he : WE X e ty) (m : M1 X o "pop" apos e cpos) : WE X (.Call (.Attribute o "pop" apos) [e] [] cpos) (uN td ty) := ⟨sS ho.h he.h m⟩
end
section
variable {X : Cx}
theorem wpv (i : Nat) {x : Str} {pos : Pos} (hN : X.N[i]? = some x := by rfl) (hv : Vis X.env.scope x := by first | exact Or.inl rfl | exact Or.inr (Or.inl rfl) | exact Or.inr (Or.inr rfl)) (hd : (x == ("__debug__" : Str)) = false := by decide) (hcd : (x == ("__classdict__" : Str)) = false := by decide) : WE X (.Name x pos) (Ap i) := ⟨pv i hN hv hd hcd⟩
end
theorem WW.pt {X : Cx} {e : Expr} {t : TT} (h : WW X e t) : WT X e t := ⟨h.h.pt⟩
section
variable {X : Cx} {a b c e : Expr} {ta tb tc : TE} {pos : Pos}
noncomputable def oU (i j : Int) : Prop := 0 < j ∧ j.natAbs.log2 < 9000
theorem nB : OpR X (binaryOp .FloorDiv) (rI oU fun i j => .int (i / j)) := opI fun i j _ _ _ _ _ hc q => by
 refine PyProof.Rows.floordiv_int (by have := hc.1; omega) ?_ (.inl (PyProof.noPylong_of_log2 hc.2))
 rw [Int.fdiv_eq_ediv_of_nonneg i (Int.le_of_lt hc.1)]
 exact q
end
theorem gq {H : Hp} {p : Addr} (h : H p = none) (o : HO) : vx H (upd H p o) := fun b u q => by rw [bh (cX q h)]; exact q
noncomputable def Def (K : PySem.W.Frag) (mg : Str → Option Value) (x : Str) (st : Stmt) (ps : List Str) : Prop :=
 ∃ f fd, Fun K x x st f fd ∧ cS K fd ps [] ∧ mg x = some (.ref f)
noncomputable def Has (P : Program) (w : World) (K : PySem.W.Frag) (mg : Str → Option Value) (base : Heap) (x : Str) (k : Nat) (ps : List Str) (sp : Sp) : Prop :=
 ∃ f fd, iA P w K mg base CX0 k f fd ps sp ∧ cS K fd ps [] ∧ PySem.W.keepIn K (.ref f) = true ∧ mg x = some (.ref f)
section
variable {P : Program} {w : World} {K : PySem.W.Frag} {mg : Str → Option Value} {base : Heap} {x : Str} {st : Stmt} {ps N : List Str} {k j : Nat} {sp sp' : Sp}
theorem Has.mono (h : Has P w K mg base x j ps sp) (l : j ≤ k) : Has P w K mg base x k ps sp := by
 obtain ⟨f, fd, a, b, c, d⟩ := h
 exact ⟨f, fd, a.mono l, b, c, d⟩
theorem Def.has (d : Def K mg x st ps) (S : aW N ps (aq st)) (len : ∀ vs H Q E, sp vs H Q E → vs.length = ps.length)
  (hbody : ∀ (f : Addr) (cdv : Value) (A : Around) (outer : List Env) (s : Shared) (H : Hp) (vs : List V) (Q : VK) (E : XK), fh k (A.deeper (envOfC x (aq st) s.heap.objs.size f cdv)) → sp vs H Q E →
   ∃ t, WSs (oW CX0 P w K mg base N x (aq st) f cdv A outer s H E).nox (aQ st) t ∧ t { nx := fun _ H' => Q .non H', rt := Q } (gj N vs) H) : Has P w K mg base x (k + 1) ps sp := by
 obtain ⟨f, fd, F, b, m⟩ := d
 exact ⟨f, fd, F.ok S len (fun cdv A outer s H vs Q E hr h => let ⟨t, a, b⟩ := hbody f cdv A outer s H vs Q E hr h; ⟨t, a.h, b⟩), b, F.kp, m⟩
end
theorem yJ {X : Cx} {k : Nat} {ps : List Str} {sp : Sp} {x : Str} {p pos : Pos} {e : Expr} {es : List Expr} {t : TA} (F : Has X.prog X.w X.K X.mg X.base x k ps sp) (hr : fh k X.A) (hg : Gl X x)
  (ha : WA X (e :: es) t) (hdb : (x == ("__debug__" : Str)) = false := by decide) (he : starEach (e :: es) X.env = (false, eval e X.env) :: starEach es X.env := by rfl) (hpl : (backTo pos (starEach es X.env)).any (·.1) = false := by rfl) :
  WE X (.Call (.Name x p) (e :: es) [] pos) (yS sp [] E0 t) := by
 obtain ⟨f, fd, a, b, c, d⟩ := F
 exact ⟨wV a hr hg d c b .nil sW ha.h hdb he hpl⟩
structure Blt (mg : Str → Option Value) : Prop where
 len : mg "len" = none
 isinstance : mg "isinstance" = none
 int : mg "int" = none
 bool : mg "bool" = none
 str : mg "str" = none
 tuple : mg "tuple" = none
 list : mg "list" = none
 range : mg "range" = none
 min : mg "min" = none
 sum : mg "sum" = none
 all : mg "all" = none
 zip : mg "zip" = none
 sorted : mg "sorted" = none
 dict : mg "dict" = none
 enumerate : mg "enumerate" = none
 any : mg "any" = none
 max : mg "max" = none
 set : mg "set" = none
theorem kx {n : Nat} (h : n ≤ 1000) : n ≤ sizeLine := Nat.le_of_lt (pS h)
theorem oG {n : Nat} (h : n < 2 ^ 60) : n.log2 < 1920 := by
 by_cases e : n = 0
 ·subst e; decide
 ·have := (Nat.log2_lt e).mpr h; omega
theorem gO : bootBuiltins "tuple" = some (.type "tuple") := rfl
theorem gF : bootBuiltins "list" = some (.type "list") := rfl
theorem n9 : bootBuiltins "min" = some (.builtin "min") := rfl
theorem ux : bootBuiltins "max" = some (.builtin "max") := rfl
theorem oa : bootBuiltins "any" = some (.builtin "any") := rfl
theorem mQ : bootBuiltins "sorted" = some (.builtin "sorted") := rfl
theorem Fun.okW {P : Program} {w : World} {K : PySem.W.Frag} {mg : Str → Option Value} {base : Heap} {x qual : Str} {st : Stmt} {f : Addr} {fd : FuncData} {N ps : List Str} {k : Nat} {sp : Sp} (F : Fun K x qual st f fd) (S : aW N ps (aq st)) (len : ∀ vs H Q E, sp vs H Q E → vs.length = ps.length)
  (hbody : ∀ (cdv : Value) (A : Around) (outer : List Env) (s : Shared) (H : Hp) (vs : List V) (Q : VK) (E : XK), fh k (A.deeper (envOfC qual (aq st) s.heap.objs.size f cdv)) → sp vs H Q E →
   ∃ t, WSs (oW CX0 P w K mg base N qual (aq st) f cdv A outer s H E).nox (aQ st) t ∧ t { nx := fun _ H' => Q .non H', rt := Q } (gj N vs) H) : iA P w K mg base CX0 (k + 1) f fd ps sp :=
 F.ok S len fun cdv A outer s H vs Q E hr h => let ⟨t, a, b⟩ := hbody cdv A outer s H vs Q E hr h; ⟨t, a.h, b⟩
noncomputable def mU (env : Env) : List (Str × Addr) → Prop
 | [] => True
 | p :: r => env.cells.lookup p.1 = some p.2 ∧ mU env r
theorem mU.look {env : Env} : ∀ {cl : List (Str × Addr)} {y : Str} {c : Addr}, mU env cl → cl.lookup y = some c → env.cells.lookup y = some c
 | [], _, _, _, h => by simp at h
 | (n, d) :: r, y, c, a, h => by
  obtain ⟨a1, a2⟩ := a
  rw [List.lookup_cons] at h
  by_cases e : (y == n) = true
  ·rw [e] at h
   have e' : y = n := by simpa using e
   subst e'
   cases h
   exact a1
  ·have e' : (y == n) = false := by simpa using e
   rw [e'] at h
   exact mU.look a2 h
noncomputable abbrev cxC (X : Cx) (Nc : List Str) (scope : Scope) (cl : List (Str × Addr)) (s3 : Shared) (H3 : Hp) (fp : List Addr) : Cx where
 prog := X.prog
 w := X.w
 K := X.K
 mg := X.mg
 base := X.base
 A := X.A
 N := Nc
 s₀ := s3
 H₀ := H3
 env := compEnvC scope cl s3.heap.objs.size X.env
 outer := X.stack
 stack := X.stack
 ex := fp
 fn := fun _ => false
 calm := X.calm
 pn := []
 xe := fun _ _ => False
noncomputable def stC (n : Nat) (caps : List Nat) (σ : L2.St) : L2.St := List.replicate n none ++ caps.map fun i => (σ[i]?).getD none
noncomputable def sx (wi : TI) (g : TG) (te : TE) (n : Nat) (caps : List Nat) : TE := fun σ H Q => wi σ H fun J H1 => ∀ l, H1 l = none → ∃ W : Nat → Nat → L2.St → Hp → Prop, (∃ m, W 0 m (stC n caps σ) (upd H1 l (.lst []))) ∧
 ∀ i m σ' H2, W i m σ' H2 → (J.stop i H2 ∧ Q (.ref l) H2) ∨ (J.go i H2 ∧ ∃ N : L2.St → Hp → Prop, (∀ σ'' H', N σ'' H' → ∃ m', m' < m ∧ W (i + 1) m' σ'' H') ∧
  ∀ x H3, J.yld i H2 x H3 → g x σ' H3 fun σ2 H4 => te σ2 H4 fun v H5 => ∃ ys, H5 l = some (.lst ys) ∧ ys.length < sizeLine ∧ N σ2 (upd H5 l (.lst (ys ++ [v]))))
theorem lC {prog : Program} {w : World} {A : Around} {R : Result → Shared → Prop} {s : Shared} {elt target iter : Expr} {scope : Scope} {pos : Pos} {it acc : Value} {env : Env} (I : Nat → Shared → Prop)
  (turn : ∀ n s, I n s → wpAny (model prog w) A (pyNext it) (fun r s₁ => match r with
   | none => R (.ok .next) s₁
   | some v => wpAny (model prog w) A (letOwnedTupleGo target it v) (fun _ s₁' => wpAny (model prog w) A (assign target env v) (fun _ s₂ => wpAny (model prog w) A (eval elt env) (fun x s₃ =>
     wpAny (model prog w) A (call (.builtin "list.append") [acc, x]) (fun _ s₄ => ∃ m, m < n ∧ I m s₄) (fun _ _ => False) s₃)
     (fun _ _ => False) s₂) (fun _ _ => False) s₁') (fun _ _ => False) s₁) (fun _ _ => False) s)
  (n : Nat) (h : I n s) :
  codeAny (model prog w) A (.compLoop (.ListComp elt [⟨target, iter, [], 0⟩] scope pos) 0 it acc env) R s := by
 refine codeAny_loop rfl I (fun n s hI => ?_) n h
 show wpAny _ _ ((compTurn (.ListComp elt [⟨target, iter, [], 0⟩] scope pos) 0 it acc env).onRaise (fun x => do noteFrame x env; theTreesLotGoes x)) _ _ s
 refine wpAny_noted ?_
 rw [compTurn_list1]
 refine wpAny_bind (wpAny_standAt (wpAny_bind (wpAny_mono (turn n s hI) (fun r s₁ h₁ => ?_) fun _ _ h' => h'.elim)))
 cases r with
 | none => exact wpAny_pure h₁
 | some v =>
  refine wpAny_bind (wpAny_mono h₁ (fun _ s₁' h₁' => ?_) fun _ _ h' => h'.elim)
  exact wpAny_bind (wpAny_mono h₁' (fun _ s₂ h₂ => wpAny_bind (wpAny_bind (wpAny_mono h₂ (fun x s₃ h₃ => wpAny_bind (wpAny_mono h₃
   (fun _ s₄ h₄ => wpAny_pure (wpAny_pure ⟨rfl, h₄⟩)) fun _ _ h' => h'.elim)) fun _ _ h' => h'.elim))) fun _ _ h' => h'.elim)
section
variable {X : Cx} {pins : List (Addr × Obj)} {σ : L2.St} {H : Hp} {s : Shared} {Nc capN : List Str} {scope : Scope} {cl : List (Str × Addr)} {fp : List Addr} {n : Nat} {caps : List Nat} {tg iter elt : Expr} {pos : Pos} {wi : TI} {g : TG} {te : TE}
noncomputable def Cap (X : Cx) (scope : Scope) (cl : List (Str × Addr)) (i : Nat) (y : Str) : Prop := X.N[i]? = some y ∧ X.env.scope.names.lookup y = some .cell ∧ (relabel scope X.env).names.lookup y = some .cell ∧ ∃ c, cl.lookup y = some c
theorem Inv.comp {h1 : Heap} {t' : Nat} (I : Inv X pins σ H s) (hc : X.calm = true) (f2 : ∀ b ∈ fp, rG X pins H b) (fo : ∀ b ∈ fp, b < s.heap.objs.size) (hkind : scope.kind = .function) (hcl : mU X.env cl)
  (hhas : ((relabel scope X.env).names.all fun p => !(p.2 == .cell || p.2 == .free) || (cl.lookup p.1).isSome) = true)
  (hcap : Paired (Cap X scope cl) caps capN) (tn : List Str) (hN : Nc = tn ++ capN) (hn : tn.length = n)
  (hns : h1.Ns s.heap.objs.size (fun _ => none)) (hk : ∀ b o, s.heap.get? b = some o → h1.get? b = some o) :
  Inv (cxC X Nc scope cl s H fp) [] (stC n caps σ) H { s with heap := h1, toks := t' } := by
 have lkc : ∀ y c, cl.lookup y = some c → X.env.cells.lookup y = some c := fun y c e => hcl.look e
 refine ⟨⟨I.ok.mod, ?_, I.ok.glob, I.ok.blt, Nat.le_refl _, fun x y c a b => I.ok.inj x y c (lkc _ _ a) (lkc _ _ b), fun x hx => ?_, fun x c z => (nomatch z), I.ok.hd, I.ok.frames, .inl rfl, fun b hb => ⟨Nat.ne_of_lt (fo b hb), fun x c e => (f2 b hb).2.2.2.2.1 x c (lkc _ _ e)⟩, I.bs, Nat.le_trans I.ok.bsz I.sz,
  fun b o e hb => ?_, fun b hb z => ?_, I.stack, I.stkFree⟩, rfl, I.bare, Un.kept hk, ⟨_, hns, fun i y v h1' h2 h3 => ?_⟩, fun y c e => ?_, I.hok.fresh (Nat.le_refl _), fun y c e => I.freeC y c (lkc _ _ e), fun p hp => (by simp at hp), I.hok.kept hk, ?_⟩
 ·exact hkind
 ·have hx' : (relabel scope X.env).names.lookup x = some .cell ∨ (relabel scope X.env).names.lookup x = some .free := hx
  have mem : ∀ {k}, (relabel scope X.env).names.lookup x = some k → (x, k) ∈ (relabel scope X.env).names := fun {k} e => by
   generalize (relabel scope X.env).names = L at e
   induction L with
   | nil => simp at e
   | cons p r ih =>
    obtain ⟨a, b⟩ := p
    rw [List.lookup_cons] at e
    by_cases q : (x == a) = true
    ·rw [q] at e; cases e
     have : x = a := by simpa using q
     subst this; exact List.mem_cons_self
    ·rw [show (x == a) = false by simpa using q] at e
     exact List.mem_cons_of_mem _ (ih e)
  have fin : ∀ {k}, (k = NameKind.cell ∨ k = .free) → (relabel scope X.env).names.lookup x = some k → ∃ c, cl.lookup x = some c := fun {k} hk' e => by
   have := List.all_eq_true.mp hhas _ (mem e)
   dsimp only at this
   have q : (cl.lookup x).isSome = true := by
    rcases hk' with z | z <;> subst z <;> simpa using this
   exact Option.isSome_iff_exists.mp q
  rcases hx' with e | e
  ·exact fin (.inl rfl) e
  ·exact fin (.inr rfl) e
 ·rcases (f2 b hb).2.2.2.1 with z | z
  ·exact I.ok.noex b o e z
  ·exact absurd (Nat.lt_of_lt_of_le (Heap.lt_size e) I.ok.bsz) (Nat.not_lt.mpr z)
 ·rcases List.mem_cons.mp (I.stkSub b z) with q | q
  ·exact (f2 b hb).2.1 q
  ·exact (f2 b hb).2.2.1 q
 ·obtain ⟨m, hm, hl⟩ := I.loc
  have h2' : (stC n caps σ)[i]? = some (some v) := h2
  have h1'' : Nc[i]? = some y := h1'
  unfold stC at h2'
  by_cases hi : i < n
  ·rw [List.getElem?_append_left (by simpa using hi), List.getElem?_replicate, if_pos hi] at h2'
   cases h2'
  ·rw [List.getElem?_append_right (by simp; omega), List.length_replicate, List.getElem?_map] at h2'
   rw [hN, List.getElem?_append_right (by omega), hn] at h1''
   have key : ∀ (j : Nat) {caps : List Nat} {capN : List Str}, Paired (Cap X scope cl) caps capN → capN[j]? = some y → (Option.map (fun i => (σ[i]?).getD none) caps[j]?) = some (some v) → ∃ k, Cap X scope cl k y ∧ σ[k]? = some (some v) := by
    intro j
    induction j with
    | zero =>
     intro caps capN P e1 e2
     cases P with
     | nil => simp at e1
     | @cons a b l r p t =>
      simp at e1 e2
      subst e1
      cases q : σ[a]? with
      | none => rw [q] at e2; simp at e2
      | some w' => rw [q] at e2; simp at e2; subst e2; exact ⟨a, p, q⟩
    | succ j ih =>
     intro caps capN P e1 e2
     cases P with
     | nil => simp at e1
     | cons p t => exact ih t (by simpa using e1) (by simpa using e2)
   obtain ⟨k, ⟨c1, c2, c3, c, c4⟩, e⟩ := key _ hcap h1'' h2'
   obtain ⟨u, r, lk⟩ := hl k y v c1 e (.inr (.inl c2))
   refine ⟨u, r, .inr ⟨.inl c3, c, c4, ?_⟩⟩
   rcases lk with ⟨z, _⟩ | ⟨_, c', e', o, ho, hd⟩
   ·have z' : X.env.scope.names.lookup y = some .local := z
    rw [c2] at z'; cases z'
   ·rw [lkc _ _ c4] at e'
    cases e'
    exact ⟨o, hk _ _ ho, hd⟩
 ·obtain ⟨v, o, ho, hd⟩ := I.cell y c (lkc _ _ e)
  exact ⟨v, o, hk _ _ ho, hd⟩
 ·show (stC n caps σ).length = Nc.length
  have pl : caps.length = capN.length := Paired.length hcap
  unfold stC
  rw [List.length_append, List.length_replicate, List.length_map, hN, List.length_append, hn, pl]
end
theorem nY {X : Cx} {Nc capN tn : List Str} {scope : Scope} {cl : List (Str × Addr)} {n : Nat} {caps : List Nat} {tg iter elt : Expr} {pos : Pos} {wi : TI} {g : TG} {te : TE}
  (hc : X.calm = true) (hi : WI X tg iter wi) (hg : ∀ s3 H3 fp, WG (cxC X Nc scope cl s3 H3 fp) tg g) (he : ∀ s3 H3 fp, WE (cxC X Nc scope cl s3 H3 fp) elt te)
  (hclos : closureFor scope X.env = pure cl) (hkind : scope.kind = .function) (hnl : ∀ x ∈ scope.names, x.2 = .local → scope.names.lookup x.1 = some .local) (hcell : ∀ x ∈ scope.names, x.2 ≠ .cell)
  (hcl : mU X.env cl) (hhas : ((relabel scope X.env).names.all fun p => !(p.2 == .cell || p.2 == .free) || (cl.lookup p.1).isSome) = true)
  (hcap : Paired (Cap X scope cl) caps capN) (hN : Nc = tn ++ capN) (hn : tn.length = n)
  {use : Option (Value → Sem Unit)} {pins : List (Addr × Obj)} {σ : L2.St} {H : Hp} {s : Shared} {Q : VK} {Qf : Value → Shared → Prop} (I : Inv X pins σ H s) (h : sx wi g te n caps σ H Q)
  (hend : ∀ (D C : Addr) (s6 : Shared) (H5 : Hp) (m : Str → Option Value), Inv X pins σ H5 s6 → s6.heap.Ns C m → H5 C = none → C ≠ X.env.locals → X.s₀.heap.objs.size ≤ C → (∀ x c, X.env.cells.lookup x = some c → c ≠ C) → (∀ p ∈ X.pn ++ pins, p.1 ≠ C) → Q (.ref D) H5 → compPost (model X.prog X.w) X.A X.xe use Qf (.ref D) C (.ok .next) s6)
  (hs : ∀ x, foldedSetIterable iter X.env x = pure x) :
  wpAny (model X.prog X.w) X.A (comprehension (.ListComp elt [⟨tg, iter, [], 0⟩] scope pos) scope X.env (firstIterPos [⟨tg, iter, [], 0⟩] pos) (newList []) (firstAsync [⟨tg, iter, [], 0⟩]) (firstIter [⟨tg, iter, [], 0⟩] X.env) use) Qf X.xe s := by
 refine wpAny_comprehension_free (use := use) (g := ⟨tg, iter, [], 0⟩) (gs := []) rfl hs hclos hkind hnl (thn (hi.h pins s σ H _ I h) fun v s1 h1 => thn h1 fun itv s2 h2 => ?_)
 obtain ⟨it, fp, tnn, J, H2, rfl, I2, T, st2, f2, hW⟩ := h2
 have hD := I2.fresh
 obtain ⟨W, ⟨m0, w0⟩, turn⟩ := hW _ hD
 refine wpAny_newObj_type (wpAny_newFunctionEnv hcell (by intro y hy; simp at hy) (fun h₁ hns₁ hsb₁ => ?_) hkind)
 dsimp only at hns₁ hsb₁ ⊢
 have I3 : Inv X pins σ (upd H2 s2.heap.objs.size (.lst [])) { s2 with heap := s2.heap.push { cls := .type "list", dict := none, data := .seq ([] : List Value).toArray }, toks := s2.toks } := I2.lnew (its := []) .nil (Nat.zero_le _)
 generalize hs3 : ({ s2 with heap := s2.heap.push { cls := .type "list", dict := none, data := .seq ([] : List Value).toArray }, toks := s2.toks } : Shared) = s3 at I3
 have es3 : s3.heap = s2.heap.push { cls := .type "list", dict := none, data := .seq ([] : List Value).toArray } := by rw [← hs3]
 generalize hDD : s2.heap.objs.size = D at *
 have kept : ∀ b o, s3.heap.get? b = some o → h₁.get? b = some o := fun b o e => by
  have lt := Heap.lt_size e
  rw [es3] at lt e
  exact hsb₁.extBut b o (Nat.ne_of_lt lt) (Heap.get?_push_of_some _ e)
 have old : ∀ b o, s2.heap.get? b = some o → s3.heap.get? b = some o := fun b o e => by rw [es3]; exact Heap.get?_push_of_some _ e
 have ltD : ∀ b ∈ fp, b < D := fun b hb => by
  obtain ⟨o, e, _⟩ := T.obj 0 _ st2 b hb
  rw [← hDD]; exact Heap.lt_size e
 have fo : ∀ b ∈ fp, b < s3.heap.objs.size := fun b hb => by
  obtain ⟨o, e, _⟩ := T.obj 0 _ st2 b hb
  exact Heap.lt_size (old _ _ e)
 have f3 : ∀ b ∈ fp, rG X pins (upd H2 D (.lst [])) b := fun b hb => by
  refine ⟨?_, (f2 b hb).2⟩
  rw [bh (Nat.ne_of_lt (ltD b hb))]
  exact (f2 b hb).1
 rw [← es3] at hns₁ hsb₁ ⊢
 have Ic := fun t' => Inv.comp (h1 := h₁) (t' := t') (Nc := Nc) (n := n) I3 hc f3 fo hkind hcl hhas hcap tn hN hn hns₁ kept
 have stat : ∀ {H' : Hp}, (∀ b ∈ fp, H' b = none) → ∀ b ∈ fp, rG (cxC X Nc scope cl s3 (upd H2 D (.lst [])) fp) [] H' b := fun hn' b hb => by
  refine ⟨hn' b hb, Nat.ne_of_lt (fo b hb), fun z => ?_, .inl hb, fun x c e => (f2 b hb).2.2.2.2.1 x c (hcl.look e), fun p hp => (by simp at hp)⟩
  rcases List.mem_cons.mp (I3.stkSub b z) with q | q
  ·exact (f2 b hb).2.1 q
  ·exact (f2 b hb).2.2.1 q
 have loop : ∀ s4 : Shared, (∃ t', s4 = { s3 with heap := h₁, toks := t' }) → codeAny (model X.prog X.w) X.A (.compLoop (.ListComp elt [⟨tg, iter, [], 0⟩] scope pos) 0 (.ref it) (.ref D) (compEnvC scope cl s3.heap.objs.size X.env))
   (compPost (model X.prog X.w) X.A X.xe use Qf (.ref D) s3.heap.objs.size) s4 := by
  rintro s4 ⟨t', rfl⟩
  refine lC (fun n' s' => ∃ i σ' H', Inv (cxC X Nc scope cl s3 (upd H2 D (.lst [])) fp) [] σ' H' s' ∧ tnn i s'.heap ∧ (∀ b ∈ fp, H' b = none) ∧ W i n' σ' H') ?_ m0
   ⟨0, _, _, Ic t', T.keep 0 _ _ st2 fun b hb o e => kept _ _ (old _ _ e), fun b hb => (f3 b hb).1, w0⟩
  rintro n' s5 ⟨i, σ5, H5, I5, st5, fr5, w5⟩
  rcases turn i n' σ5 H5 w5 with ⟨stop, qn⟩ | ⟨go, N, hN', step⟩
  ·refine thn (T.done (cxC X Nc scope cl s3 (upd H2 D (.lst [])) fp) rfl rfl rfl hc i [] s5 σ5 H5 (fun _ _ => False) I5 (stat fr5) st5 stop) fun r s6 ⟨hr, I6⟩ => ?_
   subst hr
   obtain ⟨m, hm, _⟩ := I6.loc
   have I7 : Inv X pins σ H5 s6 := Inv.call' (ch := fp) I3 I6.os I6.base I6.hok I6.bare fun b hb => ⟨(f2 b hb).2.2.2.1, (f2 b hb).2.1, (f2 b hb).2.2.2.2.1, (f2 b hb).2.2.2.2.2⟩
   exact hend D _ s6 H5 m I7 hm I6.free (Ne.symm (Nat.ne_of_lt I3.lt)) I3.sz (fun x c e => by
     obtain ⟨v', o, ho, _⟩ := I3.cell x c e
     exact Nat.ne_of_lt (Heap.lt_size ho)) (fun p hp => Nat.ne_of_lt (Heap.lt_size (I3.pin p hp).1)) qn
  ·refine thn (T.item (cxC X Nc scope cl s3 (upd H2 D (.lst [])) fp) rfl rfl rfl hc i [] s5 σ5 H5 (fun _ _ => False) I5 (stat fr5) st5 go) fun r s6 ⟨u, hr, h6⟩ => ?_
   subst hr
   refine thn h6 fun _ s7 hz => ?_
   obtain ⟨x, H7, I7, r7, y7, st7, fr7⟩ := hz
   have I7' := I7.pinned (stat fr7) (T.obj _ _ st7)
   refine thn ((hg s3 (upd H2 D (.lst [])) fp).h _ s7 σ5 H7 x u _ I7' r7 (step x H7 y7)) fun _ s8 hz => ?_
   obtain ⟨σ8, H8, I8, q8⟩ := hz
   refine thn ((he s3 (upd H2 D (.lst [])) fp).h _ s8 σ8 H8 _ I8 q8) fun v9 s9 hz => ?_
   obtain ⟨x9, H9, I9, r9, ys, hy, hlt, q9⟩ := hz
   refine thn (iJ (X := cxC X Nc scope cl s3 (upd H2 D (.lst [])) fp) _ s9 σ8 H9 (.ref D) [x9] (.ref D) [v9] (fun _ H' => N σ8 H') I9 rfl (.cons r9 .nil) ⟨D, ys, x9, rfl, rfl, hy, hlt, q9⟩) fun _ s10 hz => ?_
   obtain ⟨_, H10, I10, _, q10⟩ := hz
   obtain ⟨m', hm, w10⟩ := hN' σ8 H10 q10
   refine ⟨m', hm, i + 1, σ8, H10, I10.unpinned, T.keep _ _ _ st7 fun b hb o e => (I10.pin (b, o) (List.mem_append_right _ (List.mem_append_right _ (dR hb e)))).1, fun b hb => ?_, w10⟩
   obtain ⟨o, e, d⟩ := T.obj _ _ st7 b hb
   exact (I10.pin (b, o) (List.mem_append_right _ (List.mem_append_right _ (dR hb e)))).2.1
 have e4 : ∀ t', ({ s2 with heap := h₁, toks := t' } : Shared) = { s3 with heap := h₁, toks := t' } := fun t' => by rw [← hs3]
 refine codeAny_compStart_list (loop _ ⟨_, e4 _⟩) (T.self _ 0 _ _ _ (T.keep 0 _ _ st2 fun b hb o e => kept _ _ (old _ _ e)) (loop _ ⟨_, e4 _⟩))
theorem mY {X : Cx} {Nc capN tn : List Str} {scope : Scope} {cl : List (Str × Addr)} {n : Nat} {caps : List Nat} {tg iter elt : Expr} {pos : Pos} {wi : TI} {g : TG} {te : TE}
  (hc : X.calm = true) (hi : WI X tg iter wi) (hg : ∀ s3 H3 fp, WG (cxC X Nc scope cl s3 H3 fp) tg g) (he : ∀ s3 H3 fp, WE (cxC X Nc scope cl s3 H3 fp) elt te)
  (hclos : closureFor scope X.env = pure cl) (hkind : scope.kind = .function) (hnl : ∀ x ∈ scope.names, x.2 = .local → scope.names.lookup x.1 = some .local) (hcell : ∀ x ∈ scope.names, x.2 ≠ .cell)
  (hcl : mU X.env cl) (hhas : ((relabel scope X.env).names.all fun p => !(p.2 == .cell || p.2 == .free) || (cl.lookup p.1).isSome) = true)
  (hcap : Paired (Cap X scope cl) caps capN) (hN : Nc = tn ++ capN) (hn : tn.length = n)
  (hs : ∀ x, foldedSetIterable iter X.env x = pure x := by intro _; rfl) :
  WE X (.ListComp elt [⟨tg, iter, [], 0⟩] scope pos) (sx wi g te n caps) := by
 constructor
 intro pins s σ H Q I h
 rw [eval_ListComp]
 refine nY hc hi hg he hclos hkind hnl hcell hcl hhas hcap hN hn I h (fun D C s6 H5 m I7 hm fr nl sz cn pn qn => ⟨m, hm, fun h' hs' => ?_⟩) hs
 exact ⟨.ref D, H5, I7.turned (t' := s6.toks) (it := C) (fun b o hb e => hs'.extBut b o hb e) fr nl (.inr sz) cn pn, rfl, qn⟩
section
variable {X : Cx}
theorem pM : ∀ {bs : List Bool} {us : List Value} {i : Nat} {v : Value}, bR (bs.map V.bl) us → us[i]? = some v → ∃ b, bs[i]? = some b ∧ v = .bool b
 | [], _, _, _, r, e => by cases r; simp at e
 | b :: bs, _, 0, _, .cons r _, e => by
  have r' : _ = Value.bool b := r
  simp at e; subst e; exact ⟨b, by simp, r'⟩
 | b :: bs, _, i + 1, v, .cons _ t, e => by
  obtain ⟨b', e1, e2⟩ := pM (i := i) (v := v) t (by simpa using e)
  exact ⟨b', by simpa using e1, e2⟩
theorem xh {h : Heap} {b : Addr} {o : Obj} (e : h.get? b = some o) : ¬ b ∈ [h.objs.size] := fun z => by
 have z' : b = h.objs.size := by simpa using z
 exact absurd (Heap.lt_size e) (by rw [z']; exact Nat.lt_irrefl _)
end
open PySem.AutoSeq1 (wpAny_loadPart')
theorem uw {prog : Program} {w : World} {A : Around} {E : Value → Shared → Prop} {s : Shared} {t b : Addr} {vs ws : List Value} {Q : Value → Shared → Prop} (ht : IsTup s.heap t vs.toArray) (hb : IsTup s.heap b ws.toArray) (hv : vs = [])
  (h1 : Q (.ref b) s) : wpAny (model prog w) A (binaryOp .Add (.ref t) (.ref b)) Q E s := by
 obtain ⟨⟨cls, dd, data, sl⟩, ho, hc, n, hd⟩ := id ht
 obtain ⟨⟨cls2, dd2, data2, sl2⟩, ho2, hc2, n2, hd2⟩ := id hb
 simp only at hc hd hc2 hd2
 subst hc hd hc2 hd2
 exact concat_meets ⟨_, ho, rfl⟩ ⟨_, ho2, rfl⟩ noFill_tuple_add seq_tuple_add PySem.F.slot_tuple_add PySem.F.entry_tuple_add (PySem.F.args_tuple_add_2 _ _)
   (tuple_addW0 t b vs.toArray ws.toArray n n2 dd dd2 sl sl2 (by simp [hv])) ⟨ho, ho2, h1⟩
theorem g8 : fillsNumberSlot (.type "tuple") "mul" = pure false :=
 PySem.fillsNumberSlot_seq (id := "tuple.__mul__") (r := some (.builtin "tuple.__rmul__")) F.slot_tuple_mul.lookup (by decide +kernel) F.slot_tuple_rmul.lookup (by decide +kernel)
theorem ky : seqRepeat? (.type "tuple") = pure (some (.builtin "tuple.__mul__")) := by
 unfold seqRepeat?
 rw [PySem.seqSlot_of (T := "tuple") (name := "__mul__") (id := "tuple.__mul__") F.slot_tuple_mul.lookup (by decide +kernel), PySem.seqSlot_of (T := "tuple") (name := "__rmul__") (id := "tuple.__rmul__") F.slot_tuple_rmul.lookup (by decide +kernel)]
 rfl
theorem jg (a : Int) (t : Tok) (l : Addr) (items : Array Value) (n : Nat) (dd : Option Addr) (sl : Array (Option Value)) :
  Meets (Builtin.«int.__rmul__» ⟨[.int a t, .ref l], []⟩) (fun _ R s => s.heap.get? l = some { cls := .type "tuple", dict := dd, data := .seq items n, slots := sl } ∧ R (.ok (.ret Value.notImplemented)) s) :=
 .of_wp fun prog w A R s h => by obtain ⟨hp, g, d, tk, os⟩ := s; obtain ⟨hl, h⟩ := h; wp_walk using wpAny_loadPart' hl; exact ⟨_, rfl, h⟩
theorem ma (l : Addr) (items : Array Value) (n : Nat) (dd : Option Addr) (sl : Array (Option Value)) (t : Tok) :
  Meets (Builtin.«tuple.__mul__» ⟨[.ref l, .int 1 t], []⟩) (fun _ R s => s.heap.get? l = some { cls := .type "tuple", dict := dd, data := .seq items n, slots := sl } ∧ R (.ok (.ret (Value.ref l))) s) :=
 .of_wp fun prog w A R s h => by obtain ⟨hp, g, d, tk, os⟩ := s; obtain ⟨hl, h⟩ := h; have f1 := AutoSeq1.idx_int; wp_walk using wpAny_loadPart' hl; exact ⟨_, rfl, h⟩
theorem lZ (l : Addr) (items : Array Value) (n : Nat) (dd : Option Addr) (sl : Array (Option Value)) (k : Int) (t : Tok) (hc0 : ¬(decide (k < -2 ^ 63) || decide (k ≥ 2 ^ 63)) = true) (hc1 : ¬(items.isEmpty || k == 1) = true) (hc2 : ¬(decide (k ≤ 0) || items.isEmpty) = true)
  (hc3 : ¬((items.size : Int) * k > (2 ^ 63 - 1) / 8)) (hc4 : ¬Builtin.Tuple.tupleTooMany ((items.size : Int) * k) = true) (hz : (List.foldl (fun x1 x2 => x1 ++ x2) #[] (List.replicate k.toNat items)).size ≤ sizeLine) :
  Meets (Builtin.«tuple.__mul__» ⟨[.ref l, .int k t], []⟩) (fun _ R s => s.heap.get? l = some { cls := .type "tuple", dict := dd, data := .seq items n, slots := sl } ∧
   R (.ok (.ret (Value.ref s.heap.objs.size))) { s with heap := s.heap.push { cls := Value.type "tuple", data := Data.seq (List.foldl (fun x1 x2 => x1 ++ x2) #[] (List.replicate k.toNat items)) } }) :=
 .of_wp fun prog w A R s h => by
  obtain ⟨hp, g, d, tk, os⟩ := s
  obtain ⟨hl, h⟩ := h
  have f1 := AutoSeq1.idx_int
  have g0 : (decide (k < -2 ^ 63) || decide (k ≥ 2 ^ 63)) = false := by simpa using hc0
  have g1 : (items.isEmpty || k == 1) = false := by simpa using hc1
  have g2 : (decide (k ≤ 0) || items.isEmpty) = false := by simpa using hc2
  have g4 : Builtin.Tuple.tupleTooMany ((items.size : Int) * k) = false := by simpa using hc4
  wp_walk using wpAny_loadPart' hl
  refine PySem.W.KFB.if_not g0 ?_
  wp_walk using wpAny_loadPart' hl
  try (refine PySem.W.KFB.if_not g1 ?_; wp_walk using wpAny_loadPart' hl)
  try (refine PySem.W.KFB.if_not g2 ?_; wp_walk using wpAny_loadPart' hl)
  try (rw [if_neg hc3]; wp_walk using wpAny_loadPart' hl)
  try (refine PySem.W.KFB.if_not g4 ?_; wp_walk using wpAny_loadPart' hl)
  try (refine wpAny_ite_false (decide_eq_false (Nat.not_lt.mpr hz)) ?_; wp_walk)
  exact ⟨_, rfl, h⟩
theorem xE {l : Addr} {lo : Int} {n : Nat} {g : TG} {te : TE} {Q : VK} {σ : L2.St} {H : Hp} (Pv : Nat → L2.St → Hp → List V → Prop) (h0 : Pv 0 σ H [])
  (hs : ∀ i σ H ys, i < n → ys.length = i → Pv i σ H ys → g (.int (lo + i)) σ H fun σ2 H2 => te σ2 H2 fun v H3 => ∃ ys', H3 l = some (.lst ys') ∧ ys'.length < sizeLine ∧ ∃ zs, zs.length = i + 1 ∧ Pv (i + 1) σ2 (upd H3 l (.lst (ys' ++ [v]))) zs)
  (hd : ∀ σ H ys, ys.length = n → Pv n σ H ys → Q (.ref l) H) :
  ∃ W : Nat → Nat → L2.St → Hp → Prop, (∃ m, W 0 m σ H) ∧ ∀ i m σ' H2, W i m σ' H2 → ((Itr lo n).stop i H2 ∧ Q (.ref l) H2) ∨ ((Itr lo n).go i H2 ∧ ∃ N : L2.St → Hp → Prop, (∀ σ'' H', N σ'' H' → ∃ m', m' < m ∧ W (i + 1) m' σ'' H') ∧
   ∀ x H3, (Itr lo n).yld i H2 x H3 → g x σ' H3 fun σ2 H4 => te σ2 H4 fun v H5 => ∃ ys, H5 l = some (.lst ys) ∧ ys.length < sizeLine ∧ N σ2 (upd H5 l (.lst (ys ++ [v])))) := by
 refine ⟨fun i m σ H => m = n - i ∧ i ≤ n ∧ ∃ ys, ys.length = i ∧ Pv i σ H ys, ⟨n, by simp, Nat.zero_le _, [], rfl, h0⟩, ?_⟩
 rintro i m σ H ⟨rfl, hi, ys, hy, p⟩
 by_cases hlt : i < n
 ·refine .inr ⟨hlt, fun σ' H' => ∃ ys, ys.length = i + 1 ∧ Pv (i + 1) σ' H' ys, fun σ' H' p' => ⟨n - (i + 1), by omega, rfl, hlt, p'⟩, fun x H' y => ?_⟩
  obtain ⟨e, y⟩ := y
  subst e
  subst y
  exact hs i σ H' ys hlt hy p
 ·have e : i = n := by omega
  subst e
  exact .inl ⟨Nat.le_refl _, hd σ H ys hy p⟩
theorem qy {m : Int} (h0 : 0 ≤ m) (h : m < 2 ^ 60) : m.natAbs.log2 < 9000 := by
 have := oG (n := m.natAbs) (by omega)
 omega
end OG
namespace OP
open PySem PySem.Spec PyProof.Rows L2 OG
inductive U where
 | non | bl (b : Bool) | int (i : Int) | str (x : Str) | tup (us : List U) | ref (l : Nat) | kl (ns : List Int)
structure Cl where
 C : Addr
 ns : List Str
inductive O where
 | lst (us : List U) | dic (kvs : List (Key × U)) | ins (c : Cl) (fs : List (Option U)) | fdc (ep : Nat) (kvs : List (Key × U)) | dit (kvs : List (List Key × U)) | fdt (ep : Nat) (kvs : List (List Key × U))
noncomputable abbrev Sto := List O
noncomputable abbrev Rho := List (Option U)
noncomputable def KL (K : PySem.W.Frag) (H : Hp) (a : Addr) (ns : List Int) : Prop :=
 (∃ o, H a = some (.frz o (.lst (ns.map V.int)))) ∨
  ∃ (o : Obj) (its : Array Value) (n : Nat), K.lookup a = some o ∧ o.cls = .type "list" ∧ o.dict = none ∧ o.data = .seq its n ∧ its.size ≤ sizeLine ∧ bR (ns.map V.int) its.toList
theorem KL.sq {K : PySem.W.Frag} {H : Hp} {a : Addr} {ns : List Int} (h : KL K H a ns) : SqL K H a (ns.map V.int) := by
 rcases h with h | h
 ·exact .inl (.inr h)
 ·exact .inr h
mutual
noncomputable def Is (K : PySem.W.Frag) (m : List Addr) (H : Hp) : V → U → Prop
 | v, .non => v = .non
 | v, .bl b => v = .bl b
 | v, .int i => v = .int i
 | v, .str x => v = .str x
 | v, .tup us => ∃ a xs, v = .ref a ∧ SqT K H a xs ∧ IsL K m H xs us
 | v, .ref l => ∃ a, m[l]? = some a ∧ v = .ref a
 | v, .kl ns => ∃ a, v = .ref a ∧ KL K H a ns
noncomputable def IsL (K : PySem.W.Frag) (m : List Addr) (H : Hp) : List V → List U → Prop
 | xs, [] => xs = []
 | xs, u :: us => ∃ x r, xs = x :: r ∧ Is K m H x u ∧ IsL K m H r us
end
structure uB (K : PySem.W.Frag) (H H' : Hp) : Prop where
 t : ∀ a xs, SqT K H a xs → SqT K H' a xs
 l : ∀ a ns, KL K H a ns → KL K H' a ns
structure Ext (K : PySem.W.Frag) (m : List Addr) (H : Hp) (m' : List Addr) (H' : Hp) : Prop where
 pre : ∃ t, m' = m ++ t
 keep : uB K H H'
section
variable {K : PySem.W.Frag} {m m' m'' : List Addr} {H H' H'' : Hp} {v x : V} {u : U} {xs ys : List V} {us ws : List U} {a q : Addr} {o : HO}
theorem Ext.refl : Ext K m H m H := ⟨⟨[], by simp⟩, fun _ _ h => h, fun _ _ h => h⟩
theorem Ext.trans (a : Ext K m H m' H') (b : Ext K m' H' m'' H'') : Ext K m H m'' H'' := by
 obtain ⟨t, rfl⟩ := a.pre
 obtain ⟨t', rfl⟩ := b.pre
 exact ⟨⟨t ++ t', by simp⟩, fun c ys h => b.keep.t c ys (a.keep.t c ys h), fun c ys h => b.keep.l c ys (a.keep.l c ys h)⟩
theorem Ext.of (k : uB K H H') : Ext K m H m H' := ⟨⟨[], by simp⟩, k⟩
theorem Ext.new (k : uB K H H') : Ext K m H (m ++ [q]) H' := ⟨⟨[q], rfl⟩, k⟩
theorem Ext.get {l : Nat} (e : Ext K m H m' H') (h : m[l]? = some a) : m'[l]? = some a := by
 obtain ⟨t, rfl⟩ := e.pre
 rw [List.getElem?_append_left (List.getElem?_eq_some_iff.mp h).1]
 exact h
mutual
theorem Is.mono (e : Ext K m H m' H') : ∀ {v : V} {u : U}, Is K m H v u → Is K m' H' v u
 | v, .non, h => by unfold Is at h ⊢; exact h
 | v, .bl b, h => by unfold Is at h ⊢; exact h
 | v, .int i, h => by unfold Is at h ⊢; exact h
 | v, .str x, h => by unfold Is at h ⊢; exact h
 | v, .tup us, h => by
  unfold Is at h ⊢
  obtain ⟨a, xs, e1, k, l⟩ := h
  exact ⟨a, xs, e1, e.keep.t _ _ k, IsL.mono e l⟩
 | v, .ref l, h => by
  unfold Is at h ⊢
  obtain ⟨a, k, e1⟩ := h
  exact ⟨a, e.get k, e1⟩
 | v, .kl ns, h => by
  unfold Is at h ⊢
  obtain ⟨a, e1, k⟩ := h
  exact ⟨a, e1, e.keep.l _ _ k⟩
theorem IsL.mono (e : Ext K m H m' H') : ∀ {xs : List V} {us : List U}, IsL K m H xs us → IsL K m' H' xs us
 | xs, [], h => by unfold IsL at h ⊢; exact h
 | xs, u :: us, h => by
  unfold IsL at h ⊢
  obtain ⟨x, r, e1, k, l⟩ := h
  exact ⟨x, r, e1, Is.mono e k, IsL.mono e l⟩
end
theorem Is.int_ {i : Int} : Is K m H (.int i) (.int i) := by unfold Is; rfl
theorem Is.bl_ {b : Bool} : Is K m H (.bl b) (.bl b) := by unfold Is; rfl
theorem Is.non_ : Is K m H .non .non := by unfold Is; rfl
theorem Is.str_ {x : Str} : Is K m H (.str x) (.str x) := by unfold Is; rfl
theorem Is.of_int {i : Int} (h : Is K m H v (.int i)) : v = .int i := by unfold Is at h; exact h
theorem Is.of_bl {b : Bool} (h : Is K m H v (.bl b)) : v = .bl b := by unfold Is at h; exact h
theorem Is.of_non (h : Is K m H v .non) : v = .non := by unfold Is at h; exact h
theorem Is.of_str {x : Str} (h : Is K m H v (.str x)) : v = .str x := by unfold Is at h; exact h
theorem Is.of_tup (h : Is K m H v (.tup us)) : ∃ a xs, v = .ref a ∧ SqT K H a xs ∧ IsL K m H xs us := by unfold Is at h; exact h
theorem Is.of_ref {l : Nat} (h : Is K m H v (.ref l)) : ∃ a, m[l]? = some a ∧ v = .ref a := by unfold Is at h; exact h
theorem Is.of_kl {ns : List Int} (h : Is K m H v (.kl ns)) : ∃ a, v = .ref a ∧ KL K H a ns := by unfold Is at h; exact h
theorem Is.kl_ {ns : List Int} (e : KL K H a ns) : Is K m H (.ref a) (.kl ns) := by unfold Is; exact ⟨a, rfl, e⟩
theorem Is.tup_ (e : SqT K H a xs) (h : IsL K m H xs us) : Is K m H (.ref a) (.tup us) := by unfold Is; exact ⟨a, xs, rfl, e, h⟩
theorem Is.ref_ {l : Nat} (e : m[l]? = some a) : Is K m H (.ref a) (.ref l) := by unfold Is; exact ⟨a, e, rfl⟩
theorem IsL.nil_ : IsL K m H [] [] := by unfold IsL; rfl
theorem IsL.cons_ (h : Is K m H x u) (t : IsL K m H xs us) : IsL K m H (x :: xs) (u :: us) := by unfold IsL; exact ⟨x, xs, rfl, h, t⟩
theorem IsL.of_nil (h : IsL K m H xs []) : xs = [] := by unfold IsL at h; exact h
theorem IsL.of_cons (h : IsL K m H xs (u :: us)) : ∃ x r, xs = x :: r ∧ Is K m H x u ∧ IsL K m H r us := by unfold IsL at h; exact h
theorem IsL.length : ∀ {xs : List V} {us : List U}, IsL K m H xs us → xs.length = us.length
 | xs, [], h => by rw [h.of_nil]; rfl
 | xs, d :: ds, h => by
  obtain ⟨x, r, rfl, _, t⟩ := h.of_cons
  rw [List.length_cons, List.length_cons, IsL.length t]
theorem IsL.getD : ∀ {xs : List V} {us : List U} {i : Nat} {u : U}, IsL K m H xs us → us[i]? = some u → ∃ x, xs[i]? = some x ∧ Is K m H x u
 | xs, [], i, x, h, e => by simp at e
 | xs, d :: ds, 0, x, h, e => by
  obtain ⟨y, r, rfl, k, t⟩ := h.of_cons
  simp at e; subst e; exact ⟨y, by simp, k⟩
 | xs, d :: ds, i + 1, x, h, e => by
  obtain ⟨y, r, rfl, k, t⟩ := h.of_cons
  obtain ⟨d', e1, e2⟩ := IsL.getD (i := i) (u := x) t (by simpa using e)
  exact ⟨d', by simpa using e1, e2⟩
theorem IsL.append : ∀ {xs : List V} {us : List U}, IsL K m H xs us → IsL K m H ys ws → IsL K m H (xs ++ ys) (us ++ ws)
 | xs, [], h, k => by rw [h.of_nil]; exact k
 | xs, d :: ds, h, k => by
  obtain ⟨y, r, rfl, z, t⟩ := h.of_cons
  exact .cons_ z (IsL.append t k)
theorem IsL.set : ∀ {xs : List V} {us : List U} {j : Nat}, IsL K m H xs us → Is K m H x u → IsL K m H (xs.set j x) (us.set j u)
 | xs, [], j, h, k => by rw [h.of_nil]; exact .nil_
 | xs, d :: ds, 0, h, k => by
  obtain ⟨y, r, rfl, z, t⟩ := h.of_cons
  exact .cons_ k t
 | xs, d :: ds, j + 1, h, k => by
  obtain ⟨y, r, rfl, z, t⟩ := h.of_cons
  exact .cons_ z (IsL.set t k)
theorem IsL.erase : ∀ {xs : List V} {us : List U} (n : Nat), IsL K m H xs us → IsL K m H (xs.eraseIdx n) (us.eraseIdx n)
 | xs, [], n, h => by rw [h.of_nil]; exact .nil_
 | xs, d :: ds, 0, h => by
  obtain ⟨y, r, rfl, z, t⟩ := h.of_cons
  exact t
 | xs, d :: ds, n + 1, h => by
  obtain ⟨y, r, rfl, z, t⟩ := h.of_cons
  exact .cons_ z (IsL.erase n t)
theorem IsL.rep : ∀ (n : Nat), IsL K m H xs us → IsL K m H (List.replicate n xs).flatten (List.replicate n us).flatten
 | 0, h => .nil_
 | n + 1, h => by
  rw [List.replicate_succ, List.replicate_succ, List.flatten_cons, List.flatten_cons]
  exact h.append (IsL.rep n h)
theorem nJ (h : H a = some o) (nt : ∀ xs, o ≠ .tup xs) (nf : ∀ ob xs, o ≠ .frz ob (.tup xs)) (nl : ∀ ob xs, o ≠ .frz ob (.lst xs)) (o' : HO) : uB K H (upd H a o') := by
 refine ⟨fun b xs q => ?_, fun b ns q => ?_⟩
 ·rcases q with (q | ⟨ob, q⟩) | q
  ·have n : b ≠ a := fun z => by subst z; rw [q] at h; cases h; exact nt _ rfl
   exact .inl (.inl (by rw [bh n]; exact q))
  ·have n : b ≠ a := fun z => by subst z; rw [q] at h; cases h; exact nf _ _ rfl
   exact .inl (.inr ⟨ob, by rw [bh n]; exact q⟩)
  ·exact .inr q
 ·rcases q with ⟨ob, q⟩ | q
  ·have n : b ≠ a := fun z => by subst z; rw [q] at h; cases h; exact nl _ _ rfl
   exact .inl ⟨ob, by rw [bh n]; exact q⟩
  ·exact .inr q
theorem dC (s : vx H H') : uB K H H' := by
 refine ⟨fun b xs q => ?_, fun b ns q => ?_⟩
 ·rcases q with (q | ⟨ob, q⟩) | q
  ·exact .inl (.inl (s _ _ q))
  ·exact .inl (.inr ⟨ob, s _ _ q⟩)
  ·exact .inr q
 ·rcases q with ⟨ob, q⟩ | q
  ·exact .inl ⟨ob, s _ _ q⟩
  ·exact .inr q
theorem b7 (h : H q = none) (o' : HO) : uB K H (upd H q o') := dC (gq h o')
end
noncomputable def IsP {κ : Type} (K : PySem.W.Frag) (m : List Addr) (H : Hp) (kvs : List (κ × V)) (kus : List (κ × U)) : Prop := kvs.map (·.1) = kus.map (·.1) ∧ IsL K m H (kvs.map (·.2)) (kus.map (·.2))
noncomputable def Rf (K : PySem.W.Frag) (m : List Addr) (H : Hp) : Option V → Option U → Prop
 | some v, some u => Is K m H v u
 | none, none => True
 | _, _ => False
structure InF (K : PySem.W.Frag) (m : List Addr) (H : Hp) (c : Cl) (fs : List (Str × V)) (fus : List (Option U)) : Prop where
 nd : c.ns.Nodup
 few : c.ns.length < 1000
 knd : (fs.map (·.1)).Nodup
 sub : ∀ x ∈ fs.map (·.1), x ∈ c.ns
 len : fus.length = c.ns.length
 at_ : ∀ (i : Nat) (x : Str), c.ns[i]? = some x → Rf K m H (fs.lookup x) ((fus[i]?).join)
theorem Rf.mono {K : PySem.W.Frag} {m m' : List Addr} {H H' : Hp} {v : Option V} {u : Option U} (e : Ext K m H m' H') (h : Rf K m H v u) : Rf K m' H' v u := by
 cases v with
 | none => cases u with
  | none => trivial
  | some u => exact h.elim
 | some v => cases u with
  | none => exact h.elim
  | some u => exact Is.mono e h
theorem InF.mono {K : PySem.W.Frag} {m m' : List Addr} {H H' : Hp} {c : Cl} {fs : List (Str × V)} {fus : List (Option U)} (e : Ext K m H m' H') (h : InF K m H c fs fus) : InF K m' H' c fs fus := ⟨h.nd, h.few, h.knd, h.sub, h.len, fun i x q => (h.at_ i x q).mono e⟩
noncomputable def Ob (K : PySem.W.Frag) (m : List Addr) (H : Hp) (a : Addr) : O → Prop
 | .lst us => ∃ xs, H a = some (.lst xs) ∧ IsL K m H xs us
 | .dic kus => ∃ kvs, H a = some (.dK kvs) ∧ IsP K m H kvs kus
 | .ins c fus => ∃ dx fs, H a = some (.ins c.C dx fs) ∧ InF K m H c fs fus
 | .fdc ep kus => ∃ ob es kvs, H a = some (.frz ob (.dK kvs)) ∧ ob.data = .dict es ep ∧ IsP K m H kvs kus
 | .dit kus => ∃ kvs, H a = some (.dT kvs) ∧ IsP K m H kvs kus
 | .fdt ep kus => ∃ ob es kvs, H a = some (.frz ob (.dT kvs)) ∧ ob.data = .dict es ep ∧ IsP K m H kvs kus
structure Sr (K : PySem.W.Frag) (m : List Addr) (S : Sto) (H : Hp) : Prop where
 len : m.length = S.length
 nd : m.Nodup
 ob : ∀ (l : Nat) (a : Addr) (o : O), m[l]? = some a → S[l]? = some o → Ob K m H a o
structure Lr (K : PySem.W.Frag) (m : List Addr) (H : Hp) (ρ : Rho) (σ : L2.St) : Prop where
 len : ρ.length = σ.length
 at_ : ∀ (i : Nat) (u : U), ρ[i]? = some (some u) → ∃ v, σ[i]? = some (some v) ∧ Is K m H v u
section
variable {κ : Type} {K : PySem.W.Frag} {m m' : List Addr} {H H' : Hp} {S S' : Sto} {ρ : Rho} {σ : L2.St} {a q : Addr} {l : Nat} {o : O} {ho : HO} {us : List U} {v : V} {u : U} {kvs : List (κ × V)} {kus : List (κ × U)}
theorem IsP.mono (e : Ext K m H m' H') (h : IsP K m H kvs kus) : IsP K m' H' kvs kus := ⟨h.1, h.2.mono e⟩
theorem IsP.length (h : IsP K m H kvs kus) : kvs.length = kus.length := by have := h.2.length; simpa using this
theorem IsP.nil_ : IsP (κ := κ) K m H [] [] := ⟨rfl, .nil_⟩
theorem IsP.cons_ {k : κ} (h : Is K m H v u) (t : IsP K m H kvs kus) : IsP K m H ((k, v) :: kvs) ((k, u) :: kus) := ⟨by simp [t.1], .cons_ h t.2⟩
theorem IsP.ind {P : List (κ × V) → List (κ × U) → Prop} (h0 : P [] []) (h1 : ∀ k v u kvs kus, Is K m H v u → IsP K m H kvs kus → P kvs kus → P ((k, v) :: kvs) ((k, u) :: kus)) : ∀ {kvs : List (κ × V)} {kus : List (κ × U)}, IsP K m H kvs kus → P kvs kus
 | [], [], _ => h0
 | [], p :: r, h => by have := h.length; simp at this
 | p :: r, [], h => by have := h.length; simp at this
 | (k, v) :: r, (k', u) :: r', h => by
  obtain ⟨e, i⟩ := h
  simp only [List.map_cons, List.cons.injEq] at e
  obtain ⟨e1, e2⟩ := e
  subst e1
  obtain ⟨x, t, e3, iu, it⟩ := i.of_cons
  cases e3
  exact h1 k v u r r' iu ⟨e2, it⟩ (IsP.ind h0 h1 (⟨e2, it⟩ : IsP K m H r r'))
theorem Ob.mono (e : Ext K m H m' H') (h1 : H' a = H a) (h : Ob K m H a o) : Ob K m' H' a o := by
 cases o with
 | lst us => obtain ⟨xs, k, i⟩ := h; exact ⟨xs, h1.trans k, i.mono e⟩
 | dic kus => obtain ⟨xs, k, i⟩ := h; exact ⟨xs, h1.trans k, i.mono e⟩
 | ins C fus => obtain ⟨dx, fs, k, i⟩ := h; exact ⟨dx, fs, h1.trans k, i.mono e⟩
 | fdc ep kus => obtain ⟨ob, es, kvs, k, d, i⟩ := h; exact ⟨ob, es, kvs, h1.trans k, d, i.mono e⟩
 | dit kus => obtain ⟨xs, k, i⟩ := h; exact ⟨xs, h1.trans k, i.mono e⟩
 | fdt ep kus => obtain ⟨ob, es, kvs, k, d, i⟩ := h; exact ⟨ob, es, kvs, h1.trans k, d, i.mono e⟩
theorem Ob.some (h : Ob K m H a o) : ∃ ho, H a = some ho ∧ (∀ xs, ho ≠ .tup xs) ∧ (∀ ob xs, ho ≠ .frz ob (.tup xs)) ∧ (∀ ob xs, ho ≠ .frz ob (.lst xs)) := by
 cases o with
 | lst us => obtain ⟨xs, k, i⟩ := h; exact ⟨_, k, by simp, by simp, by simp⟩
 | dic kus => obtain ⟨xs, k, i⟩ := h; exact ⟨_, k, by simp, by simp, by simp⟩
 | ins C fus => obtain ⟨dx, fs, k, i⟩ := h; exact ⟨_, k, by simp, by simp, by simp⟩
 | fdc ep kus => obtain ⟨ob, es, kvs, k, d, i⟩ := h; exact ⟨_, k, by simp, by simp, by simp⟩
 | dit kus => obtain ⟨xs, k, i⟩ := h; exact ⟨_, k, by simp, by simp, by simp⟩
 | fdt ep kus => obtain ⟨ob, es, kvs, k, d, i⟩ := h; exact ⟨_, k, by simp, by simp, by simp⟩
theorem Lr.mono (e : Ext K m H m' H') (h : Lr K m H ρ σ) : Lr K m' H' ρ σ := ⟨h.len, fun i u e1 => let ⟨v, e2, e3⟩ := h.at_ i u e1; ⟨v, e2, e3.mono e⟩⟩
theorem Lr.set (h : Lr K m H ρ σ) (i : Nat) (hv : Is K m H v u) : Lr K m H (ρ.set i (some u)) (σ.set i (some v)) := by
 refine ⟨by simp [h.len], fun j w e => ?_⟩
 by_cases c : i = j
 ·subst c
  rw [List.getElem?_set_self' ] at e
  rw [List.getElem?_set_self']
  have hl := h.len
  cases e1 : ρ[i]? with
  | none => rw [e1] at e; simp at e
  | some z =>
   rw [e1] at e
   simp at e
   subst e
   have : i < σ.length := by rw [← hl]; exact (List.getElem?_eq_some_iff.mp e1).1
   rw [List.getElem?_eq_getElem this]
   exact ⟨v, rfl, hv⟩
 ·rw [List.getElem?_set_ne c] at e
  rw [List.getElem?_set_ne c]
  exact h.at_ j w e
theorem Sr.get (r : Sr K m S H) (h : S[l]? = some o) : ∃ a, m[l]? = some a ∧ Ob K m H a o := by
 have hl : l < m.length := by rw [r.len]; exact (List.getElem?_eq_some_iff.mp h).1
 exact ⟨_, List.getElem?_eq_getElem hl, r.ob _ _ _ (List.getElem?_eq_getElem hl) h⟩
theorem Sr.at_ (r : Sr K m S H) (h : m[l]? = some a) : ∃ o, S[l]? = some o ∧ Ob K m H a o := by
 have hl : l < S.length := by rw [← r.len]; exact (List.getElem?_eq_some_iff.mp h).1
 exact ⟨_, List.getElem?_eq_getElem hl, r.ob _ _ _ h (List.getElem?_eq_getElem hl)⟩
theorem Sr.same (r : Sr K m S H) (s : vx H H') : Sr K m S H' := ⟨r.len, r.nd, fun l a o h1 h2 => by
 have q := r.ob l a o h1 h2
 obtain ⟨ho, e, _⟩ := q.some
 exact q.mono (.of (dC s)) (by rw [s _ _ e, e])⟩
theorem Sr.new (r : Sr K m S H) (h : H q = none) (n : Ob K (m ++ [q]) (upd H q ho) q o) : Sr K (m ++ [q]) (S ++ [o]) (upd H q ho) := by
 have hq : q ∉ m := fun z => by
  obtain ⟨l, e⟩ := List.getElem?_of_mem z
  obtain ⟨o, _, k⟩ := r.at_ e
  obtain ⟨ho, e2, _⟩ := k.some
  rw [h] at e2; cases e2
 refine ⟨by simp [r.len], ?_, fun l a o' h1 h2 => ?_⟩
 ·rw [List.nodup_append]
  exact ⟨r.nd, by simp, fun x hx y hy z => by simp at hy; subst hy; subst z; exact hq hx⟩
 ·by_cases c : l < m.length
  ·rw [List.getElem?_append_left c] at h1
   rw [List.getElem?_append_left (by rw [← r.len]; exact c)] at h2
   have q' := r.ob l a o' h1 h2
   obtain ⟨ho', e, _⟩ := q'.some
   exact q'.mono (.new (b7 h _)) (by rw [bh (cX e h)])
  ·have e : l = m.length := by
    have := (List.getElem?_eq_some_iff.mp h1).1
    simp at this; omega
   subst e
   rw [List.getElem?_append_right (Nat.le_refl _)] at h1
   rw [List.getElem?_append_right (by rw [r.len]; exact Nat.le_refl _)] at h2
   simp [r.len] at h1 h2
   subst h1; subst h2
   exact n
theorem Sr.put (r : Sr K m S H) (h : m[l]? = some a) (n : Ob K m (upd H a ho) a o) : Sr K m (S.set l o) (upd H a ho) := by
 obtain ⟨o0, h0, k0⟩ := r.at_ h
 obtain ⟨ho', e, nt, nf, nl⟩ := k0.some
 refine ⟨by simp [r.len], r.nd, fun l' a' o' h1 h2 => ?_⟩
 by_cases c : l = l'
 ·subst c
  rw [h] at h1; cases h1
  rw [List.getElem?_set_self (List.getElem?_eq_some_iff.mp h0).1] at h2
  cases h2
  exact n
 ·rw [List.getElem?_set_ne c] at h2
  have na : a' ≠ a := fun z => by
   subst z
   obtain ⟨p1, e1⟩ := List.getElem?_eq_some_iff.mp h
   obtain ⟨p2, e2⟩ := List.getElem?_eq_some_iff.mp h1
   exact c ((List.getElem_inj r.nd).mp (e1.trans e2.symm))
  exact (r.ob l' a' o' h1 h2).mono (.of (nJ e nt nf nl _)) (by rw [bh na])
theorem Sr.keep (r : Sr K m S H) (h : m[l]? = some a) (ho : HO) : uB K H (upd H a ho) := by
 obtain ⟨o0, h0, k0⟩ := r.at_ h
 obtain ⟨ho', e, nt, nf, nl⟩ := k0.some
 exact nJ e nt nf nl _
end
noncomputable def gQ (K : PySem.W.Frag) (m : List Addr) (H : Hp) (Q : VK) (u : U) (S' : Sto) : Prop := ∀ m' v H', Ext K m H m' H' → Sr K m' S' H' → Is K m' H' v u → Q v H'
noncomputable abbrev CE := Rho → Sto → Option (U × Sto)
noncomputable abbrev CT := Rho → Sto → Option (Bool × Sto)
noncomputable abbrev CA := Rho → Sto → Option (List U × Sto)
inductive Out where
 | nx | rt (u : U) | bk | ct
noncomputable abbrev CS := Rho → Sto → Option (Out × Rho × Sto)
noncomputable def uA (K : PySem.W.Frag) (m : List Addr) (H : Hp) (Q : Bool → Hp → Prop) (b : Bool) (S' : Sto) : Prop := ∀ m' H', Ext K m H m' H' → Sr K m' S' H' → Q b H'
noncomputable def Cy (K : PySem.W.Frag) (m : List Addr) (H : Hp) (Q : List V → Hp → Prop) (us : List U) (S' : Sto) : Prop := ∀ m' vs H', Ext K m H m' H' → Sr K m' S' H' → IsL K m' H' vs us → Q vs H'
noncomputable def fM (K : PySem.W.Frag) (m : List Addr) (H : Hp) (Q : L2.St → Hp → Prop) (ρ' : Rho) (S' : Sto) : Prop := ∀ m' σ' H', Ext K m H m' H' → Sr K m' S' H' → Lr K m' H' ρ' σ' → Q σ' H'
noncomputable def oT (K : PySem.W.Frag) (m : List Addr) (H : Hp) (D : rP) : Out → Rho → Sto → Prop
 | .nx, ρ', S' => fM K m H D.nx ρ' S'
 | .bk, ρ', S' => fM K m H D.bk ρ' S'
 | .ct, ρ', S' => fM K m H D.ct ρ' S'
 | .rt u, _, S' => gQ K m H D.rt u S'
theorem kY {α β γ δ ε : Type} {A B C D : α → β → γ → δ → ε → Prop} {p : Prop} (h : ∃ a b c d e, A a b c d e ∧ B a b c d e ∧ C a b c d e ∧ D a b c d e) (f : ∀ a b c d e, A a b c d e → B a b c d e → C a b c d e → D a b c d e → p) : p := by
 obtain ⟨a, b, c, d, e, h1, h2, h3, h4⟩ := h
 exact f a b c d e h1 h2 h3 h4
theorem nU {α β γ δ ε ζ : Type} {A B C D : α → β → γ → δ → ε → ζ → Prop} {p : Prop} (h : ∃ a b c d e g, A a b c d e g ∧ B a b c d e g ∧ C a b c d e g ∧ D a b c d e g) (f : ∀ a b c d e g, A a b c d e g → B a b c d e g → C a b c d e g → D a b c d e g → p) : p := by
 obtain ⟨a, b, c, d, e, g, h1, h2, h3, h4⟩ := h
 exact f a b c d e g h1 h2 h3 h4
theorem De {α β γ δ ε ζ : Type} {A B C D E : α → β → γ → δ → ε → ζ → Prop} {p : Prop} (h : ∃ a b c d e g, A a b c d e g ∧ B a b c d e g ∧ C a b c d e g ∧ D a b c d e g ∧ E a b c d e g) (f : ∀ a b c d e g, A a b c d e g → B a b c d e g → C a b c d e g → D a b c d e g → E a b c d e g → p) : p := by
 obtain ⟨a, b, c, d, e, g, h1, h2, h3, h4, h5⟩ := h
 exact f a b c d e g h1 h2 h3 h4 h5
noncomputable def tE (K : PySem.W.Frag) (c : CE) : TE := fun σ H Q => ∃ m ρ S u S', Sr K m S H ∧ Lr K m H ρ σ ∧ c ρ S = some (u, S') ∧ gQ K m H Q u S'
noncomputable def tT (K : PySem.W.Frag) (c : CT) : TT := fun σ H Q => ∃ m ρ S u S', Sr K m S H ∧ Lr K m H ρ σ ∧ c ρ S = some (u, S') ∧ uA K m H Q u S'
noncomputable def tA (K : PySem.W.Frag) (c : CA) : TA := fun σ H Q => ∃ m ρ S u S', Sr K m S H ∧ Lr K m H ρ σ ∧ c ρ S = some (u, S') ∧ Cy K m H Q u S'
noncomputable def tS (K : PySem.W.Frag) (c : CS) : TS := fun D σ H => ∃ m ρ S o ρ' S', Sr K m S H ∧ Lr K m H ρ σ ∧ c ρ S = some (o, ρ', S') ∧ oT K m H D o ρ' S'
noncomputable abbrev QE (X : Cx) (e : Expr) (c : CE) : Prop := WE X e (tE X.K c)
noncomputable abbrev QT (X : Cx) (e : Expr) (c : CT) : Prop := WT X e (tT X.K c)
noncomputable abbrev QW (X : Cx) (e : Expr) (c : CT) : Prop := WW X e (tT X.K c)
noncomputable abbrev QS (X : Cx) (e : Stmt) (c : CS) : Prop := WS X e (tS X.K c)
noncomputable abbrev QSs (X : Cx) (e : List Stmt) (c : CS) : Prop := WSs X e (tS X.K c)
structure QA (X : Cx) (es : List Expr) (c : CA) : Prop where
 h : WA X es (tA X.K c)
 len : ∀ ρ S us S', c ρ S = some (us, S') → us.length = es.length
section
variable {X : Cx} {e : Expr} {es : List Expr} {st : Stmt} {sts : List Stmt}
theorem _root_.OG.WE.imp {t t' : TE} (h : WE X e t) (i : ∀ σ H Q, t' σ H Q → t σ H Q) : WE X e t' := ⟨fun pins s σ H Q I k => h.h pins s σ H Q I (i σ H Q k)⟩
theorem _root_.OG.WT.imp {t t' : TT} (h : WT X e t) (i : ∀ σ H Q, t' σ H Q → t σ H Q) : WT X e t' := ⟨fun pins s σ H Q I k => h.h pins s σ H Q I (i σ H Q k)⟩
theorem _root_.OG.WW.imp {t t' : TT} (h : WW X e t) (i : ∀ σ H Q, t' σ H Q → t σ H Q) : WW X e t' := ⟨fun wh pins s σ H Q I k => h.h wh pins s σ H Q I (i σ H Q k)⟩
theorem _root_.OG.WA.imp {t t' : TA} (h : WA X es t) (i : ∀ σ H Q, t' σ H Q → t σ H Q) : WA X es t' := ⟨fun pos pins s σ H Q I k => h.h pos pins s σ H Q I (i σ H Q k)⟩
theorem _root_.OG.WS.imp {t t' : TS} (h : WS X st t) (i : ∀ D σ H, t' D σ H → t D σ H) : WS X st t' := ⟨fun pins s σ H D I k => h.h pins s σ H D I (i D σ H k)⟩
theorem _root_.OG.WSs.imp {t t' : TS} (h : WSs X sts t) (i : ∀ D σ H, t' D σ H → t D σ H) : WSs X sts t' := ⟨fun pins s σ H D I k => h.h pins s σ H D I (i D σ H k)⟩
theorem _root_.OG.WI.imp {tg : Expr} {t t' : TI} (h : WI X tg e t) (i : ∀ σ H R, t' σ H R → t σ H R) : WI X tg e t' := ⟨fun pins s σ H R I k => h.h pins s σ H R I (i σ H R k)⟩
theorem _root_.OG.WG.imp {t t' : TG} (h : WG X e t) (i : ∀ v σ H Q, t' v σ H Q → t v σ H Q) : WG X e t' := ⟨fun pins s σ H v u Q I r k => h.h pins s σ H v u Q I r (i v σ H Q k)⟩
theorem _root_.OG.WGs.imp {t t' : TGs} (h : WGs X es t) (i : ∀ v σ H Q, t' v σ H Q → t v σ H Q) : WGs X es t' := ⟨fun pins s σ H v u Q I r k => h.h pins s σ H v u Q I r (i v σ H Q k)⟩
theorem _root_.OG.WE.or {t t' : TE} (h : WE X e t) (h' : WE X e t') : WE X e (fun σ H Q => t σ H Q ∨ t' σ H Q) := ⟨fun pins s σ H Q I k => k.elim (h.h pins s σ H Q I) (h'.h pins s σ H Q I)⟩
theorem _root_.OG.WT.or {t t' : TT} (h : WT X e t) (h' : WT X e t') : WT X e (fun σ H Q => t σ H Q ∨ t' σ H Q) := ⟨fun pins s σ H Q I k => k.elim (h.h pins s σ H Q I) (h'.h pins s σ H Q I)⟩
theorem _root_.OG.WS.or {t t' : TS} (h : WS X st t) (h' : WS X st t') : WS X st (fun D σ H => t D σ H ∨ t' D σ H) := ⟨fun pins s σ H D I k => k.elim (h.h pins s σ H D I) (h'.h pins s σ H D I)⟩
theorem _root_.OG.WI.or {tg : Expr} {t t' : TI} (h : WI X tg e t) (h' : WI X tg e t') : WI X tg e (fun σ H D => t σ H D ∨ t' σ H D) := ⟨fun pins s σ H D I k => k.elim (h.h pins s σ H D I) (h'.h pins s σ H D I)⟩
end
section
variable {K : PySem.W.Frag} {m m' : List Addr} {H H' : Hp} {Q : VK} {R : L2.St → Hp → Prop} {D : rP} {u : U} {o : Out} {S' : Sto} {ρ' : Rho}
theorem gQ.mono (e : Ext K m H m' H') (p : gQ K m H Q u S') : gQ K m' H' Q u S' := fun m2 v H2 e2 r i => p m2 v H2 (e.trans e2) r i
theorem uA.mono {Q : Bool → Hp → Prop} {b : Bool} (e : Ext K m H m' H') (p : uA K m H Q b S') : uA K m' H' Q b S' := fun m2 H2 e2 r => p m2 H2 (e.trans e2) r
theorem fM.mono (e : Ext K m H m' H') (p : fM K m H R ρ' S') : fM K m' H' R ρ' S' := fun m2 v H2 e2 r i => p m2 v H2 (e.trans e2) r i
theorem oT.mono (e : Ext K m H m' H') (p : oT K m H D o ρ' S') : oT K m' H' D o ρ' S' := by
 cases o with
 | nx => exact fM.mono e p
 | rt u => exact gQ.mono e p
 | bk => exact fM.mono e p
 | ct => exact fM.mono e p
end
noncomputable def LIM : Nat := 100000
theorem lim {n : Nat} (h : n ≤ LIM) : n ≤ sizeLine := Nat.le_trans h (by unfold LIM sizeLine; decide)
theorem Aw {n : Nat} (h : n < LIM) : n < sizeLine := Nat.lt_of_lt_of_le h (by unfold LIM sizeLine; decide)
noncomputable def ah (i : Nat) : CE := fun ρ S => match ρ[i]? with
 | some (some u) => some (u, S)
 | _ => none
noncomputable def cC (u : U) : CE := fun _ S => some (u, S)
section
variable {X : Cx} {e a b c : Expr} {ca cb cc : CE} {pos : Pos}
theorem ae {i : Nat} (h : WE X e (Ap i)) : QE X e (ah i) := h.imp fun σ H Q hz => kY hz fun m ρ S u S' sr lr hc post => by
 unfold ah at hc
 split at hc
 ·rename_i u' e
  cases hc
  obtain ⟨v, e1, e2⟩ := lr.at_ i u e
  exact ⟨v, e1, post m v H .refl sr e2⟩
 ·cases hc
theorem q_c {v : V} {u : U} (h : WE X e (tC v)) (hi : ∀ m H, Is X.K m H v u) : QE X e (cC u) := h.imp fun σ H Q hz => kY hz fun m ρ S u' S' sr lr hc post => by
 cases hc
 exact post m v H .refl sr (hi m H)
theorem bq {i : Int} (h : WE X e (tC (.int i))) : QE X e (cC (.int i)) := q_c h fun _ _ => .int_
theorem rL {i : Bool} (h : WE X e (tC (.bl i))) : QE X e (cC (.bl i)) := q_c h fun _ _ => .bl_
theorem d4 {i : Str} (h : WE X e (tC (.str i))) : QE X e (cC (.str i)) := q_c h fun _ _ => .str_
theorem p8 (h : WE X e (tC .non)) : QE X e (cC .non) := q_c h fun _ _ => .non_
noncomputable def cOp (f : U → U → Sto → Option (U × Sto)) (ca cb : CE) : CE := fun ρ S => (ca ρ S).bind fun p => (cb ρ p.2).bind fun q => f p.1 q.1 q.2
noncomputable def OpP (K : PySem.W.Frag) (r : R2) (f : U → U → Sto → Option (U × Sto)) : Prop :=
 ∀ m S H x y v w u S' Q, Sr K m S H → Is K m H v x → Is K m H w y → f x y S = some (u, S') → gQ K m H Q u S' → r v w H Q
theorem qm {K : PySem.W.Frag} {r : R2} {f : U → U → Sto → Option (U × Sto)} (hp : OpP K r f) : ∀ σ H Q, tE K (cOp f ca cb) σ H Q → tOp r (tE K ca) (tE K cb) σ H Q := by
 rintro σ H Q ⟨m, ρ, S, u, S', sr, lr, hc, post⟩
 obtain ⟨⟨x, S1⟩, h1, h⟩ := Option.bind_eq_some_iff.mp hc
 obtain ⟨⟨y, S2⟩, h2, h3⟩ := Option.bind_eq_some_iff.mp h
 exact ⟨m, ρ, S, x, S1, sr, lr, h1, fun m1 v1 H1 e1 sr1 i1 => ⟨m1, ρ, S1, y, S2, sr1, lr.mono e1, h2, fun m2 v2 H2 e2 sr2 i2 => hp m2 S2 H2 x y v1 v2 u S' Q sr2 (i1.mono e2) i2 h3 (post.mono (e1.trans e2))⟩⟩
theorem gu {op : Operator} {r : R2} {f : U → U → Sto → Option (U × Sto)} (ho : OpR X (binaryOp op) r) (hp : OpP X.K r f) (ha : QE X a ca) (hb : QE X b cb) : QE X (.BinOp a op b pos) (cOp f ca cb) := (yH ho ha hb).imp (qm hp)
theorem kA {op : CmpOp} {r : R2} {f : U → U → Sto → Option (U × Sto)} (ho : OpR X (compareOp op) r) (hp : OpP X.K r f) (ha : QE X a ca) (hb : QE X b cb) (hm : behindInMarks op b = false) : QE X (.Compare a [op] [b] pos) (cOp f ca cb) := (sh ho ha hb hm).imp (qm hp)
noncomputable def bI (c : CE) : CT := fun ρ S => (c ρ S).bind fun p => match p.1 with
 | .bl b => some (b, p.2)
 | _ => none
theorem ia {K : PySem.W.Frag} {c : CE} {t : TE} (h : ∀ σ H Q, tE K c σ H Q → t σ H Q) : ∀ σ H Q, tT K (bI c) σ H Q → t σ H fun x H' => ∃ k, x = .bl k ∧ Q k H' := by
 rintro σ H Q ⟨m, ρ, S, u, S', sr, lr, hc, post⟩
 obtain ⟨⟨x, S1⟩, h1, h2⟩ := Option.bind_eq_some_iff.mp hc
 refine h σ H _ ⟨m, ρ, S, x, S1, sr, lr, h1, fun m1 v1 H1 e1 sr1 i1 => ?_⟩
 cases x <;> simp at h2
 obtain ⟨rfl, rfl⟩ := h2
 exact ⟨_, i1.of_bl, post m1 H1 e1 sr1⟩
theorem dB {op : CmpOp} {r : R2} {f : U → U → Sto → Option (U × Sto)} (ho : OpR X (compareOp op) r) (hp : OpP X.K r f) (ha : QE X a ca) (hb : QE X b cb) (hm : behindInMarks op b = false) : QT X (.Compare a [op] [b] pos) (bI (cOp f ca cb)) := (jJ ho ha hb hm).imp (ia (qm hp))
theorem gY (h : QE X e ca) (he : ∀ whole, isTrue e X.env whole = (do let v ← whole; standAt e.pos; holding [v] (truthy v)) := by intro _; rfl) : QT X e (bI ca) := (vU h he).imp (ia fun _ _ _ z => z)
variable {ta tb : CT} {rest : List Expr}
noncomputable def Cv (ta tb : CT) : CT := fun ρ S => (ta ρ S).bind fun p => if p.1 = true then tb ρ p.2 else some (false, p.2)
noncomputable def cOr (ta tb : CT) : CT := fun ρ S => (ta ρ S).bind fun p => if p.1 = true then some (true, p.2) else tb ρ p.2
noncomputable def Ah (ta : CT) : CT := fun ρ S => (ta ρ S).bind fun p => some (!p.1, p.2)
theorem BK (h : QW X e ta) : QT X e ta := WW.pt h
theorem yY (ha : QT X a ta) : QW X (.BoolOp .And [a] pos) ta := rS ha
theorem yX (ha : QT X a ta) : QW X (.BoolOp .Or [a] pos) ta := vS ha
theorem BO (ha : QT X a ta) (hb : QW X (.BoolOp .And (b :: rest) pos) tb) : QW X (.BoolOp .And (a :: b :: rest) pos) (Cv ta tb) := (vT ha hb).imp fun σ H Q hz => kY hz fun m ρ S u S' sr lr hc post => by
 obtain ⟨⟨x, S1⟩, h1, h2⟩ := Option.bind_eq_some_iff.mp hc
 refine ⟨m, ρ, S, x, S1, sr, lr, h1, fun m1 H1 e1 sr1 => ?_⟩
 cases x with
 | true => exact AD ⟨m1, ρ, S1, u, S', sr1, lr.mono e1, h2, post.mono e1⟩
 | false => cases h2; exact AE (post m1 H1 e1 sr1)
theorem BM (ha : QT X a ta) (hb : QW X (.BoolOp .Or (b :: rest) pos) tb) : QW X (.BoolOp .Or (a :: b :: rest) pos) (cOr ta tb) := (yE ha hb).imp fun σ H Q hz => kY hz fun m ρ S u S' sr lr hc post => by
 obtain ⟨⟨x, S1⟩, h1, h2⟩ := Option.bind_eq_some_iff.mp hc
 refine ⟨m, ρ, S, x, S1, sr, lr, h1, fun m1 H1 e1 sr1 => ?_⟩
 cases x with
 | true => cases h2; exact AD (post m1 H1 e1 sr1)
 | false => exact AE ⟨m1, ρ, S1, u, S', sr1, lr.mono e1, h2, post.mono e1⟩
theorem p7 (ha : QT X a ta) : QT X (.UnaryOp .Not a pos) (Ah ta) := (vV ha).imp fun σ H Q hz => kY hz fun m ρ S u S' sr lr hc post => by
 obtain ⟨⟨x, S1⟩, h1, h2⟩ := Option.bind_eq_some_iff.mp hc
 cases h2
 exact ⟨m, ρ, S, x, _, sr, lr, h1, fun m1 H1 e1 sr1 => post m1 H1 e1 sr1⟩
noncomputable def Aj (ca cb : CE) : CE := fun ρ S => (ca ρ S).bind fun p => match p.1 with
 | .bl true => cb ρ p.2
 | .bl false => some (.bl false, p.2)
 | _ => none
noncomputable def AJ (ca cb : CE) : CE := fun ρ S => (ca ρ S).bind fun p => match p.1 with
 | .bl false => cb ρ p.2
 | .bl true => some (.bl true, p.2)
 | _ => none
noncomputable def Ag (ca : CE) : CE := fun ρ S => (ca ρ S).bind fun p => match p.1 with
 | .bl b => some (.bl (!b), p.2)
 | _ => none
theorem BN {op} (h : QE X a ca) : QE X (.BoolOp op [a] pos) ca := wb h
theorem BL (ha : QE X a ca) (hb : QE X (.BoolOp .Or (b :: rest) pos) cb) : QE X (.BoolOp .Or (a :: b :: rest) pos) (AJ ca cb) := (yG ha hb).imp fun σ H Q hz => kY hz fun m ρ S u S' sr lr hc post => by
 obtain ⟨⟨x, S1⟩, h1, h2⟩ := Option.bind_eq_some_iff.mp hc
 refine ⟨m, ρ, S, x, S1, sr, lr, h1, fun m1 v1 H1 e1 sr1 i1 => ?_⟩
 cases x with
 | bl k =>
  refine ⟨k, i1.of_bl, ?_⟩
  cases k with
  | false => exact AE ⟨m1, ρ, S1, u, S', sr1, lr.mono e1, h2, post.mono e1⟩
  | true => cases h2; exact AD (post m1 _ H1 e1 sr1 .bl_)
 | _ => simp at h2
noncomputable def cIf (t : CT) (ca cb : CE) : CE := fun ρ S => (t ρ S).bind fun p => if p.1 = true then ca ρ p.2 else cb ρ p.2
variable {es : List Expr} {cr : CA}
noncomputable def aG : CA := fun _ S => some ([], S)
noncomputable def af (ca : CE) (cr : CA) : CA := fun ρ S => (ca ρ S).bind fun p => (cr ρ p.2).bind fun q => some (p.1 :: q.1, q.2)
theorem aD : QA X [] aG := ⟨wg.imp fun σ H Q hz => kY hz fun m ρ S u S' sr lr hc post => by cases hc; exact post m [] H .refl sr .nil_, fun ρ S us S' h => by cases h; rfl⟩
theorem ag (ha : QE X e ca) (hr : QA X es cr) (hs : starEach (e :: es) X.env = (false, eval e X.env) :: starEach es X.env := by rfl) : QA X (e :: es) (af ca cr) := ⟨(si ha hr.h hs).imp fun σ H Q hz => kY hz fun m ρ S u S' sr lr hc post => by
 obtain ⟨⟨x, S1⟩, h1, h⟩ := Option.bind_eq_some_iff.mp hc
 obtain ⟨⟨y, S2⟩, h2, h3⟩ := Option.bind_eq_some_iff.mp h
 cases h3
 exact ⟨m, ρ, S, x, S1, sr, lr, h1, fun m1 v1 H1 e1 sr1 i1 => ⟨m1, ρ, S1, y, S2, sr1, lr.mono e1, h2, fun m2 v2 H2 e2 sr2 i2 => post m2 _ H2 (e1.trans e2) sr2 (.cons_ (i1.mono e2) i2)⟩⟩,
 fun ρ S us S' h => by
 obtain ⟨⟨x, S1⟩, h1, h⟩ := Option.bind_eq_some_iff.mp h
 obtain ⟨⟨y, S2⟩, h2, h3⟩ := Option.bind_eq_some_iff.mp h
 cases h3
 simp [hr.len ρ S1 y S2 h2]⟩
noncomputable def mN (cr : CA) : CE := fun ρ S => (cr ρ S).bind fun p => some (.tup p.1, p.2)
noncomputable def lF (cr : CA) : CE := fun ρ S => (cr ρ S).bind fun p => some (.ref p.2.length, p.2 ++ [.lst p.1])
theorem dP {m : List Addr} {S : Sto} {q : Addr} (h : m.length = S.length) : (m ++ [q])[S.length]? = some q := by rw [List.getElem?_append_right (by omega)]; simp [h]
theorem ny {K : PySem.W.Frag} {m : List Addr} {H : Hp} {S : Sto} {us : List U} {xs : List V} {Q : VK} {p : Addr} (sr : Sr K m S H) (i : IsL K m H xs us) (post : gQ K m H Q (.tup us) S) (hp : H p = none) : Q (.ref p) (upd H p (.tup xs)) :=
 post m _ _ (.of (b7 hp _)) (sr.same (gq hp _)) (.tup_ (SqT.of aP) (i.mono (.of (b7 hp _))))
theorem eg {K : PySem.W.Frag} {m : List Addr} {H : Hp} {S : Sto} {us : List U} {xs : List V} {Q : VK} {p : Addr} (sr : Sr K m S H) (i : IsL K m H xs us) (post : gQ K m H Q (.ref S.length) (S ++ [.lst us])) (hp : H p = none) : Q (.ref p) (upd H p (.lst xs)) :=
 post (m ++ [p]) _ _ (.new (b7 hp _)) (sr.new hp ⟨xs, aP, i.mono (.new (b7 hp _))⟩) (.ref_ (dP sr.len))
theorem jd {x1} (h : QA X es cr) (hl : es.length ≤ 1000 := by exact Nat.le_of_ble_eq_true rfl) : QE X (.Tuple es x1 pos) (mN cr) := (wa h.h).imp fun σ H Q hz => kY hz fun m ρ S u S' sr lr hc post => by
 obtain ⟨⟨us, S1⟩, h1, h2⟩ := Option.bind_eq_some_iff.mp hc
 cases h2
 refine ⟨m, ρ, S, us, _, sr, lr, h1, fun m1 v1 H1 e1 sr1 i1 => ⟨kx ?_, fun p hp => ny sr1 i1 (post.mono e1) hp⟩⟩
 rw [i1.length, h.len _ _ _ _ h1]; exact hl
theorem je (h : QA X es cr) (hl : es.length ≤ 1000 := by exact Nat.le_of_ble_eq_true rfl) : QE X (.List es pos) (lF cr) := (wc h.h).imp fun σ H Q hz => kY hz fun m ρ S u S' sr lr hc post => by
 obtain ⟨⟨us, S1⟩, h1, h2⟩ := Option.bind_eq_some_iff.mp hc
 cases h2
 refine ⟨m, ρ, S, us, _, sr, lr, h1, fun m1 v1 H1 e1 sr1 i1 => ⟨kx ?_, fun p hp => eg sr1 i1 (post.mono e1) hp⟩⟩
 rw [i1.length, h.len _ _ _ _ h1]; exact hl
noncomputable def cCB (f : List U → Sto → Option (U × Sto)) (cr : CA) : CE := fun ρ S => (cr ρ S).bind fun p => f p.1 p.2
noncomputable def i0 (K : PySem.W.Frag) (r : List V → Hp → VK → Prop) (f : List U → Sto → Option (U × Sto)) : Prop :=
 ∀ m S H us vs u S' Q, Sr K m S H → IsL K m H vs us → f us S = some (u, S') → gQ K m H Q u S' → r vs H Q
theorem vv {K : PySem.W.Frag} {r : List V → Hp → VK → Prop} {f : List U → Sto → Option (U × Sto)} (hp : i0 K r f) : ∀ σ H Q, tE K (cCB f cr) σ H Q → tCB r (tA K cr) σ H Q := by
 rintro σ H Q ⟨m, ρ, S, u, S', sr, lr, hc, post⟩
 obtain ⟨⟨us, S1⟩, h1, h2⟩ := Option.bind_eq_some_iff.mp hc
 exact ⟨m, ρ, S, us, S1, sr, lr, h1, fun m1 v1 H1 e1 sr1 i1 => hp m1 S1 H1 us v1 u S' Q sr1 i1 h2 (post.mono e1)⟩
theorem di {id : String} {x : Str} {p : Pos} {r : List V → Hp → VK → Prop} {f : List U → Sto → Option (U × Sto)} (hc : eJ X (.builtin id) r) (hp : i0 X.K r f) (hg : Gl X x) (hm : X.mg x = none) (hv : bootBuiltins x = some (.builtin id)) (ha : QA X (e :: es) cr) (hn : x ≠ "__name__" := by decide) (hdb : (x == ("__debug__" : Str)) = false := by decide) (he : starEach (e :: es) X.env = (false, eval e X.env) :: starEach es X.env := by rfl) (hpl : (backTo pos (starEach es X.env)).any (·.1) = false := by rfl) :
  QE X (.Call (.Name x p) (e :: es) [] pos) (cCB f cr) := (pJ hc hg hm hv ha.h hn hdb he hpl).imp (vv hp)
theorem eO {id : String} {x : Str} {p : Pos} {r : List V → Hp → VK → Prop} {f : List U → Sto → Option (U × Sto)} (hc : eJ X (.type id) r) (hp : i0 X.K r f) (hg : Gl X x) (hm : X.mg x = none) (hv : bootBuiltins x = some (.type id)) (ha : QA X (e :: es) cr) (hn : x ≠ "__name__" := by decide) (hdb : (x == ("__debug__" : Str)) = false := by decide) (he : starEach (e :: es) X.env = (false, eval e X.env) :: starEach es X.env := by rfl) (hpl : (backTo pos (starEach es X.env)).any (·.1) = false := by rfl) :
  QE X (.Call (.Name x p) (e :: es) [] pos) (cCB f cr) := (om hc hg hm hv ha.h hn hdb he hpl).imp (vv hp)
end
noncomputable def sy (K : PySem.W.Frag) (f : List U → Sto → Option (U × Sto)) : Sp := fun vs H Q _ => ∃ m us S u S', IsL K m H vs us ∧ Sr K m S H ∧ f us S = some (u, S') ∧ gQ K m H Q u S'
noncomputable abbrev Fn := List U → Sto → Option (U × Sto)
noncomputable abbrev rF (P : Program) (w : World) (K : PySem.W.Frag) (mg : Str → Option Value) (base : Heap) (x : Str) (k : Nat) (ps : List Str) (f : Fn) : Prop := Has P w K mg base x k ps (sy K f)
noncomputable def kq (n : Nat) (us : List U) : Rho := us.map some ++ List.replicate (n - us.length) none
noncomputable def fnU (n k : Nat) (c : CS) : Fn := fun us S => if us.length = k then (c (kq n us) S).bind fun r => match r.1 with
 | .rt u => some (u, r.2.2)
 | .nx => some (.non, r.2.2)
 | _ => none else none
section
variable {P : Program} {w : World} {K : PySem.W.Frag} {mg : Str → Option Value} {base : Heap} {x : Str} {st : Stmt} {ps N : List Str} {k : Nat} {c : CS} {f : Fn}
theorem tQ {m : List Addr} {H : Hp} {vs : List V} {us : List U} (i : IsL K m H vs us) : Lr K m H (kq N.length us) (L2.gj N vs) := by
 have hl := i.length
 refine ⟨by simp [kq, L2.gj, hl], fun j u e => ?_⟩
 unfold kq at e
 unfold L2.gj
 by_cases c : j < us.length
 ·rw [List.getElem?_append_left (by simpa using c), List.getElem?_map] at e
  rw [List.getElem?_append_left (by simpa [hl] using c), List.getElem?_map]
  rw [List.getElem?_eq_getElem c] at e
  simp at e
  obtain ⟨v, e1, e2⟩ := i.getD (List.getElem?_eq_getElem c)
  rw [e1]
  subst e
  exact ⟨v, rfl, e2⟩
 ·rw [List.getElem?_append_right (by simpa using c), List.getElem?_replicate] at e
  split at e <;> cases e
theorem qR {X : Cx} {body : List Stmt} {Q : VK} {E : XK} {vs : List V} {H : Hp} (hK : X.K = K) (h : sy K (fnU N.length ps.length c) vs H Q E) : tS X.K c { nx := fun _ H' => Q .non H', rt := Q } (L2.gj N vs) H := by
 subst hK
 obtain ⟨m, us, S, u, S', i, sr, hf, post⟩ := h
 unfold fnU at hf
 split at hf
 ·obtain ⟨⟨o, ρ', S2⟩, h1, h2⟩ := Option.bind_eq_some_iff.mp hf
  refine ⟨m, _, S, o, ρ', S2, sr, tQ i, h1, ?_⟩
  cases o with
  | rt v => cases h2; exact post
  | nx => cases h2; exact fun m1 σ1 H1 e1 sr1 _ => post m1 _ H1 e1 sr1 .non_
  | bk => simp at h2
  | ct => simp at h2
 ·cases hf
theorem nh {vs : List V} {H : Hp} {Q : VK} {E : XK} {n k : Nat} (h : sy K (fnU n k c) vs H Q E) : vs.length = k := by
 obtain ⟨m, us, S, u, S', i, sr, hf, post⟩ := h
 unfold fnU at hf
 split at hf
 ·rename_i e
  rw [i.length, e]
 ·cases hf
theorem _root_.OG.Def.pure (d : Def K mg x st ps) (S : aW N ps (aq st))
  (hb : ∀ (f : Addr) (cdv : Value) (A : Around) (outer : List Env) (s : Shared) (H : Hp) (E : XK), fh k (A.deeper (envOfC x (aq st) s.heap.objs.size f cdv)) →
   WSs (oW CX0 P w K mg base N x (aq st) f cdv A outer s H E).nox (aQ st) (tS K c)) : rF P w K mg base x (k + 1) ps (fnU N.length ps.length c) :=
 d.has S (fun vs H Q E h => nh h) fun f cdv A outer s H vs Q E hr h => ⟨_, hb f cdv A outer s H E hr, qR (X := (oW CX0 P w K mg base N x (aq st) f cdv A outer s H E).nox) (body := []) (ps := ps) rfl h⟩
theorem eX {X : Cx} {e : Expr} {es : List Expr} {cr : CA} {p pos : Pos} (F : Has X.prog X.w X.K X.mg X.base x k ps (sy X.K f)) (hr : fh k X.A) (hg : Gl X x) (ha : QA X (e :: es) cr)
  (hdb : (x == ("__debug__" : Str)) = false := by decide) (he : starEach (e :: es) X.env = (false, eval e X.env) :: starEach es X.env := by rfl) (hpl : (backTo pos (starEach es X.env)).any (·.1) = false := by rfl) :
  QE X (.Call (.Name x p) (e :: es) [] pos) (cCB f cr) := (yJ F hr hg ha.h hdb he hpl).imp fun σ H Q hz => kY hz fun m ρ S u S' sr lr hc post => by
 obtain ⟨⟨us, S1⟩, h1, h2⟩ := Option.bind_eq_some_iff.mp hc
 exact ⟨m, ρ, S, us, S1, sr, lr, h1, fun m1 v1 H1 e1 sr1 i1 => ⟨m1, us, S1, u, S', by simpa using i1, sr1, h2, post.mono e1⟩⟩
end
section
variable {X : Cx} {e a b c : Expr} {ca cb cc : CE} {pos : Pos} {st : Stmt} {sts : List Stmt} {c1 c2 : CS}
noncomputable def dm : CS := fun ρ S => some (.nx, ρ, S)
noncomputable def aV (c1 c2 : CS) : CS := fun ρ S => (c1 ρ S).bind fun r => match r.1 with
 | .nx => c2 r.2.1 r.2.2
 | o => some (o, r.2.1, r.2.2)
theorem cE : QSs X [] dm := rW.imp fun D σ H hz => nU hz fun m ρ S o ρ' S' sr lr hc post => by cases hc; exact post m σ H .refl sr lr
theorem ao (h1 : QS X st c1) (h2 : QSs X sts c2) : QSs X (st :: sts) (aV c1 c2) := (pz h1 h2).imp fun D σ H hz => nU hz fun m ρ S o ρ' S' sr lr hc post => by
 obtain ⟨⟨o1, ρ1, S1⟩, h1, h2⟩ := Option.bind_eq_some_iff.mp hc
 refine ⟨m, ρ, S, o1, ρ1, S1, sr, lr, h1, ?_⟩
 cases o1 with
 | nx => exact fun m1 σ1 H1 e1 sr1 lr1 => ⟨m1, ρ1, S1, o, ρ', S', sr1, lr1, h2, post.mono e1⟩
 | rt u => cases h2; exact post
 | bk => cases h2; exact post
 | ct => cases h2; exact post
theorem aF (h1 : QS X st c1) : QSs X [st] c1 := rV h1
theorem sG : QS X (.Break pos) (fun ρ S => some (.bk, ρ, S)) := pC.imp fun D σ H hz => nU hz fun m ρ S o ρ' S' sr lr hc post => by cases hc; exact post m σ H .refl sr lr
noncomputable def jF : CS := fun _ _ => none
theorem ib : QS X st jF := pA.imp fun D σ H hz => nU hz fun m ρ S o ρ' S' sr lr hc post => by cases hc
noncomputable def iV (ca : CE) : CS := fun ρ S => (ca ρ S).bind fun p => some (.nx, ρ, p.2)
theorem eN (he : QE X e ca) (hs : swapsWith e none pos.line X.env = pure false := by rfl) : QS X (.Expr e pos) (iV ca) := (rX he hs).imp fun D σ H hz => nU hz fun m ρ S o ρ' S' sr lr hc post => by
 obtain ⟨⟨u, S1⟩, h1, h2⟩ := Option.bind_eq_some_iff.mp hc
 cases h2
 exact ⟨m, ρ, S, u, _, sr, lr, h1, fun m1 v1 H1 e1 sr1 i1 => post m1 σ H1 e1 sr1 (lr.mono e1)⟩
noncomputable def eU (ca : CE) : CS := fun ρ S => (ca ρ S).bind fun p => some (.rt p.1, ρ, p.2)
theorem br (he : QE X e ca) : QS X (.Return (some e) pos) (eU ca) := (vX he).imp fun D σ H hz => nU hz fun m ρ S o ρ' S' sr lr hc post => by
 obtain ⟨⟨u, S1⟩, h1, h2⟩ := Option.bind_eq_some_iff.mp hc
 cases h2
 exact ⟨m, ρ, S, u, _, sr, lr, h1, post⟩
noncomputable def gh (t : CT) (c1 c2 : CS) : CS := fun ρ S => (t ρ S).bind fun p => if p.1 = true then c1 ρ p.2 else c2 ρ p.2
theorem dY {t : CT} {s1 s2 : List Stmt} (hc : QT X c t) (h1 : QSs X s1 c1) (h2 : QSs X s2 c2) : QS X (.If c s1 s2 pos) (gh t c1 c2) := (yF hc h1 h2).imp fun D σ H hz => nU hz fun m ρ S o ρ' S' sr lr hc post => by
 obtain ⟨⟨x, S1⟩, h1, h2⟩ := Option.bind_eq_some_iff.mp hc
 refine ⟨m, ρ, S, x, S1, sr, lr, h1, fun m1 H1 e1 sr1 => ?_⟩
 cases x with
 | true => exact AD ⟨m1, ρ, S1, o, ρ', S', sr1, lr.mono e1, h2, post.mono e1⟩
 | false => exact AE ⟨m1, ρ, S1, o, ρ', S', sr1, lr.mono e1, h2, post.mono e1⟩
noncomputable abbrev CG := U → Rho → Sto → Option (Rho × Sto)
noncomputable def tG (K : PySem.W.Frag) (g : CG) : TG := fun v σ H Q => ∃ m ρ S u ρ' S', Sr K m S H ∧ Lr K m H ρ σ ∧ Is K m H v u ∧ g u ρ S = some (ρ', S') ∧ fM K m H Q ρ' S'
noncomputable abbrev QG (X : Cx) (e : Expr) (g : CG) : Prop := WG X e (tG X.K g)
noncomputable def gNm (i : Nat) : CG := fun u ρ S => some (ρ.set i (some u), S)
theorem cy {i : Nat} (h : WG X e (oM i)) : QG X e (gNm i) := h.imp fun v σ H Q hz => De hz fun m ρ S u ρ' S' sr lr iu hc post => by
 cases hc
 exact post m _ H .refl sr (lr.set i iu)
noncomputable def eW : List Nat → List U → Rho → Option Rho
 | [], [], ρ => some ρ
 | i :: is, u :: us, ρ => eW is us (ρ.set i (some u))
 | _, _, _ => none
noncomputable def tGs (K : PySem.W.Frag) (is : List Nat) : TGs := fun vs σ H Q => ∃ m ρ S us ρ', Sr K m S H ∧ Lr K m H ρ σ ∧ IsL K m H vs us ∧ eW is us ρ = some ρ' ∧ fM K m H Q ρ' S
noncomputable abbrev QGs (X : Cx) (es : List Expr) (is : List Nat) : Prop := WGs X es (tGs X.K is)
theorem p6 : QGs X [] [] := sd.imp fun v σ H Q ⟨m, ρ, S, us, ρ', sr, lr, iu, hc, post⟩ => by
 cases us with
 | nil => cases hc; exact ⟨iu.of_nil, post m σ H .refl sr lr⟩
 | cons a r => simp [eW] at hc
theorem fE {i : Nat} {is : List Nat} {es : List Expr} (h : WG X e (oM i)) (h2 : QGs X es is) (hs : (assignEach (e :: es) X.env).map (·.2) = assign e X.env :: (assignEach es X.env).map (·.2) := by rfl) : QGs X (e :: es) (i :: is) := (pE h h2 hs).imp fun v σ H Q ⟨m, ρ, S, us, ρ', sr, lr, iu, hc, post⟩ => by
 cases us with
 | nil => simp [eW] at hc
 | cons u r =>
  obtain ⟨x, xr, rfl, i1, i2⟩ := iu.of_cons
  exact ⟨x, xr, rfl, m, ρ.set i (some u), S, r, ρ', sr, lr.set i i1, i2, hc, post⟩
noncomputable def gTp (is : List Nat) : CG := fun u ρ S => match u with
 | .tup us => (eW is us ρ).bind fun ρ' => some (ρ', S)
 | _ => none
theorem jA : ∀ {is : List Nat} {us : List U} {ρ ρ' : Rho}, eW is us ρ = some ρ' → us.length = is.length
 | [], [], _, _, _ => rfl
 | [], _ :: _, _, _, h => by simp [eW] at h
 | _ :: _, [], _, _, h => by simp [eW] at h
 | i :: is, u :: us, ρ, ρ', h => by
  have := jA (is := is) (us := us) h
  simp [this]
theorem uV {is : List Nat} {es : List Expr} {k : Nat} (hc : X.calm = true) (h : QGs X es is) (hn : (assignEach es X.env).length = is.length := by rfl) (hst : (assignEach es X.env).findIdx? (·.1) = none := by rfl) : QG X (.Tuple es k pos) (gTp is) := (v7 hc h hn hst).imp fun v σ H Q hz => De hz fun m ρ S u ρ' S' sr lr iu hc post => by
 cases u with
 | tup us =>
  obtain ⟨ρ2, h1, h2⟩ := Option.bind_eq_some_iff.mp hc
  cases h2
  obtain ⟨a, xs, rfl, sq, il⟩ := iu.of_tup
  refine ⟨a, xs, rfl, sq, ?_, m, ρ, S, us, ρ', sr, lr, il, h1, post⟩
  rw [il.length]; exact jA h1
 | _ => simp [gTp] at hc
noncomputable def xI (ca : CE) (g : CG) : CS := fun ρ S => (ca ρ S).bind fun p => (g p.1 ρ p.2).bind fun q => some (.nx, q.1, q.2)
theorem xN {K : PySem.W.Frag} {g : CG} : ∀ D σ H, tS K (xI ca g) D σ H → yT (tE K ca) (tG K g) D σ H := by
 rintro D σ H ⟨m, ρ, S, o, ρ', S', sr, lr, hc, post⟩
 obtain ⟨⟨u, S1⟩, h1, h2⟩ := Option.bind_eq_some_iff.mp hc
 obtain ⟨⟨ρ2, S2⟩, h3, h4⟩ := Option.bind_eq_some_iff.mp h2
 cases h4
 exact ⟨m, ρ, S, u, S1, sr, lr, h1, fun m1 v1 H1 e1 sr1 i1 => ⟨m1, ρ, S1, u, _, _, sr1, lr.mono e1, i1, h3, fM.mono e1 post⟩⟩
theorem uU {tg : Expr} {g : CG} (he : QE X e ca) (hg : QG X tg g) (hs : swapsWithSole [tg] e pos.line X.env = pure false := by rfl) (hw : swappedStores [tg] e X.env = pure none := by rfl)
  (h1 : (assignEach [tg] X.env).map (·.2) = [assign tg X.env] := by rfl) : QS X (.Assign [tg] e pos) (xI ca g) := (pD he hg hs hw h1).imp xN
noncomputable def dc (i : Nat) (ca : CE) : CS := fun ρ S => (ca ρ S).bind fun p => some (.nx, ρ.set i (some p.1), p.2)
theorem bz {i : Nat} {x : Str} {pos' : Pos} (hN : X.N.Nodup) (hi : X.N[i]? = some x) (hx : Loc X.env.scope x) (he : QE X e ca) (hs : swapsWith e (some (.Name x pos')) pos.line X.env = pure false := by rfl) (hf : X.fn x = true ∨ X.env.scope.names.lookup x = some .local := by first | exact .inl rfl | exact .inr rfl | assumption) :
  QS X (.Assign [.Name x pos'] e pos) (dc i ca) := (vW hN hi hx he hs hf).imp fun D σ H hz => nU hz fun m ρ S o ρ' S' sr lr hc post => by
 obtain ⟨⟨u, S1⟩, h1, h2⟩ := Option.bind_eq_some_iff.mp hc
 cases h2
 exact ⟨m, ρ, S, u, _, sr, lr, h1, fun m1 v1 H1 e1 sr1 i1 => post m1 _ H1 e1 sr1 ((lr.mono e1).set i i1)⟩
noncomputable abbrev CI := Rho → Sto → Option (List U × (Sto → Prop) × Sto)
noncomputable def uC (K : PySem.W.Frag) (J : It) (m : List Addr) (H : Hp) (us : List U) (ok : Sto → Prop) : Prop := ∀ m2 S2 H2 i, Ext K m H m2 H2 → Sr K m2 S2 H2 → ok S2 →
 (∀ u, us[i]? = some u → J.go i H2 ∧ ∀ x H3, J.yld i H2 x H3 → Ext K m2 H2 m2 H3 ∧ Sr K m2 S2 H3 ∧ Is K m2 H3 x u) ∧ (us.length ≤ i → J.stop i H2)
noncomputable def tI (K : PySem.W.Frag) (ci : CI) : TI := fun σ H R => ∃ m ρ S us ok S', Sr K m S H ∧ Lr K m H ρ σ ∧ ci ρ S = some (us, ok, S') ∧ ∀ m' H' J, Ext K m H m' H' → Sr K m' S' H' → uC K J m' H' us ok → R J H'
noncomputable abbrev QI (X : Cx) (tg iter : Expr) (ci : CI) : Prop := WI X tg iter (tI X.K ci)
open Classical in
noncomputable def dr (ok : Sto → Prop) (g : CG) (cb : CS) : List U → CS
 | [] => fun ρ S => if ok S then some (.nx, ρ, S) else none
 | u :: us => fun ρ S => if ok S then (g u ρ S).bind fun p => (cb p.1 p.2).bind fun r => match r.1 with
  | .nx => dr ok g cb us r.2.1 r.2.2
  | .ct => dr ok g cb us r.2.1 r.2.2
  | .bk => some (.nx, r.2.1, r.2.2)
  | .rt v => some (.rt v, r.2.1, r.2.2) else none
noncomputable def iq (ci : CI) (g : CG) (cb : CS) : CS := fun ρ S => (ci ρ S).bind fun p => dr p.2.1 g cb p.1 ρ p.2.2
theorem iS {α : Type} {us : List α} {i : Nat} {u : α} (h : us[i]? = some u) : us.drop i = u :: us.drop (i + 1) := by
 obtain ⟨hl, e⟩ := List.getElem?_eq_some_iff.mp h
 rw [List.drop_eq_getElem_cons hl, e]
theorem nF {K : PySem.W.Frag} {g : CG} {cb : CS} {J : It} {us : List U} {ok : Sto → Prop} {D : rP} {m1 : List Addr} {H1 : Hp} {ρ ρ' : Rho} {σ : L2.St} {S1 S' : Sto} {o : Out} (sr1 : Sr K m1 S1 H1) (lr1 : Lr K m1 H1 ρ σ) (ito : uC K J m1 H1 us ok) (h2 : dr ok g cb us ρ S1 = some (o, ρ', S')) (post : oT K m1 H1 D o ρ' S') :
  ∃ W : Nat → Nat → L2.St → Hp → Prop, (∃ n, W 0 n σ H1) ∧ ∀ i n σ H, W i n σ H →
   (J.stop i H ∧ D.nx σ H) ∨ (J.go i H ∧ ∃ N : L2.St → Hp → Prop, (∀ σ' H', N σ' H' → ∃ n', n' < n ∧ W (i + 1) n' σ' H') ∧ ∀ x H', J.yld i H x H' → tG K g x σ H' fun σ2 H2 => tS K cb { D with nx := N, ct := N, bk := D.nx } σ2 H2) := by
 let W : Nat → Nat → L2.St → Hp → Prop := fun i n σ2 H2 => n = us.length - i ∧ i ≤ us.length ∧ ∃ m2 ρ2 S2, Ext K m1 H1 m2 H2 ∧ Sr K m2 S2 H2 ∧ Lr K m2 H2 ρ2 σ2 ∧ dr ok g cb (us.drop i) ρ2 S2 = some (o, ρ', S')
 refine ⟨W, ⟨us.length, by simp, Nat.zero_le _, m1, ρ, S1, .refl, sr1, lr1, by simpa using h2⟩, ?_⟩
 rintro i n σ2 H2 ⟨rfl, hi, m2, ρ2, S2, e2, sr2, lr2, hl⟩
 by_cases hlt : i < us.length
 ·have hu := List.getElem?_eq_getElem hlt
  rw [iS hu] at hl
  unfold dr at hl
  split at hl
  ·rename_i hok
   obtain ⟨⟨ρ3, S3⟩, h3, hl⟩ := Option.bind_eq_some_iff.mp hl
   obtain ⟨⟨o4, ρ4, S4⟩, h4, hl⟩ := Option.bind_eq_some_iff.mp hl
   obtain ⟨hgo, hy⟩ := (ito m2 S2 H2 i e2 sr2 hok).1 _ hu
   refine .inr ⟨hgo, W (i + 1) (us.length - (i + 1)), fun σ' H' w' => ⟨_, by omega, w'⟩, fun x H3 y => ?_⟩
   obtain ⟨e3, sr3, ix⟩ := hy x H3 y
   refine ⟨m2, ρ2, S2, _, ρ3, S3, sr3, lr2.mono e3, ix, h3, fun m4 σ4 H4 e4 sr4 lr4 => ⟨m4, ρ3, S3, o4, ρ4, S4, sr4, lr4, h4, ?_⟩⟩
   have e14 := (e2.trans e3).trans e4
   have nxt : dr ok g cb (us.drop (i + 1)) ρ4 S4 = some (o, ρ', S') → fM K m4 H4 (W (i + 1) (us.length - (i + 1))) ρ4 S4 := fun hn m5 σ5 H5 e5 sr5 lr5 => ⟨rfl, hlt, m5, ρ4, S4, e14.trans e5, sr5, lr5, hn⟩
   cases o4 with
   | nx => exact nxt hl
   | ct => exact nxt hl
   | bk => cases hl; exact fM.mono e14 post
   | rt v => cases hl; exact gQ.mono e14 post
  ·cases hl
 ·have e : i = us.length := by omega
  subst e
  rw [List.drop_length] at hl
  unfold dr at hl
  split at hl
  ·rename_i hok
   cases hl
   exact .inl ⟨(ito m2 _ H2 _ e2 sr2 hok).2 (Nat.le_refl _), post m2 σ2 H2 e2 sr2 lr2⟩
  ·cases hl
theorem xx {K : PySem.W.Frag} {ci : CI} {g : CG} {cb : CS} : ∀ D σ H, tS K (iq ci g cb) D σ H → Ar (tI K ci) (tG K g) (tS K cb) D σ H := by
 rintro D σ H ⟨m, ρ, S, o, ρ', S', sr, lr, hc, post⟩
 obtain ⟨⟨us, ok, S1⟩, h1, h2⟩ := Option.bind_eq_some_iff.mp hc
 exact ⟨m, ρ, S, us, ok, S1, sr, lr, h1, fun m1 H1 J e1 sr1 ito => nF sr1 (lr.mono e1) ito h2 (oT.mono e1 post)⟩
theorem iE {tg iter : Expr} {body : List Stmt} {ci : CI} {g : CG} {cb : CS} (hp : PassesOwn (model X.prog X.w) X.A X.env X.xe) (hc : X.calm = true) (hi : QI X tg iter ci) (hg : QG X tg g) (hb : QSs X body cb) (hs : ∀ x, foldedSetIterable iter X.env x = pure x := by intro _; rfl) : QS X (.For tg iter body [] pos) (iq ci g cb) := (pB hp hc hi hg hb hs).imp xx
noncomputable def iTp (ca : CE) : CI := fun ρ S => (ca ρ S).bind fun p => match p.1 with
 | .tup us => some (us, fun _ => True, p.2)
 | .ref l => match p.2[l]? with
  | some (.lst us) => some (us, fun S => S[l]? = some (.lst us), p.2)
  | _ => none
 | _ => none
theorem zY {K : PySem.W.Frag} {m : List Addr} {H : Hp} {us : List U} {a : Addr} {xs : List V} (sq : SqT K H a xs) (il : IsL K m H xs us) : uC K (Itt K a) m H us (fun _ => True) := by
 intro m2 S2 H2 i e2 sr2 _
 have sq2 := e2.keep.t _ _ sq
 have il2 := il.mono e2
 refine ⟨fun u hu => ?_, fun hi => ⟨xs, sq2, by rw [il2.length]; exact hi⟩⟩
 obtain ⟨x, hx, ix⟩ := il2.getD hu
 refine ⟨⟨xs, x, sq2, hx⟩, fun y H3 hy => ?_⟩
 obtain ⟨rfl, hy⟩ := hy
 have := hy xs sq2
 rw [hx] at this; cases this
 exact ⟨.refl, sr2, ix⟩
theorem zZ {K : PySem.W.Frag} {m : List Addr} {H : Hp} {us : List U} {a : Addr} {l : Nat} (hl : m[l]? = some a) : uC K (Itl K a) m H us (fun S => S[l]? = some (.lst us)) := by
 intro m2 S2 H2 i e2 sr2 hok
 obtain ⟨a', ha', xs, hx, il⟩ := sr2.get hok
 rw [e2.get hl] at ha'
 cases ha'
 refine ⟨fun u hu => ?_, fun hi => ⟨xs, SqL.of hx, by rw [il.length]; exact hi⟩⟩
 obtain ⟨x, hx', ix⟩ := il.getD hu
 refine ⟨⟨xs, x, SqL.of hx, hx'⟩, fun y H3 hy => ?_⟩
 obtain ⟨rfl, hy⟩ := hy
 have := hy xs (SqL.of hx)
 rw [hx'] at this; cases this
 exact ⟨.refl, sr2, ix⟩
theorem nq {tg : Expr} (h : QE X e ca) : QI X tg e (iTp ca) := ((vZ h).or (rZ h)).imp fun σ H R hz => nU hz fun m ρ S us ok S' sr lr hc post => by
 obtain ⟨⟨u, S1⟩, h1, h2⟩ := Option.bind_eq_some_iff.mp hc
 cases u with
 | tup ws =>
  cases h2
  refine .inl ⟨m, ρ, S, .tup us, _, sr, lr, h1, fun m1 v1 H1 e1 sr1 i1 => ?_⟩
  obtain ⟨a, xs, rfl, sq, il⟩ := i1.of_tup
  exact ⟨a, rfl, ⟨xs, sq⟩, post m1 H1 _ e1 sr1 (zY sq il)⟩
 | ref l =>
  simp only at h2
  split at h2
  ·rename_i us' hS
   cases h2
   refine .inr ⟨m, ρ, S, .ref l, _, sr, lr, h1, fun m1 v1 H1 e1 sr1 i1 => ?_⟩
   obtain ⟨a, hl, rfl⟩ := i1.of_ref
   obtain ⟨a', ha', xs, hx, il⟩ := sr1.get hS
   rw [hl] at ha'; cases ha'
   exact ⟨a, rfl, ⟨xs, SqL.of hx⟩, post m1 H1 _ e1 sr1 (zZ hl)⟩
  ·cases h2
 | _ => simp at h2
noncomputable def cg (lo : Int) (n : Nat) : List U := (List.range n).map fun i => .int (lo + (i : Nat))
theorem t8 {K : PySem.W.Frag} {m : List Addr} {H : Hp} {lo : Int} {n : Nat} : uC K (Itr lo n) m H (cg lo n) (fun _ => True) := by
 intro m2 S2 H2 i e2 sr2 _
 refine ⟨fun u hu => ?_, fun hi => by show n ≤ i; simpa [cg] using hi⟩
 unfold cg at hu
 rw [List.getElem?_map] at hu
 by_cases c : i < n
 ·rw [List.getElem?_range c] at hu
  simp at hu
  subst hu
  refine ⟨c, fun y H3 hy => ?_⟩
  obtain ⟨rfl, rfl⟩ := hy
  exact ⟨.refl, sr2, .int_⟩
 ·rw [List.getElem?_eq_none (by simpa using c)] at hu
  cases hu
noncomputable def bC (cr : CA) : CI := fun ρ S => (cr ρ S).bind fun p => match p.1 with
 | [.int j] => if -(2 ^ 62) ≤ j ∧ j < 2 ^ 62 then some (cg 0 j.toNat, fun _ => True, p.2) else none
 | _ => none
theorem dZ {tg : Expr} {cr : CA} {p : Pos} (hg : Gl X "range") (hm : X.mg "range" = none) (ha : QA X [a] cr) (hs : starEach [a] X.env = [(false, eval a X.env)] := by rfl) : QI X tg (.Call (.Name "range" p) [a] [] pos) (bC cr) := (oi hg hm ha.h hs).imp fun σ H R hz => nU hz fun m ρ S us ok S' sr lr hc post => by
 obtain ⟨⟨ws, S1⟩, h1, h2⟩ := Option.bind_eq_some_iff.mp hc
 simp only at h2
 split at h2
 ·rename_i j
  split at h2
  ·rename_i hj
   cases h2
   refine ⟨m, ρ, S, _, S', sr, lr, h1, fun m1 v1 H1 e1 sr1 i1 => ?_⟩
   obtain ⟨x, r, rfl, ix, ir⟩ := i1.of_cons
   rw [ir.of_nil, ix.of_int]
   exact ⟨j, rfl, hj.1, hj.2, post m1 H1 _ e1 sr1 t8⟩
  ·cases h2
 ·cases h2
end
noncomputable def fI (g : Int → Int → Option U) : U → U → Sto → Option (U × Sto)
 | .int i, .int j, S => (g i j).bind fun u => some (u, S)
 | _, _, _ => none
section
variable {X : Cx} {K : PySem.W.Frag}
theorem BX {C : Int → Int → Prop} {gV : Int → Int → V} {g : Int → Int → Option U} (h : ∀ i j u, g i j = some u → C i j ∧ ∀ m H, Is K m H (gV i j) u) : OpP K (rI C gV) (fI g) := by
 intro m S H x y v w u S' Q sr ix iy hf post
 cases x <;> cases y <;> simp only [fI] at hf <;> try cases hf
 rename_i i j
 obtain ⟨u1, h1, h2⟩ := Option.bind_eq_some_iff.mp hf
 cases h2
 obtain ⟨hc, hi⟩ := h i j u h1
 exact ⟨i, j, ix.of_int, iy.of_int, hc, post m _ H .refl sr (hi m H)⟩
theorem tf {gV : Int → Int → V} {g : Int → Int → Option U} (h : ∀ i j u, g i j = some u → ∀ m H, Is K m H (gV i j) u) : OpP K (rI0 gV) (fI g) := by
 intro m S H x y v w u S' Q sr ix iy hf post
 cases x <;> cases y <;> simp only [fI] at hf <;> try cases hf
 rename_i i j
 obtain ⟨u1, h1, h2⟩ := Option.bind_eq_some_iff.mp hf
 cases h2
 exact ⟨i, j, ix.of_int, iy.of_int, post m _ H .refl sr (h i j u h1 m H)⟩
noncomputable def sF (K : PySem.W.Frag) : R2 := fun x y H Q => ∃ a b xs ys, x = .ref a ∧ y = .ref b ∧ SqT K H a xs ∧ SqT K H b ys ∧ xs.length + ys.length ≤ sizeLine ∧ ∀ q H', vx H H' → SqT K H' q (xs ++ ys) → Q (.ref q) H'
theorem xc : OpR X (binaryOp .Add) (sF X.K) := by
 intro pins s σ H x y v u Q I rx ry h
 obtain ⟨a, b, xs, ys, rfl, rfl, ha, hb, hz, q⟩ := h
 by_cases e : xs = []
 ·cases rx
  cases ry
  obtain ⟨its, r1, p1, _⟩ := I.tuple ha
  obtain ⟨its2, r2, p2, _⟩ := I.tuple hb
  refine uw p1 p2 (r1.nil_iff.mpr e) ⟨.ref b, H, I, rfl, q b H (.refl _) (by rw [e]; exact hb)⟩
 ·refine xb pins s σ H _ _ v u Q I rx ry ⟨a, b, xs, ys, rfl, rfl, ha, hb, e, hz, fun z => q a H (.refl _) (by rw [z, List.append_nil]; exact ha), fun _ p hp => q p _ (gq hp _) (SqT.of aP)⟩
noncomputable def qS : U → U → Sto → Option (U × Sto)
 | .tup a, .tup b, S => if a.length + b.length ≤ LIM then some (.tup (a ++ b), S) else none
 | _, _, _ => none
theorem sX : OpP K (sF K) qS := by
 intro m S H x y v w u S' Q sr ix iy hf post
 cases x <;> cases y <;> simp only [qS] at hf <;> try cases hf
 split at hf <;> try cases hf
 rename_i hl
 obtain ⟨a, xs, rfl, sa, la⟩ := ix.of_tup
 obtain ⟨b, ys, rfl, sb, lb⟩ := iy.of_tup
 refine ⟨a, b, xs, ys, rfl, rfl, sa, sb, lim (by rw [la.length, lb.length]; exact hl), fun q H' s sq => ?_⟩
 exact post m _ H' (.of (dC s)) (sr.same s) (.tup_ sq ((la.append lb).mono (.of (dC s))))
noncomputable def jV : U → U → Sto → Option (U × Sto)
 | .ref l, .ref k, S => match S[l]?, S[k]? with
  | some (.lst a), some (.lst b) => if a.length + b.length ≤ LIM then some (.ref S.length, S ++ [.lst (a ++ b)]) else none
  | _, _ => none
 | _, _, _ => none
theorem tj : OpP K As jV := by
 intro m S H x y v w u S' Q sr ix iy hf post
 cases x <;> cases y <;> simp only [jV] at hf <;> try cases hf
 rename_i l k
 split at hf <;> try cases hf
 rename_i a b h1 h2
 split at hf <;> try cases hf
 rename_i hl
 obtain ⟨p, hp, rfl⟩ := ix.of_ref
 obtain ⟨q, hq, rfl⟩ := iy.of_ref
 obtain ⟨p', hp', xs, hx, il⟩ := sr.get h1
 obtain ⟨q', hq', ys, hy, il'⟩ := sr.get h2
 rw [hp] at hp'; cases hp'
 rw [hq] at hq'; cases hq'
 exact ⟨p, q, xs, ys, rfl, rfl, hx, hy, lim (by rw [il.length, il'.length]; exact hl), fun r hr => eg sr (il.append il') post hr⟩
noncomputable def qT : U → U → Sto → Option (U × Sto)
 | .str a, .str b, S => if a.length + b.length ≤ LIM then some (.str (a ++ b), S) else none
 | _, _, _ => none
theorem sY : OpP K (fun x y H Q => ∃ i j, x = .str i ∧ y = .str j ∧ i.length + j.length ≤ sizeLine ∧ Q (.str (i ++ j)) H) qT := by
 intro m S H x y v w u S' Q sr ix iy hf post
 cases x <;> cases y <;> simp only [qT] at hf <;> try cases hf
 split at hf <;> try cases hf
 rename_i hl
 exact ⟨_, _, ix.of_str, iy.of_str, lim hl, post m _ H .refl sr .str_⟩
noncomputable def jb : U → U → Sto → Option (U × Sto)
 | .int i, .int j, S => some (.int (i + j), S)
 | .tup a, .tup b, S => if a.length + b.length ≤ LIM then some (.tup (a ++ b), S) else none
 | .str a, .str b, S => if a.length + b.length ≤ LIM then some (.str (a ++ b), S) else none
 | .ref l, .ref k, S => jV (.ref l) (.ref k) S
 | _, _, _ => none
theorem iI : OpR X (binaryOp .Add) (fun x y H Q => rI0 (fun i j => .int (i + j)) x y H Q ∨ (As x y H Q ∨ (sF X.K x y H Q ∨ ∃ i j, x = .str i ∧ y = .str j ∧ i.length + j.length ≤ sizeLine ∧ Q (.str (i ++ j)) H))) := zG.or (zF.or (xc.or oB))
theorem iH : OpP K (fun x y H Q => rI0 (fun i j => .int (i + j)) x y H Q ∨ (As x y H Q ∨ (sF K x y H Q ∨ ∃ i j, x = .str i ∧ y = .str j ∧ i.length + j.length ≤ sizeLine ∧ Q (.str (i ++ j)) H))) jb := by
 intro m S H x y v w u S' Q sr ix iy hf post
 cases x <;> cases y <;> simp only [jb] at hf <;> try cases hf
 ·exact .inl ⟨_, _, ix.of_int, iy.of_int, post m _ H .refl sr .int_⟩
 ·exact .inr (.inr (.inr (sY m S H _ _ v w u S' Q sr ix iy hf post)))
 ·exact .inr (.inr (.inl (sX m S H _ _ v w u S' Q sr ix iy hf post)))
 ·exact .inr (.inl (tj m S H _ _ v w u S' Q sr ix iy hf post))
noncomputable def xS := fI fun i j => some (.int (i - j))
theorem zw : OpP K (rI0 fun i j => .int (i - j)) xS := tf fun i j u h m H => by cases h; exact .int_
instance {i j : Int} : Decidable (rH i j) := by unfold rH; exact inferInstance
noncomputable def jU := fI fun i j => if rH i j then some (.int (i * j)) else none
theorem mj : OpP K (rI rH fun i j => .int (i * j)) jU := BX fun i j u h => by
 split at h
 ·rename_i c; cases h; exact ⟨c, fun m H => .int_⟩
 ·cases h
instance {i j : Int} : Decidable (oU i j) := by unfold oU; exact inferInstance
noncomputable def vl := fI fun i j => if oU i j then some (.int (i / j)) else none
theorem zA : OpP K (rI oU fun i j => .int (i / j)) vl := BX fun i j u h => by
 split at h
 ·rename_i c; cases h; exact ⟨c, fun m H => .int_⟩
 ·cases h
noncomputable def lQ := fI fun i j => if 0 < j then some (.int (i % j)) else none
theorem qh : OpP K (rI (fun _ j => 0 < j) fun i j => .int (i % j)) lQ := BX fun i j u h => by
 split at h
 ·rename_i c; cases h; exact ⟨c, fun m H => .int_⟩
 ·cases h
instance {i j : Int} : Decidable (Dg i j) := by unfold Dg; exact inferInstance
noncomputable def fLt := fI fun i j => some (.bl (decide (i < j)))
noncomputable def fLe := fI fun i j => some (.bl (decide (i ≤ j)))
noncomputable def fGt := fI fun i j => some (.bl (decide (j < i)))
noncomputable def fGe := fI fun i j => some (.bl (decide (j ≤ i)))
theorem B0 : OpP K (rI0 fun i j => .bl (decide (i < j))) fLt := tf fun i j u h m H => by cases h; exact .bl_
theorem DC : OpP K (rI0 fun i j => .bl (decide (i ≤ j))) fLe := tf fun i j u h m H => by cases h; exact .bl_
theorem B1 : OpP K (rI0 fun i j => .bl (decide (j < i))) fGt := tf fun i j u h m H => by cases h; exact .bl_
noncomputable def eqS : U → U → Option Bool
 | .int i, .int j => some (decide (i = j))
 | .bl i, .bl j => some (decide (i = j))
 | .str i, .str j => some (decide (i = j))
 | .non, .non => some true
 | .non, .int _ => some false | .int _, .non => some false
 | .non, .bl _ => some false | .bl _, .non => some false
 | .non, .str _ => some false | .str _, .non => some false
 | .int _, .str _ => some false | .str _, .int _ => some false
 | .bl _, .str _ => some false | .str _, .bl _ => some false
 | _, _ => none
noncomputable def fEq : U → U → Sto → Option (U × Sto) := fun x y S => (eqS x y).bind fun b => some (.bl b, S)
noncomputable def fNe : U → U → Sto → Option (U × Sto) := fun x y S => (eqS x y).bind fun b => some (.bl (!b), S)
theorem vo {m : List Addr} {H : Hp} {x y : U} {v w : V} {b : Bool} (ix : Is K m H v x) (iy : Is K m H w y) (h : eqS x y = some b) : BF v w = true ∧ decide (v = w) = b := by
 cases x <;> cases y <;> simp only [eqS] at h <;> (first | cases h | skip)
 all_goals
  (first | (have e1 := ix.of_int) | (have e1 := ix.of_bl) | (have e1 := ix.of_str) | (have e1 := ix.of_non))
  (first | (have e2 := iy.of_int) | (have e2 := iy.of_bl) | (have e2 := iy.of_str) | (have e2 := iy.of_non))
  subst e1 e2
  exact ⟨rfl, by simp⟩
theorem xR : OpP K rEq fEq := by
 intro m S H x y v w u S' Q sr ix iy hf post
 obtain ⟨b, h1, h2⟩ := Option.bind_eq_some_iff.mp hf
 cases h2
 obtain ⟨e1, e2⟩ := vo ix iy h1
 exact ⟨e1, by rw [e2]; exact post m _ H .refl sr .bl_⟩
theorem BY : OpP K rNe fNe := by
 intro m S H x y v w u S' Q sr ix iy hf post
 obtain ⟨b, h1, h2⟩ := Option.bind_eq_some_iff.mp hf
 cases h2
 obtain ⟨e1, e2⟩ := vo ix iy h1
 exact ⟨e1, by rw [e2]; exact post m _ H .refl sr .bl_⟩
noncomputable def qL : U → Bool
 | .non => true
 | _ => false
noncomputable def ui : U → U → Sto → Option (U × Sto)
 | x, .non, S => some (.bl (qL x), S)
 | _, _, _ => none
noncomputable def uh : U → U → Sto → Option (U × Sto)
 | x, .non, S => some (.bl (!qL x), S)
 | _, _, _ => none
theorem nN {m : List Addr} {H : Hp} {x : U} {v : V} (ix : Is K m H v x) : decide (v = .non) = qL x := by
 cases x with
 | non => rw [ix.of_non]; rfl
 | bl b => rw [ix.of_bl]; rfl
 | int i => rw [ix.of_int]; rfl
 | str i => rw [ix.of_str]; rfl
 | tup us => obtain ⟨a, xs, rfl, _⟩ := ix.of_tup; rfl
 | ref l => obtain ⟨a, _, rfl⟩ := ix.of_ref; rfl
 | kl ns => obtain ⟨a, rfl, _⟩ := ix.of_kl; rfl
theorem wY : OpP K (fun x y H Q => y = .non ∧ Q (.bl (decide (x = .non))) H) ui := by
 intro m S H x y v w u S' Q sr ix iy hf post
 cases y <;> simp only [ui] at hf <;> cases hf
 exact ⟨iy.of_non, by rw [nN ix]; exact post m _ H .refl sr .bl_⟩
theorem zx : OpP K (fun x y H Q => y = .non ∧ Q (.bl (!decide (x = .non))) H) uh := by
 intro m S H x y v w u S' Q sr ix iy hf post
 cases y <;> simp only [uh] at hf <;> cases hf
 exact ⟨iy.of_non, by rw [nN ix]; exact post m _ H .refl sr .bl_⟩
section
variable {κ : Type} [DecidableEq κ]
noncomputable def aK {α : Type} (kvs : List (κ × α)) (k : κ) : Option α := (kvs.find? fun kv => decide (kv.1 = k)).map (·.2)
noncomputable def dj {α : Type} (kvs : List (κ × α)) (k : κ) (v : α) : List (κ × α) :=
 if (kvs.any fun kv => decide (kv.1 = k)) = true then kvs.map (fun kv => if kv.1 = k then (kv.1, v) else kv) else kvs ++ [(k, v)]
variable {m : List Addr} {H : Hp} {kvs : List (κ × V)} {kus : List (κ × U)} {k : κ} {v : V} {u : U}
theorem IsP.val (h : IsP K m H kvs kus) : Rf K m H (fG kvs k) (aK kus k) := by
 refine IsP.ind (P := fun kvs kus => Rf K m H (fG kvs k) (aK kus k)) trivial (fun k' v u kvs kus i _ ih => ?_) h
 by_cases e : k' = k
 ·subst e
  simp [fG, aK, List.find?_cons, Rf, i]
 ·simp only [fG, aK, List.find?_cons, decide_eq_false e] at ih ⊢
  exact ih
theorem IsP.any_ (h : IsP K m H kvs kus) : (kvs.any fun kv => decide (kv.1 = k)) = (kus.any fun kv => decide (kv.1 = k)) :=
 IsP.ind (P := fun kvs kus => (kvs.any fun kv => decide (kv.1 = k)) = (kus.any fun kv => decide (kv.1 = k))) rfl (fun k' v u kvs kus i _ ih => by simp only [List.any_cons, ih]) h
theorem IsP.append {kvs' : List (κ × V)} {kus' : List (κ × U)} (h : IsP K m H kvs kus) (h' : IsP K m H kvs' kus') : IsP K m H (kvs ++ kvs') (kus ++ kus') := ⟨by simp [h.1, h'.1], by simpa using h.2.append h'.2⟩
theorem IsP.put (h : IsP K m H kvs kus) (i : Is K m H v u) : IsP K m H (j7 kvs k v) (dj kus k u) := by
 unfold j7 dj
 rw [h.any_]
 split
 ·refine IsP.ind (P := fun kvs kus => IsP K m H (kvs.map fun kv => if kv.1 = k then (kv.1, v) else kv) (kus.map fun kv => if kv.1 = k then (kv.1, u) else kv)) .nil_ (fun k' v' u' kvs kus i' _ ih => ?_) h
  simp only [List.map_cons]
  by_cases e : k' = k
  ·simp only [e, if_true]; exact .cons_ i ih
  ·simp only [e, if_false]; exact .cons_ i' ih
 ·exact h.append (.cons_ i .nil_)
end
noncomputable def gK : U → Option Key
 | .int i => some (.inl i)
 | .str x => some (.inr x)
 | _ => none
theorem fW {m : List Addr} {H : Hp} {x : U} {v : V} {k : Key} (ix : Is K m H v x) (h : gK x = some k) : v = kV k := by
 cases x <;> simp only [gK] at h <;> cases h
 ·exact ix.of_int
 ·exact ix.of_str
noncomputable def hC : U → Bool
 | .non => true | .bl _ => true | .int _ => true | .str _ => true | _ => false
noncomputable def eqF : U → U → Bool
 | .non, .non => true
 | .bl a, .bl b => a == b
 | .bl a, .int b => (if a then 1 else 0) == b
 | .int a, .bl b => a == (if b then 1 else 0)
 | .int a, .int b => a == b
 | .str a, .str b => a == b
 | _, _ => false
noncomputable def inU (x : U) (us : List U) : Bool := us.any fun y => eqF y x
theorem mC {m : List Addr} {H : Hp} {x : U} {v : V} (ix : Is K m H v x) (h : hC x = true) : jn v = true := by
 cases x with
 | non => rw [ix.of_non]; rfl
 | bl b => rw [ix.of_bl]; rfl
 | int i => rw [ix.of_int]; rfl
 | str i => rw [ix.of_str]; rfl
 | tup us => cases h
 | ref l => cases h
 | kl l => cases h
theorem Ad {m : List Addr} {H : Hp} {x y : U} {v w : V} (ix : Is K m H v x) (iy : Is K m H w y) (hx : hC x = true) (hy : hC y = true) : eqV v w = eqF x y := by
 cases x <;> (first | cases hx | skip) <;> cases y <;> (first | cases hy | skip)
 all_goals
  (first | (have e1 := ix.of_int) | (have e1 := ix.of_bl) | (have e1 := ix.of_str) | (have e1 := ix.of_non))
  (first | (have e2 := iy.of_int) | (have e2 := iy.of_bl) | (have e2 := iy.of_str) | (have e2 := iy.of_non))
  subst e1 e2
  rfl
theorem jS {m : List Addr} {H : Hp} : ∀ {xs : List V} {us : List U}, IsL K m H xs us → us.all hC = true → xs.all jn = true
 | xs, [], h, _ => by rw [h.of_nil]; rfl
 | xs, u :: us, h, k => by
  obtain ⟨x, r, rfl, i, t⟩ := h.of_cons
  rw [List.all_cons, Bool.and_eq_true] at k ⊢
  exact ⟨mC i k.1, jS t k.2⟩
theorem qN {m : List Addr} {H : Hp} {x : U} {v : V} (ix : Is K m H v x) (hx : hC x = true) : ∀ {xs : List V} {us : List U}, IsL K m H xs us → us.all hC = true → inV v xs = inU x us
 | xs, [], h, _ => by rw [h.of_nil]; rfl
 | xs, u :: us, h, k => by
  obtain ⟨y, r, rfl, i, t⟩ := h.of_cons
  rw [List.all_cons, Bool.and_eq_true] at k
  have ih := qN ix hx t k.2
  unfold inV inU at ih ⊢
  rw [List.any_cons, List.any_cons, ih, Ad i ix k.1 hx]
theorem _root_.L2.DGet.kz {H : Hp} {a : Addr} {ob : Obj} {kvs : List (Key × V)} {k : Key} (e : H a = some (.frz ob (.dK kvs))) : DGet H a (kV k) (fG kvs k) := .inl ⟨kvs, k, .inr ⟨ob, e⟩, rfl, rfl⟩
noncomputable def fIn (neg : Bool) : U → U → Sto → Option (U × Sto) := fun x y S => match y with
 | .tup us => if hC x = true ∧ us.all hC = true then some (.bl (if neg then !inU x us else inU x us), S) else none
 | .ref l => match S[l]? with
  | some (.lst us) => if hC x = true ∧ us.all hC = true then some (.bl (if neg then !inU x us else inU x us), S) else none
  | some (.dic kus) => (gK x).bind fun k => some (.bl (if neg then !(aK kus k).isSome else (aK kus k).isSome), S)
  | some (.fdc ep kus) => (gK x).bind fun k => some (.bl (if neg then !(aK kus k).isSome else (aK kus k).isSome), S)
  | _ => none
 | _ => none
theorem Rf.isSome {m : List Addr} {H : Hp} {v : Option V} {u : Option U} (h : Rf K m H v u) : v.isSome = u.isSome := by
 cases v <;> cases u <;> first | rfl | exact h.elim
theorem vh {ca cb : CE} {neg : Bool} (t2 : TE → TE → TE) (h2 : ∀ ta tb σ H Q, (ta σ H fun y H1 => tb σ H1 fun x H2 => ∃ a o, x = .ref a ∧ DGet H2 a y o ∧ Q (.bl (if neg then !o.isSome else o.isSome)) H2) → t2 ta tb σ H Q) : ∀ σ H Q, tE K (cOp (fIn neg) ca cb) σ H Q → tOp (rIn K neg) (tE K ca) (tE K cb) σ H Q ∨ t2 (tE K ca) (tE K cb) σ H Q := by
 rintro σ H Q ⟨m, ρ, S, u, S', sr, lr, hc, post⟩
 obtain ⟨⟨x, S1⟩, h1, h⟩ := Option.bind_eq_some_iff.mp hc
 obtain ⟨⟨y, S2⟩, h3, h4⟩ := Option.bind_eq_some_iff.mp h
 cases y with
 | tup us =>
  simp only [fIn] at h4
  split at h4 <;> try cases h4
  rename_i hf
  refine .inl ⟨m, ρ, S, x, S1, sr, lr, h1, fun m1 v1 H1 e1 sr1 i1 => ⟨m1, ρ, S1, .tup us, S', sr1, lr.mono e1, h3, fun m2 v2 H2 e2 sr2 i2 => ?_⟩⟩
  obtain ⟨a, xs, rfl, sa, la⟩ := i2.of_tup
  refine ⟨a, xs, rfl, .inr sa, mC (i1.mono e2) hf.1, jS la hf.2, ?_⟩
  rw [qN (i1.mono e2) hf.1 la hf.2]
  exact post m2 _ H2 (e1.trans e2) sr2 .bl_
 | ref l =>
  simp only [fIn] at h4
  split at h4 <;> try cases h4
  ·rename_i us hS
   split at h4 <;> try cases h4
   rename_i hf
   refine .inl ⟨m, ρ, S, x, S1, sr, lr, h1, fun m1 v1 H1 e1 sr1 i1 => ⟨m1, ρ, S1, .ref l, S', sr1, lr.mono e1, h3, fun m2 v2 H2 e2 sr2 i2 => ?_⟩⟩
   obtain ⟨a, ha, rfl⟩ := i2.of_ref
   obtain ⟨a', ha', xs, hx, la⟩ := sr2.get hS
   rw [ha] at ha'; cases ha'
   refine ⟨a, xs, rfl, .inl (SqL.of hx), mC (i1.mono e2) hf.1, jS la hf.2, ?_⟩
   rw [qN (i1.mono e2) hf.1 la hf.2]
   exact post m2 _ H2 (e1.trans e2) sr2 .bl_
  ·rename_i kus hS
   obtain ⟨k, hk, h5⟩ := Option.bind_eq_some_iff.mp h4
   cases h5
   refine .inr (h2 _ _ _ _ _ ⟨m, ρ, S, x, S1, sr, lr, h1, fun m1 v1 H1 e1 sr1 i1 => ⟨m1, ρ, S1, .ref l, S', sr1, lr.mono e1, h3, fun m2 v2 H2 e2 sr2 i2 => ?_⟩⟩)
   obtain ⟨a, ha, rfl⟩ := i2.of_ref
   obtain ⟨a', ha', kvs, hx, ip⟩ := sr2.get hS
   rw [ha] at ha'; cases ha'
   have ek := fW (i1.mono e2) hk
   subst ek
   refine ⟨a, _, rfl, DGet.k hx, ?_⟩
   rw [(IsP.val ip).isSome]
   exact post m2 _ H2 (e1.trans e2) sr2 .bl_
  ·rename_i ep kus hS
   obtain ⟨k, hk, h5⟩ := Option.bind_eq_some_iff.mp h4
   cases h5
   refine .inr (h2 _ _ _ _ _ ⟨m, ρ, S, x, S1, sr, lr, h1, fun m1 v1 H1 e1 sr1 i1 => ⟨m1, ρ, S1, .ref l, S', sr1, lr.mono e1, h3, fun m2 v2 H2 e2 sr2 i2 => ?_⟩⟩)
   obtain ⟨a, ha, rfl⟩ := i2.of_ref
   obtain ⟨a', ha', ob, es, kvs, hx, hd, ip⟩ := sr2.get hS
   rw [ha] at ha'; cases ha'
   have ek := fW (i1.mono e2) hk
   subst ek
   refine ⟨a, _, rfl, DGet.kz hx, ?_⟩
   rw [(IsP.val ip).isSome]
   exact post m2 _ H2 (e1.trans e2) sr2 .bl_
 | _ => simp [fIn] at h4
variable {e a b c : Expr} {ca cb cc : CE} {pos : Pos}
theorem yW (hu : X.A.units + 1 < cLine) (ha : QE X a ca) (hb : QE X b cb) (hm : behindInMarks .In b = false) : QT X (.Compare a [.In] [b] pos) (bI (cOp (fIn false) ca cb)) :=
 ((jJ ql ha hb hm).or (px (we hu ha hb) hm)).imp (ia (vh (neg := false) BD fun _ _ _ _ _ h => h))
theorem sH (hu : X.A.units + 1 < cLine) (ha : QE X a ca) (hb : QE X b cb) (hm : behindInMarks .NotIn b = false) : QT X (.Compare a [.NotIn] [b] pos) (bI (cOp (fIn true) ca cb)) :=
 ((jJ kF ha hb hm).or (px (oo hu ha hb) hm)).imp (ia (vh (neg := true) me fun _ _ _ _ _ h => h))
noncomputable def fIx : U → U → Sto → Option (U × Sto) := fun x y S => match x with
 | .tup us => match y with
  | .int i => (atI us i).bind fun u => some (u, S)
  | _ => none
 | .ref l => match S[l]? with
  | some (.lst us) => (match y with
   | .int i => (atI us i).bind fun u => some (u, S)
   | _ => none)
  | some (.dic kus) => (gK y).bind fun k => (aK kus k).bind fun u => some (u, S)
  | some (.fdc ep kus) => (gK y).bind fun k => (aK kus k).bind fun u => some (u, S)
  | _ => none
 | .kl ns => match y with
  | .int i => (atI (ns.map U.int) i).bind fun u => some (u, S)
  | _ => none
 | _ => none
theorem nO {K : PySem.W.Frag} {m : List Addr} {H : Hp} : ∀ ns : List Int, IsL K m H (ns.map V.int) (ns.map U.int)
 | [] => .nil_
 | n :: ns => .cons_ .int_ (nO ns)
theorem rq {m : List Addr} {H : Hp} {xs : List V} {us : List U} {i : Int} {u : U} (l : IsL K m H xs us) (h : atI us i = some u) : ∃ v, atI xs i = some v ∧ Is K m H v u := by
 unfold atI at h ⊢
 rw [l.length]
 obtain ⟨j, e1, e2⟩ := Option.bind_eq_some_iff.mp h
 rw [e1]
 obtain ⟨v, e3, e4⟩ := l.getD e2
 exact ⟨v, e3, e4⟩
theorem gJ (hu : X.A.units + 1 < cLine) (ha : QE X a ca) (hb : QE X b cb) (hs : mS b) (hs2 : AM b) : QE X (.Subscript a b pos) (cOp fIx ca cb) :=
 ((yI (xq.or zX) ha hb hs).or (sg hu ha hb hs2)).imp fun σ H Q hz => kY hz fun m ρ S u S' sr lr hc post => by
 obtain ⟨⟨x, S1⟩, h1, h⟩ := Option.bind_eq_some_iff.mp hc
 obtain ⟨⟨y, S2⟩, h3, h4⟩ := Option.bind_eq_some_iff.mp h
 cases x with
 | tup us =>
  simp only [fIx] at h4
  split at h4 <;> try cases h4
  rename_i i
  obtain ⟨w, hw, h5⟩ := Option.bind_eq_some_iff.mp h4
  cases h5
  refine .inl ⟨m, ρ, S, _, S1, sr, lr, h1, fun m1 v1 H1 e1 sr1 i1 => ⟨m1, ρ, S1, _, S', sr1, lr.mono e1, h3, fun m2 v2 H2 e2 sr2 i2 => .inr ?_⟩⟩
  obtain ⟨a, xs, rfl, sa, la⟩ := (i1.mono e2).of_tup
  obtain ⟨z, ez, iz⟩ := rq la hw
  exact ⟨a, xs, i, z, rfl, i2.of_int, sa, ez, post m2 _ H2 (e1.trans e2) sr2 iz⟩
 | ref l =>
  simp only [fIx] at h4
  split at h4 <;> try cases h4
  ·rename_i us hS
   split at h4 <;> try cases h4
   rename_i i
   obtain ⟨w, hw, h5⟩ := Option.bind_eq_some_iff.mp h4
   cases h5
   refine .inl ⟨m, ρ, S, _, S1, sr, lr, h1, fun m1 v1 H1 e1 sr1 i1 => ⟨m1, ρ, S1, _, S', sr1, lr.mono e1, h3, fun m2 v2 H2 e2 sr2 i2 => .inl ?_⟩⟩
   obtain ⟨a, ha, rfl⟩ := (i1.mono e2).of_ref
   obtain ⟨a', ha', xs, hx, la⟩ := sr2.get hS
   rw [ha] at ha'; cases ha'
   obtain ⟨z, ez, iz⟩ := rq la hw
   exact ⟨a, xs, i, z, rfl, i2.of_int, SqL.of hx, ez, post m2 _ H2 (e1.trans e2) sr2 iz⟩
  ·rename_i kus hS
   obtain ⟨k, hk, h5⟩ := Option.bind_eq_some_iff.mp h4
   obtain ⟨w, hw, h6⟩ := Option.bind_eq_some_iff.mp h5
   cases h6
   refine .inr ⟨m, ρ, S, _, S1, sr, lr, h1, fun m1 v1 H1 e1 sr1 i1 => ⟨m1, ρ, S1, _, S', sr1, lr.mono e1, h3, fun m2 v2 H2 e2 sr2 i2 => ?_⟩⟩
   obtain ⟨a, ha, rfl⟩ := (i1.mono e2).of_ref
   obtain ⟨a', ha', kvs, hx, ip⟩ := sr2.get hS
   rw [ha] at ha'; cases ha'
   have ek := fW i2 hk
   subst ek
   have rf := IsP.val (k := k) ip
   rw [hw] at rf
   cases hv : fG kvs k with
   | none => rw [hv] at rf; exact rf.elim
   | some z =>
    rw [hv] at rf
    exact ⟨a, z, rfl, by have := DGet.k (k := k) hx; rw [hv] at this; exact this, post m2 _ H2 (e1.trans e2) sr2 rf⟩
  ·rename_i ep kus hS
   obtain ⟨k, hk, h5⟩ := Option.bind_eq_some_iff.mp h4
   obtain ⟨w, hw, h6⟩ := Option.bind_eq_some_iff.mp h5
   cases h6
   refine .inr ⟨m, ρ, S, _, S1, sr, lr, h1, fun m1 v1 H1 e1 sr1 i1 => ⟨m1, ρ, S1, _, S', sr1, lr.mono e1, h3, fun m2 v2 H2 e2 sr2 i2 => ?_⟩⟩
   obtain ⟨a, ha, rfl⟩ := (i1.mono e2).of_ref
   obtain ⟨a', ha', ob, es, kvs, hx, hd, ip⟩ := sr2.get hS
   rw [ha] at ha'; cases ha'
   have ek := fW i2 hk
   subst ek
   have rf := IsP.val (k := k) ip
   rw [hw] at rf
   cases hv : fG kvs k with
   | none => rw [hv] at rf; exact rf.elim
   | some z =>
    rw [hv] at rf
    exact ⟨a, z, rfl, by have := DGet.kz (k := k) hx; rw [hv] at this; exact this, post m2 _ H2 (e1.trans e2) sr2 rf⟩
 | kl ns =>
  simp only [fIx] at h4
  split at h4 <;> try cases h4
  rename_i i
  obtain ⟨w, hw, h5⟩ := Option.bind_eq_some_iff.mp h4
  cases h5
  refine .inl ⟨m, ρ, S, _, S1, sr, lr, h1, fun m1 v1 H1 e1 sr1 i1 => ⟨m1, ρ, S1, _, S', sr1, lr.mono e1, h3, fun m2 v2 H2 e2 sr2 i2 => .inl ?_⟩⟩
  obtain ⟨a, rfl, ka⟩ := (i1.mono e2).of_kl
  obtain ⟨z, ez, iz⟩ := rq (nO (K := X.K) (m := m2) (H := H2) ns) hw
  exact ⟨a, _, i, z, rfl, i2.of_int, ka.sq, ez, post m2 _ H2 (e1.trans e2) sr2 iz⟩
 | _ => simp [fIx] at h4
noncomputable def iQ : U → U → U → Sto → Option Sto := fun o i v S => match o with
 | .ref l => match S[l]? with
  | some (.lst us) => (match i with
   | .int k => (ixN us.length k).bind fun j => some (S.set l (.lst (us.set j v)))
   | _ => none)
  | some (.dic kus) => (gK i).bind fun k => if kus.length < LIM then some (S.set l (.dic (dj kus k v))) else none
  | _ => none
 | _ => none
noncomputable def dM (co ci cv : CE) : CS := fun ρ S => (cv ρ S).bind fun p => (co ρ p.2).bind fun q => (ci ρ q.2).bind fun r => (iQ q.1 r.1 p.1 r.2).bind fun S' => some (.nx, ρ, S')
theorem dh {o i : Expr} {co ci cv : CE} {pos' : Pos} (hu : X.A.units + 1 < cLine) (ho : QE X o co) (hi : QE X i ci) (hv : QE X e cv)
  (hs0 : swapsWithSole [.Subscript o i pos'] e pos.line X.env = pure false := by rfl) (hw : swappedStores [.Subscript o i pos'] e X.env = pure none := by rfl)
  (h1 : (assignEach [.Subscript o i pos'] X.env).map (·.2) = [assign (.Subscript o i pos') X.env] := by rfl)
  (hs : swapsWith e (some (.Subscript o i pos')) pos.line X.env = pure false := by rfl)
  (ha : ∀ v, assign (.Subscript o i pos') X.env v = (do
   let ov ← holding [v] (eval o X.env)
   let iv ← holding [v, ov] (eval i X.env)
   standAt pos'
   holding [v, ov, iv] (setItem ov iv v)
   release [v, ov, iv] []) := by intro _; rfl) : QS X (.Assign [.Subscript o i pos'] e pos) (dM co ci cv) :=
 ((pD hv (v8 ho hi sA ha) hs0 hw h1).or (rY hu ho hi hv hs)).imp fun D σ H hz => nU hz fun m ρ S o ρ' S' sr lr hc post => by
 obtain ⟨⟨v, S1⟩, h1, h⟩ := Option.bind_eq_some_iff.mp hc
 obtain ⟨⟨ou, S2⟩, h2, h⟩ := Option.bind_eq_some_iff.mp h
 obtain ⟨⟨iu, S3⟩, h3, h⟩ := Option.bind_eq_some_iff.mp h
 obtain ⟨S4, h4, h⟩ := Option.bind_eq_some_iff.mp h
 cases h
 cases ou with
 | ref l =>
  simp only [iQ] at h4
  split at h4 <;> try cases h4
  ·rename_i us hS
   split at h4 <;> try cases h4
   rename_i k
   obtain ⟨j, hj, h5⟩ := Option.bind_eq_some_iff.mp h4
   cases h5
   refine .inl ⟨m, ρ, S, v, S1, sr, lr, h1, fun m1 v1 H1 e1 sr1 i1 => ⟨m1, ρ, S1, _, S2, sr1, lr.mono e1, h2, fun m2 v2 H2 e2 sr2 i2 => ⟨m2, ρ, S2, _, S3, sr2, lr.mono (e1.trans e2), h3, fun m3 v3 H3 e3 sr3 i3 => ?_⟩⟩⟩
   obtain ⟨a, ha, rfl⟩ := (i2.mono e3).of_ref
   obtain ⟨a', ha', xs, hx, la⟩ := sr3.get hS
   rw [ha] at ha'; cases ha'
   have e13 := (e1.trans e2).trans e3
   have ek : Ext X.K m3 H3 m3 (upd H3 a (.lst (xs.set j v1))) := .of (sr3.keep ha _)
   refine ⟨a, xs, k, j, rfl, i3.of_int, hx, by rw [la.length]; exact hj, post m3 σ _ (e13.trans ek) (sr3.put ha ⟨_, aP, ((la.set (i1.mono (e2.trans e3)))).mono ek⟩) (lr.mono (e13.trans ek))⟩
  ·rename_i kus hS
   obtain ⟨k, hk, h5⟩ := Option.bind_eq_some_iff.mp h4
   split at h5 <;> try cases h5
   have fe : kus.length < LIM := by assumption
   refine .inr ⟨m, ρ, S, v, S1, sr, lr, h1, fun m1 v1 H1 e1 sr1 i1 => ⟨m1, ρ, S1, _, S2, sr1, lr.mono e1, h2, fun m2 v2 H2 e2 sr2 i2 => ⟨m2, ρ, S2, _, S3, sr2, lr.mono (e1.trans e2), h3, fun m3 v3 H3 e3 sr3 i3 => ?_⟩⟩⟩
   obtain ⟨a, ha, rfl⟩ := (i2.mono e3).of_ref
   obtain ⟨a', ha', kvs, hx, ip⟩ := sr3.get hS
   rw [ha] at ha'; cases ha'
   have ek := fW i3 hk
   subst ek
   have e13 := (e1.trans e2).trans e3
   have ee : Ext X.K m3 H3 m3 (upd H3 a (.dK (j7 kvs k v1))) := .of (sr3.keep ha _)
   exact ⟨a, _, rfl, Ao.k hx (Aw (by rw [IsP.length ip]; exact fe)), post m3 σ _ (e13.trans ee) (sr3.put ha ⟨_, aP, (IsP.put ip (i1.mono (e2.trans e3))).mono ee⟩) (lr.mono (e13.trans ee))⟩
 | _ => simp [iQ] at h4
end
theorem gv {α : Type} [DecidableEq α] : ∀ {l l' : List α}, l.Nodup → (∀ x ∈ l, x ∈ l') → l.length ≤ l'.length
 | [], _, _, _ => Nat.zero_le _
 | x :: r, l', nd, s => by
  obtain ⟨h1, h2⟩ := List.nodup_cons.mp nd
  have hx := s x List.mem_cons_self
  have := gv (l := r) (l' := l'.erase x) h2 fun y hy => (List.mem_erase_of_ne (fun z => h1 (by rw [← z]; exact hy))).mpr (s y (List.mem_cons_of_mem _ hy))
  rw [List.length_erase_of_mem hx] at this
  have hp := List.length_pos_of_mem hx
  rw [List.length_cons]
  omega
theorem d6 (f : Str) (v : V) : ∀ fs : List (Str × V), (jf f v fs).map (·.1) = if f ∈ fs.map (·.1) then fs.map (·.1) else fs.map (·.1) ++ [f]
 | [] => by simp [jf]
 | (g, x) :: r => by
  unfold jf
  by_cases e : g = f
  ·simp [e]
  ·have ih := d6 f v r
   rw [if_neg e, List.map_cons, List.map_cons, ih]
   by_cases c : f ∈ r.map (·.1)
   ·rw [if_pos c, if_pos (List.mem_cons_of_mem _ c)]
   ·rw [if_neg c, if_neg (fun z => by rcases List.mem_cons.mp z with z | z; exact e z.symm; exact c z)]
    rfl
section
variable {X : Cx} {K : PySem.W.Frag} {m : List Addr} {H : Hp} {c : Cl} {fs : List (Str × V)} {fus : List (Option U)}
theorem InF.room (h : InF K m H c fs fus) : fs.length < 1000 := by
 have := gv h.knd h.sub
 rw [List.length_map] at this
 have := h.few
 omega
theorem iK {f : Str} : ∀ {fs : List (Str × V)}, f ∉ fs.map (·.1) → fs.lookup f = none
 | [], _ => rfl
 | (g, x) :: r, h => by
  rw [List.lookup_cons]
  have h1 : (f == g) = false := by
   apply beq_eq_false_iff_ne.mpr
   intro z; exact h (by rw [z]; exact List.mem_cons_self)
  rw [h1]
  exact iK fun z => h (List.mem_cons_of_mem _ z)
theorem InF.none_ {f : Str} (h : InF K m H c fs fus) (hf : f ∉ c.ns) : fs.lookup f = none := iK fun z => hf (h.sub f z)
theorem InF.put {f : Str} {i : Nat} {v : V} {u : U} (h : InF K m H c fs fus) (hi : c.ns[i]? = some f) (hv : Is K m H v u) : InF K m H c (jf f v fs) (fus.set i (some u)) := by
 have hfm : f ∈ c.ns := List.mem_of_getElem? hi
 refine ⟨h.nd, h.few, ?_, fun x hx => ?_, by simp [h.len], fun j x hj => ?_⟩
 ·rw [d6]
  split
  ·exact h.knd
  ·rename_i hn
   rw [List.nodup_append]
   exact ⟨h.knd, by simp, fun a ha b hb z => by simp at hb; subst hb; subst z; exact hn ha⟩
 ·rw [d6] at hx
  split at hx
  ·exact h.sub x hx
  ·rcases List.mem_append.mp hx with z | z
   ·exact h.sub x z
   ·simp at z; subst z; exact hfm
 ·rw [fV]
  by_cases e : i = j
  ·subst e
   rw [hi] at hj; cases hj
   rw [if_pos rfl]
   have : i < fus.length := by rw [h.len]; exact (List.getElem?_eq_some_iff.mp hi).1
   rw [List.getElem?_set_self this]
   exact hv
  ·have ne : x ≠ f := fun z => by
    subst z
    obtain ⟨p1, e1⟩ := List.getElem?_eq_some_iff.mp hi
    obtain ⟨p2, e2⟩ := List.getElem?_eq_some_iff.mp hj
    exact e ((List.getElem_inj h.nd).mp (e1.trans e2.symm))
   rw [if_neg ne, List.getElem?_set_ne e]
   exact h.at_ j x hj
theorem InF.new (nd : c.ns.Nodup) (few : c.ns.length < 1000) : InF K m H c [] (List.replicate c.ns.length none) := by
 refine ⟨nd, few, by simp, fun x hx => by simp at hx, by simp, fun i x hi => ?_⟩
 rw [List.getElem?_replicate]
 split <;> exact trivial
open Classical in
noncomputable def Ab (c : Cl) (i : Nat) (x : U) (S : Sto) : Option (U × Sto) := match x with
 | .ref l => match S[l]? with
  | some (.ins c' fus) => if c' = c then (fus[i]?).join.bind fun u => some (u, S) else none
  | _ => none
 | _ => none
noncomputable def bY (c : Cl) (i : Nat) (ca : CE) : CE := fun ρ S => (ca ρ S).bind fun p => Ab c i p.1 p.2
open Classical in
noncomputable def qU (c : Cl) (i : Nat) (x v : U) (S : Sto) : Option Sto := match x with
 | .ref l => match S[l]? with
  | some (.ins c' fus) => if c' = c then some (S.set l (.ins c (fus.set i (some v)))) else none
  | _ => none
 | _ => none
noncomputable def eT (c : Cl) (i : Nat) (ca cv : CE) : CS := fun ρ S => (cv ρ S).bind fun p => (ca ρ p.2).bind fun q => (qU c i q.1 p.1 q.2).bind fun S' => some (.nx, ρ, S')
variable {e : Expr} {ca cv : CE} {pos : Pos} {f : Str} {i : Nat}
theorem bb (hcl : Cls X.K c.C) (hna : fT X.K c.C f) (hi : c.ns[i]? = some f) (h : QE X e ca) (hb : attributeBase e f X.env (eval e X.env) = eval e X.env := by rfl) : QE X (.Attribute e f pos) (bY c i ca) := (wd h hb).imp fun σ H Q hz => kY hz fun m ρ S u S' sr lr hc post => by
 obtain ⟨⟨x, S1⟩, h1, h2⟩ := Option.bind_eq_some_iff.mp hc
 refine ⟨m, ρ, S, x, S1, sr, lr, h1, fun m1 v1 H1 e1 sr1 i1 => ?_⟩
 cases x with
 | ref l =>
  simp only [Ab] at h2
  split at h2 <;> try cases h2
  rename_i c' fus hS
  split at h2 <;> try cases h2
  rename_i hc'
  subst hc'
  obtain ⟨w, hw, h3⟩ := Option.bind_eq_some_iff.mp h2
  cases h3
  obtain ⟨a, ha, rfl⟩ := i1.of_ref
  obtain ⟨a', ha', dx, fs, hx, inf⟩ := sr1.get hS
  rw [ha] at ha'; cases ha'
  have rf := inf.at_ i f hi
  rw [hw] at rf
  cases hv : fs.lookup f with
  | none => rw [hv] at rf; exact rf.elim
  | some z =>
   rw [hv] at rf
   exact ⟨a, _, dx, fs, z, rfl, hx, hcl, hna, hv, post m1 _ H1 e1 sr1 rf⟩
 | _ => simp [Ab] at h2
theorem bU {o : Expr} {co : CE} {pos' : Pos} (hcl : Cls X.K c.C) (hna : fT X.K c.C f) (hi : c.ns[i]? = some f) (ho : QE X o co) (hv : QE X e cv) (hs : swapsWith e (some (.Attribute o f pos')) pos.line X.env = pure false := by rfl) : QS X (.Assign [.Attribute o f pos'] e pos) (eT c i co cv) := (vY ho hv hs).imp fun D σ H hz => nU hz fun m ρ S o ρ' S' sr lr hc post => by
 obtain ⟨⟨v, S1⟩, h1, h⟩ := Option.bind_eq_some_iff.mp hc
 obtain ⟨⟨x, S2⟩, h2, h⟩ := Option.bind_eq_some_iff.mp h
 obtain ⟨S3, h3, h⟩ := Option.bind_eq_some_iff.mp h
 cases h
 refine ⟨m, ρ, S, v, S1, sr, lr, h1, fun m1 v1 H1 e1 sr1 i1 => ⟨m1, ρ, S1, x, S2, sr1, lr.mono e1, h2, fun m2 v2 H2 e2 sr2 i2 => ?_⟩⟩
 cases x with
 | ref l =>
  simp only [qU] at h3
  split at h3 <;> try cases h3
  rename_i c' fus hS
  split at h3 <;> try cases h3
  have hc' : c' = c := by assumption
  subst hc'
  obtain ⟨a, ha, rfl⟩ := i2.of_ref
  obtain ⟨a', ha', dx, fs, hx, inf⟩ := sr2.get hS
  rw [ha] at ha'; cases ha'
  have ee : Ext X.K m2 H2 m2 (upd H2 a (.ins c'.C dx (jf f v1 fs))) := .of (sr2.keep ha _)
  have e12 := e1.trans e2
  exact ⟨a, _, dx, fs, rfl, hx, hcl, hna, inf.room, post m2 σ _ (e12.trans ee) (sr2.put ha ⟨dx, _, aP, (inf.put hi (i1.mono e2)).mono ee⟩) (lr.mono (e12.trans ee))⟩
 | _ => simp [qU] at h3
structure fc (P : Program) (w : World) (K : PySem.W.Frag) (mg : Str → Option Value) (base : Heap) (c : Cl) (mn : Str) (k : Nat) (ps : List Str) (f : Fn) : Prop where
 ex : ∃ fa fd, fU K c.C mn fa ∧ iA P w K mg base CX0 k fa fd ps (sy K f) ∧ cS K fd ps []
theorem fc.mono {P : Program} {w : World} {mg : Str → Option Value} {base : Heap} {mn : Str} {j k : Nat} {ps : List Str} {f : Fn} (h : fc P w K mg base c mn j ps f) (l : j ≤ k) : fc P w K mg base c mn k ps f := by
 obtain ⟨fa, fd, a, b, d⟩ := h.ex
 exact ⟨fa, fd, a, b.mono l, d⟩
open Classical in
noncomputable def qV (c : Cl) (f : Fn) (x : U) (S : Sto) (args : Sto → Option (List U × Sto)) : Option (U × Sto) := match x with
 | .ref l => match S[l]? with
  | some (.ins c' _) => if c' = c then (args S).bind fun q => f (.ref l :: q.1) q.2 else none
  | _ => none
 | _ => none
noncomputable def cD (c : Cl) (f : Fn) (ca : CE) (cr : CA) : CE := fun ρ S => (ca ρ S).bind fun p => qV c f p.1 p.2 (cr ρ)
theorem nD {mn : Str} {g : Fn} {co : CE} {cr : CA} (hmn : mn ∉ c.ns) : ∀ σ H Q, tE K (cD c g co cr) σ H Q → pR c.C mn (sy K g) [] E0 (tE K co) (tA K cr) σ H Q := by
 rintro σ H Q ⟨m, ρ, S, u, S', sr, lr, hc, post⟩
 obtain ⟨⟨x, S1⟩, h1, h2⟩ := Option.bind_eq_some_iff.mp hc
 refine ⟨m, ρ, S, x, S1, sr, lr, h1, fun m1 v1 H1 e1 sr1 i1 => ?_⟩
 cases x with
 | ref l =>
  simp only [qV] at h2
  split at h2 <;> try cases h2
  rename_i c' fus hS
  split at h2 <;> try cases h2
  rename_i hc'
  subst hc'
  obtain ⟨⟨us, S2⟩, h3, h4⟩ := Option.bind_eq_some_iff.mp h2
  obtain ⟨a, ha, rfl⟩ := i1.of_ref
  obtain ⟨a', ha', dx, fs, hx, inf⟩ := sr1.get hS
  rw [ha] at ha'; cases ha'
  refine ⟨a, dx, fs, rfl, hx, inf.none_ hmn, m1, ρ, S1, us, S2, sr1, lr.mono e1, h3, fun m2 vs H2 e2 sr2 i2 => ?_⟩
  exact ⟨m2, _, S2, u, S', .cons_ (i1.mono e2) (by simpa using i2), sr2, h4, post.mono (e1.trans e2)⟩
 | _ => simp [qV] at h2
theorem bV {mn : Str} {g : Fn} {k : Nat} {ps : List Str} {o : Expr} {es : List Expr} {co : CE} {cr : CA} {apos : Pos} {pl : Sem Bool} (hcl : Cls X.K c.C) (F : fc X.prog X.w X.K X.mg X.base c mn k ps g) (hr : fh k X.A) (hmn : mn ∉ c.ns) (ho : QE X o co) (ha : QA X (e :: es) cr)
  (hst : starEach (e :: es) X.env = (false, eval e X.env) :: starEach es X.env := by rfl) (hpl : (backTo pos (starEach es X.env)).any (·.1) = false := by rfl) (ht : eval (.Call (.Attribute o mn apos) (e :: es) [] pos) X.env = (do
   let ov ← eval o X.env
   standAt apos.atName
   let (f, first) ← holding [ov] (getMethod ov mn pl)
   callWith pos f first (backTo pos (starEach (e :: es) X.env)) (backToKw pos (keywordEach [] X.env))) := by rfl) : QE X (.Call (.Attribute o mn apos) (e :: es) [] pos) (cD c g co cr) := by
 obtain ⟨fa, fd, hm, F, hb⟩ := F.ex
 exact (se ho hcl hm F hr hb .nil sW ha.h hst hpl ht).imp (nD hmn)
theorem wC {mn : Str} {g : Fn} {k : Nat} {ps : List Str} {o : Expr} {co : CE} {apos : Pos} {pl : Sem Bool} (hcl : Cls X.K c.C) (F : fc X.prog X.w X.K X.mg X.base c mn k ps g) (hr : fh k X.A) (hmn : mn ∉ c.ns) (ho : QE X o co)
  (ht : eval (.Call (.Attribute o mn apos) [] [] pos) X.env = (do
   let ov ← eval o X.env
   standAt apos.atName
   let (f, first) ← holding [ov] (getMethod ov mn pl)
   callWith pos f first (backTo pos (starEach [] X.env)) (backToKw pos (keywordEach [] X.env))) := by rfl) : QE X (.Call (.Attribute o mn apos) [] [] pos) (cD c g co aG) := by
 obtain ⟨fa, fd, hm, F, hb⟩ := F.ex
 refine (pF ho hcl hm F hr hb .nil sW ht).imp fun σ H Q h => ?_
 obtain ⟨m, ρ, S, u, S', sr, lr, hc, k⟩ := nD hmn σ H Q h
 refine ⟨m, ρ, S, u, S', sr, lr, hc, fun m1 v1 H1 e1 sr1 i1 => ?_⟩
 obtain ⟨a, dx, fs, h1, h2, h3, m2, ρ2, S2, us, S3, sr2, lr2, h4, h5⟩ := k m1 v1 H1 e1 sr1 i1
 cases h4
 exact ⟨a, dx, fs, h1, h2, h3, h5 m2 [] H1 .refl sr2 .nil_⟩
structure CMk (P : Program) (w : World) (K : PySem.W.Frag) (mg : Str → Option Value) (base : Heap) (c : Cl) (x : Str) (k : Nat) (ps : List Str) (f : Fn) : Prop where
 ex : ∃ fa fd, Mk K c.C fa ∧ iA P w K mg base CX0 k fa fd ps (sy K f) ∧ cS K fd ps [] ∧ mg x = some (.ref c.C)
 nd : c.ns.Nodup
 few : c.ns.length < 1000
theorem CMk.mono {P : Program} {w : World} {mg : Str → Option Value} {base : Heap} {x : Str} {j k : Nat} {ps : List Str} {f : Fn} (h : CMk P w K mg base c x j ps f) (l : j ≤ k) : CMk P w K mg base c x k ps f := by
 obtain ⟨fa, fd, a, b, d⟩ := h.ex
 exact ⟨⟨fa, fd, a, b.mono l, d⟩, h.nd, h.few⟩
noncomputable def jo (c : Cl) (f : Fn) : Fn := fun us S => (f (.ref S.length :: us) (S ++ [.ins c (List.replicate c.ns.length none)])).bind fun p => match p.1 with
 | .non => some (.ref S.length, p.2)
 | _ => none
theorem tM {g : Fn} {cr : CA} (nd : c.ns.Nodup) (few : c.ns.length < 1000) : ∀ σ H Q, tE K (cCB (jo c g) cr) σ H Q → wt c.C (sy K g) [] E0 (tA K cr) σ H Q := by
 rintro σ H Q ⟨m, ρ, S, u, S', sr, lr, hc, post⟩
 obtain ⟨⟨us, S1⟩, h1, h2⟩ := Option.bind_eq_some_iff.mp hc
 obtain ⟨⟨w, S2⟩, h3, h4⟩ := Option.bind_eq_some_iff.mp h2
 refine ⟨m, ρ, S, us, S1, sr, lr, h1, fun m1 vs H1 e1 sr1 i1 x dx hx hdx ne => ?_⟩
 cases w with
 | non =>
  cases h4
  have s1 : vx H1 (upd H1 dx (.own x)) := gq hdx _
  have hx2 : (upd H1 dx (.own x)) x = none := by rw [bh (Ne.symm ne)]; exact hx
  have ee : Ext K m1 H1 (m1 ++ [x]) (upd (upd H1 dx (.own x)) x (.ins c.C dx [])) := .new ⟨fun b xs q => (b7 hx2 _).t b xs ((dC s1).t b xs q), fun b xs q => (b7 hx2 _).l b xs ((dC s1).l b xs q)⟩
  refine ⟨m1 ++ [x], .ref S1.length :: us, S1 ++ [.ins c (List.replicate c.ns.length none)], .non, S2, .cons_ (.ref_ (dP sr1.len)) (by simpa using i1.mono ee), (sr1.same s1).new (o := .ins c (List.replicate c.ns.length none)) hx2 ⟨dx, [], aP, InF.new nd few⟩, h3, fun m2 v2 H2 e2 sr2 i2 => ⟨i2.of_non, ?_⟩⟩
  exact post m2 _ H2 ((e1.trans ee).trans e2) sr2 (.ref_ (e2.get (dP sr1.len)))
 | _ => simp at h4
theorem uW {x : Str} {g : Fn} {k : Nat} {ps : List Str} {es : List Expr} {cr : CA} {p : Pos} (M : CMk X.prog X.w X.K X.mg X.base c x k ps g) (hr : fh (k + 1) X.A) (hg : Gl X x) (ha : QA X (e :: es) cr)
  (hdb : (x == ("__debug__" : Str)) = false := by decide) (he : starEach (e :: es) X.env = (false, eval e X.env) :: starEach es X.env := by rfl) (hpl : (backTo pos (starEach es X.env)).any (·.1) = false := by rfl) : QE X (.Call (.Name x p) (e :: es) [] pos) (cCB (jo c g) cr) := by
 obtain ⟨fa, fd, hm, F, hb, hx⟩ := M.ex
 exact (sf hm F hr hg hx hb .nil sW ha.h hdb he hpl).imp (tM M.nd M.few)
noncomputable def hJ : CE := fun _ S => some (.ref S.length, S ++ [.dic []])
theorem iF : QE X (.Dict [] [] pos) hJ := pH.imp fun σ H Q hz => kY hz fun m ρ S u S' sr lr hc post => by
 cases hc
 exact fun p hp => post (m ++ [p]) _ _ (.new (b7 hp _)) (sr.new hp ⟨[], aP, .nil_⟩) (.ref_ (dP sr.len))
noncomputable def mP (cd ck cx : CE) : CE := fun ρ S => (cd ρ S).bind fun p => match p.1 with
 | .ref l => match p.2[l]? with
  | some (.dic _) => (ck ρ p.2).bind fun q => (cx ρ q.2).bind fun r => match r.2[l]? with
   | some (.dic kus) => (gK q.1).bind fun k => some ((aK kus k).getD r.1, r.2)
   | _ => none
  | _ => none
 | _ => none
theorem p9 {o e f : Expr} {cd ck cx : CE} {apos : Pos} (hu : X.A.units + 1 < cLine) (ho : QE X o cd) (he : QE X e ck) (hf : QE X f cx) (hm : M2 X o "get" apos e f pos) : QE X (.Call (.Attribute o "get" apos) [e, f] [] pos) (mP cd ck cx) := (pI hu ho he hf hm).imp fun σ H Q hz => kY hz fun m ρ S u S' sr lr hc post => by
 obtain ⟨⟨x, S1⟩, h1, h⟩ := Option.bind_eq_some_iff.mp hc
 refine ⟨m, ρ, S, x, S1, sr, lr, h1, fun m1 v1 H1 e1 sr1 i1 => ?_⟩
 cases x with
 | ref l =>
  simp only at h
  split at h <;> try cases h
  rename_i kus0 hS
  obtain ⟨⟨ku, S2⟩, h2, h⟩ := Option.bind_eq_some_iff.mp h
  obtain ⟨⟨xu, S3⟩, h3, h⟩ := Option.bind_eq_some_iff.mp h
  simp only at h
  split at h <;> try cases h
  rename_i kus hS3
  obtain ⟨k, hk, h⟩ := Option.bind_eq_some_iff.mp h
  cases h
  obtain ⟨a, ha, rfl⟩ := i1.of_ref
  obtain ⟨a', ha', kvs0, hx0, _⟩ := sr1.get hS
  rw [ha] at ha'; cases ha'
  refine ⟨a, rfl, .inl ⟨kvs0, .inl hx0⟩, m1, ρ, S1, ku, S2, sr1, lr.mono e1, h2, fun m2 v2 H2 e2 sr2 i2 => ⟨m2, ρ, S2, xu, _, sr2, lr.mono (e1.trans e2), h3, fun m3 v3 H3 e3 sr3 i3 => ?_⟩⟩
  obtain ⟨a', ha', kvs, hx, ip⟩ := sr3.get hS3
  rw [(e2.trans e3).get ha] at ha'; cases ha'
  have ek := fW (i2.mono e3) hk
  subst ek
  have rf := IsP.val (k := k) ip
  refine ⟨_, DGet.k hx, post m3 _ H3 ((e1.trans e2).trans e3) sr3 ?_⟩
  cases hv : fG kvs k with
  | none =>
   cases hw : aK kus k with
   | none => exact i3
   | some w => rw [hv, hw] at rf; exact rf.elim
  | some v =>
   cases hw : aK kus k with
   | none => rw [hv, hw] at rf; exact rf.elim
   | some w => rw [hv, hw] at rf; exact rf
 | _ => simp at h
end
noncomputable def ja (n : Nat) (caps : List Nat) (ρ : Rho) : Rho := List.replicate n none ++ caps.map fun i => (ρ[i]?).getD none
open Classical in
noncomputable def eQ (ok : Sto → Prop) (g : CG) (ce : CE) (l : Nat) : List U → Rho → Sto → Option Sto
 | [], _, S => if ok S then some S else none
 | u :: us, ρ, S => if ok S then (g u ρ S).bind fun p => (ce p.1 p.2).bind fun r => match r.2[l]? with
  | some (.lst ys) => if ys.length < LIM then eQ ok g ce l us p.1 (r.2.set l (.lst (ys ++ [r.1]))) else none
  | _ => none else none
noncomputable def ff (ci : CI) (g : CG) (ce : CE) (n : Nat) (caps : List Nat) : CE := fun ρ S => (ci ρ S).bind fun p => (eQ p.2.1 g ce p.2.2.length p.1 (ja n caps ρ) (p.2.2 ++ [.lst []])).bind fun S' => some (.ref p.2.2.length, S')
section
variable {X : Cx} {K : PySem.W.Frag}
theorem qv {m : List Addr} {H : Hp} {ρ : Rho} {σ : L2.St} {n : Nat} {caps : List Nat} (lr : Lr K m H ρ σ) : Lr K m H (ja n caps ρ) (OG.stC n caps σ) := by
 refine ⟨by simp [ja, OG.stC], fun j u e => ?_⟩
 unfold ja at e
 unfold OG.stC
 by_cases c : j < n
 ·rw [List.getElem?_append_left (by simpa using c), List.getElem?_replicate] at e
  split at e <;> cases e
 ·rw [List.getElem?_append_right (by simp; omega), List.getElem?_map] at e ⊢
  simp only [List.length_replicate] at e ⊢
  cases q : caps[j - n]? with
  | none => rw [q] at e; simp at e
  | some i =>
   rw [q] at e
   simp only [Option.map_some, Option.some.injEq] at e ⊢
   have e2 : ρ[i]? = some (some u) := by
    cases z : ρ[i]? with
    | none => rw [z] at e; simp at e
    | some y => rw [z] at e; simp at e; rw [e]
   obtain ⟨v, h1, h2⟩ := lr.at_ i u e2
   exact ⟨v, by rw [h1]; rfl, h2⟩
theorem iU {g : CG} {ce : CE} {n : Nat} {caps : List Nat} {J : It} {us : List U} {ok : Sto → Prop} {Q : VK} {m1 : List Addr} {H1 : Hp} {S1 S' : Sto} {ρ : Rho} {σ : L2.St} {l : Addr} (sr1 : Sr K m1 S1 H1) (lr : Lr K m1 H1 ρ σ) (ito : uC K J m1 H1 us ok) (hl : H1 l = none) (h2 : eQ ok g ce S1.length us (ja n caps ρ) (S1 ++ [.lst []]) = some S')
  (post : ∀ m2 H2, Ext K (m1 ++ [l]) (upd H1 l (.lst [])) m2 H2 → Sr K m2 S' H2 → Q (.ref l) H2) :
  ∃ W : Nat → Nat → L2.St → Hp → Prop, (∃ m, W 0 m (OG.stC n caps σ) (upd H1 l (.lst []))) ∧
 ∀ i m σ' H2, W i m σ' H2 → (J.stop i H2 ∧ Q (.ref l) H2) ∨ (J.go i H2 ∧ ∃ N : L2.St → Hp → Prop, (∀ σ'' H', N σ'' H' → ∃ m', m' < m ∧ W (i + 1) m' σ'' H') ∧
  ∀ x H3, J.yld i H2 x H3 → tG K g x σ' H3 fun σ2 H4 => tE K ce σ2 H4 fun v H5 => ∃ ys, H5 l = some (.lst ys) ∧ ys.length < sizeLine ∧ N σ2 (upd H5 l (.lst (ys ++ [v])))) := by
 have ee : Ext K m1 H1 (m1 ++ [l]) (upd H1 l (.lst [])) := .new (b7 hl _)
 let W : Nat → Nat → L2.St → Hp → Prop := fun i k σ2 H2 => k = us.length - i ∧ i ≤ us.length ∧ ∃ m2 ρ2 S2, Ext K (m1 ++ [l]) (upd H1 l (.lst [])) m2 H2 ∧ Sr K m2 S2 H2 ∧ Lr K m2 H2 ρ2 σ2 ∧ eQ ok g ce S1.length (us.drop i) ρ2 S2 = some S'
 refine ⟨W, ⟨us.length, by simp, Nat.zero_le _, m1 ++ [l], ja n caps ρ, S1 ++ [.lst []], .refl, sr1.new (o := .lst []) hl ⟨[], aP, .nil_⟩, qv (lr.mono ee), by simpa using h2⟩, ?_⟩
 rintro i k σ2 H2 ⟨rfl, hi, m2, ρ2, S2, e2, sr2, lr2, hl2⟩
 by_cases hlt : i < us.length
 ·have hu := List.getElem?_eq_getElem hlt
  rw [iS hu] at hl2
  unfold eQ at hl2
  split at hl2
  ·rename_i hok
   obtain ⟨⟨ρ3, S3⟩, h3, hl2⟩ := Option.bind_eq_some_iff.mp hl2
   obtain ⟨⟨u4, S4⟩, h4, hl2⟩ := Option.bind_eq_some_iff.mp hl2
   simp only at hl2
   split at hl2 <;> try cases hl2
   rename_i ys hys
   split at hl2 <;> try cases hl2
   rename_i fe
   obtain ⟨hgo, hy⟩ := (ito m2 S2 H2 i (ee.trans e2) sr2 hok).1 _ hu
   refine .inr ⟨hgo, W (i + 1) (us.length - (i + 1)), fun σ' H' w' => ⟨_, by omega, w'⟩, fun x H3 y => ?_⟩
   obtain ⟨e3, sr3, ix⟩ := hy x H3 y
   refine ⟨m2, ρ2, S2, _, ρ3, S3, sr3, lr2.mono e3, ix, h3, fun m4 σ4 H4 e4 sr4 lr4 => ⟨m4, ρ3, S3, u4, S4, sr4, lr4, h4, fun m5 v5 H5 e5 sr5 i5 => ?_⟩⟩
   obtain ⟨a', ha', xs, hx, il⟩ := sr5.get hys
   have ha : m5[S1.length]? = some l := (((e2.trans e3).trans e4).trans e5).get (dP sr1.len)
   rw [ha] at ha'; cases ha'
   have eu : Ext K m5 H5 m5 (upd H5 l (.lst (xs ++ [v5]))) := .of (sr5.keep ha _)
   refine ⟨xs, hx, Aw (by rw [il.length]; exact fe), rfl, hlt, m5, ρ3, _, ((((e2.trans e3).trans e4).trans e5).trans eu), sr5.put (o := .lst (ys ++ [u4])) ha ⟨_, aP, (il.append (.cons_ i5 .nil_)).mono eu⟩, (lr4.mono (e5.trans eu)), hl2⟩
  ·cases hl2
 ·have e : i = us.length := by omega
  subst e
  rw [List.drop_length] at hl2
  unfold eQ at hl2
  split at hl2
  ·rename_i hok
   cases hl2
   exact .inl ⟨(ito m2 _ H2 _ (ee.trans e2) sr2 hok).2 (Nat.le_refl _), post m2 H2 e2 sr2⟩
  ·cases hl2
theorem nX {ci : CI} {g : CG} {ce : CE} {n : Nat} {caps : List Nat} : ∀ σ H Q, tE K (ff ci g ce n caps) σ H Q → sx (tI K ci) (tG K g) (tE K ce) n caps σ H Q := by
 rintro σ H Q ⟨m, ρ, S, u, S', sr, lr, hc, post⟩
 obtain ⟨⟨us, ok, S1⟩, h1, h2⟩ := Option.bind_eq_some_iff.mp hc
 obtain ⟨S2, h2, h3⟩ := Option.bind_eq_some_iff.mp h2
 cases h3
 refine ⟨m, ρ, S, us, ok, S1, sr, lr, h1, fun m1 H1 J e1 sr1 ito l hl => ?_⟩
 have ee : Ext K m1 H1 (m1 ++ [l]) (upd H1 l (.lst [])) := .new (b7 hl _)
 exact iU sr1 (lr.mono e1) ito hl h2 fun m2 H2 e2 sr2 => post m2 _ H2 ((e1.trans ee).trans e2) sr2 (.ref_ (e2.get (dP sr1.len)))
theorem uY {Nc capN tn : List Str} {scope : Scope} {cl : List (Str × Addr)} {n : Nat} {caps : List Nat} {tg iter elt : Expr} {pos : Pos} {ci : CI} {g : CG} {ce : CE}
  (hc : X.calm = true) (hi : QI X tg iter ci) (hg : ∀ s3 H3 fp, WG (cxC X Nc scope cl s3 H3 fp) tg (tG X.K g)) (he : ∀ s3 H3 fp, WE (cxC X Nc scope cl s3 H3 fp) elt (tE X.K ce))
  (hclos : closureFor scope X.env = pure cl) (hkind : scope.kind = .function) (hnl : ∀ x ∈ scope.names, x.2 = .local → scope.names.lookup x.1 = some .local) (hcell : ∀ x ∈ scope.names, x.2 ≠ .cell)
  (hcl : mU X.env cl) (hhas : ((relabel scope X.env).names.all fun p => !(p.2 == .cell || p.2 == .free) || (cl.lookup p.1).isSome) = true)
  (hcap : Paired (Cap X scope cl) caps capN) (hN : Nc = tn ++ capN) (hn : tn.length = n)
  (hs : ∀ x, foldedSetIterable iter X.env x = pure x := by intro _; rfl) :
  QE X (.ListComp elt [⟨tg, iter, [], 0⟩] scope pos) (ff ci g ce n caps) := (mY hc hi hg he hclos hkind hnl hcell hcl hhas hcap hN hn hs).imp nX
noncomputable def kW : Fn
 | [.tup us], S => some (.int us.length, S)
 | [.ref l], S => match S[l]? with
  | some (.lst us) => some (.int us.length, S)
  | some (.dic us) => some (.int us.length, S)
  | _ => none
 | [.kl ns], S => some (.int ns.length, S)
 | _, _ => none
noncomputable abbrev CU (K : PySem.W.Frag) : List V → Hp → VK → Prop := fun xs H Q => (∃ p ys, xs = [.ref p] ∧ (SqL K H p ys ∨ SqT K H p ys) ∧ Q (.int ys.length) H) ∨ ∃ a kvs, xs = [V.ref a] ∧ H a = some (.dK kvs) ∧ Q (.int kvs.length) H
theorem kH : eJ X (.builtin "len") (CU X.K) := lE.or rj
theorem IsL.one {m : List Addr} {H : Hp} {vs : List V} {u : U} (h : IsL K m H vs [u]) : ∃ v, vs = [v] ∧ Is K m H v u := by
 obtain ⟨x, r, rfl, i, t⟩ := h.of_cons
 rw [t.of_nil]; exact ⟨x, rfl, i⟩
theorem IsL.two {m : List Addr} {H : Hp} {vs : List V} {u w : U} (h : IsL K m H vs [u, w]) : ∃ v x, vs = [v, x] ∧ Is K m H v u ∧ Is K m H x w := by
 obtain ⟨x, r, rfl, i, t⟩ := h.of_cons
 obtain ⟨y, rfl, j⟩ := t.one
 exact ⟨x, y, rfl, i, j⟩
theorem kE : i0 K (CU K) kW := by
 intro m S H us vs u S' Q sr i hf post
 match us, hf with
 | [.tup ws], hf =>
  cases hf
  obtain ⟨v, rfl, iv⟩ := i.one
  obtain ⟨a, xs, rfl, sa, la⟩ := iv.of_tup
  exact .inl ⟨a, xs, rfl, .inr sa, by rw [la.length]; exact post m _ H .refl sr .int_⟩
 | [.ref l], hf =>
  obtain ⟨v, rfl, iv⟩ := i.one
  obtain ⟨a, ha, rfl⟩ := iv.of_ref
  simp only [kW] at hf
  split at hf <;> try cases hf
  ·rename_i ws hS
   obtain ⟨a', ha', xs, hx, la⟩ := sr.get hS
   rw [ha] at ha'; cases ha'
   exact .inl ⟨a, xs, rfl, .inl (SqL.of hx), by rw [la.length]; exact post m _ H .refl sr .int_⟩
  ·rename_i ws hS
   obtain ⟨a', ha', xs, hx, la⟩ := sr.get hS
   rw [ha] at ha'; cases ha'
   exact .inr ⟨a, xs, rfl, hx, by rw [IsP.length la]; exact post m _ H .refl sr .int_⟩
 | [.kl ns], hf =>
  cases hf
  obtain ⟨v, rfl, iv⟩ := i.one
  obtain ⟨a, rfl, ka⟩ := iv.of_kl
  exact .inl ⟨a, _, rfl, .inl ka.sq, by rw [List.length_map]; exact post m _ H .refl sr .int_⟩
noncomputable def jW : Fn
 | [.tup us], S => some (.ref S.length, S ++ [.lst us])
 | [.ref l], S => match S[l]? with
  | some (.lst us) => some (.ref S.length, S ++ [.lst us])
  | _ => none
 | _, _ => none
theorem u3 : i0 K (fun xs H Q => ∃ p ys, xs = [.ref p] ∧ (SqL K H p ys ∨ SqT K H p ys) ∧ ∀ l, H l = none → Q (.ref l) (upd H l (.lst ys))) jW := by
 intro m S H us vs u S' Q sr i hf post
 match us, hf with
 | [.tup ws], hf =>
  cases hf
  obtain ⟨v, rfl, iv⟩ := i.one
  obtain ⟨a, xs, rfl, sa, la⟩ := iv.of_tup
  exact ⟨a, xs, rfl, .inr sa, fun l hl => eg sr la post hl⟩
 | [.ref l], hf =>
  obtain ⟨v, rfl, iv⟩ := i.one
  obtain ⟨a, ha, rfl⟩ := iv.of_ref
  simp only [jW] at hf
  split at hf <;> try cases hf
  rename_i ws hS
  obtain ⟨a', ha', xs, hx, la⟩ := sr.get hS
  rw [ha] at ha'; cases ha'
  exact ⟨a, xs, rfl, .inl (SqL.of hx), fun l hl => eg sr la post hl⟩
noncomputable def eY : Fn
 | [.tup us], S => some (.tup us, S)
 | [.ref l], S => match S[l]? with
  | some (.lst us) => some (.tup us, S)
  | _ => none
 | _, _ => none
theorem mi : i0 K (fun xs H Q => ∃ p ys, xs = [.ref p] ∧ ((SqL K H p ys ∧ ∀ l, H l = none → Q (.ref l) (upd H l (.tup ys))) ∨ (SqT K H p ys ∧ Q (.ref p) H))) eY := by
 intro m S H us vs u S' Q sr i hf post
 match us, hf with
 | [.tup ws], hf =>
  cases hf
  obtain ⟨v, rfl, iv⟩ := i.one
  obtain ⟨a, xs, rfl, sa, la⟩ := iv.of_tup
  exact ⟨a, xs, rfl, .inr ⟨sa, post m _ H .refl sr iv⟩⟩
 | [.ref l], hf =>
  obtain ⟨v, rfl, iv⟩ := i.one
  obtain ⟨a, ha, rfl⟩ := iv.of_ref
  simp only [eY] at hf
  split at hf <;> try cases hf
  rename_i ws hS
  obtain ⟨a', ha', xs, hx, la⟩ := sr.get hS
  rw [ha] at ha'; cases ha'
  exact ⟨a, xs, rfl, .inl ⟨SqL.of hx, fun l hl => ny sr la post hl⟩⟩
noncomputable def DI : Fn
 | [.int i], S => some (.int i, S)
 | [.bl b], S => some (.int (if b then 1 else 0), S)
 | _, _ => none
noncomputable def vj : Fn
 | [.int i, .int j], S => some (.int (if j < i then j else i), S)
 | _, _ => none
theorem zy : i0 K (fun xs H Q => ∃ i j, xs = [.int i, .int j] ∧ Q (.int (if j < i then j else i)) H) vj := by
 intro m S H us vs u S' Q sr i hf post
 match us, hf with
 | [.int j, .int k], hf =>
  cases hf
  obtain ⟨v, w, rfl, iv, iw⟩ := i.two
  exact ⟨j, k, by rw [iv.of_int, iw.of_int], post m _ H .refl sr .int_⟩
noncomputable def AF : Fn
 | [.int i, .int j], S => some (.int (if j > i then j else i), S)
 | _, _ => none
theorem BZ : i0 K (fun xs H Q => ∃ i j, xs = [.int i, .int j] ∧ Q (.int (if j > i then j else i)) H) AF := by
 intro m S H us vs u S' Q sr i hf post
 match us, hf with
 | [.int j, .int k], hf =>
  cases hf
  obtain ⟨v, w, rfl, iv, iw⟩ := i.two
  exact ⟨j, k, by rw [iv.of_int, iw.of_int], post m _ H .refl sr .int_⟩
noncomputable def ub : List U → Option (List Int)
 | [] => some []
 | .int i :: r => (ub r).map (i :: ·)
 | _ => none
noncomputable def xT : List U → Option (List Bool)
 | [] => some []
 | .bl i :: r => (xT r).map (i :: ·)
 | _ => none
theorem nQ : ∀ {us : List U} {ns : List Int}, ub us = some ns → us = ns.map U.int
 | [], ns, h => by cases h; rfl
 | u :: r, ns, h => by
  cases u <;> simp only [ub] at h <;> try cases h
  obtain ⟨ms, e, h⟩ := Option.map_eq_some_iff.mp h
  subst h
  rw [nQ e]; rfl
theorem rl : ∀ {us : List U} {ns : List Bool}, xT us = some ns → us = ns.map U.bl
 | [], ns, h => by cases h; rfl
 | u :: r, ns, h => by
  cases u <;> simp only [xT] at h <;> try cases h
  obtain ⟨ms, e, h⟩ := Option.map_eq_some_iff.mp h
  subst h
  rw [rl e]; rfl
theorem oe : ∀ (ns : List Bool), xT (ns.map U.bl) = some ns
 | [] => rfl
 | n :: r => by simp [xT, oe r]
theorem IsL.ints {m : List Addr} {H : Hp} : ∀ {xs : List V} {ns : List Int}, IsL K m H xs (ns.map U.int) → xs = ns.map V.int
 | xs, [], h => h.of_nil
 | xs, n :: ns, h => by
  obtain ⟨x, r, rfl, i, t⟩ := h.of_cons
  rw [IsL.ints t, i.of_int]; rfl
theorem IsL.bls {m : List Addr} {H : Hp} : ∀ {xs : List V} {ns : List Bool}, IsL K m H xs (ns.map U.bl) → xs = ns.map V.bl
 | xs, [], h => h.of_nil
 | xs, n :: ns, h => by
  obtain ⟨x, r, rfl, i, t⟩ := h.of_cons
  rw [IsL.bls t, i.of_bl]; rfl
theorem jN {m : List Addr} {H : Hp} : ∀ (ns : List Int), IsL K m H (ns.map V.int) (ns.map U.int)
 | [] => .nil_
 | n :: ns => .cons_ .int_ (jN ns)
inductive Ty where
 | non | bool | int | str | tuple | list | dict
noncomputable def tyU : U → Sto → Option Ty
 | .non, _ => some .non | .bl _, _ => some .bool | .int _, _ => some .int | .str _, _ => some .str | .tup _, _ => some .tuple
 | .ref l, S => match S[l]? with
  | some (.lst _) => some .list
  | some (.dic _) => some .dict
  | _ => none
 | .kl _, _ => none
noncomputable def BE : Ty → Ty → Bool
 | .non, .non => true | .bool, .bool => true | .bool, .int => true | .int, .int => true | .str, .str => true | .tuple, .tuple => true | .list, .list => true | .dict, .dict => true
 | _, _ => false
noncomputable def DK (T : Ty) (ca : CE) : CE := fun ρ S => (ca ρ S).bind fun p => (tyU p.1 p.2).bind fun t => some (.bl (BE t T), p.2)
noncomputable def cBM (f : U → List U → Sto → Option (U × Sto)) (co : CE) (cr : CA) : CE := fun ρ S => (co ρ S).bind fun p => match p.1 with
 | .ref l => match p.2[l]? with
  | some (.lst _) => (cr ρ p.2).bind fun q => f p.1 q.1 q.2
  | _ => none
 | _ => none
noncomputable def MtP (K : PySem.W.Frag) (r : V → List V → Hp → VK → Prop) (f : U → List U → Sto → Option (U × Sto)) : Prop :=
 ∀ m S H x v us vs u S' Q, Sr K m S H → Is K m H v x → IsL K m H vs us → f x us S = some (u, S') → gQ K m H Q u S' → r v vs H Q
theorem vw {r : V → List V → Hp → VK → Prop} {f : U → List U → Sto → Option (U × Sto)} {co : CE} {cr : CA} (hp : MtP K r f) : ∀ σ H Q, tE K (cBM f co cr) σ H Q → tBM K "list" r (tE K co) (tA K cr) σ H Q := by
 rintro σ H Q ⟨m, ρ, S, u, S', sr, lr, hc, post⟩
 obtain ⟨⟨x, S1⟩, h1, h2⟩ := Option.bind_eq_some_iff.mp hc
 refine ⟨m, ρ, S, x, S1, sr, lr, h1, fun m1 v1 H1 e1 sr1 i1 => ?_⟩
 cases x with
 | ref l =>
  simp only at h2
  split at h2 <;> try cases h2
  rename_i ws hS
  obtain ⟨⟨us, S2⟩, h3, h4⟩ := Option.bind_eq_some_iff.mp h2
  obtain ⟨a, ha, rfl⟩ := id i1.of_ref
  obtain ⟨a', ha', xs, hx, la⟩ := sr1.get hS
  rw [ha] at ha'; cases ha'
  exact ⟨.inl ⟨rfl, xs, SqL.of hx⟩, m1, ρ, S1, us, S2, sr1, lr.mono e1, h3, fun m2 vs H2 e2 sr2 i2 => hp m2 S2 H2 _ _ us vs u S' Q sr2 (i1.mono e2) i2 h4 (post.mono (e1.trans e2))⟩
 | _ => simp at h2
noncomputable def eP : U → List U → Sto → Option (U × Sto)
 | .ref l, [u], S => match S[l]? with
  | some (.lst us) => if us.length < LIM then some (.non, S.set l (.lst (us ++ [u]))) else none
  | _ => none
 | _, _, _ => none
theorem tD : MtP K pY eP := by
 intro m S H x v us vs u S' Q sr ix i hf post
 match x, us, hf with
 | .ref l, [w], hf =>
  simp only [eP] at hf
  split at hf <;> try cases hf
  rename_i ws hS
  split at hf <;> try cases hf
  rename_i hl
  obtain ⟨a, ha, rfl⟩ := ix.of_ref
  obtain ⟨a', ha', xs, hx, la⟩ := sr.get hS
  rw [ha] at ha'; cases ha'
  obtain ⟨y, rfl, iy⟩ := i.one
  have eu : Ext K m H m (upd H a (.lst (xs ++ [y]))) := .of (sr.keep ha _)
  exact ⟨a, xs, y, rfl, rfl, hx, Aw (by rw [la.length]; exact hl), post m _ _ eu (sr.put ha ⟨_, aP, (la.append (.cons_ iy .nil_)).mono eu⟩) .non_⟩
variable {e : Expr} {es : List Expr} {co : CE} {cr : CA} {o : Expr} {apos cpos : Pos}
theorem ic (ho : QE X o co) (ha : QA X (e :: es) cr) (hbase : attributeBase o "append" X.env (eval o X.env) = eval o X.env := by rfl) (hfew : ((backTo cpos (starEach (e :: es) X.env)).all (fun x => !x.1) && (backToKw cpos (keywordEach [] X.env)).all (fun x => x.1.isSome)
   && decide ((e :: es).length + ([] : List Keyword).length + (if ([] : List Keyword).isEmpty then 0 else 1) < 30)) = true := by rfl) (hline : (apos.endLine == cpos.line) = true := by rfl) (hs : starEach (e :: es) X.env = (false, eval e X.env) :: starEach es X.env := by rfl) (hplain : (backTo cpos (starEach es X.env)).any (·.1) = false := by rfl) :
  QE X (.Call (.Attribute o "append" apos) (e :: es) [] cpos) (cBM eP co cr) := (uK PySem.F.plainAttrs_list PySem.F.slot_list_append PySem.F.type_list_append iJ ho ha.h hbase hfew hline hs hplain).imp (vw tD)
end
noncomputable def Cu : CS := fun ρ S => some (.bk, ρ, S)
structure TC (K : PySem.W.Frag) (c : Cl) (NS : List Str) : Prop where
 cl : Cls K c.C
 ns : c.ns = NS
 nas : ∀ f ∈ NS, fT K c.C f
section
variable {K : PySem.W.Frag} {c : Cl} {NS : List Str}
theorem TC.ix (T : TC K c NS) {i : Nat} {f : Str} (h : NS[i]? = some f) : c.ns[i]? = some f := by rw [T.ns]; exact h
theorem TC.na (T : TC K c NS) (i : Nat) {f : Str} (h : NS[i]? = some f) : fT K c.C f := T.nas f (List.mem_of_getElem? h)
theorem TC.nm (T : TC K c NS) {f : Str} (h : f ∉ NS) : f ∉ c.ns := by rw [T.ns]; exact h
end
theorem _root_.L2.Fun.pure {P : Program} {w : World} {K : PySem.W.Frag} {mg : Str → Option Value} {base : Heap} {x qual : Str} {st : Stmt} {f : Addr} {fd : FuncData} {N ps : List Str} {k : Nat} {c : CS} (F : Fun K x qual st f fd) (S : aW N ps (aq st))
  (hb : ∀ (cdv : Value) (A : Around) (outer : List Env) (s : Shared) (H : Hp) (E : XK), fh k (A.deeper (envOfC qual (aq st) s.heap.objs.size f cdv)) →
   WSs (oW CX0 P w K mg base N qual (aq st) f cdv A outer s H E).nox (aQ st) (tS K c)) : iA P w K mg base CX0 (k + 1) f fd ps (sy K (fnU N.length ps.length c)) :=
 Fun.okW F S (fun vs H Q E h => nh h) fun cdv A outer s H vs Q E hr h => ⟨_, hb cdv A outer s H E hr, qR (X := (oW CX0 P w K mg base N qual (aq st) f cdv A outer s H E).nox) (body := []) (ps := ps) rfl h⟩
section
variable {X : Cx} {pos : Pos}
noncomputable def iG : List (CE × CE) → Rho → Sto → Option (List (Key × U) × Sto)
 | [], _, S => some ([], S)
 | (ck, cv) :: r, ρ, S => (ck ρ S).bind fun p => (cv ρ p.2).bind fun q => (gK p.1).bind fun k => (iG r ρ q.2).bind fun z => some ((k, q.1) :: z.1, z.2)
noncomputable def zK (kus : List (Key × U)) (au : List (Key × U)) : List (Key × U) := kus.foldl (fun acc kv => dj acc kv.1 kv.2) au
noncomputable def qr (kus : List (Key × U)) : List (Key × U) := zK kus []
noncomputable def Ai (prs : List (CE × CE)) : CE := fun ρ S => (iG prs ρ (S ++ [.dic []])).bind fun q => match q.2[S.length]? with
 | some (.dic []) => some (.ref S.length, q.2.set S.length (.dic (qr q.1)))
 | _ => none
end
theorem kN : ∀ {vs : List Value} {ns : List Int}, IntsAre vs ns → bR (ns.map V.int) vs
 | _, _, .nil => .nil
 | _, _, .cons n t r => .cons ⟨t, rfl⟩ (kN r)
theorem fi : ∀ {ns : List Int} {vs : List Value}, bR (ns.map V.int) vs → IntsAre vs ns
 | [], _, h => by cases h; exact .nil
 | n :: ns, _, .cons r t => by
  obtain ⟨k, rfl⟩ := r
  exact .cons n k (fi t)
noncomputable def pX (K : PySem.W.Frag) : List V → Hp → VK → Prop := fun xs H Q => ∃ (p : Addr) (ns : List Int), xs = [.ref p] ∧ (SqL K H p (ns.map V.int) ∨ ∃ kvs, H p = some (.dK kvs) ∧ kvs.map (·.1) = ns.map Sum.inl) ∧ ns.length < 64 ∧
 ∀ (l : Addr) (ms : List Int), H l = none → ms.Perm ns → ms.Pairwise (· ≤ ·) → Q (.ref l) (upd H l (.lst (ms.map V.int)))
theorem mv {κ : Type} : ∀ {kvs : List (κ × V)} {vs : List (κ × Value)}, KV kvs vs → vs.map (·.1) = kvs.map (·.1)
 | _, _, .nil => rfl
 | _, _, .cons r t => by rw [List.map_cons, List.map_cons, mv t, r.1]
theorem qu {P : Program} {w : World} {H : Hp} {h : Heap} {a : Addr} {ms : List Int} {out : Array Value} {e : Nat} (g : h.get? a = some (seqObj "list" out e)) (hI : IntsAre out.toList ms) (hl : ms.length < 64) : dG P w H h a (.lst (ms.map V.int)) :=
 ⟨by rw [List.length_map]; exact Nat.le_of_lt (Nat.lt_of_lt_of_le hl (by unfold sizeLine; decide)), out.toList, e, kN hI, by rw [Array.toArray_toList]; exact g⟩
theorem tF {X : Cx} (hc : X.calm = true) : eJ X (.builtin "sorted") (pX X.K) := by
 rintro pins s σ H xs us Q I r ⟨p, ns, rfl, src, h64, q⟩
 obtain ⟨u, rfl, ru⟩ := lY r
 cases ru
 rcases src with hL | ⟨kvs, hD, hk⟩
 ·obtain ⟨its, rv, pl, hz⟩ := I.list hL
  have hI := fi rv
  have fe := rv.length
  rw [List.length_map] at fe
  refine sorted_ints pl.isList hI (by omega) fun out ms a1 a2 a3 => ?_
  obtain ⟨e, ge⟩ := sortedAll_at s.heap its out
  have hf := I.hok.fresh (Nat.le_succ s.heap.objs.size)
  exact ⟨.ref (s.heap.objs.size + 1), _, I.laid (t' := s.toks) (fun b o e => sortedAll_old e) (Nat.le_succ _) (qu ge a1 (by rw [a2.length_eq]; exact h64)), rfl, q _ ms hf a2 a3⟩
 ·obtain ⟨z, hd, vs, rel, dd⟩ := mI I.hok hD
  obtain ⟨ep, da⟩ := dd.dictAt
  have lkv : kvs.length = ns.length := by have := congrArg List.length hk; simpa using this
  have lv : vs.length = ns.length := by rw [← Paired.length rel]; exact lkv
  have ks : vs.map (·.1) = ns.map Sum.inl := by
   rw [← hk]; exact mv rel
  refine Calls.call_function_entry kind_sorted plain_sorted entry_sorted (args_sorted1 _) ?_
  unfold Builtin.«sorted»
  refine wpAny_bind (m := checkCount "sorted" 1 1 _) (wpAny_pure (wpAny_bind (PySem.W.kdu_collect (PySem.W.kdl_dict (kvs := vs) (ep := ep) hd) (show X.A.in1.handled = none from I.ok.hd hc) da (by rw [lv, ← lkv]; exact z) fun h1 tk acc up hac => ?_)))
  have hla : acc.toList.length = ns.length := by rw [Array.length_toList, hac.1, lv]
  have hI : IntsAre acc.toList ns := by
   have key : ∀ (i : Nat) (v : Value), acc.toList[i]? = some v → ∃ (n : Int) (t : Tok), ns[i]? = some n ∧ v = Value.int n t := fun i v e => by
    obtain ⟨k, x, e1, e2⟩ := hac.2 i v (by rw [← Array.getElem?_toList]; exact e)
    have e3 : (vs.map (·.1))[i]? = some k := by rw [List.getElem?_map, e1]; rfl
    rw [ks, List.getElem?_map] at e3
    obtain ⟨n, e4, e5⟩ := Option.map_eq_some_iff.mp e3
    subst e5
    rcases aZ (k := Sum.inl n) e2 with ⟨j, t, e6, e7⟩ | ⟨j, t, e6, e7⟩
    ·cases e6; exact ⟨n, t, e4, e7⟩
    ·cases e6
   clear hac
   generalize acc.toList = L at key hla
   clear ks lv lkv h64 q hk
   induction L generalizing ns with
   | nil => cases ns with
    | nil => exact .nil
    | cons a b => simp at hla
   | cons a b ih => cases ns with
    | nil => simp at hla
    | cons c d =>
     obtain ⟨n, t, e1, e2⟩ := key 0 a (by simp)
     simp at e1; subst e1; subst e2
     exact .cons _ t (ih _ (fun i v e => by have := key (i + 1) v (by simpa using e); simpa using this) (by simpa using hla))
  refine wpAny_bind (wpAny_newList ?_ (by rw [hla, ← lkv]; exact z))
  have gL : (h1.push { cls := .type "list", data := .seq acc.toList.toArray }).get? h1.objs.size = some (seqObj "list" acc.toList.toArray 0) := Heap.get?_push_size _ rfl
  refine wpAny_bind (wpAny_holding (wpAny_call_entry slot_list_sort ⟨_, gL, rfl⟩ entry_list_sort (list_sort_tree (s := { s with heap := h1.push { cls := .type "list", data := .seq acc.toList.toArray }, toks := tk }) gL hI (by omega) fun out ms a1 a2 a3 => ⟨_, rfl, ?_⟩) (args_list_sort _)))
  obtain ⟨e, ge⟩ := sortedHeap_at (out := out) gL
  have I1 : Inv X pins σ H { s with heap := h1, toks := tk } := I.kept up
  have hf := I1.hok.fresh (Nat.le_refl h1.objs.size)
  refine wpAny_pure ⟨_, rfl, .ref h1.objs.size, _, Inv.laid (s := { s with heap := h1, toks := tk }) (h' := sortedHeap (h1.push { cls := .type "list", data := .seq acc.toList.toArray }) h1.objs.size acc.toList out) (t' := tk) I1 (fun b o g1 => ?_) (Nat.le_refl _) (qu ge a1 (by rw [a2.length_eq]; exact h64)), rfl, q _ ms hf a2 a3⟩
  have g1 : h1.get? b = some o := g1
  have lt1 := Heap.lt_size g1
  rw [sortedHeap_old (Nat.ne_of_lt lt1) (by rw [Heap.size_push]; exact Nat.lt_succ_of_lt lt1)]
  exact Heap.get?_push_of_some _ g1
noncomputable def gk (ns : List Int) : List Int := ns.mergeSort (fun a b => decide (a ≤ b))
theorem cT (ns : List Int) : (gk ns).Perm ns := List.mergeSort_perm ..
theorem kr (ns : List Int) : (gk ns).Pairwise (· ≤ ·) := by
 have := List.pairwise_mergeSort (le := fun (a b : Int) => decide (a ≤ b)) (fun a b c h1 h2 => by simp at h1 h2 ⊢; omega) (fun a b => by simp; omega) ns
 exact this.imp fun h => by simpa using h
theorem nj {ns ms : List Int} (p : ms.Perm ns) (s : ms.Pairwise (· ≤ ·)) : ms = gk ns := PySem.W.lks_uniq (p.trans (cT ns).symm) s (kr ns)
noncomputable def oI : List (Key × U) → Option (List Int)
 | [] => some []
 | (.inl n, _) :: r => (oI r).map (n :: ·)
 | _ => none
theorem nI : ∀ {kus : List (Key × U)} {ns : List Int}, oI kus = some ns → kus.map (·.1) = ns.map Sum.inl
 | [], ns, h => by cases h; rfl
 | (k, u) :: r, ns, h => by
  cases k <;> simp only [oI] at h <;> try cases h
  obtain ⟨ms, e, h⟩ := Option.map_eq_some_iff.mp h
  subst h
  simp [nI e]
noncomputable def iP : Fn
 | [.ref l], S => match S[l]? with
  | some (.lst us) => (ub us).bind fun ns => if ns.length < 64 then some (.ref S.length, S ++ [.lst ((gk ns).map U.int)]) else none
  | some (.dic kus) => (oI kus).bind fun ns => if ns.length < 64 then some (.ref S.length, S ++ [.lst ((gk ns).map U.int)]) else none
  | _ => none
 | _, _ => none
theorem sZ {K : PySem.W.Frag} : i0 K (pX K) iP := by
 intro m S H us vs u S' Q sr i hf post
 match us, hf with
 | [.ref l], hf =>
  obtain ⟨v, rfl, iv⟩ := i.one
  obtain ⟨a, ha, rfl⟩ := iv.of_ref
  simp only [iP] at hf
  split at hf <;> try cases hf
  ·rename_i ws hS
   obtain ⟨ns, hn, h⟩ := Option.bind_eq_some_iff.mp hf
   split at h <;> try cases h
   have hc : ns.length < 64 := by assumption
   obtain ⟨a', ha', xs, hx, la⟩ := sr.get hS
   rw [ha] at ha'; cases ha'
   rw [nQ hn] at la
   rw [la.ints] at hx
   refine ⟨a, ns, rfl, .inl (SqL.of hx), hc, fun p ms hp pm sm => ?_⟩
   rw [nj pm sm]
   exact eg sr (jN _) post hp
  ·rename_i ws hS
   obtain ⟨ns, hn, h⟩ := Option.bind_eq_some_iff.mp hf
   split at h <;> try cases h
   have hc : ns.length < 64 := by assumption
   obtain ⟨a', ha', kvs, hx, ip⟩ := sr.get hS
   rw [ha] at ha'; cases ha'
   refine ⟨a, ns, rfl, .inr ⟨kvs, hx, by rw [ip.1, nI hn]⟩, hc, fun p ms hp pm sm => ?_⟩
   rw [nj pm sm]
   exact eg sr (jN _) post hp
section
variable {ρ : Rho} {S : Sto} {c1 c2 : CS} {t ta tb : CT} {ca cb cc : CE} {cr : CA} {u x y : U} {us : List U} {i l : Nat} {f g : U → U → Sto → Option (U × Sto)} {b : Bool}
noncomputable def CY (S : Sto) : Option (Option U) → Option (U × Sto)
 | some (some u) => some (u, S)
 | _ => none
theorem vy : ah i ρ S = CY S (ρ[i]?) := rfl
theorem oX : CY S (some (some u)) = some (u, S) := rfl
theorem x_c : cC u ρ S = some (u, S) := rfl
noncomputable def Cc (f : U → U → Sto → Option (U × Sto)) (x : U) (q : U × Sto) := f x q.1 q.2
noncomputable def C3 (f : U → U → Sto → Option (U × Sto)) (cb : CE) (ρ : Rho) (p : U × Sto) := (cb ρ p.2).bind (Cc f p.1)
theorem AY : cOp f ca cb ρ S = (ca ρ S).bind (C3 f cb ρ) := rfl
theorem vB : C3 f cb ρ (x, S) = (cb ρ S).bind (Cc f x) := rfl
theorem vA : Cc f x (y, S) = f x y S := rfl
noncomputable def zR : U × Sto → Option (Bool × Sto)
 | (.bl b, S) => some (b, S)
 | _ => none
theorem oY : bI ca ρ S = (ca ρ S).bind zR := by
 unfold bI; congr 1; funext p; obtain ⟨u, S⟩ := p; cases u <;> rfl
theorem lR : zR (.bl b, S) = some (b, S) := rfl
noncomputable def Cn (tb : CT) (ρ : Rho) (p : Bool × Sto) := if p.1 = true then tb ρ p.2 else some (false, p.2)
noncomputable def kOr (tb : CT) (ρ : Rho) (p : Bool × Sto) := if p.1 = true then some (true, p.2) else tb ρ p.2
noncomputable def C4 (p : Bool × Sto) : Option (Bool × Sto) := some (!p.1, p.2)
theorem BB : Cv ta tb ρ S = (ta ρ S).bind (Cn tb ρ) := rfl
theorem yB : Cn tb ρ (true, S) = tb ρ S := rfl
theorem yA : Cn tb ρ (false, S) = some (false, S) := rfl
theorem Dp : cOr ta tb ρ S = (ta ρ S).bind (kOr tb ρ) := rfl
theorem AX : kOr tb ρ (true, S) = some (true, S) := rfl
theorem AW : kOr tb ρ (false, S) = tb ρ S := rfl
theorem A0 : Ah ta ρ S = (ta ρ S).bind C4 := rfl
theorem yh : C4 (b, S) = some (!b, S) := rfl
noncomputable def xp (cb : CE) (ρ : Rho) : U × Sto → Option (U × Sto)
 | (.bl true, S) => cb ρ S
 | (.bl false, S) => some (.bl false, S)
 | _ => none
noncomputable def Cb (cb : CE) (ρ : Rho) : U × Sto → Option (U × Sto)
 | (.bl false, S) => cb ρ S
 | (.bl true, S) => some (.bl true, S)
 | _ => none
noncomputable def zU : U × Sto → Option (U × Sto)
 | (.bl b, S) => some (.bl (!b), S)
 | _ => none
theorem yz : Aj ca cb ρ S = (ca ρ S).bind (xp cb ρ) := by
 unfold Aj; congr 1; funext p; obtain ⟨u, S⟩ := p; cases u with
 | bl b => cases b <;> rfl
 | _ => rfl
theorem vQ : xp cb ρ (.bl true, S) = cb ρ S := rfl
theorem vP : xp cb ρ (.bl false, S) = some (.bl false, S) := rfl
theorem AV : AJ ca cb ρ S = (ca ρ S).bind (Cb cb ρ) := by
 unfold AJ; congr 1; funext p; obtain ⟨u, S⟩ := p; cases u with
 | bl b => cases b <;> rfl
 | _ => rfl
theorem yf : Cb cb ρ (.bl false, S) = cb ρ S := rfl
theorem ye : Cb cb ρ (.bl true, S) = some (.bl true, S) := rfl
theorem yg : Ag ca ρ S = (ca ρ S).bind zU := by
 unfold Ag; congr 1; funext p; obtain ⟨u, S⟩ := p; cases u <;> rfl
theorem vC : zU (.bl b, S) = some (.bl (!b), S) := rfl
noncomputable def qH (u : U) (q : List U × Sto) : Option (List U × Sto) := some (u :: q.1, q.2)
noncomputable def vd (cr : CA) (ρ : Rho) (p : U × Sto) := (cr ρ p.2).bind (qH p.1)
theorem lS : aG ρ S = some ([], S) := rfl
theorem gi : af ca cr ρ S = (ca ρ S).bind (vd cr ρ) := rfl
theorem eM : vd cr ρ (u, S) = (cr ρ S).bind (qH u) := rfl
theorem eK : qH u (us, S) = some (u :: us, S) := rfl
noncomputable def CZ (p : List U × Sto) : Option (U × Sto) := some (.tup p.1, p.2)
noncomputable def C5 (p : List U × Sto) : Option (U × Sto) := some (.ref p.2.length, p.2 ++ [.lst p.1])
theorem xX : mN cr ρ S = (cr ρ S).bind CZ := rfl
theorem uD : CZ (us, S) = some (.tup us, S) := rfl
theorem A6 : lF cr ρ S = (cr ρ S).bind C5 := rfl
theorem yj : C5 (us, S) = some (.ref S.length, S ++ [.lst us]) := rfl
noncomputable def kCB (f : Fn) (p : List U × Sto) := f p.1 p.2
theorem Bv {f : Fn} : cCB f cr ρ S = (cr ρ S).bind (kCB f) := rfl
theorem vO {f : Fn} : kCB f (us, S) = f us S := rfl
noncomputable def C6 (T : Ty) (p : U × Sto) : Option (U × Sto) := (tyU p.1 p.2).bind fun t => some (.bl (BE t T), p.2)
theorem Bd {T : Ty} : DK T ca ρ S = (ca ρ S).bind (C6 T) := rfl
theorem yq {T : Ty} : C6 T (u, S) = (tyU u S).bind fun t => some (.bl (BE t T), S) := rfl
noncomputable def zS (c2 : CS) : Out × Rho × Sto → Option (Out × Rho × Sto)
 | (.nx, ρ, S) => c2 ρ S
 | (o, ρ, S) => some (o, ρ, S)
theorem uE : dm ρ S = some (.nx, ρ, S) := rfl
theorem rQ : aV c1 c2 ρ S = (c1 ρ S).bind (zS c2) := by
 unfold aV; congr 1; funext p; obtain ⟨o, ρ, S⟩ := p; cases o <;> rfl
theorem mV : zS c2 (.nx, ρ, S) = c2 ρ S := rfl
theorem yc : zS c2 (.rt u, ρ, S) = some (.rt u, ρ, S) := rfl
theorem yb : zS c2 (.bk, ρ, S) = some (.bk, ρ, S) := rfl
theorem ya : zS c2 (.ct, ρ, S) = some (.ct, ρ, S) := rfl
noncomputable def zW (ρ : Rho) (p : U × Sto) : Option (Out × Rho × Sto) := some (.nx, ρ, p.2)
noncomputable def C2 (ρ : Rho) (p : U × Sto) : Option (Out × Rho × Sto) := some (.rt p.1, ρ, p.2)
theorem yu : iV ca ρ S = (ca ρ S).bind (zW ρ) := rfl
theorem vL : zW ρ (u, S) = some (.nx, ρ, S) := rfl
theorem AU : eU ca ρ S = (ca ρ S).bind (C2 ρ) := rfl
theorem yd : C2 ρ (u, S) = some (.rt u, ρ, S) := rfl
noncomputable def Cd (c1 c2 : CS) (ρ : Rho) (p : Bool × Sto) := if p.1 = true then c1 ρ p.2 else c2 ρ p.2
theorem vK : gh t c1 c2 ρ S = (t ρ S).bind (Cd c1 c2 ρ) := rfl
theorem pd : Cd c1 c2 ρ (true, S) = c1 ρ S := rfl
theorem o9 : Cd c1 c2 ρ (false, S) = c2 ρ S := rfl
noncomputable def kIf (ca cb : CE) (ρ : Rho) (p : Bool × Sto) := if p.1 = true then ca ρ p.2 else cb ρ p.2
theorem Dr : cIf t ca cb ρ S = (t ρ S).bind (kIf ca cb ρ) := rfl
theorem Bh : kIf ca cb ρ (true, S) = ca ρ S := rfl
theorem Bg : kIf ca cb ρ (false, S) = cb ρ S := rfl
noncomputable def C0 (i : Nat) (ρ : Rho) (p : U × Sto) : Option (Out × Rho × Sto) := some (.nx, ρ.set i (some p.1), p.2)
theorem oZ : dc i ca ρ S = (ca ρ S).bind (C0 i ρ) := rfl
theorem j8 : C0 i ρ (u, S) = some (.nx, ρ.set i (some u), S) := rfl
noncomputable def xo (q : Rho × Sto) : Option (Out × Rho × Sto) := some (.nx, q.1, q.2)
noncomputable def C7 (g : CG) (ρ : Rho) (p : U × Sto) := (g p.1 ρ p.2).bind xo
theorem Bz {g : CG} : xI ca g ρ S = (ca ρ S).bind (C7 g ρ) := rfl
theorem yy {g : CG} : C7 g ρ (u, S) = (g u ρ S).bind xo := rfl
theorem yx : xo (ρ, S) = some (.nx, ρ, S) := rfl
theorem Bj : gNm i u ρ S = some (ρ.set i (some u), S) := rfl
theorem Bi {is : List Nat} : gTp is (.tup us) ρ S = (eW is us ρ).bind fun ρ' => some (ρ', S) := rfl
theorem yD : eW [] [] ρ = some ρ := rfl
theorem yC {is : List Nat} : eW (i :: is) (u :: us) ρ = eW is us (ρ.set i (some u)) := rfl
noncomputable def zT (ρ : Rho) (S' : Sto) : Option (Out × Rho × Sto) := some (.nx, ρ, S')
noncomputable def B9 (o v : U) (ρ : Rho) (r : U × Sto) := (iQ o r.1 v r.2).bind (zT ρ)
noncomputable def Ca (ci : CE) (v : U) (ρ : Rho) (q : U × Sto) := (ci ρ q.2).bind (B9 q.1 v ρ)
noncomputable def kSI (co ci : CE) (ρ : Rho) (p : U × Sto) := (co ρ p.2).bind (Ca ci p.1 ρ)
theorem CD : dM ca cb cc ρ S = (cc ρ S).bind (kSI ca cb ρ) := rfl
theorem x8 : kSI ca cb ρ (u, S) = (ca ρ S).bind (Ca cb u ρ) := rfl
theorem x6 : Ca cb y ρ (u, S) = (cb ρ S).bind (B9 u y ρ) := rfl
theorem x5 : B9 x y ρ (u, S) = (iQ x u y S).bind (zT ρ) := rfl
theorem x4 : zT ρ S = some (.nx, ρ, S) := rfl
noncomputable def kIx (y : U) (S : Sto) : Option O → Option (U × Sto)
 | some (.lst us) => (match y with
   | .int i => (atI us i).bind fun u => some (u, S)
   | _ => none)
 | some (.dic kus) => (gK y).bind fun k => (aK kus k).bind fun u => some (u, S)
 | some (.fdc _ kus) => (gK y).bind fun k => (aK kus k).bind fun u => some (u, S)
 | _ => none
theorem A7 {j : Int} : fIx (.tup us) (.int j) S = (atI us j).bind fun u => some (u, S) := rfl
theorem A8 : fIx (.ref l) y S = kIx y S S[l]? := by
 unfold fIx kIx; dsimp only <;> (generalize S[l]? = q; rcases q with _ | o <;> first | rfl | (cases o <;> rfl))
theorem A9 {j : Int} : kIx (.int j) S (some (.lst us)) = (atI us j).bind fun u => some (u, S) := rfl
theorem Bb {ep : Nat} {kus : List (Key × U)} : kIx y S (some (.fdc ep kus)) = (gK y).bind fun k => (aK kus k).bind fun u => some (u, S) := rfl
theorem Bc {kus : List (Key × U)} : kIx y S (some (.dic kus)) = (gK y).bind fun k => (aK kus k).bind fun u => some (u, S) := rfl
noncomputable def Ax (l : Nat) (i v : U) (S : Sto) : Option O → Option Sto
 | some (.lst us) => (match i with
   | .int k => (ixN us.length k).bind fun j => some (S.set l (.lst (us.set j v)))
   | _ => none)
 | some (.dic kus) => (gK i).bind fun k => if kus.length < LIM then some (S.set l (.dic (dj kus k v))) else none
 | _ => none
theorem xZ : iQ (.ref l) x y S = Ax l x y S S[l]? := by
 unfold iQ Ax; dsimp only <;> (generalize S[l]? = q; rcases q with _ | o <;> first | rfl | (cases o <;> rfl))
theorem xY {j : Int} : Ax l (.int j) y S (some (.lst us)) = (ixN us.length j).bind fun j => some (S.set l (.lst (us.set j y))) := rfl
theorem uF {kus : List (Key × U)} : Ax l x y S (some (.dic kus)) = (gK x).bind fun k => if kus.length < LIM then some (S.set l (.dic (dj kus k y))) else none := rfl
theorem at0 {α : Type} {a : α} {r : List α} : atI (a :: r) 0 = some a := by show atI _ ((0 : Nat) : Int) = _; exact fB rfl
theorem at1 {α : Type} {a b : α} {r : List α} : atI (a :: b :: r) 1 = some b := by show atI _ ((1 : Nat) : Int) = _; exact fB rfl
theorem at2 {α : Type} {a b c : α} {r : List α} : atI (a :: b :: c :: r) 2 = some c := by show atI _ ((2 : Nat) : Int) = _; exact fB rfl
theorem at3 {α : Type} {a b c d : α} {r : List α} : atI (a :: b :: c :: d :: r) 3 = some d := by show atI _ ((3 : Nat) : Int) = _; exact fB rfl
theorem ix0 {n : Nat} : ixN (n + 1) 0 = some 0 := by simp [ixN]
theorem ix1 {n : Nat} : ixN (n + 1 + 1) 1 = some 1 := by simp [ixN]; omega
theorem ix2 {n : Nat} : ixN (n + 1 + 1 + 1) 2 = some 2 := by simp [ixN]; omega
noncomputable def AA (S : Sto) : Option O → Option (U × Sto)
 | some (.lst us) => some (.int us.length, S)
 | some (.dic us) => some (.int us.length, S)
 | _ => none
theorem yl : kW [.ref l] S = AA S S[l]? := by
 unfold kW AA; dsimp only <;> (generalize S[l]? = q; rcases q with _ | o <;> first | rfl | (cases o <;> rfl))
theorem ym : AA S (some (.lst us)) = some (.int us.length, S) := rfl
theorem yn {kus : List (Key × U)} : AA S (some (.dic kus)) = some (.int kus.length, S) := rfl
theorem yk : kW [.tup us] S = some (.int us.length, S) := rfl
variable {j k : Int}
theorem vR : jb (.int j) (.int k) S = some (.int (j + k), S) := rfl
theorem AO : xS (.int j) (.int k) S = some (.int (j - k), S) := rfl
theorem lU (h : rH j k) : jU (.int j) (.int k) S = some (.int (j * k), S) := by simp [jU, fI, h]
theorem yv (h : oU j k) : vl (.int j) (.int k) S = some (.int (j / k), S) := by simp [vl, fI, h]
theorem o7 (h : 0 < k) : lQ (.int j) (.int k) S = some (.int (j % k), S) := by simp [lQ, fI, h]
theorem A5 : fLt (.int j) (.int k) S = some (.bl (decide (j < k)), S) := rfl
theorem Dq : fLe (.int j) (.int k) S = some (.bl (decide (j ≤ k)), S) := rfl
theorem Ds : fGt (.int j) (.int k) S = some (.bl (decide (k < j)), S) := rfl
theorem Du : fGe (.int j) (.int k) S = some (.bl (decide (k ≤ j)), S) := rfl
theorem Bo : fEq (.int j) (.int k) S = some (.bl (decide (j = k)), S) := rfl
theorem A3 : fNe (.int j) (.int k) S = some (.bl (!decide (j = k)), S) := rfl
theorem Bn {a c : Str} : fEq (.str a) (.str c) S = some (.bl (decide (a = c)), S) := rfl
theorem A2 {a c : Str} : fNe (.str a) (.str c) S = some (.bl (!decide (a = c)), S) := rfl
theorem Bp {a c : Bool} : fEq (.bl a) (.bl c) S = some (.bl (decide (a = c)), S) := rfl
theorem A4 {a c : Bool} : fNe (.bl a) (.bl c) S = some (.bl (!decide (a = c)), S) := rfl
noncomputable def kFn : Out × Rho × Sto → Option (U × Sto)
 | (.rt u, _, S) => some (u, S)
 | (.nx, _, S) => some (.non, S)
 | _ => none
theorem jH {n k : Nat} (h : us.length = k) : fnU n k c1 us S = (c1 (kq n us) S).bind kFn := by
 unfold fnU; rw [if_pos h]; congr 1; funext p; obtain ⟨o, ρ, S⟩ := p; cases o <;> rfl
theorem Bl : kFn (.rt u, ρ, S) = some (u, S) := rfl
theorem Bk : kFn (.nx, ρ, S) = some (.non, S) := rfl
end
section
variable {ρ : Rho} {S : Sto} {c1 c2 : CS} {t ta tb : CT} {ca cb cc : CE} {cr : CA} {u x y : U} {us : List U} {i l : Nat} {b : Bool} {c : Cl} {fus : List (Option U)} {g : Fn}
open Classical in
noncomputable def t7 (c : Cl) (i : Nat) (S : Sto) : Option O → Option (U × Sto)
 | some (.ins c' fus) => if c' = c then (fus[i]?).join.bind fun u => some (u, S) else none
 | _ => none
noncomputable def xn (c : Cl) (i : Nat) (p : U × Sto) := Ab c i p.1 p.2
theorem Bm : bY c i ca ρ S = (ca ρ S).bind (xn c i) := rfl
theorem uI : xn c i (.ref l, S) = t7 c i S S[l]? := by
 unfold xn Ab t7; dsimp only <;> (generalize S[l]? = q; rcases q with _ | o <;> first | rfl | (cases o <;> rfl))
theorem uH : t7 c i S (some (.ins c fus)) = ((fus[i]?).join).bind fun u => some (u, S) := by
 unfold t7; dsimp only; rw [if_pos rfl]
open Classical in
noncomputable def Ay (c : Cl) (i l : Nat) (v : U) (S : Sto) : Option O → Option Sto
 | some (.ins c' fus) => if c' = c then some (S.set l (.ins c (fus.set i (some v)))) else none
 | _ => none
noncomputable def Az (c : Cl) (i : Nat) (v : U) (ρ : Rho) (q : U × Sto) := (qU c i q.1 v q.2).bind (zT ρ)
noncomputable def C1 (c : Cl) (i : Nat) (ca : CE) (ρ : Rho) (p : U × Sto) := (ca ρ p.2).bind (Az c i p.1 ρ)
theorem Dh : eT c i ca cb ρ S = (cb ρ S).bind (C1 c i ca ρ) := rfl
theorem AS : C1 c i ca ρ (u, S) = (ca ρ S).bind (Az c i u ρ) := rfl
theorem AR : Az c i u ρ (.ref l, S) = (Ay c i l u S S[l]?).bind (zT ρ) := by
 unfold Az qU Ay; dsimp only <;> (generalize S[l]? = q; rcases q with _ | o <;> first | rfl | (cases o <;> rfl))
theorem AQ : Ay c i l u S (some (.ins c fus)) = some (S.set l (.ins c (fus.set i (some u)))) := by
 unfold Ay; dsimp only; rw [if_pos rfl]
noncomputable def qG (g : Fn) (l : Nat) (q : List U × Sto) := g (.ref l :: q.1) q.2
open Classical in
noncomputable def nM (c : Cl) (g : Fn) (cr : CA) (ρ : Rho) (l : Nat) (S : Sto) : Option O → Option (U × Sto)
 | some (.ins c' _) => if c' = c then (cr ρ S).bind (qG g l) else none
 | _ => none
noncomputable def xm (c : Cl) (g : Fn) (cr : CA) (ρ : Rho) (p : U × Sto) := qV c g p.1 p.2 (cr ρ)
theorem yi : cD c g ca cr ρ S = (ca ρ S).bind (xm c g cr ρ) := rfl
theorem vF : xm c g cr ρ (.ref l, S) = nM c g cr ρ l S S[l]? := by
 unfold xm qV nM; dsimp only <;> (generalize S[l]? = q; rcases q with _ | o <;> first | rfl | (cases o <;> rfl))
theorem vE : nM c g cr ρ l S (some (.ins c fus)) = (cr ρ S).bind (qG g l) := by
 unfold nM; dsimp only; rw [if_pos rfl]
theorem vD : qG g l (us, S) = g (.ref l :: us) S := rfl
noncomputable def zV (n : Nat) : U × Sto → Option (U × Sto)
 | (.non, S) => some (.ref n, S)
 | _ => none
theorem uG : jo c g us S = (g (.ref S.length :: us) (S ++ [.ins c (List.replicate c.ns.length none)])).bind (zV S.length) := by
 unfold jo; congr 1; funext p; obtain ⟨u, S⟩ := p; cases u <;> rfl
theorem vG : zV i (.non, S) = some (.ref i, S) := rfl
noncomputable def kIn (neg : Bool) (x : U) (S : Sto) : Option O → Option (U × Sto)
 | some (.lst us) => if hC x = true ∧ us.all hC = true then some (.bl (if neg then !inU x us else inU x us), S) else none
 | some (.dic kus) => (gK x).bind fun k => some (.bl (if neg then !(aK kus k).isSome else (aK kus k).isSome), S)
 | some (.fdc _ kus) => (gK x).bind fun k => some (.bl (if neg then !(aK kus k).isSome else (aK kus k).isSome), S)
 | _ => none
theorem Be {neg : Bool} : fIn neg x (.ref l) S = kIn neg x S S[l]? := by
 unfold fIn kIn; dsimp only <;> (generalize S[l]? = q; rcases q with _ | o <;> first | rfl | (cases o <;> rfl))
theorem Bf {neg : Bool} {kus : List (Key × U)} : kIn neg x S (some (.dic kus)) = (gK x).bind fun k => some (.bl (if neg then !(aK kus k).isSome else (aK kus k).isSome), S) := rfl
theorem yp {j : Int} : gK (.int j) = some (.inl j) := rfl
theorem yo {z : Str} : gK (.str z) = some (.inr z) := rfl
noncomputable def Ck (f : U → List U → Sto → Option (U × Sto)) (x : U) (q : List U × Sto) := f x q.1 q.2
noncomputable def Cm (f : U → List U → Sto → Option (U × Sto)) (cr : CA) (ρ : Rho) (x : U) (S : Sto) : Option O → Option (U × Sto)
 | some (.lst _) => (cr ρ S).bind (Ck f x)
 | _ => none
noncomputable def kBM (f : U → List U → Sto → Option (U × Sto)) (cr : CA) (ρ : Rho) : U × Sto → Option (U × Sto)
 | (.ref l, S) => Cm f cr ρ (.ref l) S S[l]?
 | _ => none
variable {fm : U → List U → Sto → Option (U × Sto)}
theorem Dw : cBM fm ca cr ρ S = (ca ρ S).bind (kBM fm cr ρ) := by
 unfold cBM; congr 1; funext p; obtain ⟨u, S⟩ := p
 cases u <;> try rfl
theorem By : kBM fm cr ρ (.ref l, S) = Cm fm cr ρ (.ref l) S S[l]? := rfl
theorem Bx : Cm fm cr ρ x S (some (.lst us)) = (cr ρ S).bind (Ck fm x) := rfl
theorem Bw : Ck fm x (us, S) = fm x us S := rfl
noncomputable def AB (l : Nat) (u : U) (S : Sto) : Option O → Option (U × Sto)
 | some (.lst us) => if us.length < LIM then some (.non, S.set l (.lst (us ++ [u]))) else none
 | _ => none
theorem BA : eP (.ref l) [u] S = AB l u S S[l]? := by
 unfold eP AB; dsimp only <;> (generalize S[l]? = q; rcases q with _ | o <;> first | rfl | (cases o <;> rfl))
theorem jv (h : us.length < LIM) : AB l u S (some (.lst us)) = some (.non, S.set l (.lst (us ++ [u]))) := by
 unfold AB; dsimp only; rw [if_pos h]
noncomputable def Ce (ku xu : U) (S : Sto) : Option O → Option (U × Sto)
 | some (.dic kus) => (gK ku).bind fun k => some ((aK kus k).getD xu, S)
 | _ => none
noncomputable def Cg (l : Nat) (ku : U) (r : U × Sto) := Ce ku r.1 r.2 r.2[l]?
noncomputable def Ci (l : Nat) (cx : CE) (ρ : Rho) (q : U × Sto) := (cx ρ q.2).bind (Cg l q.1)
noncomputable def Cj (l : Nat) (ck cx : CE) (ρ : Rho) (S : Sto) : Option O → Option (U × Sto)
 | some (.dic _) => (ck ρ S).bind (Ci l cx ρ)
 | _ => none
noncomputable def kDG (ck cx : CE) (ρ : Rho) : U × Sto → Option (U × Sto)
 | (.ref l, S) => Cj l ck cx ρ S S[l]?
 | _ => none
theorem Dv : mP ca cb cc ρ S = (ca ρ S).bind (kDG cb cc ρ) := by
 unfold mP; congr 1; funext p; obtain ⟨u, S⟩ := p
 cases u <;> try rfl
theorem Bu : kDG cb cc ρ (.ref l, S) = Cj l cb cc ρ S S[l]? := rfl
theorem Bt {kus : List (Key × U)} : Cj l cb cc ρ S (some (.dic kus)) = (cb ρ S).bind (Ci l cc ρ) := rfl
theorem Bs : Ci l cc ρ (u, S) = (cc ρ S).bind (Cg l u) := rfl
theorem Br : Cg l u (x, S) = Ce u x S S[l]? := rfl
theorem Bq {kus : List (Key × U)} : Ce u x S (some (.dic kus)) = (gK u).bind fun k => some ((aK kus k).getD x, S) := rfl
theorem pf : hJ ρ S = some (.ref S.length, S ++ [.dic []]) := rfl
noncomputable def kP3 (k : Key) (u : U) (z : List (Key × U) × Sto) : Option (List (Key × U) × Sto) := some ((k, u) :: z.1, z.2)
noncomputable def kP2 (r : List (CE × CE)) (ρ : Rho) (x : U) (q : U × Sto) := (gK x).bind fun k => (iG r ρ q.2).bind (kP3 k q.1)
noncomputable def kP1 (cv : CE) (r : List (CE × CE)) (ρ : Rho) (p : U × Sto) := (cv ρ p.2).bind (kP2 r ρ p.1)
variable {pr : List (CE × CE)}
theorem Dm : iG [] ρ S = some ([], S) := rfl
theorem x_p : iG ((ca, cb) :: pr) ρ S = (ca ρ S).bind (kP1 cb pr ρ) := rfl
theorem Dk : kP1 cb pr ρ (u, S) = (cb ρ S).bind (kP2 pr ρ u) := rfl
theorem Dj : kP2 pr ρ x (u, S) = (gK x).bind fun k => (iG pr ρ S).bind (kP3 k u) := rfl
theorem Di {k : Key} {z : List (Key × U)} : kP3 k u (z, S) = some ((k, u) :: z, S) := rfl
noncomputable def kD1 (n : Nat) (kus : List (Key × U)) (S : Sto) : Option O → Option (U × Sto)
 | some (.dic []) => some (.ref n, S.set n (.dic (qr kus)))
 | _ => none
noncomputable def kD (n : Nat) (q : List (Key × U) × Sto) := kD1 n q.1 q.2 q.2[n]?
theorem yw : Ai pr ρ S = (iG pr ρ (S ++ [.dic []])).bind (kD S.length) := by
 unfold Ai; congr 1
theorem vN {z : List (Key × U)} : kD i (z, S) = kD1 i z S S[i]? := rfl
theorem vM {z : List (Key × U)} : kD1 i z S (some (.dic [])) = some (.ref i, S.set i (.dic (qr z))) := rfl
theorem xU : eY [.tup us] S = some (.tup us, S) := rfl
noncomputable def B8 (S : Sto) : Option O → Option (U × Sto)
 | some (.lst us) => some (.tup us, S)
 | _ => none
theorem xV : eY [.ref l] S = B8 S S[l]? := by
 unfold eY B8; dsimp only <;> (generalize S[l]? = q; rcases q with _ | o <;> first | rfl | (cases o <;> rfl))
theorem xW : B8 S (some (.lst us)) = some (.tup us, S) := rfl
theorem vH : jW [.tup us] S = some (.ref S.length, S ++ [.lst us]) := rfl
noncomputable def kLs (S : Sto) : Option O → Option (U × Sto)
 | some (.lst us) => some (.ref S.length, S ++ [.lst us])
 | _ => none
theorem vI : jW [.ref l] S = kLs S S[l]? := by
 unfold jW kLs; dsimp only <;> (generalize S[l]? = q; rcases q with _ | o <;> first | rfl | (cases o <;> rfl))
theorem vJ : kLs S (some (.lst us)) = some (.ref S.length, S ++ [.lst us]) := rfl
theorem yt : DI [.bl b] S = some (.int (if b then 1 else 0), S) := rfl
theorem ga {X : Sto} {n : Nat} : (S ++ X)[S.length + n]? = X[n]? := by rw [List.getElem?_append_right (Nat.le_add_right _ _), Nat.add_sub_cancel_left]
theorem ga0 {X : Sto} : (S ++ X)[S.length]? = X[0]? := ga (n := 0)
theorem gs {X : Sto} {n : Nat} {o : O} : (S ++ X).set (S.length + n) o = S ++ X.set n o := by rw [List.set_append_right _ _ (Nat.le_add_right _ _), Nat.add_sub_cancel_left]
theorem gs0 {X : Sto} {o : O} : (S ++ X).set S.length o = S ++ X.set 0 o := gs (n := 0)
section
variable {ok : Sto → Prop} {gg : CG} {cbd : CS} {ρ0 ρ1 : Rho} {S0 S1 : Sto}
theorem dN (h : ok S) : dr ok gg cbd [] ρ S = some (.nx, ρ, S) := by unfold dr; rw [if_pos h]
theorem eC (h : ok S) (hg : gg u ρ S = some (ρ0, S0)) (hb : cbd ρ0 S0 = some (.nx, ρ1, S1)) : dr ok gg cbd (u :: us) ρ S = dr ok gg cbd us ρ1 S1 := by
 rw [dr]; dsimp only; rw [if_pos h, hg, Option.bind_some]; dsimp only; rw [hb, Option.bind_some]
theorem fz {ce : CE} {ys : List U} (h : ok S) (hg : gg u ρ S = some (ρ0, S0)) (he : ce ρ0 S0 = some (x, S1)) (hl : S1[l]? = some (.lst ys)) (hn : ys.length < LIM) : eQ ok gg ce l (u :: us) ρ S = eQ ok gg ce l us ρ0 (S1.set l (.lst (ys ++ [x]))) := by
 rw [eQ, if_pos h, hg, Option.bind_some]; dsimp only; rw [he, Option.bind_some]; dsimp only; rw [hl]; dsimp only; rw [if_pos hn]
theorem ik {ce : CE} (h : ok S) : eQ ok gg ce l [] ρ S = some S := by rw [eQ, if_pos h]
end
end
theorem jG {p : List Value → Prop} (h : p []) (us : List Value) (e : us.length = 0) : p us := by rw [List.length_eq_zero_iff.mp e]; exact h
theorem dH {n : Nat} {p : List Value → Prop} (h : ∀ a us, us.length = n → p (a :: us)) (us : List Value) (e : us.length = n + 1) : p us := by
 cases us with
 | nil => cases e
 | cons a us => exact h a us (Nat.succ.inj e)
noncomputable def CC (H : Hp) (a : Addr) (ep : Nat) (ks : List Key) : Prop := ∃ ob es kvs, H a = some (.frz ob (.dK kvs)) ∧ ob.data = .dict es ep ∧ kvs.map (·.1) = ks
noncomputable def Itd (a : Addr) (ep : Nat) (ks : List Key) : It :=
 ⟨fun i H => i < ks.length ∧ CC H a ep ks, fun i H x H' => H' = H ∧ ∃ k, ks[i]? = some k ∧ x = kV k, fun i H => ks.length ≤ i ∧ CC H a ep ks⟩
theorem vi {P : Program} {w : World} {H : Hp} {h : Heap} {a : Addr} {ob : Obj} {kvs : List (Key × V)} {es : Array DictEntry} {ep : Nat} (ok : HOk P w H h) (e : H a = some (.frz ob (.dK kvs))) (d : ob.data = .dict es ep) : ∃ vs, KV kvs vs ∧ h.DictAt (bS P w) a vs ep := by
 obtain ⟨e1, _, _, vs, r, o, es', ep', e2, e3, e4, rest⟩ := (show dG P w H h a (.frz ob (.dK kvs)) from ok a _ e)
 rw [e1] at e2; cases e2
 rw [d] at e4; cases e4
 exact ⟨vs, r, ob, es, e1, e3, d, rest⟩
theorem vb {κ : Type} : ∀ {kvs : List (κ × V)} {vs : List (κ × Value)} {i : Nat} {k : κ} {v : V}, KV kvs vs → kvs[i]? = some (k, v) → ∃ u, vs[i]? = some (k, u)
 | _, _, i, k, v, .nil, h => by simp at h
 | _, _, 0, k, v, .cons (b := (k', u)) r t, h => by
  simp at h; subst h
  have : k = k' := r.1
  subst this
  exact ⟨u, by simp⟩
 | _, _, i + 1, k, v, .cons r t, h => by
  obtain ⟨u, e⟩ := vb (i := i) t (by simpa using h)
  exact ⟨u, by simpa using e⟩
theorem xk {k : Key} {u : Value} (h : kK k u = true) : cL (kV k) u := by
 rcases aZ h with ⟨i, t, rfl, rfl⟩ | ⟨i, t, rfl, rfl⟩
 ·exact ⟨t, rfl⟩
 ·exact ⟨t, rfl⟩
theorem pQ {P : Program} {w : World} {K : PySem.W.Frag} {tg : Expr} (a it : Addr) {ks : List Key} {ep : Nat} :
  Am P w K tg (Itd a ep ks) [it] it (fun n h => h.IsKeyIter it a n ks.length ep) where
 mem := by simp
 obj := fun n h st c hc => by
  simp only [List.mem_cons, List.not_mem_nil, or_false] at hc
  subst hc
  obtain ⟨o, e, _, q⟩ := st
  exact ⟨o, e, fun v z => by rw [q] at z; cases z⟩
 keep := fun n h h' st kp => Heap.IsKeyIter.at st fun o q => kp it (by simp) o q
 item := by
  intro X hP hw hK hc n pins s σ H E Iv hf st hg
  subst hP hw hK
  obtain ⟨hi, ob, es, kvs, hq, d, ek⟩ := hg
  obtain ⟨vs, rv, da⟩ := vi Iv.hok hq d
  have hl : ks.length = vs.length := by rw [← ek, List.length_map]; exact Paired.length rv
  have hi' : n < kvs.length := by rw [← ek, List.length_map] at hi; exact hi
  have hx : kvs[n]? = some ((kvs[n]).1, (kvs[n]).2) := List.getElem?_eq_getElem hi'
  obtain ⟨u, hu⟩ := vb rv hx
  obtain ⟨f0, f1, f2, f3⟩ := hf it (by simp)
  have st' : s.heap.IsKeyIter it a n vs.length ep := by rw [← hl]; exact st
  refine wpAny_pyNext_dict_item st' da hu fun key h1 hk st1 sb => ⟨key, rfl, ?_⟩
  have I1 : Inv X pins σ H { s with heap := h1 } := Iv.turned (t' := s.toks) (fun b o hb e => (sb.2 b hb).trans e) f0 f1 f3.1 f3.2.1 f3.2.2
  have st2 : h1.IsKeyIter it a (n + 1) ks.length ep := by rw [hl]; exact st1
  obtain ⟨o, e, c, q⟩ := id st2
  exact ue (s := { s with heap := h1 }) e c q (by decide) ⟨kV (kvs[n]).1, H, I1, xk hk, ⟨rfl, _, by rw [← ek, List.getElem?_map, hx]; rfl, rfl⟩, st2, fun b hb => (hf b hb).1⟩
 done := by
  intro X hP hw hK hc n pins s σ H E Iv hf st hg
  subst hP hw hK
  obtain ⟨hi, ob, es, kvs, hq, d, ek⟩ := hg
  obtain ⟨vs, rv, da⟩ := vi Iv.hok hq d
  have hl : ks.length = vs.length := by rw [← ek, List.length_map]; exact Paired.length rv
  obtain ⟨f0, f1, f2, f3⟩ := hf it (by simp)
  have st' : s.heap.IsKeyIter it a n vs.length ep := by rw [← hl]; exact st
  exact wpAny_pyNext_dict_end (Iv.ok.hd hc) st' da (by rw [List.getElem?_eq_none_iff]; omega) fun h1 eb => ⟨rfl, Iv.turned (t' := s.toks) (fun b o hb e => eb b o hb e) f0 f1 f3.1 f3.2.1 f3.2.2⟩
 self := fun _ _ _ _ _ st h => wpAny_pyIter_keyiter st h
theorem nP {X : Cx} {pins : List (Addr × Obj)} {σ : L2.St} {H : Hp} {s : Shared} {a : Addr} {o u : HO} (I : Inv X pins σ H s) (e : H a = some o) (nt : ∀ xs, o ≠ .tup xs) (no : ∀ x, o ≠ .own x) (nb : ∀ ps, o ≠ .tbl ps)
  (nf : ∀ ob u, X.H₀ a ≠ some (.frz ob u)) (new : dG X.prog X.w (upd H a u) s.heap a u) : Inv X pins σ (upd H a u) s := by
 have nn : ∀ b, H b = none → upd H a u b = none := fun b q => by rw [bh (Ne.symm (cX e q))]; exact q
 have ho : ∀ b x, H b = some (.own x) → upd H a u b = some (.own x) := fun b x q => by
  rw [bh]; exact q
  intro z; subst z; rw [e] at q; cases q; exact no _ rfl
 have ht : ∀ b xs, H b = some (.tup xs) → upd H a u b = some (.tup xs) := fun b x q => by
  rw [bh]; exact q
  intro z; subst z; rw [e] at q; cases q; exact nt _ rfl
 refine ⟨I.ok, I.os, I.bare, ⟨I.base.keep, I.base.slot, fun b ob q1 q2 q3 => nn _ (I.base.free b ob q1 q2 q3), I.base.there, fun b xs q => ht _ _ (I.base.tups b xs q), fun b ob v q => ?_, fun b ps q => ?_⟩, I.loc, I.cell, nn _ I.free, fun x c q => nn _ (I.freeC x c q), fun p hp => ?_, fun b v q => ?_, I.len⟩
 ·rw [bh]; exact I.base.frzs b ob v q
  intro z; subst z; exact nf _ _ q
 ·obtain ⟨more, q'⟩ := I.base.tbls b ps q
  refine ⟨more, ?_⟩
  rw [bh]; exact q'
  intro z; subst z; rw [e] at q'; cases q'; exact nb _ rfl
 ·obtain ⟨p1, p2, p3⟩ := I.pin p hp
  exact ⟨p1, nn _ p2, p3⟩
 ·by_cases hb : b = a
  ·subst hb; rw [aP] at q; cases q; exact new
  ·rw [bh hb] at q
   exact (I.hok b v q).stay (fun _ _ _ g => g) (fun c g => ho c b g) fun c xs g => ht c xs g
noncomputable def rN (X : Cx) (a : Addr) : Prop := ∀ ob u, X.H₀ a ≠ some (.frz ob u)
noncomputable def xt (X : Cx) (tl : TE) : TI := fun σ H R => tl σ H fun x H1 => ∃ a kvs, x = .ref a ∧ H1 a = some (.dK kvs) ∧ ∀ ob es ep, rN X a → ob.data = .dict es ep → R (Itd a ep (kvs.map (·.1))) (upd H1 a (.frz ob (.dK kvs)))
theorem lX {X : Cx} {tg l : Expr} {tl : TE} (hl : WE X l tl) : WI X tg l (xt X tl) := by
 constructor
 intro pins s σ H R I h
 refine thn (hl.h pins s σ H _ I h) fun v s1 hz => ?_
 obtain ⟨x, H1, I1, r1, q1⟩ := hz
 obtain ⟨a, kvs, rfl, hq, q⟩ := q1
 cases r1
 obtain ⟨hz, hs, vs, rv, ob, es, ep, e1, e2, e3, rest⟩ := mI I1.hok hq
 have da : s1.heap.DictAt (bS X.prog X.w) a vs ep := ⟨ob, es, e1, e2, e3, rest⟩
 have hl : kvs.length = vs.length := Paired.length rv
 have nf : rN X a := fun ob' u' z => by have := I1.base.frzs a ob' u' z; rw [hq] at this; cases this
 have I2 : Inv X pins σ (upd H1 a (.frz ob (.dK kvs))) s1 := nP I1 hq (by simp) (by simp) (by simp) nf ⟨e1, hz, hs, vs, rv, ob, es, ep, e1, e2, e3, rest⟩
 refine wpAny_pyIter_dict hs da ?_
 refine ⟨s1.heap.objs.size, [s1.heap.objs.size], _, _, _, rfl, I2.kept (t' := s1.toks) fun b o g => Heap.get?_push_of_some _ g, pQ a _, ⟨_, Heap.get?_push_size _ rfl, rfl, by rw [List.length_map, hl]; rfl⟩, fun b hb => ?_, q ob es ep nf e3⟩
 simp only [List.mem_cons, List.not_mem_nil, or_false] at hb
 subst hb
 exact I2.fpOk (Nat.le_refl _) (I2.hok.fresh (Nat.le_refl _))
noncomputable def An (X : Cx) (D : rP) : rP where
 nx := fun σ H => ∃ a ob kvs, rN X a ∧ H a = some (.frz ob (.dK kvs)) ∧ D.nx σ (upd H a (.dK kvs))
 rt := fun v H => ∃ a ob kvs, rN X a ∧ H a = some (.frz ob (.dK kvs)) ∧ D.rt v (upd H a (.dK kvs))
 bk := fun σ H => ∃ a ob kvs, rN X a ∧ H a = some (.frz ob (.dK kvs)) ∧ D.bk σ (upd H a (.dK kvs))
 ct := fun σ H => ∃ a ob kvs, rN X a ∧ H a = some (.frz ob (.dK kvs)) ∧ D.ct σ (upd H a (.dK kvs))
theorem gy {X : Cx} {pins : List (Addr × Obj)} {σ : L2.St} {H : Hp} {s : Shared} {a : Addr} {ob : Obj} {kvs : List (Key × V)} (I : Inv X pins σ H s) (nf : rN X a) (e : H a = some (.frz ob (.dK kvs))) : Inv X pins σ (upd H a (.dK kvs)) s :=
 nP I e (by simp) (by simp) (by simp) nf (show dG X.prog X.w H s.heap a (.frz ob (.dK kvs)) from I.hok a _ e).2
theorem pj {X : Cx} {st : Stmt} {t : TS} (h : WS X st t) : WS X st (fun D σ H => t (An X D) σ H) := by
 constructor
 intro pins s σ H D I k
 refine thn (h.h pins s σ H _ I k) fun f s1 q => ?_
 cases f with
 | next => obtain ⟨σ1, H1, I1, a, ob, kvs, nf, e, r⟩ := q; exact ⟨σ1, _, gy I1 nf e, r⟩
 | brk => obtain ⟨σ1, H1, I1, a, ob, kvs, nf, e, r⟩ := q; exact ⟨σ1, _, gy I1 nf e, r⟩
 | cont => obtain ⟨σ1, H1, I1, a, ob, kvs, nf, e, r⟩ := q; exact ⟨σ1, _, gy I1 nf e, r⟩
 | ret u => obtain ⟨v, σ1, H1, I1, rv, a, ob, kvs, nf, e, r⟩ := q; exact ⟨v, σ1, _, gy I1 nf e, rv, r⟩
noncomputable def kU : Key → U
 | .inl i => .int i
 | .inr x => .str x
theorem ve {K : PySem.W.Frag} {m : List Addr} {H : Hp} (k : Key) : Is K m H (kV k) (kU k) := by
 cases k with
 | inl i => exact .int_
 | inr x => exact .str_
open Classical in
noncomputable def uni {α : Type} (F : Nat → Option α) : Option α := if h : ∃ r, ∀ n, F n = some r then some h.choose else none
theorem m9 {α : Type} {F : Nat → Option α} {r : α} (h : ∀ n, F n = some r) : uni F = some r := by
 have hx : ∃ r, ∀ n, F n = some r := ⟨r, h⟩
 unfold uni
 rw [dif_pos hx]
 have := hx.choose_spec 0
 rw [h 0] at this
 exact this.symm
theorem m8 {α : Type} {F : Nat → Option α} {r : α} (h : uni F = some r) (n : Nat) : F n = some r := by
 unfold uni at h
 split at h
 ·rename_i hx
  cases h
  exact hx.choose_spec n
 ·cases h
noncomputable def mO (ce : CE) (g : CG) (cb : CS) : CS := fun ρ S => (ce ρ S).bind fun p => match p.1 with
 | .ref l => match p.2[l]? with
  | some (.dic kus) => uni fun ep => (dr (fun S' => S'[l]? = some (.fdc ep kus)) g cb (kus.map fun q => kU q.1) ρ (p.2.set l (.fdc ep kus))).bind fun r => match r.2.2[l]? with
   | some (.fdc _ kus') => some (r.1, r.2.1, r.2.2.set l (.dic kus'))
   | _ => none
  | _ => none
 | _ => none
theorem qK {K : PySem.W.Frag} {m : List Addr} {H : Hp} {a : Addr} {l ep : Nat} {kus : List (Key × U)} (ha : m[l]? = some a) : uC K (Itd a ep (kus.map (·.1))) m H (kus.map fun q => kU q.1) (fun S' => S'[l]? = some (.fdc ep kus)) := by
 intro m2 S2 H2 i e sr hok
 obtain ⟨a', ha', ob, es, kvs, hx, hd, ip⟩ := sr.get hok
 have ha2 := e.get ha
 rw [ha2] at ha'; cases ha'
 have hz : CC H2 a ep (kus.map (·.1)) := ⟨ob, es, kvs, hx, hd, ip.1⟩
 refine ⟨fun u hu => ?_, fun hu => ⟨by simpa using hu, hz⟩⟩
 have hi : i < kus.length := by have := (List.getElem?_eq_some_iff.mp hu).1; simpa using this
 refine ⟨⟨by simpa using hi, hz⟩, ?_⟩
 rintro x H3 ⟨rfl, k, hk, rfl⟩
 refine ⟨.refl, sr, ?_⟩
 rw [List.getElem?_map] at hk hu
 rw [List.getElem?_eq_getElem hi] at hk hu
 cases hk; cases hu
 exact ve _
theorem ug {X : Cx} {ce : CE} {g : CG} {cb : CS} : ∀ D σ H, tS X.K (mO ce g cb) D σ H → Ar (xt X (tE X.K ce)) (tG X.K g) (tS X.K cb) (An X D) σ H := by
 rintro D σ H ⟨m, ρ, S, o, ρ', S', sr, lr, hc, post⟩
 obtain ⟨⟨x, S1⟩, h1, h⟩ := Option.bind_eq_some_iff.mp hc
 refine ⟨m, ρ, S, x, S1, sr, lr, h1, fun m1 v1 H1 e1 sr1 i1 => ?_⟩
 cases x with
 | ref l =>
  simp only at h
  split at h <;> try cases h
  rename_i kus hS
  obtain ⟨a, ha, rfl⟩ := i1.of_ref
  obtain ⟨a', ha', kvs, hx, ip⟩ := sr1.get hS
  rw [ha] at ha'; cases ha'
  refine ⟨a, kvs, rfl, hx, fun ob es ep nf hd => ?_⟩
  obtain ⟨⟨o1, ρ1, S2⟩, h2, h3⟩ := Option.bind_eq_some_iff.mp (m8 h ep)
  simp only at h3
  split at h3 <;> try cases h3
  rename_i ep' kus' hS2
  have kp : uB X.K H1 (upd H1 a (.frz ob (.dK kvs))) := sr1.keep ha _
  have ee : Ext X.K m1 H1 m1 (upd H1 a (.frz ob (.dK kvs))) := .of kp
  have sr2 : Sr X.K m1 (S1.set l (.fdc ep kus)) (upd H1 a (.frz ob (.dK kvs))) := sr1.put ha ⟨ob, es, kvs, aP, hd, ip.mono ee⟩
  rw [ip.1]
  refine nF sr2 (lr.mono (e1.trans ee)) (qK ha) h2 ?_
  have back : ∀ m3 H3, Ext X.K m1 (upd H1 a (.frz ob (.dK kvs))) m3 H3 → Sr X.K m3 S2 H3 → ∃ ob' kvs', H3 a = some (.frz ob' (.dK kvs')) ∧ Ext X.K m3 H3 m3 (upd H3 a (.dK kvs')) ∧ Sr X.K m3 (S2.set l (.dic kus')) (upd H3 a (.dK kvs')) := fun m3 H3 e3 sr3 => by
   obtain ⟨a3, ha3, ob3, es3, kvs3, hx3, hd3, ip3⟩ := sr3.get hS2
   rw [e3.get ha] at ha3; cases ha3
   have e4 : Ext X.K m3 H3 m3 (upd H3 a (.dK kvs3)) := .of (sr3.keep (e3.get ha) _)
   exact ⟨ob3, kvs3, hx3, e4, sr3.put (e3.get ha) ⟨kvs3, aP, ip3.mono e4⟩⟩
  have nxt : ∀ (R : L2.St → Hp → Prop), fM X.K m H R ρ' (S2.set l (.dic kus')) → fM X.K m1 (upd H1 a (.frz ob (.dK kvs))) (fun σ H => ∃ a ob kvs, rN X a ∧ H a = some (.frz ob (.dK kvs)) ∧ R σ (upd H a (.dK kvs))) ρ' S2 := fun R p m3 σ3 H3 e3 sr3 lr3 => by
   obtain ⟨ob3, kvs3, hx3, e4, sr4⟩ := back m3 H3 e3 sr3
   exact ⟨a, ob3, kvs3, nf, hx3, p m3 σ3 _ (((e1.trans ee).trans e3).trans e4) sr4 (lr3.mono e4)⟩
  cases o with
  | nx => exact nxt _ post
  | bk => exact nxt _ post
  | ct => exact nxt _ post
  | rt v =>
    intro m3 v3 H3 e3 sr3 i3
    obtain ⟨ob3, kvs3, hx3, e4, sr4⟩ := back m3 H3 e3 sr3
    exact ⟨a, ob3, kvs3, nf, hx3, post m3 v3 _ (((e1.trans ee).trans e3).trans e4) sr4 (i3.mono e4)⟩
 | _ => cases h
theorem pZ {X : Cx} {tg iter : Expr} {body : List Stmt} {ce : CE} {g : CG} {cb : CS} {pos : Pos} (hp : PassesOwn (model X.prog X.w) X.A X.env X.xe) (hc : X.calm = true) (hi : QE X iter ce) (hg : QG X tg g) (hb : QSs X body cb) (hs : ∀ x, foldedSetIterable iter X.env x = pure x := by intro _; rfl) : QS X (.For tg iter body [] pos) (mO ce g cb) :=
 (pj (pB hp hc (lX hi) hg hb hs)).imp ug
end OP
namespace OG
open PySem PySem.Spec PyProof.Rows L2
noncomputable def mf (wi : TI) (g : TG) (tt : TT) (te : TE) (n : Nat) (caps : List Nat) : TE := fun σ H Q => wi σ H fun J H1 => ∀ l, H1 l = none → ∃ W : Nat → Nat → L2.St → Hp → Prop, (∃ m, W 0 m (stC n caps σ) (upd H1 l (.lst []))) ∧
 ∀ i m σ' H2, W i m σ' H2 → (J.stop i H2 ∧ Q (.ref l) H2) ∨ (J.go i H2 ∧ ∃ N : L2.St → Hp → Prop, (∀ σ'' H', N σ'' H' → ∃ m', m' < m ∧ W (i + 1) m' σ'' H') ∧
  ∀ x H3, J.yld i H2 x H3 → g x σ' H3 fun σ2 H4 => tt σ2 H4 fun b H5 => match b with
   | true => te σ2 H5 fun v H6 => ∃ ys, H6 l = some (.lst ys) ∧ ys.length < sizeLine ∧ N σ2 (upd H6 l (.lst (ys ++ [v])))
   | false => N σ2 H5)
theorem ju {prog : Program} {w : World} {A : Around} {R : Result → Shared → Prop} {s : Shared} {elt target iter c : Expr} {scope : Scope} {pos : Pos} {it acc : Value} {env : Env} (I : Nat → Shared → Prop)
  (turn : ∀ n s, I n s → wpAny (model prog w) A (pyNext it) (fun r s₁ => match r with
   | none => R (.ok .next) s₁
   | some v => wpAny (model prog w) A (letOwnedTupleGo target it v) (fun _ s₁' => wpAny (model prog w) A (assign target env v) (fun _ s₂ => wpAny (model prog w) A (PySem.isTrue c env (eval c env)) (fun b s₂' => match b with
    | true => wpAny (model prog w) A (eval elt env) (fun x s₃ =>
     wpAny (model prog w) A (call (.builtin "list.append") [acc, x]) (fun _ s₄ => ∃ m, m < n ∧ I m s₄) (fun _ _ => False) s₃)
     (fun _ _ => False) s₂'
    | false => ∃ m, m < n ∧ I m s₂') (fun _ _ => False) s₂) (fun _ _ => False) s₁') (fun _ _ => False) s₁) (fun _ _ => False) s)
  (n : Nat) (h : I n s) :
  codeAny (model prog w) A (.compLoop (.ListComp elt [⟨target, iter, [c], 0⟩] scope pos) 0 it acc env) R s := by
 refine codeAny_loop rfl I (fun n s hI => ?_) n h
 show wpAny _ _ ((compTurn (.ListComp elt [⟨target, iter, [c], 0⟩] scope pos) 0 it acc env).onRaise (fun x => do noteFrame x env; theTreesLotGoes x)) _ _ s
 refine wpAny_noted ?_
 rw [compTurn_list]
 refine wpAny_bind (wpAny_standAt (wpAny_bind (wpAny_mono (turn n s hI) (fun r s₁ h₁ => ?_) fun _ _ h' => h'.elim)))
 cases r with
 | none => exact wpAny_pure h₁
 | some v =>
  refine wpAny_bind (wpAny_mono h₁ (fun _ s₁' h₁' => ?_) fun _ _ h' => h'.elim)
  refine wpAny_bind (wpAny_mono h₁' (fun _ s₂ h₂ => ?_) fun _ _ h' => h'.elim)
  dsimp only
  simp only [List.forIn_cons, List.forIn_nil, if_true, bind_assoc, pure_bind]
  refine wpAny_bind (wpAny_mono h₂ (fun b s₂' h₂' => ?_) fun _ _ h' => h'.elim)
  cases b with
  | true =>
   rw [if_pos rfl]
   exact wpAny_bind (wpAny_mono h₂' (fun x s₃ h₃ => wpAny_bind (wpAny_mono h₃
    (fun _ s₄ h₄ => wpAny_pure ⟨rfl, h₄⟩) fun _ _ h' => h'.elim)) fun _ _ h' => h'.elim)
  | false =>
   rw [if_neg Bool.false_ne_true]
   exact wpAny_pure ⟨rfl, h₂'⟩
theorem oR {X : Cx} {Nc capN tn : List Str} {scope : Scope} {cl : List (Str × Addr)} {n : Nat} {caps : List Nat} {tg iter elt : Expr} {pos : Pos} {wi : TI} {g : TG} {te : TE} {tt : TT} {c : Expr}
  (hc : X.calm = true) (hi : WI X tg iter wi) (hg : ∀ s3 H3 fp, WG (cxC X Nc scope cl s3 H3 fp) tg g) (he : ∀ s3 H3 fp, WE (cxC X Nc scope cl s3 H3 fp) elt te)
  (ht : ∀ s3 H3 fp, WT (cxC X Nc scope cl s3 H3 fp) c tt)
  (hclos : closureFor scope X.env = pure cl) (hkind : scope.kind = .function) (hnl : ∀ x ∈ scope.names, x.2 = .local → scope.names.lookup x.1 = some .local) (hcell : ∀ x ∈ scope.names, x.2 ≠ .cell)
  (hcl : mU X.env cl) (hhas : ((relabel scope X.env).names.all fun p => !(p.2 == .cell || p.2 == .free) || (cl.lookup p.1).isSome) = true)
  (hcap : Paired (Cap X scope cl) caps capN) (hN : Nc = tn ++ capN) (hn : tn.length = n)
  {use : Option (Value → Sem Unit)} {pins : List (Addr × Obj)} {σ : L2.St} {H : Hp} {s : Shared} {Q : VK} {Qf : Value → Shared → Prop} (I : Inv X pins σ H s) (h : mf wi g tt te n caps σ H Q)
  (hend : ∀ (D C : Addr) (s6 : Shared) (H5 : Hp) (m : Str → Option Value), Inv X pins σ H5 s6 → s6.heap.Ns C m → H5 C = none → C ≠ X.env.locals → X.s₀.heap.objs.size ≤ C → (∀ x c, X.env.cells.lookup x = some c → c ≠ C) → (∀ p ∈ X.pn ++ pins, p.1 ≠ C) → Q (.ref D) H5 → compPost (model X.prog X.w) X.A X.xe use Qf (.ref D) C (.ok .next) s6)
  (hs : ∀ x, foldedSetIterable iter X.env x = pure x) :
  wpAny (model X.prog X.w) X.A (comprehension (.ListComp elt [⟨tg, iter, [c], 0⟩] scope pos) scope X.env (firstIterPos [⟨tg, iter, [c], 0⟩] pos) (newList []) (firstAsync [⟨tg, iter, [c], 0⟩]) (firstIter [⟨tg, iter, [c], 0⟩] X.env) use) Qf X.xe s := by
 refine wpAny_comprehension_free (use := use) (g := ⟨tg, iter, [c], 0⟩) (gs := []) rfl hs hclos hkind hnl (thn (hi.h pins s σ H _ I h) fun v s1 h1 => thn h1 fun itv s2 h2 => ?_)
 obtain ⟨it, fp, tnn, J, H2, rfl, I2, T, st2, f2, hW⟩ := h2
 have hD := I2.fresh
 obtain ⟨W, ⟨m0, w0⟩, turn⟩ := hW _ hD
 refine wpAny_newObj_type (wpAny_newFunctionEnv hcell (by intro y hy; simp at hy) (fun h₁ hns₁ hsb₁ => ?_) hkind)
 dsimp only at hns₁ hsb₁ ⊢
 have I3 : Inv X pins σ (upd H2 s2.heap.objs.size (.lst [])) { s2 with heap := s2.heap.push { cls := .type "list", dict := none, data := .seq ([] : List Value).toArray }, toks := s2.toks } := I2.lnew (its := []) .nil (Nat.zero_le _)
 generalize hs3 : ({ s2 with heap := s2.heap.push { cls := .type "list", dict := none, data := .seq ([] : List Value).toArray }, toks := s2.toks } : Shared) = s3 at I3
 have es3 : s3.heap = s2.heap.push { cls := .type "list", dict := none, data := .seq ([] : List Value).toArray } := by rw [← hs3]
 generalize hDD : s2.heap.objs.size = D at *
 have kept : ∀ b o, s3.heap.get? b = some o → h₁.get? b = some o := fun b o e => by
  have lt := Heap.lt_size e
  rw [es3] at lt e
  exact hsb₁.extBut b o (Nat.ne_of_lt lt) (Heap.get?_push_of_some _ e)
 have old : ∀ b o, s2.heap.get? b = some o → s3.heap.get? b = some o := fun b o e => by rw [es3]; exact Heap.get?_push_of_some _ e
 have ltD : ∀ b ∈ fp, b < D := fun b hb => by
  obtain ⟨o, e, _⟩ := T.obj 0 _ st2 b hb
  rw [← hDD]; exact Heap.lt_size e
 have fo : ∀ b ∈ fp, b < s3.heap.objs.size := fun b hb => by
  obtain ⟨o, e, _⟩ := T.obj 0 _ st2 b hb
  exact Heap.lt_size (old _ _ e)
 have f3 : ∀ b ∈ fp, rG X pins (upd H2 D (.lst [])) b := fun b hb => by
  refine ⟨?_, (f2 b hb).2⟩
  rw [bh (Nat.ne_of_lt (ltD b hb))]
  exact (f2 b hb).1
 rw [← es3] at hns₁ hsb₁ ⊢
 have Ic := fun t' => Inv.comp (h1 := h₁) (t' := t') (Nc := Nc) (n := n) I3 hc f3 fo hkind hcl hhas hcap tn hN hn hns₁ kept
 have stat : ∀ {H' : Hp}, (∀ b ∈ fp, H' b = none) → ∀ b ∈ fp, rG (cxC X Nc scope cl s3 (upd H2 D (.lst [])) fp) [] H' b := fun hn' b hb => by
  refine ⟨hn' b hb, Nat.ne_of_lt (fo b hb), fun z => ?_, .inl hb, fun x c e => (f2 b hb).2.2.2.2.1 x c (hcl.look e), fun p hp => (by simp at hp)⟩
  rcases List.mem_cons.mp (I3.stkSub b z) with q | q
  ·exact (f2 b hb).2.1 q
  ·exact (f2 b hb).2.2.1 q
 have loop : ∀ s4 : Shared, (∃ t', s4 = { s3 with heap := h₁, toks := t' }) → codeAny (model X.prog X.w) X.A (.compLoop (.ListComp elt [⟨tg, iter, [c], 0⟩] scope pos) 0 (.ref it) (.ref D) (compEnvC scope cl s3.heap.objs.size X.env))
   (compPost (model X.prog X.w) X.A X.xe use Qf (.ref D) s3.heap.objs.size) s4 := by
  rintro s4 ⟨t', rfl⟩
  refine ju (fun n' s' => ∃ i σ' H', Inv (cxC X Nc scope cl s3 (upd H2 D (.lst [])) fp) [] σ' H' s' ∧ tnn i s'.heap ∧ (∀ b ∈ fp, H' b = none) ∧ W i n' σ' H') ?_ m0
   ⟨0, _, _, Ic t', T.keep 0 _ _ st2 fun b hb o e => kept _ _ (old _ _ e), fun b hb => (f3 b hb).1, w0⟩
  rintro n' s5 ⟨i, σ5, H5, I5, st5, fr5, w5⟩
  rcases turn i n' σ5 H5 w5 with ⟨stop, qn⟩ | ⟨go, N, hN', step⟩
  ·refine thn (T.done (cxC X Nc scope cl s3 (upd H2 D (.lst [])) fp) rfl rfl rfl hc i [] s5 σ5 H5 (fun _ _ => False) I5 (stat fr5) st5 stop) fun r s6 ⟨hr, I6⟩ => ?_
   subst hr
   obtain ⟨m, hm, _⟩ := I6.loc
   have I7 : Inv X pins σ H5 s6 := Inv.call' (ch := fp) I3 I6.os I6.base I6.hok I6.bare fun b hb => ⟨(f2 b hb).2.2.2.1, (f2 b hb).2.1, (f2 b hb).2.2.2.2.1, (f2 b hb).2.2.2.2.2⟩
   exact hend D _ s6 H5 m I7 hm I6.free (Ne.symm (Nat.ne_of_lt I3.lt)) I3.sz (fun x c e => by
     obtain ⟨v', o, ho, _⟩ := I3.cell x c e
     exact Nat.ne_of_lt (Heap.lt_size ho)) (fun p hp => Nat.ne_of_lt (Heap.lt_size (I3.pin p hp).1)) qn
  ·refine thn (T.item (cxC X Nc scope cl s3 (upd H2 D (.lst [])) fp) rfl rfl rfl hc i [] s5 σ5 H5 (fun _ _ => False) I5 (stat fr5) st5 go) fun r s6 ⟨u, hr, h6⟩ => ?_
   subst hr
   refine thn h6 fun _ s7 hz => ?_
   obtain ⟨x, H7, I7, r7, y7, st7, fr7⟩ := hz
   have I7' := I7.pinned (stat fr7) (T.obj _ _ st7)
   refine thn ((hg s3 (upd H2 D (.lst [])) fp).h _ s7 σ5 H7 x u _ I7' r7 (step x H7 y7)) fun _ s8 hz => ?_
   obtain ⟨σ8, H8, I8, q8⟩ := hz
   have fin : ∀ {s10 : Shared} {H10 : Hp}, Inv (cxC X Nc scope cl s3 (upd H2 D (.lst [])) fp) _ σ8 H10 s10 → N σ8 H10 → ∃ m', m' < n' ∧ ∃ i' σ' H', Inv (cxC X Nc scope cl s3 (upd H2 D (.lst [])) fp) [] σ' H' s10 ∧ tnn i' s10.heap ∧ (∀ b ∈ fp, H' b = none) ∧ W i' m' σ' H' := fun {s10 H10} I10 q10 => by
    obtain ⟨m', hm, w10⟩ := hN' σ8 H10 q10
    refine ⟨m', hm, i + 1, σ8, H10, Inv.unpinned I10, T.keep _ _ _ st7 fun b hb o e => (Inv.pin I10 (b, o) (List.mem_append_right _ (List.mem_append_right _ (dR hb e)))).1, fun b hb => ?_, w10⟩
    obtain ⟨o, e, d⟩ := T.obj _ _ st7 b hb
    exact (Inv.pin I10 (b, o) (List.mem_append_right _ (List.mem_append_right _ (dR hb e)))).2.1
   refine thn ((ht s3 (upd H2 D (.lst [])) fp).h _ s8 σ8 H8 _ I8 q8) fun b9 s9' h9 => ?_
   obtain ⟨H9', I9', q9'⟩ := h9
   cases b9 with
   | false => exact fin I9' q9'
   | true =>
    refine thn ((he s3 (upd H2 D (.lst [])) fp).h _ s9' σ8 H9' _ I9' q9') fun v9 s9 hz => ?_
    obtain ⟨x9, H9, I9, r9, ys, hy, hlt, q9⟩ := hz
    exact thn (iJ (X := cxC X Nc scope cl s3 (upd H2 D (.lst [])) fp) _ s9 σ8 H9 (.ref D) [x9] (.ref D) [v9] (fun _ H' => N σ8 H') I9 rfl (.cons r9 .nil) ⟨D, ys, x9, rfl, rfl, hy, hlt, q9⟩) fun _ s10 ⟨_, H10, I10, _, q10⟩ => fin I10 q10
 have e4 : ∀ t', ({ s2 with heap := h₁, toks := t' } : Shared) = { s3 with heap := h₁, toks := t' } := fun t' => by rw [← hs3]
 refine codeAny_compStart_list (loop _ ⟨_, e4 _⟩) (T.self _ 0 _ _ _ (T.keep 0 _ _ st2 fun b hb o e => kept _ _ (old _ _ e)) (loop _ ⟨_, e4 _⟩))
theorem oj {X : Cx} {Nc capN tn : List Str} {scope : Scope} {cl : List (Str × Addr)} {n : Nat} {caps : List Nat} {tg iter elt : Expr} {pos : Pos} {wi : TI} {g : TG} {te : TE} {tt : TT} {c : Expr}
  (hc : X.calm = true) (hi : WI X tg iter wi) (hg : ∀ s3 H3 fp, WG (cxC X Nc scope cl s3 H3 fp) tg g) (he : ∀ s3 H3 fp, WE (cxC X Nc scope cl s3 H3 fp) elt te)
  (ht : ∀ s3 H3 fp, WT (cxC X Nc scope cl s3 H3 fp) c tt)
  (hclos : closureFor scope X.env = pure cl) (hkind : scope.kind = .function) (hnl : ∀ x ∈ scope.names, x.2 = .local → scope.names.lookup x.1 = some .local) (hcell : ∀ x ∈ scope.names, x.2 ≠ .cell)
  (hcl : mU X.env cl) (hhas : ((relabel scope X.env).names.all fun p => !(p.2 == .cell || p.2 == .free) || (cl.lookup p.1).isSome) = true)
  (hcap : Paired (Cap X scope cl) caps capN) (hN : Nc = tn ++ capN) (hn : tn.length = n)
  (hs : ∀ x, foldedSetIterable iter X.env x = pure x := by intro _; rfl) :
  WE X (.ListComp elt [⟨tg, iter, [c], 0⟩] scope pos) (mf wi g tt te n caps) := by
 constructor
 intro pins s σ H Q I h
 rw [eval_ListComp]
 refine oR hc hi hg he ht hclos hkind hnl hcell hcl hhas hcap hN hn I h (fun D C s6 H5 m I7 hm fr nl sz cn pn qn => ⟨m, hm, fun h' hs' => ?_⟩) hs
 exact ⟨.ref D, H5, I7.turned (t' := s6.toks) (it := C) (fun b o hb e => hs'.extBut b o hb e) fr nl (.inr sz) cn pn, rfl, qn⟩
end OG
namespace OP
open PySem PySem.Spec PyProof.Rows L2 OG
open Classical in
noncomputable def bX (ok : Sto → Prop) (g : CG) (ct : CT) (ce : CE) (l : Nat) : List U → Rho → Sto → Option Sto
 | [], _, S => if ok S then some S else none
 | u :: us, ρ, S => if ok S then (g u ρ S).bind fun p => (ct p.1 p.2).bind fun q => if q.1 = true then (ce p.1 q.2).bind fun r => match r.2[l]? with
  | some (.lst ys) => if ys.length < LIM then bX ok g ct ce l us p.1 (r.2.set l (.lst (ys ++ [r.1]))) else none
  | _ => none else bX ok g ct ce l us p.1 q.2 else none
noncomputable def gN (ci : CI) (g : CG) (ct : CT) (ce : CE) (n : Nat) (caps : List Nat) : CE := fun ρ S => (ci ρ S).bind fun p => (bX p.2.1 g ct ce p.2.2.length p.1 (ja n caps ρ) (p.2.2 ++ [.lst []])).bind fun S' => some (.ref p.2.2.length, S')
section
variable {X : Cx} {K : PySem.W.Frag}
theorem mL {g : CG} {ct : CT} {ce : CE} {n : Nat} {caps : List Nat} {J : It} {us : List U} {ok : Sto → Prop} {Q : VK} {m1 : List Addr} {H1 : Hp} {S1 S' : Sto} {ρ : Rho} {σ : L2.St} {l : Addr} (sr1 : Sr K m1 S1 H1) (lr : Lr K m1 H1 ρ σ) (ito : uC K J m1 H1 us ok) (hl : H1 l = none) (h2 : bX ok g ct ce S1.length us (ja n caps ρ) (S1 ++ [.lst []]) = some S')
  (post : ∀ m2 H2, Ext K (m1 ++ [l]) (upd H1 l (.lst [])) m2 H2 → Sr K m2 S' H2 → Q (.ref l) H2) :
  ∃ W : Nat → Nat → L2.St → Hp → Prop, (∃ m, W 0 m (OG.stC n caps σ) (upd H1 l (.lst []))) ∧
 ∀ i m σ' H2, W i m σ' H2 → (J.stop i H2 ∧ Q (.ref l) H2) ∨ (J.go i H2 ∧ ∃ N : L2.St → Hp → Prop, (∀ σ'' H', N σ'' H' → ∃ m', m' < m ∧ W (i + 1) m' σ'' H') ∧
  ∀ x H3, J.yld i H2 x H3 → tG K g x σ' H3 fun σ2 H4 => tT K ct σ2 H4 fun b H5 => match b with
   | true => tE K ce σ2 H5 fun v H6 => ∃ ys, H6 l = some (.lst ys) ∧ ys.length < sizeLine ∧ N σ2 (upd H6 l (.lst (ys ++ [v])))
   | false => N σ2 H5) := by
 have ee : Ext K m1 H1 (m1 ++ [l]) (upd H1 l (.lst [])) := .new (b7 hl _)
 let W : Nat → Nat → L2.St → Hp → Prop := fun i k σ2 H2 => k = us.length - i ∧ i ≤ us.length ∧ ∃ m2 ρ2 S2, Ext K (m1 ++ [l]) (upd H1 l (.lst [])) m2 H2 ∧ Sr K m2 S2 H2 ∧ Lr K m2 H2 ρ2 σ2 ∧ bX ok g ct ce S1.length (us.drop i) ρ2 S2 = some S'
 refine ⟨W, ⟨us.length, by simp, Nat.zero_le _, m1 ++ [l], ja n caps ρ, S1 ++ [.lst []], .refl, sr1.new (o := .lst []) hl ⟨[], aP, .nil_⟩, qv (lr.mono ee), by simpa using h2⟩, ?_⟩
 rintro i k σ2 H2 ⟨rfl, hi, m2, ρ2, S2, e2, sr2, lr2, hl2⟩
 by_cases hlt : i < us.length
 ·have hu := List.getElem?_eq_getElem hlt
  rw [iS hu] at hl2
  unfold bX at hl2
  split at hl2
  ·rename_i hok
   obtain ⟨⟨ρ3, S3⟩, h3, hl2⟩ := Option.bind_eq_some_iff.mp hl2
   obtain ⟨⟨b4, S4⟩, h4, hl2⟩ := Option.bind_eq_some_iff.mp hl2
   obtain ⟨hgo, hy⟩ := (ito m2 S2 H2 i (ee.trans e2) sr2 hok).1 _ hu
   refine .inr ⟨hgo, W (i + 1) (us.length - (i + 1)), fun σ' H' w' => ⟨_, by omega, w'⟩, fun x H3 y => ?_⟩
   obtain ⟨e3, sr3, ix⟩ := hy x H3 y
   refine ⟨m2, ρ2, S2, _, ρ3, S3, sr3, lr2.mono e3, ix, h3, fun m4 σ4 H4 e4 sr4 lr4 => ⟨m4, ρ3, S3, b4, S4, sr4, lr4, h4, fun m4' H4' e4' sr4' => ?_⟩⟩
   cases b4 with
   | false =>
    rw [if_neg Bool.false_ne_true] at hl2
    exact ⟨rfl, hlt, m4', ρ3, _, (((e2.trans e3).trans e4).trans e4'), sr4', lr4.mono e4', hl2⟩
   | true =>
    rw [if_pos rfl] at hl2
    obtain ⟨⟨u5, S5⟩, h5, hl2⟩ := Option.bind_eq_some_iff.mp hl2
    simp only at hl2
    split at hl2 <;> try cases hl2
    rename_i ys hys
    split at hl2 <;> try cases hl2
    rename_i fe
    refine ⟨m4', ρ3, S4, u5, S5, sr4', lr4.mono e4', h5, fun m5 v5 H5 e5 sr5 i5 => ?_⟩
    obtain ⟨a', ha', xs, hx, il⟩ := sr5.get hys
    have ha : m5[S1.length]? = some l := ((((e2.trans e3).trans e4).trans e4').trans e5).get (dP sr1.len)
    rw [ha] at ha'; cases ha'
    have eu : Ext K m5 H5 m5 (upd H5 l (.lst (xs ++ [v5]))) := .of (sr5.keep ha _)
    exact ⟨xs, hx, Aw (by rw [il.length]; exact fe), rfl, hlt, m5, ρ3, _, (((((e2.trans e3).trans e4).trans e4').trans e5).trans eu), sr5.put (o := .lst (ys ++ [u5])) ha ⟨_, aP, (il.append (.cons_ i5 .nil_)).mono eu⟩, (lr4.mono ((e4'.trans e5).trans eu)), hl2⟩
  ·cases hl2
 ·have e : i = us.length := by omega
  subst e
  rw [List.drop_length] at hl2
  unfold bX at hl2
  split at hl2
  ·rename_i hok
   cases hl2
   exact .inl ⟨(ito m2 _ H2 _ (ee.trans e2) sr2 hok).2 (Nat.le_refl _), post m2 H2 e2 sr2⟩
  ·cases hl2
theorem oQ {ci : CI} {g : CG} {ct : CT} {ce : CE} {n : Nat} {caps : List Nat} : ∀ σ H Q, tE K (gN ci g ct ce n caps) σ H Q → mf (tI K ci) (tG K g) (tT K ct) (tE K ce) n caps σ H Q := by
 rintro σ H Q ⟨m, ρ, S, u, S', sr, lr, hc, post⟩
 obtain ⟨⟨us, ok, S1⟩, h1, h2⟩ := Option.bind_eq_some_iff.mp hc
 obtain ⟨S2, h2, h3⟩ := Option.bind_eq_some_iff.mp h2
 cases h3
 refine ⟨m, ρ, S, us, ok, S1, sr, lr, h1, fun m1 H1 J e1 sr1 ito l hl => ?_⟩
 have ee : Ext K m1 H1 (m1 ++ [l]) (upd H1 l (.lst [])) := .new (b7 hl _)
 exact mL sr1 (lr.mono e1) ito hl h2 fun m2 H2 e2 sr2 => post m2 _ H2 ((e1.trans ee).trans e2) sr2 (.ref_ (e2.get (dP sr1.len)))
theorem sJ {Nc capN tn : List Str} {scope : Scope} {cl : List (Str × Addr)} {n : Nat} {caps : List Nat} {tg iter elt : Expr} {pos : Pos} {ci : CI} {g : CG} {ct : CT} {ce : CE} {c : Expr}
  (hc : X.calm = true) (hi : QI X tg iter ci) (hg : ∀ s3 H3 fp, WG (cxC X Nc scope cl s3 H3 fp) tg (tG X.K g)) (ht : ∀ s3 H3 fp, WT (cxC X Nc scope cl s3 H3 fp) c (tT X.K ct)) (he : ∀ s3 H3 fp, WE (cxC X Nc scope cl s3 H3 fp) elt (tE X.K ce))
  (hclos : closureFor scope X.env = pure cl) (hkind : scope.kind = .function) (hnl : ∀ x ∈ scope.names, x.2 = .local → scope.names.lookup x.1 = some .local) (hcell : ∀ x ∈ scope.names, x.2 ≠ .cell)
  (hcl : mU X.env cl) (hhas : ((relabel scope X.env).names.all fun p => !(p.2 == .cell || p.2 == .free) || (cl.lookup p.1).isSome) = true)
  (hcap : Paired (Cap X scope cl) caps capN) (hN : Nc = tn ++ capN) (hn : tn.length = n)
  (hs : ∀ x, foldedSetIterable iter X.env x = pure x := by intro _; rfl) :
  QE X (.ListComp elt [⟨tg, iter, [c], 0⟩] scope pos) (gN ci g ct ce n caps) := (oj hc hi hg he ht hclos hkind hnl hcell hcl hhas hcap hN hn hs).imp oQ
end
end OP
namespace OP
open PySem PySem.Spec PyProof PyProof.Rows L2 OG
mutual
inductive RdV (K : PySem.W.Frag) (H : Hp) : V → PyData → Prop
 | non : RdV K H .non .none
 | bl (b : Bool) : RdV K H (.bl b) (.bool b)
 | int (i : Int) : RdV K H (.int i) (.int i)
 | str (x : Str) : RdV K H (.str x) (.str x)
 | lst {a : Addr} {xs : List V} {ds : List PyData} : SqL K H a xs → rC K H xs ds → RdV K H (.ref a) (.list ds)
 | tup {a : Addr} {xs : List V} {ds : List PyData} : SqT K H a xs → rC K H xs ds → RdV K H (.ref a) (.tuple ds)
inductive rC (K : PySem.W.Frag) (H : Hp) : List V → List PyData → Prop
 | nil : rC K H [] []
 | cons {x : V} {xs : List V} {d : PyData} {ds : List PyData} : RdV K H x d → rC K H xs ds → rC K H (x :: xs) (d :: ds)
end
mutual
inductive Dt (S : Sto) : U → PyData → Prop
 | non : Dt S .non .none
 | bl (b : Bool) : Dt S (.bl b) (.bool b)
 | int (i : Int) : Dt S (.int i) (.int i)
 | str (x : Str) : Dt S (.str x) (.str x)
 | lst {l : Nat} {us : List U} {ds : List PyData} : S[l]? = some (.lst us) → DtL S us ds → Dt S (.ref l) (.list ds)
 | tup {us : List U} {ds : List PyData} : DtL S us ds → Dt S (.tup us) (.tuple ds)
inductive DtL (S : Sto) : List U → List PyData → Prop
 | nil : DtL S [] []
 | cons {x : U} {xs : List U} {d : PyData} {ds : List PyData} : Dt S x d → DtL S xs ds → DtL S (x :: xs) (d :: ds)
end
section
variable {X : Cx} {K : PySem.W.Frag} {pins : List (Addr × Obj)} {σ : L2.St} {H : Hp} {s : Shared}
mutual
theorem RdV.reads (I : Inv X pins σ H s) : ∀ {x : V} {d : PyData} {v : Value}, RdV X.K H x d → cL x v → ∃ as, Reads s.heap v d as
 | _, _, _, .non, r => by cases r; exact ⟨_, .none⟩
 | _, _, _, .bl b, r => by cases r; exact ⟨_, .bool b⟩
 | _, _, _, .int i, r => by obtain ⟨t, rfl⟩ := r; exact ⟨_, .int i t⟩
 | _, _, _, .str i, r => by obtain ⟨t, rfl⟩ := r; exact ⟨_, .str i t⟩
 | _, _, _, .lst (a := a) h t, r => by
  cases r
  obtain ⟨its, rv, pl, _⟩ := I.list h
  obtain ⟨as, k⟩ := rC.reads I t rv
  obtain ⟨o, h1, h2, n, h3⟩ := pl.isList
  exact ⟨_, .list h1 h2 h3 (by simpa using k)⟩
 | _, _, _, .tup (a := a) h t, r => by
  cases r
  obtain ⟨its, rv, pl, _⟩ := I.tuple h
  obtain ⟨as, k⟩ := rC.reads I t rv
  obtain ⟨o, h1, h2, n, h3⟩ := pl
  exact ⟨_, .tuple h1 h2 h3 (by simpa using k)⟩
theorem rC.reads (I : Inv X pins σ H s) : ∀ {xs : List V} {ds : List PyData} {vs : List Value}, rC X.K H xs ds → bR xs vs → ∃ as, ReadsAll s.heap vs ds as
 | _, _, _, .nil, r => by cases r; exact ⟨_, .nil⟩
 | _, _, _, .cons h t, .cons r rs => by
  obtain ⟨as, a⟩ := RdV.reads I h r
  obtain ⟨bs, b⟩ := rC.reads I t rs
  exact ⟨_, .cons a b⟩
end
mutual
theorem Dt.rd {m : List Addr} {S : Sto} (sr : Sr K m S H) : ∀ {u : U} {d : PyData} {v : V}, Dt S u d → Is K m H v u → RdV K H v d
 | _, _, _, .non, i => by rw [i.of_non]; exact .non
 | _, _, _, .bl b, i => by rw [i.of_bl]; exact .bl b
 | _, _, _, .int b, i => by rw [i.of_int]; exact .int b
 | _, _, _, .str b, i => by rw [i.of_str]; exact .str b
 | _, _, _, .lst h t, i => by
  obtain ⟨a, ha, rfl⟩ := i.of_ref
  obtain ⟨a', ha', xs, hx, il⟩ := sr.get h
  rw [ha] at ha'; cases ha'
  exact .lst (SqL.of hx) (DtL.rd sr t il)
 | _, _, _, .tup t, i => by
  obtain ⟨a, xs, rfl, sa, la⟩ := i.of_tup
  exact .tup sa (DtL.rd sr t la)
theorem DtL.rd {m : List Addr} {S : Sto} (sr : Sr K m S H) : ∀ {us : List U} {ds : List PyData} {vs : List V}, DtL S us ds → IsL K m H vs us → rC K H vs ds
 | _, _, _, .nil, i => by rw [i.of_nil]; exact .nil
 | _, _, _, .cons h t, i => by
  obtain ⟨x, r, rfl, i1, i2⟩ := i.of_cons
  exact .cons (Dt.rd sr h i1) (DtL.rd sr t i2)
end
mutual
theorem Dt.uniq {S : Sto} : ∀ {u : U} {d e : PyData}, Dt S u d → Dt S u e → d = e
 | _, _, _, .non, .non => rfl
 | _, _, _, .bl _, .bl _ => rfl
 | _, _, _, .int _, .int _ => rfl
 | _, _, _, .str _, .str _ => rfl
 | _, _, _, .lst h t, .lst h' t' => by
  rw [h] at h'; cases h'
  rw [DtL.uniq t t']
 | _, _, _, .tup t, .tup t' => by rw [DtL.uniq t t']
theorem DtL.uniq {S : Sto} : ∀ {us : List U} {ds es : List PyData}, DtL S us ds → DtL S us es → ds = es
 | _, _, _, .nil, .nil => rfl
 | _, _, _, .cons h t, .cons h' t' => by rw [Dt.uniq h h', DtL.uniq t t']
end
noncomputable def rE (d : PyData) : Prop := d.canLay0 = true ∧ d.depth ≤ 60
noncomputable def BI (K : PySem.W.Frag) (neg : Bool) : R2 := fun x y H Q => (∃ dx dy, RdV K H x dx ∧ RdV K H y dy ∧ rE dx ∧ rE dy ∧ Q (.bl (if neg then !dx.eqv dy else dx.eqv dy)) H) ∨
 ∃ a b xs ys, x = .ref a ∧ y = .ref b ∧ SqL K H a xs ∧ SqL K H b ys ∧ xs.length ≠ ys.length ∧ Q (.bl neg) H
theorem qo (hu : X.A.units + 64 < cLine) : OpR X (compareOp .Eq) (BI X.K false) := by
 rintro pins s σ H x y v u Q I rx ry (⟨dx, dy, hx, hy, lx, ly, q⟩ | ⟨a, b, xs, ys, rfl, rfl, ha, hb, ne, q⟩)
 ·obtain ⟨as, hx⟩ := hx.reads I rx
  obtain ⟨bs, hy⟩ := hy.reads I ry
  exact SeqAt.compareEq_reads hx hy lx.1 ly.1 (by have := lx.2; omega) ⟨.bl _, H, I, rfl, q⟩
 ·cases rx
  cases ry
  obtain ⟨i1, r1, p1, _⟩ := I.list ha
  obtain ⟨i2, r2, p2, _⟩ := I.list hb
  have l1 := r1.length
  have l2 := r2.length
  exact SeqAt.RcAt.lists_lengths p1.isList p2.isList (by simp; omega) (by omega) X.prog X.w X.xe _ ⟨.bl false, H, I, rfl, q⟩
theorem zD (hu : X.A.units + 64 < cLine) : OpR X (compareOp .NotEq) (BI X.K true) := by
 rintro pins s σ H x y v u Q I rx ry (⟨dx, dy, hx, hy, lx, ly, q⟩ | ⟨a, b, xs, ys, rfl, rfl, ha, hb, ne, q⟩)
 ·obtain ⟨as, hx⟩ := hx.reads I rx
  obtain ⟨bs, hy⟩ := hy.reads I ry
  exact SeqAt.compareNe_reads hx hy lx.1 ly.1 (by have := lx.2; omega) ⟨.bl _, H, I, rfl, q⟩
 ·cases rx
  cases ry
  obtain ⟨i1, r1, p1, _⟩ := I.list ha
  obtain ⟨i2, r2, p2, _⟩ := I.list hb
  have l1 := r1.length
  have l2 := r2.length
  exact SeqAt.RcNeAt.lists_lengths p1.isList p2.isList (by simp; omega) (by omega) X.prog X.w X.xe _ ⟨.bl true, H, I, rfl, q⟩
noncomputable def rO (x y : U) (S : Sto) (b : Bool) : Prop := (∃ dx dy, Dt S x dx ∧ Dt S y dy ∧ rE dx ∧ rE dy ∧ b = dx.eqv dy) ∨ ∃ l l' us vs, x = .ref l ∧ y = .ref l' ∧ S[l]? = some (.lst us) ∧ S[l']? = some (.lst vs) ∧ us.length ≠ vs.length ∧ b = false
theorem DtL.length {S : Sto} : ∀ {us : List U} {ds : List PyData}, DtL S us ds → us.length = ds.length
 | _, _, .nil => rfl
 | _, _, .cons _ t => by rw [List.length_cons, List.length_cons, DtL.length t]
theorem rO.mix {l l' : Nat} {us vs : List U} {S : Sto} {dx dy : PyData} (h1 : Dt S (.ref l) dx) (h2 : Dt S (.ref l') dy) (k1 : S[l]? = some (.lst us)) (k2 : S[l']? = some (.lst vs)) (ne : us.length ≠ vs.length) : dx.eqv dy = false := by
 cases h1 with
 | lst a1 t1 =>
  cases h2 with
  | lst a2 t2 =>
   rw [k1] at a1; cases a1
   rw [k2] at a2; cases a2
   show PyData.eqvAll _ _ = false
   exact SeqAt.eqvAll_other_length (by rw [← t1.length, ← t2.length]; exact ne)
theorem rO.uniq {x y : U} {S : Sto} {b c : Bool} (h : rO x y S b) (k : rO x y S c) : b = c := by
 rcases h with ⟨dx, dy, h1, h2, _, _, rfl⟩ | ⟨l, l', us, vs, rfl, rfl, h1, h2, ne, rfl⟩
 ·rcases k with ⟨ex, ey, k1, k2, _, _, rfl⟩ | ⟨l, l', us, vs, rfl, rfl, k1, k2, ne, rfl⟩
  ·rw [h1.uniq k1, h2.uniq k2]
  ·exact rO.mix h1 h2 k1 k2 ne
 ·rcases k with ⟨ex, ey, k1, k2, _, _, rfl⟩ | ⟨_, _, _, _, _, _, _, _, _, rfl⟩
  ·exact (rO.mix k1 k2 h1 h2 ne).symm
  ·rfl
open Classical in
noncomputable def kX (neg : Bool) : U → U → Sto → Option (U × Sto) := fun x y S => if h : ∃ b, rO x y S b then some (.bl (if neg then !h.choose else h.choose), S) else none
theorem mD {x y : U} {S : Sto} {b : Bool} (neg : Bool) (h : rO x y S b) : kX neg x y S = some (.bl (if neg then !b else b), S) := by
 unfold kX
 rw [dif_pos ⟨b, h⟩]
 have e : (⟨b, h⟩ : ∃ b, rO x y S b).choose = b := (Exists.choose_spec (⟨b, h⟩ : ∃ b, rO x y S b)).uniq h
 rw [e]
theorem tm {neg : Bool} : OpP K (BI K neg) (kX neg) := by
 intro m S H x y v w u S' Q sr ix iy hf post
 unfold kX at hf
 split at hf <;> try cases hf
 rename_i h
 have hb := h.choose_spec
 generalize h.choose = b at hb post
 rcases hb with ⟨dx, dy, h1, h2, l1, l2, rfl⟩ | ⟨l, l', us, vs, rfl, rfl, h1, h2, ne, rfl⟩
 ·exact .inl ⟨dx, dy, h1.rd sr ix, h2.rd sr iy, l1, l2, post m _ H .refl sr .bl_⟩
 ·obtain ⟨a, ha, rfl⟩ := ix.of_ref
  obtain ⟨a', ha', xs, hx, la⟩ := sr.get h1
  rw [ha] at ha'; cases ha'
  obtain ⟨c, hc, rfl⟩ := iy.of_ref
  obtain ⟨c', hc', ys, hy, lc⟩ := sr.get h2
  rw [hc] at hc'; cases hc'
  refine .inr ⟨a, c, xs, ys, rfl, rfl, SqL.of hx, SqL.of hy, by rw [la.length, lc.length]; exact ne, ?_⟩
  have e : (if neg = true then !false else false) = neg := by cases neg <;> rfl
  have := post m _ H .refl sr (Is.bl_ (b := if neg = true then !false else false))
  rw [e] at this
  exact this
end
section
variable {X : Cx} {K : PySem.W.Frag}
noncomputable def wA (K : PySem.W.Frag) : R2 := fun x y H Q => ∃ a k xs, x = .ref a ∧ y = .int k ∧ SqT K H a xs ∧ xs ≠ [] ∧ 1 ≤ k ∧ xs.length * k.toNat ≤ 1000 ∧ ∀ q H', vx H H' → SqT K H' q (List.replicate k.toNat xs).flatten → Q (.ref q) H'
theorem wZ : OpR X (binaryOp .Mult) (wA X.K) := by
 intro pins s σ H x y v u Q I rx ry h
 obtain ⟨a, k, xs, rfl, rfl, ha, hne, hk, hz, q⟩ := h
 cases rx
 obtain ⟨t, rfl⟩ := ry
 obtain ⟨its, r1, p1, hzz⟩ := I.tuple ha
 have fe := r1.length
 obtain ⟨⟨cls, dd, data, sl⟩, ho, hc, n, hd⟩ := id p1
 simp only at hc hd
 subst hc hd
 have hne' : its ≠ [] := fun z => hne (r1.nil_iff.mp z)
 refine wpAny_binaryOp_repeat_ref (T := "tuple") (U := "int") (by decide) ⟨_, ho, rfl⟩ (fun s' => typeIs_int s' k t) g8 F.fills_int_mul F.slot_int_rmul ky F.slot_int_index.lookup
  (call_meets F.slot_int_rmul (typeIs_int s k t) F.entry_int_rmul (F.args_int_rmul_2 _ _) (jg k t a its.toArray n dd sl) ⟨ho, rfl, ⟨_, ho, rfl⟩, ?_⟩)
 by_cases k1 : k = 1
 ·subst k1
  refine call_meets F.slot_tuple_mul ⟨_, ho, rfl⟩ F.entry_tuple_mul (F.args_tuple_mul_2 _ _) (ma a its.toArray n dd sl t) ⟨ho, ⟨.ref a, H, I, rfl, q a H (.refl _) ?_⟩⟩
  simpa using ha
 ·have hfold : List.foldl (fun x1 x2 => x1 ++ x2) #[] (List.replicate k.toNat its.toArray) = (List.replicate k.toNat its).flatten.toArray := by
   have := iO its k.toNat []
   rw [List.nil_append] at this
   exact this
  have hfl : (List.replicate k.toNat its).flatten.length ≤ 1000 := by rw [mr, ← fe, Nat.mul_comm]; exact hz
  have hlp : 0 < its.length := List.length_pos_iff.mpr hne'
  have hk2 : k.toNat ≤ 1000 := Nat.le_trans (Nat.le_mul_of_pos_left _ (by rw [fe]; exact hlp)) hz
  have hsz : (its.toArray.size : Int) * k ≤ 1000 := by
   rw [List.size_toArray, ← fe]
   have e : k = ((k.toNat : Nat) : Int) := by omega
   rw [e, ← Int.natCast_mul]
   omega
  refine call_meets F.slot_tuple_mul ⟨_, ho, rfl⟩ F.entry_tuple_mul (F.args_tuple_mul_2 _ _) (lZ a its.toArray n dd sl k t ?_ ?_ ?_ ?_ ?_ ?_) ⟨ho, ?_⟩
  ·simp; omega
  ·simp [hne', k1]
  ·simp [hne']; omega
  ·omega
  ·unfold Builtin.Tuple.tupleTooMany
   have : ¬ (its.toArray.size : Int) * k > (sizeLine : Int) := by
    have : (1000 : Nat) ≤ sizeLine := kx (Nat.le_refl _)
    omega
   simpa using this
  ·rw [hfold, List.size_toArray]; exact kx hfl
  ·rw [hfold]
   refine ⟨.ref s.heap.objs.size, _, I.laid (t' := s.toks) (o := .tup (List.replicate k.toNat xs).flatten) (fun b ob q => Heap.get?_push_of_some _ q) (Nat.le_refl _) ?_, rfl, q _ _ (gq (I.hok.fresh (Nat.le_refl _)) _) (SqT.of aP)⟩
   exact ⟨kx (by rw [mr, Nat.mul_comm]; exact hz), _, r1.rep k.toNat, IsTup.new _ _⟩
noncomputable def kS : U → U → Sto → Option (U × Sto)
 | .int i, .int j, S => if rH i j then some (.int (i * j), S) else none
 | .tup us, .int k, S => if us ≠ [] ∧ 1 ≤ k ∧ us.length * k.toNat ≤ 1000 then some (.tup (List.replicate k.toNat us).flatten, S) else none
 | .ref l, .int k, S => match S[l]? with
  | some (.lst us) => if 0 ≤ k ∧ k ≤ 100000 ∧ us.length * k.toNat ≤ LIM then some (.ref S.length, S ++ [.lst (List.replicate k.toNat us).flatten]) else none
  | _ => none
 | _, _, _ => none
theorem va : OpR X (binaryOp .Mult) (fun x y H Q => rI rH (fun i j => .int (i * j)) x y H Q ∨ (wA X.K x y H Q ∨ BH x y H Q)) := gZ.or (wZ.or zC)
instance {us : List U} : Decidable (us ≠ []) := match us with
 | [] => .isFalse fun h => h rfl
 | _ :: _ => .isTrue fun h => by cases h
theorem uZ : OpP K (fun x y H Q => rI rH (fun i j => .int (i * j)) x y H Q ∨ (wA K x y H Q ∨ BH x y H Q)) kS := by
 intro m S H x y v w u S' Q sr ix iy hf post
 cases x <;> cases y <;> simp only [kS] at hf <;> try cases hf
 ·split at hf <;> try cases hf
  rename_i hc
  exact .inl ⟨_, _, ix.of_int, iy.of_int, hc, post m _ H .refl sr .int_⟩
 ·rename_i us k
  split at hf <;> try cases hf
  rename_i hc
  obtain ⟨a, xs, rfl, sa, la⟩ := ix.of_tup
  refine .inr (.inl ⟨a, k, xs, rfl, iy.of_int, sa, fun z => hc.1 ?_, hc.2.1, by rw [la.length]; exact hc.2.2, fun q H' s sq => ?_⟩)
  ·subst z
   have := la.length
   exact List.length_eq_zero_iff.mp this.symm
  ·exact post m _ H' (.of (dC s)) (sr.same s) (.tup_ sq ((la.rep k.toNat).mono (.of (dC s))))
 ·rename_i l k
  split at hf <;> try cases hf
  rename_i us hS
  split at hf <;> try cases hf
  rename_i hc
  obtain ⟨a, ha, rfl⟩ := ix.of_ref
  obtain ⟨a', ha', xs, hx, la⟩ := sr.get hS
  rw [ha] at ha'; cases ha'
  exact .inr (.inr ⟨a, k, xs, rfl, iy.of_int, hx, by omega, by omega, lim (by rw [la.length]; exact hc.2.2), fun p hp => eg sr (la.rep k.toNat) post hp⟩)
end
end OP
namespace OG
open PySem PySem.Spec PyProof.Rows L2
theorem zI {C a : Addr} {m : Str → Option Value} {h h' : Heap} (n : h.Ns C m) (s : Heap.SameBut a h h') (ne : C ≠ a) : h'.Ns C m := by
 obtain ⟨o, es, ep, e, r⟩ := n
 exact ⟨o, es, ep, (s.2 C ne).trans e, r⟩
theorem jx {X : Cx} {Nc capN tn : List Str} {scope : Scope} {cl : List (Str × Addr)} {n : Nat} {caps : List Nat} {tg iter elt : Expr} {pos : Pos} {wi : TI} {g : TG} {te : TE}
  (hc : X.calm = true) (hi : WI X tg iter wi) (hg : ∀ s3 H3 fp, WG (cxC X Nc scope cl s3 H3 fp) tg g) (he : ∀ s3 H3 fp, WE (cxC X Nc scope cl s3 H3 fp) elt te)
  (hclos : closureFor scope X.env = pure cl) (hkind : scope.kind = .function) (hnl : ∀ x ∈ scope.names, x.2 = .local → scope.names.lookup x.1 = some .local) (hcell : ∀ x ∈ scope.names, x.2 ≠ .cell)
  (hcl : mU X.env cl) (hhas : ((relabel scope X.env).names.all fun p => !(p.2 == .cell || p.2 == .free) || (cl.lookup p.1).isSome) = true)
  (hcap : Paired (Cap X scope cl) caps capN) (hN : Nc = tn ++ capN) (hn : tn.length = n)
  {i₀ : Nat} {x₀ : Str} {pos₀ pos' : Pos} (hN0 : X.N.Nodup) (hi0 : X.N[i₀]? = some x₀) (hx0 : X.env.scope.names.lookup x₀ = some .local)
  (hsw : swapsWith (.ListComp elt [⟨tg, iter, [], 0⟩] scope pos) (some (.Name x₀ pos')) pos₀.line X.env = pure true)
  (hs : ∀ x, foldedSetIterable iter X.env x = pure x := by intro _; rfl) :
  WS X (.Assign [.Name x₀ pos'] (.ListComp elt [⟨tg, iter, [], 0⟩] scope pos) pos₀) (fun D σ H => sx wi g te n caps σ H fun v H' => D.nx (σ.set i₀ (some v)) H') := by
 constructor
 intro pins s σ H Dn I h
 rw [exec_Assign_arm]
 refine wpAny_bind (wpAny_standAt ?_)
 have hsw' : swapsWithSole [.Name x₀ pos'] (.ListComp elt [⟨tg, iter, [], 0⟩] scope pos) pos₀.line X.env = pure true := hsw
 rw [hsw']
 refine wpAny_bind (wpAny_pure ?_)
 rw [if_pos rfl, arm_evalThenUse_ListComp]
 refine wpAny_bind (wpAny_bind (nY (Qf := fun _ s' => wpAny (model X.prog X.w) X.A (pure ()) (fun _ s' => wpAny (model X.prog X.w) X.A (pure Flow.next) (SP X pins Dn) X.xe s') X.xe s') hc hi hg he hclos hkind hnl hcell hcl hhas hcap hN hn I h (fun D C s6 H5 m I7 hm fr nl sz cn pn qn => ?_) hs))
 show wpAny _ _ (assign (.Name x₀ pos') X.env (.ref D)) _ _ s6
 rw [arm_assign_Name]
 refine wpAny_bind (wpAny_standAt (wpAny_bindName (ko (v := .ref D) I7 hN0 hi0 (.inl hx0) rfl (fun s7 I7' hsb => ?_) (.inr hx0))))
 obtain ⟨a7, hsb, ha7⟩ := hsb
 have cNe : C ≠ a7 := by
  rcases ha7 with z | z
  ·rw [z]; exact nl
  ·exact Ne.symm (cn _ _ z)
 refine ⟨m, zI hm hsb cNe, fun h' hs' => wpAny_pure (wpAny_pure ⟨_, H5, ?_, qn⟩)⟩
 exact I7'.turned (t' := s7.toks) (it := C) (fun b o hb e => hs'.extBut b o hb e) fr nl (.inr sz) cn pn
end OG
namespace OP
open PySem PySem.Spec PyProof.Rows L2 OG
section
variable {X : Cx} {K : PySem.W.Frag}
theorem oz {i₀ : Nat} {x₀ : Str} {pos₀ pos' : Pos} {Nc capN tn : List Str} {scope : Scope} {cl : List (Str × Addr)} {n : Nat} {caps : List Nat} {tg iter elt : Expr} {pos : Pos} {ci : CI} {g : CG} {ce : CE}
  (hc : X.calm = true) (hi : QI X tg iter ci) (hg : ∀ s3 H3 fp, WG (cxC X Nc scope cl s3 H3 fp) tg (tG X.K g)) (he : ∀ s3 H3 fp, WE (cxC X Nc scope cl s3 H3 fp) elt (tE X.K ce))
  (hclos : closureFor scope X.env = pure cl) (hkind : scope.kind = .function) (hnl : ∀ x ∈ scope.names, x.2 = .local → scope.names.lookup x.1 = some .local) (hcell : ∀ x ∈ scope.names, x.2 ≠ .cell)
  (hcl : mU X.env cl) (hhas : ((relabel scope X.env).names.all fun p => !(p.2 == .cell || p.2 == .free) || (cl.lookup p.1).isSome) = true)
  (hcap : Paired (Cap X scope cl) caps capN) (hN : Nc = tn ++ capN) (hn : tn.length = n)
  (hN0 : X.N.Nodup) (hi0 : X.N[i₀]? = some x₀) (hx0 : X.env.scope.names.lookup x₀ = some .local)
  (hsw : swapsWith (.ListComp elt [⟨tg, iter, [], 0⟩] scope pos) (some (.Name x₀ pos')) pos₀.line X.env = pure true)
  (hs : ∀ x, foldedSetIterable iter X.env x = pure x := by intro _; rfl) :
  QS X (.Assign [.Name x₀ pos'] (.ListComp elt [⟨tg, iter, [], 0⟩] scope pos) pos₀) (dc i₀ (ff ci g ce n caps)) := (jx hc hi hg he hclos hkind hnl hcell hcl hhas hcap hN hn hN0 hi0 hx0 hsw hs).imp fun D σ H hz => nU hz fun m ρ S o ρ' S' sr lr hc post => by
 obtain ⟨⟨u, S1⟩, h1, h2⟩ := Option.bind_eq_some_iff.mp hc
 cases h2
 exact nX _ _ _ ⟨m, ρ, S, u, _, sr, lr, h1, fun m1 v1 H1 e1 sr1 i1 => post m1 _ H1 e1 sr1 ((lr.mono e1).set i₀ i1)⟩
end
end OP
namespace OP
open PySem PySem.Spec PyProof PyProof.Rows L2 OG
section
variable {X : Cx} {K : PySem.W.Frag}
noncomputable def iR : U → List U → Sto → Option (U × Sto)
 | .ref l, [.int i], S => match S[l]? with
  | some (.lst us) => if 0 ≤ i ∧ i < us.length ∧ us.length ≤ LIM then (us[i.toNat]?).bind fun u => some (u, S.set l (.lst (us.eraseIdx i.toNat))) else none
  | _ => none
 | _, _, _ => none
theorem wX : MtP K uS iR := by
 intro m S H x v us vs u S' Q sr ix i hf post
 match x, us, hf with
 | .ref l, [.int k], hf =>
  simp only [iR] at hf
  split at hf <;> try cases hf
  rename_i ws hS
  split at hf <;> try cases hf
  rename_i hk
  obtain ⟨w, hw, h⟩ := Option.bind_eq_some_iff.mp hf
  cases h
  obtain ⟨a, ha, rfl⟩ := ix.of_ref
  obtain ⟨a', ha', xs, hx, la⟩ := sr.get hS
  rw [ha] at ha'; cases ha'
  obtain ⟨y, hy, iy⟩ := la.getD hw
  obtain ⟨z, rfl, iz⟩ := i.one
  have eu : Ext K m H m (upd H a (.lst (xs.eraseIdx k.toNat))) := .of (sr.keep ha _)
  have hL : ws.length ≤ 100000 := hk.2.2
  exact ⟨a, xs, k, k.toNat, y, rfl, by rw [iz.of_int], hx, by omega, by omega, seqIndex_of hk.1 (by rw [la.length]; exact hk.2.1), hy, post m _ _ eu (sr.put ha ⟨_, aP, (la.erase _).mono eu⟩) (iy.mono eu)⟩
variable {e : Expr} {es : List Expr} {co : CE} {cr : CA} {o : Expr} {apos cpos : Pos}
theorem wB (ho : QE X o co) (ha : QA X (e :: es) cr) (hbase : attributeBase o "pop" X.env (eval o X.env) = eval o X.env := by rfl) (hfew : ((backTo cpos (starEach (e :: es) X.env)).all (fun x => !x.1) && (backToKw cpos (keywordEach [] X.env)).all (fun x => x.1.isSome)
   && decide ((e :: es).length + ([] : List Keyword).length + (if ([] : List Keyword).isEmpty then 0 else 1) < 30)) = true := by rfl) (hline : (apos.endLine == cpos.line) = true := by rfl) (hs : starEach (e :: es) X.env = (false, eval e X.env) :: starEach es X.env := by rfl) (hplain : (backTo cpos (starEach es X.env)).any (·.1) = false := by rfl) :
  QE X (.Call (.Attribute o "pop" apos) (e :: es) [] cpos) (cBM iR co cr) := (uK PySem.F.plainAttrs_list PySem.F.slot_list_pop PySem.F.type_list_pop tJ ho ha.h hbase hfew hline hs hplain).imp (vw wX)
theorem uy (bs : List Bool) : (List.range bs.length).any (fun i => (bs[i]?).getD false) = bs.any id := by
 rw [Bool.eq_iff_iff, List.any_eq_true, List.any_eq_true]
 constructor
 ·rintro ⟨i, hi, h⟩
  have hi' := List.mem_range.mp hi
  rw [List.getElem?_eq_getElem hi', Option.getD_some] at h
  exact ⟨_, List.getElem_mem hi', h⟩
 ·rintro ⟨b, hb, h⟩
  obtain ⟨i, hi, e⟩ := List.mem_iff_getElem.mp hb
  refine ⟨i, List.mem_range.mpr hi, ?_⟩
  rw [List.getElem?_eq_getElem hi, Option.getD_some, e]
  exact h
theorem n5 (hc : X.calm = true) : eJ X (.builtin "any") (fun xs H Q => ∃ (p : Addr) (bs : List Bool), xs = [.ref p] ∧ SqL X.K H p (bs.map V.bl) ∧ Q (.bl (bs.any id)) H) := by
 intro pins s σ H xs us Q I r h
 obtain ⟨p, bs, rfl, hq, q⟩ := h
 obtain ⟨u, rfl, rx⟩ := lY r
 cases rx
 obtain ⟨its, rv, pl, hz⟩ := I.list hq
 have fe := rv.length
 rw [List.length_map] at fe
 refine call_any_walk (wpAny_pyIter_list pl.isList ?_)
 have lt : p < s.heap.objs.size := by obtain ⟨o, e, _⟩ := pl.isList; exact Heap.lt_size e
 refine ⟨s.heap.objs.size, _, _, _, _, _, fun i => (bs[i]?).getD false, rfl, Walks.list (show X.A.in1.handled = none from I.ok.hd hc) s.heap.objs.size p (Nat.ne_of_lt lt) its.toArray, ⟨⟨_, Heap.get?_push_size _ rfl, rfl, rfl⟩, pl.isList.at fun o e => Heap.get?_push_of_some _ e⟩, ?_, fun h' tk hk => ?_⟩
 ·intro i v s' Q' E' hP hQ
  have hP' : its.toArray[i]? = some v := hP
  obtain ⟨b, e1, e2⟩ := pM rv (by simpa using hP')
  subst e2
  dsimp only at hQ
  rw [e1, Option.getD_some] at hQ
  exact wpAny_truthy_bool hQ
 ·have e : (List.range its.toArray.size).any (fun i => (bs[i]?).getD false) = bs.any id := by
   rw [List.size_toArray, ← fe]; exact uy bs
  rw [e]
  exact ⟨.bl (bs.any id), H, I.kept fun b o e => hk b o (xh e) (Heap.get?_push_of_some _ e), rfl, q⟩
noncomputable def uk : Fn
 | [.ref l], S => match S[l]? with
  | some (.lst us) => (xT us).bind fun bs => some (.bl (bs.any id), S)
  | _ => none
 | _, _ => none
theorem zB : i0 K (fun xs H Q => ∃ (p : Addr) (bs : List Bool), xs = [.ref p] ∧ SqL K H p (bs.map V.bl) ∧ Q (.bl (bs.any id)) H) uk := by
 intro m S H us vs u S' Q sr i hf post
 match us, hf with
 | [.ref l], hf =>
  obtain ⟨v, rfl, iv⟩ := i.one
  obtain ⟨a, ha, rfl⟩ := iv.of_ref
  simp only [uk] at hf
  split at hf <;> try cases hf
  rename_i ws hS
  obtain ⟨bs, hb, h⟩ := Option.bind_eq_some_iff.mp hf
  cases h
  obtain ⟨a', ha', xs, hx, la⟩ := sr.get hS
  rw [ha] at ha'; cases ha'
  rw [rl hb] at la
  rw [la.bls] at hx
  exact ⟨a, bs, rfl, SqL.of hx, post m _ H .refl sr .bl_⟩
end
section
variable {X : Cx} {K : PySem.W.Frag}
theorem wk {e : Expr} {t : TE} (h : WE X e t) : WE X e (fun σ H Q => t σ H fun v H' => ∃ a ob kvs, rN X a ∧ H' a = some (.frz ob (.dK kvs)) ∧ Q v (upd H' a (.dK kvs))) :=
 ⟨fun pins s σ H Q I k => thn (h.h pins s σ H _ I k) fun u s1 ⟨v, H1, I1, r1, a, ob, kvs, nf, e, q⟩ => ⟨v, _, gy I1 nf e, r1, q⟩⟩
noncomputable def n6 (ce : CE) (f : (Sto → Prop) → Nat → List U → Rho → Sto → Option Sto) (n : Nat) (caps : List Nat) : CE := fun ρ S => (ce ρ S).bind fun p => match p.1 with
 | .ref l => match p.2[l]? with
  | some (.dic kus) => uni fun ep => (f (fun S' => S'[l]? = some (.fdc ep kus)) p.2.length (kus.map fun q => kU q.1) (ja n caps ρ) (p.2.set l (.fdc ep kus) ++ [.lst []])).bind fun S' => match S'[l]? with
   | some (.fdc _ kus') => some (.ref p.2.length, S'.set l (.dic kus'))
   | _ => none
  | _ => none
 | _ => none
noncomputable def d9 (ce : CE) (g : CG) (el : CE) (n : Nat) (caps : List Nat) : CE := n6 ce (fun ok l => eQ ok g el l) n caps
theorem kc {ce : CE} {f : (Sto → Prop) → Nat → List U → Rho → Sto → Option Sto} {n : Nat} {caps : List Nat} {G : It → Hp → L2.St → VK → Prop}
  (core : ∀ {J : It} {us : List U} {ok : Sto → Prop} {Q : VK} {m1 : List Addr} {H1 : Hp} {S1 S' : Sto} {ρ : Rho} {σ : L2.St}, Sr X.K m1 S1 H1 → Lr X.K m1 H1 ρ σ → uC X.K J m1 H1 us ok → f ok S1.length us (ja n caps ρ) (S1 ++ [.lst []]) = some S' →
   (∀ l, H1 l = none → ∀ m2 H2, Ext X.K (m1 ++ [l]) (upd H1 l (.lst [])) m2 H2 → Sr X.K m2 S' H2 → Q (.ref l) H2) → G J H1 σ Q) :
  ∀ σ H Q, tE X.K (n6 ce f n caps) σ H Q → xt X (tE X.K ce) σ H fun J H1 => G J H1 σ fun v H' => ∃ a ob kvs, rN X a ∧ H' a = some (.frz ob (.dK kvs)) ∧ Q v (upd H' a (.dK kvs)) := by
 rintro σ H Q ⟨m, ρ, S, u, S', sr, lr, hc, post⟩
 obtain ⟨⟨x, S1⟩, h1, h⟩ := Option.bind_eq_some_iff.mp hc
 refine ⟨m, ρ, S, x, S1, sr, lr, h1, fun m1 v1 H1 e1 sr1 i1 => ?_⟩
 cases x with
 | ref l =>
  simp only at h
  split at h <;> try cases h
  rename_i kus hS
  obtain ⟨a, ha, rfl⟩ := i1.of_ref
  obtain ⟨a', ha', kvs, hx, ip⟩ := sr1.get hS
  rw [ha] at ha'; cases ha'
  refine ⟨a, kvs, rfl, hx, fun ob es ep nf hd => ?_⟩
  obtain ⟨S2, h2, h3⟩ := Option.bind_eq_some_iff.mp (m8 h ep)
  try simp only at h3
  split at h3 <;> try cases h3
  rename_i ep' kus' hS2
  have kp : uB X.K H1 (upd H1 a (.frz ob (.dK kvs))) := sr1.keep ha _
  have ee : Ext X.K m1 H1 m1 (upd H1 a (.frz ob (.dK kvs))) := .of kp
  have sr2 : Sr X.K m1 (S1.set l (.fdc ep kus)) (upd H1 a (.frz ob (.dK kvs))) := sr1.put ha ⟨ob, es, kvs, aP, hd, ip.mono ee⟩
  rw [ip.1]
  have hln : (S1.set l (.fdc ep kus)).length = S1.length := by simp
  refine core sr2 (lr.mono (e1.trans ee)) (qK ha) (by rw [hln]; exact h2) fun p hp m3 H3 e3 sr3 => ?_
  have en : Ext X.K m1 (upd H1 a (.frz ob (.dK kvs))) (m1 ++ [p]) (upd (upd H1 a (.frz ob (.dK kvs))) p (.lst [])) := .new (b7 hp _)
  have e03 := en.trans e3
  obtain ⟨a3, ha3, ob3, es3, kvs3, hx3, hd3, ip3⟩ := sr3.get hS2
  rw [e03.get ha] at ha3; cases ha3
  have e4 : Ext X.K m3 H3 m3 (upd H3 a (.dK kvs3)) := .of (sr3.keep (e03.get ha) _)
  refine ⟨a, ob3, kvs3, nf, hx3, post m3 _ _ (((e1.trans ee).trans e03).trans e4) (sr3.put (e03.get ha) ⟨kvs3, aP, ip3.mono e4⟩) ?_⟩
  have lg : (m1 ++ [p])[S1.length]? = some p := dP sr1.len
  exact .ref_ (e3.get lg)
 | _ => cases h
variable {Nc capN tn : List Str} {scope : Scope} {cl : List (Str × Addr)} {n : Nat} {caps : List Nat} {tg iter elt c : Expr} {pos : Pos} {ci : CE} {g : CG} {ct : CT} {ce : CE}
theorem qa (hc : X.calm = true) (hi : QE X iter ci) (hg : ∀ s3 H3 fp, WG (cxC X Nc scope cl s3 H3 fp) tg (tG X.K g)) (he : ∀ s3 H3 fp, WE (cxC X Nc scope cl s3 H3 fp) elt (tE X.K ce))
  (hclos : closureFor scope X.env = pure cl) (hkind : scope.kind = .function) (hnl : ∀ x ∈ scope.names, x.2 = .local → scope.names.lookup x.1 = some .local) (hcell : ∀ x ∈ scope.names, x.2 ≠ .cell)
  (hcl : mU X.env cl) (hhas : ((relabel scope X.env).names.all fun p => !(p.2 == .cell || p.2 == .free) || (cl.lookup p.1).isSome) = true)
  (hcap : Paired (Cap X scope cl) caps capN) (hN : Nc = tn ++ capN) (hn : tn.length = n)
  (hs : ∀ x, foldedSetIterable iter X.env x = pure x := by intro _; rfl) :
  QE X (.ListComp elt [⟨tg, iter, [], 0⟩] scope pos) (d9 ci g ce n caps) :=
 (wk (mY hc (lX hi) hg he hclos hkind hnl hcell hcl hhas hcap hN hn hs)).imp (kc (G := fun J H1 σ Q => ∀ l, H1 l = none → ∃ W : Nat → Nat → L2.St → Hp → Prop, (∃ m, W 0 m (OG.stC n caps σ) (upd H1 l (.lst []))) ∧
  ∀ i m σ' H2, W i m σ' H2 → (J.stop i H2 ∧ Q (.ref l) H2) ∨ (J.go i H2 ∧ ∃ N : L2.St → Hp → Prop, (∀ σ'' H', N σ'' H' → ∃ m', m' < m ∧ W (i + 1) m' σ'' H') ∧
  ∀ x H3, J.yld i H2 x H3 → tG X.K g x σ' H3 fun σ2 H4 => tE X.K ce σ2 H4 fun v H5 => ∃ ys, H5 l = some (.lst ys) ∧ ys.length < sizeLine ∧ N σ2 (upd H5 l (.lst (ys ++ [v]))))) fun sr lr ito h2 post l hl => iU sr lr ito hl h2 (post l hl))
end
noncomputable def FzT (H : Hp) (a : Addr) (ep : Nat) (ks : List (List Key)) : Prop := ∃ ob es kvs, H a = some (.frz ob (.dT kvs)) ∧ ob.data = .dict es ep ∧ kvs.map (·.1) = ks
noncomputable def Itt (a : Addr) (ep : Nat) (ks : List (List Key)) : It :=
 ⟨fun i H => i < ks.length ∧ FzT H a ep ks, fun i H x H' => H' = H ∧ ∃ k p, ks[i]? = some k ∧ x = .ref p ∧ H p = some (.tup (k.map kV)), fun i H => ks.length ≤ i ∧ FzT H a ep ks⟩
end OP
namespace OP
open PySem PySem.Spec PyProof PyProof.Rows L2 OG PySem.W
noncomputable def ni (K : PySem.W.Frag) : Sp := fun vs H Q _ => ∃ (a : Addr) (ns : List Int), vs = [.ref a] ∧ KL K H a ns ∧ ns.length ≤ 63 ∧ ∀ H', Q (.bl true) H'
theorem B6 {K : PySem.W.Frag} {H : Hp} {a : Addr} {ns : List Int} (hO : AL H) (h : SqL K H a (ns.map V.int)) : KL K H a ns := by
 rcases h with (h | h) | h
 ·rcases hO a with e | ⟨o, xs, e⟩
  ·rw [e] at h; cases h
  ·rw [e] at h; cases h
 ·exact .inl h
 ·exact .inr h
theorem tV {K : PySem.W.Frag} {H : Hp} {a : Addr} {ns : List Int} {c : CS} {r : Rho} {σ : L2.St} {Q : VK} {nx bk ct : L2.St → Hp → Prop} (h : KL K H a ns)
  (ok : ∃ ρ' S', c (some (.kl ns) :: r) [] = some (.rt (.bl true), ρ', S')) (q : ∀ H', Q (.bl true) H')
  (hr : r = List.replicate r.length none := by rfl) (hl : σ.length = r.length := by rfl) : tS K c { nx := nx, rt := Q, bk := bk, ct := ct } (some (.ref a) :: σ) H := by
 obtain ⟨ρ', S', e⟩ := ok
 refine ⟨[], _, _, _, ρ', S', ⟨rfl, List.nodup_nil, fun l ad o e1 e2 => by simp at e1⟩, ⟨by simp [hl], fun i u e1 => ?_⟩, e, fun m' v H' _ _ iv => by rw [iv.of_bl]; exact q H'⟩
 cases i with
 | zero =>
  simp at e1
  subst e1
  exact ⟨.ref a, rfl, .kl_ h⟩
 | succ i =>
  simp only [List.getElem?_cons_succ] at e1
  rw [hr, List.getElem?_replicate] at e1
  split at e1 <;> cases e1
theorem Ba {ns : List Int} {i : Int} {S : Sto} : fIx (.kl ns) (.int i) S = (atI (ns.map U.int) i).bind fun u => some (u, S) := rfl
theorem o8 {ns : List Int} {S : Sto} : kW [.kl ns] S = some (.int ns.length, S) := rfl
section
variable {X : Cx} {K : PySem.W.Frag}
noncomputable def dt {κ α : Type} [DecidableEq κ] (kus : List (κ × α)) (k : κ) : List (κ × α) := kus.filter fun p => decide (p.1 ≠ k)
theorem IsP.dropP {m : List Addr} {H : Hp} {kvs : List (Key × V)} {kus : List (Key × U)} {k : Key} (h : IsP K m H kvs kus) : IsP K m H (jZ kvs k) (dt kus k) := by
 refine IsP.ind (P := fun kvs kus => IsP K m H (jZ kvs k) (dt kus k)) .nil_ (fun k' v u kvs kus i _ ih => ?_) h
 unfold jZ dt at ih ⊢
 by_cases e : k' = k
 ·rw [List.filter_cons_of_neg (by simp [e]), List.filter_cons_of_neg (by simp [e])]; exact ih
 ·rw [List.filter_cons_of_pos (by simp [e]), List.filter_cons_of_pos (by simp [e])]; exact .cons_ i ih
noncomputable def uj : U → U → Sto → Option (U × Sto) := fun x y S => match x with
 | .ref l => match S[l]? with
  | some (.dic kus) => (gK y).bind fun k => (aK kus k).bind fun u => some (u, S.set l (.dic (dt kus k)))
  | _ => none
 | _ => none
noncomputable def lG (co ck : CE) : CE := fun ρ S => (co ρ S).bind fun p => match p.1 with
 | .ref l => match p.2[l]? with
  | some (.dic _) => (ck ρ p.2).bind fun q => uj p.1 q.1 q.2
  | _ => none
 | _ => none
theorem uX {o e : Expr} {co ck : CE} {apos cpos : Pos} (ho : QE X o co) (he : QE X e ck) (m1 : M1 X o "pop" apos e cpos) : QE X (.Call (.Attribute o "pop" apos) [e] [] cpos) (lG co ck) :=
 (pG ho he m1).imp fun σ H Q hz => kY hz fun m ρ S u S' sr lr hc post => by
 obtain ⟨⟨x, S1⟩, h1, h⟩ := Option.bind_eq_some_iff.mp hc
 refine ⟨m, ρ, S, _, S1, sr, lr, h1, fun m1 v1 H1 e1 sr1 i1 => ?_⟩
 cases x with
 | ref l =>
  simp only at h
  split at h <;> try cases h
  rename_i kus0 hS0
  obtain ⟨⟨y, S2⟩, h3, h4⟩ := Option.bind_eq_some_iff.mp h
  obtain ⟨a, ha, rfl⟩ := i1.of_ref
  obtain ⟨a0, ha0, kvs0, hx0, ip0⟩ := sr1.get hS0
  rw [ha] at ha0; cases ha0
  refine ⟨a, rfl, .inl ⟨kvs0, .inl hx0⟩, m1, ρ, S1, _, S2, sr1, lr.mono e1, h3, fun m2 v2 H2 e2 sr2 i2 => ?_⟩
  simp only [uj] at h4
  split at h4 <;> try cases h4
  rename_i kus hS
  obtain ⟨k, hk, h5⟩ := Option.bind_eq_some_iff.mp h4
  obtain ⟨w, hw, h6⟩ := Option.bind_eq_some_iff.mp h5
  cases h6
  obtain ⟨a', ha', kvs, hx, ip⟩ := sr2.get hS
  rw [e2.get ha] at ha'; cases ha'
  have ek := fW i2 hk
  have rf := IsP.val (k := k) ip
  rw [hw] at rf
  cases hv : fG kvs k with
  | none => rw [hv] at rf; exact rf.elim
  | some z =>
   rw [hv] at rf
   have ee : Ext X.K m2 H2 m2 (upd H2 a (.dK (jZ kvs k))) := .of (sr2.keep (e2.get ha) _)
   exact ⟨kvs, k, z, hx, ek, hv, post m2 _ _ ((e1.trans e2).trans ee) (sr2.put (e2.get ha) ⟨_, aP, ip.dropP.mono ee⟩) (Is.mono ee rf)⟩
 | _ => cases h
noncomputable def CV : R2 := fun x y H Q => ∃ (a b : Addr) (kvs : List (Key × V)), x = .ref a ∧ y = .ref b ∧ H a = some (.dK kvs) ∧ H b = some (.dK []) ∧ Q (.bl (decide (kvs.length = 0))) H
theorem zE (hu : X.A.units + 64 < cLine) : OpR X (compareOp .Eq) CV := by
 rintro pins s σ H x y v u Q I rx ry ⟨a, b, kvs, rfl, rfl, ha, hb, q⟩
 cases rx
 cases ry
 obtain ⟨z, hd, vs, rel, dd⟩ := mI I.hok ha
 obtain ⟨z', hd', vs', rel', dd'⟩ := mI I.hok hb
 have lv : vs.length = kvs.length := (Paired.length rel).symm
 have lv' : vs'.length = 0 := (Paired.length rel').symm
 have ev : vs' = [] := List.length_eq_zero_iff.mp lv'
 subst ev
 refine keq_eq (r := true) hd hd' dd dd' (by omega) (fun e => ?_) ⟨.bl _, H, I, rfl, ?_⟩
 ·have : vs = [] := List.length_eq_zero_iff.mp e
  subst this
  exact .nil
 ·have e : (vs.length == ([] : List (Key × Value)).length && true) = decide (kvs.length = 0) := by
   rw [Bool.and_true, lv, List.length_nil, Bool.eq_iff_iff]; simp
  rw [e]; exact q
noncomputable def Ac : U → U → Sto → Option (U × Sto)
 | .ref l, .ref k, S => match S[l]?, S[k]? with
  | some (.dic kus), some (.dic []) => some (.bl (decide (kus.length = 0)), S)
  | _, _ => none
 | _, _, _ => none
theorem B2 : OpP K CV Ac := by
 intro m S H x y v w u S' Q sr ix iy hf post
 cases x with
 | ref l =>
  cases y with
  | ref k =>
   simp only [Ac] at hf
   split at hf <;> try cases hf
   rename_i kus h1 h2
   obtain ⟨a, ha, rfl⟩ := ix.of_ref
   obtain ⟨b, hb, rfl⟩ := iy.of_ref
   obtain ⟨a', ha', kvs, hx, ip⟩ := sr.get h1
   rw [ha] at ha'; cases ha'
   obtain ⟨b', hb', kvs', hx', ip'⟩ := sr.get h2
   rw [hb] at hb'; cases hb'
   have l0 : kvs' = [] := by
    have := IsP.length ip'
    exact List.length_eq_zero_iff.mp this
   subst l0
   exact ⟨a, b, kvs, rfl, rfl, hx, hx', by rw [IsP.length ip]; exact post m _ H .refl sr .bl_⟩
  | _ => cases hf
 | _ => cases hf
noncomputable def uT : List V → Hp → VK → Prop := fun xs H Q => ∃ (d : Addr) (kvs : List (Key × V)), xs = [.ref d] ∧ H d = some (.dK kvs) ∧ ∀ l, H l = none → Q (.ref l) (upd H l (.lst (kvs.map fun p => kV p.1)))
theorem pL {n : Nat} {ks : List Key} : ∀ {vs : List Value}, vs.length = ks.length → (∀ (i : Nat) (v : Value), vs[i]? = some v → ∃ k, ks[i]? = some k ∧ kK k v = true) → bR (ks.map kV) vs := by
 induction ks with
 | nil => intro vs hl _; rw [List.length_eq_zero_iff.mp hl]; exact .nil
 | cons k ks ih =>
  intro vs hl h
  cases vs with
  | nil => simp at hl
  | cons v vs =>
   refine .cons ?_ (ih (by simpa using hl) fun i v' e => by
    obtain ⟨k', h1, h2⟩ := h (i + 1) v' (by simpa using e)
    exact ⟨k', by simpa using h1, h2⟩)
   obtain ⟨k', h1, h2⟩ := h 0 v rfl
   simp at h1
   subst h1
   rcases aZ h2 with ⟨j, t, e6, e7⟩ | ⟨j, t, e6, e7⟩
   ·subst e6; subst e7; exact ⟨t, rfl⟩
   ·subst e6; subst e7; exact ⟨t, rfl⟩
theorem qq (hc : X.calm = true) : eJ X (.type "list") uT := by
 rintro pins s σ H xs us Q I r ⟨d, kvs, rfl, hD, q⟩
 obtain ⟨u, rfl, ru⟩ := lY r
 cases ru
 obtain ⟨z, hd, vs, rel, dd⟩ := mI I.hok hD
 obtain ⟨ep, da⟩ := dd.dictAt
 have lv : vs.length = kvs.length := (Paired.length rel).symm
 refine kdl_call (kdl_dict (kvs := vs) (ep := ep) hd) (I.ok.hd hc) da (by rw [lv]; exact z) fun h' tk acc c up gl hac => ?_
 have hks : vs.map (·.1) = kvs.map (·.1) := (mv rel)
 have hv : bR (kvs.map fun p => kV p.1) acc.toList := by
  have := pL (n := 0) (ks := kvs.map (·.1)) (vs := acc.toList) (by rw [Array.length_toList, hac.1, List.length_map, lv]) fun i v e => by
   obtain ⟨k, x, e1, e2⟩ := hac.2 i v (by rw [← Array.getElem?_toList]; exact e)
   exact ⟨k, by rw [← hks, List.getElem?_map, e1]; rfl, e2⟩
  rw [List.map_map] at this
  exact this
 refine ⟨.ref s.heap.objs.size, _, I.laid (o := .lst (kvs.map fun p => kV p.1)) (t' := tk) up (Nat.le_refl _) ⟨by rw [List.length_map]; exact z, _, c, hv, by rw [gl]⟩, rfl, q _ (I.hok.fresh (Nat.le_refl _))⟩
noncomputable def fw : Fn
 | [.ref l], S => match S[l]? with
  | some (.dic kus) => some (.ref S.length, S ++ [.lst (kus.map fun p => kU p.1)])
  | _ => none
 | _, _ => none
theorem kM {m : List Addr} {H : Hp} : ∀ ks : List Key, IsL K m H (ks.map kV) (ks.map kU)
 | [] => .nil_
 | k :: ks => .cons_ (ve k) (kM ks)
theorem qi : i0 K uT fw := by
 intro m S H us vs u S' Q sr i hf post
 match us, hf with
 | [.ref l], hf =>
  obtain ⟨v, rfl, iv⟩ := i.one
  obtain ⟨a, ha, rfl⟩ := iv.of_ref
  simp only [fw] at hf
  split at hf <;> try cases hf
  rename_i kus hS
  obtain ⟨a', ha', kvs, hx, ip⟩ := sr.get hS
  rw [ha] at ha'; cases ha'
  refine ⟨a, kvs, rfl, hx, fun p hp => ?_⟩
  have e1 : (kvs.map fun p => kV p.1) = (kus.map (·.1)).map kV := by rw [← ip.1, List.map_map]; rfl
  have e2 : (kus.map fun p => kU p.1) = (kus.map (·.1)).map kU := by rw [List.map_map]; rfl
  rw [e1]
  have il : IsL K m H ((kus.map (·.1)).map kV) (kus.map fun p => kU p.1) := by rw [e2]; exact kM _
  exact eg sr il post hp
noncomputable def j0 (c1 c2 : CE) : CE := fun ρ S => match c1 ρ S with
 | some r => some r
 | none => c2 ρ S
theorem sI {e : Expr} {c1 c2 : CE} (h1 : QE X e c1) (h2 : QE X e c2) : QE X e (j0 c1 c2) :=
 (h1.or h2).imp fun σ H Q hz => kY hz fun m ρ S u S' sr lr hc post => by
 unfold j0 at hc
 split at hc
 ·rename_i r hr
  cases hc
  exact .inl ⟨m, ρ, S, u, S', sr, lr, hr, post⟩
 ·exact .inr ⟨m, ρ, S, u, S', sr, lr, hc, post⟩
theorem mh {i₀ : Nat} {x₀ : Str} {pos₀ pos' : Pos} {Nc capN tn : List Str} {scope : Scope} {cl : List (Str × Addr)} {n : Nat} {caps : List Nat} {tg iter elt : Expr} {pos : Pos} {ci : CE} {g : CG} {ce : CE}
  (hc : X.calm = true) (hi : QE X iter ci) (hg : ∀ s3 H3 fp, WG (cxC X Nc scope cl s3 H3 fp) tg (tG X.K g)) (he : ∀ s3 H3 fp, WE (cxC X Nc scope cl s3 H3 fp) elt (tE X.K ce))
  (hclos : closureFor scope X.env = pure cl) (hkind : scope.kind = .function) (hnl : ∀ x ∈ scope.names, x.2 = .local → scope.names.lookup x.1 = some .local) (hcell : ∀ x ∈ scope.names, x.2 ≠ .cell)
  (hcl : mU X.env cl) (hhas : ((relabel scope X.env).names.all fun p => !(p.2 == .cell || p.2 == .free) || (cl.lookup p.1).isSome) = true)
  (hcap : Paired (Cap X scope cl) caps capN) (hN : Nc = tn ++ capN) (hn : tn.length = n)
  (hN0 : X.N.Nodup) (hi0 : X.N[i₀]? = some x₀) (hx0 : X.env.scope.names.lookup x₀ = some .local)
  (hsw : swapsWith (.ListComp elt [⟨tg, iter, [], 0⟩] scope pos) (some (.Name x₀ pos')) pos₀.line X.env = pure true)
  (hs : ∀ x, foldedSetIterable iter X.env x = pure x := by intro _; rfl) :
  QS X (.Assign [.Name x₀ pos'] (.ListComp elt [⟨tg, iter, [], 0⟩] scope pos) pos₀) (dc i₀ (d9 ci g ce n caps)) :=
 (pj (jx hc (lX hi) hg he hclos hkind hnl hcell hcl hhas hcap hN hn hN0 hi0 hx0 hsw hs)).imp fun D σ H hz => nU hz fun m ρ S o ρ' S' sr lr hc post => by
 obtain ⟨⟨u, S1⟩, h1, h2⟩ := Option.bind_eq_some_iff.mp hc
 cases h2
 exact kc (G := fun J H1 σ Q => ∀ l, H1 l = none → ∃ W : Nat → Nat → L2.St → Hp → Prop, (∃ m, W 0 m (OG.stC n caps σ) (upd H1 l (.lst []))) ∧
  ∀ i m σ' H2, W i m σ' H2 → (J.stop i H2 ∧ Q (.ref l) H2) ∨ (J.go i H2 ∧ ∃ N : L2.St → Hp → Prop, (∀ σ'' H', N σ'' H' → ∃ m', m' < m ∧ W (i + 1) m' σ'' H') ∧
  ∀ x H3, J.yld i H2 x H3 → tG X.K g x σ' H3 fun σ2 H4 => tE X.K ce σ2 H4 fun v H5 => ∃ ys, H5 l = some (.lst ys) ∧ ys.length < sizeLine ∧ N σ2 (upd H5 l (.lst (ys ++ [v]))))) (fun sr lr ito h2 post l hl => iU sr lr ito hl h2 (post l hl))
  σ H (fun v H' => D.nx (σ.set i₀ (some v)) H') ⟨m, ρ, S, u, _, sr, lr, h1, fun m1 v1 H1 e1 sr1 i1 => post m1 _ H1 e1 sr1 ((lr.mono e1).set i₀ i1)⟩
end
end OP
namespace OQ
open PySem PySem.Spec PyProof.Rows L2 OG OP
noncomputable def dQ : CS :=
 (aV (dc 3 (cOp lQ (cOp jb (cOp jb (cOp jb (cOp jU (ah 3) (ah 3)) (cOp jU (cC (.int 50021)) (ah 3))) (cOp jU (cC (.int 19)) (ah 5))) (cC (.int 7))) (cC (.int 2147483563))))
  (dc 4 (cOp jb (cOp jU (ah 4) (cC (.int 2147483563))) (ah 3))))
noncomputable def dw : CS :=
 (aV (dc 2 (cOp jb (cOp jU (cC (.int 5)) (ah 1)) (cC (.int 3))))
  (aV (gh (bI (cOp fLt (ah 1) (cCB kW (af (ah 0) aG)))) (dc 2 (cOp fIx (ah 0) (ah 1))) dm)
  (aV (gh (bI (cOp fEq (cOp lQ (ah 2) (cC (.int 2))) (cC (.int 0)))) (eU (lF (af (cOp vl (ah 2) (cC (.int 2))) aG))) dm)
  (aV (dc 3 (cOp lQ (cOp jb (cOp jb (cOp jU (ah 2) (cC (.int 30011))) (cOp jU (cC (.int 977)) (ah 1))) (cC (.int 41))) (cC (.int 2147483563))))
  (aV (dc 4 (cC (.int 0)))
  (aV (iq (bC (af (cC (.int 60)) aG)) (gNm 5) (dQ ))
  (eU (lF (af (ah 4) aG)))))))))
theorem mE {a0 a1 : U} {S : Sto} : fnU 6 2 (dw ) [a0, a1] S = ((dw ) [some a0, some a1, none, none, none, none] S).bind kFn := jH rfl
noncomputable def eG : CS :=
 (aV (dc 2 (cOp lQ (cOp fIx (ah 0) (cC (.int 0))) (ah 1)))
  (aV (dM (ah 0) (cC (.int 0)) (cOp vl (cOp fIx (ah 0) (cC (.int 0))) (ah 1)))
  (eU (ah 2))))
theorem oN {a0 a1 : U} {S : Sto} : fnU 3 2 (eG ) [a0, a1] S = ((eG ) [some a0, some a1, none] S).bind kFn := jH rfl
noncomputable def cI (cAttempt : Cl) : CS :=
 (aV (eT cAttempt 0 (ah 0) (ah 1))
  (aV (eT cAttempt 1 (ah 0) hJ)
  (aV (eT cAttempt 2 (ah 0) hJ)
  (aV (eT cAttempt 3 (ah 0) (cC .non))
  (aV (eT cAttempt 4 (ah 0) (lF aG))
  (eT cAttempt 5 (ah 0) (cC (.bl true))))))))
theorem js {cAttempt : Cl} {a0 a1 : U} {S : Sto} : fnU 2 2 (cI cAttempt) [a0, a1] S = ((cI cAttempt) [some a0, some a1] S).bind kFn := jH rfl
noncomputable def dk (cKeeper : Cl) : CS :=
 (aV (eT cKeeper 0 (ah 0) (cCB jW (af (ah 2) aG)))
  (aV (eT cKeeper 1 (ah 0) (cOp kS (lF (af (cC (.int 0)) aG)) (cCB kW (af (ah 2) aG))))
  (aV (eT cKeeper 2 (ah 0) hJ)
  (aV (eT cKeeper 3 (ah 0) (cC (.int 0)))
  (aV (eT cKeeper 4 (ah 0) (lF aG))
  (eT cKeeper 5 (ah 0) hJ))))))
theorem jX {cKeeper : Cl} {a0 a1 a2 : U} {S : Sto} : fnU 3 3 (dk cKeeper) [a0, a1, a2] S = ((dk cKeeper) [some a0, some a1, some a2] S).bind kFn := jH rfl
noncomputable def cZ (cKeeper cAttempt : Cl) : CS :=
 (aV (dc 3 (cOp fIx (bY cKeeper 5 (ah 0)) (ah 1)))
  (aV (eT cAttempt 5 (ah 3) (cC (.bl false)))
  (iV (cBM eP (bY cKeeper 4 (ah 0)) (af (mN (af (ah 2) (af (ah 1) aG))) aG)))))
theorem g6 {cKeeper cAttempt : Cl} {a0 a1 a2 : U} {S : Sto} : fnU 4 3 (cZ cKeeper cAttempt) [a0, a1, a2] S = ((cZ cKeeper cAttempt) [some a0, some a1, some a2, none] S).bind kFn := jH rfl
noncomputable def cG (cKeeper cAttempt : Cl) : CS :=
 (aV (gh (cOr (bI (cOp (fIn true) (ah 1) (bY cKeeper 5 (ah 0)))) (Ah (bI (bY cAttempt 5 (cOp fIx (bY cKeeper 5 (ah 0)) (ah 1)))))) jF dm)
  (eU (cOp fIx (bY cKeeper 5 (ah 0)) (ah 1))))
theorem jq {cKeeper cAttempt : Cl} {a0 a1 : U} {S : Sto} : fnU 2 2 (cG cKeeper cAttempt) [a0, a1] S = ((cG cKeeper cAttempt) [some a0, some a1] S).bind kFn := jH rfl
noncomputable def bL (aB : Fn) (cKeeper cAttempt : Cl) : CS :=
 (aV (dc 2 (cD cKeeper aB (ah 0) (af (ah 1) aG)))
  (aV (gh (bI (cOp uh (bY cAttempt 3 (ah 2)) (cC .non))) jF dm)
  (eU (ah 2))))
theorem hG {aB : Fn} {cKeeper cAttempt : Cl} {a0 a1 : U} {S : Sto} : fnU 3 2 (bL aB cKeeper cAttempt) [a0, a1] S = ((bL aB cKeeper cAttempt) [some a0, some a1, none] S).bind kFn := jH rfl
noncomputable def bT (cKeeper : Cl) : CS :=
 (eU (cCB uk (af (j0 (ff (iTp (ah 2)) (gNm 0) (cOp fNe (mP (bY cKeeper 2 (ah 2)) (ah 0) (ah 1)) (ah 1)) 1 [1, 0]) (d9 (ah 2) (gNm 0) (cOp fNe (mP (bY cKeeper 2 (ah 2)) (ah 0) (ah 1)) (ah 1)) 1 [1, 0])) aG)))
theorem ej {cKeeper : Cl} {a0 a1 a2 : U} {S : Sto} : fnU 3 3 (bT cKeeper) [a0, a1, a2] S = ((bT cKeeper) [some a0, some a1, some a2] S).bind kFn := jH rfl
noncomputable def bc (cKeeper cAttempt : Cl) : CS :=
 (aV (dc 2 (cOp fIx (bY cKeeper 5 (ah 0)) (ah 1)))
  (eU (cCB uk (af (d9 (bY cAttempt 1 (ah 2)) (gNm 0) (cOp fGt (cOp fIx (bY cKeeper 1 (ah 2)) (ah 0)) (bY cAttempt 0 (ah 1))) 1 [2, 0]) aG))))
theorem fK {cKeeper cAttempt : Cl} {a0 a1 : U} {S : Sto} : fnU 3 2 (bc cKeeper cAttempt) [a0, a1] S = ((bc cKeeper cAttempt) [some a0, some a1, none] S).bind kFn := jH rfl
noncomputable def bp (av ar : Fn) (cKeeper cAttempt : Cl) : CS :=
 (aV (gh (bI (cD cKeeper av (ah 0) (af (ah 1) (af (lF (af (ah 2) aG)) aG)))) (eU (cC (.bl true))) dm)
  (aV (gh (bI (cOp fLe (cOp fIx (bY cKeeper 1 (ah 0)) (ah 2)) (bY cAttempt 0 (cOp fIx (bY cKeeper 5 (ah 0)) (ah 1))))) (eU (cC (.bl false))) dm)
  (eU (AJ (cD cKeeper av (ah 0) (af (ah 1) (af (bY cAttempt 1 (cOp fIx (bY cKeeper 5 (ah 0)) (ah 1))) aG))) (cD cKeeper ar (ah 0) (af (ah 1) aG))))))
theorem fY {av ar : Fn} {cKeeper cAttempt : Cl} {a0 a1 a2 : U} {S : Sto} : fnU 3 3 (bp av ar cKeeper cAttempt) [a0, a1, a2] S = ((bp av ar cKeeper cAttempt) [some a0, some a1, some a2] S).bind kFn := jH rfl
noncomputable def bB (cKeeper cAttempt : Cl) : CS :=
 (aV (gh (bI (cOp fGt (cOp fIx (bY cKeeper 1 (ah 0)) (ah 2)) (bY cAttempt 0 (ah 1)))) (eT cAttempt 0 (ah 1) (bY cKeeper 3 (ah 0))) dm)
  (aV (dM (bY cAttempt 1 (ah 1)) (ah 2) (cC (.bl true)))
  (eU (cOp fIx (bY cKeeper 0 (ah 0)) (ah 2)))))
theorem gD {cKeeper cAttempt : Cl} {a0 a1 a2 : U} {S : Sto} : fnU 3 3 (bB cKeeper cAttempt) [a0, a1, a2] S = ((bB cKeeper cAttempt) [some a0, some a1, some a2] S).bind kFn := jH rfl
noncomputable def cH (bF : Fn) (cKeeper cAttempt : Cl) : CS :=
 (aV (gh (bI (cOp (fIn false) (ah 1) (bY cKeeper 5 (ah 0)))) jF dm)
  (aV (dM (bY cKeeper 5 (ah 0)) (ah 1) (cCB (jo cAttempt bF) (af (bY cKeeper 3 (ah 0)) aG)))
  (iV (cBM eP (bY cKeeper 4 (ah 0)) (af (mN (af (cC (.str "begin")) (af (ah 1) aG))) aG)))))
theorem jr {bF : Fn} {cKeeper cAttempt : Cl} {a0 a1 : U} {S : Sto} : fnU 2 2 (cH bF cKeeper cAttempt) [a0, a1] S = ((cH bF cKeeper cAttempt) [some a0, some a1] S).bind kFn := jH rfl
noncomputable def cf (ak aN aw aR : Fn) (cKeeper cAttempt : Cl) : CS :=
 (aV (dc 3 (cD cKeeper ak (ah 0) (af (ah 1) aG)))
  (aV (gh (bI (cOp (fIn false) (ah 2) (bY cAttempt 2 (ah 3)))) (dc 4 (cOp fIx (bY cAttempt 2 (ah 3)) (ah 2))) (gh (bI (cD cKeeper aN (ah 0) (af (ah 1) (af (ah 2) aG)))) (aV (iV (cD cKeeper aw (ah 0) (af (ah 1) (af (cC (.str "fall")) aG))))
  (eU (mN (af (cC (.str "falls")) aG)))) (dc 4 (cD cKeeper aR (ah 0) (af (ah 3) (af (ah 2) aG))))))
  (aV (iV (cBM eP (bY cKeeper 4 (ah 0)) (af (mN (af (cC (.str "look")) (af (ah 1) (af (ah 2) (af (ah 4) aG))))) aG)))
  (eU (mN (af (cC (.str "number")) (af (ah 4) aG)))))))
theorem gE {ak aN aw aR : Fn} {cKeeper cAttempt : Cl} {a0 a1 a2 : U} {S : Sto} : fnU 5 3 (cf ak aN aw aR cKeeper cAttempt) [a0, a1, a2] S = ((cf ak aN aw aR cKeeper cAttempt) [some a0, some a1, some a2, none, none] S).bind kFn := jH rfl
noncomputable def dE (ak : Fn) (cKeeper cAttempt : Cl) : CS :=
 (aV (dc 4 (cD cKeeper ak (ah 0) (af (ah 1) aG)))
  (aV (dM (bY cAttempt 2 (ah 4)) (ah 2) (ah 3))
  (iV (cBM eP (bY cKeeper 4 (ah 0)) (af (mN (af (cC (.str "put")) (af (ah 1) (af (ah 2) (af (ah 3) aG))))) aG)))))
theorem lh {ak : Fn} {cKeeper cAttempt : Cl} {a0 a1 a2 a3 : U} {S : Sto} : fnU 5 4 (dE ak cKeeper cAttempt) [a0, a1, a2, a3] S = ((dE ak cKeeper cAttempt) [some a0, some a1, some a2, some a3, none] S).bind kFn := jH rfl
noncomputable def ed (ak aw av ar : Fn) (cKeeper cAttempt : Cl) : CS :=
 (dM (bY cKeeper 2 (ah 0)) (ah 3) (ah 1))
noncomputable def b8 (ak aw av ar : Fn) (cKeeper cAttempt : Cl) : CS :=
 (aV (dc 2 (cD cKeeper ak (ah 0) (af (ah 1) aG)))
  (aV (gh (bI (cOp fEq (cCB kW (af (bY cAttempt 2 (ah 2)) aG)) (cC (.int 0)))) (aV (iV (cD cKeeper aw (ah 0) (af (ah 1) (af (cC (.str "done")) aG))))
  (eU (cC (.str "done")))) dm)
  (aV (gh (cOr (bI (cD cKeeper av (ah 0) (af (ah 1) (af (bY cAttempt 1 (ah 2)) aG)))) (cOr (bI (cD cKeeper av (ah 0) (af (ah 1) (af (bY cAttempt 2 (ah 2)) aG)))) (bI (cD cKeeper ar (ah 0) (af (ah 1) aG))))) (aV (iV (cD cKeeper aw (ah 0) (af (ah 1) (af (cC (.str "fall")) aG))))
  (eU (cC (.str "falls")))) dm)
  (aV (eT cKeeper 3 (ah 0) (cOp jb (bY cKeeper 3 (ah 0)) (cC (.int 1))))
  (aV (eT cAttempt 3 (ah 2) (bY cKeeper 3 (ah 0)))
  (aV (eT cAttempt 4 (ah 2) (cCB iP (af (bY cAttempt 2 (ah 2)) aG)))
  (aV (iq (iTp (bY cAttempt 4 (ah 2))) (gNm 3) (ed ak aw av ar cKeeper cAttempt))
  (eU (cC (.str "taken"))))))))))
theorem gC {ak aw av ar : Fn} {cKeeper cAttempt : Cl} {a0 a1 : U} {S : Sto} : fnU 4 2 (b8 ak aw av ar cKeeper cAttempt) [a0, a1] S = ((b8 ak aw av ar cKeeper cAttempt) [some a0, some a1, none, none] S).bind kFn := jH rfl
noncomputable def dI (aB aw : Fn) (cKeeper cAttempt : Cl) : CS :=
 (iV (lG (bY cKeeper 2 (ah 0)) (ah 4)))
noncomputable def bQ (aB aw : Fn) (cKeeper cAttempt : Cl) : CS :=
 (aV (dc 2 (cD cKeeper aB (ah 0) (af (ah 1) aG)))
  (aV (gh (bI (cOp ui (bY cAttempt 3 (ah 2)) (cC .non))) jF dm)
  (aV (dc 3 (cBM iR (bY cAttempt 4 (ah 2)) (af (cC (.int 0)) aG)))
  (aV (dM (bY cKeeper 0 (ah 0)) (ah 3) (cOp fIx (bY cAttempt 2 (ah 2)) (ah 3)))
  (aV (dM (bY cKeeper 1 (ah 0)) (ah 3) (bY cAttempt 3 (ah 2)))
  (aV (gh (bI (cOp fGt (cCB kW (af (bY cAttempt 4 (ah 2)) aG)) (cC (.int 0)))) (eU (cC (.str "written"))) dm)
  (aV (mO (bY cAttempt 2 (ah 2)) (gNm 4) (dI aB aw cKeeper cAttempt))
  (aV (iV (cD cKeeper aw (ah 0) (af (ah 1) (af (cC (.str "done")) aG))))
  (eU (cC (.str "done")))))))))))
theorem fR {aB aw : Fn} {cKeeper cAttempt : Cl} {a0 a1 : U} {S : Sto} : fnU 5 2 (bQ aB aw cKeeper cAttempt) [a0, a1] S = ((bQ aB aw cKeeper cAttempt) [some a0, some a1, none, none, none] S).bind kFn := jH rfl
noncomputable def dF (cKeeper : Cl) : CS :=
 (eU (cCB eY (af (bY cKeeper 0 (ah 0)) aG)))
theorem lj {cKeeper : Cl} {a0 : U} {S : Sto} : fnU 1 1 (dF cKeeper) [a0] S = ((dF cKeeper) [some a0] S).bind kFn := jH rfl
noncomputable def d8 (bA bD : Fn) (cKeeper : Cl) : CS :=
 (aV (xI (lG (ah 1) (ah 2)) (gTp [3, 4, 5]))
  (aV (gh (bI (cOp Ac (ah 5) hJ)) (eU (cOp fEq (cD cKeeper bA (ah 0) (af (ah 2) aG)) (cC (.str "done")))) dm)
  (aV (gh (bI (cOp fNe (cD cKeeper bA (ah 0) (af (ah 2) aG)) (cC (.str "taken")))) (eU (cC (.bl false))) dm)
  (aV (dc 6 (d9 (ah 5) (gNm 0) (cD cKeeper bD (ah 2) (af (ah 1) aG)) 1 [2, 0]))
  (eU (cOp (kX false) (ah 6) (cOp jb (cOp kS (lF (af (cC (.str "written")) aG)) (cOp xS (cCB kW (af (ah 5) aG)) (cC (.int 1)))) (lF (af (cC (.str "done")) aG)))))))))
theorem mG {bA bD : Fn} {cKeeper : Cl} {a0 a1 a2 : U} {S : Sto} : fnU 7 3 (d8 bA bD cKeeper) [a0, a1, a2] S = ((d8 bA bD cKeeper) [some a0, some a1, some a2, none, none, none, none] S).bind kFn := jH rfl
noncomputable def d7 (ay aA bE bJ bW : Fn) (cKeeper : Cl) : CS :=
 (aV (xI (cOp fIx (ah 4) (ah 5)) (gTp [6, 7, 8]))
  (aV (dc 9 (cOp fIx (ah 7) (cCB ay (af (ah 0) (af (cCB kW (af (ah 7) aG)) aG)))))
  (aV (gh (bI (cOp fEq (ah 6) (cC (.str "off")))) (aV (dM (ah 4) (ah 5) (mN (af (cC (.str "on")) (af (ah 7) (af (ah 8) aG)))))
  (eU (cOp ui (cD cKeeper bE (ah 3) (af (ah 5) aG)) (cC .non)))) dm)
  (aV (dc 10 (cCB ay (af (ah 0) (af (cC (.int 9)) aG))))
  (aV (gh (bI (cOp fLt (ah 10) (cC (.int 4)))) (eU (cOp (kX false) (cD cKeeper bJ (ah 3) (af (ah 5) (af (ah 9) aG))) (mN (af (cC (.str "number")) (af (mP (ah 8) (ah 9) (cOp fIx (ah 2) (ah 9))) aG))))) dm)
  (aV (gh (bI (cOp fLt (ah 10) (cC (.int 7)))) (aV (dM (ah 8) (ah 9) (cCB ay (af (ah 0) (af (cOp fIx (ah 1) (cC (.int 1))) aG))))
  (eU (cOp ui (cD cKeeper bW (ah 3) (af (ah 5) (af (ah 9) (af (cOp fIx (ah 8) (ah 9)) aG)))) (cC .non)))) dm)
  (eU (cCB aA (af (ah 3) (af (ah 4) (af (ah 5) aG)))))))))))
theorem mF {ay aA bE bJ bW : Fn} {cKeeper : Cl} {a0 a1 a2 a3 a4 a5 : U} {S : Sto} : fnU 11 6 (d7 ay aA bE bJ bW cKeeper) [a0, a1, a2, a3, a4, a5] S = ((d7 ay aA bE bJ bW cKeeper) [some a0, some a1, some a2, some a3, some a4, some a5, none, none, none, none, none] S).bind kFn := jH rfl
end OQ
local macro_rules
 | `(tactic| rwa $s:rwRuleSeq) => do
  let ts : Array (Lean.TSyntax `term) := s.raw[1].getSepArgs.map fun r => ⟨r[1]⟩
  let us : Array (Lean.TSyntax `term) := (("vy oX x_c AY vB vA oY lR BB yB yA Dp AX AW A0 yh yz vQ vP AV yf ye yg vC lS gi eM eK xX uD A6 yj Bv vO Bd yq uE rQ mV yc yb ya yu vL AU yd vK pd o9 Dr Bh Bg oZ j8 Bz yy yx Bj Bi yD yC CD x8 x6 x5 x4 A7 A8 A9 Bc xZ xY uF yl ym yn yk vR AO A5 Dq Ds Du Bo A3 Bn A2 Bp A4 Bl Bk at0 at1 at2 at3 ix0 ix1 ix2 Option.bind_some List.getElem?_cons_zero List.getElem?_cons_succ List.set_cons_zero List.set_cons_succ List.length_cons List.length_nil List.map_cons List.map_nil decide_true decide_false Bool.not_true Bool.not_false Bm uI uH Dh AS AR AQ yi vF vE vD vG Be Bf yp yo Dw By Bx Bw BA Dv Bu Bt Bs Br Bq pf Dm x_p Dk Dj Di yw vN vM xU xV xW vH vI vJ yt ga ga0 gs gs0 Option.join_some Nat.add_zero List.cons_append List.nil_append List.append_assoc" : String).splitOn " ").toArray.map fun x => ⟨(Lean.mkIdent ((x.splitOn ".").foldl Lean.Name.str Lean.Name.anonymous)).raw⟩
  let vs := ts ++ us
  `(tactic| simp only [$[$vs:term],*])
namespace OQ
open PySem PySem.Spec PyProof.Rows L2 OG OP
theorem l9 {m : Int} (h0 : 0 ≤ m) (h : m < 2 ^ 60) : m.natAbs.log2 < 9000 := qy h0 h
noncomputable def bH (ps : List (Int × Int)) : List (Key × U) := ps.map fun p => (.inl p.1, .int p.2)
theorem fC (b : Int) : ∀ ps : List (Int × Int), aK (bH ps) (.inl b) = (aK ps b).map U.int
 | [] => rfl
 | (k, v) :: r => by
  have ih := fC b r
  unfold aK bH at ih ⊢
  simp only [List.map_cons, List.find?_cons]
  by_cases e : k = b
  ·subst e; simp
  ·rw [decide_eq_false (fun z : (Sum.inl k : Key) = Sum.inl b => e (Sum.inl.inj z)), decide_eq_false e]
   exact ih
theorem uz (b : Int) (ps : List (Int × Int)) : ((bH ps).any fun kv => decide (kv.1 = Sum.inl b)) = ps.any fun kv => decide (kv.1 = b) := by
 unfold bH
 induction ps with
 | nil => rfl
 | cons p r ih =>
  simp only [List.map_cons, List.any_cons, ih]
  by_cases e : p.1 = b
  ·rw [decide_eq_true e, decide_eq_true (by rw [e])]
  ·rw [decide_eq_false e, decide_eq_false (fun z : (Sum.inl p.1 : Key) = Sum.inl b => e (Sum.inl.inj z))]
theorem nr (b v : Int) (ps : List (Int × Int)) : dj (bH ps) (.inl b) (.int v) = bH (dj ps b v) := by
 unfold dj
 rw [uz]
 split
 ·unfold bH
  rw [List.map_map, List.map_map]
  refine List.map_congr_left fun p _ => ?_
  simp only [Function.comp]
  by_cases e : p.1 = b
  ·simp [e]
  ·rw [if_neg e, if_neg (fun z : (Sum.inl p.1 : Key) = Sum.inl b => e (Sum.inl.inj z))]
 ·simp [bH]
theorem jM {κ α : Type} [DecidableEq κ] (ps : List (κ × α)) (b : κ) (v : α) : (dj ps b v).length ≤ ps.length + 1 := by
 unfold dj; split <;> simp
theorem map_set {hs : List Int} {k : Nat} {v : Int} : (hs.map U.int).set k (.int v) = (hs.set k v).map U.int := by rw [List.map_set]
theorem few : ∀ (n : Nat) (l : List Int), l.Nodup → (∀ k ∈ l, 0 ≤ k ∧ k < n) → l.length ≤ n
 | 0, l, _, h => by
  cases l with
  | nil => simp
  | cons a r => have := h a (by simp); omega
 | n + 1, l, nd, h => by
  have ih := few n (l.erase (n : Int)) (nd.erase _) fun k hk => by
   have h1 := h k (List.mem_of_mem_erase hk)
   have h2 : k ≠ (n : Int) := fun z => by subst z; exact (nd.not_mem_erase) hk
   omega
  rw [List.length_erase] at ih
  split at ih <;> omega
theorem qt {α : Type} {l : List α} {k : Nat} {x : α} (h : l[k]? = some x) : k < l.length := (List.getElem?_eq_some_iff.mp h).1
theorem aJ {α : Type} {l r : List α} {k : Nat} {x : α} (h : l[k]? = some x) : (l ++ r)[k]? = some x := by rw [List.getElem?_append_left (qt h)]; exact h
noncomputable def beh (first : List Int) (ps : List (Int × Int)) (k : Nat) : List Int := (first.zipIdx k).map fun p => (aK ps (p.2 : Int)).getD p.1
theorem wo (b v j : Int) (ps : List (Int × Int)) : aK (dj ps b v) j = if j = b then some v else aK ps j := by
 have e1 : ∀ ps : List (Int × Int), aK ps j = (fG (ps.map fun p => (p.1, V.int p.2)) j).map fun x => match x with | .int i => i | _ => 0 := fun ps => by
  unfold aK fG
  induction ps with
  | nil => rfl
  | cons p r ih =>
   simp only [List.map_cons, List.find?_cons]
   by_cases e : p.1 = j
   ·simp [e]
   ·rw [decide_eq_false e]; exact ih
 have e2 : (dj ps b v).map (fun p => (p.1, V.int p.2)) = j7 (ps.map fun p => (p.1, V.int p.2)) b (.int v) := by
  unfold dj j7
  have : (ps.map fun p => (p.1, V.int p.2)).any (fun kv => decide (kv.1 = b)) = ps.any fun kv => decide (kv.1 = b) := by rw [List.any_map]; rfl
  rw [this]
  split
  ·rw [List.map_map, List.map_map]
   refine List.map_congr_left fun p _ => ?_
   simp only [Function.comp]
   split <;> rfl
  ·simp
 rw [e1, e2, sj]
 split
 ·rfl
 ·exact (e1 ps).symm
theorem AZ {x : U} {S : Sto} : uh x .non S = some (.bl (!qL x), S) := rfl
theorem z6 : qL .non = true := rfl
theorem oP {ok : Sto → Prop} {g : CG} {ct : CT} {ce : CE} {l : Nat} {ρ : Rho} {S : Sto} (h : ok S) : bX ok g ct ce l [] ρ S = some S := by rw [bX, if_pos h]
theorem rg {ok : Sto → Prop} {g : CG} {ct : CT} {ce : CE} {l : Nat} {ρ ρ0 : Rho} {S S0 S1 : Sto} {u : U} {us : List U} (h : ok S) (hg : g u ρ S = some (ρ0, S0)) (ht : ct ρ0 S0 = some (false, S1)) : bX ok g ct ce l (u :: us) ρ S = bX ok g ct ce l us ρ0 S1 := by
 rw [bX, if_pos h, hg, Option.bind_some, ht, Option.bind_some, if_neg Bool.false_ne_true]
theorem oO {ok : Sto → Prop} {g : CG} {ct : CT} {ce : CE} {l : Nat} {ρ ρ0 : Rho} {S S0 S1 S2 : Sto} {u x : U} {us ys : List U} (h : ok S) (hg : g u ρ S = some (ρ0, S0)) (ht : ct ρ0 S0 = some (true, S1)) (he : ce ρ0 S1 = some (x, S2)) (hl : S2[l]? = some (.lst ys)) (hn : ys.length < LIM) :
  bX ok g ct ce l (u :: us) ρ S = bX ok g ct ce l us ρ0 (S2.set l (.lst (ys ++ [x]))) := by
 rw [bX, if_pos h, hg, Option.bind_some, ht, Option.bind_some, if_pos rfl, he, Option.bind_some]
 simp only [hl, hn, if_true]
noncomputable def Lay (k : Nat) (S : Sto) (u : U) : Prop := ∃ d, Dt S u d ∧ d.canLay0 = true ∧ d.depth ≤ k
noncomputable def fg (k : Nat) (S : Sto) (u v : U) : Prop := ∃ d, Dt S u d ∧ Dt S v d ∧ d.canLay0 = true ∧ d.depth ≤ k
noncomputable def eZ (k : Nat) (S : Sto) (us vs : List U) : Prop := ∃ ds, DtL S us ds ∧ DtL S vs ds ∧ PyData.canLayAll0 ds = true ∧ PyData.depthAll ds ≤ k
section
variable {k j : Nat} {S : Sto} {u v : U} {us vs : List U}
theorem Lay.int {i : Int} : Lay k S (.int i) := ⟨_, .int i, rfl, Nat.zero_le _⟩
theorem Lay.str {x : Str} (h : PyData.strOk x = true) : Lay k S (.str x) := ⟨_, .str x, h, Nat.zero_le _⟩
theorem fg.refl (h : Lay k S u) : fg k S u u := by obtain ⟨d, a, b, c⟩ := h; exact ⟨d, a, a, b, c⟩
theorem eZ.nil : eZ k S [] [] := ⟨[], .nil, .nil, rfl, Nat.zero_le _⟩
theorem eZ.cons (h : fg k S u v) (t : eZ k S us vs) : eZ k S (u :: us) (v :: vs) := by
 obtain ⟨d, a, b, c, e⟩ := h
 obtain ⟨ds, a', b', c', e'⟩ := t
 refine ⟨d :: ds, .cons a a', .cons b b', by unfold PyData.canLayAll0; rw [c, c']; rfl, ?_⟩
 unfold PyData.depthAll
 exact Nat.max_le.mpr ⟨e, e'⟩
theorem eZ.all : ∀ {us : List U}, (∀ u ∈ us, Lay k S u) → eZ k S us us
 | [], _ => .nil
 | u :: us, h => .cons (.refl (h u List.mem_cons_self)) (eZ.all fun x hx => h x (List.mem_cons_of_mem _ hx))
theorem fg.tup (h : eZ k S us vs) : fg (k + 1) S (.tup us) (.tup vs) := by
 obtain ⟨ds, a, b, c, e⟩ := h
 refine ⟨.tuple ds, .tup a, .tup b, by unfold PyData.canLay0; exact c, ?_⟩
 unfold PyData.depth
 omega
theorem fg.lst {l l' : Nat} (h1 : S[l]? = some (.lst us)) (h2 : S[l']? = some (.lst vs)) (h : eZ k S us vs) : fg (k + 1) S (.ref l) (.ref l') := by
 obtain ⟨ds, a, b, c, e⟩ := h
 refine ⟨.list ds, .lst h1 a, .lst h2 b, by unfold PyData.canLay0; exact c, ?_⟩
 unfold PyData.depth
 omega
theorem Lay.tup (h : ∀ u ∈ us, Lay k S u) : Lay (k + 1) S (.tup us) := by
 obtain ⟨d, a, _, b, c⟩ := fg.tup (eZ.all h)
 exact ⟨d, a, b, c⟩
theorem fg.eq (h : fg k S u v) (hk : k ≤ 60) : kX false u v S = some (.bl true, S) := by
 obtain ⟨d, a, b, c, e⟩ := h
 exact mD false (.inl ⟨d, d, a, b, ⟨c, Nat.le_trans e hk⟩, ⟨c, Nat.le_trans e hk⟩, (SeqAt.eqv_refl d c).symm⟩)
theorem fg.ne (h : fg k S u v) (hk : k ≤ 60) : kX true u v S = some (.bl false, S) := by
 obtain ⟨d, a, b, c, e⟩ := h
 exact mD true (.inl ⟨d, d, a, b, ⟨c, Nat.le_trans e hk⟩, ⟨c, Nat.le_trans e hk⟩, (SeqAt.eqv_refl d c).symm⟩)
end
section
variable {S : Sto} {l l' : Nat} {us : List U} {u : U} {i : Int}
noncomputable def nL (l : Nat) (i : Int) (S : Sto) : Option O → Option (U × Sto)
 | some (.lst us) => if 0 ≤ i ∧ i < us.length ∧ us.length ≤ LIM then (us[i.toNat]?).bind fun u => some (u, S.set l (.lst (us.eraseIdx i.toNat))) else none
 | _ => none
theorem vz : iR (.ref l) [.int i] S = nL l i S S[l]? := by
 unfold iR nL; rfl
theorem rR (h0 : 0 ≤ i) (h1 : i < us.length) (hL : us.length ≤ LIM) (hu : us[i.toNat]? = some u) : nL l i S (some (.lst us)) = some (u, S.set l (.lst (us.eraseIdx i.toNat))) := by
 simp only [nL]
 rw [if_pos ⟨h0, h1, hL⟩, hu, Option.bind_some]
end
theorem fu (n : Nat) : cg 0 n = ((List.range n).map fun i : Nat => (i : Int)).map U.int := by
 unfold cg
 rw [List.map_map]
 refine List.map_congr_left fun i _ => ?_
 simp
inductive Ev where
 | beg (a : Int) | look (a b x : Int) | put (a b x : Int) | fin (d : Bool) (a : Int)
structure Att where
 en : Option Bool
 lk : List (Int × Int)
 nd : List (Int × Int)
 ps : List (Int × Int)
 bf : List Int
noncomputable abbrev St := List (Int × Att)
noncomputable def DO (st : St) : Att := ⟨none, [], [], [], (st.filter fun p => p.2.en.isSome).map (·.1)⟩
noncomputable def DN (st : St) (a : Int) (f : Att → Att) : St := st.map fun p => if p.1 = a then (p.1, f p.2) else p
theorem dU {κ α : Type} [DecidableEq κ] {ps : List (κ × α)} {k : κ} : aK ps k = none ↔ k ∉ ps.map (·.1) := by
 unfold aK
 rw [Option.map_eq_none_iff, List.find?_eq_none]
 simp only [decide_eq_true_eq, List.mem_map, not_exists, not_and]
theorem sv {κ α : Type} [DecidableEq κ] {ps qs : List (κ × α)} {k : κ} : aK (ps ++ qs) k = (aK ps k).or (aK qs k) := by
 unfold aK
 rw [List.find?_append]
 cases List.find? (fun kv => decide (kv.1 = k)) ps <;> simp
structure Go where
 a : Int
 seen : List Int
 r : Nat
section
variable {c : Cl} {B : Nat} {E L N P F E' : List (Key × U)} {X Y S : Sto} {k : Nat} {o : O}
noncomputable def hd (c : Cl) (B : Nat) (E L N P F : List (Key × U)) : Sto := [.ins c [some (.ref (B + 1)), some (.ref (B + 2)), some (.ref (B + 3)), some (.ref (B + 4)), some (.ref (B + 5))], .dic E, .dic L, .dic N, .dic P, .dic F]
theorem hd0 : (S ++ (hd c B E L N P F ++ X))[S.length]? = some (.ins c [some (.ref (B + 1)), some (.ref (B + 2)), some (.ref (B + 3)), some (.ref (B + 4)), some (.ref (B + 5))]) := by rw [ga0]; rfl
theorem hd1 : (S ++ (hd c B E L N P F ++ X))[S.length + 1]? = some (.dic E) := by rw [ga]; rfl
theorem hd2 : (S ++ (hd c B E L N P F ++ X))[S.length + 2]? = some (.dic L) := by rw [ga]; rfl
theorem hd3 : (S ++ (hd c B E L N P F ++ X))[S.length + 3]? = some (.dic N) := by rw [ga]; rfl
theorem hd4 : (S ++ (hd c B E L N P F ++ X))[S.length + 4]? = some (.dic P) := by rw [ga]; rfl
theorem hs2 : (S ++ (hd c B E L N P F ++ X)).set (S.length + 2) (.dic E') = S ++ (hd c B E E' N P F ++ X) := by rw [gs]; rfl
theorem hs3 : (S ++ (hd c B E L N P F ++ X)).set (S.length + 3) (.dic E') = S ++ (hd c B E L E' P F ++ X) := by rw [gs]; rfl
theorem fe : (S ++ (hd c B E L N P F ++ X)).length = S.length + (6 + X.length) := by simp [hd]; omega
end
theorem nv {κ α : Type} [DecidableEq κ] {ps : List (κ × α)} {k : κ} {v : α} (h : k ∉ ps.map (·.1)) : dj ps k v = ps ++ [(k, v)] := by
 unfold dj
 rw [if_neg]
 simp only [List.any_eq_true, decide_eq_true_eq, not_exists, not_and]
 intro p hp e
 exact h (List.mem_map.mpr ⟨p, hp, e⟩)
section
variable {c : Cl} {S : Sto} {s1 s2 st : St} {a : Int} {t t' : Att}
theorem pe {i : Nat} {u : U} {fus : List (Option U)} {Z : Sto} {l : Nat} (h : Z[l]? = some (.ins c fus)) (hu : fus[i]? = some (some u)) : xn c i (.ref l, Z) = some (u, Z) := by
 rw [uI, h, uH, hu]; rfl
end
section
variable {c : Cl} {S : Sto} {s1 s2 st : St} {a : Int} {t t' : Att}
noncomputable def hc (c : Cl) (S : Sto) (E L N P F : List (Key × U)) (X : Sto) : Sto := S ++ (hd c S.length E L N P F ++ X)
section
variable {E L N P F E' : List (Key × U)} {X Y : Sto}
theorem hc0 : (hc c S E L N P F X)[S.length]? = some (.ins c [some (.ref (S.length + 1)), some (.ref (S.length + 2)), some (.ref (S.length + 3)), some (.ref (S.length + 4)), some (.ref (S.length + 5))]) := hd0
theorem hc1 : (hc c S E L N P F X)[S.length + 1]? = some (.dic E) := hd1
theorem hc2 : (hc c S E L N P F X)[S.length + 2]? = some (.dic L) := hd2
theorem hc3 : (hc c S E L N P F X)[S.length + 3]? = some (.dic N) := hd3
theorem hc4 : (hc c S E L N P F X)[S.length + 4]? = some (.dic P) := hd4
theorem hcl : (hc c S E L N P F X).length = S.length + (6 + X.length) := fe
end
end
theorem hU {κ α : Type} [DecidableEq κ] {ps : List (κ × α)} {k b : κ} {v : α} : aK (dj ps k v) b = if b = k then some v else aK ps b := by
 by_cases m : k ∈ ps.map (·.1)
 ·unfold dj
  rw [if_pos (by obtain ⟨p, hp, e⟩ := List.mem_map.mp m; exact List.any_eq_true.mpr ⟨p, hp, by simp [e]⟩)]
  induction ps with
  | nil => simp at m
  | cons p r ih =>
   unfold aK at ih ⊢
   simp only [List.map_cons, List.find?_cons]
   by_cases e1 : p.1 = k
   ·simp only [e1, if_true]
    by_cases e2 : b = k
    ·subst e2; simp
    ·rw [decide_eq_false (Ne.symm e2), if_neg e2]
     by_cases m' : k ∈ r.map (·.1)
     ·have := ih m'
      rw [if_neg e2] at this
      exact this
     ·rw [List.map_congr_left (g := id) fun q hq => ?_, List.map_id]
      rw [if_neg fun z => m' (List.mem_map.mpr ⟨q, hq, z⟩)]; rfl
   ·simp only [e1, if_false]
    have m' : k ∈ r.map (·.1) := by
     rcases List.mem_cons.mp m with z | z
     ·exact absurd z.symm e1
     ·exact z
    by_cases e2 : p.1 = b
    ·rw [decide_eq_true e2]
     have : b ≠ k := fun z => e1 (e2.trans z)
     rw [if_neg this]
    ·rw [decide_eq_false e2]
     exact ih m'
 ·rw [nv m, sv]
  by_cases e2 : b = k
  ·subst e2; rw [dU.mpr m, if_pos rfl]; simp [aK]
  ·rw [if_neg e2]
   cases aK ps b with
   | some x => rfl
   | none => simp [aK, Ne.symm e2]
section
variable {c : Cl} {n w : Int} {S G : Sto} {st : St} {a : Int} {t : Att} {x : List Int}
theorem jK {Z : Sto} {r : Nat} {o o' : O} (h : Z[r]? = some o) : (Z.set r o').set r o = Z := by
 rw [List.set_set]
 refine List.ext_getElem? fun i => ?_
 rw [List.getElem?_set]
 split
 ·subst i
  obtain ⟨h1, h2⟩ := List.getElem?_eq_some_iff.mp h
  simp [h1, h2]
 ·rfl
end
theorem nV : ∀ ns ms : List Int, PyData.eqv (.list (ns.map PyData.int)) (.list (ms.map PyData.int)) = decide (ns = ms)
 | [], [] => rfl
 | [], _ :: _ => rfl
 | _ :: _, [] => rfl
 | n :: ns, m :: ms => by
  have e : PyData.eqv (.list ((n :: ns).map PyData.int)) (.list ((m :: ms).map PyData.int)) = ((n == m) && PyData.eqv (.list (ns.map PyData.int)) (.list (ms.map PyData.int))) := rfl
  rw [e, nV ns ms, Bool.eq_iff_iff]
  simp
theorem jY {S : Sto} : ∀ ns : List Int, DtL S (ns.map U.int) (ns.map PyData.int)
 | [] => .nil
 | n :: ns => .cons (.int n) (jY ns)
theorem nH (ns : List Int) : rE (.list (ns.map PyData.int)) := by
 have h : ∀ ns : List Int, PyData.canLayAll0 (ns.map PyData.int) = true ∧ PyData.depthAll (ns.map PyData.int) ≤ 0 := fun ns => by
  induction ns with
  | nil => exact ⟨rfl, Nat.le_refl _⟩
  | cons n r ih =>
   refine ⟨by unfold PyData.canLayAll0; rw [List.map_cons]; exact ih.1, ?_⟩
   rw [List.map_cons]
   unfold PyData.depthAll
   exact Nat.max_le.mpr ⟨Nat.le_refl _, ih.2⟩
 refine ⟨by unfold PyData.canLay0; exact (h ns).1, ?_⟩
 unfold PyData.depth
 have := (h ns).2
 omega
theorem ua (neg : Bool) {S : Sto} {l l' : Nat} {ns ms : List Int} (h : S[l]? = some (.lst (ns.map U.int))) (h' : S[l']? = some (.lst (ms.map U.int))) : kX neg (.ref l) (.ref l') S = some (.bl (if neg then !decide (ns = ms) else decide (ns = ms)), S) :=
 mD neg (.inl ⟨_, _, .lst h (jY ns), .lst h' (jY ms), nH ns, nH ms, (nV ns ms).symm⟩)
section
variable {c cA : Cl} {n w : Int} {S G C : Sto} {st : St} {a : Int} {t : Att} {x : List Int} {every : Bool} {L : Nat}
theorem iT {α : Type} {ok : Sto → Prop} {gg : CG} {ce : CE} {S : Sto} {f : α → U} {v : α → U} {Rel : Rho → Prop} (hok : ∀ ys G, ok (S ++ (.lst ys :: G))) :
  ∀ (xs : List α) (ys : List U) (G : Sto) (ρ : Rho), Rel ρ → ys.length + xs.length ≤ 9999 →
  (∀ x ∈ xs, ∀ ys G ρ, Rel ρ → ∃ ρ0, Rel ρ0 ∧ gg (f x) ρ (S ++ (.lst ys :: G)) = some (ρ0, S ++ (.lst ys :: G)) ∧ ce ρ0 (S ++ (.lst ys :: G)) = some (v x, S ++ (.lst ys :: G))) →
  eQ ok gg ce S.length (xs.map f) ρ (S ++ (.lst ys :: G)) = some (S ++ (.lst (ys ++ xs.map v) :: G))
 | [], ys, G, ρ, _, _, _ => by simp only [List.map_nil, List.append_nil]; exact ik (hok ys G)
 | x :: xs, ys, G, ρ, hr, hl, hb => by
  rw [List.length_cons] at hl
  obtain ⟨ρ0, r0, h1, h2⟩ := hb x List.mem_cons_self ys G ρ hr
  have h := iT hok xs (ys ++ [v x]) G ρ0 r0 (by simp; omega) (fun x hx => hb x (List.mem_cons_of_mem _ hx))
  rw [List.map_cons]
  refine (fz (hok ys G) h1 h2 (by rw [ga0]; rfl) (by unfold LIM; omega)).trans ?_
  rw [gs0]
  simp only [List.set_cons_zero]
  rw [h]
  simp only [List.map_cons, List.append_assoc, List.cons_append, List.nil_append]
noncomputable def oH : List Int → Option U → Option U
 | [], r => r
 | a :: as, _ => oH as (some (.int a))
end
structure Wl (lw : Nat) (T T' : Sto) : Prop where
 len : T.length ≤ T'.length
 keep : ∀ j, j < T.length → j ≠ lw → T'[j]? = T[j]?
 well : ∃ z, T'[lw]? = some (.lst [.int z])
section
variable {lw j : Nat} {T T1 T2 S : Sto} {o : O} {m : Int}
theorem Wl.get (w : Wl lw T T1) (h : T[j]? = some o) (n : j ≠ lw) : T1[j]? = some o := by rw [w.keep j (List.getElem?_eq_some_iff.mp h).1 n]; exact h
noncomputable def gG : Fn := fnU 3 2 eG
theorem gT (h : ∃ z, T[lw]? = some (.lst [.int z])) (hm : 0 < m) (hb : m < 2 ^ 60) : ∃ d T1, gG [.ref lw, .int m] T = some (.int d, T1) ∧ Wl lw T T1 ∧ T1.length = T.length ∧ 0 ≤ d ∧ d < m := by
 obtain ⟨z, h⟩ := h
 have hl := (List.getElem?_eq_some_iff.mp h).1
 refine ⟨z % m, T.set lw (.lst [.int (z / m)]), ?_, ⟨by simp, fun j hj n => List.getElem?_set_ne n.symm, ⟨_, by rw [List.getElem?_set, if_pos rfl, if_pos hl]⟩⟩, by simp, Int.emod_nonneg _ (by omega), Int.emod_lt_of_pos _ hm⟩
 unfold gG
 rw [oN]
 have dv : ∀ (j : Int) (S : Sto), vl (.int j) (.int m) S = some (.int (j / m), S) := fun j S => yv ⟨hm, l9 (by omega) hb⟩
 have md : ∀ (j : Int) (S : Sto), lQ (.int j) (.int m) S = some (.int (j % m), S) := fun j S => o7 hm
 rwa [eG, h, dv, md]
noncomputable def lM : Fn := fnU 6 2 dw
theorem j9 {r0 r1 r2 : Option U} : ∀ (ts : List Int) (a f : Int) (r5 : Option U), 0 ≤ a → a < 2147483563 → ∃ a' f' r5', dr (fun _ => True) (gNm 5) dQ (ts.map U.int) [r0, r1, r2, some (.int a), some (.int f), r5] S = some (.nx, [r0, r1, r2, some (.int a'), some (.int f'), r5'], S)
 | [], a, f, r5, _, _ => ⟨a, f, r5, dN trivial⟩
 | t :: ts, a, f, r5, h0, h1 => by
  obtain ⟨a', f', r5', ih⟩ := j9 (r0 := r0) (r1 := r1) (r2 := r2) ts ((a * a + 50021 * a + 19 * t + 7) % 2147483563) (f * 2147483563 + (a * a + 50021 * a + 19 * t + 7) % 2147483563) (some (.int t)) (Int.emod_nonneg _ (by decide)) (Int.emod_lt_of_pos _ (by decide))
  refine ⟨a', f', r5', (eC trivial rfl ?_).trans ih⟩
  have m1 : jU (.int a) (.int a) S = some (.int (a * a), S) := lU (.inl ⟨by omega, by omega⟩)
  have m2 : jU (.int 50021) (.int a) S = some (.int (50021 * a), S) := lU (.inl (by decide))
  have m3 : jU (.int 19) (.int t) S = some (.int (19 * t), S) := lU (.inl (by decide))
  have m4 : jU (.int f) (.int 2147483563) S = some (.int (f * 2147483563), S) := lU (.inr (by decide))
  have m5 : ∀ j : Int, lQ (.int j) (.int 2147483563) S = some (.int (j % 2147483563), S) := fun j => o7 (by decide)
  rwa [dQ, m1, m2, m3, m4, m5]
theorem wj (ns : List Int) {k : Int} (k0 : 0 ≤ k) : ∃ z, lM [.kl ns, .int k] S = some (.ref S.length, S ++ [.lst [.int z]]) := by
 unfold lM
 rw [mE]
 have m1 : jU (.int 5) (.int k) S = some (.int (5 * k), S) := lU (.inl (by decide))
 have m2 : ∀ j : Int, lQ (.int j) (.int 2) S = some (.int (j % 2), S) := fun j => o7 (by decide)
 have m3 : ∀ j : Int, vl (.int j) (.int 2) S = some (.int (j / 2), S) := fun j => yv ⟨by decide, by decide +kernel⟩
 have m4 : ∀ j : Int, jU (.int j) (.int 30011) S = some (.int (j * 30011), S) := fun j => lU (.inr (by decide))
 have m5 : jU (.int 977) (.int k) S = some (.int (977 * k), S) := lU (.inl (by decide))
 have m6 : ∀ j : Int, lQ (.int j) (.int 2147483563) S = some (.int (j % 2147483563), S) := fun j => o7 (by decide)
 have r60 : bC (af (cC (.int 60)) aG) = fun ρ S => some (cg 0 60, fun _ => True, S) := rfl
 have er : cg 0 60 = ((List.range 60).map fun i : Nat => (i : Int)).map U.int := by rw [fu, List.map_map]
 have key : ∀ num : Int, ∃ z, ((aV (gh (bI (cOp fEq (cOp lQ (ah 2) (cC (.int 2))) (cC (.int 0)))) (eU (lF (af (cOp vl (ah 2) (cC (.int 2))) aG))) dm)
  (aV (dc 3 (cOp lQ (cOp jb (cOp jb (cOp jU (ah 2) (cC (.int 30011))) (cOp jU (cC (.int 977)) (ah 1))) (cC (.int 41))) (cC (.int 2147483563))))
  (aV (dc 4 (cC (.int 0)))
  (aV (iq (bC (af (cC (.int 60)) aG)) (gNm 5) dQ)
  (eU (lF (af (ah 4) aG))))))) [some (.kl ns), some (.int k), some (.int num), none, none, none] S).bind kFn = some (.ref S.length, S ++ [.lst [.int z]]) := fun num => by
  by_cases e : num % 2 = 0
  ·refine ⟨num / 2, ?_⟩
   have e' : decide (num % 2 = 0) = true := decide_eq_true e
   rwa [m2, m3, e']
  ·have e' : decide (num % 2 = 0) = false := decide_eq_false e
   obtain ⟨a', f', r5', h⟩ := j9 (S := S) (r0 := some (.kl ns)) (r1 := some (.int k)) (r2 := some (.int num)) ((List.range 60).map fun i : Nat => (i : Int)) ((num * 30011 + 977 * k + 41) % 2147483563) 0 none (Int.emod_nonneg _ (by decide)) (Int.emod_lt_of_pos _ (by decide))
   rw [← er] at h
   refine ⟨f', ?_⟩
   rwa [m2, e', m4, m5, m6, iq, r60, h]
 by_cases hk : k < (ns.length : Int)
 ·have hk' : decide (k < (ns.length : Int)) = true := decide_eq_true hk
  have hi : k.toNat < ns.length := by omega
  have ha : atI (ns.map U.int) k = some (.int ns[k.toNat]) := by
   have := fB (xs := ns.map U.int) (j := k.toNat) (v := .int ns[k.toNat]) (by rw [List.getElem?_map, List.getElem?_eq_getElem hi]; rfl)
   rw [show ((k.toNat : Nat) : Int) = k from by omega] at this
   exact this
  obtain ⟨z, h⟩ := key ns[k.toNat]
  refine ⟨z, ?_⟩
  rw [← h]
  simp only [dw, m1, o8, Ba, hk', ha, rQ, mV, oZ, j8, AY, vB, vA, vy, oX, x_c, vR, vK, pd, o9, oY, lR, A5, Bv, vO, gi, eM, eK, lS, Option.bind_some, List.getElem?_cons_zero, List.getElem?_cons_succ, List.set_cons_zero, List.set_cons_succ, Option.join_some]
 ·have hk' : decide (k < (ns.length : Int)) = false := decide_eq_false hk
  obtain ⟨z, h⟩ := key (5 * k + 3)
  refine ⟨z, ?_⟩
  rw [← h]
  simp only [dw, m1, o8, hk', rQ, mV, oZ, j8, AY, vB, vA, vy, oX, x_c, vR, vK, pd, o9, oY, lR, A5, Bv, vO, gi, eM, eK, lS, uE, Option.bind_some, List.getElem?_cons_zero, List.getElem?_cons_succ, List.set_cons_zero, List.set_cons_succ, Option.join_some]
end
section
variable {κ κ' α β : Type} [DecidableEq κ] [DecidableEq κ']
theorem qb {ps : List (κ × α)} {k : κ} {v : α} (h : (ps.map (·.1)).Nodup) : ((dj ps k v).map (·.1)).Nodup := by
 unfold dj
 by_cases e : (ps.any fun kv => decide (kv.1 = k)) = true
 ·rw [if_pos e, List.map_map]
  have : ((fun x : κ × α => x.1) ∘ fun kv => if kv.1 = k then (kv.1, v) else kv) = fun x => x.1 := by
   funext p
   show (if p.1 = k then (p.1, v) else p).1 = p.1
   split <;> rfl
  rw [this]; exact h
 ·rw [if_neg e, List.map_append, List.nodup_append]
  refine ⟨h, by simp, fun a ha b hb z => ?_⟩
  rw [List.map_singleton, List.mem_singleton] at hb
  obtain ⟨p, hp, hp2⟩ := List.mem_map.mp ha
  exact e (List.any_eq_true.mpr ⟨p, hp, decide_eq_true (by rw [hp2, z, hb])⟩)
theorem ie {ps : List (κ × α)} {k : κ} {v : α} {q : κ × α} (h : q ∈ dj ps k v) : q.1 = k ∨ ∃ p ∈ ps, p.1 = q.1 := by
 unfold dj at h
 split at h
 ·obtain ⟨p, hp, e⟩ := List.mem_map.mp h
  by_cases z : p.1 = k
  ·rw [if_pos z] at e; rw [← e]; exact .inl z
  ·rw [if_neg z] at e; rw [← e]; exact .inr ⟨p, hp, rfl⟩
 ·rcases List.mem_append.mp h with z | z
  ·exact .inr ⟨q, z, rfl⟩
  ·rw [List.mem_singleton.mp z]; exact .inl rfl
theorem sk {ps : List (κ × α)} {p : κ × α} (nd : (ps.map (·.1)).Nodup) (h : p ∈ ps) : aK ps p.1 = some p.2 := by
 unfold aK
 induction ps with
 | nil => cases h
 | cons q r ih =>
  rw [List.map_cons, List.nodup_cons] at nd
  rcases List.mem_cons.mp h with z | z
  ·subst z; simp
  ·have : q.1 ≠ p.1 := fun e => nd.1 (List.mem_map.mpr ⟨p, z, e.symm⟩)
   rw [List.find?_cons, decide_eq_false this]
   exact ih nd.2 z
end
theorem eD {ca cb : CS} {ρ ρ' : Rho} {S S' : Sto} (h : ca ρ S = some (.nx, ρ', S')) : aV ca cb ρ S = cb ρ' S' := by rw [rQ, h, Option.bind_some, mV]
section
variable {lw jw jh jk jt : Nat} {Y S : Sto} {most many a b : Int} {os : List Int} {wr : List (List Int)} {r5 r6 r7 r8 r9 r10 r11 r12 : Option U}
theorem Cp {cr : CA} {ρ : Rho} {S S1 : Sto} {n : Int} {g : CG} {b : CS} (h : cr ρ S = some ([.int n], S1)) (n0 : 0 ≤ n) (n1 : n ≤ 1000) : iq (bC cr) g b ρ S = dr (fun _ => True) g b (cg 0 n.toNat) ρ S1 := by
 have hb : -(2 ^ 62) ≤ n ∧ n < 2 ^ 62 := by omega
 unfold iq bC
 rw [h, Option.bind_some]
 simp only [hb, and_self, if_true, Option.bind_some]
end
inductive Sl where
 | wl | kk | kb | km | kh | ke | kn | pl | wh | un
 | lb (a : Int) | lp (a : Int) | at (a : Int) | lo (a : Int) | pu (a : Int)
deriving DecidableEq
noncomputable def cM (c : Sl → O) (s : Sl) (o : O) : Sl → O := fun s' => if s' = s then o else c s'
theorem ax {c : Sl → O} {s : Sl} {o : O} : cM c s o s = o := if_pos rfl
theorem aa {c : Sl → O} {s s' : Sl} {o : O} (h : s' ≠ s) : cM c s o s' = c s' := if_neg h
structure Mem (pos : Sl → Option Nat) (c : Sl → O) (T : Sto) : Prop where
 at_ : ∀ s p, pos s = some p → T[p]? = some (c s)
 inj : ∀ s s' p, pos s = some p → pos s' = some p → s = s'
section
variable {pos : Sl → Option Nat} {c : Sl → O} {T : Sto} {s s' : Sl} {p p' : Nat} {o : O}
theorem Mem.ne (M : Mem pos c T) (h : pos s = some p) (h' : pos s' = some p') (n : s ≠ s') : p ≠ p' := fun e => by subst e; exact n (M.inj s s' p h h')
theorem Mem.lt (M : Mem pos c T) (h : pos s = some p) : p < T.length := (List.getElem?_eq_some_iff.mp (M.at_ s p h)).1
theorem Mem.set (M : Mem pos c T) (h : pos s = some p) (o : O) : Mem pos (cM c s o) (T.set p o) := by
 refine ⟨fun s' q hq => ?_, M.inj⟩
 by_cases e : s' = s
 ·subst e
  rw [h] at hq; cases hq
  rw [ax, List.getElem?_set, if_pos rfl, if_pos (M.lt h)]
 ·rw [aa e, List.getElem?_set_ne (M.ne h hq (Ne.symm e))]
  exact M.at_ s' q hq
theorem Mem.app (M : Mem pos c T) (X : Sto) : Mem pos c (T ++ X) := ⟨fun s p h => aJ (M.at_ s p h), M.inj⟩
noncomputable def ef (pos : Sl → Option Nat) (s : Sl) (p : Nat) : Sl → Option Nat := fun s' => if s' = s then some p else pos s'
theorem Mem.new (M : Mem pos c T) (s : Sl) (o : O) (X : Sto) : Mem (ef pos s T.length) (cM c s o) (T ++ (o :: X)) := by
 refine ⟨fun s' q hq => ?_, fun s1 s2 q h1 h2 => ?_⟩
 ·unfold ef at hq
  by_cases e : s' = s
  ·rw [if_pos e] at hq; cases hq
   rw [e, ax, ga0]; rfl
  ·rw [if_neg e] at hq
   rw [aa e]; exact aJ (M.at_ s' q hq)
 ·unfold ef at h1 h2
  by_cases e1 : s1 = s
  ·by_cases e2 : s2 = s
   ·rw [e1, e2]
   ·rw [if_pos e1] at h1; rw [if_neg e2] at h2; cases h1
    exact absurd (M.lt h2) (Nat.lt_irrefl _)
  ·by_cases e2 : s2 = s
   ·rw [if_neg e1] at h1; rw [if_pos e2] at h2; cases h2
    exact absurd (M.lt h1) (Nat.lt_irrefl _)
   ·rw [if_neg e1] at h1; rw [if_neg e2] at h2
    exact M.inj s1 s2 q h1 h2
end
structure KpI (cK : Cl) (pos : Sl → Option Nat) (c : Sl → O) (bx mk : List Int) (tk : Int) (evs : List U) (kn : List (Key × U)) : Prop where
 kk : ∃ k0 k1 k2 k3 k4 k5, pos .kk = some k0 ∧ pos .kb = some k1 ∧ pos .km = some k2 ∧ pos .kh = some k3 ∧ pos .ke = some k4 ∧ pos .kn = some k5 ∧ c .kk = .ins cK [some (.ref k1), some (.ref k2), some (.ref k3), some (.int tk), some (.ref k4), some (.ref k5)]
 kb : c .kb = .lst (bx.map U.int)
 km : c .km = .lst (mk.map U.int)
 ke : c .ke = .lst evs
 kn : c .kn = .dic kn
structure AtI (cA : Cl) (pos : Sl → Option Nat) (c : Sl → O) (kn : List (Key × U)) (a g : Int) (stp un op : U) (lk ps : List (Key × U)) : Prop where
 ex : ∃ r l q, pos (.at a) = some r ∧ pos (.lo a) = some l ∧ pos (.pu a) = some q ∧ aK kn (.inl a) = some (.ref r) ∧ c (.at a) = .ins cA [some (.int g), some (.ref l), some (.ref q), some stp, some un, some op]
 lo : c (.lo a) = .dic lk
 pu : c (.pu a) = .dic ps
section
variable {cK cA : Cl} {pos : Sl → Option Nat} {c : Sl → O} {T : Sto} {bx mk : List Int} {tk a g : Int} {evs : List U} {kn lk ps hd : List (Key × U)} {un : U} {k0 : Nat}
noncomputable def gH (cK cA : Cl) : Fn := fnU 4 3 (cZ cK cA)
theorem xl {stp op : U} {word : Str} (M : Mem pos c T) (K : KpI cK pos c bx mk tk evs kn) (A : AtI cA pos c kn a g stp un op lk ps) (h0 : pos .kk = some k0) (hl : evs.length ≤ 900) :
  ∃ T', gH cK cA [.ref k0, .int a, .str word] T = some (.non, T') ∧ ∃ r l q, pos (.at a) = some r ∧ pos (.lo a) = some l ∧ pos (.pu a) = some q ∧ Mem pos (cM (cM c (.at a) (.ins cA [some (.int g), some (.ref l), some (.ref q), some stp, some un, some (.bl false)])) .ke (.lst (evs ++ [.tup [.str word, .int a]]))) T' := by
 obtain ⟨k0', k1, k2, k3, k4, k5, q0, q1, q2, q3, q4, q5, qk⟩ := K.kk
 rw [h0] at q0; cases q0
 obtain ⟨r, l, q, p1, p2, p3, p4, p5⟩ := A.ex
 have t0 := M.at_ _ _ h0
 have t5 := M.at_ _ _ q5
 have tr := M.at_ _ _ p1
 rw [qk] at t0
 rw [K.kn] at t5
 rw [p5] at tr
 have M1 := M.set p1 (.ins cA [some (.int g), some (.ref l), some (.ref q), some stp, some un, some (.bl false)])
 have t0' := M1.at_ _ _ h0
 have t4' := M1.at_ _ _ q4
 rw [aa (by intro h; cases h), qk] at t0'
 rw [aa (by intro h; cases h), K.ke] at t4'
 have hL : evs.length < LIM := by unfold LIM; omega
 refine ⟨_, ?_, r, l, q, p1, p2, p3, M1.set q4 _⟩
 unfold gH
 rw [g6]
 rwa [cZ, t0, t5, p4, tr, t0', t4', jv hL]
noncomputable def gS (cK cA : Cl) : Fn := fnU 2 2 (cG cK cA)
theorem nT {stp : U} {r : Nat} (M : Mem pos c T) (K : KpI cK pos c bx mk tk evs kn) (A : AtI cA pos c kn a g stp un (.bl true) lk ps) (h0 : pos .kk = some k0) (hr : pos (.at a) = some r) : gS cK cA [.ref k0, .int a] T = some (.ref r, T) := by
 obtain ⟨k0', k1, k2, k3, k4, k5, q0, q1, q2, q3, q4, q5, qk⟩ := K.kk
 rw [h0] at q0; cases q0
 obtain ⟨r', l, q, p1, p2, p3, p4, p5⟩ := A.ex
 rw [hr] at p1; cases p1
 have t0 := M.at_ _ _ h0
 have t5 := M.at_ _ _ q5
 have tr := M.at_ _ _ hr
 rw [qk] at t0
 rw [K.kn] at t5
 rw [p5] at tr
 have hs : (aK kn (.inl a)).isSome = true := by rw [p4]; rfl
 unfold gS
 rw [jq]
 rwa [cG, t0, t5, p4, Option.isSome_some, tr, if_true]
noncomputable def eI (cK cA : Cl) : Fn := fnU 3 2 (bL (gS cK cA) cK cA)
theorem fD {r : Nat} (M : Mem pos c T) (K : KpI cK pos c bx mk tk evs kn) (A : AtI cA pos c kn a g .non un (.bl true) lk ps) (h0 : pos .kk = some k0) (hr : pos (.at a) = some r) : eI cK cA [.ref k0, .int a] T = some (.ref r, T) := by
 have e1 := nT M K A h0 hr
 obtain ⟨k0', k1, k2, k3, k4, k5, q0, q1, q2, q3, q4, q5, qk⟩ := K.kk
 rw [h0] at q0; cases q0
 obtain ⟨r', l, q, p1, p2, p3, p4, p5⟩ := A.ex
 rw [hr] at p1; cases p1
 have t0 := M.at_ _ _ h0
 have tr := M.at_ _ _ hr
 rw [qk] at t0
 rw [p5] at tr
 unfold eI
 rw [hG]
 rwa [bL, t0, e1, tr, AZ, z6]
end
section
variable {cK cA : Cl} {pos : Sl → Option Nat} {c : Sl → O} {T : Sto} {bx mk : List Int} {tk a b g : Int} {evs : List U} {kn lk ps hd : List (Key × U)} {un : U} {k0 : Nat}
theorem rB {α : Type} {l : Nat} {S : Sto} {xs : List α} (h : S[l]? = some (.lst (xs.map fun _ => U.bl false))) : uk [.ref l] S = some (.bl false, S) := by
 have em : (xs.map fun _ => U.bl false) = (xs.map fun _ => false).map U.bl := by rw [List.map_map]; rfl
 have ea : ((xs.map fun _ => false).any id) = false := by simp
 simp only [uk, h, em, oe, Option.bind_some, ea]
noncomputable def og (cK : Cl) : CE := cOp fNe (mP (bY cK 2 (ah 2)) (ah 0) (ah 1)) (ah 1)
theorem rm {S : Sto} {k3 : Nat} {fs : List (Option U)} (h0 : S[k0]? = some (.ins cK fs)) (hf : fs[2]? = some (some (.ref k3))) (h3 : S[k3]? = some (.dic [])) {u : U} {k : Key} (hu : gK u = some k) : og cK [some u, some (.int a), some (.ref k0)] S = some (.bl false, S) := by
 have F : xn cK 2 (.ref k0, S) = some (.ref k3, S) := pe h0 hf
 have v0 : aK ([] : List (Key × U)) k = none := rfl
 have ea : decide (a = a) = true := decide_eq_true rfl
 unfold og
 rwa [F, h3, hu, v0, Option.getD_none, ea]
noncomputable def eA (cK : Cl) : Fn := fnU 3 3 (bT cK)
theorem xJ {lb : Nat} {bs : List Int} (M : Mem pos c T) (K : KpI cK pos c bx mk tk evs kn) (h0 : pos .kk = some k0) (hh : c .kh = .dic []) (hb : T[lb]? = some (.lst (bs.map U.int))) (hl : bs.length ≤ 900) : ∃ X, eA cK [.ref k0, .int a, .ref lb] T = some (.bl false, T ++ X) := by
 obtain ⟨k0', k1, k2, k3, k4, k5, q0, q1, q2, q3, q4, q5, qk⟩ := K.kk
 rw [h0] at q0; cases q0
 have t0 := M.at_ _ _ h0
 have t3 := M.at_ _ _ q3
 rw [qk] at t0
 rw [hh] at t3
 have key := iT (S := T) (ok := fun S => S[lb]? = some (.lst (bs.map U.int))) (gg := gNm 0) (ce := og cK) (f := U.int) (v := fun _ => .bl false) (Rel := fun ρ => ∃ r0, ρ = [r0, some (.int a), some (.ref k0)]) (fun ys G => aJ hb) bs [] [] [none, some (.int a), some (.ref k0)] ⟨_, rfl⟩ (by simp; omega) (fun b hb ys G ρ hρ => by
  obtain ⟨r0, rfl⟩ := hρ
  exact ⟨[some (.int b), some (.int a), some (.ref k0)], ⟨_, rfl⟩, rfl, rm (aJ t0) rfl (aJ t3) rfl⟩)
 simp only [List.nil_append] at key
 have hc : ff (iTp (ah 2)) (gNm 0) (og cK) 1 [1, 0] [some (.ref k0), some (.int a), some (.ref lb)] T = some (.ref T.length, T ++ [.lst (bs.map fun _ => .bl false)]) := by
  have hv : ah 2 [some (.ref k0), some (.int a), some (.ref lb)] T = some (.ref lb, T) := rfl
  unfold ff iTp
  rw [hv, Option.bind_some]
  simp only [hb, Option.bind_some, ja, List.replicate, List.map_cons, List.map_nil, List.getElem?_cons_zero, List.getElem?_cons_succ, Option.getD_some, List.cons_append, List.nil_append, key]
 have he : j0 (ff (iTp (ah 2)) (gNm 0) (og cK) 1 [1, 0]) (d9 (ah 2) (gNm 0) (og cK) 1 [1, 0]) [some (.ref k0), some (.int a), some (.ref lb)] T = some (.ref T.length, T ++ [.lst (bs.map fun _ => .bl false)]) := by
  unfold j0; rw [hc]
 have ha := rB (S := T ++ [.lst (bs.map fun _ => .bl false)]) (l := T.length) (xs := bs) (by rw [ga0]; rfl)
 refine ⟨[.lst (bs.map fun _ => .bl false)], ?_⟩
 unfold eA
 rw [ej]
 show ((eU (cCB uk (af (j0 (ff (iTp (ah 2)) (gNm 0) (og cK) 1 [1, 0]) (d9 (ah 2) (gNm 0) (og cK) 1 [1, 0])) aG))) _ T).bind kFn = _
 rwa [he, ha]
theorem nZ {S : Sto} {ci : CE} {el : CE} {n : Nat} {caps : List Nat} {ρ : Rho} {ld : Nat} {kus : List (Key × U)} {v : Key × U → U} {r : Rho} (hi : ci ρ S = some (.ref ld, S)) (hd : S[ld]? = some (.dic kus)) (hr : ja 1 caps ρ = none :: r) (hl : kus.length ≤ 900)
  (he : ∀ ep ys, ∀ p ∈ kus, el (some (kU p.1) :: r) (S.set ld (.fdc ep kus) ++ [.lst ys]) = some (v p, S.set ld (.fdc ep kus) ++ [.lst ys])) :
  d9 ci (gNm 0) el 1 caps ρ S = some (.ref S.length, S ++ [.lst (kus.map v)]) := by
 have lk : ld < S.length := (List.getElem?_eq_some_iff.mp hd).1
 unfold d9 n6
 rw [hi, Option.bind_some]
 simp only [hd]
 refine m9 fun ep => ?_
 have ek : ∀ X : Sto, (S.set ld (.fdc ep kus) ++ X)[ld]? = some (.fdc ep kus) := fun X => aJ (by rw [List.getElem?_set, if_pos rfl, if_pos lk])
 have key : ∀ (ks : List (Key × U)) (ys : List U) (r0 : Option U), (∀ p ∈ ks, p ∈ kus) → ys.length + ks.length ≤ 9999 → eQ (fun S' => S'[ld]? = some (.fdc ep kus)) (gNm 0) el S.length (ks.map fun p => kU p.1) (r0 :: r) (S.set ld (.fdc ep kus) ++ [.lst ys]) = some (S.set ld (.fdc ep kus) ++ [.lst (ys ++ ks.map v)]) := by
  intro ks
  induction ks with
  | nil => intro ys r0 _ _; rw [List.map_nil, List.map_nil, List.append_nil]; exact ik (ek _)
  | cons p ks ih =>
   intro ys r0 hm hn
   rw [List.length_cons] at hn
   rw [List.map_cons, List.map_cons]
   refine (fz (ρ0 := some (kU p.1) :: r) (S0 := S.set ld (.fdc ep kus) ++ [.lst ys]) (S1 := S.set ld (.fdc ep kus) ++ [.lst ys]) (x := v p) (ys := ys) (ek _) rfl (he ep ys p (hm p List.mem_cons_self)) ?_ (by unfold LIM; omega)).trans ?_
   ·have := ga0 (S := S.set ld (.fdc ep kus)) (X := [.lst ys])
    rw [List.length_set] at this
    rw [this]; rfl
   ·have := gs0 (S := S.set ld (.fdc ep kus)) (X := [.lst ys]) (o := .lst (ys ++ [v p]))
    rw [List.length_set] at this
    rw [this]
    show eQ _ _ _ _ _ _ (S.set ld (.fdc ep kus) ++ [.lst (ys ++ [v p])]) = _
    rw [ih (ys ++ [v p]) _ (fun q hq => hm q (List.mem_cons_of_mem _ hq)) (by simp; omega), List.append_assoc]; rfl
 rw [hr, key kus [] none (fun p h => h) (by simp; omega), Option.bind_some]
 have e2 : (S.set ld (.fdc ep kus) ++ [O.lst ([] ++ kus.map v)]).set ld (.dic kus) = S ++ [.lst (kus.map v)] := by
  rw [List.set_append_left _ _ (by rw [List.length_set]; exact lk), jK hd, List.nil_append]
 simp only [ek, e2]
theorem rn {s : Sl} {ld : Nat} {kus : List (Key × U)} (M : Mem pos c T) (K : KpI cK pos c bx mk tk evs kn) (h0 : pos .kk = some k0) (hh : c .kh = .dic []) (hs : pos s = some ld) (hc : c s = .dic kus) (s1 : s ≠ .kk) (s2 : s ≠ .kh) (hl : kus.length ≤ 900) : ∃ X, eA cK [.ref k0, .int a, .ref ld] T = some (.bl false, T ++ X) := by
 obtain ⟨k0', k1, k2, k3, k4, k5, q0, q1, q2, q3, q4, q5, qk⟩ := K.kk
 rw [h0] at q0; cases q0
 have td := M.at_ _ _ hs
 rw [hc] at td
 have hcd := nZ (S := T) (ci := ah 2) (el := og cK) (n := 1) (caps := [1, 0]) (ρ := [some (.ref k0), some (.int a), some (.ref ld)]) (r := [some (.int a), some (.ref k0)]) (v := fun _ => .bl false) rfl td rfl hl (fun ep ys p hp => by
  have M1 := M.set hs (.fdc ep kus)
  have t0 := M1.at_ _ _ h0
  have t3 := M1.at_ _ _ q3
  rw [aa (Ne.symm s1), qk] at t0
  rw [aa (Ne.symm s2), hh] at t3
  refine rm (aJ t0) rfl (aJ t3) (k := p.1) ?_
  cases p.1 <;> rfl)
 have he : j0 (ff (iTp (ah 2)) (gNm 0) (og cK) 1 [1, 0]) (d9 (ah 2) (gNm 0) (og cK) 1 [1, 0]) [some (.ref k0), some (.int a), some (.ref ld)] T = some (.ref T.length, T ++ [.lst (kus.map fun _ => .bl false)]) := by
  have h1 : ff (iTp (ah 2)) (gNm 0) (og cK) 1 [1, 0] [some (.ref k0), some (.int a), some (.ref ld)] T = none := by
   have hv : ah 2 [some (.ref k0), some (.int a), some (.ref ld)] T = some (.ref ld, T) := rfl
   unfold ff iTp
   rw [hv, Option.bind_some]
   simp only [td]
   rfl
  unfold j0
  rw [h1]
  exact hcd
 have ha := rB (S := T ++ [.lst (kus.map fun _ => .bl false)]) (l := T.length) (xs := kus) (by rw [ga0]; rfl)
 refine ⟨[.lst (kus.map fun _ => .bl false)], ?_⟩
 unfold eA
 rw [ej]
 show ((eU (cCB uk (af (j0 (ff (iTp (ah 2)) (gNm 0) (og cK) 1 [1, 0]) (d9 (ah 2) (gNm 0) (og cK) 1 [1, 0])) aG))) _ T).bind kFn = _
 rwa [he, ha]
end
section
variable {cK cA : Cl} {pos : Sl → Option Nat} {c : Sl → O} {T : Sto} {bx mk : List Int} {tk a b g : Int} {evs : List U} {kn lk ps : List (Key × U)} {un : U} {k0 : Nat}
theorem rp {b : Int} (b0 : 0 ≤ b) (b1 : b < mk.length) : atI (mk.map U.int) b = some (.int (mk.getD b.toNat 0)) := by
 have hi : b.toNat < mk.length := by omega
 have := fB (xs := mk.map U.int) (j := b.toNat) (v := .int mk[b.toNat]) (by rw [List.getElem?_map, List.getElem?_eq_getElem hi]; rfl)
 rw [show ((b.toNat : Nat) : Int) = b from by omega] at this
 rw [this, List.getD_eq_getElem?_getD, List.getElem?_eq_getElem hi]; rfl
noncomputable def AN (mk : List Int) (lk : List (Key × U)) : Prop := ∀ p ∈ lk, ∃ b : Int, p.1 = .inl b ∧ 0 ≤ b ∧ b < mk.length ∧ mk.getD b.toNat 0 = 0
noncomputable def AI (cK cA : Cl) : CE := cOp fGt (cOp fIx (bY cK 1 (ah 2)) (ah 0)) (bY cA 0 (ah 1))
noncomputable def dS (cK cA : Cl) : Fn := fnU 3 2 (bc cK cA)
theorem mM {stp op : U} (M : Mem pos c T) (K : KpI cK pos c bx mk tk evs kn) (A : AtI cA pos c kn a g stp un op lk ps) (h0 : pos .kk = some k0) (hg : 0 ≤ g) (cm : AN mk lk) (hl : lk.length ≤ 900) : ∃ X, dS cK cA [.ref k0, .int a] T = some (.bl false, T ++ X) := by
 obtain ⟨k0', k1, k2, k3, k4, k5, q0, q1, q2, q3, q4, q5, qk⟩ := K.kk
 rw [h0] at q0; cases q0
 obtain ⟨r, l, q, p1, p2, p3, p4, p5⟩ := A.ex
 have t0 := M.at_ _ _ h0
 have t5 := M.at_ _ _ q5
 have tr := M.at_ _ _ p1
 have tl := M.at_ _ _ p2
 rw [qk] at t0
 rw [K.kn] at t5
 rw [p5] at tr
 rw [A.lo] at tl
 have hi : bY cA 1 (ah 2) [some (.ref k0), some (.int a), some (.ref r)] T = some (.ref l, T) := by
  rwa [tr]
 have hcd := nZ (S := T) (ci := bY cA 1 (ah 2)) (el := AI cK cA) (n := 1) (caps := [2, 0]) (ρ := [some (.ref k0), some (.int a), some (.ref r)]) (r := [some (.ref r), some (.ref k0)]) (v := fun _ => .bl false) hi tl rfl hl (fun ep ys p hp => by
  obtain ⟨b, eb, b0, b1, b2⟩ := cm p hp
  have M1 := M.set p2 (.fdc ep lk)
  have s0 := M1.at_ _ _ h0
  have s2 := M1.at_ _ _ q2
  have sr := M1.at_ _ _ p1
  rw [aa (by intro h; cases h), qk] at s0
  rw [aa (by intro h; cases h), K.km] at s2
  rw [aa (by intro h; cases h), p5] at sr
  have g0 := aJ (r := [O.lst ys]) s0
  have g2 := aJ (r := [O.lst ys]) s2
  have gr := aJ (r := [O.lst ys]) sr
  have am := rp b0 b1
  have hd : decide (mk.getD b.toNat 0 > g) = false := by rw [b2]; exact decide_eq_false (by omega)
  rw [eb]
  show AI cK cA [some (.int b), some (.ref r), some (.ref k0)] _ = _
  unfold AI
  rwa [g0, g2, gr, am, hd])
 have ha := rB (S := T ++ [.lst (lk.map fun _ => .bl false)]) (l := T.length) (xs := lk) (by rw [ga0]; rfl)
 refine ⟨[.lst (lk.map fun _ => .bl false)], ?_⟩
 unfold dS
 rw [fK]
 unfold bc
 rw [eD (ρ' := [some (.ref k0), some (.int a), some (.ref r)]) (S' := T) (by rwa [t0, t5, p4])]
 show ((eU (cCB uk (af (d9 (bY cA 1 (ah 2)) (gNm 0) (AI cK cA) 1 [2, 0]) aG))) _ T).bind kFn = _
 rwa [hcd, ha]
noncomputable def Cz (cK cA : Cl) : Fn := fnU 3 3 (bp (eA cK) (dS cK cA) cK cA)
theorem BC {stp op : U} (M : Mem pos c T) (K : KpI cK pos c bx mk tk evs kn) (A : AtI cA pos c kn a g stp un op lk ps) (h0 : pos .kk = some k0) (hh : c .kh = .dic []) (hg : 0 ≤ g) (b0 : 0 ≤ b) (b1 : b < mk.length) (b2 : mk.getD b.toNat 0 = 0) : ∃ X, Cz cK cA [.ref k0, .int a, .int b] T = some (.bl false, T ++ X) := by
 obtain ⟨k0', k1, k2, k3, k4, k5, q0, q1, q2, q3, q4, q5, qk⟩ := K.kk
 rw [h0] at q0; cases q0
 obtain ⟨r, l, q, p1, p2, p3, p4, p5⟩ := A.ex
 have t0 := M.at_ _ _ h0
 have t2 := M.at_ _ _ q2
 have t5 := M.at_ _ _ q5
 have tr := M.at_ _ _ p1
 rw [qk] at t0
 rw [K.km] at t2
 rw [K.kn] at t5
 rw [p5] at tr
 obtain ⟨X, e1⟩ := xJ (a := a) (lb := T.length) (bs := [b]) (M.app [.lst [.int b]]) K h0 hh (by rw [ga0]; rfl) (by simp)
 have g0 : ∀ Y, (T ++ Y)[k0]? = _ := fun Y => aJ t0
 have g2 : ∀ Y, (T ++ Y)[k2]? = _ := fun Y => aJ t2
 have g5 : ∀ Y, (T ++ Y)[k5]? = _ := fun Y => aJ t5
 have gr : ∀ Y, (T ++ Y)[r]? = _ := fun Y => aJ tr
 have am := rp b0 b1
 have hd : decide (mk.getD b.toNat 0 ≤ g) = true := by rw [b2]; exact decide_eq_true hg
 refine ⟨.lst [.int b] :: X, ?_⟩
 rw [List.append_assoc] at e1
 unfold Cz
 rw [fY]
 simp only [List.cons_append, List.nil_append] at e1
 rwa [bp, t0, g0, e1, g2, g5, p4, gr, am, hd]
noncomputable def rD (cK cA : Cl) : Fn := fnU 3 3 (bB cK cA)
theorem xO {stp op : U} {r : Nat} (M : Mem pos c T) (K : KpI cK pos c bx mk tk evs kn) (A : AtI cA pos c kn a g stp un op lk ps) (h0 : pos .kk = some k0) (hr : pos (.at a) = some r) (hg : 0 ≤ g) (b0 : 0 ≤ b) (b1 : b < mk.length) (b2 : mk.getD b.toNat 0 = 0) (b3 : b < bx.length) (hl : lk.length ≤ 900) :
  ∃ T', rD cK cA [.ref k0, .ref r, .int b] T = some (.int (bx.getD b.toNat 0), T') ∧ Mem pos (cM c (.lo a) (.dic (dj lk (.inl b) (.bl true)))) T' := by
 obtain ⟨k0', k1, k2, k3, k4, k5, q0, q1, q2, q3, q4, q5, qk⟩ := K.kk
 rw [h0] at q0; cases q0
 obtain ⟨r', l, q, p1, p2, p3, p4, p5⟩ := A.ex
 rw [hr] at p1; cases p1
 have t0 := M.at_ _ _ h0
 have t2 := M.at_ _ _ q2
 have tr := M.at_ _ _ hr
 have tl := M.at_ _ _ p2
 rw [qk] at t0
 rw [K.km] at t2
 rw [p5] at tr
 rw [A.lo] at tl
 have M1 := M.set p2 (.dic (dj lk (.inl b) (.bl true)))
 have s0 := M1.at_ _ _ h0
 have s1 := M1.at_ _ _ q1
 rw [aa (by intro h; cases h), qk] at s0
 rw [aa (by intro h; cases h), K.kb] at s1
 have am := rp b0 b1
 have ab := rp (mk := bx) b0 b3
 have hd : decide (mk.getD b.toNat 0 > g) = false := by rw [b2]; exact decide_eq_false (by omega)
 have hL : lk.length < LIM := by unfold LIM; omega
 refine ⟨_, ?_, M1⟩
 unfold rD
 rw [gD]
 rwa [bB, t0, t2, tr, am, hd, tl, hL, if_true, s0, s1, ab]
theorem KpI.upd {s : Sl} {o : O} (K : KpI cK pos c bx mk tk evs kn) (h : s ≠ .kk ∧ s ≠ .kb ∧ s ≠ .km ∧ s ≠ .ke ∧ s ≠ .kn) : KpI cK pos (cM c s o) bx mk tk evs kn := by
 obtain ⟨h1, h2, h3, h4, h5⟩ := h
 refine ⟨?_, ?_, ?_, ?_, ?_⟩
 ·rw [aa (Ne.symm h1)]; exact K.kk
 ·rw [aa (Ne.symm h2)]; exact K.kb
 ·rw [aa (Ne.symm h3)]; exact K.km
 ·rw [aa (Ne.symm h4)]; exact K.ke
 ·rw [aa (Ne.symm h5)]; exact K.kn
theorem KpI.ev {es : List U} (K : KpI cK pos c bx mk tk evs kn) : KpI cK pos (cM c .ke (.lst es)) bx mk tk es kn := by
 refine ⟨?_, ?_, ?_, ax, ?_⟩
 ·rw [aa (by intro h; cases h)]; exact K.kk
 ·rw [aa (by intro h; cases h)]; exact K.kb
 ·rw [aa (by intro h; cases h)]; exact K.km
 ·rw [aa (by intro h; cases h)]; exact K.kn
noncomputable def iY (cK cA : Cl) : Fn := fnU 5 3 (cf (eI cK cA) (Cz cK cA) (gH cK cA) (rD cK cA) cK cA)
theorem tZ {pp : List (Int × Int)} (M : Mem pos c T) (K : KpI cK pos c bx mk tk evs kn) (A : AtI cA pos c kn a g .non un (.bl true) lk (bH pp)) (h0 : pos .kk = some k0) (hh : c .kh = .dic []) (hg : 0 ≤ g) (b0 : 0 ≤ b) (b1 : b < mk.length) (b2 : mk.getD b.toNat 0 = 0) (b3 : b < bx.length) (hl : lk.length ≤ 900) (he : evs.length ≤ 900) :
  ∃ T' lk' e, iY cK cA [.ref k0, .int a, .int b] T = some (.tup [.str "number", .int ((aK pp b).getD (bx.getD b.toNat 0))], T') ∧ Mem pos (cM (cM c (.lo a) (.dic lk')) .ke (.lst (evs ++ [e]))) T' ∧ (lk' = lk ∨ lk' = dj lk (.inl b) (.bl true)) := by
 obtain ⟨k0', k1, k2, k3, k4, k5, q0, q1, q2, q3, q4, q5, qk⟩ := K.kk
 rw [h0] at q0; cases q0
 obtain ⟨r, l, q, p1, p2, p3, p4, p5⟩ := A.ex
 have e1 := fD M K A h0 p1
 have t0 := M.at_ _ _ h0
 have tr := M.at_ _ _ p1
 have tq := M.at_ _ _ p3
 rw [qk] at t0
 rw [p5] at tr
 rw [A.pu] at tq
 have hL : evs.length < LIM := by unfold LIM; omega
 have vp : aK (bH pp) (.inl b) = (aK pp b).map U.int := fC ..
 cases hv : aK pp b with
 | some v =>
  rw [hv] at vp
  have hlo : cM c (.lo a) (.dic lk) = c := by
   funext s
   by_cases e : s = .lo a
   ·subst e; rw [ax, A.lo]
   ·rw [aa e]
  have t4 := M.at_ _ _ q4
  rw [K.ke] at t4
  refine ⟨T.set k4 (.lst (evs ++ [.tup [.str "look", .int a, .int b, .int v]])), lk, .tup [.str "look", .int a, .int b, .int v], ?_, by rw [hlo]; exact M.set q4 _, .inl rfl⟩
  unfold iY
  rw [gE]
  rwa [cf, t0, e1, tr, tq, vp, Option.map_some, Option.isSome_some, Bool.false_eq_true, if_false, t4, jv hL, Option.getD_some]
 | none =>
  rw [hv] at vp
  obtain ⟨X, e2⟩ := BC M K A h0 hh hg b0 b1 b2
  have M1 := M.app X
  obtain ⟨T2, e3, M2⟩ := xO M1 K A h0 p1 hg b0 b1 b2 b3 hl
  have s0 := M2.at_ _ _ h0
  have s4 := M2.at_ _ _ q4
  rw [aa (by intro h; cases h), qk] at s0
  rw [aa (by intro h; cases h), K.ke] at s4
  have g0 : (T ++ X)[k0]? = _ := aJ t0
  refine ⟨T2.set k4 (.lst (evs ++ [.tup [.str "look", .int a, .int b, .int (bx.getD b.toNat 0)]])), dj lk (.inl b) (.bl true), .tup [.str "look", .int a, .int b, .int (bx.getD b.toNat 0)], ?_, M2.set q4 _, .inr rfl⟩
  unfold iY
  rw [gE]
  rwa [cf, t0, e1, tr, tq, vp, Option.map_none, Option.isSome_none, Bool.false_eq_true, if_false, e2, g0, e3, s0, s4, jv hL, Option.getD_none]
noncomputable def oh (cK cA : Cl) : Fn := fnU 5 4 (dE (eI cK cA) cK cA)
theorem xj {pp : List (Int × Int)} {v : Int} (M : Mem pos c T) (K : KpI cK pos c bx mk tk evs kn) (A : AtI cA pos c kn a g .non un (.bl true) lk (bH pp)) (h0 : pos .kk = some k0) (hl : pp.length ≤ 900) (he : evs.length ≤ 900) :
  ∃ T' e, oh cK cA [.ref k0, .int a, .int b, .int v] T = some (.non, T') ∧ Mem pos (cM (cM c (.pu a) (.dic (bH (dj pp b v)))) .ke (.lst (evs ++ [e]))) T' := by
 obtain ⟨k0', k1, k2, k3, k4, k5, q0, q1, q2, q3, q4, q5, qk⟩ := K.kk
 rw [h0] at q0; cases q0
 obtain ⟨r, l, q, p1, p2, p3, p4, p5⟩ := A.ex
 have e1 := fD M K A h0 p1
 have t0 := M.at_ _ _ h0
 have tr := M.at_ _ _ p1
 have tq := M.at_ _ _ p3
 rw [qk] at t0
 rw [p5] at tr
 rw [A.pu] at tq
 have hL : evs.length < LIM := by unfold LIM; omega
 have hP : (bH pp).length < LIM := by unfold LIM bH; rw [List.length_map]; omega
 have M1 := M.set p3 (.dic (bH (dj pp b v)))
 have s0 := M1.at_ _ _ h0
 have s4 := M1.at_ _ _ q4
 rw [aa (by intro h; cases h), qk] at s0
 rw [aa (by intro h; cases h), K.ke] at s4
 refine ⟨_, .tup [.str "put", .int a, .int b, .int v], ?_, M1.set q4 _⟩
 unfold oh
 rw [lh]
 rwa [dE, t0, e1, tr, tq, hP, if_true, nr, s0, s4, jv hL]
end
section
variable {cK cA : Cl} {pos : Sl → Option Nat} {c : Sl → O} {T : Sto} {bx mk : List Int} {tk a b g : Int} {evs : List U} {kn lk ps : List (Key × U)} {un : U} {k0 : Nat}
noncomputable def j6 (cA : Cl) : Fn := fnU 2 2 (cI cA)
noncomputable def rM (cA : Cl) (g : Int) (n : Nat) : O := .ins cA [some (.int g), some (.ref (n + 1)), some (.ref (n + 2)), some .non, some (.ref (n + 3)), some (.bl true)]
theorem tP {S : Sto} (hns : cA.ns.length = 6) : jo cA (j6 cA) [.int tk] S = some (.ref S.length, S ++ [rM cA tk S.length, .dic [], .dic [], .lst []]) := by
 rw [uG, hns]
 unfold j6
 rw [js]
 have l1 : ∀ o : O, (S ++ [o]).length = S.length + 1 := fun o => by rw [List.length_append]; rfl
 have l2 : ∀ o o' : O, (S ++ [o, o']).length = S.length + 2 := fun o o' => by rw [List.length_append]; rfl
 have l3 : ∀ o o' o2 : O, (S ++ [o, o', o2]).length = S.length + 3 := fun o o' o2 => by rw [List.length_append]; rfl
 rwa [cI, List.replicate, l1, l2, l3, rM]
noncomputable def gI (cK cA : Cl) : Fn := fnU 2 2 (cH (j6 cA) cK cA)
noncomputable def oV (pos : Sl → Option Nat) (a : Int) (n : Nat) : Sl → Option Nat := ef (ef (ef pos (.at a) n) (.lo a) (n + 1)) (.pu a) (n + 2)
noncomputable def uv (cA : Cl) (c : Sl → O) (a g : Int) (n : Nat) : Sl → O := cM (cM (cM c (.at a) (rM cA g n)) (.lo a) (.dic [])) (.pu a) (.dic [])
theorem Mem.att (M : Mem pos c T) (X : Sto) : Mem (oV pos a T.length) (uv cA c a g T.length) (T ++ (rM cA g T.length :: .dic [] :: .dic [] :: X)) := by
 have M1 := M.new (.at a) (rM cA g T.length) []
 have M2 := M1.new (.lo a) (.dic []) []
 have M3 := M2.new (.pu a) (.dic []) X
 have l1 : (T ++ [rM cA g T.length]).length = T.length + 1 := by rw [List.length_append]; rfl
 have l2 : (T ++ [rM cA g T.length] ++ [O.dic []]).length = T.length + 2 := by rw [List.length_append, l1]; rfl
 rw [l1, l2] at M3
 have e : T ++ [rM cA g T.length] ++ [O.dic []] ++ (.dic [] :: X) = T ++ (rM cA g T.length :: .dic [] :: .dic [] :: X) := by simp only [List.append_assoc, List.cons_append, List.nil_append]
 rw [e] at M3
 exact M3
theorem ig {s : Sl} {n : Nat} (h : s ≠ .at a ∧ s ≠ .lo a ∧ s ≠ .pu a) : oV pos a n s = pos s := by
 unfold oV ef
 rw [if_neg h.2.2, if_neg h.2.1, if_neg h.1]
theorem fF {s : Sl} {n : Nat} (h : s ≠ .at a ∧ s ≠ .lo a ∧ s ≠ .pu a) : uv cA c a g n s = c s := by
 unfold uv
 rw [aa h.2.2, aa h.2.1, aa h.1]
theorem qF (hns : cA.ns.length = 6) (M : Mem pos c T) (K : KpI cK pos c bx mk tk evs kn) (h0 : pos .kk = some k0) (hn : aK kn (.inl a) = none) (hk : kn.length ≤ 900) (he : evs.length ≤ 900) :
  ∃ T' e, gI cK cA [.ref k0, .int a] T = some (.non, T') ∧ Mem (oV pos a T.length) (cM (cM (uv cA c a tk T.length) .kn (.dic (dj kn (.inl a) (.ref T.length)))) .ke (.lst (evs ++ [e]))) T' ∧ T.length + 4 ≤ T'.length := by
 obtain ⟨k0', k1, k2, k3, k4, k5, q0, q1, q2, q3, q4, q5, qk⟩ := K.kk
 rw [h0] at q0; cases q0
 have t0 := M.at_ _ _ h0
 have t5 := M.at_ _ _ q5
 rw [qk] at t0
 rw [K.kn] at t5
 have hs : (aK kn (.inl a)).isSome = false := by rw [hn]; rfl
 have M1 := M.att (cA := cA) (a := a) (g := tk) [.lst []]
 have em := tP (cA := cA) (S := T) (tk := tk) hns
 obtain ⟨T1, hT1⟩ : ∃ T1, T1 = T ++ [rM cA tk T.length, .dic [], .dic [], .lst []] := ⟨_, rfl⟩
 rw [← hT1] at M1 em
 have p5 : oV pos a T.length .kn = some k5 := by rw [ig (by refine ⟨?_, ?_, ?_⟩ <;> (intro h; cases h))]; exact q5
 have p0 : oV pos a T.length .kk = some k0 := by rw [ig (by refine ⟨?_, ?_, ?_⟩ <;> (intro h; cases h))]; exact h0
 have p4 : oV pos a T.length .ke = some k4 := by rw [ig (by refine ⟨?_, ?_, ?_⟩ <;> (intro h; cases h))]; exact q4
 have s5 := M1.at_ _ _ p5
 have s0 := M1.at_ _ _ p0
 rw [fF (by refine ⟨?_, ?_, ?_⟩ <;> (intro h; cases h)), K.kn] at s5
 rw [fF (by refine ⟨?_, ?_, ?_⟩ <;> (intro h; cases h)), qk] at s0
 have M2 := M1.set p5 (.dic (dj kn (.inl a) (.ref T.length)))
 have u0 := M2.at_ _ _ p0
 have u4 := M2.at_ _ _ p4
 rw [aa (by intro h; cases h), fF (by refine ⟨?_, ?_, ?_⟩ <;> (intro h; cases h)), qk] at u0
 rw [aa (by intro h; cases h), fF (by refine ⟨?_, ?_, ?_⟩ <;> (intro h; cases h)), K.ke] at u4
 have hK : kn.length < LIM := by unfold LIM; omega
 have hE : evs.length < LIM := by unfold LIM; omega
 refine ⟨_, .tup [.str "begin", .int a], ?_, M2.set p4 _, ?_⟩
 ·unfold gI
  rw [jr]
  rwa [cH, t0, t5, hs, Bool.false_eq_true, if_false, em, s0, s5, hK, if_true, u0, u4, jv hE]
 ·rw [List.length_set, List.length_set, hT1]; simp
noncomputable def iX (cK cA : Cl) : Fn := fnU 4 2 (b8 (eI cK cA) (gH cK cA) (eA cK) (dS cK cA) cK cA)
theorem qB (M : Mem pos c T) (K : KpI cK pos c bx mk tk evs kn) (A : AtI cA pos c kn a g .non un (.bl true) lk []) (h0 : pos .kk = some k0) (he : evs.length ≤ 900) :
  ∃ T' o e, iX cK cA [.ref k0, .int a] T = some (.str "done", T') ∧ Mem pos (cM (cM c (.at a) o) .ke (.lst (evs ++ [e]))) T' := by
 obtain ⟨k0', k1, k2, k3, k4, k5, q0, q1, q2, q3, q4, q5, qk⟩ := K.kk
 rw [h0] at q0; cases q0
 obtain ⟨T', e2, r', l', q', _, _, _, M'⟩ := xl (word := "done") M K A h0 he
 obtain ⟨r, l, q, p1, p2, p3, p4, p5⟩ := A.ex
 have e1 := fD M K A h0 p1
 have t0 := M.at_ _ _ h0
 have tr := M.at_ _ _ p1
 have tq := M.at_ _ _ p3
 rw [qk] at t0
 rw [p5] at tr
 rw [A.pu] at tq
 refine ⟨T', _, _, ?_, M'⟩
 have z0 : decide (((0 : Nat) : Int) = 0) = true := rfl
 unfold iX
 rw [gC]
 rwa [b8, t0, e1, tr, tq, z0, e2]
end
section
variable {cK cA : Cl} {pos : Sl → Option Nat} {c : Sl → O} {T : Sto} {bx mk : List Int} {tk a b g : Int} {evs : List U} {kn lk ps : List (Key × U)} {un : U} {k0 : Nat}
noncomputable def qO (a : Int) (hd : List (Key × U)) (bs : List Int) : List (Key × U) := bs.foldl (fun hd b => dj hd (.inl b) (.int a)) hd
theorem nS : ∀ (bs : List Int) (hd : List (Key × U)) (p : Key × U), p ∈ qO a hd bs → (∃ q ∈ hd, q.1 = p.1) ∨ ∃ b ∈ bs, p.1 = .inl b
 | [], hd, p, h => .inl ⟨p, h, rfl⟩
 | b :: bs, hd, p, h => by
  rcases nS bs (dj hd (.inl b) (.int a)) p h with ⟨q, hq, e⟩ | ⟨b', hb, e⟩
  ·rcases ie hq with z | ⟨q', hq', z⟩
   ·exact .inr ⟨b, List.mem_cons_self, by rw [← e, z]⟩
   ·exact .inl ⟨q', hq', by rw [z, e]⟩
  ·exact .inr ⟨b', List.mem_cons_of_mem _ hb, e⟩
theorem nR : ∀ (bs : List Int) (hd : List (Key × U)) (b : Int), (b ∈ bs ∨ (aK hd (.inl b)).isSome = true) → (aK (qO a hd bs) (.inl b)).isSome = true
 | [], hd, b, h => by
  rcases h with h | h
  ·cases h
  ·exact h
 | b' :: bs, hd, b, h => by
  refine nR bs (dj hd (.inl b') (.int a)) b ?_
  rcases h with h | h
  ·rcases List.mem_cons.mp h with e | e
   ·exact .inr (by rw [hU, if_pos (by rw [e])]; rfl)
   ·exact .inl e
  ·exact .inr (by rw [hU]; split <;> simp [h])
noncomputable abbrev tkB (cK cA : Cl) : CS := ed (eI cK cA) (gH cK cA) (eA cK) (dS cK cA) cK cA
theorem kO {lu k3 : Nat} {us : List U} {r2 : Option U} {fs : List (Option U)} (hf : fs[2]? = some (some (.ref k3))) (n0 : k0 ≠ k3) (nu : lu ≠ k3) : ∀ (bs : List Int) (hd : List (Key × U)) (Y : Sto) (r3 : Option U), Y[k0]? = some (.ins cK fs) → Y[lu]? = some (.lst us) → Y[k3]? = some (.dic hd) → hd.length + bs.length ≤ 900 →
  ∃ r3', dr (fun S => S[lu]? = some (.lst us)) (gNm 3) (tkB cK cA) (bs.map U.int) [some (.ref k0), some (.int a), r2, r3] Y = some (.nx, [some (.ref k0), some (.int a), r2, r3'], Y.set k3 (.dic (qO a hd bs)))
 | [], hd, Y, r3, h0, hu, h3, _ => ⟨r3, by
  have : Y.set k3 (.dic hd) = Y := by
   refine List.ext_getElem? fun i => ?_
   rw [List.getElem?_set]
   split
   ·rename_i e; subst e
    have := (List.getElem?_eq_some_iff.mp h3).1
    rw [if_pos this]; exact h3.symm
   ·rfl
  show _ = some (Out.nx, _, Y.set k3 (.dic hd))
  rw [this]; exact dN hu⟩
 | b :: bs, hd, Y, r3, h0, hu, h3, hl => by
  rw [List.length_cons] at hl
  have l3 : k3 < Y.length := (List.getElem?_eq_some_iff.mp h3).1
  have hL : hd.length < LIM := by unfold LIM; omega
  have h2 : (dj hd (.inl b) (U.int a)).length ≤ hd.length + 1 := jM ..
  obtain ⟨r3', ih⟩ := kO (us := us) (r2 := r2) hf n0 nu bs (dj hd (.inl b) (.int a)) (Y.set k3 (.dic (dj hd (.inl b) (.int a)))) (some (.int b)) (by rw [List.getElem?_set_ne n0.symm]; exact h0) (by rw [List.getElem?_set_ne nu.symm]; exact hu) (by rw [List.getElem?_set, if_pos rfl, if_pos l3]) (by omega)
  rw [List.set_set] at ih
  refine ⟨r3', (eC hu rfl ?_).trans ih⟩
  have F : xn cK 2 (.ref k0, Y) = some (.ref k3, Y) := pe h0 hf
  rwa [tkB, ed, F, h3, hL, if_true]
noncomputable def jO (cK : Cl) (k1 k2 k3 : Nat) (tk : Int) (k4 k5 : Nat) : O := .ins cK [some (.ref k1), some (.ref k2), some (.ref k3), some (.int tk), some (.ref k4), some (.ref k5)]
theorem tY {pp : List (Int × Int)} {r l q k1 k2 k3 k4 k5 : Nat} (M : Mem pos c T) (K : KpI cK pos c bx mk tk evs kn) (A : AtI cA pos c kn a g .non un (.bl true) lk (bH pp)) (h0 : pos .kk = some k0) (q1 : pos .kb = some k1) (q2 : pos .km = some k2) (q3 : pos .kh = some k3) (q4 : pos .ke = some k4) (q5 : pos .kn = some k5) (p1 : pos (.at a) = some r) (p2 : pos (.lo a) = some l) (p3 : pos (.pu a) = some q)
  (hh : c .kh = .dic []) (hg : 0 ≤ g) (cm : AN mk lk) (hl : lk.length ≤ 900) (hne : pp ≠ []) (hp : pp.length < 64) :
  ∃ T' lu, iX cK cA [.ref k0, .int a] T = some (.str "taken", T') ∧ T.length ≤ lu ∧
   Mem (ef pos .un lu) (cM (cM (cM (cM c .un (.lst ((gk (pp.map (·.1))).map U.int))) .kk (jO cK k1 k2 k3 (tk + 1) k4 k5)) (.at a) (.ins cA [some (.int g), some (.ref l), some (.ref q), some (.int (tk + 1)), some (.ref lu), some (.bl true)])) .kh (.dic (qO a [] (gk (pp.map (·.1)))))) T' := by
 obtain ⟨k0', k1', k2', k3', k4', k5', w0, w1, w2, w3, w4, w5, qk⟩ := K.kk
 rw [h0] at w0; cases w0
 rw [q1] at w1; cases w1
 rw [q2] at w2; cases w2
 rw [q3] at w3; cases w3
 rw [q4] at w4; cases w4
 rw [q5] at w5; cases w5
 obtain ⟨r', l', q', v1, v2, v3, p4, p5⟩ := A.ex
 rw [p1] at v1; cases v1
 rw [p2] at v2; cases v2
 rw [p3] at v3; cases v3
 have e1 := fD M K A h0 p1
 have t0 := M.at_ _ _ h0
 have tr := M.at_ _ _ p1
 have tq := M.at_ _ _ p3
 rw [qk] at t0
 rw [p5] at tr
 rw [A.pu] at tq
 have pl : (bH pp).length = pp.length := by unfold bH; rw [List.length_map]
 obtain ⟨X1, b1⟩ := rn (a := a) M K h0 hh p2 A.lo (by intro h; cases h) (by intro h; cases h) hl
 have M1 := M.app X1
 obtain ⟨X2, b2⟩ := rn (a := a) M1 K h0 hh p3 A.pu (by intro h; cases h) (by intro h; cases h) (by rw [pl]; omega)
 have M2 := M1.app X2
 obtain ⟨X3, b3⟩ := mM M2 K A h0 hg cm hl
 have M3 := M2.app X3
 have z0 : decide ((((bH pp).length : Nat) : Int) = 0) = false := by
  have := List.length_pos_iff.mpr hne
  exact decide_eq_false (by rw [pl]; omega)
 have t0' : (T ++ X1 ++ X2 ++ X3)[k0]? = _ := aJ (aJ (aJ t0))
 have M4 := M3.set h0 (jO cK k1 k2 k3 (tk + 1) k4 k5)
 obtain ⟨T4, hT4⟩ : ∃ T4, T4 = (T ++ X1 ++ X2 ++ X3).set k0 (jO cK k1 k2 k3 (tk + 1) k4 k5) := ⟨_, rfl⟩
 rw [← hT4] at M4
 have u0 := M4.at_ _ _ h0
 rw [ax] at u0
 have ur := M4.at_ _ _ p1
 rw [aa (by intro h; cases h), p5] at ur
 have M5 := M4.set p1 (.ins cA [some (.int g), some (.ref l), some (.ref q), some (.int (tk + 1)), some un, some (.bl true)])
 obtain ⟨T5, hT5⟩ : ∃ T5, T5 = T4.set r (.ins cA [some (.int g), some (.ref l), some (.ref q), some (.int (tk + 1)), some un, some (.bl true)]) := ⟨_, rfl⟩
 rw [← hT5] at M5
 have v5 := M5.at_ _ _ p1
 rw [ax] at v5
 have vq := M5.at_ _ _ p3
 rw [aa (by intro h; cases h), aa (by intro h; cases h), A.pu] at vq
 obtain ⟨ks, hks⟩ : ∃ ks, ks = gk (pp.map (·.1)) := ⟨_, rfl⟩
 have lks : ks.length = pp.length := by rw [hks, (cT _).length_eq, List.length_map]
 have kI : ∀ ps : List (Int × Int), oI (bH ps) = some (ps.map (·.1)) := fun ps => by
  induction ps with
  | nil => rfl
  | cons p r ih => unfold bH at ih ⊢; rw [List.map_cons, oI, ih]; rfl
 have hso : iP [.ref q] T5 = some (.ref T5.length, T5 ++ [.lst (ks.map U.int)]) := by
  have : (pp.map (·.1)).length < 64 := by rw [List.length_map]; exact hp
  simp only [iP, vq, kI, Option.bind_some, this, if_true, hks]
 have M6 := M5.new .un (.lst (ks.map U.int)) []
 have n1 : ef pos .un T5.length (.at a) = some r := by unfold ef; rw [if_neg (by intro h; cases h)]; exact p1
 have n0 : ef pos .un T5.length .kk = some k0 := by unfold ef; rw [if_neg (by intro h; cases h)]; exact h0
 have n3 : ef pos .un T5.length .kh = some k3 := by unfold ef; rw [if_neg (by intro h; cases h)]; exact q3
 have nu : ef pos .un T5.length .un = some T5.length := by unfold ef; rw [if_pos rfl]
 have v5' : (T5 ++ [O.lst (ks.map U.int)])[r]? = _ := aJ v5
 have M7 := M6.set n1 (.ins cA [some (.int g), some (.ref l), some (.ref q), some (.int (tk + 1)), some (.ref T5.length), some (.bl true)])
 obtain ⟨T7, hT7⟩ : ∃ T7, T7 = (T5 ++ [O.lst (ks.map U.int)]).set r (.ins cA [some (.int g), some (.ref l), some (.ref q), some (.int (tk + 1)), some (.ref T5.length), some (.bl true)]) := ⟨_, rfl⟩
 rw [← hT7] at M7
 have x0 := M7.at_ _ _ n0
 have xr := M7.at_ _ _ n1
 have xu := M7.at_ _ _ nu
 have x3 := M7.at_ _ _ n3
 rw [aa (by intro h; cases h), aa (by intro h; cases h), aa (by intro h; cases h), ax] at x0
 rw [ax] at xr
 rw [aa (by intro h; cases h), ax] at xu
 rw [aa (by intro h; cases h), aa (by intro h; cases h), aa (by intro h; cases h), aa (by intro h; cases h), hh] at x3
 obtain ⟨r3, e7⟩ := kO (cK := cK) (cA := cA) (a := a) (r2 := some (.ref r)) (us := ks.map U.int) (fs := [some (.ref k1), some (.ref k2), some (.ref k3), some (.int (tk + 1)), some (.ref k4), some (.ref k5)]) rfl (M7.ne n0 n3 (by intro h; cases h)) (M7.ne nu n3 (by intro h; cases h)) ks [] T7 none x0 xu x3 (by simp; omega)
 have M8 := M7.set n3 (.dic (qO a [] ks))
 refine ⟨T7.set k3 (.dic (qO a [] ks)), T5.length, ?_, ?_, ?_⟩
 ·have b2' : eA cK [.ref k0, .int a, .ref q] (T ++ X1) = some (.bl false, T ++ X1 ++ X2) := b2
  have b3' : dS cK cA [.ref k0, .int a] (T ++ X1 ++ X2) = some (.bl false, T ++ X1 ++ X2 ++ X3) := b3
  have y0 : ∀ Y, (T ++ Y)[k0]? = _ := fun Y => aJ t0
  have yr : ∀ Y, (T ++ Y)[r]? = _ := fun Y => aJ tr
  simp only [List.append_assoc] at b2' b3' hT4
  have F4 : ∀ S : Sto, S[r]? = some (.ins cA [some (.int g), some (.ref l), some (.ref q), some (.int (tk + 1)), some (.ref T5.length), some (.bl true)]) → bY cA 4 (ah 2) [some (.ref k0), some (.int a), some (.ref r), none] S = some (.ref T5.length, S) := fun S h => by
   rwa [h]
  have hfor : iq (iTp (bY cA 4 (ah 2))) (gNm 3) (tkB cK cA) [some (.ref k0), some (.int a), some (.ref r), none] T7 = some (.nx, [some (.ref k0), some (.int a), some (.ref r), r3], T7.set k3 (.dic (qO a [] ks))) := by
   unfold iq iTp
   rw [F4 T7 xr, Option.bind_some]
   simp only [xu, Option.bind_some]
   exact e7
  unfold iX
  rw [gC]
  unfold b8
  rw [eD (ρ' := [some (.ref k0), some (.int a), some (.ref r), none]) (S' := T) (by rwa [t0, e1])]
  rw [eD (ρ' := [some (.ref k0), some (.int a), some (.ref r), none]) (S' := T) (by rwa [tr, tq, z0])]
  rw [eD (ρ' := [some (.ref k0), some (.int a), some (.ref r), none]) (S' := T ++ (X1 ++ (X2 ++ X3))) (by rwa [t0, tr, b1, y0, yr, b2', b3'])]
  rw [eD (ρ' := [some (.ref k0), some (.int a), some (.ref r), none]) (S' := T4) (by rw [hT4]; unfold jO; rwa [y0])]
  rw [eD (ρ' := [some (.ref k0), some (.int a), some (.ref r), none]) (S' := T5) (by rw [hT5]; unfold jO at u0; rwa [u0, ur])]
  rw [eD (ρ' := [some (.ref k0), some (.int a), some (.ref r), none]) (S' := T7) (by rw [hT7]; rwa [v5, hso, v5'])]
  rw [eD (ρ' := [some (.ref k0), some (.int a), some (.ref r), r3]) (S' := T7.set k3 (.dic (qO a [] ks))) hfor]
  rfl
 ·rw [hT5, List.length_set, hT4, List.length_set]; simp only [List.length_append]; omega
 ·rw [← hks]
  have ec : cM (cM (cM (cM (cM c .kk (jO cK k1 k2 k3 (tk + 1) k4 k5)) (.at a) (.ins cA [some (.int g), some (.ref l), some (.ref q), some (.int (tk + 1)), some un, some (.bl true)])) .un (.lst (ks.map U.int))) (.at a) (.ins cA [some (.int g), some (.ref l), some (.ref q), some (.int (tk + 1)), some (.ref T5.length), some (.bl true)])) .kh (.dic (qO a [] ks))
    = cM (cM (cM (cM c .un (.lst (ks.map U.int))) .kk (jO cK k1 k2 k3 (tk + 1) k4 k5)) (.at a) (.ins cA [some (.int g), some (.ref l), some (.ref q), some (.int (tk + 1)), some (.ref T5.length), some (.bl true)])) .kh (.dic (qO a [] ks)) := by
   funext s
   by_cases s1 : s = .kh
   ·subst s1; rw [ax, ax]
   ·rw [aa s1, aa s1]
    by_cases s2 : s = .at a
    ·subst s2; rw [ax, ax]
    ·rw [aa s2, aa s2]
     by_cases s3 : s = .un
     ·subst s3; rw [ax, aa (by intro h; cases h), ax]
     ·rw [aa s3, aa s2]
      by_cases s4 : s = .kk
      ·subst s4; rw [ax, ax]
      ·rw [aa s4, aa s4, aa s3]
  rw [← ec]
  exact M8
end
noncomputable def lP (T : Sto) (L : List (Nat × O)) : Sto := L.foldl (fun T q => T.set q.1 q.2) T
theorem nk {p : Nat} {x : O} : ∀ (L : List (Nat × O)) (T : Sto), (∀ q ∈ L, q.1 ≠ p) → lP (T.set p x) L = (lP T L).set p x
 | [], T, _ => rfl
 | q :: L, T, h => by
  have hq := h q List.mem_cons_self
  show lP ((T.set p x).set q.1 q.2) L = (lP (T.set q.1 q.2) L).set p x
  rw [List.set_comm _ _ hq.symm, nk L _ fun z hz => h z (List.mem_cons_of_mem _ hz)]
theorem pT {T : Sto} {p : Nat} {o : O} (h : T[p]? = some o) : T.set p o = T := by
 refine List.ext_getElem? fun i => ?_
 rw [List.getElem?_set]
 split
 ·rename_i e; subst e
  rw [if_pos (List.getElem?_eq_some_iff.mp h).1]; exact h.symm
 ·rfl
section
variable {α : Type} {κ : Type} [DecidableEq κ]
theorem hX {kus : List (κ × α)} {k k' : κ} (h : k ≠ k') : aK (dt kus k') k = aK kus k := by
 unfold aK dt
 induction kus with
 | nil => rfl
 | cons p r ih =>
  by_cases e : p.1 = k'
  ·rw [List.filter_cons_of_neg (by simp [e]), ih, List.find?_cons, decide_eq_false (by rw [e]; exact Ne.symm h)]
  ·rw [List.filter_cons_of_pos (by simp [e]), List.find?_cons, List.find?_cons]
   by_cases e2 : p.1 = k
   ·rw [decide_eq_true e2]
   ·rw [decide_eq_false e2]; exact ih
end
noncomputable def xC (hd : List (Key × U)) (ks : List Int) : List (Key × U) := ks.foldl (fun hd b => dt hd (.inl b)) hd
theorem lz : ∀ (ks : List Int) (hd : List (Key × U)) (p : Key × U), p ∈ xC hd ks → p ∈ hd ∧ ∀ b ∈ ks, p.1 ≠ .inl b
 | [], hd, p, h => ⟨h, fun b hb => by cases hb⟩
 | b :: ks, hd, p, h => by
  obtain ⟨h1, h2⟩ := lz ks (dt hd (.inl b)) p h
  have h3 := List.mem_filter.mp h1
  refine ⟨h3.1, fun b' hb' => ?_⟩
  rcases List.mem_cons.mp hb' with e | e
  ·rw [e]; exact of_decide_eq_true h3.2
  ·exact h2 b' e
section
variable {cK cA : Cl} {pos : Sl → Option Nat} {c : Sl → O} {T : Sto} {bx mk : List Int} {tk a b g : Int} {evs : List U} {kn lk ps : List (Key × U)} {un : U} {k0 : Nat}
noncomputable abbrev wrB (cK cA : Cl) : CS := dI (gS cK cA) (gH cK cA) cK cA
theorem lA {q k3 : Nat} {ok : Sto → Prop} {r1 r2 r3 : Option U} {fs : List (Option U)} (hf : fs[2]? = some (some (.ref k3))) (n0 : k0 ≠ k3) (hok : ∀ Y x, ok Y → ok (Y.set k3 x)) : ∀ (ks : List Int) (hd : List (Key × U)) (Y : Sto) (r4 : Option U), ok Y → Y[k0]? = some (.ins cK fs) → Y[k3]? = some (.dic hd) → ks.Nodup → (∀ b ∈ ks, (aK hd (.inl b)).isSome = true) →
  dr ok (gNm 4) (wrB cK cA) (ks.map U.int) [some (.ref k0), r1, r2, r3, r4] Y = some (.nx, [some (.ref k0), r1, r2, r3, oH ks r4], Y.set k3 (.dic (xC hd ks)))
 | [], hd, Y, r4, hy, h0, h3, _, _ => by
  show _ = some (Out.nx, _, Y.set k3 (.dic hd))
  rw [pT h3]; exact dN hy
 | b :: ks, hd, Y, r4, hy, h0, h3, nd, hv => by
  obtain ⟨n1, n2⟩ := List.nodup_cons.mp nd
  have l3 : k3 < Y.length := (List.getElem?_eq_some_iff.mp h3).1
  obtain ⟨v, hb⟩ := Option.isSome_iff_exists.mp (hv b List.mem_cons_self)
  have ih := lA (q := q) (r1 := r1) (r2 := r2) (r3 := r3) hf n0 hok ks (dt hd (.inl b)) (Y.set k3 (.dic (dt hd (.inl b)))) (some (.int b)) (hok _ _ hy) (by rw [List.getElem?_set_ne n0.symm]; exact h0) (by rw [List.getElem?_set, if_pos rfl, if_pos l3]) n2 (fun b' hb' => by
   rw [hX (fun e => n1 (by rw [← Sum.inl.inj e]; exact hb'))]
   exact hv b' (List.mem_cons_of_mem _ hb'))
  rw [List.set_set] at ih
  refine (eC hy rfl ?_).trans ih
  have F : xn cK 2 (.ref k0, Y) = some (.ref k3, Y) := pe h0 hf
  have hp : lG (bY cK 2 (ah 0)) (ah 4) [some (.ref k0), r1, r2, r3, some (.int b)] Y = some (v, Y.set k3 (.dic (dt hd (.inl b)))) := by
   have hF : bY cK 2 (ah 0) [some (.ref k0), r1, r2, r3, some (.int b)] Y = some (.ref k3, Y) := by rwa [F]
   have hV : ah 4 [some (.ref k0), r1, r2, r3, some (.int b)] Y = some (.int b, Y) := rfl
   have hk : gK (.int b) = some (.inl b) := rfl
   unfold lG
   rw [hF, Option.bind_some]
   simp only [h3, hV, Option.bind_some, uj, hk, hb]
  rwa [wrB, dI, hp]
noncomputable def eV (cK cA : Cl) : Fn := fnU 5 2 (bQ (gS cK cA) (gH cK cA) cK cA)
noncomputable def dD (cA : Cl) (g : Int) (l q : Nat) (st : Int) (lu : Nat) (op : Bool) : O := .ins cA [some (.int g), some (.ref l), some (.ref q), some (.int st), some (.ref lu), some (.bl op)]
theorem qI {xs : List Int} {v : Int} (b0 : 0 ≤ b) (b1 : b < xs.length) : ixN (xs.map U.int).length b = some b.toNat := by
 unfold ixN
 rw [List.length_map]
 have h1 : ¬ b < 0 := by omega
 have h2 : b < (xs.length : Int) := b1
 simp [h1, h2]
theorem nE {xs : List Int} {v : Int} {j : Nat} : (xs.map U.int).set j (.int v) = (xs.set j v).map U.int := by rw [List.map_set]
end
section
variable {cK cA : Cl} {pos : Sl → Option Nat} {c : Sl → O} {S : Sto} {bx mk : List Int} {tk a b g st v : Int} {evs : List U} {kn lk : List (Key × U)} {k0 k1 k2 k3 k4 k5 r l q lu : Nat} {pp : List (Int × Int)} {rest : List Int}
structure WrI (cK cA : Cl) (pos : Sl → Option Nat) (c : Sl → O) (S : Sto) (bx mk : List Int) (tk a g st : Int) (evs : List U) (kn lk : List (Key × U)) (pp : List (Int × Int)) (us : List Int) (k0 k1 k2 k3 k4 k5 r l q lu : Nat) : Prop where
 M : Mem pos c S
 h0 : pos .kk = some k0
 h1 : pos .kb = some k1
 h2 : pos .km = some k2
 h3 : pos .kh = some k3
 h4 : pos .ke = some k4
 h5 : pos .kn = some k5
 hr : pos (.at a) = some r
 hl : pos (.lo a) = some l
 hq : pos (.pu a) = some q
 hu : pos .un = some lu
 ck : c .kk = jO cK k1 k2 k3 tk k4 k5
 cb : c .kb = .lst (bx.map U.int)
 cm : c .km = .lst (mk.map U.int)
 ce : c .ke = .lst evs
 cn : c .kn = .dic kn
 vn : aK kn (.inl a) = some (.ref r)
 ca : c (.at a) = dD cA g l q st lu true
 cl : c (.lo a) = .dic lk
 cp : c (.pu a) = .dic (bH pp)
 cu : c .un = .lst (us.map U.int)
theorem WrI.kp (W : WrI cK cA pos c S bx mk tk a g st evs kn lk pp rest k0 k1 k2 k3 k4 k5 r l q lu) : KpI cK pos c bx mk tk evs kn := ⟨⟨k0, k1, k2, k3, k4, k5, W.h0, W.h1, W.h2, W.h3, W.h4, W.h5, W.ck⟩, W.cb, W.cm, W.ce, W.cn⟩
theorem WrI.at' (W : WrI cK cA pos c S bx mk tk a g st evs kn lk pp rest k0 k1 k2 k3 k4 k5 r l q lu) : AtI cA pos c kn a g (.int st) (.ref lu) (.bl true) lk (bH pp) := ⟨⟨r, l, q, W.hr, W.hl, W.hq, W.vn, W.ca⟩, W.cl, W.cp⟩
theorem WrI.next (W : WrI cK cA pos c S bx mk tk a g st evs kn lk pp (b :: rest) k0 k1 k2 k3 k4 k5 r l q lu) :
  WrI cK cA pos (cM (cM (cM c .un (.lst (rest.map U.int))) .kb (.lst ((bx.set b.toNat v).map U.int))) .km (.lst ((mk.set b.toNat st).map U.int))) (((S.set lu (.lst (rest.map U.int))).set k1 (.lst ((bx.set b.toNat v).map U.int))).set k2 (.lst ((mk.set b.toNat st).map U.int))) (bx.set b.toNat v) (mk.set b.toNat st) tk a g st evs kn lk pp rest k0 k1 k2 k3 k4 k5 r l q lu where
 M := ((W.M.set W.hu _).set W.h1 _).set W.h2 _
 h0 := W.h0
 h1 := W.h1
 h2 := W.h2
 h3 := W.h3
 h4 := W.h4
 h5 := W.h5
 hr := W.hr
 hl := W.hl
 hq := W.hq
 hu := W.hu
 ck := by rw [aa (by intro h; cases h), aa (by intro h; cases h), aa (by intro h; cases h)]; exact W.ck
 cb := by rw [aa (by intro h; cases h), ax]
 cm := ax
 ce := by rw [aa (by intro h; cases h), aa (by intro h; cases h), aa (by intro h; cases h)]; exact W.ce
 cn := by rw [aa (by intro h; cases h), aa (by intro h; cases h), aa (by intro h; cases h)]; exact W.cn
 vn := W.vn
 ca := by rw [aa (by intro h; cases h), aa (by intro h; cases h), aa (by intro h; cases h)]; exact W.ca
 cl := by rw [aa (by intro h; cases h), aa (by intro h; cases h), aa (by intro h; cases h)]; exact W.cl
 cp := by rw [aa (by intro h; cases h), aa (by intro h; cases h), aa (by intro h; cases h)]; exact W.cp
 cu := by rw [aa (by intro h; cases h), aa (by intro h; cases h), ax]
theorem jy (W : WrI cK cA pos c S bx mk tk a g st evs kn lk pp (b :: rest) k0 k1 k2 k3 k4 k5 r l q lu) (hv : aK pp b = some v) (b0 : 0 ≤ b) (b1 : b < bx.length) (b2 : b < mk.length) (hn : rest.length ≤ 900) {cb : CS} :
  (aV (dc 2 (cD cK (gS cK cA) (ah 0) (af (ah 1) aG)))
  (aV (gh (bI (cOp ui (bY cA 3 (ah 2)) (cC .non))) jF dm)
  (aV (dc 3 (cBM iR (bY cA 4 (ah 2)) (af (cC (.int 0)) aG)))
  (aV (dM (bY cK 0 (ah 0)) (ah 3) (cOp fIx (bY cA 2 (ah 2)) (ah 3)))
  (aV (dM (bY cK 1 (ah 0)) (ah 3) (bY cA 3 (ah 2))) cb))))) [some (.ref k0), some (.int a), none, none, none] S = cb [some (.ref k0), some (.int a), some (.ref r), some (.int b), none] (((S.set lu (.lst (rest.map U.int))).set k1 (.lst ((bx.set b.toNat v).map U.int))).set k2 (.lst ((mk.set b.toNat st).map U.int))) := by
 have e1 := nT W.M W.kp W.at' W.h0 W.hr
 have t0 := W.M.at_ _ _ W.h0
 have tr := W.M.at_ _ _ W.hr
 have tu := W.M.at_ _ _ W.hu
 rw [W.ck] at t0
 rw [W.ca] at tr
 rw [W.cu] at tu
 unfold jO at t0
 unfold dD at tr
 have M1 := W.M.set W.hu (.lst (rest.map U.int))
 have s0 := M1.at_ _ _ W.h0
 have sr := M1.at_ _ _ W.hr
 have sq := M1.at_ _ _ W.hq
 have s1 := M1.at_ _ _ W.h1
 rw [aa (by intro h; cases h), W.ck] at s0
 rw [aa (by intro h; cases h), W.ca] at sr
 rw [aa (by intro h; cases h), W.cp] at sq
 rw [aa (by intro h; cases h), W.cb] at s1
 unfold jO at s0
 unfold dD at sr
 have M2 := M1.set W.h1 (.lst ((bx.set b.toNat v).map U.int))
 have u0 := M2.at_ _ _ W.h0
 have ur := M2.at_ _ _ W.hr
 have u2 := M2.at_ _ _ W.h2
 rw [aa (by intro h; cases h), aa (by intro h; cases h), W.ck] at u0
 rw [aa (by intro h; cases h), aa (by intro h; cases h), W.ca] at ur
 rw [aa (by intro h; cases h), aa (by intro h; cases h), W.cm] at u2
 unfold jO at u0
 unfold dD at ur
 have vp : aK (bH pp) (.inl b) = some (.int v) := by rw [fC, hv]; rfl
 obtain ⟨bu, hbu⟩ : ∃ bu, bu = (b :: rest).map U.int := ⟨_, rfl⟩
 rw [← hbu] at tu
 have lbu : (bu.length : Int) = rest.length + 1 := by rw [hbu]; simp
 have hL1 : bu.length ≤ LIM := by unfold LIM; omega
 have hz : bu[(0 : Int).toNat]? = some (.int b) := by rw [hbu]; rfl
 have er : bu.eraseIdx (0 : Int).toNat = rest.map U.int := by rw [hbu]; rfl
 have i1 : ixN (bx.map U.int).length b = some b.toNat := qI (v := v) b0 b1
 have i2 : ixN (mk.map U.int).length b = some b.toNat := qI (v := v) b0 b2
 have x2 : ui (.int st) .non S = some (.bl false, S) := rfl
 rw [eD (ρ' := [some (.ref k0), some (.int a), some (.ref r), none, none]) (S' := S) (by rwa [t0, e1])]
 rw [eD (ρ' := [some (.ref k0), some (.int a), some (.ref r), none, none]) (S' := S) (by rwa [tr, x2])]
 rw [eD (ρ' := [some (.ref k0), some (.int a), some (.ref r), some (.int b), none]) (S' := S.set lu (.lst (rest.map U.int))) (by rwa [tr, tu, vz, rR (Int.le_refl 0) (by rw [lbu]; omega) hL1 hz, er])]
 rw [eD (ρ' := [some (.ref k0), some (.int a), some (.ref r), some (.int b), none]) (S' := (S.set lu (.lst (rest.map U.int))).set k1 (.lst ((bx.set b.toNat v).map U.int))) (by rwa [sr, sq, vp, s0, s1, i1, nE])]
 rw [eD (ρ' := [some (.ref k0), some (.int a), some (.ref r), some (.int b), none]) (S' := ((S.set lu (.lst (rest.map U.int))).set k1 (.lst ((bx.set b.toNat v).map U.int))).set k2 (.lst ((mk.set b.toNat st).map U.int))) (by rwa [ur, u0, u2, i2, nE])]
theorem pw (W : WrI cK cA pos c S bx mk tk a g st evs kn lk pp (b :: rest) k0 k1 k2 k3 k4 k5 r l q lu) (hv : aK pp b = some v) (b0 : 0 ≤ b) (b1 : b < bx.length) (b2 : b < mk.length) (hn : rest.length ≤ 900) (hr : rest ≠ []) :
  eV cK cA [.ref k0, .int a] S = some (.str "written", ((S.set lu (.lst (rest.map U.int))).set k1 (.lst ((bx.set b.toNat v).map U.int))).set k2 (.lst ((mk.set b.toNat st).map U.int))) := by
 have W' := W.next (v := v)
 have tr := W'.M.at_ _ _ W'.hr
 have tu := W'.M.at_ _ _ W'.hu
 rw [W'.ca] at tr
 rw [W'.cu] at tu
 unfold dD at tr
 have hp := List.length_pos_iff.mpr hr
 have z : decide (((rest.length : Nat) : Int) > 0) = true := decide_eq_true (by omega)
 unfold eV
 rw [fR]
 unfold bQ
 rw [jy W hv b0 b1 b2 hn]
 rwa [tr, tu, List.length_map, z]
end
section
variable {cK cA : Cl} {pos : Sl → Option Nat} {c : Sl → O} {S Y : Sto} {bx mk : List Int} {tk a b g st v : Int} {evs : List U} {kn lk hd : List (Key × U)} {k0 k1 k2 k3 k4 k5 r l q lu : Nat} {pp : List (Int × Int)} {rest us : List Int}
theorem B7 {word : Str} (W : WrI cK cA pos c S bx mk tk a g st evs kn lk pp us k0 k1 k2 k3 k4 k5 r l q lu) (hl : evs.length ≤ 900) : gH cK cA [.ref k0, .int a, .str word] S = some (.non, (S.set r (dD cA g l q st lu false)).set k4 (.lst (evs ++ [.tup [.str word, .int a]]))) := by
 have t0 := W.M.at_ _ _ W.h0
 have t5 := W.M.at_ _ _ W.h5
 have tr := W.M.at_ _ _ W.hr
 rw [W.ck] at t0
 rw [W.cn] at t5
 rw [W.ca] at tr
 unfold jO at t0
 unfold dD at tr
 have M1 := W.M.set W.hr (dD cA g l q st lu false)
 have t0' := M1.at_ _ _ W.h0
 have t4' := M1.at_ _ _ W.h4
 rw [aa (by intro h; cases h), W.ck] at t0'
 rw [aa (by intro h; cases h), W.ce] at t4'
 unfold jO at t0'
 unfold dD at t0' t4' ⊢
 have hL : evs.length < LIM := by unfold LIM; omega
 unfold gH
 rw [g6]
 rwa [cZ, t0, t5, W.vn, tr, t0', t4', jv hL]
theorem WrI.drop (W : WrI cK cA pos c S bx mk tk a g st evs kn lk pp us k0 k1 k2 k3 k4 k5 r l q lu) : WrI cK cA pos (cM c .kh (.dic [])) (S.set k3 (.dic [])) bx mk tk a g st evs kn lk pp us k0 k1 k2 k3 k4 k5 r l q lu where
 M := W.M.set W.h3 _
 h0 := W.h0
 h1 := W.h1
 h2 := W.h2
 h3 := W.h3
 h4 := W.h4
 h5 := W.h5
 hr := W.hr
 hl := W.hl
 hq := W.hq
 hu := W.hu
 ck := by rw [aa (by intro h; cases h)]; exact W.ck
 cb := by rw [aa (by intro h; cases h)]; exact W.cb
 cm := by rw [aa (by intro h; cases h)]; exact W.cm
 ce := by rw [aa (by intro h; cases h)]; exact W.ce
 cn := by rw [aa (by intro h; cases h)]; exact W.cn
 vn := W.vn
 ca := by rw [aa (by intro h; cases h)]; exact W.ca
 cl := by rw [aa (by intro h; cases h)]; exact W.cl
 cp := by rw [aa (by intro h; cases h)]; exact W.cp
 cu := by rw [aa (by intro h; cases h)]; exact W.cu
structure HdI (pp : List (Int × Int)) (hd : List (Key × U)) : Prop where
 nd : (pp.map (·.1)).Nodup
 vals : ∀ b ∈ pp.map (·.1), (aK hd (.inl b)).isSome = true
 only : ∀ p ∈ hd, ∃ b ∈ pp.map (·.1), p.1 = .inl b
theorem HdI.none (h : HdI pp hd) : xC hd (pp.map (·.1)) = [] := by
 refine List.eq_nil_iff_forall_not_mem.mpr fun p hp => ?_
 obtain ⟨h1, h2⟩ := lz _ _ p hp
 obtain ⟨b, hb, e⟩ := h.only p h1
 exact h2 b hb e
theorem xv (W : WrI cK cA pos c S bx mk tk a g st evs kn lk pp us k0 k1 k2 k3 k4 k5 r l q lu) (hc : c .kh = .dic hd) (H : HdI pp hd) {r1 r3 r4 : Option U} :
  mO (bY cA 2 (ah 2)) (gNm 4) (wrB cK cA) [some (.ref k0), r1, some (.ref r), r3, r4] S = some (.nx, [some (.ref k0), r1, some (.ref r), r3, oH (pp.map (·.1)) r4], S.set k3 (.dic [])) := by
 have tr := W.M.at_ _ _ W.hr
 have tq := W.M.at_ _ _ W.hq
 rw [W.ca] at tr
 rw [W.cp] at tq
 unfold dD at tr
 have lq : q < S.length := (List.getElem?_eq_some_iff.mp tq).1
 have hi : bY cA 2 (ah 2) [some (.ref k0), r1, some (.ref r), r3, r4] S = some (.ref q, S) := by rwa [tr]
 have nq3 : q ≠ k3 := W.M.ne W.hq W.h3 (by intro h; cases h)
 unfold mO
 rw [hi, Option.bind_some]
 simp only [tq]
 refine m9 fun ep => ?_
 have M1 := W.M.set W.hq (.fdc ep (bH pp))
 have s0 := M1.at_ _ _ W.h0
 have s3 := M1.at_ _ _ W.h3
 rw [aa (by intro h; cases h), W.ck] at s0
 rw [aa (by intro h; cases h), hc] at s3
 have ek : (bH pp).map (fun q => kU q.1) = (pp.map (·.1)).map U.int := by unfold bH; rw [List.map_map, List.map_map]; rfl
 have key := lA (cK := cK) (cA := cA) (q := q) (r1 := r1) (r2 := some (.ref r)) (r3 := r3) (ok := fun S' => S'[q]? = some (.fdc ep (bH pp))) (k3 := k3) (fs := [some (.ref k1), some (.ref k2), some (.ref k3), some (.int tk), some (.ref k4), some (.ref k5)]) rfl (W.M.ne W.h0 W.h3 (by intro h; cases h)) (fun Y x h => by rw [List.getElem?_set_ne nq3.symm]; exact h) (pp.map (·.1)) hd (S.set q (.fdc ep (bH pp))) r4 (by rw [List.getElem?_set, if_pos rfl, if_pos lq]) s0 s3 H.nd H.vals
 rw [ek, key, Option.bind_some, H.none]
 have e1 : ((S.set q (.fdc ep (bH pp))).set k3 (.dic []))[q]? = some (.fdc ep (bH pp)) := by rw [List.getElem?_set_ne nq3.symm, List.getElem?_set, if_pos rfl, if_pos lq]
 have e2 : ((S.set q (.fdc ep (bH pp))).set k3 (.dic [])).set q (.dic (bH pp)) = S.set k3 (.dic []) := by
  rw [List.set_comm _ _ nq3, List.set_set]
  exact pT (by rw [List.getElem?_set_ne nq3.symm]; exact tq)
 simp only [e1, e2]
theorem pq (W : WrI cK cA pos c S bx mk tk a g st evs kn lk pp [b] k0 k1 k2 k3 k4 k5 r l q lu) (hv : aK pp b = some v) (b0 : 0 ≤ b) (b1 : b < bx.length) (b2 : b < mk.length) (hc : c .kh = .dic hd) (H : HdI pp hd) (he : evs.length ≤ 900) :
  eV cK cA [.ref k0, .int a] S = some (.str "done", (((((S.set lu (.lst [])).set k1 (.lst ((bx.set b.toNat v).map U.int))).set k2 (.lst ((mk.set b.toNat st).map U.int))).set k3 (.dic [])).set r (dD cA g l q st lu false)).set k4 (.lst (evs ++ [.tup [.str "done", .int a]]))) := by
 have W1 := W.next (v := v)
 have W2 := W1.drop
 have tr := W1.M.at_ _ _ W1.hr
 have tu := W1.M.at_ _ _ W1.hu
 rw [W1.ca] at tr
 rw [W1.cu] at tu
 unfold dD at tr
 have hc1 : (cM (cM (cM c .un (.lst (([] : List Int).map U.int))) .kb (.lst ((bx.set b.toNat v).map U.int))) .km (.lst ((mk.set b.toNat st).map U.int))) .kh = .dic hd := by
  rw [aa (by intro h; cases h), aa (by intro h; cases h), aa (by intro h; cases h)]; exact hc
 have eh := xv W1 hc1 H (r1 := some (.int a)) (r3 := some (.int b)) (r4 := none)
 have ek := B7 (word := "done") W2 he
 have t0 := W2.M.at_ _ _ W2.h0
 rw [W2.ck] at t0
 unfold jO at t0
 have z : decide (((0 : Nat) : Int) > 0) = false := rfl
 have e0 : ([] : List Int).map U.int = [] := rfl
 rw [e0] at tu eh ek t0 tr
 unfold eV
 rw [fR]
 unfold bQ
 rw [jy W hv b0 b1 b2 (by simp)]
 rw [e0]
 rw [eD (ρ' := [some (.ref k0), some (.int a), some (.ref r), some (.int b), none]) (S' := ((S.set lu (.lst [])).set k1 (.lst ((bx.set b.toNat v).map U.int))).set k2 (.lst ((mk.set b.toNat st).map U.int))) (by rwa [tr, tu, z])]
 rw [eD eh]
 rwa [t0, ek]
end
section
variable {cK cA : Cl} {pos pos' : Sl → Option Nat} {c c' : Sl → O} {S S' Y : Sto} {bx mk : List Int} {tk a b g st v : Int} {evs : List U} {kn lk hd : List (Key × U)} {k0 k1 k2 k3 k4 k5 r l q lu : Nat} {pp : List (Int × Int)} {rest us : List Int}
noncomputable def WrS (a : Int) : List Sl := [.kk, .kb, .km, .kh, .ke, .kn, .at a, .lo a, .pu a, .un]
theorem WrI.to (W : WrI cK cA pos c S bx mk tk a g st evs kn lk pp us k0 k1 k2 k3 k4 k5 r l q lu) (M' : Mem pos' c' S') (h : ∀ s ∈ WrS a, pos' s = pos s ∧ c' s = c s) : WrI cK cA pos' c' S' bx mk tk a g st evs kn lk pp us k0 k1 k2 k3 k4 k5 r l q lu where
 M := M'
 h0 := (h .kk (by simp [WrS])).1.trans W.h0
 h1 := (h .kb (by simp [WrS])).1.trans W.h1
 h2 := (h .km (by simp [WrS])).1.trans W.h2
 h3 := (h .kh (by simp [WrS])).1.trans W.h3
 h4 := (h .ke (by simp [WrS])).1.trans W.h4
 h5 := (h .kn (by simp [WrS])).1.trans W.h5
 hr := (h (.at a) (by simp [WrS])).1.trans W.hr
 hl := (h (.lo a) (by simp [WrS])).1.trans W.hl
 hq := (h (.pu a) (by simp [WrS])).1.trans W.hq
 hu := (h .un (by simp [WrS])).1.trans W.hu
 ck := (h .kk (by simp [WrS])).2.trans W.ck
 cb := (h .kb (by simp [WrS])).2.trans W.cb
 cm := (h .km (by simp [WrS])).2.trans W.cm
 ce := (h .ke (by simp [WrS])).2.trans W.ce
 cn := (h .kn (by simp [WrS])).2.trans W.cn
 vn := W.vn
 ca := (h (.at a) (by simp [WrS])).2.trans W.ca
 cl := (h (.lo a) (by simp [WrS])).2.trans W.cl
 cp := (h (.pu a) (by simp [WrS])).2.trans W.cp
 cu := (h .un (by simp [WrS])).2.trans W.cu
noncomputable def lO (pp : List (Int × Int)) (b : Int) : Int := (aK pp b).getD 0
noncomputable def lV (pp : List (Int × Int)) (bx us : List Int) : List Int := us.foldl (fun bx b => bx.set b.toNat (lO pp b)) bx
noncomputable def uJ (st : Int) (mk us : List Int) : List Int := us.foldl (fun mk b => mk.set b.toNat st) mk
theorem jI : ∀ (us bx : List Int), (lV pp bx us).length = bx.length
 | [], bx => rfl
 | b :: us, bx => by
  show (lV pp (bx.set b.toNat (lO pp b)) us).length = _
  rw [jI us, List.length_set]
theorem mW : ∀ (us mk : List Int), (uJ st mk us).length = mk.length
 | [], mk => rfl
 | b :: us, mk => by
  show (uJ st (mk.set b.toNat st) us).length = _
  rw [mW us, List.length_set]
noncomputable def fH (pp : List (Int × Int)) (st a : Int) (lu k1 k2 k3 r k4 lt : Nat) (o : O) (evs : List U) : List Int → List Int → List Int → List U → List (Nat × O)
 | [], _, _, _ => []
 | b :: rest, bx, mk, ys => if rest = [] then [(lu, .lst []), (k1, .lst ((bx.set b.toNat (lO pp b)).map U.int)), (k2, .lst ((mk.set b.toNat st).map U.int)), (k3, .dic []), (r, o), (k4, .lst (evs ++ [.tup [.str "done", .int a]])), (lt, .lst (ys ++ [.str "done"]))]
  else (lu, .lst (rest.map U.int)) :: (k1, .lst ((bx.set b.toNat (lO pp b)).map U.int)) :: (k2, .lst ((mk.set b.toNat st).map U.int)) :: (lt, .lst (ys ++ [.str "written"])) :: fH pp st a lu k1 k2 k3 r k4 lt o evs rest (bx.set b.toNat (lO pp b)) (mk.set b.toNat st) (ys ++ [.str "written"])
theorem kj {lt : Nat} {o : O} : ∀ (us bx mk : List Int) (ys : List U), ∀ p ∈ fH pp st a lu k1 k2 k3 r k4 lt o evs us bx mk ys, p.1 = lu ∨ p.1 = k1 ∨ p.1 = k2 ∨ p.1 = k3 ∨ p.1 = r ∨ p.1 = k4 ∨ p.1 = lt
 | [], bx, mk, ys, p, h => by cases h
 | b :: rest, bx, mk, ys, p, h => by
  unfold fH at h
  split at h
  ·simp only [List.mem_cons, List.not_mem_nil, or_false] at h
   rcases h with h | h | h | h | h | h | h <;> subst h <;> simp
  ·simp only [List.mem_cons] at h
   rcases h with h | h | h | h | h
   ·subst h; simp
   ·subst h; simp
   ·subst h; simp
   ·subst h; simp
   ·exact kj rest _ _ _ p h
noncomputable def yM (cK cA : Cl) : CE := cD cK (eV cK cA) (ah 2) (af (ah 1) aG)
noncomputable def lW : Nat → List U
 | 0 => []
 | n + 1 => if n = 0 then [.str "done"] else .str "written" :: lW n
theorem jC {lq lt : Nat} {F : O} (hlq : pos (.lp a) = some lq) (hlt : pos (.lb (-1)) = some lt) (a0 : 0 ≤ a) : ∀ (us ks : List Int) (kus : List U) (bx mk : List Int) (c : Sl → O) (Y : Sto) (ys : List U) (r0 : Option U), us ≠ [] → kus.length = us.length → us.length + ys.length ≤ 900 → WrI cK cA pos c Y bx mk tk a g st evs kn lk pp us k0 k1 k2 k3 k4 k5 r l q lu → c (.lp a) = F → c (.lb (-1)) = .lst ys → c .kh = .dic hd → HdI pp hd → evs.length ≤ 900 →
  (∀ b ∈ us, (aK pp b).isSome = true ∧ 0 ≤ b ∧ b < bx.length ∧ b < mk.length) →
  eQ (fun S => S[lq]? = some F) (gNm 0) (yM cK cA) lt kus [r0, some (.int a), some (.ref k0)] Y = some (lP Y (fH pp st a lu k1 k2 k3 r k4 lt (dD cA g l q st lu false) evs us bx mk ys)) ∧
  ∃ c', Mem pos c' (lP Y (fH pp st a lu k1 k2 k3 r k4 lt (dD cA g l q st lu false) evs us bx mk ys)) ∧ c' .kb = .lst ((lV pp bx us).map U.int) ∧ c' .km = .lst ((uJ st mk us).map U.int) ∧ c' .kh = .dic [] ∧ c' .ke = .lst (evs ++ [.tup [.str "done", .int a]]) ∧ c' (.lb (-1)) = .lst (ys ++ lW us.length) ∧ (∀ s, s ≠ .kb → s ≠ .km → s ≠ .kh → s ≠ .ke → s ≠ .lb (-1) → s ≠ .un → s ≠ .at a → c' s = c s)
 | [], _, _, _, _, _, _, _, _, h, _, _, _, _, _, _, _, _, _ => absurd rfl h
 | b :: rest, ks, [], bx, mk, c, Y, ys, r0, _, h, _, _, _, _, _, _, _, _ => by simp at h
 | b :: rest, ks, u :: kus, bx, mk, c, Y, ys, r0, _, fe, hn, W, hF, hys, hh, H, he, hb => by
  obtain ⟨z1, b0, b1, b2⟩ := hb b List.mem_cons_self
  obtain ⟨v, hv⟩ := Option.isSome_iff_exists.mp z1
  have ev : lO pp b = v := by unfold lO; rw [hv]; rfl
  have hok : Y[lq]? = some F := by rw [← hF]; exact W.M.at_ _ _ hlq
  have t0 := W.M.at_ _ _ W.h0
  rw [W.ck] at t0
  unfold jO at t0
  rw [List.length_cons, List.length_cons] at fe
  rw [List.length_cons] at hn
  by_cases hr : rest = []
  ·subst hr
   have hk : kus = [] := by cases kus with
    | nil => rfl
    | cons _ _ => simp at fe
   subst hk
   have ew := pq W hv b0 b1 b2 hh H he
   have W2 := (W.next (v := v)).drop
   have M3 := (W2.M.set W2.hr (dD cA g l q st lu false)).set W2.h4 (.lst (evs ++ [.tup [.str "done", .int a]]))
   have M4 := M3.set hlt (.lst (ys ++ [.str "done"]))
   have tl := M3.at_ _ _ hlt
   rw [aa (by intro h; cases h), aa (by intro h; cases h), aa (by intro h; cases h), aa (by intro h; cases h), aa (by intro h; cases h), aa (by intro h; cases h), hys] at tl
   have tq := M4.at_ _ _ hlq
   rw [aa (by intro h; injection h), aa (by intro h; cases h), aa (by intro h; cases h), aa (by intro h; cases h), aa (by intro h; cases h), aa (by intro h; cases h), aa (by intro h; cases h), hF] at tq
   have eL : lP Y (fH pp st a lu k1 k2 k3 r k4 lt (dD cA g l q st lu false) evs [b] bx mk ys) = (((((((Y.set lu (.lst [])).set k1 (.lst ((bx.set b.toNat v).map U.int))).set k2 (.lst ((mk.set b.toNat st).map U.int))).set k3 (.dic [])).set r (dD cA g l q st lu false)).set k4 (.lst (evs ++ [.tup [.str "done", .int a]]))).set lt (.lst (ys ++ [.str "done"]))) := by
    rw [← ev]; rfl
   refine ⟨?_, _, by rw [eL]; exact M4, ?_, ?_, ?_, ?_, ?_, ?_⟩
   ·rw [eL]
    refine (fz (ρ0 := [some u, some (.int a), some (.ref k0)]) (S0 := Y) (x := .str "done") (ys := ys) hok rfl (by unfold yM; rwa [t0, ew]) tl (by unfold LIM; omega)).trans ?_
    exact ik tq
   ·rw [aa (by intro h; cases h), aa (by intro h; cases h), aa (by intro h; cases h), aa (by intro h; cases h), aa (by intro h; cases h), ax, ← ev]; rfl
   ·rw [aa (by intro h; cases h), aa (by intro h; cases h), aa (by intro h; cases h), aa (by intro h; cases h), ax]; rfl
   ·rw [aa (by intro h; cases h), aa (by intro h; cases h), aa (by intro h; cases h), ax]
   ·rw [aa (by intro h; cases h), ax]
   ·rw [ax]; rfl
   ·intro s s1 s2 s3 s4 s5 s6 s7
    rw [aa s5, aa s4, aa s7, aa s3, aa s2, aa s1, aa s6]
  ·have ew := pw W hv b0 b1 b2 (by omega) hr
   have W1 := W.next (v := v)
   have M4 := W1.M.set hlt (.lst (ys ++ [.str "written"]))
   have tl := W1.M.at_ _ _ hlt
   rw [aa (by intro h; cases h), aa (by intro h; cases h), aa (by intro h; cases h), hys] at tl
   have W4 := W1.to M4 (fun s hs => ⟨rfl, aa (by intro h; subst h; simp [WrS] at hs)⟩)
   obtain ⟨i1, c', i2, i3, i4, i5, i6, i7, i8⟩ := jC hlq hlt a0 rest ks kus (bx.set b.toNat v) (mk.set b.toNat st) _ _ (ys ++ [.str "written"]) (some u) hr (by omega) (by simp; omega) W4 (by rw [aa (by intro h; injection h), aa (by intro h; cases h), aa (by intro h; cases h), aa (by intro h; cases h), hF]) ax (by rw [aa (by intro h; cases h), aa (by intro h; cases h), aa (by intro h; cases h), aa (by intro h; cases h), hh]) H he (fun b' hb' => by
    obtain ⟨z1, z2, z3, z4⟩ := hb b' (List.mem_cons_of_mem _ hb')
    exact ⟨z1, z2, by rw [List.length_set]; exact z3, by rw [List.length_set]; exact z4⟩)
   have eL : lP Y (fH pp st a lu k1 k2 k3 r k4 lt (dD cA g l q st lu false) evs (b :: rest) bx mk ys) = lP ((((Y.set lu (.lst (rest.map U.int))).set k1 (.lst ((bx.set b.toNat v).map U.int))).set k2 (.lst ((mk.set b.toNat st).map U.int))).set lt (.lst (ys ++ [.str "written"]))) (fH pp st a lu k1 k2 k3 r k4 lt (dD cA g l q st lu false) evs rest (bx.set b.toNat v) (mk.set b.toNat st) (ys ++ [.str "written"])) := by
    rw [← ev, fH, if_neg hr]; rfl
   rw [eL]
   refine ⟨?_, c', i2, ?_, i4, i5, i6, ?_, ?_⟩
   ·refine (fz (ρ0 := [some u, some (.int a), some (.ref k0)]) (S0 := Y) (x := .str "written") (ys := ys) hok rfl (by unfold yM; rwa [t0, ew]) tl (by unfold LIM; omega)).trans ?_
    exact i1
   ·rw [i3, ← ev]; rfl
   ·rw [i7, List.append_assoc]
    have : rest.length ≠ 0 := fun h => hr (List.length_eq_zero_iff.mp h)
    rw [List.length_cons, lW, if_neg this]; rfl
   ·intro s s1 s2 s3 s4 s5 s6 s7
    rw [i8 s s1 s2 s3 s4 s5 s6 s7, aa s5, aa s2, aa s1, aa s6]
end
section
variable {cK cA : Cl} {pos pos' : Sl → Option Nat} {c c' : Sl → O} {S S' T Y : Sto} {bx mk : List Int} {tk a b g st v : Int} {evs : List U} {kn lk hd ps pln : List (Key × U)} {k0 k1 k2 k3 k4 k5 r l q lu lq lb p0 : Nat} {pp : List (Int × Int)} {rest us : List Int} {stp un op : U}
theorem KpI.to (K : KpI cK pos c bx mk tk evs kn) (h : ∀ s ∈ [Sl.kk, .kb, .km, .kh, .ke, .kn], pos' s = pos s) (hc : ∀ s ∈ [Sl.kk, .kb, .km, .ke, .kn], c' s = c s) : KpI cK pos' c' bx mk tk evs kn := by
 obtain ⟨k0, k1, k2, k3, k4, k5, q0, q1, q2, q3, q4, q5, qk⟩ := K.kk
 exact ⟨⟨k0, k1, k2, k3, k4, k5, (h .kk (by simp)).trans q0, (h .kb (by simp)).trans q1, (h .km (by simp)).trans q2, (h .kh (by simp)).trans q3, (h .ke (by simp)).trans q4, (h .kn (by simp)).trans q5, (hc .kk (by simp)).trans qk⟩, (hc .kb (by simp)).trans K.kb, (hc .km (by simp)).trans K.km, (hc .ke (by simp)).trans K.ke, (hc .kn (by simp)).trans K.kn⟩
theorem AtI.to (A : AtI cA pos c kn a g stp un op lk ps) (h : ∀ s ∈ [Sl.at a, .lo a, .pu a], pos' s = pos s ∧ c' s = c s) : AtI cA pos' c' kn a g stp un op lk ps := by
 obtain ⟨r, l, q, p1, p2, p3, p4, p5⟩ := A.ex
 exact ⟨⟨r, l, q, (h (.at a) (by simp)).1.trans p1, (h (.lo a) (by simp)).1.trans p2, (h (.pu a) (by simp)).1.trans p3, p4, (h (.at a) (by simp)).2.trans p5⟩, (h (.lo a) (by simp)).2.trans A.lo, (h (.pu a) (by simp)).2.trans A.pu⟩
theorem aI {s s' : Sl} {p : Nat} (h : s' ≠ s) : ef pos s p s' = pos s' := if_neg h
theorem eB {s : Sl} {p : Nat} : ef pos s p s = some p := if_pos rfl
theorem tX {r1 r3 r4 r6 : Option U} (W : WrI cK cA pos c S bx mk tk a g st evs kn lk pp us k0 k1 k2 k3 k4 k5 r l q lu) (hlq : pos (.lp a) = some lq) (hc : c (.lp a) = .dic (bH pp)) (hh : c .kh = .dic hd) (H : HdI pp hd) (a0 : 0 ≤ a) (he : evs.length ≤ 900) (hus : us ≠ []) (hl : us.length = pp.length) (hn : us.length ≤ 900) (hb : ∀ b ∈ us, (aK pp b).isSome = true ∧ 0 ≤ b ∧ b < bx.length ∧ b < mk.length) :
  ∃ T' c', d9 (ah 5) (gNm 0) (yM cK cA) 1 [2, 0] [some (.ref k0), r1, some (.int a), r3, r4, some (.ref lq), r6] S = some (.ref S.length, T') ∧ Mem (ef pos (.lb (-1)) S.length) c' T' ∧ c' .kb = .lst ((lV pp bx us).map U.int) ∧ c' .km = .lst ((uJ st mk us).map U.int) ∧ c' .kh = .dic [] ∧ c' .ke = .lst (evs ++ [.tup [.str "done", .int a]]) ∧ c' (.lb (-1)) = .lst (lW us.length) ∧ (∀ s, s ≠ .kb → s ≠ .km → s ≠ .kh → s ≠ .ke → s ≠ .lb (-1) → s ≠ .un → s ≠ .at a → c' s = c s) := by
 have tq := W.M.at_ _ _ hlq
 rw [hc] at tq
 have lk' : lq < S.length := (List.getElem?_eq_some_iff.mp tq).1
 have hv : ah 5 [some (.ref k0), r1, some (.int a), r3, r4, some (.ref lq), r6] S = some (.ref lq, S) := rfl
 have ek : ((bH pp).map fun p => kU p.1).length = us.length := by unfold bH; rw [List.length_map, List.length_map, hl]
 have key : ∀ ep : Nat, ∃ c', eQ (fun S' => S'[lq]? = some (.fdc ep (bH pp))) (gNm 0) (yM cK cA) S.length ((bH pp).map fun p => kU p.1) [none, some (.int a), some (.ref k0)] (S.set lq (.fdc ep (bH pp)) ++ [.lst []]) = some (lP (S.set lq (.fdc ep (bH pp)) ++ [.lst []]) (fH pp st a lu k1 k2 k3 r k4 S.length (dD cA g l q st lu false) evs us bx mk [])) ∧ (lP (S.set lq (.fdc ep (bH pp)) ++ [.lst []]) (fH pp st a lu k1 k2 k3 r k4 S.length (dD cA g l q st lu false) evs us bx mk []))[lq]? = some (.fdc ep (bH pp)) ∧
   (lP (S.set lq (.fdc ep (bH pp)) ++ [.lst []]) (fH pp st a lu k1 k2 k3 r k4 S.length (dD cA g l q st lu false) evs us bx mk [])).set lq (.dic (bH pp)) = lP (S ++ [.lst []]) (fH pp st a lu k1 k2 k3 r k4 S.length (dD cA g l q st lu false) evs us bx mk []) ∧
   Mem (ef pos (.lb (-1)) S.length) c' (lP (S ++ [.lst []]) (fH pp st a lu k1 k2 k3 r k4 S.length (dD cA g l q st lu false) evs us bx mk [])) ∧ c' .kb = .lst ((lV pp bx us).map U.int) ∧ c' .km = .lst ((uJ st mk us).map U.int) ∧ c' .kh = .dic [] ∧ c' .ke = .lst (evs ++ [.tup [.str "done", .int a]]) ∧ c' (.lb (-1)) = .lst (lW us.length) ∧ (∀ s, s ≠ .kb → s ≠ .km → s ≠ .kh → s ≠ .ke → s ≠ .lb (-1) → s ≠ .un → s ≠ .at a → c' s = c s) := by
  intro ep
  have M1 := W.M.set hlq (.fdc ep (bH pp))
  have M2 := M1.new (.lb (-1)) (.lst []) []
  rw [List.length_set] at M2
  have hs : ∀ s ∈ WrS a, s ≠ .lb (-1) ∧ s ≠ .lp a := fun s hs => ⟨by intro h; subst h; simp [WrS] at hs, by intro h; subst h; simp [WrS] at hs⟩
  have W2 := W.to M2 (fun s h => ⟨aI (hs s h).1, by rw [aa (hs s h).1, aa (hs s h).2]⟩)
  have hlq2 : ef pos (.lb (-1)) S.length (.lp a) = some lq := by rw [aI (by intro h; cases h)]; exact hlq
  obtain ⟨i1, c', i2, i3, i4, i5, i6, i7, i8⟩ := jC (F := .fdc ep (bH pp)) (hd := hd) hlq2 eB a0 us [] ((bH pp).map fun p => kU p.1) bx mk _ _ [] none hus ek (by simp; omega) W2 (by rw [aa (by intro h; cases h), ax]) ax (by rw [aa (by intro h; cases h), aa (by intro h; cases h)]; exact hh) H he hb
  have tL := i2.at_ _ _ hlq2
  rw [i8 _ (by intro h; cases h) (by intro h; cases h) (by intro h; cases h) (by intro h; cases h) (by intro h; cases h) (by intro h; cases h) (by intro h; cases h), aa (by intro h; cases h), ax] at tL
  have i2' := i2.set hlq2 (.dic (bH pp))
  have eS : (lP (S.set lq (.fdc ep (bH pp)) ++ [.lst []]) (fH pp st a lu k1 k2 k3 r k4 S.length (dD cA g l q st lu false) evs us bx mk [])).set lq (.dic (bH pp)) = lP (S ++ [.lst []]) (fH pp st a lu k1 k2 k3 r k4 S.length (dD cA g l q st lu false) evs us bx mk []) := by
   rw [← nk, List.set_append_left _ _ (by rw [List.length_set]; exact lk'), jK tq]
   intro p hp
   rcases kj us bx mk [] p hp with e | e | e | e | e | e | e <;> rw [e]
   ·exact i2.ne W2.hu hlq2 (by intro h; cases h)
   ·exact i2.ne W2.h1 hlq2 (by intro h; cases h)
   ·exact i2.ne W2.h2 hlq2 (by intro h; cases h)
   ·exact i2.ne W2.h3 hlq2 (by intro h; cases h)
   ·exact i2.ne W2.hr hlq2 (by intro h; cases h)
   ·exact i2.ne W2.h4 hlq2 (by intro h; cases h)
   ·exact i2.ne eB hlq2 (by intro h; cases h)
  rw [eS] at i2'
  refine ⟨_, i1, tL, eS, i2', ?_, ?_, ?_, ?_, ?_, ?_⟩
  ·rw [aa (by intro h; cases h)]; exact i3
  ·rw [aa (by intro h; cases h)]; exact i4
  ·rw [aa (by intro h; cases h)]; exact i5
  ·rw [aa (by intro h; cases h)]; exact i6
  ·rw [aa (by intro h; cases h), i7, List.nil_append]
  ·intro s s1 s2 s3 s4 s5 s6 s7
   by_cases e : s = .lp a
   ·subst e; rw [ax, hc]
   ·rw [aa e, i8 s s1 s2 s3 s4 s5 s6 s7, aa s5, aa e]
 obtain ⟨c', _, _, _, z⟩ := key 0
 refine ⟨_, c', ?_, z⟩
 unfold d9 n6
 rw [hv, Option.bind_some]
 simp only [tq]
 refine m9 fun ep => ?_
 obtain ⟨c'', j1, j2, j3, _⟩ := key ep
 have er : ja 1 [2, 0] [some (U.ref k0), r1, some (U.int a), r3, r4, some (U.ref lq), r6] = [none, some (.int a), some (.ref k0)] := rfl
 rw [er, j1, Option.bind_some]
 simp only [j2, j3]
theorem mZ : ∀ n : Nat, lW (n + 1) = List.replicate n (.str "written") ++ [.str "done"]
 | 0 => rfl
 | n + 1 => by rw [lW, if_neg (by omega), mZ n]; rfl
theorem pK {S : Sto} (n : Nat) : ∀ u ∈ List.replicate n (U.str "written") ++ [U.str "done"], Lay 0 S u := fun u hu => by
 rcases List.mem_append.mp hu with h | h
 ·rw [(List.mem_replicate.mp h).2]; exact .str (by decide +kernel)
 ·rw [List.mem_singleton.mp h]; exact .str (by decide +kernel)
end
section
variable {cK cA : Cl} {pos pos' : Sl → Option Nat} {c c' : Sl → O} {S S' T Y : Sto} {bx mk : List Int} {tk a b g st v : Int} {evs : List U} {kn lk hd ps pln : List (Key × U)} {k0 k1 k2 k3 k4 k5 r l q lu lq lb p0 : Nat} {pp : List (Int × Int)} {rest us : List Int} {stp un op : U} {ph : Str}
noncomputable def gR (cK cA : Cl) : Fn := fnU 7 3 (d8 (iX cK cA) (eV cK cA) cK)
theorem h7 {kus : List (Int × Int)} {k : Int} (h : k ∈ kus.map (·.1)) : (aK kus k).isSome = true := by
 obtain ⟨p, hp, rfl⟩ := List.mem_map.mp h
 unfold aK
 rw [Option.isSome_map, List.find?_isSome]
 exact ⟨p, hp, by simp⟩
theorem HdI.mk' (nd : (pp.map (·.1)).Nodup) : HdI pp (qO a [] (gk (pp.map (·.1)))) where
 nd := nd
 vals := fun b hb => nR _ _ b (.inl ((cT _).mem_iff.mpr hb))
 only := fun p hp => by
  rcases nS _ _ p hp with ⟨q, hq, _⟩ | ⟨b, hb, e⟩
  ·cases hq
  ·exact ⟨b, (cT _).mem_iff.mp hb, e⟩
theorem xA (M : Mem pos c T) (K : KpI cK pos c bx mk tk evs kn) (A : AtI cA pos c kn a g .non un (.bl true) lk (bH pp)) (h0 : pos .kk = some k0) (hp : pos .pl = some p0) (cp : c .pl = .dic pln) (hv : aK pln (.inl a) = some (.tup [.str ph, .ref lb, .ref lq])) (hq : pos (.lp a) = some lq) (cq : c (.lp a) = .dic (bH pp)) (hh : c .kh = .dic []) (hg : 0 ≤ g) (cm : AN mk lk) (hl : lk.length ≤ 900) (hpp : pp.length < 64) (nd : (pp.map (·.1)).Nodup) (hb : ∀ b : Int, b ∈ pp.map (·.1) → 0 ≤ b ∧ b < bx.length ∧ b < mk.length) (a0 : 0 ≤ a) (he : evs.length ≤ 900) :
  ∃ T' pos' c' tk' e, gR cK cA [.ref k0, .ref p0, .int a] T = some (.bl true, T') ∧ Mem pos' c' T' ∧ (∀ s, s ≠ .un → s ≠ .lb (-1) → pos' s = pos s) ∧ KpI cK pos' c' (lV pp bx (gk (pp.map (·.1)))) (uJ (tk + 1) mk (gk (pp.map (·.1)))) tk' (evs ++ [e]) kn ∧ tk ≤ tk' ∧ c' .kh = .dic [] ∧ c' .pl = .dic (dt pln (.inl a)) ∧
   (∀ s, s ≠ .kk → s ≠ .kb → s ≠ .km → s ≠ .kh → s ≠ .ke → s ≠ .pl → s ≠ .lb (-1) → s ≠ .un → s ≠ .at a → c' s = c s) := by
 obtain ⟨k0', k1, k2, k3, k4, k5, q0, q1, q2, q3, q4, q5, qk⟩ := K.kk
 rw [h0] at q0; cases q0
 obtain ⟨r, l, q, p1, p2, p3, p4, p5⟩ := A.ex
 have tp := M.at_ _ _ hp
 rw [cp] at tp
 have M1 := (M.set hp (.dic (dt pln (.inl a)))).app [.dic []]
 have K1 : KpI cK pos (cM c .pl (.dic (dt pln (.inl a)))) bx mk tk evs kn := K.upd (by refine ⟨?_, ?_, ?_, ?_, ?_⟩ <;> (intro h; cases h))
 have A1 : AtI cA pos (cM c .pl (.dic (dt pln (.inl a)))) kn a g .non un (.bl true) lk (bH pp) := A.to (fun s hs => ⟨rfl, aa (by intro h; subst h; simp at hs)⟩)
 have hh1 : cM c .pl (.dic (dt pln (.inl a))) .kh = .dic [] := by rw [aa (by intro h; cases h)]; exact hh
 have s0 := M1.at_ _ _ h0
 have sq := M1.at_ _ _ hq
 rw [aa (by intro h; cases h), qk] at s0
 rw [aa (by intro h; cases h), cq] at sq
 have hpop : lG (ah 1) (ah 2) [some (.ref k0), some (.ref p0), some (.int a), none, none, none, none] T = some (.tup [.str ph, .ref lb, .ref lq], T.set p0 (.dic (dt pln (.inl a)))) := by
  have hF : ah 1 [some (.ref k0), some (.ref p0), some (.int a), none, none, none, none] T = some (.ref p0, T) := rfl
  have hV : ah 2 [some (.ref k0), some (.ref p0), some (.int a), none, none, none, none] T = some (.int a, T) := rfl
  have hk : gK (.int a) = some (.inl a) := rfl
  unfold lG
  rw [hF, Option.bind_some]
  simp only [tp, hV, Option.bind_some, uj, hk, hv]
 have e1 : xI (lG (ah 1) (ah 2)) (gTp [3, 4, 5]) [some (.ref k0), some (.ref p0), some (.int a), none, none, none, none] T = some (.nx, [some (.ref k0), some (.ref p0), some (.int a), some (.str ph), some (.ref lb), some (.ref lq), none], T.set p0 (.dic (dt pln (.inl a)))) := by
  rwa [hpop]
 have pl : (bH pp).length = pp.length := by unfold bH; rw [List.length_map]
 have lT : (T.set p0 (O.dic (dt pln (.inl a)))).length = T.length := List.length_set ..
 have sn : (T.set p0 (O.dic (dt pln (.inl a))) ++ [O.dic []])[T.length]? = some (.dic []) := by rw [← lT, ga0]; rfl
 obtain ⟨T1, hT1⟩ : ∃ T1, T1 = T.set p0 (O.dic (dt pln (.inl a))) ++ [O.dic []] := ⟨_, rfl⟩
 have eqe : Ac (.ref lq) (.ref T.length) (T.set p0 (O.dic (dt pln (.inl a))) ++ [O.dic []]) = some (.bl (decide ((bH pp).length = 0)), T.set p0 (O.dic (dt pln (.inl a))) ++ [O.dic []]) := by
  simp only [Ac, sq, sn]
 rw [← hT1] at eqe M1 s0 sq
 unfold gR
 rw [mG]
 unfold d8
 rw [eD e1]
 by_cases hne : pp = []
 ·subst hne
  obtain ⟨T2, o, e, e2, M2⟩ := qB M1 K1 A1 h0 he
  refine ⟨T2, pos, _, tk, e, ?_, M2, fun _ _ _ => rfl, ?_, Int.le_refl _, ?_, ?_, ?_⟩
  ·have z : decide ((bH []).length = 0) = true := rfl
   rw [z] at eqe
   rwa [lT, hT1.symm, eqe, s0, e2]
  ·have so : gk (List.map (fun x : Int × Int => x.fst) []) = [] := List.perm_nil.mp (cT _)
   rw [so]
   show KpI cK pos _ bx mk tk (evs ++ [e]) kn
   refine KpI.ev (evs := evs) ?_
   exact K1.upd (by refine ⟨?_, ?_, ?_, ?_, ?_⟩ <;> (intro h; cases h))
  ·rw [aa (by intro h; cases h), aa (by intro h; cases h)]; exact hh1
  ·rw [aa (by intro h; cases h), aa (by intro h; cases h), ax]
  ·intro s s1 s2 s3 s4 s5 s6 s7 s8 s9
   rw [aa s5, aa s9, aa s6]
 ·obtain ⟨T2, lu, e2, hlu, M2⟩ := tY M1 K1 A1 h0 q1 q2 q3 q4 q5 p1 p2 p3 hh1 hg cm hl hne hpp
  obtain ⟨us, hus⟩ : ∃ us, us = gk (pp.map (·.1)) := ⟨_, rfl⟩
  rw [← hus] at M2 ⊢
  have lus : us.length = pp.length := by rw [hus, (cT _).length_eq, List.length_map]
  have hpos := List.length_pos_iff.mpr hne
  have une : us ≠ [] := by intro h; rw [h] at lus; simp at lus; omega
  have z : decide ((bH pp).length = 0) = false := decide_eq_false (by rw [pl]; omega)
  rw [z] at eqe
  have W : WrI cK cA (ef pos .un lu) _ T2 bx mk (tk + 1) a g (tk + 1) evs kn lk pp us k0 k1 k2 k3 k4 k5 r l q lu := {
   M := M2
   h0 := by rw [aI (by intro h; cases h)]; exact h0
   h1 := by rw [aI (by intro h; cases h)]; exact q1
   h2 := by rw [aI (by intro h; cases h)]; exact q2
   h3 := by rw [aI (by intro h; cases h)]; exact q3
   h4 := by rw [aI (by intro h; cases h)]; exact q4
   h5 := by rw [aI (by intro h; cases h)]; exact q5
   hr := by rw [aI (by intro h; cases h)]; exact p1
   hl := by rw [aI (by intro h; cases h)]; exact p2
   hq := by rw [aI (by intro h; cases h)]; exact p3
   hu := eB
   ck := by rw [aa (by intro h; cases h), aa (by intro h; cases h), ax]
   cb := by rw [aa (by intro h; cases h), aa (by intro h; cases h), aa (by intro h; cases h), aa (by intro h; cases h)]; exact K1.kb
   cm := by rw [aa (by intro h; cases h), aa (by intro h; cases h), aa (by intro h; cases h), aa (by intro h; cases h)]; exact K1.km
   ce := by rw [aa (by intro h; cases h), aa (by intro h; cases h), aa (by intro h; cases h), aa (by intro h; cases h)]; exact K1.ke
   cn := by rw [aa (by intro h; cases h), aa (by intro h; cases h), aa (by intro h; cases h), aa (by intro h; cases h)]; exact K1.kn
   vn := p4
   ca := by rw [aa (by intro h; cases h), ax]; rfl
   cl := by rw [aa (by intro h; cases h), aa (by intro h; cases h), aa (by intro h; cases h), aa (by intro h; cases h)]; exact A1.lo
   cp := by rw [aa (by intro h; cases h), aa (by intro h; cases h), aa (by intro h; cases h), aa (by intro h; cases h)]; exact A1.pu
   cu := by rw [aa (by intro h; cases h), aa (by intro h; cases h), aa (by intro h; cases h), ax] }
  obtain ⟨T3, c3, e3, M3, i3, i4, i5, i6, i7, i8⟩ := tX (r1 := some (.ref p0)) (r3 := some (.str ph)) (r4 := some (.ref lb)) (r6 := none) W (by rw [aI (by intro h; cases h)]; exact hq) (by rw [aa (by intro h; cases h), aa (by intro h; cases h), aa (by intro h; cases h), aa (by intro h; cases h), aa (by intro h; cases h)]; exact cq) ax (by rw [hus]; exact HdI.mk' nd) a0 he une lus (by omega) (fun b hb' => by
   have := (cT (pp.map (·.1))).mem_iff.mp (hus ▸ hb')
   exact ⟨h7 this, hb b this⟩)
  have hq3 : ef (ef pos .un lu) (.lb (-1)) T2.length (.lp a) = some lq := by rw [aI (by intro h; cases h), aI (by intro h; cases h)]; exact hq
  have tq3 := M3.at_ _ _ hq3
  rw [i8 _ (by intro h; cases h) (by intro h; cases h) (by intro h; cases h) (by intro h; cases h) (by intro h; cases h) (by intro h; cases h) (by intro h; cases h), aa (by intro h; cases h), aa (by intro h; cases h), aa (by intro h; cases h), aa (by intro h; cases h), aa (by intro h; cases h), cq] at tq3
  have tt := M3.at_ _ _ eB
  rw [i7, lus] at tt
  obtain ⟨n, hn⟩ : ∃ n, pp.length = n + 1 := ⟨pp.length - 1, by omega⟩
  rw [hn, mZ] at tt
  have i8' : ∀ s, s ≠ .kb → s ≠ .km → s ≠ .kh → s ≠ .ke → s ≠ .lb (-1) → s ≠ .un → s ≠ .at a → s ≠ .kk → c3 s = cM c .pl (.dic (dt pln (.inl a))) s := fun s s1 s2 s3 s4 s5 s6 s7 s8 => by
   rw [i8 s s1 s2 s3 s4 s5 s6 s7, aa s3, aa s7, aa s8, aa s6]
  refine ⟨T3 ++ [.lst [.str "written"], .lst (List.replicate n (.str "written")), .lst [.str "done"], .lst (List.replicate n (.str "written") ++ [.str "done"])], ef (ef pos .un lu) (.lb (-1)) T2.length, c3, tk + 1, .tup [.str "done", .int a], ?_, M3.app _, ?_, ?_, by omega, i5, ?_, ?_⟩
  ·have mul : kS (.ref T3.length) (.int n) (T3 ++ [.lst [.str "written"]]) = some (.ref (T3.length + 1), T3 ++ [.lst [.str "written"], .lst (List.replicate n (.str "written"))]) := by
    have g1 : (T3 ++ [O.lst [U.str "written"]])[T3.length]? = some (.lst [.str "written"]) := by rw [ga0]; rfl
    have g2 : (0 : Int) ≤ n ∧ (n : Int) ≤ 100000 ∧ [U.str "written"].length * (n : Int).toNat ≤ LIM := by
     refine ⟨by omega, by omega, ?_⟩
     unfold LIM
     rw [List.length_singleton]; omega
    simp only [kS, g1]
    rw [if_pos g2]
    simp only [Int.toNat_natCast, List.flatten_replicate_singleton, List.length_append, List.length_singleton, List.append_assoc, List.cons_append, List.nil_append]
   have add : jb (.ref (T3.length + 1)) (.ref (T3.length + 2)) (T3 ++ [.lst [.str "written"], .lst (List.replicate n (.str "written")), .lst [.str "done"]]) = some (.ref (T3.length + 3), T3 ++ [.lst [.str "written"], .lst (List.replicate n (.str "written")), .lst [.str "done"], .lst (List.replicate n (.str "written") ++ [.str "done"])]) := by
    have g1 : (T3 ++ [O.lst [U.str "written"], .lst (List.replicate n (.str "written")), .lst [.str "done"]])[T3.length + 1]? = some (.lst (List.replicate n (.str "written"))) := by rw [List.getElem?_append_right (by omega)]; simp
    have g2 : (T3 ++ [O.lst [U.str "written"], .lst (List.replicate n (.str "written")), .lst [.str "done"]])[T3.length + 2]? = some (.lst [.str "done"]) := by rw [List.getElem?_append_right (by omega)]; simp
    have g3 : (List.replicate n (U.str "written")).length + [U.str "done"].length ≤ LIM := by unfold LIM; rw [List.length_replicate, List.length_singleton]; omega
    simp only [jb, jV, g1, g2]
    rw [if_pos g3]
    simp only [List.length_append, List.length_cons, List.length_nil, List.append_assoc, List.cons_append, List.nil_append]
   have eq : kX false (.ref T2.length) (.ref (T3.length + 3)) (T3 ++ [.lst [.str "written"], .lst (List.replicate n (.str "written")), .lst [.str "done"], .lst (List.replicate n (.str "written") ++ [.str "done"])]) = some (.bl true, T3 ++ [.lst [.str "written"], .lst (List.replicate n (.str "written")), .lst [.str "done"], .lst (List.replicate n (.str "written") ++ [.str "done"])]) := by
    refine fg.eq (k := 1) (fg.lst (aJ tt) ?_ (eZ.all (pK n))) (by omega)
    rw [List.getElem?_append_right (by omega)]
    have : T3.length + 3 - T3.length = 3 := by omega
    rw [this]; rfl
   have gl : ∀ X, (T3 ++ X)[lq]? = some (.dic (bH pp)) := fun X => aJ tq3
   have zn : ((n + 1 : Nat) : Int) - 1 = (n : Int) := by omega
   have l2 : ∀ o o' : O, (T3 ++ [o, o']).length = T3.length + 2 := fun o o' => by rw [List.length_append]; rfl
   rw [eD (ρ' := [some (.ref k0), some (.ref p0), some (.int a), some (.str ph), some (.ref lb), some (.ref lq), none]) (S' := T1) (by rwa [lT, hT1.symm, eqe])]
   rw [eD (ρ' := [some (.ref k0), some (.ref p0), some (.int a), some (.str ph), some (.ref lb), some (.ref lq), none]) (S' := T2) (by rwa [s0, e2])]
   have e3' : d9 (ah 5) (gNm 0) (cD cK (eV cK cA) (ah 2) (af (ah 1) aG)) 1 [2, 0] [some (.ref k0), some (.ref p0), some (.int a), some (.str ph), some (.ref lb), some (.ref lq), none] T2 = some (.ref T2.length, T3) := e3
   rw [eD (ρ' := [some (.ref k0), some (.ref p0), some (.int a), some (.str ph), some (.ref lb), some (.ref lq), some (.ref T2.length)]) (S' := T3) (by rwa [e3'])]
   rwa [gl, pl, hn, zn, mul, l2, add, eq]
  ·intro s s1 s2
   rw [aI s2, aI s1]
  ·refine ⟨⟨k0, k1, k2, k3, k4, k5, ?_, ?_, ?_, ?_, ?_, ?_, ?_⟩, i3, i4, i6, ?_⟩
   ·rw [aI (by intro h; cases h), aI (by intro h; cases h)]; exact h0
   ·rw [aI (by intro h; cases h), aI (by intro h; cases h)]; exact q1
   ·rw [aI (by intro h; cases h), aI (by intro h; cases h)]; exact q2
   ·rw [aI (by intro h; cases h), aI (by intro h; cases h)]; exact q3
   ·rw [aI (by intro h; cases h), aI (by intro h; cases h)]; exact q4
   ·rw [aI (by intro h; cases h), aI (by intro h; cases h)]; exact q5
   ·rw [i8 _ (by intro h; cases h) (by intro h; cases h) (by intro h; cases h) (by intro h; cases h) (by intro h; cases h) (by intro h; cases h) (by intro h; cases h), aa (by intro h; cases h), aa (by intro h; cases h), ax]; rfl
   ·rw [i8' _ (by intro h; cases h) (by intro h; cases h) (by intro h; cases h) (by intro h; cases h) (by intro h; cases h) (by intro h; cases h) (by intro h; cases h) (by intro h; cases h)]; exact K1.kn
  ·rw [i8' _ (by intro h; cases h) (by intro h; cases h) (by intro h; cases h) (by intro h; cases h) (by intro h; cases h) (by intro h; cases h) (by intro h; cases h) (by intro h; cases h), ax]
  ·intro s s1 s2 s3 s4 s5 s6 s7 s8 s9
   rw [i8' s s2 s3 s4 s5 s7 s8 s9 s1, aa s6]
end
noncomputable def bxs (n : Nat) (many a : Int) : List Int := ((List.range n).map fun (i : Nat) => (i : Int)).filter fun b => decide (b % many = a)
theorem rk {n : Nat} {many a b : Int} : b ∈ bxs n many a ↔ 0 ≤ b ∧ b < n ∧ b % many = a := by
 unfold bxs
 rw [List.mem_filter, List.mem_map]
 constructor
 ·rintro ⟨⟨i, hi, rfl⟩, h⟩
  have := List.mem_range.mp hi
  exact ⟨by omega, by omega, of_decide_eq_true h⟩
 ·rintro ⟨h1, h2, h3⟩
  exact ⟨⟨b.toNat, List.mem_range.mpr (by omega), by omega⟩, decide_eq_true h3⟩
noncomputable def Df (n : Nat) (many a : Int) (lk : List (Key × U)) : Prop := ∀ p ∈ lk, ∃ b : Int, p.1 = .inl b ∧ 0 ≤ b ∧ b < n ∧ b % many = a
noncomputable def rJ (pp : Int → List (Int × Int)) (a : Int) (x : List (Int × Int)) : Int → List (Int × Int) := fun a' => if a' = a then x else pp a'
noncomputable def onU (lbf lqf : Int → Nat) (a : Int) : U := .tup [.str "on", .ref (lbf a), .ref (lqf a)]
noncomputable def jB (lbf lqf : Int → Nat) (a : Int) : U := .tup [.str "off", .ref (lbf a), .ref (lqf a)]
noncomputable def OnI (cA : Cl) (n : Nat) (many : Int) (t : Nat) (pos : Sl → Option Nat) (c : Sl → O) (kn : List (Key × U)) (a : Int) (pa : List (Int × Int)) : Prop := ∃ g lk un, 0 ≤ g ∧ AtI cA pos c kn a g .non un (.bl true) lk (bH pa) ∧ Df n many a lk ∧ lk.length ≤ t
structure RnI (cK cA : Cl) (n : Nat) (many : Int) (st : List Int) (lw k0 p0 w0 : Nat) (lbf lqf : Int → Nat) (t : Nat) (T : Sto) (pos : Sl → Option Nat) (c : Sl → O) (bx mk : List Int) (tk : Int) (evs : List U) (kn pln : List (Key × U)) (pp : Int → List (Int × Int)) : Prop where
 M : Mem pos c T
 K : KpI cK pos c bx mk tk evs kn
 hh : c .kh = .dic []
 hw : pos .wl = some lw
 cw : ∃ z, c .wl = .lst [.int z]
 h0 : pos .kk = some k0
 hp : pos .pl = some p0
 cp : c .pl = .dic pln
 hwh : pos .wh = some w0
 cwh : c .wh = .lst ((List.range many.toNat).map fun (i : Nat) => .ref (lqf (i : Int)))
 lb : bx.length = n
 lm : mk.length = n
 tk0 : 0 ≤ tk
 et : evs.length ≤ t
 kt : kn.length ≤ t
 nd : (pln.map (·.1)).Nodup
 ki : ∀ p ∈ pln, ∃ a : Int, p.1 = .inl a
 own : ∀ a, 0 ≤ a → a < many → pos (.lb a) = some (lbf a) ∧ c (.lb a) = .lst ((bxs n many a).map U.int) ∧ pos (.lp a) = some (lqf a) ∧ c (.lp a) = .dic (bH (pp a)) ∧ ((pp a).map (·.1)).Nodup ∧ ∀ b : Int, b ∈ (pp a).map (·.1) → 0 ≤ b ∧ b < n ∧ b % many = a
 pl : ∀ a u, aK pln (.inl a) = some u → 0 ≤ a ∧ a < many ∧ ((u = jB lbf lqf a ∧ aK kn (.inl a) = none ∧ pp a = []) ∨ (u = onU lbf lqf a ∧ OnI cA n many t pos c kn a (pp a)))
 fresh : ∀ b : Int, 0 ≤ b → b < n → (aK pln (.inl (b % many))).isSome = true → bx.getD b.toNat 0 = st.getD b.toNat 0 ∧ mk.getD b.toNat 0 = 0
 done : ∀ b : Int, 0 ≤ b → b < n → aK pln (.inl (b % many)) = none → bx.getD b.toNat 0 = (aK (pp (b % many)) b).getD (st.getD b.toNat 0)
section
variable {cK cA : Cl} {n : Nat} {many : Int} {st : List Int} {lw k0 p0 w0 : Nat} {lbf lqf : Int → Nat} {t : Nat} {T T' : Sto} {pos pos' : Sl → Option Nat} {c c' : Sl → O} {bx mk bx' mk' : List Int} {tk tk' a b v : Int} {evs evs' : List U} {kn pln kn' pln' : List (Key × U)} {pp : Int → List (Int × Int)} {pa : List (Int × Int)}
theorem AtI.kn_ {g : Int} {stp un op : U} {lk ps : List (Key × U)} (A : AtI cA pos c kn a g stp un op lk ps) (h : aK kn' (.inl a) = aK kn (.inl a)) : AtI cA pos c kn' a g stp un op lk ps := by
 obtain ⟨r, l, q, p1, p2, p3, p4, p5⟩ := A.ex
 exact ⟨⟨r, l, q, p1, p2, p3, h.trans p4, p5⟩, A.lo, A.pu⟩
theorem RnI.step (R : RnI cK cA n many st lw k0 p0 w0 lbf lqf t T pos c bx mk tk evs kn pln pp) (a0 : 0 ≤ a) (a1 : a < many) (M' : Mem pos' c' T') (K' : KpI cK pos' c' bx' mk' tk' evs' kn') (hh' : c' .kh = .dic [])
  (hpos : ∀ s, s ≠ .un → s ≠ .lb (-1) → s ≠ .at a → s ≠ .lo a → s ≠ .pu a → pos' s = pos s)
  (hc : ∀ s, s ≠ .un → s ≠ .lb (-1) → s ≠ .at a → s ≠ .lo a → s ≠ .pu a → s ≠ .lp a → s ≠ .kk → s ≠ .kb → s ≠ .km → s ≠ .kh → s ≠ .ke → s ≠ .kn → s ≠ .pl → s ≠ .wl → c' s = c s)
  (cw' : ∃ z, c' .wl = .lst [.int z]) (cp' : c' .pl = .dic pln') (lb' : bx'.length = n) (lm' : mk'.length = n) (tk0' : 0 ≤ tk') (et' : evs'.length ≤ t + 1) (kt' : kn'.length ≤ t + 1) (nd' : (pln'.map (·.1)).Nodup) (ki' : ∀ p ∈ pln', ∃ a : Int, p.1 = .inl a)
  (cq' : c' (.lp a) = .dic (bH pa)) (ndp : (pa.map (·.1)).Nodup) (okp : ∀ b : Int, b ∈ pa.map (·.1) → 0 ≤ b ∧ b < n ∧ b % many = a)
  (hkn : ∀ a', a' ≠ a → aK kn' (.inl a') = aK kn (.inl a')) (hpl : ∀ a', a' ≠ a → aK pln' (.inl a') = aK pln (.inl a'))
  (pla : ∀ u, aK pln' (.inl a) = some u → (u = jB lbf lqf a ∧ aK kn' (.inl a) = none ∧ pa = []) ∨ (u = onU lbf lqf a ∧ OnI cA n many (t + 1) pos' c' kn' a pa))
  (fr : ∀ b : Int, 0 ≤ b → b < n → b % many = a → (aK pln' (.inl a)).isSome = true → bx'.getD b.toNat 0 = st.getD b.toNat 0 ∧ mk'.getD b.toNat 0 = 0)
  (dn : ∀ b : Int, 0 ≤ b → b < n → b % many = a → aK pln' (.inl a) = none → bx'.getD b.toNat 0 = (aK pa b).getD (st.getD b.toNat 0))
  (oth : ∀ b : Int, 0 ≤ b → b < n → b % many ≠ a → bx'.getD b.toNat 0 = bx.getD b.toNat 0 ∧ mk'.getD b.toNat 0 = mk.getD b.toNat 0) :
  RnI cK cA n many st lw k0 p0 w0 lbf lqf (t + 1) T' pos' c' bx' mk' tk' evs' kn' pln' (rJ pp a pa) where
 M := M'
 K := K'
 hh := hh'
 hw := (hpos _ (by intro h; cases h) (by intro h; cases h) (by intro h; cases h) (by intro h; cases h) (by intro h; cases h)).trans R.hw
 cw := cw'
 h0 := (hpos _ (by intro h; cases h) (by intro h; cases h) (by intro h; cases h) (by intro h; cases h) (by intro h; cases h)).trans R.h0
 hp := (hpos _ (by intro h; cases h) (by intro h; cases h) (by intro h; cases h) (by intro h; cases h) (by intro h; cases h)).trans R.hp
 cp := cp'
 hwh := (hpos _ (by intro h; cases h) (by intro h; cases h) (by intro h; cases h) (by intro h; cases h) (by intro h; cases h)).trans R.hwh
 cwh := (hc _ (by intro h; cases h) (by intro h; cases h) (by intro h; cases h) (by intro h; cases h) (by intro h; cases h) (by intro h; cases h) (by intro h; cases h) (by intro h; cases h) (by intro h; cases h) (by intro h; cases h) (by intro h; cases h) (by intro h; cases h) (by intro h; cases h) (by intro h; cases h)).trans R.cwh
 lb := lb'
 lm := lm'
 tk0 := tk0'
 et := et'
 kt := kt'
 nd := nd'
 ki := ki'
 own := fun a' x0 x1 => by
  obtain ⟨o1, o2, o3, o4, o5, o6⟩ := R.own a' x0 x1
  have nb : Sl.lb a' ≠ .lb (-1) := fun h => by injection h with h; omega
  refine ⟨(hpos _ (by intro h; cases h) nb (by intro h; cases h) (by intro h; cases h) (by intro h; cases h)).trans o1, (hc _ (by intro h; cases h) nb (by intro h; cases h) (by intro h; cases h) (by intro h; cases h) (by intro h; cases h) (by intro h; cases h) (by intro h; cases h) (by intro h; cases h) (by intro h; cases h) (by intro h; cases h) (by intro h; cases h) (by intro h; cases h) (by intro h; cases h)).trans o2, (hpos _ (by intro h; cases h) (by intro h; cases h) (by intro h; cases h) (by intro h; cases h) (by intro h; cases h)).trans o3, ?_⟩
  by_cases e : a' = a
  ·subst e
   unfold rJ
   rw [if_pos rfl]
   exact ⟨cq', ndp, okp⟩
  ·unfold rJ
   rw [if_neg e]
   exact ⟨(hc _ (by intro h; cases h) (by intro h; cases h) (by intro h; cases h) (by intro h; cases h) (by intro h; cases h) (by intro h; injection h with h; exact e h) (by intro h; cases h) (by intro h; cases h) (by intro h; cases h) (by intro h; cases h) (by intro h; cases h) (by intro h; cases h) (by intro h; cases h) (by intro h; cases h)).trans o4, o5, o6⟩
 pl := fun a' u hu => by
  by_cases e : a' = a
  ·subst e
   unfold rJ
   rw [if_pos rfl]
   exact ⟨a0, a1, pla u hu⟩
  ·rw [hpl a' e] at hu
   obtain ⟨x0, x1, x2⟩ := R.pl a' u hu
   unfold rJ
   rw [if_neg e]
   refine ⟨x0, x1, ?_⟩
   rcases x2 with ⟨y1, y2, y3⟩ | ⟨y1, g, lk, un, g0, A, ow, ll⟩
   ·exact .inl ⟨y1, (hkn a' e).trans y2, y3⟩
   ·refine .inr ⟨y1, g, lk, un, g0, ?_, ow, by omega⟩
    have A' : AtI cA pos' c' kn a' g .non un (.bl true) lk (bH (pp a')) := A.to (fun s hs => by
     simp only [List.mem_cons, List.not_mem_nil, or_false] at hs
     rcases hs with h | h | h <;> subst h
     ·exact ⟨hpos _ (by intro h; cases h) (by intro h; cases h) (by intro h; injection h with h; exact e h) (by intro h; cases h) (by intro h; cases h), hc _ (by intro h; cases h) (by intro h; cases h) (by intro h; injection h with h; exact e h) (by intro h; cases h) (by intro h; cases h) (by intro h; cases h) (by intro h; cases h) (by intro h; cases h) (by intro h; cases h) (by intro h; cases h) (by intro h; cases h) (by intro h; cases h) (by intro h; cases h) (by intro h; cases h)⟩
     ·exact ⟨hpos _ (by intro h; cases h) (by intro h; cases h) (by intro h; cases h) (by intro h; injection h with h; exact e h) (by intro h; cases h), hc _ (by intro h; cases h) (by intro h; cases h) (by intro h; cases h) (by intro h; injection h with h; exact e h) (by intro h; cases h) (by intro h; cases h) (by intro h; cases h) (by intro h; cases h) (by intro h; cases h) (by intro h; cases h) (by intro h; cases h) (by intro h; cases h) (by intro h; cases h) (by intro h; cases h)⟩
     ·exact ⟨hpos _ (by intro h; cases h) (by intro h; cases h) (by intro h; cases h) (by intro h; cases h) (by intro h; injection h with h; exact e h), hc _ (by intro h; cases h) (by intro h; cases h) (by intro h; cases h) (by intro h; cases h) (by intro h; injection h with h; exact e h) (by intro h; cases h) (by intro h; cases h) (by intro h; cases h) (by intro h; cases h) (by intro h; cases h) (by intro h; cases h) (by intro h; cases h) (by intro h; cases h) (by intro h; cases h)⟩)
    exact A'.kn_ (hkn a' e)
 fresh := fun b b0 b1 hs => by
  by_cases e : b % many = a
  ·rw [e] at hs; exact fr b b0 b1 e hs
  ·obtain ⟨o1, o2⟩ := oth b b0 b1 e
   rw [hpl _ e] at hs
   rw [o1, o2]; exact R.fresh b b0 b1 hs
 done := fun b b0 b1 hs => by
  by_cases e : b % many = a
  ·rw [e] at hs ⊢
   unfold rJ
   rw [if_pos rfl]
   exact dn b b0 b1 e hs
  ·obtain ⟨o1, o2⟩ := oth b b0 b1 e
   rw [hpl _ e] at hs
   unfold rJ
   rw [if_neg e, o1]; exact R.done b b0 b1 hs
theorem RnI.wl (R : RnI cK cA n many st lw k0 p0 w0 lbf lqf t T pos c bx mk tk evs kn pln pp) (w : Wl lw T T') : ∃ c', RnI cK cA n many st lw k0 p0 w0 lbf lqf t T' pos c' bx mk tk evs kn pln pp := by
 obtain ⟨z, hz⟩ := w.well
 have M' : Mem pos (cM c .wl (.lst [.int z])) T' := by
  refine ⟨fun s p h => ?_, R.M.inj⟩
  by_cases e : s = .wl
  ·subst e
   rw [R.hw] at h; cases h
   rw [ax]; exact hz
  ·rw [aa e, w.keep p (R.M.lt h) (R.M.ne h R.hw e)]
   exact R.M.at_ s p h
 refine ⟨cM c .wl (.lst [.int z]), { R with M := M', K := R.K.upd (by refine ⟨?_, ?_, ?_, ?_, ?_⟩ <;> (intro h; cases h)), hh := ?_, cw := ⟨z, ax⟩, cp := ?_, cwh := ?_, own := ?_, pl := ?_ }⟩
 ·rw [aa (by intro h; cases h)]; exact R.hh
 ·rw [aa (by intro h; cases h)]; exact R.cp
 ·rw [aa (by intro h; cases h)]; exact R.cwh
 ·intro a x0 x1
  rw [aa (by intro h; cases h), aa (by intro h; cases h)]
  exact R.own a x0 x1
 ·intro a u hu
  obtain ⟨x0, x1, x2⟩ := R.pl a u hu
  refine ⟨x0, x1, ?_⟩
  rcases x2 with y | ⟨y1, g, lk, un, g0, A, ow, ll⟩
  ·exact .inl y
  ·exact .inr ⟨y1, g, lk, un, g0, A.to (fun s hs => ⟨rfl, aa (by intro h; subst h; simp at hs)⟩), ow, ll⟩
end
section
variable {cK cA : Cl} {n : Nat} {many : Int} {st : List Int} {lw k0 p0 w0 : Nat} {lbf lqf : Int → Nat} {t : Nat} {T T' : Sto} {pos pos' : Sl → Option Nat} {c c' : Sl → O} {bx mk bx' mk' : List Int} {tk tk' a b v : Int} {evs evs' : List U} {kn pln kn' pln' lk : List (Key × U)} {pp : Int → List (Int × Int)} {pa : List (Int × Int)}
noncomputable def RnE (cK cA : Cl) (n : Nat) (many : Int) (st : List Int) (lw k0 p0 w0 : Nat) (lbf lqf : Int → Nat) (t : Nat) (T : Sto) (pln : List (Key × U)) : Prop := ∃ pos c bx mk tk evs kn pp, RnI cK cA n many st lw k0 p0 w0 lbf lqf t T pos c bx mk tk evs kn pln pp
theorem zH : onU lbf lqf a ≠ jB lbf lqf a := by
 unfold onU jB; intro h; injection h with h; injection h with h; injection h with h; exact absurd h (by decide +kernel)
theorem xf (R : RnI cK cA n many st lw k0 p0 w0 lbf lqf t T pos c bx mk tk evs kn pln pp) (hv : aK pln (.inl a) = some (onU lbf lqf a)) : 0 ≤ a ∧ a < many ∧ OnI cA n many t pos c kn a (pp a) := by
 obtain ⟨x0, x1, x2⟩ := R.pl a _ hv
 rcases x2 with ⟨y1, _⟩ | ⟨_, y⟩
 ·exact absurd y1 zH
 ·exact ⟨x0, x1, y⟩
theorem u7 (R : RnI cK cA n many st lw k0 p0 w0 lbf lqf t T pos c bx mk tk evs kn pln pp) (hv : aK pln (.inl a) = some (jB lbf lqf a)) : 0 ≤ a ∧ a < many ∧ aK kn (.inl a) = none ∧ pp a = [] := by
 obtain ⟨x0, x1, x2⟩ := R.pl a _ hv
 rcases x2 with ⟨_, y⟩ | ⟨y1, _⟩
 ·exact ⟨x0, x1, y⟩
 ·exact absurd y1.symm zH
theorem xG (R : RnI cK cA n many st lw k0 p0 w0 lbf lqf t T pos c bx mk tk evs kn pln pp) (hv : (aK pln (.inl a)).isSome = true) (ow : Df n many a lk) : AN mk lk := fun p hp => by
 obtain ⟨b, e, b0, b1, b2⟩ := ow p hp
 exact ⟨b, e, b0, by rw [R.lm]; exact b1, (R.fresh b b0 b1 (by rw [b2]; exact hv)).2⟩
theorem qw (R : RnI cK cA n many st lw k0 p0 w0 lbf lqf t T pos c bx mk tk evs kn pln pp) (hv : aK pln (.inl a) = some (onU lbf lqf a)) (b0 : 0 ≤ b) (b1 : b < n) (b2 : b % many = a) (ht : t ≤ 800) :
  ∃ T' c' evs', iY cK cA [.ref k0, .int a, .int b] T = some (.tup [.str "number", .int ((aK (pp a) b).getD (st.getD b.toNat 0))], T') ∧ RnI cK cA n many st lw k0 p0 w0 lbf lqf (t + 1) T' pos c' bx mk tk evs' kn pln (rJ pp a (pp a)) := by
 obtain ⟨a0, a1, g, lk, un, g0, A, ow, ll⟩ := xf R hv
 have fb := R.fresh b b0 b1 (by rw [b2, hv]; rfl)
 have het := R.et
 obtain ⟨T', lk', e, e1, M', hlk⟩ := tZ R.M R.K A R.h0 R.hh g0 b0 (by rw [R.lm]; exact b1) fb.2 (by rw [R.lb]; exact b1) (by omega) (by omega)
 rw [fb.1] at e1
 obtain ⟨o1, o2, o3, o4, o5, o6⟩ := R.own a a0 a1
 refine ⟨T', _, evs ++ [e], e1, R.step (pa := pp a) a0 a1 M' (KpI.ev (R.K.upd (by refine ⟨?_, ?_, ?_, ?_, ?_⟩ <;> (intro h; cases h)))) ?_ (fun _ _ _ _ _ _ => rfl) ?_ ?_ ?_ R.lb R.lm R.tk0 (by simp; omega) (by have := R.kt; omega) R.nd R.ki ?_ o5 o6 (fun _ _ => rfl) (fun _ _ => rfl) ?_ (fun b' x0 x1 x2 x3 => R.fresh b' x0 x1 (by rw [x2]; exact x3)) (fun b' x0 x1 x2 x3 => by rw [hv] at x3; cases x3) (fun _ _ _ _ => ⟨rfl, rfl⟩)⟩
 ·rw [aa (by intro h; cases h), aa (by intro h; cases h)]; exact R.hh
 ·intro s s1 s2 s3 s4 s5 s6 s7 s8 s9 s10 s11 s12 s13 s14
  rw [aa s11, aa s4]
 ·rw [aa (by intro h; cases h), aa (by intro h; cases h)]; exact R.cw
 ·rw [aa (by intro h; cases h), aa (by intro h; cases h)]; exact R.cp
 ·rw [aa (by intro h; cases h), aa (by intro h; cases h)]; exact o4
 ·intro u hu
  rw [hv] at hu; cases hu
  refine .inr ⟨rfl, g, lk', un, g0, ⟨?_, ?_, ?_⟩, ?_, ?_⟩
  ·obtain ⟨r, l, q, p1, p2, p3, p4, p5⟩ := A.ex
   exact ⟨r, l, q, p1, p2, p3, p4, by rw [aa (by intro h; cases h), aa (by intro h; cases h)]; exact p5⟩
  ·rw [aa (by intro h; cases h), ax]
  ·rw [aa (by intro h; cases h), aa (by intro h; cases h)]; exact A.pu
  ·rcases hlk with h | h <;> rw [h]
   ·exact ow
   ·intro p hp
    rcases ie hp with z | ⟨p', hp', z⟩
    ·exact ⟨b, z, b0, b1, b2⟩
    ·rw [← z]; exact ow p' hp'
  ·rcases hlk with h | h <;> rw [h]
   ·omega
   ·have := jM lk (.inl b) (U.bl true); omega
theorem sL (R : RnI cK cA n many st lw k0 p0 w0 lbf lqf t T pos c bx mk tk evs kn pln pp) (hv : aK pln (.inl a) = some (onU lbf lqf a)) (b0 : 0 ≤ b) (b1 : b < n) (b2 : b % many = a) (ht : t ≤ 800) (hn : n ≤ 6) :
  ∃ T', oh cK cA [.ref k0, .int a, .int b, .int v] (T.set (lqf a) (.dic (bH (dj (pp a) b v)))) = some (.non, T') ∧ RnE cK cA n many st lw k0 p0 w0 lbf lqf (t + 1) T' pln := by
 obtain ⟨a0, a1, g, lk, un, g0, A, ow, ll⟩ := xf R hv
 have het := R.et
 obtain ⟨o1, o2, o3, o4, o5, o6⟩ := R.own a a0 a1
 have lpp : (pp a).length ≤ n := by
  have := few n ((pp a).map (·.1)) o5 (fun k hk => ⟨(o6 k hk).1, (o6 k hk).2.1⟩)
  rw [List.length_map] at this; exact this
 have M1 := R.M.set o3 (.dic (bH (dj (pp a) b v)))
 have K1 : KpI cK pos (cM c (.lp a) (.dic (bH (dj (pp a) b v)))) bx mk tk evs kn := R.K.upd (by refine ⟨?_, ?_, ?_, ?_, ?_⟩ <;> (intro h; cases h))
 have A1 : AtI cA pos (cM c (.lp a) (.dic (bH (dj (pp a) b v)))) kn a g .non un (.bl true) lk (bH (pp a)) := A.to (fun s hs => ⟨rfl, aa (by intro h; subst h; simp at hs)⟩)
 obtain ⟨T', e, e1, M'⟩ := xj (b := b) (v := v) M1 K1 A1 R.h0 (by omega) (by omega)
 refine ⟨T', e1, pos, _, bx, mk, tk, evs ++ [e], kn, _, R.step (pa := dj (pp a) b v) a0 a1 M' (KpI.ev (K1.upd (by refine ⟨?_, ?_, ?_, ?_, ?_⟩ <;> (intro h; cases h)))) ?_ (fun _ _ _ _ _ _ => rfl) ?_ ?_ ?_ R.lb R.lm R.tk0 (by simp; omega) (by have := R.kt; omega) R.nd R.ki ?_ (qb o5) ?_ (fun _ _ => rfl) (fun _ _ => rfl) ?_ (fun b' x0 x1 x2 x3 => R.fresh b' x0 x1 (by rw [x2]; exact x3)) (fun b' x0 x1 x2 x3 => by rw [hv] at x3; cases x3) (fun _ _ _ _ => ⟨rfl, rfl⟩)⟩
 ·rw [aa (by intro h; cases h), aa (by intro h; cases h), aa (by intro h; cases h)]; exact R.hh
 ·intro s s1 s2 s3 s4 s5 s6 s7 s8 s9 s10 s11 s12 s13 s14
  rw [aa s11, aa s5, aa s6]
 ·rw [aa (by intro h; cases h), aa (by intro h; cases h), aa (by intro h; cases h)]; exact R.cw
 ·rw [aa (by intro h; cases h), aa (by intro h; cases h), aa (by intro h; cases h)]; exact R.cp
 ·rw [aa (by intro h; cases h), aa (by intro h; cases h), ax]
 ·intro b' hb'
  obtain ⟨p, hp, rfl⟩ := List.mem_map.mp hb'
  rcases ie hp with z | ⟨p', hp', z⟩
  ·rw [z]; exact ⟨b0, b1, b2⟩
  ·rw [← z]; exact o6 _ (List.mem_map_of_mem hp')
 ·intro u hu
  rw [hv] at hu; cases hu
  refine .inr ⟨rfl, g, lk, un, g0, ⟨?_, ?_, ?_⟩, ow, by omega⟩
  ·obtain ⟨r, l, q, p1, p2, p3, p4, p5⟩ := A.ex
   exact ⟨r, l, q, p1, p2, p3, p4, by rw [aa (by intro h; cases h), aa (by intro h; cases h), aa (by intro h; cases h)]; exact p5⟩
  ·rw [aa (by intro h; cases h), aa (by intro h; cases h), aa (by intro h; cases h)]; exact A.lo
  ·rw [aa (by intro h; cases h), ax]
theorem oS (hns : cA.ns.length = 6) (R : RnI cK cA n many st lw k0 p0 w0 lbf lqf t T pos c bx mk tk evs kn pln pp) (hv : aK pln (.inl a) = some (jB lbf lqf a)) (ht : t ≤ 800) :
  ∃ T', gI cK cA [.ref k0, .int a] (T.set p0 (.dic (dj pln (.inl a) (onU lbf lqf a)))) = some (.non, T') ∧ RnE cK cA n many st lw k0 p0 w0 lbf lqf (t + 1) T' (dj pln (.inl a) (onU lbf lqf a)) := by
 obtain ⟨a0, a1, hkn, hpa⟩ := u7 R hv
 have het := R.et
 have hkt := R.kt
 obtain ⟨o1, o2, o3, o4, o5, o6⟩ := R.own a a0 a1
 have M1 := R.M.set R.hp (.dic (dj pln (.inl a) (onU lbf lqf a)))
 have K1 : KpI cK pos (cM c .pl (.dic (dj pln (.inl a) (onU lbf lqf a)))) bx mk tk evs kn := R.K.upd (by refine ⟨?_, ?_, ?_, ?_, ?_⟩ <;> (intro h; cases h))
 obtain ⟨T', e, e1, M', _⟩ := qF (a := a) hns M1 K1 R.h0 hkn (by omega) (by omega)
 obtain ⟨T1, hT1⟩ : ∃ T1, T1 = T.set p0 (.dic (dj pln (.inl a) (onU lbf lqf a))) := ⟨_, rfl⟩
 rw [← hT1] at e1 M' ⊢
 have vk : ∀ a', aK (dj kn (.inl a) (.ref T1.length)) (.inl a') = if a' = a then some (.ref T1.length) else aK kn (.inl a') := fun a' => by
  rw [hU]
  by_cases h : a' = a
  ·rw [if_pos h, if_pos (by rw [h])]
  ·rw [if_neg h, if_neg (by intro z; exact h (Sum.inl.inj z))]
 have vp : ∀ a', aK (dj pln (.inl a) (onU lbf lqf a)) (.inl a') = if a' = a then some (onU lbf lqf a) else aK pln (.inl a') := fun a' => by
  rw [hU]
  by_cases h : a' = a
  ·rw [if_pos h, if_pos (by rw [h])]
  ·rw [if_neg h, if_neg (by intro z; exact h (Sum.inl.inj z))]
 have oldp : ∀ s, s ≠ .at a → s ≠ .lo a → s ≠ .pu a → oV pos a T1.length s = pos s := fun s h1 h2 h3 => ig ⟨h1, h2, h3⟩
 have oldc : ∀ s, s ≠ .at a → s ≠ .lo a → s ≠ .pu a → s ≠ .kn → s ≠ .ke → s ≠ .pl → cM (cM (uv cA (cM c .pl (.dic (dj pln (.inl a) (onU lbf lqf a)))) a tk T1.length) .kn (.dic (dj kn (.inl a) (.ref T1.length)))) .ke (.lst (evs ++ [e])) s = c s := fun s h1 h2 h3 h4 h5 h6 => by
  rw [aa h5, aa h4, fF ⟨h1, h2, h3⟩, aa h6]
 have K' : KpI cK (oV pos a T1.length) (cM (cM (uv cA (cM c .pl (.dic (dj pln (.inl a) (onU lbf lqf a)))) a tk T1.length) .kn (.dic (dj kn (.inl a) (.ref T1.length)))) .ke (.lst (evs ++ [e]))) bx mk tk (evs ++ [e]) (dj kn (.inl a) (.ref T1.length)) := by
  obtain ⟨k0', k1, k2, k3, k4, k5, q0, q1, q2, q3, q4, q5, qk⟩ := R.K.kk
  refine ⟨⟨k0', k1, k2, k3, k4, k5, ?_, ?_, ?_, ?_, ?_, ?_, ?_⟩, ?_, ?_, ax, ?_⟩
  ·rw [oldp _ (by intro h; cases h) (by intro h; cases h) (by intro h; cases h)]; exact q0
  ·rw [oldp _ (by intro h; cases h) (by intro h; cases h) (by intro h; cases h)]; exact q1
  ·rw [oldp _ (by intro h; cases h) (by intro h; cases h) (by intro h; cases h)]; exact q2
  ·rw [oldp _ (by intro h; cases h) (by intro h; cases h) (by intro h; cases h)]; exact q3
  ·rw [oldp _ (by intro h; cases h) (by intro h; cases h) (by intro h; cases h)]; exact q4
  ·rw [oldp _ (by intro h; cases h) (by intro h; cases h) (by intro h; cases h)]; exact q5
  ·rw [oldc _ (by intro h; cases h) (by intro h; cases h) (by intro h; cases h) (by intro h; cases h) (by intro h; cases h) (by intro h; cases h)]; exact qk
  ·rw [oldc _ (by intro h; cases h) (by intro h; cases h) (by intro h; cases h) (by intro h; cases h) (by intro h; cases h) (by intro h; cases h)]; exact R.K.kb
  ·rw [oldc _ (by intro h; cases h) (by intro h; cases h) (by intro h; cases h) (by intro h; cases h) (by intro h; cases h) (by intro h; cases h)]; exact R.K.km
  ·rw [aa (by intro h; cases h), ax]
 refine ⟨T', e1, _, _, bx, mk, tk, evs ++ [e], _, _, R.step (pa := pp a) a0 a1 M' K' ?_ (fun s _ _ s3 s4 s5 => oldp s s3 s4 s5) (fun s s1 s2 s3 s4 s5 s6 s7 s8 s9 s10 s11 s12 s13 s14 => oldc s s3 s4 s5 s12 s11 s13) ?_ ?_ R.lb R.lm R.tk0 (by simp; omega) (by have := jM kn (.inl a) (U.ref T1.length); omega) (qb R.nd) ?_ ?_ o5 o6 (fun a' h => by rw [vk, if_neg h]) (fun a' h => by rw [vp, if_neg h]) ?_ (fun b' x0 x1 x2 _ => R.fresh b' x0 x1 (by rw [x2, hv]; rfl)) (fun b' x0 x1 x2 x3 => by rw [vp, if_pos rfl] at x3; cases x3) (fun _ _ _ _ => ⟨rfl, rfl⟩)⟩
 ·rw [oldc _ (by intro h; cases h) (by intro h; cases h) (by intro h; cases h) (by intro h; cases h) (by intro h; cases h) (by intro h; cases h)]; exact R.hh
 ·rw [oldc _ (by intro h; cases h) (by intro h; cases h) (by intro h; cases h) (by intro h; cases h) (by intro h; cases h) (by intro h; cases h)]; exact R.cw
 ·rw [aa (by intro h; cases h), aa (by intro h; cases h), fF (by refine ⟨?_, ?_, ?_⟩ <;> (intro h; cases h)), ax]
 ·intro p hp
  rcases ie hp with z | ⟨p', hp', z⟩
  ·exact ⟨a, z⟩
  ·rw [← z]; exact R.ki p' hp'
 ·rw [oldc _ (by intro h; cases h) (by intro h; cases h) (by intro h; cases h) (by intro h; cases h) (by intro h; cases h) (by intro h; cases h)]; exact o4
 ·intro u hu
  rw [vp, if_pos rfl] at hu; cases hu
  refine .inr ⟨rfl, tk, [], .ref (T1.length + 3), R.tk0, ⟨⟨T1.length, T1.length + 1, T1.length + 2, ?_, ?_, ?_, ?_, ?_⟩, ?_, ?_⟩, (fun p hp => by cases hp), by simp⟩
  ·unfold oV; rw [aI (by intro h; cases h), aI (by intro h; cases h), eB]
  ·unfold oV; rw [aI (by intro h; cases h), eB]
  ·unfold oV; rw [eB]
  ·rw [vk, if_pos rfl]
  ·rw [aa (by intro h; cases h), aa (by intro h; cases h)]; unfold uv; rw [aa (by intro h; cases h), aa (by intro h; cases h), ax]; rfl
  ·rw [aa (by intro h; cases h), aa (by intro h; cases h)]; unfold uv; rw [aa (by intro h; cases h), ax]
  ·rw [aa (by intro h; cases h), aa (by intro h; cases h), hpa]; unfold uv; rw [ax]; rfl
theorem hR : ∀ (us bx : List Int) (b : Int), 0 ≤ b → b < bx.length → (∀ u ∈ us, 0 ≤ u) → (lV pa bx us).getD b.toNat 0 = if b ∈ us then lO pa b else bx.getD b.toNat 0
 | [], bx, b, _, _, _ => by rw [if_neg (by simp)]; rfl
 | u :: us, bx, b, b0, b1, h => by
  show (lV pa (bx.set u.toNat (lO pa u)) us).getD b.toNat 0 = _
  rw [hR us _ b b0 (by rw [List.length_set]; exact b1) fun x hx => h x (List.mem_cons_of_mem _ hx)]
  have u0 := h u List.mem_cons_self
  by_cases e : b ∈ us
  ·rw [if_pos e, if_pos (List.mem_cons_of_mem _ e)]
  ·rw [if_neg e]
   by_cases e2 : b = u
   ·subst e2
    rw [if_pos List.mem_cons_self, List.getD_eq_getElem?_getD, List.getElem?_set, if_pos rfl, if_pos (by omega)]; rfl
   ·rw [if_neg (by simp [e, e2]), List.getD_eq_getElem?_getD, List.getElem?_set_ne (by omega), ← List.getD_eq_getElem?_getD]
theorem mX {s : Int} : ∀ (us mk : List Int) (b : Int), 0 ≤ b → (∀ u ∈ us, 0 ≤ u) → b ∉ us → (uJ s mk us).getD b.toNat 0 = mk.getD b.toNat 0
 | [], mk, b, _, _, _ => rfl
 | u :: us, mk, b, b0, h, hb => by
  show (uJ s (mk.set u.toNat s) us).getD b.toNat 0 = _
  have u0 := h u List.mem_cons_self
  have e2 : b ≠ u := fun e => hb (by rw [e]; exact List.mem_cons_self)
  rw [mX us _ b b0 (fun x hx => h x (List.mem_cons_of_mem _ hx)) (fun e => hb (List.mem_cons_of_mem _ e)), List.getD_eq_getElem?_getD, List.getElem?_set_ne (by omega), ← List.getD_eq_getElem?_getD]
theorem iC {k : Key} : aK (dt pln k) k = none := dU.mpr fun h => by
 obtain ⟨p, hp, e⟩ := List.mem_map.mp h
 exact (of_decide_eq_true (List.mem_filter.mp hp).2) e
theorem kZ (R : RnI cK cA n many st lw k0 p0 w0 lbf lqf t T pos c bx mk tk evs kn pln pp) (hv : aK pln (.inl a) = some (onU lbf lqf a)) (ht : t ≤ 800) (hn : n ≤ 6) :
  ∃ T' pos' c' bx' mk' tk' evs' kn' pp', gR cK cA [.ref k0, .ref p0, .int a] T = some (.bl true, T') ∧ RnI cK cA n many st lw k0 p0 w0 lbf lqf (t + 1) T' pos' c' bx' mk' tk' evs' kn' (dt pln (.inl a)) pp' ∧ pos' (.lb (-2)) = pos (.lb (-2)) ∧ c' (.lb (-2)) = c (.lb (-2)) := by
 obtain ⟨a0, a1, g, lk, un, g0, A, ow, ll⟩ := xf R hv
 have het := R.et
 obtain ⟨o1, o2, o3, o4, o5, o6⟩ := R.own a a0 a1
 have lpp : (pp a).length ≤ n := by
  have := few n ((pp a).map (·.1)) o5 (fun k hk => ⟨(o6 k hk).1, (o6 k hk).2.1⟩)
  rw [List.length_map] at this; exact this
 have hv' : aK pln (.inl a) = some (.tup [.str "on", .ref (lbf a), .ref (lqf a)]) := hv
 obtain ⟨T', pos', c', tk', e, e1, M', hpos, K', htk, hh', cp', hc⟩ := xA R.M R.K A R.h0 R.hp R.cp hv' o3 o4 R.hh g0 (xG R (by rw [hv]; rfl) ow) (by omega) (by omega) o5 (fun b hb => by
  obtain ⟨z1, z2, z3⟩ := o6 b hb
  exact ⟨z1, by rw [R.lb]; exact z2, by rw [R.lm]; exact z2⟩) a0 (by omega)
 obtain ⟨us, hus⟩ : ∃ us, us = gk ((pp a).map (·.1)) := ⟨_, rfl⟩
 rw [← hus] at K'
 have um : ∀ b, b ∈ us ↔ b ∈ (pp a).map (·.1) := fun b => by rw [hus]; exact (cT _).mem_iff
 have u0 : ∀ b ∈ us, 0 ≤ b := fun b hb => (o6 b ((um b).mp hb)).1
 have tk0 := R.tk0
 refine ⟨T', pos', c', _, _, tk', evs ++ [e], kn, _, e1, R.step (pa := pp a) a0 a1 M' K' hh' (fun s s1 s2 _ _ _ => hpos s s1 s2) (fun s s1 s2 s3 s4 s5 s6 s7 s8 s9 s10 s11 s12 s13 s14 => hc s s7 s8 s9 s10 s11 s13 s2 s1 s3) ?_ cp' (by rw [jI]; exact R.lb) (by rw [mW]; exact R.lm) (by omega) (by simp; omega) (by have := R.kt; omega) ?_ ?_ ?_ o5 o6 (fun _ _ => rfl) (fun a' h => hX (fun z => h (Sum.inl.inj z))) ?_ ?_ ?_ ?_, hpos _ (by intro h; cases h) (fun h => absurd (Sl.lb.inj h) (by decide)), hc _ (by intro h; cases h) (by intro h; cases h) (by intro h; cases h) (by intro h; cases h) (by intro h; cases h) (by intro h; cases h) (fun h => absurd (Sl.lb.inj h) (by decide)) (by intro h; cases h) (by intro h; cases h)⟩
 ·rw [hc _ (by intro h; cases h) (by intro h; cases h) (by intro h; cases h) (by intro h; cases h) (by intro h; cases h) (by intro h; cases h) (by intro h; cases h) (by intro h; cases h) (by intro h; cases h)]; exact R.cw
 ·exact R.nd.sublist ((List.filter_sublist).map _)
 ·intro p hp
  exact R.ki p (List.mem_filter.mp hp).1
 ·rw [hc _ (by intro h; cases h) (by intro h; cases h) (by intro h; cases h) (by intro h; cases h) (by intro h; cases h) (by intro h; cases h) (by intro h; cases h) (by intro h; cases h) (by intro h; cases h)]; exact o4
 ·intro u hu
  rw [iC] at hu; cases hu
 ·intro b b0 b1 b2 hs
  rw [iC] at hs; cases hs
 ·intro b b0 b1 b2 _
  rw [hR us bx b b0 (by rw [R.lb]; exact b1) u0]
  by_cases e : b ∈ us
  ·rw [if_pos e]
   obtain ⟨v, hv⟩ := Option.isSome_iff_exists.mp (h7 ((um b).mp e))
   unfold lO
   rw [hv]; rfl
  ·rw [if_neg e, (R.fresh b b0 b1 (by rw [b2, hv]; rfl)).1]
   have : aK (pp a) b = none := dU.mpr fun h => e ((um b).mpr h)
   rw [this]; rfl
 ·intro b b0 b1 b2
  have e : b ∉ us := fun h => b2 (o6 b ((um b).mp h)).2.2
  rw [hR us bx b b0 (by rw [R.lb]; exact b1) u0, if_neg e, mX us mk b b0 u0 e]
  exact ⟨rfl, rfl⟩
theorem uo (R : RnI cK cA n many st lw k0 p0 w0 lbf lqf t T pos c bx mk tk evs kn pln pp) (hv : aK pln (.inl a) = some (onU lbf lqf a)) (ht : t ≤ 800) (hn : n ≤ 6) :
  ∃ T', gR cK cA [.ref k0, .ref p0, .int a] T = some (.bl true, T') ∧ RnE cK cA n many st lw k0 p0 w0 lbf lqf (t + 1) T' (dt pln (.inl a)) := by
 obtain ⟨T', pos', c', bx', mk', tk', evs', kn', pp', e, R', _⟩ := kZ R hv ht hn
 exact ⟨T', e, _, _, _, _, _, _, _, _, R'⟩
end
section
variable {cK cA : Cl} {n : Nat} {many w1 : Int} {st : List Int} {lw k0 p0 w0 : Nat} {lbf lqf : Int → Nat} {t : Nat} {T T' : Sto} {pos pos' : Sl → Option Nat} {c c' : Sl → O} {bx mk bx' mk' : List Int} {tk tk' a b v : Int} {evs evs' : List U} {kn pln kn' pln' lk : List (Key × U)} {pp : Int → List (Int × Int)} {pa : List (Int × Int)}
theorem wq : rJ pp a (pp a) = pp := by
 funext a'; unfold rJ; split
 ·rename_i h; rw [h]
 ·rfl
theorem qC (R : RnI cK cA n many st lw k0 p0 w0 lbf lqf t T pos c bx mk tk evs kn pln pp) : ∃ ks : List Int, pln.map (·.1) = ks.map Sum.inl ∧ ks.Nodup ∧ (∀ a, a ∈ ks ↔ (aK pln (.inl a)).isSome = true) ∧ ks.length ≤ many.toNat ∧ pln.length = ks.length := by
 have key : ∀ pl : List (Key × U), (∀ p ∈ pl, ∃ a : Int, p.1 = .inl a) → ∃ ks : List Int, pl.map (·.1) = ks.map Sum.inl := fun pl => by
  induction pl with
  | nil => exact fun _ => ⟨[], rfl⟩
  | cons p r ih =>
   intro h
   obtain ⟨ks, e⟩ := ih fun q hq => h q (List.mem_cons_of_mem _ hq)
   obtain ⟨a, ea⟩ := h p List.mem_cons_self
   exact ⟨a :: ks, by rw [List.map_cons, List.map_cons, e, ea]⟩
 obtain ⟨ks, e⟩ := key pln R.ki
 have mem : ∀ a, a ∈ ks ↔ (aK pln (.inl a)).isSome = true := fun a => by
  constructor
  ·intro h
   have : (Sum.inl a : Key) ∈ pln.map (·.1) := by rw [e]; exact List.mem_map_of_mem h
   cases z : aK pln (.inl a) with
   | some _ => rfl
   | none => exact absurd this (dU.mp z)
  ·intro h
   have : (Sum.inl a : Key) ∈ pln.map (·.1) := Classical.byContradiction fun z => by rw [dU.mpr z] at h; cases h
   rw [e] at this
   obtain ⟨a', h1, h2⟩ := List.mem_map.mp this
   rw [← Sum.inl.inj h2]; exact h1
 have nd : ks.Nodup := by
  have := R.nd
  rw [e] at this
  exact (List.pairwise_map.mp this).imp fun h z => h (by rw [z])
 refine ⟨ks, e, nd, mem, few _ _ nd fun k hk => ?_, by have := congrArg List.length e; simpa using this⟩
 obtain ⟨u, hu⟩ := Option.isSome_iff_exists.mp ((mem k).mp hk)
 obtain ⟨x0, x1, _⟩ := R.pl k u hu
 exact ⟨x0, by omega⟩
noncomputable def mT (cK cA : Cl) : Fn := fnU 11 6 (d7 gG (gR cK cA) (gI cK cA) (iY cK cA) (oh cK cA) cK)
theorem t6 (hns : cA.ns.length = 6) (R : RnE cK cA n many st lw k0 p0 w0 lbf lqf t T pln) (hv : (aK pln (.inl a)).isSome = true) (ht : t ≤ 800) (hn : n ≤ 6) (hs : st.length = n) (hw0 : 0 < w1) (hw1 : w1 ≤ 1000) (hm : many ≤ n) :
  ∃ T' pln', mT cK cA [.ref lw, .tup [.int n, .int w1], .tup (st.map U.int), .ref k0, .ref p0, .int a] T = some (.bl true, T') ∧ RnE cK cA n many st lw k0 p0 w0 lbf lqf (t + 1) T' pln' := by
 obtain ⟨pos, c, bx, mk, tk, evs, kn, pp, R⟩ := R
 obtain ⟨u, hu⟩ := Option.isSome_iff_exists.mp hv
 obtain ⟨a0, a1, x2⟩ := R.pl a u hu
 obtain ⟨ph, eu⟩ : ∃ ph, u = .tup [.str ph, .ref (lbf a), .ref (lqf a)] := by
  rcases x2 with ⟨y, _⟩ | ⟨y, _⟩
  ·exact ⟨_, y⟩
  ·exact ⟨_, y⟩
 have hu' := hu
 rw [eu] at hu'
 obtain ⟨ks, _, _, _, lks, lpl⟩ := qC R
 have tp := R.M.at_ _ _ R.hp
 rw [R.cp] at tp
 obtain ⟨o1, o2, o3, o4, o5, o6⟩ := R.own a a0 a1
 have tb := R.M.at_ _ _ o1
 rw [o2] at tb
 have ha : a ∈ bxs n many a := rk.mpr ⟨a0, by omega, Int.emod_eq_of_lt a0 a1⟩
 have lb0 : 0 < (bxs n many a).length := List.length_pos_of_mem ha
 have lb1 : (bxs n many a).length ≤ n := by
  unfold bxs
  refine Nat.le_trans (List.length_filter_le _ _) ?_
  rw [List.length_map, List.length_range]; exact Nat.le_refl _
 have well : ∃ z, T[lw]? = some (.lst [.int z]) := by
  obtain ⟨z, hz⟩ := R.cw
  exact ⟨z, by rw [← hz]; exact R.M.at_ _ _ R.hw⟩
 obtain ⟨d, T1, e1, w1', _, d0, d1⟩ := gT (m := ((bxs n many a).length : Int)) well (by omega) (by omega)
 obtain ⟨c1, R1⟩ := R.wl w1'
 have tb1 := R1.M.at_ _ _ (R1.own a a0 a1).1
 rw [(R1.own a a0 a1).2.1] at tb1
 have hd : d.toNat < (bxs n many a).length := by omega
 obtain ⟨b, hb⟩ : ∃ b, (bxs n many a)[d.toNat]? = some b := ⟨_, List.getElem?_eq_getElem hd⟩
 obtain ⟨b0, b1, b2⟩ := rk.mp (List.mem_of_getElem? hb)
 have ai : atI ((bxs n many a).map U.int) d = some (.int b) := by
  have := fB (xs := (bxs n many a).map U.int) (j := d.toNat) (v := .int b) (by rw [List.getElem?_map, hb]; rfl)
  rw [show ((d.toNat : Nat) : Int) = d from by omega] at this
  exact this
 have E1 : xI (cOp fIx (ah 4) (ah 5)) (gTp [6, 7, 8]) [some (.ref lw), some (.tup [.int n, .int w1]), some (.tup (st.map U.int)), some (.ref k0), some (.ref p0), some (.int a), none, none, none, none, none] T = some (.nx, [some (.ref lw), some (.tup [.int n, .int w1]), some (.tup (st.map U.int)), some (.ref k0), some (.ref p0), some (.int a), some (.str ph), some (.ref (lbf a)), some (.ref (lqf a)), none, none], T) := by
  rwa [tp, hu']
 have E2 : dc 9 (cOp fIx (ah 7) (cCB gG (af (ah 0) (af (cCB kW (af (ah 7) aG)) aG)))) [some (.ref lw), some (.tup [.int n, .int w1]), some (.tup (st.map U.int)), some (.ref k0), some (.ref p0), some (.int a), some (.str ph), some (.ref (lbf a)), some (.ref (lqf a)), none, none] T = some (.nx, [some (.ref lw), some (.tup [.int n, .int w1]), some (.tup (st.map U.int)), some (.ref k0), some (.ref p0), some (.int a), some (.str ph), some (.ref (lbf a)), some (.ref (lqf a)), some (.int b), none], T1) := by
  rwa [tb, List.length_map, e1, tb1, ai]
 unfold mT
 rw [mF]
 unfold d7
 rw [eD E1, eD E2]
 rcases x2 with ⟨y1, y2, y3⟩ | ⟨y1, y2⟩
 ·-- begins
  have hoff : aK pln (.inl a) = some (jB lbf lqf a) := by rw [hu, y1]
  obtain ⟨T2, e2, R2⟩ := oS hns R1 hoff ht
  have eph : ph = "off" := by
   rw [eu] at y1; unfold jB at y1; injection y1 with h; injection h with h; injection h
  subst eph
  have tp1 := R1.M.at_ _ _ R1.hp
  rw [R1.cp] at tp1
  have lL : pln.length < LIM := by unfold LIM; omega
  have t0 := R1.M.at_ _ _ R1.h0
  obtain ⟨k0', k1, k2, k3, k4, k5, q0, q1, q2, q3, q4, q5, qk⟩ := R1.K.kk
  have M1 := R1.M.set R1.hp (.dic (dj pln (.inl a) (onU lbf lqf a)))
  have t0' := M1.at_ _ _ R1.h0
  rw [aa (by intro h; cases h), qk] at t0'
  refine ⟨T2, _, ?_, R2⟩
  have e2' : gI cK cA [.ref k0, .int a] (T1.set p0 (.dic (dj pln (.inl a) (.tup [.str "on", .ref (lbf a), .ref (lqf a)])))) = some (.non, T2) := e2
  have t0'' : (T1.set p0 (.dic (dj pln (.inl a) (.tup [.str "on", .ref (lbf a), .ref (lqf a)]))))[k0]? = _ := t0'
  have zz : ui .non .non T2 = some (.bl true, T2) := rfl
  rwa [tp1, lL, if_true, t0'', e2', zz]
 ·have hon : aK pln (.inl a) = some (onU lbf lqf a) := by rw [hu, y1]
  have eph : ph = "on" := by
   rw [eu] at y1; unfold onU at y1; injection y1 with h; injection h with h; injection h
  subst eph
  have zo : decide ((Str.ofString "on") = (Str.ofString "off")) = false := by decide +kernel
  have well1 : ∃ z, T1[lw]? = some (.lst [.int z]) := w1'.well
  obtain ⟨d2, T2, e2, w2', _, f0, f1⟩ := gT (m := 9) well1 (by omega) (by omega)
  obtain ⟨c2, R2⟩ := R1.wl w2'
  obtain ⟨k0', k1, k2, k3, k4, k5, q0, q1, q2, q3, q4, q5, qk⟩ := R2.K.kk
  have t0 := R2.M.at_ _ _ R2.h0
  rw [qk] at t0
  rw [eD (ρ' := [some (.ref lw), some (.tup [.int n, .int w1]), some (.tup (st.map U.int)), some (.ref k0), some (.ref p0), some (.int a), some (.str "on"), some (.ref (lbf a)), some (.ref (lqf a)), some (.int b), none]) (S' := T1) (by rwa [zo])]
  rw [eD (ρ' := [some (.ref lw), some (.tup [.int n, .int w1]), some (.tup (st.map U.int)), some (.ref k0), some (.ref p0), some (.int a), some (.str "on"), some (.ref (lbf a)), some (.ref (lqf a)), some (.int b), some (.int d2)]) (S' := T2) (by rwa [e2])]
  have as : atI (st.map U.int) b = some (.int (st.getD b.toNat 0)) := rp b0 (by rw [hs]; exact b1)
  by_cases c4 : d2 < 4
  ·obtain ⟨T3, c3, evs3, e3, R3⟩ := qw R2 hon b0 b1 b2 ht
   rw [wq] at R3
   have tq := R3.M.at_ _ _ (R3.own a a0 a1).2.2.1
   rw [(R3.own a a0 a1).2.2.2.1] at tq
   have vg : (aK (bH (pp a)) (.inl b)).getD (.int (st.getD b.toNat 0)) = .int ((aK (pp a) b).getD (st.getD b.toNat 0)) := by
    rw [fC]; cases aK (pp a) b <;> rfl
   have eq : kX false (.tup [.str "number", .int ((aK (pp a) b).getD (st.getD b.toNat 0))]) (.tup [.str "number", .int ((aK (pp a) b).getD (st.getD b.toNat 0))]) T3 = some (.bl true, T3) := by
    refine fg.eq (k := 1) (fg.refl (Lay.tup (k := 0) fun u hu => ?_)) (by omega)
    simp only [List.mem_cons, List.not_mem_nil, or_false] at hu
    rcases hu with h | h <;> subst h
    ·exact .str (by decide +kernel)
    ·exact .int
   have z4 : decide (d2 < 4) = true := decide_eq_true c4
   refine ⟨T3, pln, ?_, ⟨_, _, _, _, _, _, _, _, R3⟩⟩
   rwa [z4, t0, e3, tq, as, vg, eq]
  ·have z4 : decide (d2 < 4) = false := decide_eq_false c4
   rw [eD (ρ' := [some (.ref lw), some (.tup [.int n, .int w1]), some (.tup (st.map U.int)), some (.ref k0), some (.ref p0), some (.int a), some (.str "on"), some (.ref (lbf a)), some (.ref (lqf a)), some (.int b), some (.int d2)]) (S' := T2) (by rwa [z4])]
   by_cases c7 : d2 < 7
   ·have z7 : decide (d2 < 7) = true := decide_eq_true c7
    obtain ⟨v, T3, e3, w3', _, _, _⟩ := gT (m := w1) w2'.well hw0 (by omega)
    obtain ⟨c3, R3⟩ := R2.wl w3'
    obtain ⟨T4, e4, R4⟩ := sL (v := v) R3 hon b0 b1 b2 ht hn
    have tq := R3.M.at_ _ _ (R3.own a a0 a1).2.2.1
    rw [(R3.own a a0 a1).2.2.2.1] at tq
    have lpp : (bH (pp a)).length < LIM := by
     have := few n ((pp a).map (·.1)) o5 (fun k hk => ⟨(o6 k hk).1, (o6 k hk).2.1⟩)
     unfold bH LIM
     rw [List.length_map] at this ⊢; omega
    have M4 := R3.M.set (R3.own a a0 a1).2.2.1 (.dic (bH (dj (pp a) b v)))
    have tq4 := M4.at_ _ _ (R3.own a a0 a1).2.2.1
    rw [ax] at tq4
    obtain ⟨k0', k1, k2, k3, k4, k5, q0, q1, q2, q3, q4, q5, qk⟩ := R3.K.kk
    have t4 := M4.at_ _ _ R3.h0
    rw [aa (by intro h; cases h), qk] at t4
    have vg : aK (bH (dj (pp a) b v)) (.inl b) = some (.int v) := by rw [fC, wo, if_pos rfl]; rfl
    have zz : ui .non .non T4 = some (.bl true, T4) := rfl
    refine ⟨T4, pln, ?_, R4⟩
    rwa [z7, e3, tq, lpp, if_true, nr, tq4, vg, t4, e4, zz]
   ·have z7 : decide (d2 < 7) = false := decide_eq_false c7
    obtain ⟨T3, e3, R3⟩ := uo R2 hon ht hn
    refine ⟨T3, _, ?_, R3⟩
    rwa [z7, e3]
end
theorem xi {ok : Sto → Prop} {gg : CG} {cbd : CS} {u : U} {us : List U} {ρ ρ0 ρ1 : Rho} {S S0 S1 : Sto} (h : ok S) (hg : gg u ρ S = some (ρ0, S0)) (hb : cbd ρ0 S0 = some (.bk, ρ1, S1)) : dr ok gg cbd (u :: us) ρ S = some (.nx, ρ1, S1) := by
 rw [dr]; dsimp only; rw [if_pos h, hg, Option.bind_some]; dsimp only; rw [hb, Option.bind_some]
theorem xE {cr : CA} {ρ : Rho} {S S1 : Sto} {n : Int} {g : CG} {ce : CE} {k : Nat} {caps : List Nat} (h : cr ρ S = some ([.int n], S1)) (n0 : 0 ≤ n) (n1 : n ≤ 1000) : ff (bC cr) g ce k caps ρ S = (eQ (fun _ => True) g ce S1.length (cg 0 n.toNat) (ja k caps ρ) (S1 ++ [.lst []])).bind fun S' => some (.ref S1.length, S') := by
 have hb : -(2 ^ 62) ≤ n ∧ n < 2 ^ 62 := by omega
 unfold ff bC
 rw [h, Option.bind_some]
 simp only [hb, and_self, if_true, Option.bind_some]
theorem xF {cr : CA} {ρ : Rho} {S S1 : Sto} {n : Int} {g : CG} {ct : CT} {ce : CE} {k : Nat} {caps : List Nat} (h : cr ρ S = some ([.int n], S1)) (n0 : 0 ≤ n) (n1 : n ≤ 1000) : gN (bC cr) g ct ce k caps ρ S = (bX (fun _ => True) g ct ce S1.length (cg 0 n.toNat) (ja k caps ρ) (S1 ++ [.lst []])).bind fun S' => some (.ref S1.length, S') := by
 have hb : -(2 ^ 62) ≤ n ∧ n < 2 ^ 62 := by omega
 unfold gN bC
 rw [h, Option.bind_some]
 simp only [hb, and_self, if_true, Option.bind_some]
theorem fZ {α : Type} {ok : Sto → Prop} {gg : CG} {ct : CT} {ce : CE} {S : Sto} {f : α → U} {p : α → Bool} {v : α → U} {Rel : Rho → Prop} (hok : ∀ ys G, ok (S ++ (.lst ys :: G))) :
  ∀ (xs : List α) (ys : List U) (G : Sto) (ρ : Rho), Rel ρ → ys.length + xs.length ≤ 9999 →
  (∀ x ∈ xs, ∀ ys G ρ, Rel ρ → ∃ ρ0, Rel ρ0 ∧ gg (f x) ρ (S ++ (.lst ys :: G)) = some (ρ0, S ++ (.lst ys :: G)) ∧ ct ρ0 (S ++ (.lst ys :: G)) = some (p x, S ++ (.lst ys :: G)) ∧ ce ρ0 (S ++ (.lst ys :: G)) = some (v x, S ++ (.lst ys :: G))) →
  bX ok gg ct ce S.length (xs.map f) ρ (S ++ (.lst ys :: G)) = some (S ++ (.lst (ys ++ (xs.filter p).map v) :: G))
 | [], ys, G, ρ, _, _, _ => by simp only [List.map_nil, List.filter_nil, List.append_nil]; exact oP (hok ys G)
 | x :: xs, ys, G, ρ, hr, hl, hb => by
  rw [List.length_cons] at hl
  obtain ⟨ρ0, r0, h1, h2, h3⟩ := hb x List.mem_cons_self ys G ρ hr
  have hb' := fun x (hx : x ∈ xs) => hb x (List.mem_cons_of_mem _ hx)
  cases hp : p x with
  | false =>
   rw [hp] at h2
   rw [List.map_cons, List.filter_cons_of_neg (by simp [hp])]
   exact (rg (hok ys G) h1 h2).trans (fZ hok xs ys G ρ0 r0 (by omega) hb')
  | true =>
   rw [hp] at h2
   have h := fZ hok xs (ys ++ [v x]) G ρ0 r0 (by simp; omega) hb'
   rw [List.map_cons, List.filter_cons_of_pos hp]
   refine (oO (hok ys G) h1 h2 h3 (by rw [ga0]; rfl) (by unfold LIM; omega)).trans ?_
   rw [gs0]
   simp only [List.set_cons_zero]
   rw [h]
   simp only [List.map_cons, List.append_assoc, List.cons_append, List.nil_append]
section
variable {cK cA : Cl} {n B p0 i lw : Nat} {many w : Int} {st : List Int} {T T' : Sto} {pos pos' pos0 : Sl → Option Nat} {c c' c0 : Sl → O}
noncomputable def iZ (cK : Cl) : Fn := fnU 3 3 (dk cK)
noncomputable def lN (cK : Cl) : Fn := fnU 1 1 (dF cK)
noncomputable def gM (cK : Cl) (N : Nat) (st : List Int) : Sto := [jO cK (N + 1) (N + 3) (N + 4) 0 (N + 5) (N + 6), .lst (st.map U.int), .lst [.int 0], .lst ((List.replicate st.length (0 : Int)).map U.int), .dic [], .lst [], .dic []]
theorem tN (hns : cK.ns.length = 6) (hl : st.length ≤ 900) {x : U} : jo cK (iZ cK) [x, .tup (st.map U.int)] T = some (.ref T.length, T ++ gM cK T.length st) := by
 rw [uG, hns]
 unfold iZ
 rw [jX]
 obtain ⟨us, hus⟩ : ∃ us, us = st.map U.int := ⟨_, rfl⟩
 have lus : us.length = st.length := by rw [hus, List.length_map]
 obtain ⟨rs, hrs⟩ : ∃ rs, rs = (List.replicate st.length (0 : Int)).map U.int := ⟨_, rfl⟩
 unfold gM
 rw [← hus, ← hrs]
 have mul : ∀ o1 o2 : O, kS (.ref (T.length + 2)) (.int us.length) (T ++ [o1, o2, .lst [.int 0]]) = some (.ref (T.length + 3), T ++ [o1, o2, .lst [.int 0], .lst rs]) := fun o1 o2 => by
  have g1 : (T ++ [o1, o2, O.lst [U.int 0]])[T.length + 2]? = some (.lst [.int 0]) := by rw [ga]; rfl
  have g2 : (0 : Int) ≤ us.length ∧ (us.length : Int) ≤ 100000 ∧ [U.int 0].length * (us.length : Int).toNat ≤ LIM := by
   refine ⟨by omega, by omega, ?_⟩
   unfold LIM
   rw [List.length_singleton]; omega
  simp only [kS, g1]
  rw [if_pos g2, hrs, List.map_replicate, lus]
  simp only [Int.toNat_natCast, List.flatten_replicate_singleton, List.length_append, List.length_cons, List.length_nil, List.append_assoc, List.cons_append, List.nil_append]
 have l1 : ∀ o : O, (T ++ [o]).length = T.length + 1 := fun o => by rw [List.length_append]; rfl
 have l2 : ∀ o o' : O, (T ++ [o, o']).length = T.length + 2 := fun o o' => by rw [List.length_append]; rfl
 have l4 : ∀ o1 o2 o3 o4 : O, (T ++ [o1, o2, o3, o4]).length = T.length + 4 := fun o1 o2 o3 o4 => by rw [List.length_append]; rfl
 have l5 : ∀ o1 o2 o3 o4 o5 : O, (T ++ [o1, o2, o3, o4, o5]).length = T.length + 5 := fun o1 o2 o3 o4 o5 => by rw [List.length_append]; rfl
 have l6 : ∀ o1 o2 o3 o4 o5 o6 : O, (T ++ [o1, o2, o3, o4, o5, o6]).length = T.length + 6 := fun o1 o2 o3 o4 o5 o6 => by rw [List.length_append]; rfl
 rwa [dk, List.replicate, l1, l2, l4, l5, l6, mul, jO]
noncomputable def Au (pos : Sl → Option Nat) (N : Nat) : Sl → Option Nat := ef (ef (ef (ef (ef (ef pos .kk N) .kb (N + 1)) .km (N + 3)) .kh (N + 4)) .ke (N + 5)) .kn (N + 6)
noncomputable def AG (cK : Cl) (c : Sl → O) (N : Nat) (st : List Int) : Sl → O := cM (cM (cM (cM (cM (cM c .kk (jO cK (N + 1) (N + 3) (N + 4) 0 (N + 5) (N + 6))) .kb (.lst (st.map U.int))) .km (.lst ((List.replicate st.length (0 : Int)).map U.int))) .kh (.dic [])) .ke (.lst [])) .kn (.dic [])
theorem Mem.keep (M : Mem pos c T) : Mem (Au pos T.length) (AG cK c T.length st) (T ++ gM cK T.length st) := by
 have M1 := M.new .kk (jO cK (T.length + 1) (T.length + 3) (T.length + 4) 0 (T.length + 5) (T.length + 6)) []
 have M2 := M1.new .kb (.lst (st.map U.int)) [.lst [.int 0]]
 have M3 := M2.new .km (.lst ((List.replicate st.length (0 : Int)).map U.int)) []
 have M4 := M3.new .kh (.dic []) []
 have M5 := M4.new .ke (.lst []) []
 have M6 := M5.new .kn (.dic []) []
 simp only [List.append_assoc, List.cons_append, List.nil_append, List.length_append, List.length_cons, List.length_nil] at M6
 exact M6
noncomputable def stE : CE := ff (bC (af (ah 3) aG)) (gNm 0) (cCB gG (af (ah 1) (af (cOp fIx (ah 2) (cC (.int 1))) aG))) 1 [2, 4]
theorem nc {l : Nat} {x : U} (hw0 : 0 < w) (hw1 : w ≤ 1000) (hl : l ≠ lw) : ∀ (us : List U) (ys : List Int) (T : Sto) (r0 : Option U), T[l]? = some (.lst (ys.map U.int)) → (∃ z, T[lw]? = some (.lst [.int z])) → ys.length + us.length ≤ 900 →
  ∃ (xs : List Int) (T' : Sto), eQ (fun _ => True) (gNm 0) (cCB gG (af (ah 1) (af (cOp fIx (ah 2) (cC (.int 1))) aG))) l us [r0, some (.ref lw), some (.tup [x, .int w])] T = some T' ∧ T'[l]? = some (.lst ((ys ++ xs).map U.int)) ∧ xs.length = us.length ∧ (∃ z, T'[lw]? = some (.lst [.int z])) ∧ T'.length = T.length ∧ ∀ j, j ≠ lw → j ≠ l → T'[j]? = T[j]?
 | [], ys, T, r0, h1, h2, _ => ⟨[], T, ik trivial, by rw [List.append_nil]; exact h1, rfl, h2, rfl, fun _ _ _ => rfl⟩
 | u :: us, ys, T, r0, h1, h2, h3 => by
  rw [List.length_cons] at h3
  obtain ⟨d, T1, e1, w1, ll, d0, d1⟩ := gT (m := w) h2 hw0 (by omega)
  have hl1 : l < T.length := (List.getElem?_eq_some_iff.mp h1).1
  have g1 : T1[l]? = some (.lst (ys.map U.int)) := w1.get h1 hl
  obtain ⟨z, hz⟩ := w1.well
  have k1 : (T1.set l (.lst (ys.map U.int ++ [.int d])))[l]? = some (.lst ((ys ++ [d]).map U.int)) := by
   rw [List.getElem?_set, if_pos rfl, if_pos (by omega), List.map_append]; rfl
  obtain ⟨xs, T', e, i1, i2, i3, i4, i5⟩ := nc hw0 hw1 hl us (ys ++ [d]) _ (some u) k1 ⟨z, by rw [List.getElem?_set_ne hl]; exact hz⟩ (by simp; omega)
  refine ⟨d :: xs, T', ?_, ?_, by rw [List.length_cons, List.length_cons, i2], i3, by rw [i4, List.length_set, ll], fun j j1 j2 => ?_⟩
  ·refine (fz trivial (ρ0 := [some u, some (.ref lw), some (.tup [x, .int w])]) rfl (x := .int d) (S1 := T1) ?_ g1 (by unfold LIM; rw [List.length_map]; omega)).trans e
   rwa [e1]
  ·rw [i1]; simp
  ·rw [i5 j j1 j2, List.getElem?_set_ne (Ne.symm j2)]
   by_cases hj : j < T.length
   ·exact w1.keep j hj j1
   ·rw [List.getElem?_eq_none (by omega), List.getElem?_eq_none (by omega)]
theorem wx {ρ : Rho} {x : U} (h3 : ρ[3]? = some (some (.int n))) (h2 : ρ[2]? = some (some (.ref lw))) (h4 : ρ[4]? = some (some (.tup [x, .int w]))) (hw0 : 0 < w) (hw1 : w ≤ 1000) (hn : n ≤ 6) (hT : ∃ z, T[lw]? = some (.lst [.int z])) :
  ∃ (st : List Int) (T' : Sto), stE ρ T = some (.ref T.length, T') ∧ T'[T.length]? = some (.lst (st.map U.int)) ∧ st.length = n ∧ (∃ z, T'[lw]? = some (.lst [.int z])) := by
 have hlw : lw < T.length := by obtain ⟨z, h⟩ := hT; exact (List.getElem?_eq_some_iff.mp h).1
 obtain ⟨xs, T', e, i1, i2, i3, i4, i5⟩ := nc (l := T.length) (lw := lw) (x := x) hw0 hw1 (Nat.ne_of_gt hlw) (cg 0 ((n : Int)).toNat) [] (T ++ [.lst []]) none (by rw [ga0]; rfl) (by obtain ⟨z, h⟩ := hT; exact ⟨z, aJ h⟩) (by simp [cg]; omega)
 refine ⟨xs, T', ?_, by rw [i1]; rfl, by rw [i2]; simp [cg], i3⟩
 have hv : af (ah 3) aG ρ T = some ([.int n], T) := by
  have : ah 3 ρ T = some (.int n, T) := by unfold ah; rw [h3]
  rw [gi, this, Option.bind_some, eM, lS, Option.bind_some, eK]
 have er : ja 1 [2, 4] ρ = [none, some (.ref lw), some (.tup [x, .int w])] := by simp only [ja, List.replicate, List.map_cons, List.map_nil, h2, h4, Option.getD_some, List.cons_append, List.nil_append]
 unfold stE
 rw [xE hv (by omega) (by omega), er, e, Option.bind_some]
noncomputable def lbF (B : Nat) (a : Int) : Nat := B + 2 * a.toNat
noncomputable def lqF (B : Nat) (a : Int) : Nat := B + 2 * a.toNat + 1
noncomputable def kB (B i : Nat) : List (Key × U) := (List.range i).map fun j : Nat => (.inl (j : Int), jB (lbF B) (lqF B) (j : Int))
theorem jL {k : Key} : k ∈ (kB B i).map (·.1) ↔ ∃ j : Nat, j < i ∧ k = .inl (j : Int) := by
 unfold kB
 rw [List.map_map]
 constructor
 ·intro h
  obtain ⟨j, hj, e⟩ := List.mem_map.mp h
  exact ⟨j, List.mem_range.mp hj, e.symm⟩
 ·rintro ⟨j, hj, e⟩
  exact List.mem_map.mpr ⟨j, List.mem_range.mpr hj, e.symm⟩
theorem qd : ((kB B i).map (·.1)).Nodup := by
 unfold kB
 rw [List.map_map, List.nodup_iff_pairwise_ne, List.pairwise_map]
 refine (List.nodup_iff_pairwise_ne.mp List.nodup_range).imp fun {a b} h e => h ?_
 have := Sum.inl.inj e
 omega
theorem nz {j : Nat} (h : j < i) : aK (kB B i) (.inl (j : Int)) = some (jB (lbF B) (lqF B) (j : Int)) :=
 sk (p := (.inl (j : Int), jB (lbF B) (lqF B) (j : Int))) qd (List.mem_map.mpr ⟨j, List.mem_range.mpr h, rfl⟩)
structure PlI (n B p0 : Nat) (many : Int) (pos0 : Sl → Option Nat) (c0 : Sl → O) (i : Nat) (T : Sto) (pos : Sl → Option Nat) (c : Sl → O) : Prop where
 M : Mem pos c T
 len : T.length = B + 2 * i
 hp : pos .pl = some p0
 cp : c .pl = .dic (kB B i)
 old : ∀ s, (∀ a, s ≠ .lb a) → (∀ a, s ≠ .lp a) → pos s = pos0 s ∧ (s ≠ .pl → c s = c0 s)
 own : ∀ a : Int, 0 ≤ a → a < i → pos (.lb a) = some (lbF B a) ∧ c (.lb a) = .lst ((bxs n many a).map U.int) ∧ pos (.lp a) = some (lqF B a) ∧ c (.lp a) = .dic []
noncomputable def plE : CE := gN (bC (af (ah 3) aG)) (gNm 0) (bI (cOp fEq (cOp lQ (ah 0) (ah 2)) (ah 1))) (ah 0) 1 [9, 6]
noncomputable def plB : CS := dM (ah 8) (ah 9) (mN (af (cC (.str "off")) (af plE (af hJ aG))))
theorem zf {ρ : Rho} {a : Int} (h3 : ρ[3]? = some (some (.int n))) (h6 : ρ[6]? = some (some (.int many))) (h9 : ρ[9]? = some (some (.int a))) (hm : 0 < many) (hn : n ≤ 6) : plE ρ T = some (.ref T.length, T ++ [.lst ((bxs n many a).map U.int)]) := by
 have hv : af (ah 3) aG ρ T = some ([.int n], T) := by
  have : ah 3 ρ T = some (.int n, T) := by unfold ah; rw [h3]
  rw [gi, this, Option.bind_some, eM, lS, Option.bind_some, eK]
 have er : ja 1 [9, 6] ρ = [none, some (.int a), some (.int many)] := by simp only [ja, List.replicate, List.map_cons, List.map_nil, h9, h6, Option.getD_some, List.cons_append, List.nil_append]
 have e1 := fZ (S := T) (ok := fun _ => True) (gg := gNm 0) (ct := bI (cOp fEq (cOp lQ (ah 0) (ah 2)) (ah 1))) (ce := ah 0) (f := U.int) (p := fun b : Int => decide (b % many = a)) (v := U.int) (Rel := fun ρ => ∃ r0, ρ = [r0, some (.int a), some (.int many)]) (fun _ _ => trivial) ((List.range n).map fun i : Nat => (i : Int)) [] [] [none, some (.int a), some (.int many)] ⟨_, rfl⟩ (by simp; omega) (fun b hb ys G ρ hρ => by
  obtain ⟨r0, rfl⟩ := hρ
  refine ⟨[some (.int b), some (.int a), some (.int many)], ⟨_, rfl⟩, rfl, ?_, rfl⟩
  rwa [o7 hm])
 unfold plE
 rw [xF hv (by omega) (by omega), Int.toNat_natCast, fu, er, e1, Option.bind_some]
 rfl
theorem wK {r0 r1 r2 r4 r5 r7 r10 r11 r12 r13 r14 r15 : Option U} (P : PlI n B p0 many pos0 c0 i T pos c) (hi : i < many) (hm : many ≤ 6) (hn : n ≤ 6) :
  ∃ T' pos' c', plB [r0, r1, r2, some (.int n), r4, r5, some (.int many), r7, some (.ref p0), some (.int i), r10, r11, r12, r13, r14, r15] T = some (.nx, [r0, r1, r2, some (.int n), r4, r5, some (.int many), r7, some (.ref p0), some (.int i), r10, r11, r12, r13, r14, r15], T') ∧ PlI n B p0 many pos0 c0 (i + 1) T' pos' c' := by
 obtain ⟨ρ, hρ⟩ : ∃ ρ : Rho, ρ = [r0, r1, r2, some (.int n), r4, r5, some (.int many), r7, some (.ref p0), some (.int i), r10, r11, r12, r13, r14, r15] := ⟨_, rfl⟩
 have hcomp := zf (T := T) (ρ := ρ) (n := n) (many := many) (a := i) (by rw [hρ]; rfl) (by rw [hρ]; rfl) (by rw [hρ]; rfl) (by omega) hn
 have h8 : ∀ S, ah 8 ρ S = some (.ref p0, S) := fun S => by rw [hρ]; rfl
 have h9 : ∀ S, ah 9 ρ S = some (.int i, S) := fun S => by rw [hρ]; rfl
 rw [← hρ]
 have M1 := P.M.new (.lb i) (.lst ((bxs n many i).map U.int)) []
 have M2 := M1.new (.lp i) (.dic []) []
 have hp2 : ef (ef pos (.lb i) T.length) (.lp i) (T ++ [O.lst ((bxs n many i).map U.int)]).length .pl = some p0 := by
  unfold ef
  rw [if_neg (by intro h; cases h), if_neg (by intro h; cases h)]; exact P.hp
 have M3 := M2.set hp2 (.dic (kB B (i + 1)))
 have t2 := M2.at_ _ _ hp2
 rw [aa (by intro h; cases h), aa (by intro h; cases h), P.cp] at t2
 have lL : (kB B i).length < LIM := by unfold kB LIM; rw [List.length_map, List.length_range]; omega
 have l1 : (T ++ [O.lst ((bxs n many i).map U.int)]).length = B + 2 * i + 1 := by rw [List.length_append, P.len]; rfl
 have epl : dj (kB B i) (.inl (i : Int)) (.tup [.str "off", .ref T.length, .ref (T ++ [O.lst ((bxs n many i).map U.int)]).length]) = kB B (i + 1) := by
  rw [l1, P.len, nv (fun h => by obtain ⟨j, hj, e⟩ := jL.mp h; have := Sum.inl.inj e; omega)]
  unfold kB
  rw [List.range_succ, List.map_append, List.map_singleton]
  unfold jB lbF lqF
  rw [Int.toNat_natCast]
 refine ⟨_, _, _, ?_, M3, ?_, hp2, ax, ?_, ?_⟩
 ·unfold plB
  rw [CD, xX, gi, x_c, Option.bind_some, eM, gi, hcomp, Option.bind_some, eM, gi, pf, Option.bind_some, eM, lS, Option.bind_some, eK, Option.bind_some, eK, Option.bind_some, eK, Option.bind_some, uD, Option.bind_some, x8, h8, Option.bind_some, x6, h9, Option.bind_some, x5, xZ, t2, uF, yp, Option.bind_some, if_pos lL, Option.bind_some, x4, epl]
 ·rw [List.length_set, List.length_append, l1]; simp only [List.length_singleton]; omega
 ·intro s s1 s2
  obtain ⟨o1, o2⟩ := P.old s s1 s2
  refine ⟨?_, fun h => ?_⟩
  ·unfold ef
   rw [if_neg (s2 _), if_neg (s1 _)]; exact o1
  ·rw [aa h, aa (s2 _), aa (s1 _)]; exact o2 h
 ·intro a a0 a1
  by_cases e : a = i
  ·subst e
   unfold ef
   refine ⟨?_, ?_, ?_, ?_⟩
   ·rw [if_neg (by intro h; cases h), if_pos rfl, P.len]; unfold lbF; rw [Int.toNat_natCast]
   ·rw [aa (by intro h; cases h), aa (by intro h; cases h), ax]
   ·rw [if_pos rfl, l1]; unfold lqF; rw [Int.toNat_natCast]
   ·rw [aa (by intro h; cases h), ax]
  ·obtain ⟨o1, o2, o3, o4⟩ := P.own a a0 (by omega)
   unfold ef
   refine ⟨?_, ?_, ?_, ?_⟩
   ·rw [if_neg (by intro h; cases h), if_neg (by intro h; injection h with h; exact e h)]; exact o1
   ·rw [aa (by intro h; cases h), aa (by intro h; cases h), aa (by intro h; injection h with h; exact e h)]; exact o2
   ·rw [if_neg (by intro h; injection h with h; exact e h), if_neg (by intro h; cases h)]; exact o3
   ·rw [aa (by intro h; cases h), aa (by intro h; injection h with h; exact e h), aa (by intro h; cases h)]; exact o4
end
section
variable {cK cA : Cl} {n : Nat} {many w1 : Int} {st : List Int} {lw k0 p0 w0 : Nat} {lbf lqf : Int → Nat} {t : Nat} {T T' : Sto} {pos pos' : Sl → Option Nat} {c c' : Sl → O} {bx mk bx' mk' : List Int} {tk tk' a b v : Int} {evs evs' : List U} {kn pln kn' pln' lk : List (Key × U)} {pp : Int → List (Int × Int)} {pa : List (Int × Int)}
theorem RnI.to (R : RnI cK cA n many st lw k0 p0 w0 lbf lqf t T pos c bx mk tk evs kn pln pp) (M' : Mem pos' c' T') (h : ∀ s, s ≠ .lb (-2) → pos' s = pos s ∧ c' s = c s) : RnI cK cA n many st lw k0 p0 w0 lbf lqf t T' pos' c' bx mk tk evs kn pln pp where
 M := M'
 K := R.K.to (fun s hs => (h s (by intro e; subst e; simp at hs)).1) (fun s hs => (h s (by intro e; subst e; simp at hs)).2)
 hh := (h _ (by intro e; cases e)).2.trans R.hh
 hw := (h _ (by intro e; cases e)).1.trans R.hw
 cw := by rw [(h .wl (by intro e; cases e)).2]; exact R.cw
 h0 := (h _ (by intro e; cases e)).1.trans R.h0
 hp := (h _ (by intro e; cases e)).1.trans R.hp
 cp := (h _ (by intro e; cases e)).2.trans R.cp
 hwh := (h _ (by intro e; cases e)).1.trans R.hwh
 cwh := (h _ (by intro e; cases e)).2.trans R.cwh
 lb := R.lb
 lm := R.lm
 tk0 := R.tk0
 et := R.et
 kt := R.kt
 nd := R.nd
 ki := R.ki
 own := fun a x0 x1 => by
  obtain ⟨o1, o2, o3, o4, o5⟩ := R.own a x0 x1
  have nb : Sl.lb a ≠ .lb (-2) := fun h => by injection h with h; omega
  exact ⟨(h _ nb).1.trans o1, (h _ nb).2.trans o2, (h _ (by intro e; cases e)).1.trans o3, (h _ (by intro e; cases e)).2.trans o4, o5⟩
 pl := fun a u hu => by
  obtain ⟨x0, x1, x2⟩ := R.pl a u hu
  refine ⟨x0, x1, ?_⟩
  rcases x2 with y | ⟨y1, g, lk, un, g0, A, ow, ll⟩
  ·exact .inl y
  ·exact .inr ⟨y1, g, lk, un, g0, A.to (fun s hs => h s (by intro e; subst e; simp at hs)), ow, ll⟩
 fresh := R.fresh
 done := R.done
theorem RnE.app (R : RnE cK cA n many st lw k0 p0 w0 lbf lqf t T pln) (X : Sto) : RnE cK cA n many st lw k0 p0 w0 lbf lqf t (T ++ X) pln := by
 obtain ⟨pos, c, bx, mk, tk, evs, kn, pp, R⟩ := R
 exact ⟨_, _, _, _, _, _, _, _, R.to (R.M.app X) fun _ _ => ⟨rfl, rfl⟩⟩
theorem RnE.wl (R : RnE cK cA n many st lw k0 p0 w0 lbf lqf t T pln) (w : Wl lw T T') : RnE cK cA n many st lw k0 p0 w0 lbf lqf t T' pln := by
 obtain ⟨pos, c, bx, mk, tk, evs, kn, pp, R⟩ := R
 obtain ⟨c', R'⟩ := R.wl w
 exact ⟨_, _, _, _, _, _, _, _, R'⟩
theorem tR {ks : List Int} {l : Nat} (h : T[l]? = some (.dic pln)) (e : pln.map (·.1) = ks.map Sum.inl) : fw [.ref l] T = some (.ref T.length, T ++ [.lst (ks.map U.int)]) := by
 have : (pln.map fun p => kU p.1) = ks.map U.int := by
  have e2 : (pln.map fun p => kU p.1) = (pln.map (·.1)).map kU := by rw [List.map_map]; rfl
  rw [e2, e, List.map_map]; rfl
 simp only [fw, h, this]
theorem RnE.keys (R : RnE cK cA n many st lw k0 p0 w0 lbf lqf t T pln) : ∃ ks : List Int, fw [.ref p0] T = some (.ref T.length, T ++ [.lst (ks.map U.int)]) ∧ ks.Nodup ∧ (∀ a, a ∈ ks ↔ (aK pln (.inl a)).isSome = true) ∧ ks.length ≤ many.toNat := by
 obtain ⟨pos, c, bx, mk, tk, evs, kn, pp, R⟩ := R
 obtain ⟨ks, e, nd, mem, ln, _⟩ := qC R
 have tp := R.M.at_ _ _ R.hp
 rw [R.cp] at tp
 exact ⟨ks, tR tp e, nd, mem, ln⟩
theorem RnI.due (R : RnI cK cA n many st lw k0 p0 w0 lbf lqf t T pos c bx mk tk evs kn pln pp) (off : ∀ a u, aK pln (.inl a) = some u → u = jB lbf lqf a) (b0 : 0 ≤ b) (b1 : b < n) : bx.getD b.toNat 0 = (aK (pp (b % many)) b).getD (st.getD b.toNat 0) := by
 cases hv : aK pln (.inl (b % many)) with
 | none => exact R.done b b0 b1 hv
 | some u =>
  have e := off _ _ hv
  rw [e] at hv
  obtain ⟨_, _, _, e2⟩ := u7 R hv
  rw [(R.fresh b b0 b1 (by rw [hv]; rfl)).1, e2]; rfl
end
section
variable {cK cA : Cl} {n B p0 i lw k0 : Nat} {many w : Int} {st : List Int} {T T' : Sto} {pos pos' pos0 : Sl → Option Nat} {c c' c0 : Sl → O} {r0 r1 r2 r4 r5 r7 r9 r10 r11 r12 r13 r14 r15 : Option U}
theorem kC (hm : many ≤ 6) (hn : n ≤ 6) : ∀ (m i : Nat) (T : Sto) (pos : Sl → Option Nat) (c : Sl → O) (r9 : Option U), ((i + m : Nat) : Int) = many → PlI n B p0 many pos0 c0 i T pos c →
  ∃ T' pos' c' r9', dr (fun _ => True) (gNm 9) plB ((List.range' i m).map fun j : Nat => U.int (j : Int)) [r0, r1, r2, some (.int n), r4, r5, some (.int many), r7, some (.ref p0), r9, r10, r11, r12, r13, r14, r15] T = some (.nx, [r0, r1, r2, some (.int n), r4, r5, some (.int many), r7, some (.ref p0), r9', r10, r11, r12, r13, r14, r15], T') ∧ PlI n B p0 many pos0 c0 (i + m) T' pos' c'
 | 0, i, T, pos, c, r9, _, P => ⟨T, pos, c, r9, dN trivial, P⟩
 | m + 1, i, T, pos, c, r9, h, P => by
  obtain ⟨T1, pos1, c1, e1, P1⟩ := wK (r0 := r0) (r1 := r1) (r2 := r2) (r4 := r4) (r5 := r5) (r7 := r7) (r10 := r10) (r11 := r11) (r12 := r12) (r13 := r13) (r14 := r14) (r15 := r15) P (by omega) hm hn
  obtain ⟨T', pos', c', q9, ih, P'⟩ := kC hm hn m (i + 1) T1 pos1 c1 (some (.int i)) (by omega) P1
  rw [show i + 1 + m = i + (m + 1) from by omega] at P'
  refine ⟨T', pos', c', q9, ?_, P'⟩
  rw [List.range'_succ, List.map_cons]
  exact (eC trivial rfl e1).trans ih
noncomputable def whE : CE := ff (bC (af (ah 6) aG)) (gNm 0) (cOp fIx (cOp fIx (ah 1) (ah 0)) (cC (.int 2))) 1 [8]
theorem uL {ρ : Rho} {m : Nat} (h6 : ρ[6]? = some (some (.int m))) (h8 : ρ[8]? = some (some (.ref p0))) (hT : T[p0]? = some (.dic (kB B m))) (hm : m ≤ 6) : whE ρ T = some (.ref T.length, T ++ [.lst ((List.range m).map fun (i : Nat) => .ref (lqF B (i : Int)))]) := by
 have hv : af (ah 6) aG ρ T = some ([.int m], T) := by
  have : ah 6 ρ T = some (.int m, T) := by unfold ah; rw [h6]
  rw [gi, this, Option.bind_some, eM, lS, Option.bind_some, eK]
 have er : ja 1 [8] ρ = [none, some (.ref p0)] := by simp only [ja, List.replicate, List.map_cons, List.map_nil, h8, Option.getD_some, List.cons_append, List.nil_append]
 have e1 := iT (S := T) (ok := fun _ => True) (gg := gNm 0) (ce := cOp fIx (cOp fIx (ah 1) (ah 0)) (cC (.int 2))) (f := fun i : Nat => U.int (i : Int)) (v := fun i : Nat => U.ref (lqF B (i : Int))) (Rel := fun ρ => ∃ r0, ρ = [r0, some (.ref p0)]) (fun _ _ => trivial) (List.range m) [] [] [none, some (.ref p0)] ⟨_, rfl⟩ (by simp; omega) (fun b hb ys G ρ hρ => by
  obtain ⟨r0, rfl⟩ := hρ
  refine ⟨[some (.int b), some (.ref p0)], ⟨_, rfl⟩, rfl, ?_⟩
  have g1 : (T ++ (O.lst ys :: G))[p0]? = some (.dic (kB B m)) := aJ hT
  have g2 := nz (B := B) (List.mem_range.mp hb)
  unfold jB at g2
  rwa [g1, g2])
 have e2 : cg 0 m = (List.range m).map fun i : Nat => U.int (i : Int) := by rw [fu, List.map_map]; rfl
 unfold whE
 rw [xE hv (by omega) (by omega), Int.toNat_natCast, e2, er, e1, Option.bind_some]
 rfl
theorem DD {z : Int} (h : T[lw]? = some (.lst [.int z])) : Mem (ef (fun _ => none) .wl lw) (fun _ => .lst [.int z]) T := by
 have key : ∀ s p, ef (fun _ => none) .wl lw s = some p → s = .wl ∧ p = lw := fun s p hp => by
  unfold ef at hp
  split at hp
  ·rename_i e
   exact ⟨e, (Option.some.inj hp).symm⟩
  ·cases hp
 refine ⟨fun s p hp => ?_, fun s s' p h1 h2 => ?_⟩
 ·rw [(key s p hp).2]; exact h
 ·rw [(key s p h1).1, (key s' p h2).1]
noncomputable def Av (lw N : Nat) : Sl → Option Nat := ef (Au (ef (fun _ => none) .wl lw) N) .pl (N + 7)
noncomputable def AH (cK : Cl) (z : Int) (N : Nat) (st : List Int) : Sl → O := cM (AG cK (fun _ => .lst [.int z]) N st) .pl (.dic [])
theorem nK {N : Nat} : (gM cK N st).length = 7 := rfl
theorem sP {z : Int} (h : T[lw]? = some (.lst [.int z])) : PlI n (T.length + 8) (T.length + 7) many (Av lw T.length) (AH cK z T.length st) 0 (T ++ gM cK T.length st ++ [.dic []]) (Av lw T.length) (AH cK z T.length st) := by
 have M1 := (DD h).keep (cK := cK) (st := st)
 have M2 := M1.new .pl (.dic []) []
 have l1 : (T ++ gM cK T.length st).length = T.length + 7 := by rw [List.length_append, nK]
 rw [l1] at M2
 exact ⟨M2, by rw [List.length_append, l1]; rfl, eB, ax, fun s _ _ => ⟨rfl, fun _ => rfl⟩, fun a a0 a1 => by omega⟩
theorem Dy {u : U} {a : Int} {m : Nat} (h : aK (kB B m) (.inl a) = some u) : 0 ≤ a ∧ a < m ∧ u = jB (lbF B) (lqF B) a := by
 have h1 : (Sum.inl a : Key) ∈ (kB B m).map (·.1) := Classical.byContradiction fun z => by rw [dU.mpr z] at h; cases h
 obtain ⟨j, hj, e⟩ := jL.mp h1
 have e2 := Sum.inl.inj e
 subst e2
 rw [nz hj] at h
 exact ⟨by omega, by omega, (Option.some.inj h).symm⟩
theorem sD {z : Int} {N : Nat} (hm0 : 0 < many) (hs : st.length = n) (P : PlI n (N + 8) (N + 7) many (Av lw N) (AH cK z N st) many.toNat T pos c) :
  RnE cK cA n many st lw N (N + 7) T.length (lbF (N + 8)) (lqF (N + 8)) 0 (T ++ [.lst ((List.range many.toNat).map fun (i : Nat) => .ref (lqF (N + 8) (i : Int)))]) (kB (N + 8) many.toNat) := by
 have M8 := P.M.new .wh (.lst ((List.range many.toNat).map fun (i : Nat) => .ref (lqF (N + 8) (i : Int)))) []
 have key : ∀ s, s ≠ .wh → s ≠ .pl → (∀ a, s ≠ .lb a) → (∀ a, s ≠ .lp a) → ef pos .wh T.length s = Au (ef (fun _ => none) .wl lw) N s ∧ cM c .wh (.lst ((List.range many.toNat).map fun (i : Nat) => .ref (lqF (N + 8) (i : Int)))) s = AG cK (fun _ => .lst [.int z]) N st s := fun s s1 s2 s3 s4 => by
  obtain ⟨o1, o2⟩ := P.old s s3 s4
  rw [aI s1, aa s1, o1, o2 s2]
  unfold Av AH
  rw [aI s2, aa s2]
  exact ⟨rfl, rfl⟩
 have kp : KpI cK (Au (ef (fun _ => none) .wl lw) N) (AG cK (fun _ => .lst [.int z]) N st) st (List.replicate st.length 0) 0 [] [] := ⟨⟨_, _, _, _, _, _, rfl, rfl, rfl, rfl, rfl, rfl, rfl⟩, rfl, rfl, rfl, rfl⟩
 have k1 := key .kh (by intro h; cases h) (by intro h; cases h) (by intro _ h; cases h) (by intro _ h; cases h)
 have k2 := key .wl (by intro h; cases h) (by intro h; cases h) (by intro _ h; cases h) (by intro _ h; cases h)
 have k3 := key .kk (by intro h; cases h) (by intro h; cases h) (by intro _ h; cases h) (by intro _ h; cases h)
 refine ⟨_, _, st, List.replicate st.length 0, 0, [], [], fun _ => [], { M := M8, K := kp.to (fun s hs => ?_) (fun s hs => ?_), hh := k1.2, hw := k2.1, cw := ⟨z, k2.2⟩, h0 := k3.1, hp := ?_, cp := ?_, hwh := eB, cwh := ax, lb := hs, lm := ?_, tk0 := by omega, et := by simp, kt := by simp, nd := qd, ki := fun p hp => ?_, own := fun a a0 a1 => ?_, pl := fun a u hu => ?_, fresh := fun b b0 b1 _ => ⟨rfl, ?_⟩, done := fun b b0 b1 _ => rfl }⟩
 ·refine (key s ?_ ?_ ?_ ?_).1 <;> (intro e; first | (subst e; simp at hs) | (intro e2; subst e2; simp at hs))
 ·refine (key s ?_ ?_ ?_ ?_).2 <;> (intro e; first | (subst e; simp at hs) | (intro e2; subst e2; simp at hs))
 ·rw [aI (by intro h; cases h)]; exact P.hp
 ·rw [aa (by intro h; cases h)]; exact P.cp
 ·rw [List.length_replicate]; exact hs
 ·obtain ⟨j, _, e⟩ := jL.mp (List.mem_map_of_mem hp)
  exact ⟨_, e⟩
 ·obtain ⟨o1, o2, o3, o4⟩ := P.own a a0 (by omega)
  rw [aI (by intro h; cases h), aI (by intro h; cases h), aa (by intro h; cases h), aa (by intro h; cases h)]
  exact ⟨o1, o2, o3, o4, List.nodup_nil, fun b hb => by cases hb⟩
 ·obtain ⟨x0, x1, x2⟩ := Dy hu
  exact ⟨x0, by omega, .inl ⟨x2, rfl, rfl⟩⟩
 ·rw [List.getD_eq_getElem?_getD, List.getElem?_replicate, if_pos (by omega)]; rfl
end
end OQ
namespace OL
open PySem PySem.Spec PyProof.Rows L2 OG OP OQ
noncomputable def top (i : Nat) : Stmt := PySem.Challenge.pw_oneglance_k36_apart_none_falls.main.body.getD i (.Pass ⟨0, 0, 0, 0⟩)
noncomputable abbrev bP : Stmt := cR (top 6) 0
noncomputable abbrev b6 : Stmt := cR (top 7) 0
noncomputable abbrev bO : Stmt := cR (top 7) 1
noncomputable abbrev b5 : Stmt := cR (top 7) 2
noncomputable abbrev aU : Stmt := cR (top 7) 3
noncomputable abbrev aX : Stmt := cR (top 7) 4
noncomputable abbrev cU : Stmt := cR (top 7) 5
noncomputable abbrev bZ : Stmt := cR (top 7) 6
noncomputable abbrev bM : Stmt := cR (top 7) 7
noncomputable abbrev bN : Stmt := cR (top 7) 9
noncomputable abbrev bt : Stmt := cR (top 7) 10
noncomputable abbrev cW : Stmt := cR (top 7) 11
noncomputable abbrev aY : Stmt := cR (top 7) 12
noncomputable abbrev aS : Stmt := cR (top 7) 13
noncomputable abbrev cV : Stmt := cR (top 7) 17
noncomputable abbrev cN : Stmt := top 9
noncomputable abbrev dq : Stmt := top 10
noncomputable abbrev cP : Stmt := top 11
noncomputable abbrev cQ : Stmt := top 12
noncomputable abbrev jc : Stmt := top 13
section
variable {P : Program} {w : World} {K : PySem.W.Frag} {mg : Str → Option Value} {base : Heap}
theorem ft : aW ["self", "glance"] ["self", "glance"] (aq bP) := ⟨rfl, rfl, rfl, by decide +kernel, rfl, by decide +kernel, by decide +kernel⟩
theorem jm {k : Nat} {cAttempt : Cl} {fa : Addr} {fd : FuncData} (F : Fun K "__init__" "Attempt.__init__" bP fa fd) (bi : cS K fd ["self", "glance"] []) (mk : Mk K cAttempt.C fa) (hmg : mg "Attempt" = some (.ref cAttempt.C)) (B : Blt mg) (TAttempt : TC K cAttempt ["glance", "looked", "puts", "stamp", "unwritten", "is_open"]) : CMk P w K mg base cAttempt "Attempt" (k + 1) ["self", "glance"] (fnU 2 2 (cI cAttempt)) :=
 ⟨⟨fa, fd, mk, F.pure ft fun cdv A outer s H E hr => (by
  have hu := eF hr
  have nd := ft.nd
  exact (ao (bU TAttempt.cl (TAttempt.na 0 rfl) (TAttempt.ix rfl) (ae (wpv 0)) (ae (wpv 1)))
   (ao (bU TAttempt.cl (TAttempt.na 1 rfl) (TAttempt.ix rfl) (ae (wpv 0)) iF)
   (ao (bU TAttempt.cl (TAttempt.na 2 rfl) (TAttempt.ix rfl) (ae (wpv 0)) iF)
   (ao (bU TAttempt.cl (TAttempt.na 3 rfl) (TAttempt.ix rfl) (ae (wpv 0)) (p8 iB))
   (ao (bU TAttempt.cl (TAttempt.na 4 rfl) (TAttempt.ix rfl) (ae (wpv 0)) (je aD))
   (aF (bU TAttempt.cl (TAttempt.na 5 rfl) (TAttempt.ix rfl) (ae (wpv 0)) (rL fN))))))))), bi, hmg⟩, by rw [TAttempt.ns]; decide +kernel, by rw [TAttempt.ns]; decide⟩
theorem fQ : aW ["self", "world", "state"] ["self", "world", "state"] (aq b6) := ⟨rfl, rfl, rfl, by decide +kernel, rfl, by decide +kernel, by decide +kernel⟩
theorem jR {k : Nat} {cKeeper : Cl} {fa : Addr} {fd : FuncData} (F : Fun K "__init__" "Keeper.__init__" b6 fa fd) (bi : cS K fd ["self", "world", "state"] []) (mk : Mk K cKeeper.C fa) (hmg : mg "Keeper" = some (.ref cKeeper.C)) (B : Blt mg) (TKeeper : TC K cKeeper ["boxes", "marks", "holders", "ticks", "events", "known"]) : CMk P w K mg base cKeeper "Keeper" (k + 1) ["self", "world", "state"] (fnU 3 3 (dk cKeeper)) :=
 ⟨⟨fa, fd, mk, F.pure fQ fun cdv A outer s H E hr => (by
  have hu := eF hr
  have nd := fQ.nd
  exact (ao (bU TKeeper.cl (TKeeper.na 0 rfl) (TKeeper.ix rfl) (ae (wpv 0)) (eO g7 u3 rfl B.list OG.gF (ag (ae (wpv 2)) aD)))
   (ao (bU TKeeper.cl (TKeeper.na 1 rfl) (TKeeper.ix rfl) (ae (wpv 0)) (gu va uZ (je (ag (bq aC) aD)) (di kH kE rfl B.len PySem.boot_len (ag (ae (wpv 2)) aD))))
   (ao (bU TKeeper.cl (TKeeper.na 2 rfl) (TKeeper.ix rfl) (ae (wpv 0)) iF)
   (ao (bU TKeeper.cl (TKeeper.na 3 rfl) (TKeeper.ix rfl) (ae (wpv 0)) (bq aC))
   (ao (bU TKeeper.cl (TKeeper.na 4 rfl) (TKeeper.ix rfl) (ae (wpv 0)) (je aD))
   (aF (bU TKeeper.cl (TKeeper.na 5 rfl) (TKeeper.ix rfl) (ae (wpv 0)) iF)))))))), bi, hmg⟩, by rw [TKeeper.ns]; decide +kernel, by rw [TKeeper.ns]; decide⟩
theorem gp : aW ["self", "a", "word", "attempt"] ["self", "a", "word"] (aq cW) := ⟨rfl, rfl, rfl, by decide +kernel, rfl, by decide +kernel, by decide +kernel⟩
theorem kR {k : Nat} {cKeeper cAttempt : Cl} {fa : Addr} {fd : FuncData} (F : Fun K "end" "Keeper.end" cW fa fd) (bi : cS K fd ["self", "a", "word"] []) (mt : fU K cKeeper.C "end" fa) (B : Blt mg) (TKeeper : TC K cKeeper ["boxes", "marks", "holders", "ticks", "events", "known"]) (TAttempt : TC K cAttempt ["glance", "looked", "puts", "stamp", "unwritten", "is_open"]) : fc P w K mg base cKeeper "end" (k + 1) ["self", "a", "word"] (fnU 4 3 (cZ cKeeper cAttempt)) :=
 ⟨⟨fa, fd, mt, F.pure gp fun cdv A outer s H E hr => (by
  have hu := eF hr
  have nd := gp.nd
  exact (ao (bz (i := 3) nd rfl (by first | exact Or.inl rfl | exact Or.inr rfl) (gJ hu (bb TKeeper.cl (TKeeper.na 5 rfl) (TKeeper.ix rfl) (ae (wpv 0))) (ae (wpv 1)) (fun _ _ => rfl) (fun _ _ => rfl)))
   (ao (bU TAttempt.cl (TAttempt.na 5 rfl) (TAttempt.ix rfl) (ae (wpv 3)) (rL fN))
   (aF (eN (ic (bb TKeeper.cl (TKeeper.na 4 rfl) (TKeeper.ix rfl) (ae (wpv 0))) (ag (jd (ag (ae (wpv 2)) (ag (ae (wpv 1)) aD))) aD))))))), bi⟩⟩
theorem fk : aW ["self", "a"] ["self", "a"] (aq bN) := ⟨rfl, rfl, rfl, by decide +kernel, rfl, by decide +kernel, by decide +kernel⟩
theorem jj {k : Nat} {cKeeper cAttempt : Cl} {fa : Addr} {fd : FuncData} (F : Fun K "found" "Keeper.found" bN fa fd) (bi : cS K fd ["self", "a"] []) (mt : fU K cKeeper.C "found" fa) (B : Blt mg) (TKeeper : TC K cKeeper ["boxes", "marks", "holders", "ticks", "events", "known"]) (TAttempt : TC K cAttempt ["glance", "looked", "puts", "stamp", "unwritten", "is_open"]) : fc P w K mg base cKeeper "found" (k + 1) ["self", "a"] (fnU 2 2 (cG cKeeper cAttempt)) :=
 ⟨⟨fa, fd, mt, F.pure fk fun cdv A outer s H E hr => (by
  have hu := eF hr
  have nd := fk.nd
  exact (ao (dY (BK (BM (sH hu (ae (wpv 1)) (bb TKeeper.cl (TKeeper.na 5 rfl) (TKeeper.ix rfl) (ae (wpv 0))) (by with_unfolding_all rfl)) (yX (p7 (gY (bb TAttempt.cl (TAttempt.na 5 rfl) (TAttempt.ix rfl) (gJ hu (bb TKeeper.cl (TKeeper.na 5 rfl) (TKeeper.ix rfl) (ae (wpv 0))) (ae (wpv 1)) (fun _ _ => rfl) (fun _ _ => rfl)))))))) (aF ib) cE)
   (aF (br (gJ hu (bb TKeeper.cl (TKeeper.na 5 rfl) (TKeeper.ix rfl) (ae (wpv 0))) (ae (wpv 1)) (fun _ _ => rfl) (fun _ _ => rfl)))))), bi⟩⟩
theorem eE : aW ["self", "a", "attempt"] ["self", "a"] (aq bt) := ⟨rfl, rfl, rfl, by decide +kernel, rfl, by decide +kernel, by decide +kernel⟩
theorem g9 {k : Nat} {aB : Fn} {cKeeper cAttempt : Cl} {fa : Addr} {fd : FuncData} (F : Fun K "untaken" "Keeper.untaken" bt fa fd) (bi : cS K fd ["self", "a"] []) (mt : fU K cKeeper.C "untaken" fa) (B : Blt mg) (TKeeper : TC K cKeeper ["boxes", "marks", "holders", "ticks", "events", "known"]) (TAttempt : TC K cAttempt ["glance", "looked", "puts", "stamp", "unwritten", "is_open"]) (M_Keeper_found : fc P w K mg base cKeeper "found" (k) ["self", "a"] aB) : fc P w K mg base cKeeper "untaken" (k + 1) ["self", "a"] (fnU 3 2 (bL aB cKeeper cAttempt)) :=
 ⟨⟨fa, fd, mt, F.pure eE fun cdv A outer s H E hr => (by
  have hu := eF hr
  have nd := eE.nd
  exact (ao (bz (i := 2) nd rfl (by first | exact Or.inl rfl | exact Or.inr rfl) (bV TKeeper.cl M_Keeper_found hr (TKeeper.nm (by decide +kernel)) (ae (wpv 0)) (ag (ae (wpv 1)) aD)))
   (ao (dY (dB w6 zx (bb TAttempt.cl (TAttempt.na 3 rfl) (TAttempt.ix rfl) (ae (wpv 2))) (p8 iB) (bK _)) (aF ib) cE)
   (aF (br (ae (wpv 2))))))), bi⟩⟩
theorem dX : aW ["self", "a", "boxes"] ["self", "a", "boxes"] (aq aY) := ⟨rfl, rfl, rfl, by decide +kernel, rfl, by decide +kernel, by decide +kernel⟩
theorem gB {k : Nat} {cKeeper : Cl} {fa : Addr} {fd : FuncData} (F : Fun K "is_barred" "Keeper.is_barred" aY fa fd) (bi : cS K fd ["self", "a", "boxes"] []) (mt : fU K cKeeper.C "is_barred" fa) (B : Blt mg) (TKeeper : TC K cKeeper ["boxes", "marks", "holders", "ticks", "events", "known"]) : fc P w K mg base cKeeper "is_barred" (k + 1) ["self", "a", "boxes"] (fnU 3 3 (bT cKeeper)) :=
 ⟨⟨fa, fd, mt, F.pure dX fun cdv A outer s H E hr => (by
  have hu := eF hr
  have nd := dX.nd
  exact (aF (br (di (n5 rfl) zB rfl B.any OG.oa (ag (sI (uY (Nc := ["b", "a", "self"]) (tn := ["b"]) (capN := ["a", "self"]) (caps := [1, 0]) rfl (nq (ae (wpv 2))) (fun _ _ _ => (cy (aT (i := 0) (show (["b", "a", "self"] : List Str).Nodup by decide +kernel) rfl (by first | exact Or.inl rfl | exact Or.inr rfl)))) (fun _ _ _ => (kA w8 BY (p9 hu (bb TKeeper.cl (TKeeper.na 2 rfl) (TKeeper.ix rfl) (ae (wpv 2))) (ae (wpv 0)) (ae (wpv 1)) ⟨rfl, rfl, rfl, rfl⟩) (ae (wpv 1)) (bK _))) rfl rfl (by decide +kernel) (by decide +kernel) ⟨rfl, rfl, trivial⟩ rfl (.cons ⟨rfl, rfl, rfl, _, rfl⟩ (.cons ⟨rfl, rfl, rfl, _, rfl⟩ .nil)) rfl rfl) (qa (Nc := ["b", "a", "self"]) (tn := ["b"]) (capN := ["a", "self"]) (caps := [1, 0]) rfl (ae (wpv 2)) (fun _ _ _ => (cy (aT (i := 0) (show (["b", "a", "self"] : List Str).Nodup by decide +kernel) rfl (by first | exact Or.inl rfl | exact Or.inr rfl)))) (fun _ _ _ => (kA w8 BY (p9 hu (bb TKeeper.cl (TKeeper.na 2 rfl) (TKeeper.ix rfl) (ae (wpv 2))) (ae (wpv 0)) (ae (wpv 1)) ⟨rfl, rfl, rfl, rfl⟩) (ae (wpv 1)) (bK _))) rfl rfl (by decide +kernel) (by decide +kernel) ⟨rfl, rfl, trivial⟩ rfl (.cons ⟨rfl, rfl, rfl, _, rfl⟩ (.cons ⟨rfl, rfl, rfl, _, rfl⟩ .nil)) rfl rfl)) aD))))), bi⟩⟩
theorem dA : aW ["self", "a", "attempt"] ["self", "a"] (aq aS) := ⟨rfl, rfl, rfl, by decide +kernel, rfl, by decide +kernel, by decide +kernel⟩
theorem fJ {k : Nat} {cKeeper cAttempt : Cl} {fa : Addr} {fd : FuncData} (F : Fun K "has_changed" "Keeper.has_changed" aS fa fd) (bi : cS K fd ["self", "a"] []) (mt : fU K cKeeper.C "has_changed" fa) (B : Blt mg) (TKeeper : TC K cKeeper ["boxes", "marks", "holders", "ticks", "events", "known"]) (TAttempt : TC K cAttempt ["glance", "looked", "puts", "stamp", "unwritten", "is_open"]) : fc P w K mg base cKeeper "has_changed" (k + 1) ["self", "a"] (fnU 3 2 (bc cKeeper cAttempt)) :=
 ⟨⟨fa, fd, mt, F.pure dA fun cdv A outer s H E hr => (by
  have hu := eF hr
  have nd := dA.nd
  exact (ao (bz (i := 2) nd rfl (by first | exact Or.inl rfl | exact Or.inr rfl) (gJ hu (bb TKeeper.cl (TKeeper.na 5 rfl) (TKeeper.ix rfl) (ae (wpv 0))) (ae (wpv 1)) (fun _ _ => rfl) (fun _ _ => rfl)))
   (aF (br (di (n5 rfl) zB rfl B.any OG.oa (ag (qa (Nc := ["b", "attempt", "self"]) (tn := ["b"]) (capN := ["attempt", "self"]) (caps := [2, 0]) rfl (bb TAttempt.cl (TAttempt.na 1 rfl) (TAttempt.ix rfl) (ae (wpv 2))) (fun _ _ _ => (cy (aT (i := 0) (show (["b", "attempt", "self"] : List Str).Nodup by decide +kernel) rfl (by first | exact Or.inl rfl | exact Or.inr rfl)))) (fun _ _ _ => (kA xa B1 (gJ hu (bb TKeeper.cl (TKeeper.na 1 rfl) (TKeeper.ix rfl) (ae (wpv 2))) (ae (wpv 0)) (fun _ _ => rfl) (fun _ _ => rfl)) (bb TAttempt.cl (TAttempt.na 0 rfl) (TAttempt.ix rfl) (ae (wpv 1))) (bK _))) rfl rfl (by decide +kernel) (by decide +kernel) ⟨rfl, rfl, trivial⟩ rfl (.cons ⟨rfl, rfl, rfl, _, rfl⟩ (.cons ⟨rfl, rfl, rfl, _, rfl⟩ .nil)) rfl rfl) aD)))))), bi⟩⟩
theorem dJ : aW ["self", "a", "b"] ["self", "a", "b"] (aq aU) := ⟨rfl, rfl, rfl, by decide +kernel, rfl, by decide +kernel, by decide +kernel⟩
theorem fX {k : Nat} {av ar : Fn} {cKeeper cAttempt : Cl} {fa : Addr} {fd : FuncData} (F : Fun K "would_fall" "Keeper.would_fall" aU fa fd) (bi : cS K fd ["self", "a", "b"] []) (mt : fU K cKeeper.C "would_fall" fa) (B : Blt mg) (TKeeper : TC K cKeeper ["boxes", "marks", "holders", "ticks", "events", "known"]) (TAttempt : TC K cAttempt ["glance", "looked", "puts", "stamp", "unwritten", "is_open"]) (M_Keeper_is_barred : fc P w K mg base cKeeper "is_barred" (k) ["self", "a", "boxes"] av) (M_Keeper_has_changed : fc P w K mg base cKeeper "has_changed" (k) ["self", "a"] ar) : fc P w K mg base cKeeper "would_fall" (k + 1) ["self", "a", "b"] (fnU 3 3 (bp av ar cKeeper cAttempt)) :=
 ⟨⟨fa, fd, mt, F.pure dJ fun cdv A outer s H E hr => (by
  have hu := eF hr
  have nd := dJ.nd
  exact (ao (dY (gY (bV TKeeper.cl M_Keeper_is_barred hr (TKeeper.nm (by decide +kernel)) (ae (wpv 0)) (ag (ae (wpv 1)) (ag (je (ag (ae (wpv 2)) aD)) aD)))) (aF (br (rL fN))) cE)
   (ao (dY (dB B3 DC (gJ hu (bb TKeeper.cl (TKeeper.na 1 rfl) (TKeeper.ix rfl) (ae (wpv 0))) (ae (wpv 2)) (fun _ _ => rfl) (fun _ _ => rfl)) (bb TAttempt.cl (TAttempt.na 0 rfl) (TAttempt.ix rfl) (gJ hu (bb TKeeper.cl (TKeeper.na 5 rfl) (TKeeper.ix rfl) (ae (wpv 0))) (ae (wpv 1)) (fun _ _ => rfl) (fun _ _ => rfl))) (bK _)) (aF (br (rL fN))) cE)
   (aF (br (BL (bV TKeeper.cl M_Keeper_is_barred hr (TKeeper.nm (by decide +kernel)) (ae (wpv 0)) (ag (ae (wpv 1)) (ag (bb TAttempt.cl (TAttempt.na 1 rfl) (TAttempt.ix rfl) (gJ hu (bb TKeeper.cl (TKeeper.na 5 rfl) (TKeeper.ix rfl) (ae (wpv 0))) (ae (wpv 1)) (fun _ _ => rfl) (fun _ _ => rfl))) aD))) (BN (bV TKeeper.cl M_Keeper_has_changed hr (TKeeper.nm (by decide +kernel)) (ae (wpv 0)) (ag (ae (wpv 1)) aD))))))))), bi⟩⟩
theorem dW : aW ["self", "attempt", "b"] ["self", "attempt", "b"] (aq aX) := ⟨rfl, rfl, rfl, by decide +kernel, rfl, by decide +kernel, by decide +kernel⟩
theorem gz {k : Nat} {cKeeper cAttempt : Cl} {fa : Addr} {fd : FuncData} (F : Fun K "look_anew" "Keeper.look_anew" aX fa fd) (bi : cS K fd ["self", "attempt", "b"] []) (mt : fU K cKeeper.C "look_anew" fa) (B : Blt mg) (TKeeper : TC K cKeeper ["boxes", "marks", "holders", "ticks", "events", "known"]) (TAttempt : TC K cAttempt ["glance", "looked", "puts", "stamp", "unwritten", "is_open"]) : fc P w K mg base cKeeper "look_anew" (k + 1) ["self", "attempt", "b"] (fnU 3 3 (bB cKeeper cAttempt)) :=
 ⟨⟨fa, fd, mt, F.pure dW fun cdv A outer s H E hr => (by
  have hu := eF hr
  have nd := dW.nd
  exact (ao (dY (dB xa B1 (gJ hu (bb TKeeper.cl (TKeeper.na 1 rfl) (TKeeper.ix rfl) (ae (wpv 0))) (ae (wpv 2)) (fun _ _ => rfl) (fun _ _ => rfl)) (bb TAttempt.cl (TAttempt.na 0 rfl) (TAttempt.ix rfl) (ae (wpv 1))) (bK _)) (aF (bU TAttempt.cl (TAttempt.na 0 rfl) (TAttempt.ix rfl) (ae (wpv 1)) (bb TKeeper.cl (TKeeper.na 3 rfl) (TKeeper.ix rfl) (ae (wpv 0))))) cE)
   (ao (dh hu (bb TAttempt.cl (TAttempt.na 1 rfl) (TAttempt.ix rfl) (ae (wpv 1))) (ae (wpv 2)) (rL fN))
   (aF (br (gJ hu (bb TKeeper.cl (TKeeper.na 0 rfl) (TKeeper.ix rfl) (ae (wpv 0))) (ae (wpv 2)) (fun _ _ => rfl) (fun _ _ => rfl))))))), bi⟩⟩
theorem fq : aW ["self", "a"] ["self", "a"] (aq bO) := ⟨rfl, rfl, rfl, by decide +kernel, rfl, by decide +kernel, by decide +kernel⟩
theorem jl {k : Nat} {bF : Fn} {cKeeper cAttempt : Cl} {fa : Addr} {fd : FuncData} (F : Fun K "begin" "Keeper.begin" bO fa fd) (bi : cS K fd ["self", "a"] []) (mt : fU K cKeeper.C "begin" fa) (B : Blt mg) (TKeeper : TC K cKeeper ["boxes", "marks", "holders", "ticks", "events", "known"]) (TAttempt : TC K cAttempt ["glance", "looked", "puts", "stamp", "unwritten", "is_open"]) (M_Attempt : CMk P w K mg base cAttempt "Attempt" k ["self", "glance"] bF) : fc P w K mg base cKeeper "begin" (k + 1 + 1) ["self", "a"] (fnU 2 2 (cH bF cKeeper cAttempt)) :=
 ⟨⟨fa, fd, mt, F.pure fq fun cdv A outer s H E hr => (by
  have hu := eF hr
  have nd := fq.nd
  exact (ao (dY (yW hu (ae (wpv 1)) (bb TKeeper.cl (TKeeper.na 5 rfl) (TKeeper.ix rfl) (ae (wpv 0))) (by with_unfolding_all rfl)) (aF ib) cE)
   (ao (dh hu (bb TKeeper.cl (TKeeper.na 5 rfl) (TKeeper.ix rfl) (ae (wpv 0))) (ae (wpv 1)) (uW M_Attempt hr rfl (ag (bb TKeeper.cl (TKeeper.na 3 rfl) (TKeeper.ix rfl) (ae (wpv 0))) aD)))
   (aF (eN (ic (bb TKeeper.cl (TKeeper.na 4 rfl) (TKeeper.ix rfl) (ae (wpv 0))) (ag (jd (ag (d4 bo) (ag (ae (wpv 1)) aD))) aD))))))), bi⟩⟩
theorem fP : aW ["self", "a", "b", "attempt", "number"] ["self", "a", "b"] (aq b5) := ⟨rfl, rfl, rfl, by decide +kernel, rfl, by decide +kernel, by decide +kernel⟩
theorem jQ {k : Nat} {ak aN aw aR : Fn} {cKeeper cAttempt : Cl} {fa : Addr} {fd : FuncData} (F : Fun K "look" "Keeper.look" b5 fa fd) (bi : cS K fd ["self", "a", "b"] []) (mt : fU K cKeeper.C "look" fa) (B : Blt mg) (TKeeper : TC K cKeeper ["boxes", "marks", "holders", "ticks", "events", "known"]) (TAttempt : TC K cAttempt ["glance", "looked", "puts", "stamp", "unwritten", "is_open"]) (M_Keeper_untaken : fc P w K mg base cKeeper "untaken" (k) ["self", "a"] ak) (M_Keeper_would_fall : fc P w K mg base cKeeper "would_fall" (k) ["self", "a", "b"] aN) (M_Keeper_end : fc P w K mg base cKeeper "end" (k) ["self", "a", "word"] aw) (M_Keeper_look_anew : fc P w K mg base cKeeper "look_anew" (k) ["self", "attempt", "b"] aR) : fc P w K mg base cKeeper "look" (k + 1) ["self", "a", "b"] (fnU 5 3 (cf ak aN aw aR cKeeper cAttempt)) :=
 ⟨⟨fa, fd, mt, F.pure fP fun cdv A outer s H E hr => (by
  have hu := eF hr
  have nd := fP.nd
  exact (ao (bz (i := 3) nd rfl (by first | exact Or.inl rfl | exact Or.inr rfl) (bV TKeeper.cl M_Keeper_untaken hr (TKeeper.nm (by decide +kernel)) (ae (wpv 0)) (ag (ae (wpv 1)) aD)))
   (ao (dY (yW hu (ae (wpv 2)) (bb TAttempt.cl (TAttempt.na 2 rfl) (TAttempt.ix rfl) (ae (wpv 3))) (by with_unfolding_all rfl)) (aF (bz (i := 4) nd rfl (by first | exact Or.inl rfl | exact Or.inr rfl) (gJ hu (bb TAttempt.cl (TAttempt.na 2 rfl) (TAttempt.ix rfl) (ae (wpv 3))) (ae (wpv 2)) (fun _ _ => rfl) (fun _ _ => rfl)))) (aF (dY (gY (bV TKeeper.cl M_Keeper_would_fall hr (TKeeper.nm (by decide +kernel)) (ae (wpv 0)) (ag (ae (wpv 1)) (ag (ae (wpv 2)) aD)))) (ao (eN (bV TKeeper.cl M_Keeper_end hr (TKeeper.nm (by decide +kernel)) (ae (wpv 0)) (ag (ae (wpv 1)) (ag (d4 bo) aD))))
   (aF (br (jd (ag (d4 bo) aD))))) (aF (bz (i := 4) nd rfl (by first | exact Or.inl rfl | exact Or.inr rfl) (bV TKeeper.cl M_Keeper_look_anew hr (TKeeper.nm (by decide +kernel)) (ae (wpv 0)) (ag (ae (wpv 3)) (ag (ae (wpv 2)) aD))))))))
   (ao (eN (ic (bb TKeeper.cl (TKeeper.na 4 rfl) (TKeeper.ix rfl) (ae (wpv 0))) (ag (jd (ag (d4 bo) (ag (ae (wpv 1)) (ag (ae (wpv 2)) (ag (ae (wpv 4)) aD))))) aD)))
   (aF (br (jd (ag (d4 bo) (ag (ae (wpv 4)) aD))))))))), bi⟩⟩
theorem gm : aW ["self", "a", "b", "v", "attempt"] ["self", "a", "b", "v"] (aq cU) := ⟨rfl, rfl, rfl, by decide +kernel, rfl, by decide +kernel, by decide +kernel⟩
theorem kP {k : Nat} {ak : Fn} {cKeeper cAttempt : Cl} {fa : Addr} {fd : FuncData} (F : Fun K "put" "Keeper.put" cU fa fd) (bi : cS K fd ["self", "a", "b", "v"] []) (mt : fU K cKeeper.C "put" fa) (B : Blt mg) (TKeeper : TC K cKeeper ["boxes", "marks", "holders", "ticks", "events", "known"]) (TAttempt : TC K cAttempt ["glance", "looked", "puts", "stamp", "unwritten", "is_open"]) (M_Keeper_untaken : fc P w K mg base cKeeper "untaken" (k) ["self", "a"] ak) : fc P w K mg base cKeeper "put" (k + 1) ["self", "a", "b", "v"] (fnU 5 4 (dE ak cKeeper cAttempt)) :=
 ⟨⟨fa, fd, mt, F.pure gm fun cdv A outer s H E hr => (by
  have hu := eF hr
  have nd := gm.nd
  exact (ao (bz (i := 4) nd rfl (by first | exact Or.inl rfl | exact Or.inr rfl) (bV TKeeper.cl M_Keeper_untaken hr (TKeeper.nm (by decide +kernel)) (ae (wpv 0)) (ag (ae (wpv 1)) aD)))
   (ao (dh hu (bb TAttempt.cl (TAttempt.na 2 rfl) (TAttempt.ix rfl) (ae (wpv 4))) (ae (wpv 2)) (ae (wpv 3)))
   (aF (eN (ic (bb TKeeper.cl (TKeeper.na 4 rfl) (TKeeper.ix rfl) (ae (wpv 0))) (ag (jd (ag (d4 bo) (ag (ae (wpv 1)) (ag (ae (wpv 2)) (ag (ae (wpv 3)) aD))))) aD))))))), bi⟩⟩
theorem fO : aW ["self", "a", "attempt", "b"] ["self", "a"] (aq bZ) := ⟨rfl, rfl, rfl, by decide +kernel, rfl, by decide +kernel, by decide +kernel⟩
theorem jP {k : Nat} {ak aw av ar : Fn} {cKeeper cAttempt : Cl} {fa : Addr} {fd : FuncData} (F : Fun K "take" "Keeper.take" bZ fa fd) (bi : cS K fd ["self", "a"] []) (mt : fU K cKeeper.C "take" fa) (B : Blt mg) (TKeeper : TC K cKeeper ["boxes", "marks", "holders", "ticks", "events", "known"]) (TAttempt : TC K cAttempt ["glance", "looked", "puts", "stamp", "unwritten", "is_open"]) (M_Keeper_untaken : fc P w K mg base cKeeper "untaken" (k) ["self", "a"] ak) (M_Keeper_end : fc P w K mg base cKeeper "end" (k) ["self", "a", "word"] aw) (M_Keeper_is_barred : fc P w K mg base cKeeper "is_barred" (k) ["self", "a", "boxes"] av) (M_Keeper_has_changed : fc P w K mg base cKeeper "has_changed" (k) ["self", "a"] ar) : fc P w K mg base cKeeper "take" (k + 1) ["self", "a"] (fnU 4 2 (b8 ak aw av ar cKeeper cAttempt)) :=
 ⟨⟨fa, fd, mt, F.pure fO fun cdv A outer s H E hr => (by
  have hu := eF hr
  have nd := fO.nd
  exact (ao (bz (i := 2) nd rfl (by first | exact Or.inl rfl | exact Or.inr rfl) (bV TKeeper.cl M_Keeper_untaken hr (TKeeper.nm (by decide +kernel)) (ae (wpv 0)) (ag (ae (wpv 1)) aD)))
   (ao (dY (dB oA xR (di kH kE rfl B.len PySem.boot_len (ag (bb TAttempt.cl (TAttempt.na 2 rfl) (TAttempt.ix rfl) (ae (wpv 2))) aD)) (bq aC) (bK _)) (ao (eN (bV TKeeper.cl M_Keeper_end hr (TKeeper.nm (by decide +kernel)) (ae (wpv 0)) (ag (ae (wpv 1)) (ag (d4 bo) aD))))
   (aF (br (d4 bo)))) cE)
   (ao (dY (BK (BM (gY (bV TKeeper.cl M_Keeper_is_barred hr (TKeeper.nm (by decide +kernel)) (ae (wpv 0)) (ag (ae (wpv 1)) (ag (bb TAttempt.cl (TAttempt.na 1 rfl) (TAttempt.ix rfl) (ae (wpv 2))) aD)))) (BM (gY (bV TKeeper.cl M_Keeper_is_barred hr (TKeeper.nm (by decide +kernel)) (ae (wpv 0)) (ag (ae (wpv 1)) (ag (bb TAttempt.cl (TAttempt.na 2 rfl) (TAttempt.ix rfl) (ae (wpv 2))) aD)))) (yX (gY (bV TKeeper.cl M_Keeper_has_changed hr (TKeeper.nm (by decide +kernel)) (ae (wpv 0)) (ag (ae (wpv 1)) aD))))))) (ao (eN (bV TKeeper.cl M_Keeper_end hr (TKeeper.nm (by decide +kernel)) (ae (wpv 0)) (ag (ae (wpv 1)) (ag (d4 bo) aD))))
   (aF (br (d4 bo)))) cE)
   (ao (bU TKeeper.cl (TKeeper.na 3 rfl) (TKeeper.ix rfl) (ae (wpv 0)) (gu iI iH (bb TKeeper.cl (TKeeper.na 3 rfl) (TKeeper.ix rfl) (ae (wpv 0))) (bq aC)))
   (ao (bU TAttempt.cl (TAttempt.na 3 rfl) (TAttempt.ix rfl) (ae (wpv 2)) (bb TKeeper.cl (TKeeper.na 3 rfl) (TKeeper.ix rfl) (ae (wpv 0))))
   (ao (bU TAttempt.cl (TAttempt.na 4 rfl) (TAttempt.ix rfl) (ae (wpv 2)) (di (tF rfl) sZ rfl B.sorted OG.mQ (ag (bb TAttempt.cl (TAttempt.na 2 rfl) (TAttempt.ix rfl) (ae (wpv 2))) aD)))
   (ao (iE PassesOwn.never rfl (nq (bb TAttempt.cl (TAttempt.na 4 rfl) (TAttempt.ix rfl) (ae (wpv 2)))) (cy (aT (i := 3) nd rfl (by first | exact Or.inl rfl | exact Or.inr rfl))) (aF (dh hu (bb TKeeper.cl (TKeeper.na 2 rfl) (TKeeper.ix rfl) (ae (wpv 0))) (ae (wpv 3)) (ae (wpv 1)))))
   (aF (br (d4 bo))))))))))), bi⟩⟩
theorem fj : aW ["self", "a", "attempt", "b", "held"] ["self", "a"] (aq bM) := ⟨rfl, rfl, rfl, by decide +kernel, rfl, by decide +kernel, by decide +kernel⟩
theorem ji {k : Nat} {aB aw : Fn} {cKeeper cAttempt : Cl} {fa : Addr} {fd : FuncData} (F : Fun K "write" "Keeper.write" bM fa fd) (bi : cS K fd ["self", "a"] []) (mt : fU K cKeeper.C "write" fa) (B : Blt mg) (TKeeper : TC K cKeeper ["boxes", "marks", "holders", "ticks", "events", "known"]) (TAttempt : TC K cAttempt ["glance", "looked", "puts", "stamp", "unwritten", "is_open"]) (M_Keeper_found : fc P w K mg base cKeeper "found" (k) ["self", "a"] aB) (M_Keeper_end : fc P w K mg base cKeeper "end" (k) ["self", "a", "word"] aw) : fc P w K mg base cKeeper "write" (k + 1) ["self", "a"] (fnU 5 2 (bQ aB aw cKeeper cAttempt)) :=
 ⟨⟨fa, fd, mt, F.pure fj fun cdv A outer s H E hr => (by
  have hu := eF hr
  have nd := fj.nd
  exact (ao (bz (i := 2) nd rfl (by first | exact Or.inl rfl | exact Or.inr rfl) (bV TKeeper.cl M_Keeper_found hr (TKeeper.nm (by decide +kernel)) (ae (wpv 0)) (ag (ae (wpv 1)) aD)))
   (ao (dY (dB qj wY (bb TAttempt.cl (TAttempt.na 3 rfl) (TAttempt.ix rfl) (ae (wpv 2))) (p8 iB) (bK _)) (aF ib) cE)
   (ao (bz (i := 3) nd rfl (by first | exact Or.inl rfl | exact Or.inr rfl) (wB (bb TAttempt.cl (TAttempt.na 4 rfl) (TAttempt.ix rfl) (ae (wpv 2))) (ag (bq aC) aD)))
   (ao (dh hu (bb TKeeper.cl (TKeeper.na 0 rfl) (TKeeper.ix rfl) (ae (wpv 0))) (ae (wpv 3)) (gJ hu (bb TAttempt.cl (TAttempt.na 2 rfl) (TAttempt.ix rfl) (ae (wpv 2))) (ae (wpv 3)) (fun _ _ => rfl) (fun _ _ => rfl)))
   (ao (dh hu (bb TKeeper.cl (TKeeper.na 1 rfl) (TKeeper.ix rfl) (ae (wpv 0))) (ae (wpv 3)) (bb TAttempt.cl (TAttempt.na 3 rfl) (TAttempt.ix rfl) (ae (wpv 2))))
   (ao (dY (dB xa B1 (di kH kE rfl B.len PySem.boot_len (ag (bb TAttempt.cl (TAttempt.na 4 rfl) (TAttempt.ix rfl) (ae (wpv 2))) aD)) (bq aC) (bK _)) (aF (br (d4 bo))) cE)
   (ao (pZ PassesOwn.never rfl (bb TAttempt.cl (TAttempt.na 2 rfl) (TAttempt.ix rfl) (ae (wpv 2))) (cy (aT (i := 4) nd rfl (by first | exact Or.inl rfl | exact Or.inr rfl))) (aF (eN (uX (bb TKeeper.cl (TKeeper.na 2 rfl) (TKeeper.ix rfl) (ae (wpv 0))) (ae (wpv 4)) ⟨rfl, rfl, rfl, rfl⟩))))
   (ao (eN (bV TKeeper.cl M_Keeper_end hr (TKeeper.nm (by decide +kernel)) (ae (wpv 0)) (ag (ae (wpv 1)) (ag (d4 bo) aD))))
   (aF (br (d4 bo)))))))))))), bi⟩⟩
theorem gn : aW ["self"] ["self"] (aq cV) := ⟨rfl, rfl, rfl, by decide +kernel, rfl, by decide +kernel, by decide +kernel⟩
theorem kQ {k : Nat} {cKeeper : Cl} {fa : Addr} {fd : FuncData} (F : Fun K "now" "Keeper.now" cV fa fd) (bi : cS K fd ["self"] []) (mt : fU K cKeeper.C "now" fa) (B : Blt mg) (TKeeper : TC K cKeeper ["boxes", "marks", "holders", "ticks", "events", "known"]) : fc P w K mg base cKeeper "now" (k + 1) ["self"] (fnU 1 1 (dF cKeeper)) :=
 ⟨⟨fa, fd, mt, F.pure gn fun cdv A outer s H E hr => (by
  have hu := eF hr
  have nd := gn.nd
  exact (aF (br (eO eR mi rfl B.tuple OG.gO (ag (bb TKeeper.cl (TKeeper.na 0 rfl) (TKeeper.ix rfl) (ae (wpv 0))) aD))))), bi⟩⟩
theorem gU : aW ["script", "k", "number", "stir", "found", "turn"] ["script", "k"] (aq cN) := ⟨rfl, rfl, rfl, by decide +kernel, rfl, by decide +kernel, by decide +kernel⟩
theorem my {k : Nat} (d : Def K mg "_law_well" cN ["script", "k"]) (B : Blt mg) : rF P w K mg base "_law_well" (k + 1) ["script", "k"] (fnU 6 2 (dw )) :=
 d.pure gU fun f cdv A outer s H E hr => by
  have hu := eF hr
  have nd := gU.nd
  exact (ao (bz (i := 2) nd rfl (by first | exact Or.inl rfl | exact Or.inr rfl) (gu iI iH (gu gZ mj (bq aC) (ae (wpv 1))) (bq aC)))
   (ao (dY (dB w9 B0 (ae (wpv 1)) (di kH kE rfl B.len PySem.boot_len (ag (ae (wpv 0)) aD)) (bK _)) (aF (bz (i := 2) nd rfl (by first | exact Or.inl rfl | exact Or.inr rfl) (gJ hu (ae (wpv 0)) (ae (wpv 1)) (fun _ _ => rfl) (fun _ _ => rfl)))) cE)
   (ao (dY (dB oA xR (gu kG qh (ae (wpv 2)) (bq aC)) (bq aC) (bK _)) (aF (br (je (ag (gu nB zA (ae (wpv 2)) (bq aC)) aD)))) cE)
   (ao (bz (i := 3) nd rfl (by first | exact Or.inl rfl | exact Or.inr rfl) (gu kG qh (gu iI iH (gu iI iH (gu gZ mj (ae (wpv 2)) (bq aC)) (gu gZ mj (bq aC) (ae (wpv 1)))) (bq aC)) (bq aC)))
   (ao (bz (i := 4) nd rfl (by first | exact Or.inl rfl | exact Or.inr rfl) (bq aC))
   (ao (iE PassesOwn.never rfl (dZ rfl B.range (ag (bq aC) aD)) (cy (aT (i := 5) nd rfl (by first | exact Or.inl rfl | exact Or.inr rfl))) (ao (bz (i := 3) nd rfl (by first | exact Or.inl rfl | exact Or.inr rfl) (gu kG qh (gu iI iH (gu iI iH (gu iI iH (gu gZ mj (ae (wpv 3)) (ae (wpv 3))) (gu gZ mj (bq aC) (ae (wpv 3)))) (gu gZ mj (bq aC) (ae (wpv 5)))) (bq aC)) (bq aC)))
   (aF (bz (i := 4) nd rfl (by first | exact Or.inl rfl | exact Or.inr rfl) (gu iI iH (gu gZ mj (ae (wpv 4)) (bq aC)) (ae (wpv 3)))))))
   (aF (br (je (ag (ae (wpv 4)) aD))))))))))
theorem iD : aW ["well", "many", "digit"] ["well", "many"] (aq dq) := ⟨rfl, rfl, rfl, by decide +kernel, rfl, by decide +kernel, by decide +kernel⟩
theorem oJ {k : Nat} (d : Def K mg "_law_sip" dq ["well", "many"]) (B : Blt mg) : rF P w K mg base "_law_sip" (k + 1) ["well", "many"] (fnU 3 2 (eG )) :=
 d.pure iD fun f cdv A outer s H E hr => by
  have hu := eF hr
  have nd := iD.nd
  exact (ao (bz (i := 2) nd rfl (by first | exact Or.inl rfl | exact Or.inr rfl) (gu kG qh (gJ hu (ae (wpv 0)) (bq aC) (fun _ _ => rfl) (fun _ _ => rfl)) (ae (wpv 1))))
   (ao (dh hu (ae (wpv 0)) (bq aC) (gu nB zA (gJ hu (ae (wpv 0)) (bq aC) (fun _ _ => rfl) (fun _ _ => rfl)) (ae (wpv 1))))
   (aF (br (ae (wpv 2))))))
theorem gX : aW ["keeper", "plan", "a", "phase", "boxes", "puts", "told"] ["keeper", "plan", "a"] (aq cQ) := ⟨rfl, rfl, rfl, by decide +kernel, rfl, by decide +kernel, by decide +kernel⟩
theorem mB {k : Nat} {bA bD : Fn} {cKeeper : Cl} (d : Def K mg "_law_ends" cQ ["keeper", "plan", "a"]) (B : Blt mg) (TKeeper : TC K cKeeper ["boxes", "marks", "holders", "ticks", "events", "known"]) (M_Keeper_take : fc P w K mg base cKeeper "take" (k) ["self", "a"] bA) (M_Keeper_write : fc P w K mg base cKeeper "write" (k) ["self", "a"] bD) : rF P w K mg base "_law_ends" (k + 1) ["keeper", "plan", "a"] (fnU 7 3 (d8 bA bD cKeeper)) :=
 d.pure gX fun f cdv A outer s H E hr => by
  have hu := eF hr
  have nd := gX.nd
  exact (ao (uU (uX (ae (wpv 1)) (ae (wpv 2)) ⟨rfl, rfl, rfl, rfl⟩) (uV rfl (fE (aT (i := 3) nd rfl (by first | exact Or.inl rfl | exact Or.inr rfl)) (fE (aT (i := 4) nd rfl (by first | exact Or.inl rfl | exact Or.inr rfl)) (fE (aT (i := 5) nd rfl (by first | exact Or.inl rfl | exact Or.inr rfl)) p6)))))
   (ao (dY (dB (zE hr.units) B2 (ae (wpv 5)) iF (bK _)) (aF (br (kA oA xR (bV TKeeper.cl M_Keeper_take hr (TKeeper.nm (by decide +kernel)) (ae (wpv 0)) (ag (ae (wpv 2)) aD)) (d4 bo) (bK _)))) cE)
   (ao (dY (dB w8 BY (bV TKeeper.cl M_Keeper_take hr (TKeeper.nm (by decide +kernel)) (ae (wpv 0)) (ag (ae (wpv 2)) aD)) (d4 bo) (bK _)) (aF (br (rL fN))) cE)
   (ao (mh (Nc := ["box", "a", "keeper"]) (tn := ["box"]) (capN := ["a", "keeper"]) (caps := [2, 0]) rfl (ae (wpv 5)) (fun _ _ _ => (cy (aT (i := 0) (show (["box", "a", "keeper"] : List Str).Nodup by decide +kernel) rfl (by first | exact Or.inl rfl | exact Or.inr rfl)))) (fun _ _ _ => (bV TKeeper.cl M_Keeper_write hr (TKeeper.nm (by decide +kernel)) (ae (wpv 2)) (ag (ae (wpv 1)) aD))) rfl rfl (by decide +kernel) (by decide +kernel) ⟨rfl, rfl, trivial⟩ rfl (.cons ⟨rfl, rfl, rfl, _, rfl⟩ (.cons ⟨rfl, rfl, rfl, _, rfl⟩ .nil)) rfl rfl nd rfl rfl rfl)
   (aF (br (kA (qo hr.units) tm (ae (wpv 6)) (gu iI iH (gu va uZ (je (ag (d4 bo) aD)) (gu u6 zw (di kH kE rfl B.len PySem.boot_len (ag (ae (wpv 5)) aD)) (bq aC))) (je (ag (d4 bo) aD))) (bK _))))))))
theorem gW : aW ["well", "world", "state", "keeper", "plan", "a", "phase", "boxes", "puts", "box", "way"] ["well", "world", "state", "keeper", "plan", "a"] (aq cP) := ⟨rfl, rfl, rfl, by decide +kernel, rfl, by decide +kernel, by decide +kernel⟩
theorem mz {k : Nat} {ay aA bE bJ bW : Fn} {cKeeper : Cl} (d : Def K mg "_law_goes" cP ["well", "world", "state", "keeper", "plan", "a"]) (B : Blt mg) (TKeeper : TC K cKeeper ["boxes", "marks", "holders", "ticks", "events", "known"]) (bw : rF P w K mg base "_law_sip" (k) ["well", "many"] ay) (dz : rF P w K mg base "_law_ends" (k) ["keeper", "plan", "a"] aA) (M_Keeper_begin : fc P w K mg base cKeeper "begin" (k) ["self", "a"] bE) (M_Keeper_look : fc P w K mg base cKeeper "look" (k) ["self", "a", "b"] bJ) (M_Keeper_put : fc P w K mg base cKeeper "put" (k) ["self", "a", "b", "v"] bW) : rF P w K mg base "_law_goes" (k + 1) ["well", "world", "state", "keeper", "plan", "a"] (fnU 11 6 (d7 ay aA bE bJ bW cKeeper)) :=
 d.pure gW fun f cdv A outer s H E hr => by
  have hu := eF hr
  have nd := gW.nd
  exact (ao (uU (gJ hu (ae (wpv 4)) (ae (wpv 5)) (fun _ _ => rfl) (fun _ _ => rfl)) (uV rfl (fE (aT (i := 6) nd rfl (by first | exact Or.inl rfl | exact Or.inr rfl)) (fE (aT (i := 7) nd rfl (by first | exact Or.inl rfl | exact Or.inr rfl)) (fE (aT (i := 8) nd rfl (by first | exact Or.inl rfl | exact Or.inr rfl)) p6)))))
   (ao (bz (i := 9) nd rfl (by first | exact Or.inl rfl | exact Or.inr rfl) (gJ hu (ae (wpv 7)) (eX bw hr rfl (ag (ae (wpv 0)) (ag (di kH kE rfl B.len PySem.boot_len (ag (ae (wpv 7)) aD)) aD))) (fun _ _ => rfl) (fun _ _ => rfl)))
   (ao (dY (dB oA xR (ae (wpv 6)) (d4 bo) (bK _)) (ao (dh hu (ae (wpv 4)) (ae (wpv 5)) (jd (ag (d4 bo) (ag (ae (wpv 7)) (ag (ae (wpv 8)) aD)))))
   (aF (br (kA qj wY (bV TKeeper.cl M_Keeper_begin hr (TKeeper.nm (by decide +kernel)) (ae (wpv 3)) (ag (ae (wpv 5)) aD)) (p8 iB) (bK _))))) cE)
   (ao (bz (i := 10) nd rfl (by first | exact Or.inl rfl | exact Or.inr rfl) (eX bw hr rfl (ag (ae (wpv 0)) (ag (bq aC) aD))))
   (ao (dY (dB w9 B0 (ae (wpv 10)) (bq aC) (bK _)) (aF (br (kA (qo hr.units) tm (bV TKeeper.cl M_Keeper_look hr (TKeeper.nm (by decide +kernel)) (ae (wpv 3)) (ag (ae (wpv 5)) (ag (ae (wpv 9)) aD))) (jd (ag (d4 bo) (ag (p9 hu (ae (wpv 8)) (ae (wpv 9)) (gJ hu (ae (wpv 2)) (ae (wpv 9)) (fun _ _ => rfl) (fun _ _ => rfl)) ⟨rfl, rfl, rfl, rfl⟩) aD))) (bK _)))) cE)
   (ao (dY (dB w9 B0 (ae (wpv 10)) (bq aC) (bK _)) (ao (dh hu (ae (wpv 8)) (ae (wpv 9)) (eX bw hr rfl (ag (ae (wpv 0)) (ag (gJ hu (ae (wpv 1)) (bq aC) (fun _ _ => rfl) (fun _ _ => rfl)) aD))))
   (aF (br (kA qj wY (bV TKeeper.cl M_Keeper_put hr (TKeeper.nm (by decide +kernel)) (ae (wpv 3)) (ag (ae (wpv 5)) (ag (ae (wpv 9)) (ag (gJ hu (ae (wpv 8)) (ae (wpv 9)) (fun _ _ => rfl) (fun _ _ => rfl)) aD)))) (p8 iB) (bK _))))) cE)
   (aF (br (eX dz hr rfl (ag (ae (wpv 3)) (ag (ae (wpv 4)) (ag (ae (wpv 5)) aD))))))))))))
theorem uR : aW ["script", "k", "well", "n", "world", "state", "many", "keeper", "plan", "a", "whole", "turn", "going", "due", "puts", "box"] ["script"] (aq jc) := ⟨rfl, rfl, rfl, by decide +kernel, rfl, by decide +kernel, by decide +kernel⟩
noncomputable def xK (aL ay aM aA aH aE : Fn) (cKeeper : Cl) : CS :=
 (dM (ah 8) (ah 9) (mN (af (cC (.str "off")) (af (gN (bC (af (ah 3) aG)) (gNm 0) (bI (cOp fEq (cOp lQ (ah 0) (ah 2)) (ah 1))) (ah 0) 1 [9, 6]) (af hJ aG)))))
noncomputable def fA (aL ay aM aA aH aE : Fn) (cKeeper : Cl) : CS :=
 (aV (dc 12 (cCB fw (af (ah 8) aG)))
  (aV (gh (bI (cOp (kX false) (ah 12) (lF aG))) Cu dm)
  (aV (dc 9 (cOp fIx (ah 12) (cCB ay (af (ah 2) (af (cCB kW (af (ah 12) aG)) aG)))))
  (gh (Ah (bI (cCB aM (af (ah 2) (af (ah 4) (af (ah 5) (af (ah 7) (af (ah 8) (af (ah 9) aG))))))))) (eU (cC (.bl false))) dm))))
noncomputable def gP (aL ay aM aA aH aE : Fn) (cKeeper : Cl) : CS :=
 (gh (Cv (bI (cOp fEq (cOp fIx (cOp fIx (ah 8) (ah 9)) (cC (.int 0))) (cC (.str "on")))) (Ah (bI (cCB aA (af (ah 7) (af (ah 8) (af (ah 9) aG))))))) (eU (cC (.bl false))) dm)
noncomputable def mR (aL ay aM aA aH aE : Fn) (cKeeper : Cl) : CS :=
 (dM (ah 13) (ah 15) (cOp fIx (ah 14) (ah 15)))
noncomputable def gb (aL ay aM aA aH aE : Fn) (cKeeper : Cl) : CS :=
 (mO (ah 14) (gNm 15) (mR aL ay aM aA aH aE cKeeper))
noncomputable def j4 (aL ay aM aA aH aE : Fn) (cKeeper : Cl) : CS :=
 (aV (dc 2 (cCB aL (af (ah 0) (af (ah 1) aG))))
  (aV (dc 3 (cOp jb (cC (.int 2)) (cCB ay (af (ah 2) (af (cC (.int 5)) aG)))))
  (aV (dc 4 (mN (af (ah 3) (af (cOp fIx (lF (af (cC (.int 2)) (af (cC (.int 3)) (af (cC (.int 7)) (af (cC (.int 1000)) aG))))) (cCB ay (af (ah 2) (af (cC (.int 4)) aG)))) aG))))
  (aV (dc 5 (cCB eY (af (ff (bC (af (ah 3) aG)) (gNm 0) (cCB ay (af (ah 1) (af (cOp fIx (ah 2) (cC (.int 1))) aG))) 1 [2, 4]) aG)))
  (aV (dc 6 (cOp jb (cC (.int 2)) (cCB ay (af (ah 2) (af (cCB vj (af (cC (.int 3)) (af (cOp xS (ah 3) (cC (.int 1))) aG))) aG)))))
  (aV (dc 7 (cCB (jo cKeeper aE) (af (ah 4) (af (ah 5) aG))))
  (aV (dc 8 hJ)
  (aV (iq (bC (af (ah 6) aG)) (gNm 9) (xK aL ay aM aA aH aE cKeeper))
  (aV (dc 10 (ff (bC (af (ah 6) aG)) (gNm 0) (cOp fIx (cOp fIx (ah 1) (ah 0)) (cC (.int 2))) 1 [8]))
  (aV (iq (bC (af (cC (.int 80)) aG)) (gNm 11) (fA aL ay aM aA aH aE cKeeper))
  (aV (iq (iTp (cCB fw (af (ah 8) aG))) (gNm 9) (gP aL ay aM aA aH aE cKeeper))
  (aV (dc 13 (cCB jW (af (ah 5) aG)))
  (aV (iq (iTp (ah 10)) (gNm 14) (gb aL ay aM aA aH aE cKeeper))
  (gh (bI (cOp (kX true) (cD cKeeper aH (ah 7) aG) (cCB eY (af (ah 13) aG)))) (eU (cC (.bl false))) dm))))))))))))))
noncomputable def xH (aL ay aM aA aH aE : Fn) (cKeeper : Cl) : CS :=
 (aV (iq (bC (af (cCB AF (af (cC (.int 2)) (af (cCB vj (af (cC (.int 5)) (af (cCB kW (af (ah 0) aG)) aG))) aG))) aG)) (gNm 1) (j4 aL ay aM aA aH aE cKeeper))
  (eU (cC (.bl true))))
theorem Co {k : Nat} {aL ay aM aA aH aE : Fn} {cKeeper : Cl} {fa : Addr} {fd : FuncData} (F : Fun K "law" "law" jc fa fd) (B : Blt mg) (TKeeper : TC K cKeeper ["boxes", "marks", "holders", "ticks", "events", "known"]) (gc : rF P w K mg base "_law_well" (k + 1) ["script", "k"] aL) (bw : rF P w K mg base "_law_sip" (k + 1) ["well", "many"] ay) (gf : rF P w K mg base "_law_goes" (k + 1) ["well", "world", "state", "keeper", "plan", "a"] aM) (dz : rF P w K mg base "_law_ends" (k + 1) ["keeper", "plan", "a"] aA) (M_Keeper_now : fc P w K mg base cKeeper "now" (k + 1) ["self"] aH) (M_Keeper : CMk P w K mg base cKeeper "Keeper" k ["self", "world", "state"] aE)
  (ok : ∀ (ns : List Int), ns.length ≤ 63 → ∃ ρ' S', xH aL ay aM aA aH aE cKeeper [some (.kl ns), none, none, none, none, none, none, none, none, none, none, none, none, none, none, none] [] = some (.rt (.bl true), ρ', S')) : iA P w K mg base CX0 (k + 1 + 1) fa fd ["script"] (ni K) := by
 refine Fun.okW F uR (fun vs H Q E h => (by obtain ⟨a, ns, rfl, _⟩ := h; rfl)) fun cdv A outer s H vs Q E hr h => ?_
 obtain ⟨a, ns, rfl, hS, fe, q⟩ := h
 have hu := eF hr
 have nd := uR.nd
 exact ⟨_, (ao (iE PassesOwn.never rfl (dZ rfl B.range (ag (di (rh rfl) BZ rfl B.max OG.ux (ag (bq aC) (ag (di (lD rfl) zy rfl B.min OG.n9 (ag (bq aC) (ag (di kH kE rfl B.len PySem.boot_len (ag (ae (wpv 0)) aD)) aD))) aD))) aD)) (cy (aT (i := 1) nd rfl (by first | exact Or.inl rfl | exact Or.inr rfl))) (ao (bz (i := 2) nd rfl (by first | exact Or.inl rfl | exact Or.inr rfl) (eX gc hr rfl (ag (ae (wpv 0)) (ag (ae (wpv 1)) aD))))
   (ao (bz (i := 3) nd rfl (by first | exact Or.inl rfl | exact Or.inr rfl) (gu iI iH (bq aC) (eX bw hr rfl (ag (ae (wpv 2)) (ag (bq aC) aD)))))
   (ao (bz (i := 4) nd rfl (by first | exact Or.inl rfl | exact Or.inr rfl) (jd (ag (ae (wpv 3)) (ag (gJ hu (je (ag (bq aC) (ag (bq aC) (ag (bq aC) (ag (bq aC) aD))))) (eX bw hr rfl (ag (ae (wpv 2)) (ag (bq aC) aD))) (fun _ _ => rfl) (fun _ _ => rfl)) aD))))
   (ao (bz (i := 5) nd rfl (by first | exact Or.inl rfl | exact Or.inr rfl) (eO eR mi rfl B.tuple OG.gO (ag (uY (Nc := ["box", "well", "world"]) (tn := ["box"]) (capN := ["well", "world"]) (caps := [2, 4]) rfl (dZ rfl B.range (ag (ae (wpv 3)) aD)) (fun _ _ _ => (cy (aT (i := 0) (show (["box", "well", "world"] : List Str).Nodup by decide +kernel) rfl (by first | exact Or.inl rfl | exact Or.inr rfl)))) (fun _ _ _ => (eX bw hr rfl (ag (ae (wpv 1)) (ag (gJ hu (ae (wpv 2)) (bq aC) (fun _ _ => rfl) (fun _ _ => rfl)) aD)))) rfl rfl (by decide +kernel) (by decide +kernel) ⟨rfl, rfl, trivial⟩ rfl (.cons ⟨rfl, rfl, rfl, _, rfl⟩ (.cons ⟨rfl, rfl, rfl, _, rfl⟩ .nil)) rfl rfl) aD)))
   (ao (bz (i := 6) nd rfl (by first | exact Or.inl rfl | exact Or.inr rfl) (gu iI iH (bq aC) (eX bw hr rfl (ag (ae (wpv 2)) (ag (di (lD rfl) zy rfl B.min OG.n9 (ag (bq aC) (ag (gu u6 zw (ae (wpv 3)) (bq aC)) aD))) aD)))))
   (ao (bz (i := 7) nd rfl (by first | exact Or.inl rfl | exact Or.inr rfl) (uW M_Keeper hr rfl (ag (ae (wpv 4)) (ag (ae (wpv 5)) aD))))
   (ao (bz (i := 8) nd rfl (by first | exact Or.inl rfl | exact Or.inr rfl) iF)
   (ao (iE PassesOwn.never rfl (dZ rfl B.range (ag (ae (wpv 6)) aD)) (cy (aT (i := 9) nd rfl (by first | exact Or.inl rfl | exact Or.inr rfl))) (aF (dh hu (ae (wpv 8)) (ae (wpv 9)) (jd (ag (d4 bo) (ag (sJ (Nc := ["box", "a", "many"]) (tn := ["box"]) (capN := ["a", "many"]) (caps := [9, 6]) rfl (dZ rfl B.range (ag (ae (wpv 3)) aD)) (fun _ _ _ => (cy (aT (i := 0) (show (["box", "a", "many"] : List Str).Nodup by decide +kernel) rfl (by first | exact Or.inl rfl | exact Or.inr rfl)))) (fun _ _ _ => (dB oA xR (gu kG qh (ae (wpv 0)) (ae (wpv 2))) (ae (wpv 1)) (bK _))) (fun _ _ _ => (ae (wpv 0))) rfl rfl (by decide +kernel) (by decide +kernel) ⟨rfl, rfl, trivial⟩ rfl (.cons ⟨rfl, rfl, rfl, _, rfl⟩ (.cons ⟨rfl, rfl, rfl, _, rfl⟩ .nil)) rfl rfl) (ag iF aD)))))))
   (ao (oz (Nc := ["a", "plan"]) (tn := ["a"]) (capN := ["plan"]) (caps := [8]) rfl (dZ rfl B.range (ag (ae (wpv 6)) aD)) (fun _ _ _ => (cy (aT (i := 0) (show (["a", "plan"] : List Str).Nodup by decide +kernel) rfl (by first | exact Or.inl rfl | exact Or.inr rfl)))) (fun _ _ _ => (gJ hu (gJ hu (ae (wpv 1)) (ae (wpv 0)) (fun _ _ => rfl) (fun _ _ => rfl)) (bq aC) (fun _ _ => rfl) (fun _ _ => rfl))) rfl rfl (by decide +kernel) (by decide +kernel) ⟨rfl, trivial⟩ rfl (.cons ⟨rfl, rfl, rfl, _, rfl⟩ .nil) rfl rfl nd rfl rfl rfl)
   (ao (iE PassesOwn.never rfl (dZ rfl B.range (ag (bq aC) aD)) (cy (aT (i := 11) nd rfl (by first | exact Or.inl rfl | exact Or.inr rfl))) (ao (bz (i := 12) nd rfl (by first | exact Or.inl rfl | exact Or.inr rfl) (eO (qq rfl) qi rfl B.list OG.gF (ag (ae (wpv 8)) aD)))
   (ao (dY (dB (qo hr.units) tm (ae (wpv 12)) (je aD) (bK _)) (aF sG) cE)
   (ao (bz (i := 9) nd rfl (by first | exact Or.inl rfl | exact Or.inr rfl) (gJ hu (ae (wpv 12)) (eX bw hr rfl (ag (ae (wpv 2)) (ag (di kH kE rfl B.len PySem.boot_len (ag (ae (wpv 12)) aD)) aD))) (fun _ _ => rfl) (fun _ _ => rfl)))
   (aF (dY (p7 (gY (eX gf hr rfl (ag (ae (wpv 2)) (ag (ae (wpv 4)) (ag (ae (wpv 5)) (ag (ae (wpv 7)) (ag (ae (wpv 8)) (ag (ae (wpv 9)) aD))))))))) (aF (br (rL fN))) cE))))))
   (ao (iE PassesOwn.never rfl (nq (eO (qq rfl) qi rfl B.list OG.gF (ag (ae (wpv 8)) aD))) (cy (aT (i := 9) nd rfl (by first | exact Or.inl rfl | exact Or.inr rfl))) (aF (dY (BK (BO (dB oA xR (gJ hu (gJ hu (ae (wpv 8)) (ae (wpv 9)) (fun _ _ => rfl) (fun _ _ => rfl)) (bq aC) (fun _ _ => rfl) (fun _ _ => rfl)) (d4 bo) (bK _)) (yY (p7 (gY (eX dz hr rfl (ag (ae (wpv 7)) (ag (ae (wpv 8)) (ag (ae (wpv 9)) aD))))))))) (aF (br (rL fN))) cE)))
   (ao (bz (i := 13) nd rfl (by first | exact Or.inl rfl | exact Or.inr rfl) (eO g7 u3 rfl B.list OG.gF (ag (ae (wpv 5)) aD)))
   (ao (iE PassesOwn.never rfl (nq (ae (wpv 10))) (cy (aT (i := 14) nd rfl (by first | exact Or.inl rfl | exact Or.inr rfl))) (aF (pZ PassesOwn.never rfl (ae (wpv 14)) (cy (aT (i := 15) nd rfl (by first | exact Or.inl rfl | exact Or.inr rfl))) (aF (dh hu (ae (wpv 13)) (ae (wpv 15)) (gJ hu (ae (wpv 14)) (ae (wpv 15)) (fun _ _ => rfl) (fun _ _ => rfl)))))))
   (aF (dY (dB (zD hr.units) tm (wC TKeeper.cl M_Keeper_now hr (TKeeper.nm (by decide +kernel)) (ae (wpv 7))) (eO eR mi rfl B.tuple OG.gO (ag (ae (wpv 13)) aD)) (bK _)) (aF (br (rL fN))) cE))))))))))))))))
   (aF (br (rL fN)))), tV hS (ok ns fe) q⟩
end
noncomputable abbrev fL (cK cA : Cl) (f : Fn → Fn → Fn → Fn → Fn → Fn → Cl → CS) : CS := f lM gG (mT cK cA) (gR cK cA) (lN cK) (iZ cK) cK
noncomputable abbrev rK (ns : List Int) (r1 : Option U) (lw n : Nat) (w1 : Int) (su : List U) (many : Int) (k0 p0 : Nat) (r9 : Option U) (w0 : Nat) (r11 r12 r13 r14 r15 : Option U) : Rho := [some (.kl ns), r1, some (.ref lw), some (.int n), some (.tup [.int n, .int w1]), some (.tup su), some (.int many), some (.ref k0), some (.ref p0), r9, some (.ref w0), r11, r12, r13, r14, r15]
section
variable {cK cA : Cl} {n : Nat} {many w1 : Int} {st : List Int} {lw k0 p0 w0 : Nat} {lbf lqf : Int → Nat} {t : Nat} {T : Sto} {pln : List (Key × U)} {ns : List Int} {r1 r9 r11 r12 r13 r14 r15 : Option U}
theorem pN (hns : cA.ns.length = 6) (R : RnE cK cA n many st lw k0 p0 w0 lbf lqf t T pln) (ht : t ≤ 800) (hn : n ≤ 6) (hs : st.length = n) (hw0 : 0 < w1) (hw1 : w1 ≤ 1000) (hm : many ≤ n) :
  ∃ T' r9' r12', (fL cK cA fA (rK ns r1 lw n w1 (st.map U.int) many k0 p0 r9 w0 r11 r12 r13 r14 r15) T = some (.bk, rK ns r1 lw n w1 (st.map U.int) many k0 p0 r9' w0 r11 r12' r13 r14 r15, T') ∧ RnE cK cA n many st lw k0 p0 w0 lbf lqf t T' pln) ∨
   (∃ pln', fL cK cA fA (rK ns r1 lw n w1 (st.map U.int) many k0 p0 r9 w0 r11 r12 r13 r14 r15) T = some (.nx, rK ns r1 lw n w1 (st.map U.int) many k0 p0 r9' w0 r11 r12' r13 r14 r15, T') ∧ RnE cK cA n many st lw k0 p0 w0 lbf lqf (t + 1) T' pln') := by
 obtain ⟨ks, ek, nd, mem, lks⟩ := R.keys
 obtain ⟨su, hsu⟩ : ∃ su, su = st.map U.int := ⟨_, rfl⟩
 obtain ⟨us, hus⟩ : ∃ us, us = ks.map U.int := ⟨_, rfl⟩
 rw [← hsu]
 have q := ua false (S := T ++ [.lst us, .lst []]) (l := T.length) (l' := T.length + 1) (ns := ks) (ms := []) (by rw [ga0, hus]; rfl) (by rw [ga]; rfl)
 rw [if_neg Bool.false_ne_true] at q
 rw [← hus] at ek
 have l1 : (T ++ [O.lst us]).length = T.length + 1 := by rw [List.length_append]; rfl
 have E1 : dc 12 (cCB fw (af (ah 8) aG)) (rK ns r1 lw n w1 su many k0 p0 r9 w0 r11 r12 r13 r14 r15) T = some (.nx, rK ns r1 lw n w1 su many k0 p0 r9 w0 r11 (some (.ref T.length)) r13 r14 r15, T ++ [.lst us]) := by
  rwa [rK, ek]
 by_cases e0 : ks = []
 ·refine ⟨T ++ [.lst us, .lst []], r9, some (.ref T.length), .inl ⟨?_, R.app _⟩⟩
  rw [decide_eq_true e0] at q
  unfold fL fA
  rw [eD E1]
  have bk : ∀ ρ S, Cu ρ S = some (.bk, ρ, S) := fun _ _ => rfl
  rwa [rK, l1, q, bk]
 ·rw [decide_eq_false e0] at q
  have E2 : gh (bI (cOp (kX false) (ah 12) (lF aG))) Cu dm (rK ns r1 lw n w1 su many k0 p0 r9 w0 r11 (some (.ref T.length)) r13 r14 r15) (T ++ [.lst us]) = some (.nx, rK ns r1 lw n w1 su many k0 p0 r9 w0 r11 (some (.ref T.length)) r13 r14 r15, T ++ [.lst us, .lst []]) := by
   rwa [rK, l1, q]
  have k1 : 0 < ks.length := List.length_pos_iff.mpr e0
  have R2 := R.app [.lst us, .lst []]
  have well : ∃ z, (T ++ [O.lst us, .lst []])[lw]? = some (.lst [.int z]) := by
   obtain ⟨pos, c, bx, mk, tk, evs, kn, pp, R2⟩ := R2
   obtain ⟨z, hz⟩ := R2.cw
   exact ⟨z, by rw [← hz]; exact R2.M.at_ _ _ R2.hw⟩
  obtain ⟨d, T1, e1, w1', _, d0, d1⟩ := gT (m := (ks.length : Int)) well (by omega) (by omega)
  have R3 := R2.wl w1'
  have hlw : lw < T.length := by
   obtain ⟨pos, c, bx, mk, tk, evs, kn, pp, R⟩ := R
   exact R.M.lt R.hw
  have g0 : (T ++ [O.lst us, .lst []])[T.length]? = some (.lst us) := by rw [ga0]; rfl
  have g1 : T1[T.length]? = some (.lst us) := w1'.get g0 (by omega)
  have hd : d.toNat < ks.length := by omega
  obtain ⟨a, ha⟩ : ∃ a, ks[d.toNat]? = some a := ⟨_, List.getElem?_eq_getElem hd⟩
  have ai : atI us d = some (.int a) := by
   have := fB (xs := us) (j := d.toNat) (v := .int a) (by rw [hus, List.getElem?_map, ha]; rfl)
   rw [show ((d.toNat : Nat) : Int) = d from by omega] at this
   exact this
  have lu : us.length = ks.length := by rw [hus, List.length_map]
  have E3 : dc 9 (cOp fIx (ah 12) (cCB gG (af (ah 2) (af (cCB kW (af (ah 12) aG)) aG)))) (rK ns r1 lw n w1 su many k0 p0 r9 w0 r11 (some (.ref T.length)) r13 r14 r15) (T ++ [.lst us, .lst []]) = some (.nx, rK ns r1 lw n w1 su many k0 p0 (some (.int a)) w0 r11 (some (.ref T.length)) r13 r14 r15, T1) := by
   rwa [rK, lu, e1, g1, ai]
  obtain ⟨T2, pln', e2, R4⟩ := t6 hns R3 ((mem a).mp (List.mem_of_getElem? ha)) ht hn hs hw0 hw1 hm
  rw [← hsu] at e2
  refine ⟨T2, some (.int a), some (.ref T.length), .inr ⟨pln', ?_, R4⟩⟩
  unfold fL fA
  rw [eD E1, eD E2, eD E3]
  rwa [rK, e2]
theorem kg (hns : cA.ns.length = 6) (hn : n ≤ 6) (hs : st.length = n) (hw0 : 0 < w1) (hw1 : w1 ≤ 1000) (hm : many ≤ n) : ∀ (us : List U) (t : Nat) (T : Sto) (pln : List (Key × U)) (r9 r11 r12 : Option U), RnE cK cA n many st lw k0 p0 w0 lbf lqf t T pln → t + us.length ≤ 800 →
  ∃ t' T' pln' r9' r11' r12', dr (fun _ => True) (gNm 11) (fL cK cA fA) us (rK ns r1 lw n w1 (st.map U.int) many k0 p0 r9 w0 r11 r12 r13 r14 r15) T = some (.nx, rK ns r1 lw n w1 (st.map U.int) many k0 p0 r9' w0 r11' r12' r13 r14 r15, T') ∧ RnE cK cA n many st lw k0 p0 w0 lbf lqf t' T' pln' ∧ t' ≤ t + us.length
 | [], t, T, pln, r9, r11, r12, R, _ => ⟨t, T, pln, r9, r11, r12, dN trivial, R, by simp⟩
 | u :: us, t, T, pln, r9, r11, r12, R, hl => by
  rw [List.length_cons] at hl
  obtain ⟨T1, s9, s12, h⟩ := pN (ns := ns) (r1 := r1) (r9 := r9) (r11 := some u) (r12 := r12) (r13 := r13) (r14 := r14) (r15 := r15) hns R (by omega) hn hs hw0 hw1 hm
  rcases h with ⟨e, R1⟩ | ⟨pln1, e, R1⟩
  ·exact ⟨t, T1, pln, s9, some u, s12, xi trivial rfl e, R1, by omega⟩
  ·obtain ⟨t', T', pln', q9, q11, q12, ih, R', ht⟩ := kg hns hn hs hw0 hw1 hm us (t + 1) T1 pln1 s9 (some u) s12 R1 (by omega)
   exact ⟨t', T', pln', q9, q11, q12, (eC trivial rfl e).trans ih, R', by rw [List.length_cons]; omega⟩
end
section
variable {cK cA : Cl} {n l : Nat} {many w1 : Int} {st ks : List Int} {lw k0 p0 w0 : Nat} {lbf lqf : Int → Nat} {t : Nat} {T : Sto} {ns : List Int} {su us : List U} {r1 r9 r11 r12 r13 r14 r15 : Option U}
theorem jT (hn : n ≤ 6) : ∀ (as : List Int) (t : Nat) (T : Sto) (pos : Sl → Option Nat) (c : Sl → O) (bx mk : List Int) (tk : Int) (evs : List U) (kn pln : List (Key × U)) (pp : Int → List (Int × Int)) (r9 : Option U), RnI cK cA n many st lw k0 p0 w0 lbf lqf t T pos c bx mk tk evs kn pln pp → pos (.lb (-2)) = some l → c (.lb (-2)) = .lst us → (∀ a ∈ as, (aK pln (.inl a)).isSome = true) → as.Nodup → (∀ a u, aK pln (.inl a) = some u → a ∉ as → u = jB lbf lqf a) → t + as.length ≤ 800 →
  ∃ t' T' pln' r9', dr (fun S => S[l]? = some (.lst us)) (gNm 9) (fL cK cA gP) (as.map U.int) (rK ns r1 lw n w1 su many k0 p0 r9 w0 r11 r12 r13 r14 r15) T = some (.nx, rK ns r1 lw n w1 su many k0 p0 r9' w0 r11 r12 r13 r14 r15, T') ∧ RnE cK cA n many st lw k0 p0 w0 lbf lqf t' T' pln' ∧ ∀ a u, aK pln' (.inl a) = some u → u = jB lbf lqf a
 | [], t, T, pos, c, bx, mk, tk, evs, kn, pln, pp, r9, R, hl, cl, _, _, off, _ => by
  have tl := R.M.at_ _ _ hl
  rw [cl] at tl
  exact ⟨t, T, pln, r9, dN tl, ⟨_, _, _, _, _, _, _, _, R⟩, fun a u hu => off a u hu (fun h => by cases h)⟩
 | a :: as, t, T, pos, c, bx, mk, tk, evs, kn, pln, pp, r9, R, hl, cl, hk, nd, off, ht => by
  rw [List.length_cons] at ht
  have tl := R.M.at_ _ _ hl
  rw [cl] at tl
  have tp := R.M.at_ _ _ R.hp
  rw [R.cp] at tp
  obtain ⟨u, hu⟩ := Option.isSome_iff_exists.mp (hk a List.mem_cons_self)
  obtain ⟨na, nd'⟩ := List.nodup_cons.mp nd
  rcases (R.pl a u hu).2.2 with ⟨y1, _, _⟩ | ⟨y1, _⟩
  ·-- it never began
   rw [y1] at hu
   obtain ⟨t', T', pln', q9, ih, R', off'⟩ := jT hn as t T pos c bx mk tk evs kn pln pp (some (.int a)) R hl cl (fun x hx => hk x (List.mem_cons_of_mem _ hx)) nd' (fun x v hv hx => by
    by_cases e : x = a
    ·subst e
     rw [hu] at hv; exact (Option.some.inj hv).symm
    ·exact off x v hv (fun h => (List.mem_cons.mp h).elim e hx)) (by omega)
   refine ⟨t', T', pln', q9, (eC tl rfl ?_).trans ih, R', off'⟩
   have zo : decide ((Str.ofString "off") = (Str.ofString "on")) = false := by decide +kernel
   unfold jB at hu
   unfold fL gP
   rwa [rK, tp, hu, zo]
  ·rw [y1] at hu
   obtain ⟨T1, pos1, c1, bx1, mk1, tk1, evs1, kn1, pp1, e1, R1, h1, h2⟩ := kZ R hu (by omega) hn
   obtain ⟨t', T', pln', q9, ih, R', off'⟩ := jT hn as (t + 1) T1 pos1 c1 bx1 mk1 tk1 evs1 kn1 _ pp1 (some (.int a)) R1 (h1.trans hl) (h2.trans cl) (fun x hx => by
    rw [hX (fun z => na (by rw [← Sum.inl.inj z]; exact hx))]
    exact hk x (List.mem_cons_of_mem _ hx)) nd' (fun x v hv hx => by
    by_cases e : x = a
    ·subst e
     rw [iC] at hv; cases hv
    ·rw [hX (fun z => e (Sum.inl.inj z))] at hv
     exact off x v hv (fun h => (List.mem_cons.mp h).elim e hx)) (by omega)
   refine ⟨t', T', pln', q9, (eC tl rfl ?_).trans ih, R', off'⟩
   unfold onU at hu
   unfold fL gP
   rwa [rK, tp, hu, e1]
theorem xy (hn : n ≤ 6) {pln : List (Key × U)} (R : RnE cK cA n many st lw k0 p0 w0 lbf lqf t T pln) (hm : many ≤ n) (ht : t ≤ 700) :
  ∃ t' T' pln' r9', iq (iTp (cCB fw (af (ah 8) aG))) (gNm 9) (fL cK cA gP) (rK ns r1 lw n w1 su many k0 p0 r9 w0 r11 r12 r13 r14 r15) T = some (.nx, rK ns r1 lw n w1 su many k0 p0 r9' w0 r11 r12 r13 r14 r15, T') ∧ RnE cK cA n many st lw k0 p0 w0 lbf lqf t' T' pln' ∧ ∀ a u, aK pln' (.inl a) = some u → u = jB lbf lqf a := by
 obtain ⟨ks, ek, nd, mem, lks⟩ := R.keys
 obtain ⟨pos, c, bx, mk, tk, evs, kn, pp, R⟩ := R
 have M1 := R.M.new (.lb (-2)) (.lst (ks.map U.int)) []
 have R1 := R.to M1 fun s hs => ⟨aI hs, aa hs⟩
 have g0 : (T ++ [O.lst (ks.map U.int)])[T.length]? = some (.lst (ks.map U.int)) := by rw [ga0]; rfl
 obtain ⟨t', T', pln', q9, e, R', off⟩ := jT (ns := ns) (r1 := r1) (w1 := w1) (su := su) (r11 := r11) (r12 := r12) (r13 := r13) (r14 := r14) (r15 := r15) (l := T.length) (us := ks.map U.int) hn ks t _ _ _ _ _ _ _ _ _ _ r9 R1 eB ax (fun a ha => (mem a).mp ha) nd (fun a u hu ha => absurd ((mem a).mpr (by rw [hu]; rfl)) ha) (by omega)
 refine ⟨t', T', pln', q9, ?_, R', off⟩
 have hc : cCB fw (af (ah 8) aG) (rK ns r1 lw n w1 su many k0 p0 r9 w0 r11 r12 r13 r14 r15) T = some (.ref T.length, T ++ [.lst (ks.map U.int)]) := ek
 unfold iq iTp
 rw [hc, Option.bind_some]
 simp only [g0, Option.bind_some]
 exact e
end
section
variable {cK cA : Cl} {n lq : Nat} {many w1 : Int} {st ks : List Int} {lw k0 p0 w0 : Nat} {lbf lqf : Int → Nat} {t : Nat} {T S : Sto} {ns : List Int} {su us : List U} {r1 r9 r11 r12 r13 r14 r15 : Option U} {pa : List (Int × Int)} {pln : List (Key × U)}
theorem n8 {ep : Nat} (hS : S[lq]? = some (.fdc ep (bH pa))) : ∀ (bs ds : List Int) (r15 : Option U), (∀ b : Int, b ∈ bs → b ∈ pa.map (·.1) ∧ 0 ≤ b ∧ b < n) → ds.length = n →
  dr (fun S' => S'[lq]? = some (.fdc ep (bH pa))) (gNm 15) (fL cK cA mR) (bs.map U.int) (rK ns r1 lw n w1 su many k0 p0 r9 w0 r11 r12 (some (.ref S.length)) (some (.ref lq)) r15) (S ++ [.lst (ds.map U.int)]) = some (.nx, rK ns r1 lw n w1 su many k0 p0 r9 w0 r11 r12 (some (.ref S.length)) (some (.ref lq)) (oH bs r15), S ++ [.lst ((lV pa ds bs).map U.int)])
 | [], ds, r15, _, _ => dN (aJ hS)
 | b :: bs, ds, r15, hb, hl => by
  obtain ⟨b1, b2, b3⟩ := hb b List.mem_cons_self
  have ih := n8 hS bs (ds.set b.toNat (lO pa b)) (some (.int b)) (fun x hx => hb x (List.mem_cons_of_mem _ hx)) (by rw [List.length_set]; exact hl)
  refine (eC (aJ hS) rfl ?_).trans ih
  have hv : aK (bH pa) (.inl b) = some (.int (lO pa b)) := by
   obtain ⟨v, hv⟩ := Option.isSome_iff_exists.mp (h7 b1)
   unfold lO
   rw [fC, hv]; rfl
  have g1 : (S ++ [O.lst (ds.map U.int)])[lq]? = some (.fdc ep (bH pa)) := aJ hS
  have ix : ixN (ds.map U.int).length b = some b.toNat := qI (v := 0) b2 (by omega)
  have es : (ds.map U.int).set b.toNat (.int (lO pa b)) = (ds.set b.toNat (lO pa b)).map U.int := List.map_set.symm
  obtain ⟨du, hdu⟩ : ∃ du, du = ds.map U.int := ⟨_, rfl⟩
  rw [← hdu] at g1 ix es ⊢
  unfold fL mR
  rwa [rK, g1, Bb, hv, ix, es]
theorem qW {ds : List Int} (hT : T[lq]? = some (.dic (bH pa))) (hb : ∀ b : Int, b ∈ pa.map (·.1) → 0 ≤ b ∧ b < n) (hl : ds.length = n) :
  fL cK cA gb (rK ns r1 lw n w1 su many k0 p0 r9 w0 r11 r12 (some (.ref T.length)) (some (.ref lq)) r15) (T ++ [.lst (ds.map U.int)]) = some (.nx, rK ns r1 lw n w1 su many k0 p0 r9 w0 r11 r12 (some (.ref T.length)) (some (.ref lq)) (oH (pa.map (·.1)) r15), T ++ [.lst ((lV pa ds (pa.map (·.1))).map U.int)]) := by
 have lq0 : lq < T.length := (List.getElem?_eq_some_iff.mp hT).1
 have ek : (bH pa).map (fun q => kU q.1) = (pa.map (·.1)).map U.int := by unfold bH; rw [List.map_map, List.map_map]; rfl
 have g0 : (T ++ [O.lst (ds.map U.int)])[lq]? = some (.dic (bH pa)) := aJ hT
 have hv : ah 14 (rK ns r1 lw n w1 su many k0 p0 r9 w0 r11 r12 (some (.ref T.length)) (some (.ref lq)) r15) (T ++ [.lst (ds.map U.int)]) = some (.ref lq, T ++ [.lst (ds.map U.int)]) := rfl
 unfold fL gb mO
 rw [hv, Option.bind_some]
 simp only [g0]
 refine m9 fun ep => ?_
 have key := n8 (cK := cK) (cA := cA) (ns := ns) (r1 := r1) (lw := lw) (n := n) (w1 := w1) (su := su) (many := many) (k0 := k0) (p0 := p0) (r9 := r9) (w0 := w0) (r11 := r11) (r12 := r12) (S := T.set lq (.fdc ep (bH pa))) (lq := lq) (ep := ep) (pa := pa) (by rw [List.getElem?_set, if_pos rfl, if_pos lq0]) (pa.map (·.1)) ds r15 (fun b h => ⟨h, hb b h⟩) hl
 rw [List.length_set] at key
 rw [ek, List.set_append_left _ _ lq0]
 unfold fL at key
 rw [key, Option.bind_some]
 have e1 : (T.set lq (.fdc ep (bH pa)) ++ [O.lst ((lV pa ds (pa.map (·.1))).map U.int)])[lq]? = some (.fdc ep (bH pa)) := aJ (by rw [List.getElem?_set, if_pos rfl, if_pos lq0])
 have e2 : (T.set lq (.fdc ep (bH pa)) ++ [O.lst ((lV pa ds (pa.map (·.1))).map U.int)]).set lq (.dic (bH pa)) = T ++ [.lst ((lV pa ds (pa.map (·.1))).map U.int)] := by
  rw [List.set_append_left _ _ (by rw [List.length_set]; exact lq0), jK hT]
 simp only [e1, e2]
theorem nW {pp : Int → List (Int × Int)} (hw : T[w0]? = some (.lst us)) (hq : ∀ a : Int, 0 ≤ a → a < many → T[lqf a]? = some (.dic (bH (pp a))) ∧ ∀ b : Int, b ∈ (pp a).map (·.1) → 0 ≤ b ∧ b < n ∧ b % many = a) :
  ∀ (is : List Nat) (ds : List Int) (r14 r15 : Option U), (∀ i ∈ is, (i : Int) < many) → ds.length = n →
  ∃ (ds' : List Int) (r14' r15' : Option U), dr (fun S' => S'[w0]? = some (.lst us)) (gNm 14) (fL cK cA gb) (is.map fun i : Nat => .ref (lqf (i : Int))) (rK ns r1 lw n w1 su many k0 p0 r9 w0 r11 r12 (some (.ref T.length)) r14 r15) (T ++ [.lst (ds.map U.int)]) = some (.nx, rK ns r1 lw n w1 su many k0 p0 r9 w0 r11 r12 (some (.ref T.length)) r14' r15', T ++ [.lst (ds'.map U.int)]) ∧ ds'.length = n ∧
   ∀ b : Int, 0 ≤ b → b < n → ds'.getD b.toNat 0 = if (b % many).toNat ∈ is then (aK (pp (b % many)) b).getD (ds.getD b.toNat 0) else ds.getD b.toNat 0
 | [], ds, r14, r15, _, hl => ⟨ds, r14, r15, dN (aJ hw), hl, fun b _ _ => by rw [if_neg (by simp)]⟩
 | i :: is, ds, r14, r15, hi, hl => by
  have i1 := hi i List.mem_cons_self
  obtain ⟨h1, h2⟩ := hq i (by omega) i1
  have e := qW (cK := cK) (cA := cA) (ns := ns) (r1 := r1) (lw := lw) (n := n) (w1 := w1) (su := su) (many := many) (k0 := k0) (p0 := p0) (r9 := r9) (w0 := w0) (r11 := r11) (r12 := r12) (r15 := r15) h1 (fun b hb => ⟨(h2 b hb).1, (h2 b hb).2.1⟩) hl
  obtain ⟨ds', q14, q15, ih, l', g'⟩ := nW hw hq is (lV (pp i) ds ((pp i).map (·.1))) (some (.ref (lqf i))) (oH ((pp i).map (·.1)) r15) (fun x hx => hi x (List.mem_cons_of_mem _ hx)) (by rw [jI]; exact hl)
  refine ⟨ds', q14, q15, (eC (aJ hw) rfl e).trans ih, l', fun b b0 b1 => ?_⟩
  have m0 : (0 : Int) ≤ b % many := Int.emod_nonneg _ (by omega)
  have step : (lV (pp i) ds ((pp i).map (·.1))).getD b.toNat 0 = if (b % many).toNat = i then (aK (pp (b % many)) b).getD (ds.getD b.toNat 0) else ds.getD b.toNat 0 := by
   rw [hR _ ds b b0 (by omega) (fun u hu => (h2 u hu).1)]
   by_cases e1 : b ∈ (pp i).map (·.1)
   ·have e2 := (h2 b e1).2.2
    rw [if_pos e1, if_pos (by omega), e2]
    obtain ⟨v, hv⟩ := Option.isSome_iff_exists.mp (h7 e1)
    unfold lO
    rw [hv]; rfl
   ·rw [if_neg e1]
    split
    ·rename_i e2
     rw [show b % many = (i : Int) from by omega, dU.mpr e1]; rfl
    ·rfl
  rw [g' b b0 b1, step]
  by_cases c1 : (b % many).toNat = i
  ·rw [if_pos c1, if_pos (List.mem_cons.mpr (.inl c1))]
   split
   ·cases aK (pp (b % many)) b <;> rfl
   ·rfl
  ·rw [if_neg c1]
   by_cases c2 : (b % many).toNat ∈ is
   ·rw [if_pos c2, if_pos (List.mem_cons_of_mem _ c2)]
   ·rw [if_neg c2, if_neg (fun h => (List.mem_cons.mp h).elim c1 c2)]
theorem zJ {bx mk : List Int} {tk : Int} {evs : List U} {kn : List (Key × U)} {pos : Sl → Option Nat} {c : Sl → O} (M : Mem pos c T) (K : KpI cK pos c bx mk tk evs kn) (h0 : pos .kk = some k0) : lN cK [.ref k0] T = some (.tup (bx.map U.int), T) := by
 obtain ⟨k0', k1, k2, k3, k4, k5, q0, q1, q2, q3, q4, q5, qk⟩ := K.kk
 rw [h0] at q0; cases q0
 have t0 := M.at_ _ _ h0
 have t1 := M.at_ _ _ q1
 rw [qk] at t0
 rw [K.kb] at t1
 unfold lN
 rw [lj]
 rwa [dF, t0, t1]
theorem xB (R : RnE cK cA n many st lw k0 p0 w0 lbf lqf t T pln) (off : ∀ a u, aK pln (.inl a) = some u → u = jB lbf lqf a) (hs : st.length = n) (hm : 0 < many) (hm2 : many ≤ n) :
  ∃ T' r13' r14' r15', aV (dc 13 (cCB jW (af (ah 5) aG))) (aV (iq (iTp (ah 10)) (gNm 14) (fL cK cA gb)) (gh (bI (cOp (kX true) (cD cK (lN cK) (ah 7) aG) (cCB eY (af (ah 13) aG)))) (eU (cC (.bl false))) dm)) (rK ns r1 lw n w1 (st.map U.int) many k0 p0 r9 w0 r11 r12 r13 r14 r15) T = some (.nx, rK ns r1 lw n w1 (st.map U.int) many k0 p0 r9 w0 r11 r12 r13' r14' r15', T') := by
 obtain ⟨pos, c, bx, mk, tk, evs, kn, pp, R⟩ := R
 have tw := R.M.at_ _ _ R.hwh
 rw [R.cwh] at tw
 obtain ⟨us, hus⟩ : ∃ us, us = (List.range many.toNat).map fun (i : Nat) => U.ref (lqf (i : Int)) := ⟨_, rfl⟩
 have tw' := tw
 rw [← hus] at tw'
 obtain ⟨ds, q14, q15, e, ld, gd⟩ := nW (cK := cK) (cA := cA) (ns := ns) (r1 := r1) (lw := lw) (n := n) (w1 := w1) (su := st.map U.int) (many := many) (k0 := k0) (p0 := p0) (r9 := r9) (w0 := w0) (r11 := r11) (r12 := r12) (lqf := lqf) (pp := pp) tw' (fun a a0 a1 => by
  obtain ⟨o1, o2, o3, o4, o5, o6⟩ := R.own a a0 a1
  exact ⟨by rw [← o4]; exact R.M.at_ _ _ o3, o6⟩) (List.range many.toNat) st r14 r15 (fun i hi => by have := List.mem_range.mp hi; omega) hs
 rw [← hus] at e
 have same : bx = ds := by
  refine List.ext_getElem (by rw [R.lb, ld]) fun i h1 h2 => ?_
  have hi : i < n := by rw [← R.lb]; exact h1
  have g1 := R.due (b := (i : Int)) off (by omega) (by omega)
  have g2 := gd (i : Int) (by omega) (by omega)
  have mo : (i : Int) % many < many := Int.emod_lt_of_pos _ hm
  have m0 : (0 : Int) ≤ (i : Int) % many := Int.emod_nonneg _ (by omega)
  rw [if_pos (List.mem_range.mpr (by omega)), ← g1, Int.toNat_natCast, List.getD_eq_getElem?_getD, List.getD_eq_getElem?_getD, List.getElem?_eq_getElem h1, List.getElem?_eq_getElem h2] at g2
  exact g2.symm
 have M2 := R.M.app [.lst (ds.map U.int)]
 have kn := zJ M2 R.K R.h0
 rw [same] at kn
 have t0 := M2.at_ _ _ R.h0
 obtain ⟨k0', k1, k2, k3, k4, k5, q0, q1, q2, q3, q4, q5, qk⟩ := R.K.kk
 rw [qk] at t0
 have td : (T ++ [O.lst (ds.map U.int)])[T.length]? = some (.lst (ds.map U.int)) := by rw [ga0]; rfl
 have eq : kX true (.tup (ds.map U.int)) (.tup (ds.map U.int)) (T ++ [O.lst (ds.map U.int)]) = some (.bl false, T ++ [O.lst (ds.map U.int)]) := by
  refine fg.ne (k := 1) (fg.refl (Lay.tup (k := 0) fun u hu => ?_)) (by omega)
  obtain ⟨z, _, rfl⟩ := List.mem_map.mp hu
  exact .int
 obtain ⟨du, hdu⟩ : ∃ du, du = ds.map U.int := ⟨_, rfl⟩
 obtain ⟨su, hsu⟩ : ∃ su, su = st.map U.int := ⟨_, rfl⟩
 rw [← hdu] at kn td eq t0 e
 rw [← hsu] at e
 rw [← hsu]
 refine ⟨T ++ [.lst du], some (.ref T.length), q14, q15, ?_⟩
 rw [eD (ρ' := rK ns r1 lw n w1 su many k0 p0 r9 w0 r11 r12 (some (.ref T.length)) r14 r15) (S' := T ++ [.lst su]) (by rwa [rK])]
 have hf : iq (iTp (ah 10)) (gNm 14) (fL cK cA gb) (rK ns r1 lw n w1 su many k0 p0 r9 w0 r11 r12 (some (.ref T.length)) r14 r15) (T ++ [.lst su]) = some (.nx, rK ns r1 lw n w1 su many k0 p0 r9 w0 r11 r12 (some (.ref T.length)) q14 q15, T ++ [.lst du]) := by
  have hv : ah 10 (rK ns r1 lw n w1 su many k0 p0 r9 w0 r11 r12 (some (.ref T.length)) r14 r15) (T ++ [.lst su]) = some (.ref w0, T ++ [.lst su]) := rfl
  have gw : (T ++ [O.lst su])[w0]? = some (.lst us) := aJ tw'
  unfold iq iTp
  rw [hv, Option.bind_some]
  simp only [gw, Option.bind_some]
  exact e
 rw [eD hf]
 rwa [rK, t0, kn, td, eq]
end
section
variable {cK cA : Cl} {ns : List Int} {T : Sto}
theorem wz (m : Nat) : cg 0 m = (List.range' 0 m).map fun j : Nat => U.int (j : Int) := by
 rw [fu, List.map_map, List.range_eq_range']; rfl
theorem DH {d : Int} (d0 : 0 ≤ d) (d1 : d < 4) : ∃ v : Int, atI [U.int 2, .int 3, .int 7, .int 1000] d = some (.int v) ∧ 0 < v ∧ v ≤ 1000 := by
 have : d = 0 ∨ d = 1 ∨ d = 2 ∨ d = 3 := by omega
 rcases this with rfl | rfl | rfl | rfl
 ·exact ⟨2, rfl, by decide, by decide⟩
 ·exact ⟨3, rfl, by decide, by decide⟩
 ·exact ⟨7, rfl, by decide, by decide⟩
 ·exact ⟨1000, rfl, by decide, by decide⟩
theorem zQ (hK : cK.ns.length = 6) (hA : cA.ns.length = 6) (i : Nat) (r2 r3 r4 r5 r6 r7 r8 r9 r10 r11 r12 r13 r14 r15 : Option U) :
  ∃ (T' : Sto) (q2 q3 q4 q5 q6 q7 q8 q9 q10 q11 q12 q13 q14 q15 : Option U), fL cK cA j4 [some (.kl ns), some (.int (i : Int)), r2, r3, r4, r5, r6, r7, r8, r9, r10, r11, r12, r13, r14, r15] T = some (.nx, [some (.kl ns), some (.int (i : Int)), q2, q3, q4, q5, q6, q7, q8, q9, q10, q11, q12, q13, q14, q15], T') := by
 obtain ⟨z, e1⟩ := wj (S := T) ns (k := (i : Int)) (by omega)
 obtain ⟨d2, T2, e2, w2, l2, d20, d21⟩ := gT (T := T ++ [.lst [.int z]]) (lw := T.length) (m := 5) ⟨z, by rw [ga0]; rfl⟩ (by omega) (by omega)
 obtain ⟨n, hn⟩ : ∃ n : Nat, (n : Int) = 2 + d2 := ⟨(2 + d2).toNat, by omega⟩
 have hl2 : T.length < T2.length := by rw [l2, List.length_append]; simp
 obtain ⟨d3, T3, e3, w3, l3, d30, d31⟩ := gT (T := T2 ++ [.lst [.int 2, .int 3, .int 7, .int 1000]]) (lw := T.length) (m := 4) (by obtain ⟨z, h⟩ := w2.well; exact ⟨z, aJ h⟩) (by omega) (by omega)
 have g3 : T3[T2.length]? = some (.lst [.int 2, .int 3, .int 7, .int 1000]) := w3.get (by rw [ga0]; rfl) (by omega)
 obtain ⟨w1, a3, hw0, hw1⟩ := DH d30 d31
 obtain ⟨st, T4, e4, g4, ls, wl4⟩ := wx (ρ := [some (.kl ns), some (.int (i : Int)), some (.ref T.length), some (.int n), some (.tup [.int n, .int w1]), r5, r6, r7, r8, r9, r10, r11, r12, r13, r14, r15]) (n := n) (lw := T.length) (x := .int n) (w := w1) rfl rfl rfl hw0 hw1 (by omega) w3.well
 obtain ⟨mm, hmm⟩ : ∃ mm : Int, mm = if (n : Int) - 1 < 3 then (n : Int) - 1 else 3 := ⟨_, rfl⟩
 have mm0 : 0 < mm ∧ mm ≤ 3 ∧ mm ≤ n - 1 := by rw [hmm]; split <;> omega
 have hmin : vj [.int 3, .int ((n : Int) - 1)] T4 = some (.int mm, T4) := by rw [hmm]; rfl
 obtain ⟨d5, T5, e5, w5, l5, d50, d51⟩ := gT (m := mm) wl4 (by omega) (by omega)
 obtain ⟨m, hm⟩ : ∃ m : Nat, (m : Int) = 2 + d5 := ⟨(2 + d5).toNat, by omega⟩
 obtain ⟨su, hsu⟩ : ∃ su, su = st.map U.int := ⟨_, rfl⟩
 have e6 := tN (T := T5) (cK := cK) (st := st) (x := .tup [.int n, .int w1]) hK (by omega)
 obtain ⟨z5, h5⟩ := w5.well
 have P0 := sP (cK := cK) (st := st) (n := n) (many := (m : Int)) h5
 obtain ⟨T7, pos7, c7, q9, e7, P7⟩ := kC (r0 := some (.kl ns)) (r1 := some (.int (i : Int))) (r2 := some (.ref T.length)) (r4 := some (.tup [.int n, .int w1])) (r5 := some (.tup (st.map U.int))) (r7 := some (.ref T5.length)) (r10 := r10) (r11 := r11) (r12 := r12) (r13 := r13) (r14 := r14) (r15 := r15) (by omega) (by omega) m 0 _ _ _ r9 (by omega) P0
 rw [Nat.zero_add] at P7
 have tp := P7.M.at_ _ _ P7.hp
 rw [P7.cp] at tp
 have e8 := uL (ρ := rK ns (some (.int (i : Int))) T.length n w1 (st.map U.int) m T5.length (T5.length + 7) q9 0 r11 r12 r13 r14 r15) (m := m) rfl rfl tp (by omega)
 have R := sD (cK := cK) (cA := cA) (many := (m : Int)) (n := n) (st := st) (lw := T.length) (N := T5.length) (z := z5) (by omega) ls (by rw [Int.toNat_natCast]; exact P7)
 rw [Int.toNat_natCast] at R
 obtain ⟨t9, T9, pln9, s9, s11, s12, e9, R9, ht9⟩ := kg (ns := ns) (r1 := some (.int (i : Int))) (w1 := w1) (r13 := r13) (r14 := r14) (r15 := r15) hA (by omega) ls hw0 hw1 (by omega) (cg 0 ((80 : Int)).toNat) 0 _ _ q9 r11 r12 R (by simp [cg])
 have ht : t9 ≤ 80 := by
  have : (cg 0 ((80 : Int)).toNat).length = 80 := by simp [cg]
  omega
 obtain ⟨t10, T10, pln10, u9, e10, R10, off⟩ := xy (ns := ns) (r1 := some (.int (i : Int))) (w1 := w1) (su := st.map U.int) (r9 := s9) (r11 := s11) (r12 := s12) (r13 := r13) (r14 := r14) (r15 := r15) (by omega) R9 (by omega) (by omega)
 obtain ⟨T11, v13, v14, v15, e11⟩ := xB (ns := ns) (r1 := some (.int (i : Int))) (w1 := w1) (r9 := u9) (r11 := s11) (r12 := s12) (r13 := r13) (r14 := r14) (r15 := r15) R10 off ls (by omega) (by omega)
 refine ⟨T11, some (.ref T.length), some (.int n), some (.tup [.int n, .int w1]), some (.tup (st.map U.int)), some (.int m), some (.ref T5.length), some (.ref (T5.length + 7)), u9, some (.ref T7.length), s11, s12, v13, v14, v15, ?_⟩
 have f8 : af (ah 6) aG [some (.kl ns), some (.int (i : Int)), some (.ref T.length), some (.int n), some (.tup [.int n, .int w1]), some (.tup (st.map U.int)), some (.int m), some (.ref T5.length), some (.ref (T5.length + 7)), r9, r10, r11, r12, r13, r14, r15] (T5 ++ gM cK T5.length st ++ [.dic []]) = some ([.int m], T5 ++ gM cK T5.length st ++ [.dic []]) := rfl
 have E8 := (Cp (g := gNm 9) (b := plB) f8 (by omega) (by omega)).trans ((by rw [Int.toNat_natCast, wz] : dr (fun _ => True) (gNm 9) plB (cg 0 ((m : Int)).toNat) [some (.kl ns), some (.int (i : Int)), some (.ref T.length), some (.int n), some (.tup [.int n, .int w1]), some (.tup (st.map U.int)), some (.int m), some (.ref T5.length), some (.ref (T5.length + 7)), r9, r10, r11, r12, r13, r14, r15] (T5 ++ gM cK T5.length st ++ [.dic []]) = _).trans e7)
 have E1 : dc 2 (cCB lM (af (ah 0) (af (ah 1) aG))) [some (.kl ns), some (.int (i : Int)), r2, r3, r4, r5, r6, r7, r8, r9, r10, r11, r12, r13, r14, r15] T = some (.nx, [some (.kl ns), some (.int (i : Int)), some (.ref T.length), r3, r4, r5, r6, r7, r8, r9, r10, r11, r12, r13, r14, r15], T ++ [.lst [.int z]]) := by
  rwa [e1]
 have E2 : dc 3 (cOp jb (cC (.int 2)) (cCB gG (af (ah 2) (af (cC (.int 5)) aG)))) [some (.kl ns), some (.int (i : Int)), some (.ref T.length), r3, r4, r5, r6, r7, r8, r9, r10, r11, r12, r13, r14, r15] (T ++ [.lst [.int z]]) = some (.nx, [some (.kl ns), some (.int (i : Int)), some (.ref T.length), some (.int n), r4, r5, r6, r7, r8, r9, r10, r11, r12, r13, r14, r15], T2) := by
  rwa [e2, hn]
 have E3 : dc 4 (mN (af (ah 3) (af (cOp fIx (lF (af (cC (.int 2)) (af (cC (.int 3)) (af (cC (.int 7)) (af (cC (.int 1000)) aG))))) (cCB gG (af (ah 2) (af (cC (.int 4)) aG)))) aG))) [some (.kl ns), some (.int (i : Int)), some (.ref T.length), some (.int n), r4, r5, r6, r7, r8, r9, r10, r11, r12, r13, r14, r15] T2 = some (.nx, [some (.kl ns), some (.int (i : Int)), some (.ref T.length), some (.int n), some (.tup [.int n, .int w1]), r5, r6, r7, r8, r9, r10, r11, r12, r13, r14, r15], T3) := by
  rwa [e3, g3, a3]
 have E4 : dc 5 (cCB eY (af stE aG)) [some (.kl ns), some (.int (i : Int)), some (.ref T.length), some (.int n), some (.tup [.int n, .int w1]), r5, r6, r7, r8, r9, r10, r11, r12, r13, r14, r15] T3 = some (.nx, [some (.kl ns), some (.int (i : Int)), some (.ref T.length), some (.int n), some (.tup [.int n, .int w1]), some (.tup (st.map U.int)), r6, r7, r8, r9, r10, r11, r12, r13, r14, r15], T4) := by
  rw [← hsu] at g4 ⊢
  rwa [e4, g4]
 have E5 : dc 6 (cOp jb (cC (.int 2)) (cCB gG (af (ah 2) (af (cCB vj (af (cC (.int 3)) (af (cOp xS (ah 3) (cC (.int 1))) aG))) aG)))) [some (.kl ns), some (.int (i : Int)), some (.ref T.length), some (.int n), some (.tup [.int n, .int w1]), some (.tup (st.map U.int)), r6, r7, r8, r9, r10, r11, r12, r13, r14, r15] T4 = some (.nx, [some (.kl ns), some (.int (i : Int)), some (.ref T.length), some (.int n), some (.tup [.int n, .int w1]), some (.tup (st.map U.int)), some (.int m), r7, r8, r9, r10, r11, r12, r13, r14, r15], T5) := by
  rw [← hsu]
  rwa [hmin, e5, hm]
 have E6 : dc 7 (cCB (jo cK (iZ cK)) (af (ah 4) (af (ah 5) aG))) [some (.kl ns), some (.int (i : Int)), some (.ref T.length), some (.int n), some (.tup [.int n, .int w1]), some (.tup (st.map U.int)), some (.int m), r7, r8, r9, r10, r11, r12, r13, r14, r15] T5 = some (.nx, [some (.kl ns), some (.int (i : Int)), some (.ref T.length), some (.int n), some (.tup [.int n, .int w1]), some (.tup (st.map U.int)), some (.int m), some (.ref T5.length), r8, r9, r10, r11, r12, r13, r14, r15], T5 ++ gM cK T5.length st) := by
  rw [← hsu] at e6 ⊢
  rwa [e6]
 have l7 : (T5 ++ gM cK T5.length st).length = T5.length + 7 := by rw [List.length_append, nK]
 have E7 : dc 8 hJ [some (.kl ns), some (.int (i : Int)), some (.ref T.length), some (.int n), some (.tup [.int n, .int w1]), some (.tup (st.map U.int)), some (.int m), some (.ref T5.length), r8, r9, r10, r11, r12, r13, r14, r15] (T5 ++ gM cK T5.length st) = some (.nx, [some (.kl ns), some (.int (i : Int)), some (.ref T.length), some (.int n), some (.tup [.int n, .int w1]), some (.tup (st.map U.int)), some (.int m), some (.ref T5.length), some (.ref (T5.length + 7)), r9, r10, r11, r12, r13, r14, r15], T5 ++ gM cK T5.length st ++ [.dic []]) := by
  rw [oZ, pf, Option.bind_some, j8, l7]; rfl
 have e8' : whE [some (.kl ns), some (.int (i : Int)), some (.ref T.length), some (.int n), some (.tup [.int n, .int w1]), some (.tup (st.map U.int)), some (.int m), some (.ref T5.length), some (.ref (T5.length + 7)), q9, r10, r11, r12, r13, r14, r15] T7 = _ := uL (m := m) rfl rfl tp (by omega)
 have E9 : dc 10 whE [some (.kl ns), some (.int (i : Int)), some (.ref T.length), some (.int n), some (.tup [.int n, .int w1]), some (.tup (st.map U.int)), some (.int m), some (.ref T5.length), some (.ref (T5.length + 7)), q9, r10, r11, r12, r13, r14, r15] T7 = some (.nx, rK ns (some (.int (i : Int))) T.length n w1 (st.map U.int) m T5.length (T5.length + 7) q9 T7.length r11 r12 r13 r14 r15, T7 ++ [.lst ((List.range m).map fun (i : Nat) => .ref (lqF (T5.length + 8) (i : Int)))]) := by
  rw [oZ, e8', Option.bind_some, j8]; rfl
 have f10 : af (cC (.int 80)) aG (rK ns (some (.int (i : Int))) T.length n w1 (st.map U.int) m T5.length (T5.length + 7) q9 T7.length r11 r12 r13 r14 r15) (T7 ++ [.lst ((List.range m).map fun (i : Nat) => .ref (lqF (T5.length + 8) (i : Int)))]) = some ([.int 80], T7 ++ [.lst ((List.range m).map fun (i : Nat) => .ref (lqF (T5.length + 8) (i : Int)))]) := rfl
 have E10 := (Cp (g := gNm 11) (b := fL cK cA fA) f10 (by omega) (by omega)).trans e9
 have key : fL cK cA j4 = aV (dc 2 (cCB lM (af (ah 0) (af (ah 1) aG)))) (aV (dc 3 (cOp jb (cC (.int 2)) (cCB gG (af (ah 2) (af (cC (.int 5)) aG))))) (aV (dc 4 (mN (af (ah 3) (af (cOp fIx (lF (af (cC (.int 2)) (af (cC (.int 3)) (af (cC (.int 7)) (af (cC (.int 1000)) aG))))) (cCB gG (af (ah 2) (af (cC (.int 4)) aG)))) aG)))) (aV (dc 5 (cCB eY (af stE aG))) (aV (dc 6 (cOp jb (cC (.int 2)) (cCB gG (af (ah 2) (af (cCB vj (af (cC (.int 3)) (af (cOp xS (ah 3) (cC (.int 1))) aG))) aG))))) (aV (dc 7 (cCB (jo cK (iZ cK)) (af (ah 4) (af (ah 5) aG)))) (aV (dc 8 hJ) (aV (iq (bC (af (ah 6) aG)) (gNm 9) plB) (aV (dc 10 whE) (aV (iq (bC (af (cC (.int 80)) aG)) (gNm 11) (fL cK cA fA)) (aV (iq (iTp (cCB fw (af (ah 8) aG))) (gNm 9) (fL cK cA gP)) (aV (dc 13 (cCB jW (af (ah 5) aG))) (aV (iq (iTp (ah 10)) (gNm 14) (fL cK cA gb)) (gh (bI (cOp (kX true) (cD cK (lN cK) (ah 7) aG) (cCB eY (af (ah 13) aG)))) (eU (cC (.bl false))) dm))))))))))))) := rfl
 rw [key, eD E1, eD E2, eD E3, eD E4, eD E5, eD E6, eD E7, eD E8, eD E9, eD E10, eD e10]
 exact e11
theorem vc (hK : cK.ns.length = 6) (hA : cA.ns.length = 6) : ∀ (is : List Nat) (T : Sto) (r1 r2 r3 r4 r5 r6 r7 r8 r9 r10 r11 r12 r13 r14 r15 : Option U),
  ∃ (T' : Sto) (q1 q2 q3 q4 q5 q6 q7 q8 q9 q10 q11 q12 q13 q14 q15 : Option U), dr (fun _ => True) (gNm 1) (fL cK cA j4) (is.map fun i : Nat => U.int (i : Int)) [some (.kl ns), r1, r2, r3, r4, r5, r6, r7, r8, r9, r10, r11, r12, r13, r14, r15] T = some (.nx, [some (.kl ns), q1, q2, q3, q4, q5, q6, q7, q8, q9, q10, q11, q12, q13, q14, q15], T')
 | [], T, r1, r2, r3, r4, r5, r6, r7, r8, r9, r10, r11, r12, r13, r14, r15 => ⟨T, r1, r2, r3, r4, r5, r6, r7, r8, r9, r10, r11, r12, r13, r14, r15, dN trivial⟩
 | i :: is, T, r1, r2, r3, r4, r5, r6, r7, r8, r9, r10, r11, r12, r13, r14, r15 => by
  obtain ⟨T1, s2, s3, s4, s5, s6, s7, s8, s9, s10, s11, s12, s13, s14, s15, e⟩ := zQ (cK := cK) (cA := cA) (ns := ns) (T := T) hK hA i r2 r3 r4 r5 r6 r7 r8 r9 r10 r11 r12 r13 r14 r15
  obtain ⟨T', q1, q2, q3, q4, q5, q6, q7, q8, q9, q10, q11, q12, q13, q14, q15, ih⟩ := vc hK hA is T1 (some (.int (i : Int))) s2 s3 s4 s5 s6 s7 s8 s9 s10 s11 s12 s13 s14 s15
  exact ⟨T', q1, q2, q3, q4, q5, q6, q7, q8, q9, q10, q11, q12, q13, q14, q15, (eC trivial rfl e).trans ih⟩
theorem zL (hK : cK.ns.length = 6) (hA : cA.ns.length = 6) (ns : List Int) (hl : ns.length ≤ 63) : ∃ ρ' S', (fL cK cA xH) [some (.kl ns), none, none, none, none, none, none, none, none, none, none, none, none, none, none, none] [] = some (.rt (.bl true), ρ', S') := by
 obtain ⟨n, hn⟩ : ∃ n : Int, n = (if (if (ns.length : Int) < 5 then (ns.length : Int) else 5) > 2 then (if (ns.length : Int) < 5 then (ns.length : Int) else 5) else 2) := ⟨_, rfl⟩
 have n0 : 0 ≤ n := by rw [hn]; split <;> (try split) <;> omega
 have n1 : n ≤ 1000 := by rw [hn]; split <;> (try split) <;> omega
 obtain ⟨T, q1, q2, q3, q4, q5, q6, q7, q8, q9, q10, q11, q12, q13, q14, q15, e1⟩ := vc (cK := cK) (cA := cA) (ns := ns) hK hA (List.range n.toNat) [] none none none none none none none none none none none none none none none
 have er : cg 0 n.toNat = (List.range n.toNat).map fun i : Nat => U.int (i : Int) := by rw [fu, List.map_map]; rfl
 have a1 : af (cCB AF (af (cC (.int 2)) (af (cCB vj (af (cC (.int 5)) (af (cCB kW (af (ah 0) aG)) aG))) aG))) aG [some (.kl ns), none, none, none, none, none, none, none, none, none, none, none, none, none, none, none] [] = some ([.int n], []) := by
  have h1 : ∀ i j : Int, vj [.int i, .int j] [] = some (.int (if j < i then j else i), []) := fun i j => rfl
  have h2 : ∀ i j : Int, AF [.int i, .int j] [] = some (.int (if j > i then j else i), []) := fun i j => rfl
  rw [hn]
  rwa [o8, h1, h2]
 rw [← er] at e1
 refine ⟨[some (.kl ns), q1, q2, q3, q4, q5, q6, q7, q8, q9, q10, q11, q12, q13, q14, q15], T, ?_⟩
 unfold fL xH
 rw [eD ((Cp a1 n0 n1).trans e1)]
 rfl
end
theorem Ak {l : PySem.W.OpenLaw} {w : World} {K : PySem.W.Frag} {h : Heap} {mg : Str → Option Value} {fa : Addr} (X : K.In h) (G : h.Ns mainGlobals mg) (hfa : mg "law" = some (.ref fa))
  {f1 : Addr} {od1 an1 : Option Addr} {sl1 : Array (Option Value)} {oc1 kV1 dc1 pm1 cd1 ct1 : Value}
  {f2 : Addr} {od2 an2 : Option Addr} {sl2 : Array (Option Value)} {oc2 kV2 dc2 pm2 cd2 ct2 : Value}
  {f3 : Addr} {od3 an3 : Option Addr} {sl3 : Array (Option Value)} {oc3 kV3 dc3 pm3 cd3 ct3 : Value}
  {f4 : Addr} {od4 an4 : Option Addr} {sl4 : Array (Option Value)} {oc4 kV4 dc4 pm4 cd4 ct4 : Value}
  {f5 : Addr} {od5 an5 : Option Addr} {sl5 : Array (Option Value)} {oc5 kV5 dc5 pm5 cd5 ct5 : Value}
  {CAttempt : Addr}
  {f6 : Addr} {od6 an6 : Option Addr} {sl6 : Array (Option Value)} {oc6 kV6 dc6 pm6 cd6 ct6 : Value}
  {CKeeper : Addr}
  {f7 : Addr} {od7 an7 : Option Addr} {sl7 : Array (Option Value)} {oc7 kV7 dc7 pm7 cd7 ct7 : Value}
  {f8 : Addr} {od8 an8 : Option Addr} {sl8 : Array (Option Value)} {oc8 kV8 dc8 pm8 cd8 ct8 : Value}
  {f9 : Addr} {od9 an9 : Option Addr} {sl9 : Array (Option Value)} {oc9 kV9 dc9 pm9 cd9 ct9 : Value}
  {f10 : Addr} {od10 an10 : Option Addr} {sl10 : Array (Option Value)} {oc10 kV10 dc10 pm10 cd10 ct10 : Value}
  {f11 : Addr} {od11 an11 : Option Addr} {sl11 : Array (Option Value)} {oc11 kV11 dc11 pm11 cd11 ct11 : Value}
  {f12 : Addr} {od12 an12 : Option Addr} {sl12 : Array (Option Value)} {oc12 kV12 dc12 pm12 cd12 ct12 : Value}
  {f13 : Addr} {od13 an13 : Option Addr} {sl13 : Array (Option Value)} {oc13 kV13 dc13 pm13 cd13 ct13 : Value}
  {f14 : Addr} {od14 an14 : Option Addr} {sl14 : Array (Option Value)} {oc14 kV14 dc14 pm14 cd14 ct14 : Value}
  {f15 : Addr} {od15 an15 : Option Addr} {sl15 : Array (Option Value)} {oc15 kV15 dc15 pm15 cd15 ct15 : Value}
  {f16 : Addr} {od16 an16 : Option Addr} {sl16 : Array (Option Value)} {oc16 kV16 dc16 pm16 cd16 ct16 : Value}
  {f17 : Addr} {od17 an17 : Option Addr} {sl17 : Array (Option Value)} {oc17 kV17 dc17 pm17 cd17 ct17 : Value}
  {f18 : Addr} {od18 an18 : Option Addr} {sl18 : Array (Option Value)} {oc18 kV18 dc18 pm18 cd18 ct18 : Value}
  {f19 : Addr} {od19 an19 : Option Addr} {sl19 : Array (Option Value)} {oc19 kV19 dc19 pm19 cd19 ct19 : Value}
  {f20 : Addr} {od20 an20 : Option Addr} {sl20 : Array (Option Value)} {oc20 kV20 dc20 pm20 cd20 ct20 : Value}
  (a1 : PySem.W.nsIn K mainGlobals "_law_well" = some (some (.ref f1))) (l1 : K.lookup f1 = some ⟨oc1, od1, .func (PySem.W.fnOf "_law_well" "_law_well" (ba cN) (aQ cN) (aq cN) .none kV1 dc1 pm1 an1 cd1 ct1), sl1⟩) (c1 : PySem.W.codeIn K cd1 "_law_well" = true) (k1 : PySem.W.keepIn K (.ref f1) = true)
  (a2 : PySem.W.nsIn K mainGlobals "_law_sip" = some (some (.ref f2))) (l2 : K.lookup f2 = some ⟨oc2, od2, .func (PySem.W.fnOf "_law_sip" "_law_sip" (ba dq) (aQ dq) (aq dq) .none kV2 dc2 pm2 an2 cd2 ct2), sl2⟩) (c2 : PySem.W.codeIn K cd2 "_law_sip" = true) (k2 : PySem.W.keepIn K (.ref f2) = true)
  (a3 : PySem.W.nsIn K mainGlobals "_law_ends" = some (some (.ref f3))) (l3 : K.lookup f3 = some ⟨oc3, od3, .func (PySem.W.fnOf "_law_ends" "_law_ends" (ba cQ) (aQ cQ) (aq cQ) .none kV3 dc3 pm3 an3 cd3 ct3), sl3⟩) (c3 : PySem.W.codeIn K cd3 "_law_ends" = true) (k3 : PySem.W.keepIn K (.ref f3) = true)
  (a4 : PySem.W.nsIn K mainGlobals "_law_goes" = some (some (.ref f4))) (l4 : K.lookup f4 = some ⟨oc4, od4, .func (PySem.W.fnOf "_law_goes" "_law_goes" (ba cP) (aQ cP) (aq cP) .none kV4 dc4 pm4 an4 cd4 ct4), sl4⟩) (c4 : PySem.W.codeIn K cd4 "_law_goes" = true) (k4 : PySem.W.keepIn K (.ref f4) = true)
  (a5 : PySem.W.nsIn K mainGlobals "law" = some (some (.ref f5))) (l5 : K.lookup f5 = some ⟨oc5, od5, .func (PySem.W.fnOf "law" "law" (ba jc) (aQ jc) (aq jc) .none kV5 dc5 pm5 an5 cd5 ct5), sl5⟩) (c5 : PySem.W.codeIn K cd5 "law" = true) (k5 : PySem.W.keepIn K (.ref f5) = true)
  (aCAttempt : PySem.W.nsIn K mainGlobals "Attempt" = some (some (.ref CAttempt))) (pgAttempt : PySem.W.plainGet K CAttempt Str.empty = true) (hdAttempt : PySem.W.hasDictIn K CAttempt = true) (poAttempt : PySem.W.plainOver K CAttempt = true) (saAttempt : PySem.W.findIn K (.ref CAttempt) "__setattr__" = some (some (.builtin "object.__setattr__"))) (mkAttempt : PySem.W.makesIn K CAttempt = true) (kcAttempt : PySem.W.keepIn K (.ref CAttempt) = true)
  (nfAttempt0 : PySem.W.findIn K (.ref CAttempt) "glance" = some none)
  (nfAttempt1 : PySem.W.findIn K (.ref CAttempt) "looked" = some none)
  (nfAttempt2 : PySem.W.findIn K (.ref CAttempt) "puts" = some none)
  (nfAttempt3 : PySem.W.findIn K (.ref CAttempt) "stamp" = some none)
  (nfAttempt4 : PySem.W.findIn K (.ref CAttempt) "unwritten" = some none)
  (nfAttempt5 : PySem.W.findIn K (.ref CAttempt) "is_open" = some none)
  (a6 : PySem.W.findIn K (.ref CAttempt) "__init__" = some (some (.ref f6))) (i6 : PySem.W.isFn K (.ref f6) = true) (l6 : K.lookup f6 = some ⟨oc6, od6, .func (PySem.W.fnOf "__init__" "Attempt.__init__" (ba bP) (aQ bP) (aq bP) .none kV6 dc6 pm6 an6 cd6 ct6), sl6⟩) (c6 : PySem.W.codeIn K cd6 "Attempt.__init__" = true) (k6 : PySem.W.keepIn K (.ref f6) = true)
  (aCKeeper : PySem.W.nsIn K mainGlobals "Keeper" = some (some (.ref CKeeper))) (pgKeeper : PySem.W.plainGet K CKeeper Str.empty = true) (hdKeeper : PySem.W.hasDictIn K CKeeper = true) (poKeeper : PySem.W.plainOver K CKeeper = true) (saKeeper : PySem.W.findIn K (.ref CKeeper) "__setattr__" = some (some (.builtin "object.__setattr__"))) (mkKeeper : PySem.W.makesIn K CKeeper = true) (kcKeeper : PySem.W.keepIn K (.ref CKeeper) = true)
  (nfKeeper0 : PySem.W.findIn K (.ref CKeeper) "boxes" = some none)
  (nfKeeper1 : PySem.W.findIn K (.ref CKeeper) "marks" = some none)
  (nfKeeper2 : PySem.W.findIn K (.ref CKeeper) "holders" = some none)
  (nfKeeper3 : PySem.W.findIn K (.ref CKeeper) "ticks" = some none)
  (nfKeeper4 : PySem.W.findIn K (.ref CKeeper) "events" = some none)
  (nfKeeper5 : PySem.W.findIn K (.ref CKeeper) "known" = some none)
  (a7 : PySem.W.findIn K (.ref CKeeper) "__init__" = some (some (.ref f7))) (i7 : PySem.W.isFn K (.ref f7) = true) (l7 : K.lookup f7 = some ⟨oc7, od7, .func (PySem.W.fnOf "__init__" "Keeper.__init__" (ba b6) (aQ b6) (aq b6) .none kV7 dc7 pm7 an7 cd7 ct7), sl7⟩) (c7 : PySem.W.codeIn K cd7 "Keeper.__init__" = true) (k7 : PySem.W.keepIn K (.ref f7) = true)
  (a8 : PySem.W.findIn K (.ref CKeeper) "end" = some (some (.ref f8))) (i8 : PySem.W.isFn K (.ref f8) = true) (l8 : K.lookup f8 = some ⟨oc8, od8, .func (PySem.W.fnOf "end" "Keeper.end" (ba cW) (aQ cW) (aq cW) .none kV8 dc8 pm8 an8 cd8 ct8), sl8⟩) (c8 : PySem.W.codeIn K cd8 "Keeper.end" = true) (k8 : PySem.W.keepIn K (.ref f8) = true)
  (a9 : PySem.W.findIn K (.ref CKeeper) "found" = some (some (.ref f9))) (i9 : PySem.W.isFn K (.ref f9) = true) (l9 : K.lookup f9 = some ⟨oc9, od9, .func (PySem.W.fnOf "found" "Keeper.found" (ba bN) (aQ bN) (aq bN) .none kV9 dc9 pm9 an9 cd9 ct9), sl9⟩) (c9 : PySem.W.codeIn K cd9 "Keeper.found" = true) (k9 : PySem.W.keepIn K (.ref f9) = true)
  (a10 : PySem.W.findIn K (.ref CKeeper) "untaken" = some (some (.ref f10))) (i10 : PySem.W.isFn K (.ref f10) = true) (l10 : K.lookup f10 = some ⟨oc10, od10, .func (PySem.W.fnOf "untaken" "Keeper.untaken" (ba bt) (aQ bt) (aq bt) .none kV10 dc10 pm10 an10 cd10 ct10), sl10⟩) (c10 : PySem.W.codeIn K cd10 "Keeper.untaken" = true) (k10 : PySem.W.keepIn K (.ref f10) = true)
  (a11 : PySem.W.findIn K (.ref CKeeper) "is_barred" = some (some (.ref f11))) (i11 : PySem.W.isFn K (.ref f11) = true) (l11 : K.lookup f11 = some ⟨oc11, od11, .func (PySem.W.fnOf "is_barred" "Keeper.is_barred" (ba aY) (aQ aY) (aq aY) .none kV11 dc11 pm11 an11 cd11 ct11), sl11⟩) (c11 : PySem.W.codeIn K cd11 "Keeper.is_barred" = true) (k11 : PySem.W.keepIn K (.ref f11) = true)
  (a12 : PySem.W.findIn K (.ref CKeeper) "has_changed" = some (some (.ref f12))) (i12 : PySem.W.isFn K (.ref f12) = true) (l12 : K.lookup f12 = some ⟨oc12, od12, .func (PySem.W.fnOf "has_changed" "Keeper.has_changed" (ba aS) (aQ aS) (aq aS) .none kV12 dc12 pm12 an12 cd12 ct12), sl12⟩) (c12 : PySem.W.codeIn K cd12 "Keeper.has_changed" = true) (k12 : PySem.W.keepIn K (.ref f12) = true)
  (a13 : PySem.W.findIn K (.ref CKeeper) "would_fall" = some (some (.ref f13))) (i13 : PySem.W.isFn K (.ref f13) = true) (l13 : K.lookup f13 = some ⟨oc13, od13, .func (PySem.W.fnOf "would_fall" "Keeper.would_fall" (ba aU) (aQ aU) (aq aU) .none kV13 dc13 pm13 an13 cd13 ct13), sl13⟩) (c13 : PySem.W.codeIn K cd13 "Keeper.would_fall" = true) (k13 : PySem.W.keepIn K (.ref f13) = true)
  (a14 : PySem.W.findIn K (.ref CKeeper) "look_anew" = some (some (.ref f14))) (i14 : PySem.W.isFn K (.ref f14) = true) (l14 : K.lookup f14 = some ⟨oc14, od14, .func (PySem.W.fnOf "look_anew" "Keeper.look_anew" (ba aX) (aQ aX) (aq aX) .none kV14 dc14 pm14 an14 cd14 ct14), sl14⟩) (c14 : PySem.W.codeIn K cd14 "Keeper.look_anew" = true) (k14 : PySem.W.keepIn K (.ref f14) = true)
  (a15 : PySem.W.findIn K (.ref CKeeper) "begin" = some (some (.ref f15))) (i15 : PySem.W.isFn K (.ref f15) = true) (l15 : K.lookup f15 = some ⟨oc15, od15, .func (PySem.W.fnOf "begin" "Keeper.begin" (ba bO) (aQ bO) (aq bO) .none kV15 dc15 pm15 an15 cd15 ct15), sl15⟩) (c15 : PySem.W.codeIn K cd15 "Keeper.begin" = true) (k15 : PySem.W.keepIn K (.ref f15) = true)
  (a16 : PySem.W.findIn K (.ref CKeeper) "look" = some (some (.ref f16))) (i16 : PySem.W.isFn K (.ref f16) = true) (l16 : K.lookup f16 = some ⟨oc16, od16, .func (PySem.W.fnOf "look" "Keeper.look" (ba b5) (aQ b5) (aq b5) .none kV16 dc16 pm16 an16 cd16 ct16), sl16⟩) (c16 : PySem.W.codeIn K cd16 "Keeper.look" = true) (k16 : PySem.W.keepIn K (.ref f16) = true)
  (a17 : PySem.W.findIn K (.ref CKeeper) "put" = some (some (.ref f17))) (i17 : PySem.W.isFn K (.ref f17) = true) (l17 : K.lookup f17 = some ⟨oc17, od17, .func (PySem.W.fnOf "put" "Keeper.put" (ba cU) (aQ cU) (aq cU) .none kV17 dc17 pm17 an17 cd17 ct17), sl17⟩) (c17 : PySem.W.codeIn K cd17 "Keeper.put" = true) (k17 : PySem.W.keepIn K (.ref f17) = true)
  (a18 : PySem.W.findIn K (.ref CKeeper) "take" = some (some (.ref f18))) (i18 : PySem.W.isFn K (.ref f18) = true) (l18 : K.lookup f18 = some ⟨oc18, od18, .func (PySem.W.fnOf "take" "Keeper.take" (ba bZ) (aQ bZ) (aq bZ) .none kV18 dc18 pm18 an18 cd18 ct18), sl18⟩) (c18 : PySem.W.codeIn K cd18 "Keeper.take" = true) (k18 : PySem.W.keepIn K (.ref f18) = true)
  (a19 : PySem.W.findIn K (.ref CKeeper) "write" = some (some (.ref f19))) (i19 : PySem.W.isFn K (.ref f19) = true) (l19 : K.lookup f19 = some ⟨oc19, od19, .func (PySem.W.fnOf "write" "Keeper.write" (ba bM) (aQ bM) (aq bM) .none kV19 dc19 pm19 an19 cd19 ct19), sl19⟩) (c19 : PySem.W.codeIn K cd19 "Keeper.write" = true) (k19 : PySem.W.keepIn K (.ref f19) = true)
  (a20 : PySem.W.findIn K (.ref CKeeper) "now" = some (some (.ref f20))) (i20 : PySem.W.isFn K (.ref f20) = true) (l20 : K.lookup f20 = some ⟨oc20, od20, .func (PySem.W.fnOf "now" "Keeper.now" (ba cV) (aQ cV) (aq cV) .none kV20 dc20 pm20 an20 cd20 ct20), sl20⟩) (c20 : PySem.W.codeIn K cd20 "Keeper.now" = true) (k20 : PySem.W.keepIn K (.ref f20) = true)
  (z21 : PySem.W.nsIn K mainGlobals "len" = some none)
  (z22 : PySem.W.nsIn K mainGlobals "isinstance" = some none)
  (z23 : PySem.W.nsIn K mainGlobals "int" = some none)
  (z24 : PySem.W.nsIn K mainGlobals "bool" = some none)
  (z25 : PySem.W.nsIn K mainGlobals "str" = some none)
  (z26 : PySem.W.nsIn K mainGlobals "tuple" = some none)
  (z27 : PySem.W.nsIn K mainGlobals "list" = some none)
  (z28 : PySem.W.nsIn K mainGlobals "range" = some none)
  (z29 : PySem.W.nsIn K mainGlobals "min" = some none)
  (z30 : PySem.W.nsIn K mainGlobals "sum" = some none)
  (z31 : PySem.W.nsIn K mainGlobals "all" = some none)
  (z32 : PySem.W.nsIn K mainGlobals "zip" = some none)
  (z33 : PySem.W.nsIn K mainGlobals "sorted" = some none)
  (z34 : PySem.W.nsIn K mainGlobals "dict" = some none)
  (z35 : PySem.W.nsIn K mainGlobals "enumerate" = some none)
  (z36 : PySem.W.nsIn K mainGlobals "any" = some none)
  (z37 : PySem.W.nsIn K mainGlobals "max" = some none)
  (z38 : PySem.W.nsIn K mainGlobals "set" = some none) :
  ∃ fd : FuncData, (∀ (s : Shared) (v : Value), BindsTo s fd ⟨[v], []⟩ [("script", v)]) ∧ ∀ base : Heap, K.In base → base.Ns mainGlobals mg → iA l.prog w K mg base CX0 6 fa fd ["script"] (ni K) := by
 have e := hfa.symm.trans (PySem.W.mg_of X G a5)
 cases e
 have F__law_well := cY (st := cN) l1 c1 k1
 have D__law_well : Def K mg "_law_well" cN ["script", "k"] := ⟨_, _, F__law_well, F__law_well.binds (ps := ["script", "k"]) fun _ _ _ _ _ _ => dH fun _ => dH fun _ => jG rfl, PySem.W.mg_of X G a1⟩
 have F__law_sip := cY (st := dq) l2 c2 k2
 have D__law_sip : Def K mg "_law_sip" dq ["well", "many"] := ⟨_, _, F__law_sip, F__law_sip.binds (ps := ["well", "many"]) fun _ _ _ _ _ _ => dH fun _ => dH fun _ => jG rfl, PySem.W.mg_of X G a2⟩
 have F__law_ends := cY (st := cQ) l3 c3 k3
 have D__law_ends : Def K mg "_law_ends" cQ ["keeper", "plan", "a"] := ⟨_, _, F__law_ends, F__law_ends.binds (ps := ["keeper", "plan", "a"]) fun _ _ _ _ _ _ => dH fun _ => dH fun _ => dH fun _ => jG rfl, PySem.W.mg_of X G a3⟩
 have F__law_goes := cY (st := cP) l4 c4 k4
 have D__law_goes : Def K mg "_law_goes" cP ["well", "world", "state", "keeper", "plan", "a"] := ⟨_, _, F__law_goes, F__law_goes.binds (ps := ["well", "world", "state", "keeper", "plan", "a"]) fun _ _ _ _ _ _ => dH fun _ => dH fun _ => dH fun _ => dH fun _ => dH fun _ => dH fun _ => jG rfl, PySem.W.mg_of X G a4⟩
 have F_law := cY (st := jc) l5 c5 k5
 have D_law : Def K mg "law" jc ["script"] := ⟨_, _, F_law, F_law.binds (ps := ["script"]) fun _ _ _ _ _ _ => dH fun _ => jG rfl, PySem.W.mg_of X G a5⟩
 have TAttempt : TC K (⟨CAttempt, ["glance", "looked", "puts", "stamp", "unwritten", "is_open"]⟩ : Cl) ["glance", "looked", "puts", "stamp", "unwritten", "is_open"] := ⟨⟨pgAttempt, hdAttempt, poAttempt, saAttempt⟩, rfl, fun f hf => by
  simp only [List.mem_cons, List.not_mem_nil, or_false] at hf
  rcases hf with rfl | rfl | rfl | rfl | rfl | rfl
  ·exact nfAttempt0
  ·exact nfAttempt1
  ·exact nfAttempt2
  ·exact nfAttempt3
  ·exact nfAttempt4
  ·exact nfAttempt5⟩
 have mgC_Attempt := PySem.W.mg_of X G aCAttempt
 have F_Attempt_init := cY (st := bP) l6 c6 k6
 have bi_Attempt_init := F_Attempt_init.binds (ps := ["self", "glance"]) fun _ _ _ _ _ _ => dH fun _ => dH fun _ => jG rfl
 have mk_Attempt : Mk K (⟨CAttempt, ["glance", "looked", "puts", "stamp", "unwritten", "is_open"]⟩ : Cl).C f6 := ⟨mkAttempt, a6, i6, kcAttempt⟩
 have TKeeper : TC K (⟨CKeeper, ["boxes", "marks", "holders", "ticks", "events", "known"]⟩ : Cl) ["boxes", "marks", "holders", "ticks", "events", "known"] := ⟨⟨pgKeeper, hdKeeper, poKeeper, saKeeper⟩, rfl, fun f hf => by
  simp only [List.mem_cons, List.not_mem_nil, or_false] at hf
  rcases hf with rfl | rfl | rfl | rfl | rfl | rfl
  ·exact nfKeeper0
  ·exact nfKeeper1
  ·exact nfKeeper2
  ·exact nfKeeper3
  ·exact nfKeeper4
  ·exact nfKeeper5⟩
 have mgC_Keeper := PySem.W.mg_of X G aCKeeper
 have F_Keeper_init := cY (st := b6) l7 c7 k7
 have bi_Keeper_init := F_Keeper_init.binds (ps := ["self", "world", "state"]) fun _ _ _ _ _ _ => dH fun _ => dH fun _ => dH fun _ => jG rfl
 have mk_Keeper : Mk K (⟨CKeeper, ["boxes", "marks", "holders", "ticks", "events", "known"]⟩ : Cl).C f7 := ⟨mkKeeper, a7, i7, kcKeeper⟩
 have F_Keeper_end := cY (st := cW) l8 c8 k8
 have bi_Keeper_end := F_Keeper_end.binds (ps := ["self", "a", "word"]) fun _ _ _ _ _ _ => dH fun _ => dH fun _ => dH fun _ => jG rfl
 have mt_Keeper_end : fU K (⟨CKeeper, ["boxes", "marks", "holders", "ticks", "events", "known"]⟩ : Cl).C "end" f8 := ⟨a8, i8, k8⟩
 have F_Keeper_found := cY (st := bN) l9 c9 k9
 have bi_Keeper_found := F_Keeper_found.binds (ps := ["self", "a"]) fun _ _ _ _ _ _ => dH fun _ => dH fun _ => jG rfl
 have mt_Keeper_found : fU K (⟨CKeeper, ["boxes", "marks", "holders", "ticks", "events", "known"]⟩ : Cl).C "found" f9 := ⟨a9, i9, k9⟩
 have F_Keeper_untaken := cY (st := bt) l10 c10 k10
 have bi_Keeper_untaken := F_Keeper_untaken.binds (ps := ["self", "a"]) fun _ _ _ _ _ _ => dH fun _ => dH fun _ => jG rfl
 have mt_Keeper_untaken : fU K (⟨CKeeper, ["boxes", "marks", "holders", "ticks", "events", "known"]⟩ : Cl).C "untaken" f10 := ⟨a10, i10, k10⟩
 have F_Keeper_is_barred := cY (st := aY) l11 c11 k11
 have bi_Keeper_is_barred := F_Keeper_is_barred.binds (ps := ["self", "a", "boxes"]) fun _ _ _ _ _ _ => dH fun _ => dH fun _ => dH fun _ => jG rfl
 have mt_Keeper_is_barred : fU K (⟨CKeeper, ["boxes", "marks", "holders", "ticks", "events", "known"]⟩ : Cl).C "is_barred" f11 := ⟨a11, i11, k11⟩
 have F_Keeper_has_changed := cY (st := aS) l12 c12 k12
 have bi_Keeper_has_changed := F_Keeper_has_changed.binds (ps := ["self", "a"]) fun _ _ _ _ _ _ => dH fun _ => dH fun _ => jG rfl
 have mt_Keeper_has_changed : fU K (⟨CKeeper, ["boxes", "marks", "holders", "ticks", "events", "known"]⟩ : Cl).C "has_changed" f12 := ⟨a12, i12, k12⟩
 have F_Keeper_would_fall := cY (st := aU) l13 c13 k13
 have bi_Keeper_would_fall := F_Keeper_would_fall.binds (ps := ["self", "a", "b"]) fun _ _ _ _ _ _ => dH fun _ => dH fun _ => dH fun _ => jG rfl
 have mt_Keeper_would_fall : fU K (⟨CKeeper, ["boxes", "marks", "holders", "ticks", "events", "known"]⟩ : Cl).C "would_fall" f13 := ⟨a13, i13, k13⟩
 have F_Keeper_look_anew := cY (st := aX) l14 c14 k14
 have bi_Keeper_look_anew := F_Keeper_look_anew.binds (ps := ["self", "attempt", "b"]) fun _ _ _ _ _ _ => dH fun _ => dH fun _ => dH fun _ => jG rfl
 have mt_Keeper_look_anew : fU K (⟨CKeeper, ["boxes", "marks", "holders", "ticks", "events", "known"]⟩ : Cl).C "look_anew" f14 := ⟨a14, i14, k14⟩
 have F_Keeper_begin := cY (st := bO) l15 c15 k15
 have bi_Keeper_begin := F_Keeper_begin.binds (ps := ["self", "a"]) fun _ _ _ _ _ _ => dH fun _ => dH fun _ => jG rfl
 have mt_Keeper_begin : fU K (⟨CKeeper, ["boxes", "marks", "holders", "ticks", "events", "known"]⟩ : Cl).C "begin" f15 := ⟨a15, i15, k15⟩
 have F_Keeper_look := cY (st := b5) l16 c16 k16
 have bi_Keeper_look := F_Keeper_look.binds (ps := ["self", "a", "b"]) fun _ _ _ _ _ _ => dH fun _ => dH fun _ => dH fun _ => jG rfl
 have mt_Keeper_look : fU K (⟨CKeeper, ["boxes", "marks", "holders", "ticks", "events", "known"]⟩ : Cl).C "look" f16 := ⟨a16, i16, k16⟩
 have F_Keeper_put := cY (st := cU) l17 c17 k17
 have bi_Keeper_put := F_Keeper_put.binds (ps := ["self", "a", "b", "v"]) fun _ _ _ _ _ _ => dH fun _ => dH fun _ => dH fun _ => dH fun _ => jG rfl
 have mt_Keeper_put : fU K (⟨CKeeper, ["boxes", "marks", "holders", "ticks", "events", "known"]⟩ : Cl).C "put" f17 := ⟨a17, i17, k17⟩
 have F_Keeper_take := cY (st := bZ) l18 c18 k18
 have bi_Keeper_take := F_Keeper_take.binds (ps := ["self", "a"]) fun _ _ _ _ _ _ => dH fun _ => dH fun _ => jG rfl
 have mt_Keeper_take : fU K (⟨CKeeper, ["boxes", "marks", "holders", "ticks", "events", "known"]⟩ : Cl).C "take" f18 := ⟨a18, i18, k18⟩
 have F_Keeper_write := cY (st := bM) l19 c19 k19
 have bi_Keeper_write := F_Keeper_write.binds (ps := ["self", "a"]) fun _ _ _ _ _ _ => dH fun _ => dH fun _ => jG rfl
 have mt_Keeper_write : fU K (⟨CKeeper, ["boxes", "marks", "holders", "ticks", "events", "known"]⟩ : Cl).C "write" f19 := ⟨a19, i19, k19⟩
 have F_Keeper_now := cY (st := cV) l20 c20 k20
 have bi_Keeper_now := F_Keeper_now.binds (ps := ["self"]) fun _ _ _ _ _ _ => dH fun _ => jG rfl
 have mt_Keeper_now : fU K (⟨CKeeper, ["boxes", "marks", "holders", "ticks", "events", "known"]⟩ : Cl).C "now" f20 := ⟨a20, i20, k20⟩
 have B : Blt mg := ⟨PySem.W.mg_none_of X G z21, PySem.W.mg_none_of X G z22, PySem.W.mg_none_of X G z23, PySem.W.mg_none_of X G z24, PySem.W.mg_none_of X G z25, PySem.W.mg_none_of X G z26, PySem.W.mg_none_of X G z27, PySem.W.mg_none_of X G z28, PySem.W.mg_none_of X G z29, PySem.W.mg_none_of X G z30, PySem.W.mg_none_of X G z31, PySem.W.mg_none_of X G z32, PySem.W.mg_none_of X G z33, PySem.W.mg_none_of X G z34, PySem.W.mg_none_of X G z35, PySem.W.mg_none_of X G z36, PySem.W.mg_none_of X G z37, PySem.W.mg_none_of X G z38⟩
 refine ⟨PySem.W.fnOf "law" "law" (ba jc) (aQ jc) (aq jc) .none kV5 dc5 pm5 an5 cd5 ct5, fun s v => .of_eq rfl, fun base _ _ => ?_⟩
 have M_Attempt_init := jm (P := l.prog) (w := w) (base := base) (k := 0) F_Attempt_init bi_Attempt_init mk_Attempt mgC_Attempt B TAttempt
 have M_Keeper_init := jR (P := l.prog) (w := w) (base := base) (k := 0) F_Keeper_init bi_Keeper_init mk_Keeper mgC_Keeper B TKeeper
 have M_Keeper_end := kR (P := l.prog) (w := w) (base := base) (k := 0) F_Keeper_end bi_Keeper_end mt_Keeper_end B TKeeper TAttempt
 have M_Keeper_found := jj (P := l.prog) (w := w) (base := base) (k := 0) F_Keeper_found bi_Keeper_found mt_Keeper_found B TKeeper TAttempt
 have M_Keeper_untaken := g9 (P := l.prog) (w := w) (base := base) (k := 1) F_Keeper_untaken bi_Keeper_untaken mt_Keeper_untaken B TKeeper TAttempt M_Keeper_found
 have M_Keeper_is_barred := gB (P := l.prog) (w := w) (base := base) (k := 0) F_Keeper_is_barred bi_Keeper_is_barred mt_Keeper_is_barred B TKeeper
 have M_Keeper_has_changed := fJ (P := l.prog) (w := w) (base := base) (k := 0) F_Keeper_has_changed bi_Keeper_has_changed mt_Keeper_has_changed B TKeeper TAttempt
 have M_Keeper_would_fall := fX (P := l.prog) (w := w) (base := base) (k := 1) F_Keeper_would_fall bi_Keeper_would_fall mt_Keeper_would_fall B TKeeper TAttempt M_Keeper_is_barred M_Keeper_has_changed
 have M_Keeper_look_anew := gz (P := l.prog) (w := w) (base := base) (k := 0) F_Keeper_look_anew bi_Keeper_look_anew mt_Keeper_look_anew B TKeeper TAttempt
 have M_Keeper_begin := jl (P := l.prog) (w := w) (base := base) (k := 1) F_Keeper_begin bi_Keeper_begin mt_Keeper_begin B TKeeper TAttempt M_Attempt_init
 have M_Keeper_look := jQ (P := l.prog) (w := w) (base := base) (k := 2) F_Keeper_look bi_Keeper_look mt_Keeper_look B TKeeper TAttempt M_Keeper_untaken M_Keeper_would_fall (M_Keeper_end.mono (by decide)) (M_Keeper_look_anew.mono (by decide))
 have M_Keeper_put := kP (P := l.prog) (w := w) (base := base) (k := 2) F_Keeper_put bi_Keeper_put mt_Keeper_put B TKeeper TAttempt M_Keeper_untaken
 have M_Keeper_take := jP (P := l.prog) (w := w) (base := base) (k := 2) F_Keeper_take bi_Keeper_take mt_Keeper_take B TKeeper TAttempt M_Keeper_untaken (M_Keeper_end.mono (by decide)) (M_Keeper_is_barred.mono (by decide)) (M_Keeper_has_changed.mono (by decide))
 have M_Keeper_write := ji (P := l.prog) (w := w) (base := base) (k := 1) F_Keeper_write bi_Keeper_write mt_Keeper_write B TKeeper TAttempt M_Keeper_found M_Keeper_end
 have M_Keeper_now := kQ (P := l.prog) (w := w) (base := base) (k := 0) F_Keeper_now bi_Keeper_now mt_Keeper_now B TKeeper
 have gc := my (P := l.prog) (w := w) (base := base) (k := 0) D__law_well B 
 have bw := oJ (P := l.prog) (w := w) (base := base) (k := 0) D__law_sip B 
 have dz := mB (P := l.prog) (w := w) (base := base) (k := 3) D__law_ends B TKeeper M_Keeper_take (M_Keeper_write.mono (by decide))
 have gf := mz (P := l.prog) (w := w) (base := base) (k := 4) D__law_goes B TKeeper (Has.mono bw (by decide)) dz (M_Keeper_begin.mono (by decide)) (M_Keeper_look.mono (by decide)) (M_Keeper_put.mono (by decide))
 exact Co (P := l.prog) (w := w) (base := base) (k := 4) F_law B TKeeper (Has.mono gc (by decide)) (Has.mono bw (by decide)) gf (Has.mono dz (by decide)) (M_Keeper_now.mono (by decide)) (M_Keeper_init.mono (by decide)) fun ns hl => zL (cK := ⟨CKeeper, _⟩) (cA := ⟨CAttempt, _⟩) rfl rfl ns hl
theorem Dx {l : PySem.W.OpenLaw} {q : Program} {loose : List Str} {XP : (Str → Option Value) → Heap → Prop} {YP : World → Heap → Prop} {d : DefRec} {K : Params → PySem.W.Frag} (hn : l.most = some 63) (hdf : d.params.defaults = [])
  (hY : ∀ (w : World) (h : Heap), YP w h → (K w.params).In h)
  (F : ∀ (w : World) (mg : Str → Option Value) (fa : Addr) (h : Heap), (K w.params).In h → h.Ns mainGlobals mg → mg d.name = some (.ref fa) →
   ∃ fd : FuncData, (∀ (s : Shared) (u : Value), BindsTo s fd ⟨[u], []⟩ [("script", u)]) ∧ ∀ base : Heap, (K w.params).In base → base.Ns mainGlobals mg → iA l.prog w (K w.params) mg base CX0 6 fa fd ["script"] (ni (K w.params))) :
  PySem.W.WalkO q loose XP YP l.row.toRowW d [] (fun f vs => PySem.call f vs) :=
 L2.wm (n := 63) (k := 6) (x := "script") (CX := fun _ => CX0) (sp := fun w => ni (K w.params)) hn (by decide) hdf ⟨rfl, by decide, by decide⟩ hY F (fun _ _ a ns hl hO hS => ⟨a, ns, rfl, B6 hO hS, hl, fun _ => rfl⟩) fun _ _ _ _ _ z => z
end OL
open PySem PySem.W PyProof.Rows
set_option maxRecDepth 100000 in
set_option maxHeartbeats 0 in
theorem PySem.Challenge.cw_oneglance_k36_apart_none_falls_holds : PySem.Challenge.rw_oneglance_k36_apart_none_falls.Holds := by
 w_on; o_law; k_head; (case hw => w_witness2)
 k_fill
 refine OL.Dx (l := PySem.Challenge.rw_oneglance_k36_apart_none_falls) rfl rfl (fun w h Y => PySem.W.kIn_of Y) ?F
 case F =>
  intro w mg fa h KX G hmg
  refine' OL.Ak KX G hmg ?a1 ?l1 ?c1 ?k1 ?a2 ?l2 ?c2 ?k2 ?a3 ?l3 ?c3 ?k3 ?a4 ?l4 ?c4 ?k4 ?a5 ?l5 ?c5 ?k5 ?aCAttempt ?pgAttempt ?hdAttempt ?poAttempt ?saAttempt ?mkAttempt ?kcAttempt ?nfAttempt0 ?nfAttempt1 ?nfAttempt2 ?nfAttempt3 ?nfAttempt4 ?nfAttempt5 ?a6 ?i6 ?l6 ?c6 ?k6 ?aCKeeper ?pgKeeper ?hdKeeper ?poKeeper ?saKeeper ?mkKeeper ?kcKeeper ?nfKeeper0 ?nfKeeper1 ?nfKeeper2 ?nfKeeper3 ?nfKeeper4 ?nfKeeper5 ?a7 ?i7 ?l7 ?c7 ?k7 ?a8 ?i8 ?l8 ?c8 ?k8 ?a9 ?i9 ?l9 ?c9 ?k9 ?a10 ?i10 ?l10 ?c10 ?k10 ?a11 ?i11 ?l11 ?c11 ?k11 ?a12 ?i12 ?l12 ?c12 ?k12 ?a13 ?i13 ?l13 ?c13 ?k13 ?a14 ?i14 ?l14 ?c14 ?k14 ?a15 ?i15 ?l15 ?c15 ?k15 ?a16 ?i16 ?l16 ?c16 ?k16 ?a17 ?i17 ?l17 ?c17 ?k17 ?a18 ?i18 ?l18 ?c18 ?k18 ?a19 ?i19 ?l19 ?c19 ?k19 ?a20 ?i20 ?l20 ?c20 ?k20 ?z21 ?z22 ?z23 ?z24 ?z25 ?z26 ?z27 ?z28 ?z29 ?z30 ?z31 ?z32 ?z33 ?z34 ?z35 ?z36 ?z37 ?z38
  (case a1 => k_is)
  (case l1 => k_is)
  (case c1 => k_is)
  (case k1 => k_is)
  (case a2 => k_is)
  (case l2 => k_is)
  (case c2 => k_is)
  (case k2 => k_is)
  (case a3 => k_is)
  (case l3 => k_is)
  (case c3 => k_is)
  (case k3 => k_is)
  (case a4 => k_is)
  (case l4 => k_is)
  (case c4 => k_is)
  (case k4 => k_is)
  (case a5 => k_is)
  (case l5 => k_is)
  (case c5 => k_is)
  (case k5 => k_is)
  (case aCAttempt => k_is)
  (case pgAttempt => k_is)
  (case hdAttempt => k_is)
  (case poAttempt => k_is)
  (case saAttempt => k_is)
  (case mkAttempt => k_is)
  (case kcAttempt => k_is)
  (case nfAttempt0 => k_is)
  (case nfAttempt1 => k_is)
  (case nfAttempt2 => k_is)
  (case nfAttempt3 => k_is)
  (case nfAttempt4 => k_is)
  (case nfAttempt5 => k_is)
  (case a6 => k_is)
  (case i6 => k_is)
  (case l6 => k_is)
  (case c6 => k_is)
  (case k6 => k_is)
  (case aCKeeper => k_is)
  (case pgKeeper => k_is)
  (case hdKeeper => k_is)
  (case poKeeper => k_is)
  (case saKeeper => k_is)
  (case mkKeeper => k_is)
  (case kcKeeper => k_is)
  (case nfKeeper0 => k_is)
  (case nfKeeper1 => k_is)
  (case nfKeeper2 => k_is)
  (case nfKeeper3 => k_is)
  (case nfKeeper4 => k_is)
  (case nfKeeper5 => k_is)
  (case a7 => k_is)
  (case i7 => k_is)
  (case l7 => k_is)
  (case c7 => k_is)
  (case k7 => k_is)
  (case a8 => k_is)
  (case i8 => k_is)
  (case l8 => k_is)
  (case c8 => k_is)
  (case k8 => k_is)
  (case a9 => k_is)
  (case i9 => k_is)
  (case l9 => k_is)
  (case c9 => k_is)
  (case k9 => k_is)
  (case a10 => k_is)
  (case i10 => k_is)
  (case l10 => k_is)
  (case c10 => k_is)
  (case k10 => k_is)
  (case a11 => k_is)
  (case i11 => k_is)
  (case l11 => k_is)
  (case c11 => k_is)
  (case k11 => k_is)
  (case a12 => k_is)
  (case i12 => k_is)
  (case l12 => k_is)
  (case c12 => k_is)
  (case k12 => k_is)
  (case a13 => k_is)
  (case i13 => k_is)
  (case l13 => k_is)
  (case c13 => k_is)
  (case k13 => k_is)
  (case a14 => k_is)
  (case i14 => k_is)
  (case l14 => k_is)
  (case c14 => k_is)
  (case k14 => k_is)
  (case a15 => k_is)
  (case i15 => k_is)
  (case l15 => k_is)
  (case c15 => k_is)
  (case k15 => k_is)
  (case a16 => k_is)
  (case i16 => k_is)
  (case l16 => k_is)
  (case c16 => k_is)
  (case k16 => k_is)
  (case a17 => k_is)
  (case i17 => k_is)
  (case l17 => k_is)
  (case c17 => k_is)
  (case k17 => k_is)
  (case a18 => k_is)
  (case i18 => k_is)
  (case l18 => k_is)
  (case c18 => k_is)
  (case k18 => k_is)
  (case a19 => k_is)
  (case i19 => k_is)
  (case l19 => k_is)
  (case c19 => k_is)
  (case k19 => k_is)
  (case a20 => k_is)
  (case i20 => k_is)
  (case l20 => k_is)
  (case c20 => k_is)
  (case k20 => k_is)
  (case z21 => k_is)
  (case z22 => k_is)
  (case z23 => k_is)
  (case z24 => k_is)
  (case z25 => k_is)
  (case z26 => k_is)
  (case z27 => k_is)
  (case z28 => k_is)
  (case z29 => k_is)
  (case z30 => k_is)
  (case z31 => k_is)
  (case z32 => k_is)
  (case z33 => k_is)
  (case z34 => k_is)
  (case z35 => k_is)
  (case z36 => k_is)
  (case z37 => k_is)
  (case z38 => k_is)
