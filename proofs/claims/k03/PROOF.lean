import PyProof.Rows.All
import Wide.All
import OpenK.AllK
import Wide.FinOn
import Lean
import PyProof.EqAt
import PyProof.EqKinds
import PyProof.TupleCall
import PySem.Challenge.RW_oneglance_k03_what_is_a_dealing
set_option maxHeartbeats 4000000
set_option Elab.async false
set_option linter.all false
set_option maxRecDepth 100000
namespace L2
open PySem PySem.Spec PyProof.Rows
noncomputable abbrev Key := Sum Int Str
noncomputable def qU : Key → Value → Bool
 | .inl k, v => Value.isInt k v
 | .inr x, v => Value.isStrOf x v
noncomputable def EZ (w : World) : Key → Int
 | .inl k => hashInt k
 | .inr x => hashStr w x
theorem cg : ∀ {k : Key} {v : Value}, qU k v = true → (∃ i t, k = Sum.inl i ∧ v = Value.int i t) ∨ (∃ x t, k = Sum.inr x ∧ v = Value.str x t)
 | .inl i, v, h => by
  obtain ⟨t, e⟩ := Value.isInt_shape (k := i) (v := v) h
  exact .inl ⟨i, t, rfl, e⟩
 | .inr x, v, h => by
  obtain ⟨t, e⟩ := Value.isStrOf_shape (x := x) (v := v) h
  exact .inr ⟨x, t, rfl, e⟩
theorem tw (i : Int) (t : Tok) : qU (.inl i) (.int i t) = true := by simp [qU, Value.isInt]
theorem tu (x : Str) (t : Tok) : qU (.inr x) (.str x t) = true := by simp [qU, Value.isStrOf]
theorem AZ (a b : Int) : decide ((Sum.inl a : Key) = Sum.inl b) = (a == b) := by
 by_cases e : a = b
 ·subst e; simp
 ·have h : ¬ (Sum.inl a : Key) = Sum.inl b := fun q => e (Sum.inl.inj q)
  rw [decide_eq_false h]
  exact (beq_eq_false_iff_ne.mpr e).symm
theorem AW (a b : Str) : decide ((Sum.inr a : Key) = Sum.inr b) = decide (a = b) := by
 by_cases e : a = b
 ·subst e; simp
 ·have h : ¬ (Sum.inr a : Key) = Sum.inr b := fun q => e (Sum.inr.inj q)
  rw [decide_eq_false h, decide_eq_false e]
theorem AY (a : Int) (b : Str) : decide ((Sum.inl a : Key) = Sum.inr b) = false := decide_eq_false (fun q => nomatch q)
theorem AX (a : Str) (b : Int) : decide ((Sum.inr a : Key) = Sum.inl b) = false := decide_eq_false (fun q => nomatch q)
noncomputable def dN (prog : Program) (w : World) : PySem.KeyKind prog w Key where
 is := qU
 hash := EZ w
 inj := fun v a b ha hb => by
  rcases cg ha with ⟨i, t, rfl, rfl⟩ | ⟨x, t, rfl, rfl⟩
  ·rcases cg hb with ⟨j, u, rfl, e⟩ | ⟨y, u, rfl, e⟩
   ·injection e with e1 _; rw [e1]
   ·exact nomatch e
  ·rcases cg hb with ⟨j, u, rfl, e⟩ | ⟨y, u, rfl, e⟩
   ·exact nomatch e
   ·injection e with e1 _; rw [e1]
 byValue := fun k v h => by
  rcases cg h with ⟨i, t, rfl, rfl⟩ | ⟨x, t, rfl, rfl⟩ <;> rfl
 pyHash := fun hv h => by
  rcases cg hv with ⟨i, t, rfl, rfl⟩ | ⟨x, t, rfl, rfl⟩
  ·exact wpAny_pyHash_int h
  ·exact wpAny_pyHash_str h
 eqBool := fun hu hv h => by
  rcases cg hu with ⟨i, t, rfl, rfl⟩ | ⟨x, t, rfl, rfl⟩
  ·rcases cg hv with ⟨j, u, rfl, rfl⟩ | ⟨y, u, rfl, rfl⟩
   ·rw [AZ] at h; exact wpAny_eqBool_int h
   ·rw [AY] at h; exact SeqAt.EqAt.int_str i t y u _ _ _ _ h
  ·rcases cg hv with ⟨j, u, rfl, rfl⟩ | ⟨y, u, rfl, rfl⟩
   ·rw [AX] at h; exact SeqAt.EqAt.str_int x t j u _ _ _ _ h
   ·rw [AW] at h; exact wpAny_eqBool_str h
 «strs» := fun k x t v h => by
  rcases cg h with ⟨i, u, rfl, e⟩ | ⟨y, u, rfl, e⟩
  ·exact nomatch e
  ·injection e with e1 _
   subst e1
   cases v <;> rfl
theorem oJ (prog : Program) (w : World) (i : Int) (t : Tok) : (dN prog w).is (.inl i) (.int i t) = true := tw i t
theorem oI (prog : Program) (w : World) (x : Str) (t : Tok) : (dN prog w).is (.inr x) (.str x t) = true := tu x t
inductive V where
 | non | bl (b : Bool) | int (i : Int) | str (x : Str) | byt (b : Array UInt8) | flt (b : UInt64) | ref (a : Addr) | ty (n : String)
 deriving DecidableEq
noncomputable def dv : V → Value → Prop
 | .non, u => u = Value.none
 | .bl b, u => u = Value.bool b
 | .int i, u => ∃ t, u = Value.int i t
 | .str x, u => ∃ t, u = Value.str x t
 | .byt b, u => ∃ t, u = Value.bytes b t
 | .flt b, u => ∃ t, u = Value.float b t
 | .ref a, u => u = Value.ref a
 | .ty n, u => u = Value.type n
noncomputable abbrev cL : List V → List Value → Prop := Paired dv
theorem cL.length {xs : List V} {us : List Value} (r : cL xs us) : xs.length = us.length := Paired.length r
theorem cL.get : ∀ {xs : List V} {us : List Value} {i : Nat} {x : V}, cL xs us → xs[i]? = some x → ∃ u, us[i]? = some u ∧ dv x u
 | _, _, _, _, .nil, e => by simp at e
 | _, _, 0, _, .cons r _, e => by simp at e; subst e; exact ⟨_, rfl, r⟩
 | _, _, i + 1, x, .cons _ t, e => by
  obtain ⟨u, h1, h2⟩ := cL.get (i := i) (x := x) t (by simpa using e)
  exact ⟨u, by simpa using h1, h2⟩
theorem cL.set {x : V} {u : Value} (r : dv x u) : ∀ {xs : List V} {us : List Value} (i : Nat), cL xs us → cL (xs.set i x) (us.set i u)
 | _, _, _, .nil => .nil
 | _, _, 0, .cons _ t => .cons r t
 | _, _, i + 1, .cons q t => .cons q (cL.set r i t)
theorem cL.append : ∀ {xs ys : List V} {us ws : List Value}, cL xs us → cL ys ws → cL (xs ++ ys) (us ++ ws)
 | _, _, _, _, .nil, s => s
 | _, _, _, _, .cons r t, s => .cons r (cL.append t s)
theorem cL.take : ∀ {xs : List V} {us : List Value} (n : Nat), cL xs us → cL (xs.take n) (us.take n)
 | _, _, 0, _ => .nil
 | _, _, _ + 1, .nil => .nil
 | _, _, n + 1, .cons r t => .cons r (cL.take n t)
theorem cL.drop : ∀ {xs : List V} {us : List Value} (n : Nat), cL xs us → cL (xs.drop n) (us.drop n)
 | _, _, 0, r => r
 | _, _, _ + 1, .nil => .nil
 | _, _, n + 1, .cons _ t => cL.drop n t
noncomputable def ux : Option V → Option Value → Prop
 | some v, some u => dv v u
 | none, none => True
 | _, _ => False
noncomputable def KV {κ : Type} : List (κ × V) → List (κ × Value) → Prop := Paired fun (p : κ × V) (q : κ × Value) => p.1 = q.1 ∧ dv p.2 q.2
noncomputable def kV : Key → V
 | .inl i => .int i
 | .inr x => .str x
inductive HO where
 | lst (xs : List V)
 | tup (xs : List V)
 | dK (kvs : List (Key × V)) | dT (kvs : List (List Key × V))
 | set (S : Int → Bool) (n : Nat)
 | ins (C dx : Addr) (fs : List (Str × V))
 | own (x : Addr)
 | xd (fs : List (Str × V))
 | met (f x : Addr)
 | rng (lo hi : Int)
 | frz (o : Obj) (u : HO)
 | tbl (ps : Array Value)
 | ext (φ : Heap → Prop)
noncomputable abbrev Hp := Addr → Option HO
noncomputable def upd (H : Hp) (a : Addr) (o : HO) : Hp := fun b => if b = a then some o else H b
theorem bQ {H : Hp} {a : Addr} {o : HO} : upd H a o a = some o := by unfold upd; rw [if_pos rfl]
theorem cy {H : Hp} {a b : Addr} {o : HO} (h : b ≠ a) : upd H a o b = H b := by unfold upd; rw [if_neg h]
theorem Di {H : Hp} {a b : Addr} {o u : HO} (h : H a = some o) (h' : H b = some u) (d : o ≠ u) : a ≠ b := by
 intro e; subst e; rw [h] at h'; exact d (Option.some.inj h')
theorem cM {H : Hp} {a b : Addr} {o : HO} (h : H a = some o) (h' : H b = none) : a ≠ b := by
 intro e; subst e; rw [h] at h'; cases h'
section
variable (P : Program) (w : World)
noncomputable def dX (H : Hp) (h : Heap) (a : Addr) : HO → Prop
 | .lst xs => xs.length ≤ sizeLine ∧ ∃ (its : List Value) (n : Nat), cL xs its ∧ h.get? a = some { cls := .type "list", data := .seq its.toArray n }
 | .tup xs => xs.length ≤ sizeLine ∧ ∃ its : List Value, cL xs its ∧ IsTup h a its.toArray
 | .dK kvs => kvs.length ≤ sizeLine ∧ (a == sysModules) = false ∧ ∃ vs, KV kvs vs ∧ h.DictOf (dN P w) a vs
 | .dT kvs => kvs.length ≤ sizeLine ∧ (a == sysModules) = false ∧ ∃ xs : List (List Key × Addr × Value),
   Paired (fun (p : List Key × V) (q : List Key × Addr × Value) => p.1 = q.1 ∧ H q.2.1 = some (.tup (p.1.map kV)) ∧ dv p.2 q.2.2) kvs xs ∧
   ∃ o es ep, h.get? a = some o ∧ o.ExactDict ∧ o.data = .dict es ep ∧ es.toList = xs.map (entryOfKey (tupleKind (dN P w))) ∧ (xs.map (·.1)).Nodup
 | .set S n => h.SetOf (intKind P w) a S n
 | .ins C dx fs => H dx = some (.own a) ∧ fs.length ≤ 1000 ∧ dx ≠ a ∧ h.get? a = some (PySem.W.instObj C dx) ∧
   ∃ mA, h.Ns1 dx mA ∧ (∀ f, ux (fs.lookup f) (mA f)) ∧ PySem.Within mA (fs.map (·.1))
 | .own _ => ∃ o, h.get? a = some o
 | .xd fs => ∃ mA, h.Ns1 a mA ∧ ∀ f, ux (fs.lookup f) (mA f)
 | .rng lo hi => ∃ t u v, h.get? a = some { cls := .type "range", data := .fields #[.int lo t, .int hi u, .int 1 v] }
 | .frz o u => h.get? a = some o ∧ dX H h a u
 | .tbl ps => h.get? a = some { cls := .none, data := .fields ps }
 | .met f x => h.get? a = some (PySem.W.methodObj (.ref f) (.ref x))
 | .ext φ => φ h ∧ (∃ o, h.get? a = some o) ∧ ∀ h1 h2 : Heap, φ h1 → (∀ o, h1.get? a = some o → h2.get? a = some o) → φ h2
noncomputable def HOk (H : Hp) (h : Heap) : Prop := ∀ a o, H a = some o → dX P w H h a o
end
section
variable {P : Program} {w : World} {H H' : Hp} {h h' : Heap} {a : Addr} {o : HO}
theorem dX.lt (x : dX P w H h a o) : a < h.objs.size := by
 cases o with
 | lst xs => obtain ⟨_, _, _, _, e⟩ := x; exact Heap.lt_size e
 | tup xs => obtain ⟨_, _, _, p⟩ := x; exact p.lt
 | dK kvs => obtain ⟨_, _, _, _, o, _, _, e, _⟩ := x; exact Heap.lt_size e
 | dT kvs => obtain ⟨_, _, _, _, o, _, _, e, _⟩ := x; exact Heap.lt_size e
 | set S n => obtain ⟨o, _, _, _, e, _⟩ := x; exact Heap.lt_size e
 | ins C dx fs => obtain ⟨_, _, _, e, _⟩ := x; exact Heap.lt_size e
 | own y => obtain ⟨_, e⟩ := x; exact Heap.lt_size e
 | xd fs => obtain ⟨_, ⟨_, _, _, e, _⟩, _⟩ := x; exact Heap.lt_size e
 | rng lo hi => obtain ⟨_, _, _, e⟩ := x; exact Heap.lt_size e
 | frz ob u => obtain ⟨e, _⟩ := x; exact Heap.lt_size e
 | tbl ps => exact Heap.lt_size (show h.get? a = some _ from x)
 | met f y => exact Heap.lt_size (show h.get? a = some _ from x)
 | ext φ => obtain ⟨_, ⟨_, e⟩, _⟩ := x; exact Heap.lt_size e
theorem Paired.mapP {α β : Type} {F G : α → β → Prop} : ∀ {l₁ : List α} {l₂ : List β}, Paired F l₁ l₂ → (∀ a b, F a b → G a b) → Paired G l₁ l₂
 | _, _, .nil, _ => .nil
 | _, _, .cons r t, f => .cons (f _ _ r) (Paired.mapP t f)
theorem dX.stay (x : dX P w H h a o) (k : ∀ b u, (b = a ∨ H b = some (.own a)) → h.get? b = some u → h'.get? b = some u)
  (ho : ∀ b, H b = some (.own a) → H' b = some (.own a)) (ht : ∀ b xs, H b = some (.tup xs) → H' b = some (.tup xs)) : dX P w H' h' a o := by
 induction o with
 | lst xs => obtain ⟨z, its, n, r, e⟩ := x; exact ⟨z, its, n, r, k _ _ (.inl rfl) e⟩
 | tup xs => obtain ⟨z, its, r, ob, e, c⟩ := x; exact ⟨z, its, r, ob, k _ _ (.inl rfl) e, c⟩
 | dK kvs => obtain ⟨z, y, vs, r, ob, es, ep, e, c⟩ := x; exact ⟨z, y, vs, r, ob, es, ep, k _ _ (.inl rfl) e, c⟩
 | dT kvs =>
  obtain ⟨z, y, xs, r, ob, es, ep, e, c⟩ := x
  exact ⟨z, y, xs, Paired.mapP r fun p q z => ⟨z.1, ht _ _ z.2.1, z.2.2⟩, ob, es, ep, k _ _ (.inl rfl) e, c⟩
 | set S n => obtain ⟨ob, es, ep, t, e, c⟩ := x; exact ⟨ob, es, ep, t, k _ _ (.inl rfl) e, c⟩
 | ins C dx fs =>
  obtain ⟨d, z, ne, e, mA, ⟨od, es, ep, e2, c⟩, r⟩ := x
  exact ⟨ho _ d, z, ne, k _ _ (.inl rfl) e, mA, ⟨od, es, ep, k _ _ (.inr d) e2, c⟩, r⟩
 | own y => obtain ⟨ob, e⟩ := x; exact ⟨ob, k _ _ (.inl rfl) e⟩
 | xd fs => obtain ⟨mA, ⟨od, es, ep, e, c⟩, r⟩ := x; exact ⟨mA, ⟨od, es, ep, k _ _ (.inl rfl) e, c⟩, r⟩
 | rng lo hi => obtain ⟨t, u, v, e⟩ := x; exact ⟨t, u, v, k _ _ (.inl rfl) e⟩
 | frz ob u ih => obtain ⟨e, q⟩ := x; exact ⟨k _ _ (.inl rfl) e, ih q⟩
 | tbl ps =>
  have e : h.get? a = some { cls := .none, data := .fields ps } := x
  show h'.get? a = some { cls := .none, data := .fields ps }
  exact k a _ (.inl rfl) e
 | met f y =>
  have e : h.get? a = some (PySem.W.methodObj (.ref f) (.ref y)) := x
  show h'.get? a = some (PySem.W.methodObj (.ref f) (.ref y))
  exact k a _ (.inl rfl) e
 | ext φ => obtain ⟨p, ⟨o, e⟩, st⟩ := x; exact ⟨st _ _ p fun o q => k _ _ (.inl rfl) q, ⟨o, k _ _ (.inl rfl) e⟩, st⟩
theorem HOk.lt (x : HOk P w H h) (e : H a = some o) : a < h.objs.size := (x a o e).lt
theorem HOk.fresh (x : HOk P w H h) (e : h.objs.size ≤ a) : H a = none := by
 cases q : H a with
 | none => rfl
 | some u => exact absurd (Nat.lt_of_lt_of_le (x.lt q) e) (Nat.lt_irrefl _)
theorem HOk.kept (x : HOk P w H h) (k : ∀ b u, h.get? b = some u → h'.get? b = some u) : HOk P w H h' := fun a o e =>
 (x a o e).stay (fun b u _ q => k b u q) (fun _ q => q) fun _ _ q => q
theorem HOk.laid (x : HOk P w H h) (k : ∀ b u, h.get? b = some u → h'.get? b = some u) (hp : h.objs.size ≤ a) (new : dX P w (upd H a o) h' a o) : HOk P w (upd H a o) h' := fun b u e => by
 have hn := x.fresh hp
 by_cases hb : b = a
 ·subst hb; rw [bQ] at e; cases e; exact new
 ·rw [cy hb] at e
  exact (x b u e).stay (fun c v _ q => k c v q) (fun c q => by rw [cy (cM q hn)]; exact q) fun c xs q => by rw [cy (cM q hn)]; exact q
end
noncomputable def Rd (H : Hp) (a : Addr) (u : HO) : Prop := H a = some u ∨ ∃ o, H a = some (.frz o u)
theorem Rd.ok {P : Program} {w : World} {H : Hp} {h : Heap} {a : Addr} {u : HO} (r : Rd H a u) (x : HOk P w H h) : dX P w H h a u := by
 rcases r with r | ⟨o, r⟩
 ·exact x a u r
 ·obtain ⟨_, q⟩ := x a _ r
  exact q
noncomputable def Mut : Option HO → Prop
 | some (.lst _) => True
 | some (.dK _) => True
 | some (.dT _) => True
 | some (.set _ _) => True
 | some (.ins _ _ _) => True
 | some (.ext _) => True
 | _ => False
section
variable {P : Program} {w : World} {H : Hp} {h h' : Heap} {x e : Addr} {o' : HO}
theorem HOk.write (ok : HOk P w H h) (mu : Mut (H x)) (he : e = x ∨ H e = some (.own x)) (k : ∀ b u, b ≠ e → h.get? b = some u → h'.get? b = some u) (heo : ∃ u, h'.get? e = some u)
  (new : dX P w (upd H x o') h' x o') : HOk P w (upd H x o') h' := fun b u q => by
 have nown : ∀ c y, H c = some (.own y) → c ≠ x := fun c y r z => by subst z; rw [r] at mu; exact mu
 have ntup : ∀ c xs, H c = some (.tup xs) → c ≠ x := fun c xs r z => by subst z; rw [r] at mu; exact mu
 by_cases hb : b = x
 ·subst hb; rw [bQ] at q; cases q; exact new
 ·rw [cy hb] at q
  by_cases hbe : b = e
  ·have q' : H b = some (.own x) := by
    rcases he with z | z
    ·exact absurd (hbe.trans z) hb
    ·rw [hbe]; exact z
   rw [q] at q'; cases q'
   obtain ⟨v, hv⟩ := heo
   exact ⟨v, by rw [hbe]; exact hv⟩
  ·refine (ok b u q).stay (fun c v hc r => k c v ?_ r) (fun c r => by rw [cy (nown c b r)]; exact r) fun c xs r => by rw [cy (ntup c xs r)]; exact r
   rcases hc with rfl | hc
   ·exact hbe
   ·rintro rfl
    rcases he with z | z
    ·exact nown c b hc z
    ·rw [hc] at z; cases z; exact hb rfl
end
structure Un (fs ex : List Addr) (H H' : Hp) (h h' : Heap) : Prop where
 keep : ∀ b o, h.get? b = some o → H b = none → b ∉ fs → b ∉ ex → h'.get? b = some o
 slot : ∀ b o, h.get? b = some o → H b = none → b ∈ fs → b ∉ ex → ∃ sl, h'.get? b = some { o with slots := sl }
 free : ∀ b o, h.get? b = some o → H b = none → b ∉ ex → H' b = none
 there : ∀ b o, h.get? b = some o → b ∉ ex → ∃ o', h'.get? b = some o'
 tups : ∀ b xs, H b = some (.tup xs) → H' b = some (.tup xs)
 frzs : ∀ b o u, H b = some (.frz o u) → H' b = some (.frz o u)
 tbls : ∀ b ps, H b = some (.tbl ps) → ∃ more, H' b = some (.tbl (ps ++ more))
section
variable {fs fs' ex ex' : List Addr} {H H1 H2 : Hp} {h h1 h2 h' : Heap} {a x e : Addr} {o : HO}
theorem Un.any (u : Un fs ex H H1 h h1) {b : Addr} {ob : Obj} (q : h.get? b = some ob) (n : H b = none) (hx : b ∉ ex) : ∃ sl, h1.get? b = some { ob with slots := sl } := by
 by_cases hb : b ∈ fs
 ·exact u.slot b ob q n hb hx
 ·exact ⟨ob.slots, u.keep b ob q n hb hx⟩
theorem Un.kept (k : ∀ b u, h.get? b = some u → h'.get? b = some u) : Un fs ex H H h h' :=
 ⟨fun b ob q _ _ _ => k b ob q, fun b ob q _ _ _ => ⟨ob.slots, k b ob q⟩, fun _ _ _ n _ => n, fun b ob q _ => ⟨ob, k b ob q⟩, fun _ _ q => q, fun _ _ _ q => q, fun _ ps q => ⟨#[], by rw [q]; simp⟩⟩
theorem Un.refl : Un fs ex H H h h := Un.kept fun _ _ q => q
theorem Un.laid (k : ∀ b u, h.get? b = some u → h'.get? b = some u) (hp : h.objs.size ≤ a) (hn : H a = none) : Un fs ex H (upd H a o) h h' where
 keep := fun b u q _ _ _ => k b u q
 slot := fun b u q _ _ _ => ⟨u.slots, k b u q⟩
 free := fun b u q n _ => by rw [cy (Nat.ne_of_lt (Nat.lt_of_lt_of_le (Heap.lt_size q) hp))]; exact n
 there := fun b u q _ => ⟨u, k b u q⟩
 tups := fun b xs q => by rw [cy (cM q hn)]; exact q
 frzs := fun b u xs q => by rw [cy (cM q hn)]; exact q
 tbls := fun b ps q => ⟨#[], by rw [cy (cM q hn), q]; simp⟩
theorem Un.write (mu : Mut (H x)) (he : e = x ∨ H e = some (.own x)) (k : ∀ b u, b ≠ e → h.get? b = some u → h'.get? b = some u) (heo : ∃ u, h'.get? e = some u) : Un fs ex H (upd H x o) h h' := by
 have hx : ∀ b, H b = none → b ≠ x := fun b n z => by subst z; rw [n] at mu; exact mu
 have hb : ∀ b, H b = none → b ≠ e := fun b n z => by
  subst z
  rcases he with r | r
  ·exact hx b n r
  ·rw [n] at r; cases r
 have hm : ∀ b u, H b = some u → ¬ Mut (some u) → b ≠ x := fun b u q nm z => by subst z; rw [q] at mu; exact nm mu
 refine ⟨fun b u q n _ _ => k b u (hb b n) q, fun b u q n _ _ => ⟨u.slots, k b u (hb b n) q⟩, fun b u q n _ => by rw [cy (hx b n)]; exact n, fun b u q _ => ?_,
  fun b xs q => by rw [cy (hm b _ q fun z => z)]; exact q, fun b u xs q => by rw [cy (hm b _ q fun z => z)]; exact q, fun b ps q => ⟨#[], by rw [cy (hm b _ q fun z => z), q]; simp⟩⟩
 by_cases hbe : b = e
 ·subst hbe; exact heo
 ·exact ⟨u, k b u hbe q⟩
end
noncomputable def trk (h : Heap) (H : Hp) : List Addr := (List.range h.objs.size).filter fun a => (H a).isSome
noncomputable def vS (h : Heap) (H : Hp) : Heap := PySem.W.hideAll h (trk h H)
theorem tM (h : Heap) (H : Hp) : (vS h H).objs.size = h.objs.size := PySem.W.hideAll_size _ _
theorem vR {h : Heap} {H : Hp} {b : Addr} {o : Obj} (e : h.get? b = some o) (n : H b = none) : (vS h H).get? b = some o :=
 PySem.W.hideAll_get _ e fun hm => by
  have q : (H b).isSome = true := (List.mem_filter.mp hm).2
  rw [n] at q; simp at q
theorem yt {h : Heap} {H : Hp} {b : Addr} {o : Obj} (e : (vS h H).get? b = some o) : h.get? b = some o ∧ H b = none := by
 have e' : h.get? b = some o := PySem.W.of_hideAll (trk h H) e
 refine ⟨e', ?_⟩
 cases q : H b with
 | none => rfl
 | some x =>
  have hm : b ∈ trk h H := List.mem_filter.mpr ⟨List.mem_range.mpr (Heap.lt_size e'), by simp [q]⟩
  have z : (vS h H).get? b = none := PySem.W.hideAll_none (trk h H) hm
  rw [z] at e; cases e
structure Mod (K : PySem.W.Frag) (mg : Str → Option Value) (base : Heap) : Prop where
 kin : K.In base
 glob : base.Ns mainGlobals mg
 blt : ∃ mb, base.Ns builtinsNs mb ∧ ∀ x : Str, x ≠ "__name__" → mb x = bootBuiltins x
 nolimit : base.NoLimit
structure Cx where
 prog : Program
 w : World
 K : PySem.W.Frag
 mg : Str → Option Value
 base : Heap
 A : Around
 N : List Str
 s₀ : Shared
 H₀ : Hp
 env : Env
 outer : List Env
 stack : List Env
 ex : List Addr
 fn : Str → Bool
 calm : Bool
 pn : List (Addr × Obj)
 xe : Value → Shared → Prop
noncomputable def frs (l : List Env) : List Addr := l.filterMap (·.frame)
noncomputable abbrev Cx.fs (X : Cx) : List Addr := frs X.outer
noncomputable def Vis (sc : Scope) (x : Str) : Prop := sc.names.lookup x = some .local ∨ sc.names.lookup x = some .cell ∨ sc.names.lookup x = some .free
noncomputable def Loc (sc : Scope) (x : Str) : Prop := sc.names.lookup x = some .local ∨ sc.names.lookup x = some .cell
noncomputable def Ff (env : Env) (h : Heap) (m : Str → Option Value) (x : Str) (u : Value) : Prop :=
 (env.kindOf x = some .local ∧ m x = some u) ∨ ((env.kindOf x = some .cell ∨ env.kindOf x = some .free) ∧ ∃ c, env.cells.lookup x = some c ∧ h.IsCell c (some u))
structure Cx.Ok (X : Cx) : Prop where
 mod : Mod X.K X.mg X.base
 kind : X.env.scope.kind = .function
 glob : X.env.globals = mainGlobals
 blt : X.env.builtins = builtinsNs
 above : X.s₀.heap.objs.size ≤ X.env.locals
 inj : ∀ x y c, X.env.cells.lookup x = some c → X.env.cells.lookup y = some c → x = y
 has : ∀ x, (X.env.kindOf x = some .cell ∨ X.env.kindOf x = some .free) → ∃ c, X.env.cells.lookup x = some c
 cab : ∀ x c, X.fn x = true → X.env.cells.lookup x = some c → X.s₀.heap.objs.size ≤ c
 hd : X.calm = true → X.A.handled = none
 frames : X.A.frames = some X.stack
 stk : X.stack = X.outer ∨ (X.stack = X.env :: X.outer ∧ X.env.frame = some X.env.locals)
 exf : ∀ b ∈ X.ex, b ≠ X.env.locals ∧ ∀ x c, X.env.cells.lookup x = some c → c ≠ b
 bs : ∀ b o, X.base.get? b = some o → X.s₀.heap.get? b = some o ∧ X.H₀ b = none
 bsz : X.base.objs.size ≤ X.s₀.heap.objs.size
 noex : ∀ b o, X.base.get? b = some o → b ∉ X.ex
 exfs : ∀ b ∈ X.ex, b ∉ X.fs
 funs : X.s₀.heap.FunFrames X.base X.outer
 frf : ∀ b ∈ X.fs, X.H₀ b = none
structure Inv (X : Cx) (pins : List (Addr × Obj)) (σ : List (Option V)) (H : Hp) (s : Shared) : Prop where
 ok : X.Ok
 os : s.os = X.s₀.os
 bare : AllBare s.gens
 base : Un X.fs X.ex X.H₀ H X.s₀.heap s.heap
 loc : ∃ m, s.heap.Ns X.env.locals m ∧ ∀ (i : Nat) (x : Str) (v : V), X.N[i]? = some x → σ[i]? = some (some v) → Vis X.env.scope x → ∃ u, dv v u ∧ Ff X.env s.heap m x u
 cell : ∀ x c, X.env.cells.lookup x = some c → ∃ v, s.heap.IsCell c v
 free : H X.env.locals = none
 freeC : ∀ x c, X.env.cells.lookup x = some c → H c = none
 pin : ∀ p ∈ X.pn ++ pins, s.heap.get? p.1 = some p.2 ∧ H p.1 = none ∧ p.1 ≠ X.env.locals ∧ p.1 ∉ X.fs ∧ ∀ v, p.2.data ≠ .cell v
 hok : HOk X.prog X.w H s.heap
 len : σ.length = X.N.length
section
variable {X : Cx} {pins : List (Addr × Obj)} {σ : List (Option V)} {H H' : Hp} {s : Shared} {h' : Heap}
theorem Cx.Ok.nofr (ok : X.Ok) {b : Addr} {o : Obj} (e : X.base.get? b = some o) : b ∉ X.fs := fun hb => by
 have := (ok.funs.mem hb).1
 rw [e] at this; cases this
theorem Inv.bs (I : Inv X pins σ H s) : ∀ b o, X.base.get? b = some o → s.heap.get? b = some o ∧ H b = none := fun b o e =>
 ⟨I.base.keep b o (I.ok.bs b o e).1 (I.ok.bs b o e).2 (I.ok.nofr e) (I.ok.noex b o e), I.base.free b o (I.ok.bs b o e).1 (I.ok.bs b o e).2 (I.ok.noex b o e)⟩
theorem Inv.bk (I : Inv X pins σ H s) : ∀ b o, X.base.get? b = some o → s.heap.get? b = some o := fun b o e => (I.bs b o e).1
theorem Inv.mod (I : Inv X pins σ H s) : Mod X.K X.mg X.base := I.ok.mod
theorem Inv.kIn (I : Inv X pins σ H s) : X.K.In s.heap := I.ok.mod.kin.keeps I.bk
theorem Inv.lt (I : Inv X pins σ H s) : X.env.locals < s.heap.objs.size := let ⟨_, hn, _⟩ := I.loc; hn.lt
theorem Inv.sz (I : Inv X pins σ H s) : X.s₀.heap.objs.size ≤ s.heap.objs.size := Nat.le_trans I.ok.above (Nat.le_of_lt I.lt)
theorem Inv.nofs (I : Inv X pins σ H s) {a : Addr} (h : s.heap.objs.size ≤ a) : a ∉ X.fs := fun hb => by
 obtain ⟨_, o, ho, _⟩ := I.ok.funs.mem hb
 exact absurd (Nat.lt_of_lt_of_le (Heap.lt_size ho) (Nat.le_trans I.sz h)) (Nat.lt_irrefl _)
theorem Inv.cne (I : Inv X pins σ H s) : ∀ x c, X.env.cells.lookup x = some c → c ≠ X.env.locals := fun x c e z => by
 obtain ⟨v, o, ho, hd⟩ := I.cell x c e
 obtain ⟨m, ⟨o', es, ep, ho', hd', _⟩, _⟩ := I.loc
 rw [z, ho'] at ho; cases ho; rw [hd'] at hd; cases hd
theorem Inv.funs (I : Inv X pins σ H s) : s.heap.FunFrames X.base X.outer := by
 have all : ∀ (l : List Env), (∀ b ∈ frs l, b ∈ X.fs) → X.s₀.heap.FunFrames X.base l → s.heap.FunFrames X.base l := by
  intro l
  induction l with
  | nil => intro _ _; trivial
  | cons env r ih =>
   intro hs hl
   obtain ⟨hk, ⟨L, o, hf, hn, ho, hd⟩, hr⟩ := hl
   have hL : L ∈ X.fs := hs L (by unfold frs; rw [List.filterMap_cons, hf]; exact List.mem_cons_self)
   obtain ⟨sl, e⟩ := I.base.slot L o ho (I.ok.frf L hL) hL fun z => I.ok.exfs L z hL
   exact ⟨hk, ⟨L, _, hf, hn, e, hd⟩, ih (fun b hb => hs b (by unfold frs; rw [List.filterMap_cons, hf]; exact List.mem_cons_of_mem _ hb)) hr⟩
 exact all X.outer (fun _ hb => hb) I.ok.funs
theorem Inv.stack (I : Inv X pins σ H s) : s.heap.FunFrames X.base X.stack := by
 rcases I.ok.stk with e | ⟨e, hf⟩
 ·rw [e]; exact I.funs
 ·rw [e]
  obtain ⟨m, hn, _⟩ := I.loc
  refine .cons (by rw [I.ok.kind]; decide) hf hn ?_ I.funs
  exact Heap.get?_none_of_le (Nat.le_trans I.ok.bsz I.ok.above)
theorem Inv.stkSub (I : Inv X pins σ H s) : ∀ b ∈ frs X.stack, b ∈ X.env.locals :: X.fs := fun b hb => by
 rcases I.ok.stk with e | ⟨e, hf⟩
 ·rw [e] at hb; exact List.mem_cons_of_mem _ hb
 ·rw [e] at hb
  unfold frs at hb
  rw [List.filterMap_cons, hf] at hb
  exact hb
theorem Inv.stkFree (I : Inv X pins σ H s) : ∀ b ∈ frs X.stack, H b = none := fun b hb => by
 rcases List.mem_cons.mp (I.stkSub b hb) with e | hb
 ·rw [e]; exact I.free
 ·obtain ⟨_, o, ho, _⟩ := I.ok.funs.mem hb
  exact I.base.free b o ho (I.ok.frf b hb) fun z => I.ok.exfs b z hb
theorem Inv.step {g' : Array GenState} {t' : Nat} {d' : Drawn} {ch : List Addr} (I : Inv X pins σ H s)
  (hch : ∀ b ∈ ch, (b ∈ X.ex ∨ X.s₀.heap.objs.size ≤ b) ∧ b ≠ X.env.locals ∧ (∀ x c, X.env.cells.lookup x = some c → c ≠ b) ∧ ∀ p ∈ X.pn ++ pins, p.1 ≠ b)
  (keep : ∀ b o, b ≠ X.env.locals → b ∉ X.fs → b ∉ ch → s.heap.get? b = some o → H b = none → h'.get? b = some o)
  (slot : ∀ b o, b ≠ X.env.locals → b ∈ X.fs → b ∉ ch → s.heap.get? b = some o → H b = none → ∃ sl, h'.get? b = some { o with slots := sl }) (free : ∀ b o, b ∉ ch → s.heap.get? b = some o → H b = none → H' b = none)
  (there : ∀ b o, b ∉ ch → s.heap.get? b = some o → ∃ o', h'.get? b = some o')
  (tups : ∀ b xs, H b = some (.tup xs) → H' b = some (.tup xs)) (frzs : ∀ b o u, H b = some (.frz o u) → H' b = some (.frz o u)) (tbls : ∀ b ps, H b = some (.tbl ps) → ∃ more, H' b = some (.tbl (ps ++ more)))
  (ns : ∀ m, s.heap.Ns X.env.locals m → h'.Ns X.env.locals m) (hok : HOk X.prog X.w H' h') (hg : AllBare g') :
  Inv X pins σ H' { s with heap := h', gens := g', drawn := d', toks := t' } := by
 have neL : ∀ b o, X.s₀.heap.get? b = some o → b ≠ X.env.locals := fun b o e => Nat.ne_of_lt (Nat.lt_of_lt_of_le (Heap.lt_size e) I.ok.above)
 have neC : ∀ b o, X.s₀.heap.get? b = some o → b ∉ X.ex → b ∉ ch := fun b o e hx hb => by
  rcases (hch b hb).1 with z | z
  ·exact hx z
  ·exact absurd (Nat.lt_of_lt_of_le (Heap.lt_size e) z) (Nat.lt_irrefl _)
 have cellK : ∀ x c, X.env.cells.lookup x = some c → ∀ v, s.heap.IsCell c v → h'.IsCell c v := fun x c e v ⟨o, ho, hd⟩ => by
  have nch : c ∉ ch := fun z => (hch c z).2.2.1 x c e rfl
  by_cases hc : c ∈ X.fs
  ·obtain ⟨sl, q⟩ := slot c o (I.cne x c e) hc nch ho (I.freeC x c e)
   exact ⟨_, q, hd⟩
  ·exact ⟨o, keep c o (I.cne x c e) hc nch ho (I.freeC x c e), hd⟩
 refine ⟨I.ok, I.os, hg, ⟨fun b o e n hb hx => ?_, fun b o e n hb hx => ?_, fun b o e n hx => ?_, fun b o e hx => ?_, fun b xs e => tups b xs (I.base.tups b xs e), fun b o xs e => frzs b o xs (I.base.frzs b o xs e), fun b ps e => ?_⟩, ?_, fun x c e => ?_, ?_, fun x c e => ?_, fun p hp => ?_, hok, I.len⟩
 ·exact keep b o (neL b o e) hb (neC b o e hx) (I.base.keep b o e n hb hx) (I.base.free b o e n hx)
 ·obtain ⟨sl, e1⟩ := I.base.slot b o e n hb hx
  obtain ⟨sl', e2⟩ := slot b _ (neL b o e) hb (neC b o e hx) e1 (I.base.free b o e n hx)
  exact ⟨sl', e2⟩
 ·obtain ⟨o', e1⟩ := I.base.there b o e hx
  exact free b o' (neC b o e hx) e1 (I.base.free b o e n hx)
 ·obtain ⟨o', e1⟩ := I.base.there b o e hx
  exact there b o' (neC b o e hx) e1
 ·obtain ⟨m1, e1⟩ := I.base.tbls b ps e
  obtain ⟨m2, e2⟩ := tbls b _ e1
  exact ⟨m1 ++ m2, by rw [e2, Array.append_assoc]⟩
 ·obtain ⟨m, hn, hl⟩ := I.loc
  refine ⟨m, ns m hn, fun i x v e1 e2 e3 => ?_⟩
  obtain ⟨u, r, l⟩ := hl i x v e1 e2 e3
  refine ⟨u, r, ?_⟩
  rcases l with l | ⟨k, c, e, z⟩
  ·exact .inl l
  ·exact .inr ⟨k, c, e, cellK x c e _ z⟩
 ·obtain ⟨v, z⟩ := I.cell x c e
  exact ⟨v, cellK x c e v z⟩
 ·obtain ⟨m, ⟨o, _, _, ho, _⟩, _⟩ := I.loc
  exact free _ o (fun z => (hch _ z).2.1 rfl) ho I.free
 ·obtain ⟨v, o, ho, hd⟩ := I.cell x c e
  exact free c o (fun z => (hch c z).2.2.1 x c e rfl) ho (I.freeC x c e)
 ·obtain ⟨e, n, ne, nf, d⟩ := I.pin p hp
  have nch : p.1 ∉ ch := fun z => (hch p.1 z).2.2.2 p hp rfl
  exact ⟨keep p.1 p.2 ne nf nch e n, free p.1 p.2 nch e n, ne, nf, d⟩
theorem Inv.un {t' : Nat} (I : Inv X pins σ H s) (u : Un X.fs [] H H' s.heap h') (hok : HOk X.prog X.w H' h') : Inv X pins σ H' { s with heap := h', toks := t' } := by
 obtain ⟨m, ⟨o, es, ep, ho, r⟩, _⟩ := id I.loc
 obtain ⟨sl, hL⟩ := u.any ho I.free (by simp)
 exact I.step (g' := s.gens) (d' := s.drawn) (ch := []) (fun _ z => nomatch z) (fun b o _ hb _ e n => u.keep b o e n hb (by simp)) (fun b o _ hb _ e n => u.slot b o e n hb (by simp)) (fun b o _ e n => u.free b o e n (by simp)) (fun b o _ e => u.there b o e (by simp)) u.tups u.frzs u.tbls (fun m' hm => by
  obtain ⟨o', es', ep', ho', r'⟩ := hm
  rw [ho] at ho'; cases ho'
  exact ⟨_, es', ep', hL, r'⟩) hok I.bare
theorem Inv.call {g' : Array GenState} {t' : Nat} {d' : Drawn} {ch : List Addr} (I : Inv X pins σ H s) (u : Un (frs X.stack) ch H H' s.heap h') (hok : HOk X.prog X.w H' h') (hg : AllBare g')
  (hch : ∀ b ∈ ch, (b ∈ X.ex ∨ X.s₀.heap.objs.size ≤ b) ∧ b ≠ X.env.locals ∧ (∀ x c, X.env.cells.lookup x = some c → c ≠ b) ∧ ∀ p ∈ X.pn ++ pins, p.1 ≠ b) :
  Inv X pins σ H' { s with heap := h', gens := g', drawn := d', toks := t' } := by
 obtain ⟨m, ⟨o, es, ep, ho, r⟩, _⟩ := id I.loc
 obtain ⟨sl, hL⟩ := u.any ho I.free fun z => (hch _ z).2.1 rfl
 exact I.step (ch := ch) hch (fun b o hL hb hc e n => u.keep b o e n (fun z => (List.mem_cons.mp (I.stkSub b z)).elim hL hb) hc) (fun b o _ _ hc e n => u.any e n hc) (fun b o hc e n => u.free b o e n hc) (fun b o hc e => u.there b o e hc) u.tups u.frzs u.tbls (fun m' hm => by
  obtain ⟨o', es', ep', ho', r'⟩ := hm
  rw [ho] at ho'; cases ho'
  exact ⟨_, es', ep', hL, r'⟩) hok hg
theorem Inv.turned {t' : Nat} {it : Addr} (I : Inv X pins σ H s) (k : ∀ b o, b ≠ it → s.heap.get? b = some o → h'.get? b = some o) (hn : H it = none) (hL : it ≠ X.env.locals)
  (h1 : it ∈ X.ex ∨ X.s₀.heap.objs.size ≤ it) (h2 : ∀ x c, X.env.cells.lookup x = some c → c ≠ it) (h3 : ∀ p ∈ X.pn ++ pins, p.1 ≠ it) : Inv X pins σ H { s with heap := h', toks := t' } := by
 have nit : ∀ b u, H b = some u → b ≠ it := fun b u e z => by rw [z, hn] at e; cases e
 refine I.step (g' := s.gens) (d' := s.drawn) (ch := [it]) (fun b hb => ?_) (fun b o _ _ hc e _ => k b o (fun z => hc (by simp [z])) e) (fun b o _ _ hc e _ => ⟨o.slots, k b o (fun z => hc (by simp [z])) e⟩) (fun _ _ _ _ n => n)
  (fun b o hc e => ⟨o, k b o (fun z => hc (by simp [z])) e⟩) (fun _ _ e => e) (fun _ _ _ e => e) (fun b ps e => ⟨#[], by rw [e]; simp⟩) (fun m hm => ?_) (fun b u e => ?_) I.bare
 ·have e : b = it := by simpa using hb
  subst e
  exact ⟨h1, hL, h2, h3⟩
 ·obtain ⟨o, es, ep, ho, r⟩ := hm
  exact ⟨o, es, ep, k _ o (Ne.symm hL) ho, r⟩
 ·refine (I.hok b u e).stay (fun c v hc q => k c v ?_ q) (fun _ q => q) fun _ _ q => q
  rcases hc with z | z
  ·rw [z]; exact nit b u e
  ·exact nit c _ z
theorem Inv.tok (I : Inv X pins σ H s) (t : Nat) : Inv X pins σ H { s with toks := t } := I.un (h' := s.heap) (t' := t) Un.refl I.hok
theorem Inv.kept {t' : Nat} (I : Inv X pins σ H s) (k : ∀ b u, s.heap.get? b = some u → h'.get? b = some u) : Inv X pins σ H { s with heap := h', toks := t' } := I.un (Un.kept k) (I.hok.kept k)
theorem Inv.laid {a : Addr} {o : HO} {t' : Nat} (I : Inv X pins σ H s) (k : ∀ b u, s.heap.get? b = some u → h'.get? b = some u) (hp : s.heap.objs.size ≤ a) (new : dX X.prog X.w (upd H a o) h' a o) :
  Inv X pins σ (upd H a o) { s with heap := h', toks := t' } := I.un (Un.laid k hp (I.hok.fresh hp)) (I.hok.laid k hp new)
theorem Inv.write {x e : Addr} {o : HO} {t' : Nat} (I : Inv X pins σ H s) (mu : Mut (H x)) (he : e = x ∨ H e = some (.own x)) (k : ∀ b u, b ≠ e → s.heap.get? b = some u → h'.get? b = some u) (heo : ∃ u, h'.get? e = some u)
  (new : dX X.prog X.w (upd H x o) h' x o) : Inv X pins σ (upd H x o) { s with heap := h', toks := t' } := I.un (Un.write mu he k heo) (I.hok.write mu he k heo new)
theorem Inv.pins_of {pins' : List (Addr × Obj)} (I : Inv X pins σ H s) (h : ∀ p ∈ pins', s.heap.get? p.1 = some p.2 ∧ H p.1 = none ∧ p.1 ≠ X.env.locals ∧ p.1 ∉ X.fs ∧ ∀ v, p.2.data ≠ .cell v) : Inv X pins' σ H s :=
 ⟨I.ok, I.os, I.bare, I.base, I.loc, I.cell, I.free, I.freeC, fun p hp => (List.mem_append.mp hp).elim (fun z => I.pin p (List.mem_append_left _ z)) (h p), I.hok, I.len⟩
theorem p7 {N : List Str} (hN : N.Nodup) {i j : Nat} {x : Str} (a : N[i]? = some x) (b : N[j]? = some x) : i = j := by
 obtain ⟨h1, e1⟩ := List.getElem?_eq_some_iff.mp a
 obtain ⟨h2, e2⟩ := List.getElem?_eq_some_iff.mp b
 exact (List.getElem_inj hN).mp (e1.trans e2.symm)
theorem sk {M : Model} {A : Around} {E : Value → Shared → Prop} {i : Nat} {x : Str} {v : V} {u : Value} {Q : Unit → Shared → Prop} (I : Inv X pins σ H s) (hN : X.N.Nodup) (hi : X.N[i]? = some x) (hx : Loc X.env.scope x) (r : dv v u)
  (h : ∀ s', Inv X pins (σ.set i (some v)) H s' → (∃ a, Heap.SameBut a s.heap s'.heap ∧ (a = X.env.locals ∨ X.env.cells.lookup x = some a)) → Q () s') (hf : X.fn x = true ∨ X.env.scope.names.lookup x = some .local := by first | exact .inl rfl | exact .inr rfl | assumption) : wpAny M A (storeName X.env x u) Q E s := by
 obtain ⟨m, hn, hl⟩ := id I.loc
 have hcls : (X.env.scope.kind == .class || (X.env.scope.kind == .module && X.env.locals != X.env.globals)) = false := by rw [I.ok.kind]; rfl
 have hiσ : i < σ.length := by rw [I.len]; exact (List.getElem?_eq_some_iff.mp hi).1
 have cne := I.cne
 have tracked : ∀ {a : Addr} {h' : Heap}, (∃ o, s.heap.get? a = some o ∧ H a = none) → Heap.SameBut a s.heap h' → HOk X.prog X.w H h' := fun {a h'} ha hs b ob e => by
  obtain ⟨_, _, hfree⟩ := ha
  refine (I.hok b ob e).stay (fun c w' hc q => (hs.2 c ?_).trans q) (fun _ q => q) fun _ _ q => q
  rintro rfl
  rcases hc with rfl | hc
  ·rw [hfree] at e; cases e
  ·rw [hfree] at hc; cases hc
 rcases hx with hk | hk
 ·refine wpAny_storeName_local hk hn (fun h' hn' hs => ?_) hcls
  obtain ⟨oL, _, _, hoL, _⟩ := id hn
  refine h _ ⟨I.ok, I.os, I.bare, ⟨fun b o e n hb hx => ?_, fun b o e n hb hx => ?_, I.base.free, fun b o e hx => ?_, I.base.tups, I.base.frzs, I.base.tbls⟩, ⟨_, hn', fun j y v' e1 e2 e3 => ?_⟩, fun y c e => ?_, I.free, I.freeC, fun p hp => ?_, tracked ⟨oL, hoL, I.free⟩ hs, by simpa using I.len⟩ ⟨_, hs, .inl rfl⟩
  ·exact (hs.2 b (Nat.ne_of_lt (Nat.lt_of_lt_of_le (Heap.lt_size e) I.ok.above))).trans (I.base.keep b o e n hb hx)
  ·obtain ⟨sl, e1⟩ := I.base.slot b o e n hb hx
   exact ⟨sl, (hs.2 b (Nat.ne_of_lt (Nat.lt_of_lt_of_le (Heap.lt_size e) I.ok.above))).trans e1⟩
  ·obtain ⟨o', e1⟩ := I.base.there b o e hx
   exact ⟨o', (hs.2 b (Nat.ne_of_lt (Nat.lt_of_lt_of_le (Heap.lt_size e) I.ok.above))).trans e1⟩
  ·by_cases hj : j = i
   ·subst hj
    rw [hi] at e1; cases e1
    rw [List.getElem?_set_self hiσ] at e2
    cases e2
    exact ⟨u, r, .inl ⟨hk, by simp⟩⟩
   ·rw [List.getElem?_set_ne (Ne.symm hj)] at e2
    obtain ⟨u', r', q⟩ := hl j y v' e1 e2 e3
    refine ⟨u', r', ?_⟩
    rcases q with ⟨k, e⟩ | ⟨k, c, e, z⟩
    ·refine .inl ⟨k, ?_⟩
     have : y ≠ x := fun e => hj (p7 hN e1 (e ▸ hi))
     simp [this, e]
    ·exact .inr ⟨k, c, e, z.sameBut hs (cne y c e)⟩
  ·obtain ⟨w', z⟩ := I.cell y c e
   exact ⟨w', z.sameBut hs (cne y c e)⟩
  ·obtain ⟨e, n, ne, nf, d⟩ := I.pin p hp
   exact ⟨(hs.2 p.1 ne).trans e, n, ne, nf, d⟩
 ·have hfn : X.fn x = true := by
   rcases hf with z | z
   ·exact z
   ·rw [z] at hk; cases hk
  obtain ⟨c, hc⟩ := I.ok.has x (.inl hk)
  obtain ⟨w', z⟩ := I.cell x c hc
  refine wpAny_storeName_cell I.ok.kind hk hc z (fun h' hc' hs => ?_)
  obtain ⟨oc, hoc, hocd⟩ := id z
  refine h { s with heap := h' } ⟨I.ok, I.os, I.bare, ⟨fun b o e n hb hx => ?_, fun b o e n hb hx => ?_, I.base.free, fun b o e hx => ?_, I.base.tups, I.base.frzs, I.base.tbls⟩, ⟨m, hn.sameBut hs (Ne.symm (cne x c hc)), fun j y v' e1 e2 e3 => ?_⟩, fun y c' e => ?_, I.free, I.freeC, fun p hp => ?_, tracked ⟨oc, hoc, I.freeC x c hc⟩ hs, by simpa using I.len⟩ ⟨c, hs, .inr hc⟩
  ·exact (hs.2 b (Nat.ne_of_lt (Nat.lt_of_lt_of_le (Heap.lt_size e) (I.ok.cab x c hfn hc)))).trans (I.base.keep b o e n hb hx)
  ·obtain ⟨sl, e1⟩ := I.base.slot b o e n hb hx
   exact ⟨sl, (hs.2 b (Nat.ne_of_lt (Nat.lt_of_lt_of_le (Heap.lt_size e) (I.ok.cab x c hfn hc)))).trans e1⟩
  ·obtain ⟨o', e1⟩ := I.base.there b o e hx
   exact ⟨o', (hs.2 b (Nat.ne_of_lt (Nat.lt_of_lt_of_le (Heap.lt_size e) (I.ok.cab x c hfn hc)))).trans e1⟩
  ·by_cases hj : j = i
   ·subst hj
    rw [hi] at e1; cases e1
    rw [List.getElem?_set_self hiσ] at e2
    cases e2
    exact ⟨u, r, .inr ⟨.inl hk, c, hc, hc'⟩⟩
   ·rw [List.getElem?_set_ne (Ne.symm hj)] at e2
    obtain ⟨u', r', q⟩ := hl j y v' e1 e2 e3
    refine ⟨u', r', ?_⟩
    rcases q with q | ⟨k, c', e, z'⟩
    ·exact .inl q
    ·refine .inr ⟨k, c', e, z'.sameBut hs ?_⟩
     rintro rfl
     exact hj (p7 hN e1 (I.ok.inj _ _ _ e hc ▸ hi))
  ·by_cases hcc : c' = c
   ·subst hcc; exact ⟨_, hc'⟩
   ·obtain ⟨w2, z2⟩ := I.cell y c' e
    exact ⟨w2, z2.sameBut hs hcc⟩
  ·obtain ⟨e, n, ne, nf, d⟩ := I.pin p hp
   refine ⟨(hs.2 p.1 ?_).trans e, n, ne, nf, d⟩
   intro q
   rw [q, hoc] at e
   have q' : oc = p.2 := Option.some.inj e
   exact d w' (by rw [← q']; exact hocd)
theorem pS {M : Model} {A : Around} {E : Value → Shared → Prop} {i : Nat} {x : Str} {v : V} {u : Value} {Q : Unit → Shared → Prop} (I : Inv X pins σ H s) (hN : X.N.Nodup) (hi : X.N[i]? = some x) (hx : Loc X.env.scope x) (r : dv v u)
  (h : ∀ s', Inv X pins (σ.set i (some v)) H s' → Q () s') (hf : X.fn x = true ∨ X.env.scope.names.lookup x = some .local := by first | exact .inl rfl | exact .inr rfl | assumption) : wpAny M A (storeName X.env x u) Q E s :=
 sk I hN hi hx r (fun s' I' _ => h s' I') hf
theorem Inv.call' {s' : Shared} {ch : List Addr} (I : Inv X pins σ H s) (ho : s'.os = s.os) (u : Un (frs X.stack) ch H H' s.heap s'.heap) (hok : HOk X.prog X.w H' s'.heap) (hg : AllBare s'.gens)
  (hch : ∀ b ∈ ch, (b ∈ X.ex ∨ X.s₀.heap.objs.size ≤ b) ∧ b ≠ X.env.locals ∧ (∀ x c, X.env.cells.lookup x = some c → c ≠ b) ∧ ∀ p ∈ X.pn ++ pins, p.1 ≠ b) : Inv X pins σ H' s' := by
 obtain ⟨h', g', d', t', o'⟩ := s'
 have e : o' = s.os := ho
 subst e
 exact I.call (g' := g') (t' := t') (d' := d') u hok hg hch
end
noncomputable abbrev XK := Value → Option Addr → Hp → Prop
noncomputable abbrev St := List (Option V)
noncomputable abbrev VK := V → Hp → Prop
noncomputable abbrev TE := St → Hp → VK → Prop
noncomputable abbrev TT := St → Hp → (Bool → Hp → Prop) → Prop
noncomputable abbrev TA := St → Hp → (List V → Hp → Prop) → Prop
structure w4 where
 nx : St → Hp → Prop
 rt : VK
 bk : St → Hp → Prop := fun _ _ => False
 ct : St → Hp → Prop := fun _ _ => False
noncomputable abbrev TS := w4 → St → Hp → Prop
noncomputable def EP (X : Cx) (pins : List (Addr × Obj)) (σ : St) (Q : VK) (u : Value) (s' : Shared) : Prop := ∃ v H', Inv X pins σ H' s' ∧ dv v u ∧ Q v H'
noncomputable def TP (X : Cx) (pins : List (Addr × Obj)) (σ : St) (Q : Bool → Hp → Prop) (b : Bool) (s' : Shared) : Prop := ∃ H', Inv X pins σ H' s' ∧ Q b H'
noncomputable def AP (X : Cx) (pins : List (Addr × Obj)) (σ : St) (Q : List V → Hp → Prop) (us : List Value) (s' : Shared) : Prop := ∃ vs H', Inv X pins σ H' s' ∧ cL vs us ∧ Q vs H'
noncomputable def SP (X : Cx) (pins : List (Addr × Obj)) (D : w4) (f : Flow) (s' : Shared) : Prop :=
 match f with
 | .next => ∃ σ' H', Inv X pins σ' H' s' ∧ D.nx σ' H'
 | .brk => ∃ σ' H', Inv X pins σ' H' s' ∧ D.bk σ' H'
 | .cont => ∃ σ' H', Inv X pins σ' H' s' ∧ D.ct σ' H'
 | .ret u => ∃ v σ' H', Inv X pins σ' H' s' ∧ dv v u ∧ D.rt v H'
noncomputable def PE (X : Cx) (e : Expr) (t : TE) : Prop :=
 ∀ (pins : List (Addr × Obj)) (s : Shared) (σ : St) (H : Hp) (Q : VK), Inv X pins σ H s → t σ H Q → wpAny (model X.prog X.w) X.A (eval e X.env) (EP X pins σ Q) X.xe s
noncomputable def PT (X : Cx) (e : Expr) (t : TT) : Prop :=
 ∀ (pins : List (Addr × Obj)) (s : Shared) (σ : St) (H : Hp) (Q : Bool → Hp → Prop), Inv X pins σ H s → t σ H Q → wpAny (model X.prog X.w) X.A (isTrue e X.env (eval e X.env)) (TP X pins σ Q) X.xe s
noncomputable def PW (X : Cx) (e : Expr) (t : TT) : Prop :=
 ∀ (whole : Sem Value) (pins : List (Addr × Obj)) (s : Shared) (σ : St) (H : Hp) (Q : Bool → Hp → Prop), Inv X pins σ H s → t σ H Q → wpAny (model X.prog X.w) X.A (isTrue e X.env whole) (TP X pins σ Q) X.xe s
theorem PW.pt {X : Cx} {e : Expr} {t : TT} (h : PW X e t) : PT X e t := h _
noncomputable def PA (X : Cx) (es : List Expr) (t : TA) : Prop :=
 ∀ (pos : Pos) (pins : List (Addr × Obj)) (s : Shared) (σ : St) (H : Hp) (Q : List V → Hp → Prop), Inv X pins σ H s → t σ H Q → wpAny (model X.prog X.w) X.A (spliced (backTo pos (starEach es X.env))) (AP X pins σ Q) X.xe s
noncomputable def PS (X : Cx) (st : Stmt) (t : TS) : Prop :=
 ∀ (pins : List (Addr × Obj)) (s : Shared) (σ : St) (H : Hp) (D : w4), Inv X pins σ H s → t D σ H → wpAny (model X.prog X.w) X.A (exec st X.env) (SP X pins D) X.xe s
noncomputable def PSs (X : Cx) (st : List Stmt) (t : TS) : Prop :=
 ∀ (pins : List (Addr × Obj)) (s : Shared) (σ : St) (H : Hp) (D : w4), Inv X pins σ H s → t D σ H → wpAny (model X.prog X.w) X.A (execs st X.env) (SP X pins D) X.xe s
theorem thn {α : Type} {t : Sem α} {Q Q' : α → Shared → Prop} {M : Model} {A : Around} {E : Value → Shared → Prop} {s : Shared} (h : wpAny M A t Q E s) (hQ : ∀ a s, Q a s → Q' a s) : wpAny M A t Q' E s := wpAny_mono h hQ fun _ _ x => x
section
variable {X : Cx}
noncomputable def By (i : Nat) : TE := fun σ H Q => ∃ v, σ[i]? = some (some v) ∧ Q v H
noncomputable def tC (v : V) : TE := fun _ H Q => Q v H
theorem Au {i : Nat} {x : Str} {pos : Pos} (hN : X.N[i]? = some x) (hv : Vis X.env.scope x) (hd : (x == ("__debug__" : Str)) = false := by decide) (hcd : (x == ("__classdict__" : Str)) = false := by decide) : PE X (.Name x pos) (By i) := by
 intro pins s σ H Q I h
 obtain ⟨v, e, h⟩ := h
 obtain ⟨m, hn, hl⟩ := I.loc
 obtain ⟨u, r, l⟩ := hl i x v hN e hv
 have fin : EP X pins σ Q u s := ⟨v, H, I, r, h⟩
 rcases l with ⟨hk, hm⟩ | ⟨hk, c, hc, hcell⟩
 ·exact wpAny_Name (wpAny_loadName_local I.ok.kind hk hn hm fin) hd
 ·rcases hk with hk | hk
  ·exact wpAny_Name (wpAny_loadName_cell I.ok.kind hk hc hcell fin) hd
  ·exact wpAny_Name (wpAny_loadName_free I.ok.kind hk hc hcell fin hcd) hd
theorem AB {i j pos} : PE X (.Constant (.int i) j pos) (tC (.int i)) := fun _ _ _ H _ I h => wpAny_Constant_int ⟨.int i, H, I.tok _, ⟨_, rfl⟩, h⟩
theorem C7 {b j pos} : PE X (.Constant (.bool b) j pos) (tC (.bl b)) := fun _ _ _ H _ I h => Constant_bool ⟨.bl b, H, I, rfl, h⟩
theorem Az {j pos} : PE X (.Constant .none j pos) (tC .non) := fun _ _ _ H _ I h => Constant_none ⟨.non, H, I, rfl, h⟩
theorem Aw {x j pos} : PE X (.Constant (.str x) j pos) (tC (.str x)) := fun _ _ _ H _ I h => Calls.Constant_str ⟨.str x, H, I.tok _, ⟨_, rfl⟩, h⟩
noncomputable def Gl (X : Cx) (x : Str) : Prop := X.env.kindOf x = some .globalImplicit
theorem tq {E : Value → Shared → Prop} {pins : List (Addr × Obj)} {s : Shared} {σ : St} {H : Hp} {x : Str} {u : Value} {pos : Pos} {Q : Value → Shared → Prop} (I : Inv X pins σ H s) (hg : Gl X x) (hm : X.mg x = some u) (h : Q u s)
  (hd : (x == ("__debug__" : Str)) = false := by decide) : wpAny (model X.prog X.w) X.A (eval (.Name x pos) X.env) Q E s :=
 Calls.Name_function_global I.ok.kind hg (Calls.loadGlobal_global (by rw [I.ok.glob]; exact I.mod.glob.keeps I.bk) hm h) hd
theorem lW {E : Value → Shared → Prop} {pins : List (Addr × Obj)} {s : Shared} {σ : St} {H : Hp} {x : Str} {u : Value} {pos : Pos} {Q : Value → Shared → Prop} (I : Inv X pins σ H s) (hg : Gl X x) (hm : X.mg x = none) (hv : bootBuiltins x = some u) (h : Q u s)
  (hn : x ≠ "__name__" := by decide) (hd : (x == ("__debug__" : Str)) = false := by decide) : wpAny (model X.prog X.w) X.A (eval (.Name x pos) X.env) Q E s := by
 obtain ⟨mb, h1, h2⟩ := I.mod.blt
 exact Calls.Name_function_global I.ok.kind hg (Calls.loadGlobal_builtin (by rw [I.ok.glob]; exact I.mod.glob.keeps I.bk) hm (by rw [I.ok.blt]; exact h1.keeps I.bk) ((h2 x hn).trans hv) h) hd
theorem sQ {x : Str} {v : V} {u : Value} {pos : Pos} (hg : Gl X x) (hm : X.mg x = some u) (r : dv v u) (hd : (x == ("__debug__" : Str)) = false := by decide) : PE X (.Name x pos) (tC v) :=
 fun _ _ _ H _ I h => tq I hg hm ⟨v, H, I, r, h⟩ hd
theorem yf {x : Str} {v : V} {u : Value} {pos : Pos} (hg : Gl X x) (hm : X.mg x = none) (hv : bootBuiltins x = some u) (r : dv v u) (hn : x ≠ "__name__" := by decide) (hd : (x == ("__debug__" : Str)) = false := by decide) : PE X (.Name x pos) (tC v) :=
 fun _ _ _ H _ I h => lW I hg hm hv ⟨v, H, I, r, h⟩ hn hd
variable {a b : Expr} {ta tb : TE} {pos : Pos}
noncomputable def PC (X : Cx) (op : CmpOp) (a b : Expr) (t : TE) : Prop :=
 ∀ (pins : List (Addr × Obj)) (s : Shared) (σ : St) (H : Hp) (Q : VK), Inv X pins σ H s → t σ H Q →
  wpAny (model X.prog X.w) X.A (eval a X.env) (fun v s₁ => wpAny (model X.prog X.w) X.A (eval b X.env) (fun u s₂ => wpAny (model X.prog X.w) X.A (compareOp op v u) (EP X pins σ Q) X.xe s₂) X.xe s₁) X.xe s
noncomputable def tB (t : TE) : TT := fun σ H Q => t σ H fun x H1 => ∃ c, x = .bl c ∧ Q c H1
theorem AD {op : CmpOp} {t : TE} (h : PC X op a b t) (h1 : behindInMarks op b = false := by first | exact nobehind _ (by decide) (by decide) | rfl) : PE X (.Compare a [op] [b] pos) t := fun pins s σ H Q I hw => wpAny_Compare1 (h pins s σ H Q I hw) h1
theorem Ak {op : CmpOp} {t : TE} (h : PC X op a b t) (h1 : behindInMarks op b = false := by first | exact nobehind _ (by decide) (by decide) | rfl) : PT X (.Compare a [op] [b] pos) (tB t) := by
 intro pins s σ H Q I hw
 refine wpAny_isTrue_Compare1 (thn (h pins s σ H _ I hw) fun v s1 h1 => thn h1 fun u s2 h2 => thn h2 fun c s3 hz => ?_) h1
 obtain ⟨x, H1, I1, r1, q1⟩ := hz
 obtain ⟨d, rfl, q⟩ := q1
 cases r1
 exact wpAny_truthy_bool ⟨H1, I1, q⟩
theorem Ai {e : Expr} {t : TE} (h : PE X e t) (he : ∀ whole, isTrue e X.env whole = (do let v ← whole; standAt e.pos; holding [v] (truthy v)) := by intro _; rfl) : PT X e (tB t) := by
 intro pins s σ H Q I hw
 refine isTrue_plain (thn (h pins s σ H _ I hw) fun v s1 ⟨x, H1, I1, r1, q1⟩ => ?_) (he _)
 obtain ⟨d, rfl, q⟩ := q1
 cases r1
 exact wpAny_truthy_bool ⟨H1, I1, q⟩
variable {tA tB' : TT} {rest : List Expr}
noncomputable def D8 (t u : TT) : TT := fun σ H Q => t σ H fun c H1 => if c = true then u σ H1 Q else Q false H1
noncomputable def tOr (t u : TT) : TT := fun σ H Q => t σ H fun c H1 => if c = true then Q true H1 else u σ H1 Q
noncomputable def D3 (t : TT) : TT := fun σ H Q => t σ H fun c H1 => Q (!c) H1
theorem xV (ha : PT X a tA) : PW X (.BoolOp .And [a] pos) tA := by
 intro wh pins s σ H Q I h
 refine isTrue_and (thn (ha pins s σ H Q I h) fun c s1 e => ?_)
 cases c with
 | true => exact isTrue_and_nil e
 | false => exact e
theorem Ag (ha : PT X a tA) : PW X (.BoolOp .Or [a] pos) tA := by
 intro wh pins s σ H Q I h
 refine isTrue_or (thn (ha pins s σ H Q I h) fun c s1 e => ?_)
 cases c with
 | false => exact isTrue_or_nil e
 | true => exact e
theorem Ah (ha : PT X a tA) (hb : PW X (.BoolOp .And (b :: rest) pos) tB') : PW X (.BoolOp .And (a :: b :: rest) pos) (D8 tA tB') := by
 intro wh pins s σ H Q I h
 refine isTrue_and (thn (ha pins s σ H _ I h) fun c s1 ⟨H1, I1, q1⟩ => ?_)
 cases c with
 | true => exact hb wh pins s1 σ H1 Q I1 q1
 | false => exact ⟨H1, I1, q1⟩
theorem C0 (ha : PT X a tA) (hb : PW X (.BoolOp .Or (b :: rest) pos) tB') : PW X (.BoolOp .Or (a :: b :: rest) pos) (tOr tA tB') := by
 intro wh pins s σ H Q I h
 refine isTrue_or (thn (ha pins s σ H _ I h) fun c s1 ⟨H1, I1, q1⟩ => ?_)
 cases c with
 | true => exact ⟨H1, I1, q1⟩
 | false => exact hb wh pins s1 σ H1 Q I1 q1
theorem Aj (ha : PT X a tA) : PT X (.UnaryOp .Not a pos) (D3 tA) := by
 intro pins s σ H Q I h
 exact isTrue_not (ha pins s σ H (fun c H1 => Q (!c) H1) I h)
noncomputable def zX (ta tb : TE) : TE := fun σ H Q => ta σ H fun x H1 => ∃ c, x = .bl c ∧ if c = true then tb σ H1 Q else Q (.bl false) H1
noncomputable def zQ (ta : TE) : TE := fun σ H Q => ta σ H fun x H1 => ∃ c, x = .bl c ∧ Q (.bl (!c)) H1
theorem Ax {op} {t : TE} (h : PE X a t) : PE X (.BoolOp op [a] pos) t := fun pins s σ H Q I hw => BoolOp_one (h pins s σ H Q I hw)
theorem AF (ha : PE X a ta) (hb : PE X (.BoolOp .And (b :: rest) pos) tb) : PE X (.BoolOp .And (a :: b :: rest) pos) (zX ta tb) := by
 intro pins s σ H Q I h
 refine BoolOp_and (thn (ha pins s σ H _ I h) fun v s1 hz => ?_)
 obtain ⟨x, H1, I1, r1, q1⟩ := hz
 obtain ⟨c, rfl, q1⟩ := q1
 cases r1
 refine wpAny_truthy_bool ?_
 cases c with
 | true => exact hb pins s1 σ H1 Q I1 q1
 | false => exact ⟨.bl false, H1, I1, rfl, q1⟩
theorem Ay (ha : PE X a ta) : PE X (.UnaryOp .Not a pos) (zQ ta) := by
 intro pins s σ H Q I h
 refine UnaryOp_ (thn (ha pins s σ H _ I h) fun v s1 hz => ?_)
 obtain ⟨x, H1, I1, r1, q1⟩ := hz
 obtain ⟨c, rfl, q1⟩ := q1
 cases r1
 exact not_of (wpAny_truthy_bool ⟨.bl (!c), H1, I1, rfl, q1⟩)
end
noncomputable def SqL (K : PySem.W.Frag) (H : Hp) (a : Addr) (xs : List V) : Prop :=
 Rd H a (.lst xs) ∨
  ∃ (o : Obj) (its : Array Value) (n : Nat), K.lookup a = some o ∧ o.cls = .type "list" ∧ o.dict = none ∧ o.data = .seq its n ∧ its.size ≤ sizeLine ∧ cL xs its.toList
noncomputable def SqT (K : PySem.W.Frag) (H : Hp) (a : Addr) (xs : List V) : Prop :=
 Rd H a (.tup xs) ∨
  ∃ (o : Obj) (its : Array Value) (n : Nat), K.lookup a = some o ∧ o.cls = .type "tuple" ∧ o.data = .seq its n ∧ its.size ≤ sizeLine ∧ cL xs its.toList
noncomputable def Fe : Value → Option V
 | .none => some .non
 | .bool b => some (.bl b)
 | .int i _ => some (.int i)
 | .str x _ => some (.str x)
 | .bytes b _ => some (.byt b)
 | .float b _ => some (.flt b)
 | .ref a => some (.ref a)
 | .type n => some (.ty n)
 | _ => none
theorem dv.abs {x : V} {u : Value} (r : dv x u) : Fe u = some x := by
 cases x with
 | non => cases r; rfl
 | bl _ => cases r; rfl
 | int _ => obtain ⟨t, rfl⟩ := r; rfl
 | str _ => obtain ⟨t, rfl⟩ := r; rfl
 | byt _ => obtain ⟨t, rfl⟩ := r; rfl
 | flt _ => obtain ⟨t, rfl⟩ := r; rfl
 | ref _ => cases r; rfl
 | ty _ => cases r; rfl
theorem dv.inj {x y : V} {u : Value} (r : dv x u) (q : dv y u) : x = y := Option.some.inj (r.abs.symm.trans q.abs)
theorem cL.inj : ∀ {xs ys : List V} {us : List Value}, cL xs us → cL ys us → xs = ys
 | _, _, _, .nil, .nil => rfl
 | _, _, _, .cons r t, .cons r' t' => by rw [r.inj r', cL.inj t t']
section
variable {X : Cx} {pins : List (Addr × Obj)} {σ : St} {H : Hp} {s : Shared} {a : Addr} {xs ys : List V}
theorem SqL.of {K : PySem.W.Frag} (h : H a = some (.lst xs)) : SqL K H a xs := .inl (.inl h)
theorem SqT.of {K : PySem.W.Frag} (h : H a = some (.tup xs)) : SqT K H a xs := .inl (.inl h)
theorem Inv.list (I : Inv X pins σ H s) (h : SqL X.K H a xs) : ∃ its : List Value, cL xs its ∧ PlainL s.heap a its.toArray ∧ xs.length ≤ sizeLine := by
 rcases h with h | ⟨o, its, n, hk, hc, hd, hs, hz, r⟩
 ·obtain ⟨z, its, n, r, e⟩ := h.ok I.hok
  exact ⟨its, r, ⟨_, n, e, rfl, rfl, rfl⟩, z⟩
 ·refine ⟨its.toList, r, ⟨o, n, I.kIn a o hk, hc, hd, by simpa using hs⟩, ?_⟩
  have e := r.length
  simp only [Array.length_toList] at e
  omega
theorem Inv.tuple (I : Inv X pins σ H s) (h : SqT X.K H a xs) : ∃ its : List Value, cL xs its ∧ IsTup s.heap a its.toArray ∧ xs.length ≤ sizeLine := by
 rcases h with h | ⟨o, its, n, hk, hc, hs, hz, r⟩
 ·obtain ⟨z, its, r, p⟩ := h.ok I.hok
  exact ⟨its, r, p, z⟩
 ·refine ⟨its.toList, r, ⟨o, I.kIn a o hk, hc, n, by simpa using hs⟩, ?_⟩
  have e := r.length
  simp only [Array.length_toList] at e
  omega
theorem Inv.list_inj (I : Inv X pins σ H s) (h : SqL X.K H a xs) (h' : SqL X.K H a ys) : xs = ys := by
 obtain ⟨its, r, ⟨o, n, e, _, _, d⟩, _⟩ := I.list h
 obtain ⟨its', r', ⟨o', n', e', _, _, d'⟩, _⟩ := I.list h'
 rw [e] at e'; cases e'
 rw [d] at d'
 injection d' with d1 _
 have : its = its' := by simpa using congrArg Array.toList d1
 subst this
 exact r.inj r'
theorem Inv.tuple_inj (I : Inv X pins σ H s) (h : SqT X.K H a xs) (h' : SqT X.K H a ys) : xs = ys := by
 obtain ⟨its, r, ⟨o, e, _, n, d⟩, _⟩ := I.tuple h
 obtain ⟨its', r', ⟨o', e', _, n', d'⟩, _⟩ := I.tuple h'
 rw [e] at e'; cases e'
 rw [d] at d'
 injection d' with d1 _
 have : its = its' := by simpa using congrArg Array.toList d1
 subst this
 exact r.inj r'
end
noncomputable abbrev Cx.wish (X : Cx) (E : Value → Shared → Prop) : Cx := { X with xe := E }
noncomputable abbrev Cx.nox (X : Cx) : Cx := X.wish fun _ _ => False
theorem Cx.Ok.wish {X : Cx} (ok : X.Ok) (E : Value → Shared → Prop) : (X.wish E).Ok :=
 ⟨ok.mod, ok.kind, ok.glob, ok.blt, ok.above, ok.inj, ok.has, ok.cab, ok.hd, ok.frames, ok.stk, ok.exf, ok.bs, ok.bsz, ok.noex, ok.exfs, ok.funs, ok.frf⟩
theorem Cx.Ok.unwish {X : Cx} {E : Value → Shared → Prop} (ok : (X.wish E).Ok) : X.Ok :=
 ⟨ok.mod, ok.kind, ok.glob, ok.blt, ok.above, ok.inj, ok.has, ok.cab, ok.hd, ok.frames, ok.stk, ok.exf, ok.bs, ok.bsz, ok.noex, ok.exfs, ok.funs, ok.frf⟩
section
variable {X : Cx} {pins : List (Addr × Obj)} {σ : St} {H : Hp} {s : Shared} {E : Value → Shared → Prop}
theorem Inv.wish (I : Inv X pins σ H s) (E : Value → Shared → Prop) : Inv (X.wish E) pins σ H s := ⟨I.ok.wish E, I.os, I.bare, I.base, I.loc, I.cell, I.free, I.freeC, I.pin, I.hok, I.len⟩
theorem Inv.unwish (I : Inv (X.wish E) pins σ H s) : Inv X pins σ H s := ⟨I.ok.unwish, I.os, I.bare, I.base, I.loc, I.cell, I.free, I.freeC, I.pin, I.hok, I.len⟩
theorem SP.unwish {D : w4} {f : Flow} {s' : Shared} (h : SP (X.wish E) pins D f s') : SP X pins D f s' := by
 cases f with
 | next => obtain ⟨σ', H', I, q⟩ := h; exact ⟨σ', H', I.unwish, q⟩
 | brk => obtain ⟨σ', H', I, q⟩ := h; exact ⟨σ', H', I.unwish, q⟩
 | cont => obtain ⟨σ', H', I, q⟩ := h; exact ⟨σ', H', I.unwish, q⟩
 | ret u => obtain ⟨v, σ', H', I, r, q⟩ := h; exact ⟨v, σ', H', I.unwish, r, q⟩
theorem PSs.nox {st : List Stmt} {t : TS} (h : PSs X.nox st t) : PSs X st t := fun pins s σ H D I hw =>
 wpAny_mono (h pins s σ H D (I.wish _) hw) (fun _ _ q => q.unwish) fun _ _ z => False.elim z
end
section
variable {X : Cx} {st : Stmt} {rest : List Stmt} {t u : TS} {e : Expr} {te : TE} {pos : Pos}
noncomputable def zR : TS := fun D σ H => D.nx σ H
noncomputable def D1 (t u : TS) : TS := fun D σ H => t { D with nx := u D } σ H
theorem xY : PSs X [] zR := fun _ _ σ H _ I h => wpAny_execs_nil ⟨σ, H, I, h⟩
theorem vv (h1 : PS X st t) (h2 : PSs X rest u) : PSs X (st :: rest) (D1 t u) := by
 intro pins s σ H D I h
 refine wpAny_execs_cons (thn (h1 pins s σ H { D with nx := u D } I h) fun f s1 q => ?_)
 cases f with
 | next =>
  obtain ⟨σ', H', I', q⟩ := q
  exact h2 pins s1 σ' H' D I' q
 | ret v => exact q
 | brk => exact q
 | cont => exact q
theorem xX (h1 : PS X st t) : PSs X [st] t := by
 intro pins s σ H D I h
 refine wpAny_execs_cons (thn (h1 pins s σ H D I h) fun f s1 q => ?_)
 cases f with
 | next => exact wpAny_execs_nil q
 | ret v => exact q
 | brk => exact q
 | cont => exact q
theorem Inv.quiet {pins : List (Addr × Obj)} {σ : St} {H : Hp} {s : Shared} (I : Inv X pins σ H s) : interactive X.env = false := by simp [interactive, I.ok.kind]
noncomputable def zS (te : TE) : TS := fun D σ H => te σ H fun _ H1 => D.nx σ H1
theorem xZ (he : PE X e te) (hs : swapsWith e none pos.line X.env = pure false := by rfl) : PS X (.Expr e pos) (zS te) := by
 intro pins s σ H D I h
 exact wpAny_Expr_any (thn (he pins s σ H _ I h) fun v s1 ⟨x, H1, I1, r1, q1⟩ => ⟨σ, H1, I1, q1⟩) I.quiet hs
noncomputable def D2 (te : TE) : TS := fun D σ H => te σ H D.rt
theorem An (he : PE X e te) : PS X (.Return (some e) pos) (D2 te) := by
 intro pins s σ H D I h
 exact wpAny_Return_some (thn (he pins s σ H _ I h) fun v s1 ⟨x, H1, I1, r1, q1⟩ => ⟨x, σ, H1, I1, r1, q1⟩)
noncomputable def D6 (c : TT) (t u : TS) : TS := fun D σ H => c σ H fun b H1 => if b = true then t D σ H1 else u D σ H1
theorem C1 {c : Expr} {a b : List Stmt} {tc : TT} (hc : PT X c tc) (ha : PSs X a t) (hb : PSs X b u) : PS X (.If c a b pos) (D6 tc t u) := by
 intro pins s σ H D I h
 refine wpAny_If (thn (hc pins s σ H _ I h) fun d s1 ⟨H1, I1, q1⟩ => ?_)
 cases d with
 | true => exact ha pins s1 σ H1 D I1 q1
 | false => exact hb pins s1 σ H1 D I1 q1
end
noncomputable abbrev TG := V → St → Hp → (St → Hp → Prop) → Prop
noncomputable abbrev TGs := List V → St → Hp → (St → Hp → Prop) → Prop
noncomputable def PG (X : Cx) (target : Expr) (t : TG) : Prop :=
 ∀ (pins : List (Addr × Obj)) (s : Shared) (σ : St) (H : Hp) (v : V) (u : Value) (Q : St → Hp → Prop), Inv X pins σ H s → dv v u → t v σ H Q →
  wpAny (model X.prog X.w) X.A (assign target X.env u) (fun _ s' => ∃ σ' H', Inv X pins σ' H' s' ∧ Q σ' H') X.xe s
noncomputable def PGs (X : Cx) (ts : List Expr) (t : TGs) : Prop :=
 ∀ (pins : List (Addr × Obj)) (s : Shared) (σ : St) (H : Hp) (vs : List V) (us : List Value) (Q : St → Hp → Prop), Inv X pins σ H s → cL vs us → t vs σ H Q →
  wpAny (model X.prog X.w) X.A (assignInOrder ((assignEach ts X.env).map (·.2)) us) (fun _ s' => ∃ σ' H', Inv X pins σ' H' s' ∧ Q σ' H') X.xe s
noncomputable abbrev BM := V → V → V → Hp → (Hp → Prop) → Prop
noncomputable def DV (X : Cx) (t : BM) : Prop :=
 ∀ (pins : List (Addr × Obj)) (s : Shared) (σ : St) (H : Hp) (o i v : V) (ov iv u : Value) (Q : Hp → Prop), Inv X pins σ H s → dv o ov → dv i iv → dv v u → t o i v H Q →
  wpAny (model X.prog X.w) X.A (setItem ov iv u) (fun _ s' => ∃ H', Inv X pins σ H' s' ∧ Q H') X.xe s
section
variable {X : Cx} {pos : Pos}
noncomputable def qX (i : Nat) : TG := fun v σ H Q => Q (σ.set i (some v)) H
theorem yb {i : Nat} {x : Str} (hN : X.N.Nodup) (hi : X.N[i]? = some x) (hx : Loc X.env.scope x) (hf : X.fn x = true ∨ X.env.scope.names.lookup x = some .local := by first | exact .inl rfl | exact .inr rfl | assumption) : PG X (.Name x pos) (qX i) := by
 intro pins s σ H v u Q I r h
 exact wpAny_assign_Name (pS I hN hi hx r (fun s' I' => ⟨_, H, I', h⟩) hf)
noncomputable def Er : TGs := fun vs σ H Q => vs = [] ∧ Q σ H
noncomputable def Be (t : TG) (u : TGs) : TGs := fun vs σ H Q => ∃ v r, vs = v :: r ∧ t v σ H fun σ' H' => u r σ' H' Q
theorem ya : PGs X [] Er := by
 intro pins s σ H vs us Q I r h
 obtain ⟨e, h⟩ := h
 subst e
 cases r
 exact assignInOrder_nil ⟨σ, H, I, h⟩
theorem vy {e : Expr} {es : List Expr} {t : TG} {u : TGs} (h1 : PG X e t) (h2 : PGs X es u)
  (hs : (assignEach (e :: es) X.env).map (·.2) = assign e X.env :: (assignEach es X.env).map (·.2) := by rfl) : PGs X (e :: es) (Be t u) := by
 intro pins s σ H vs us Q I r h
 obtain ⟨v, vr, e1, h⟩ := h
 subst e1
 cases r with
 | cons r rr =>
  rw [hs]
  refine assignInOrder_cons (thn (h1 pins s σ H _ _ _ I r h) fun _ s1 hz => ?_)
  obtain ⟨σ1, H1, I1, q1⟩ := hz
  exact h2 pins s1 σ1 H1 _ _ Q I1 rr q1
noncomputable def Eo (K : PySem.W.Frag) (n : Nat) (t : TGs) : TG := fun v σ H Q => ∃ a xs, v = .ref a ∧ SqT K H a xs ∧ xs.length = n ∧ t xs σ H Q
theorem Ar {es : List Expr} {k : Nat} {t : TGs} {n : Nat} (hc : X.calm = true) (h : PGs X es t)
  (hn : (assignEach es X.env).length = n := by rfl) (hst : (assignEach es X.env).findIdx? (·.1) = none := by rfl) : PG X (.Tuple es k pos) (Eo X.K n t) := by
 intro pins s σ H v u Q I r hw
 obtain ⟨a, xs, e1, hq, hl, hw⟩ := hw
 subst e1
 cases r
 obtain ⟨its, rv, ht, hz⟩ := I.tuple hq
 refine assign_Tuple_tuple (I.ok.hd hc) ht (by simp [hn, ← hl, rv.length]) hst fun h' hx => ?_
 have I1 : Inv X pins σ H { s with heap := h' } := I.kept (t' := s.toks) fun b o e => hx b o (Nat.ne_of_lt (Heap.lt_size e)) e
 exact h pins _ σ H xs _ Q I1 (by simpa using rv) hw
noncomputable def Ep (to ti : TE) (t : BM) : TG := fun v σ H Q => to σ H fun o H1 => ti σ H1 fun i H2 => t o i v H2 fun H3 => Q σ H3
theorem As {o i : Expr} {to ti : TE} {t : BM} (ho : PE X o to) (hi : PE X i ti) (hs : DV X t)
  (ha : ∀ v, assign (.Subscript o i pos) X.env v = (do
   let ov ← holding [v] (eval o X.env)
   let iv ← holding [v, ov] (eval i X.env)
   standAt pos
   holding [v, ov, iv] (setItem ov iv v)
   release [v, ov, iv] []) := by intro _; rfl) : PG X (.Subscript o i pos) (Ep to ti t) := by
 intro pins s σ H v u Q I r h
 rw [ha]
 refine wpAny_bind (wpAny_holding (thn (ho pins s σ H _ I h) fun ov s1 hz => ?_))
 obtain ⟨x, H1, I1, r1, q1⟩ := hz
 refine wpAny_bind (wpAny_holding (thn (hi pins s1 σ H1 _ I1 q1) fun iv s2 hz => ?_))
 obtain ⟨y, H2, I2, r2, q2⟩ := hz
 refine wpAny_bind (wpAny_standAt (wpAny_bind (wpAny_holding (thn (hs pins s2 σ H2 x y v ov iv u _ I2 r1 r2 r q2) fun _ s3 ⟨H3, I3, q3⟩ => ?_))))
 exact wpAny_release ⟨σ, H3, I3, q3⟩
noncomputable def zW (te : TE) (g : TG) : TS := fun D σ H => te σ H fun x H1 => g x σ H1 D.nx
theorem Ap {tg e : Expr} {te : TE} {g : TG} (he : PE X e te) (hg : PG X tg g) (hs : swapsWithSole [tg] e pos.line X.env = pure false := by rfl) (hw : swappedStores [tg] e X.env = pure none := by rfl)
  (h1 : (assignEach [tg] X.env).map (·.2) = [assign tg X.env] := by rfl) : PS X (.Assign [tg] e pos) (zW te g) := by
 intro pins s σ H D I h
 refine wpAny_Assign_stores (thn (he pins s σ H _ I h) fun v s1 hz => ?_) hs hw
 obtain ⟨x, H1, I1, r1, q1⟩ := hz
 rw [h1]
 exact thn (hg pins s1 σ H1 x v _ I1 r1 q1) fun _ s2 q => q
theorem Am {i : Nat} {x : Str} {e : Expr} {te : TE} {pos' : Pos} (hN : X.N.Nodup) (hi : X.N[i]? = some x) (hx : Loc X.env.scope x) (he : PE X e te) (hs : swapsWith e (some (.Name x pos')) pos.line X.env = pure false := by rfl) (hf : X.fn x = true ∨ X.env.scope.names.lookup x = some .local := by first | exact .inl rfl | exact .inr rfl | assumption) :
  PS X (.Assign [.Name x pos'] e pos) (zW te (qX i)) := by
 intro pins s σ H D I h
 refine wpAny_Assign_Name (thn (he pins s σ H _ I h) fun v s1 hz => ?_) hs
 obtain ⟨y, H1, I1, r1, q1⟩ := hz
 exact pS I1 hN hi hx r1 (fun s2 I2 => ⟨_, H1, I2, q1⟩) hf
end
structure It where
 go : Nat → Hp → Prop
 yld : Nat → Hp → V → Hp → Prop
 stop : Nat → Hp → Prop
noncomputable def uQ (X : Cx) (pins : List (Addr × Obj)) (H : Hp) (b : Addr) : Prop :=
 H b = none ∧ b ≠ X.env.locals ∧ b ∉ X.fs ∧ (b ∈ X.ex ∨ X.s₀.heap.objs.size ≤ b) ∧ (∀ x c, X.env.cells.lookup x = some c → c ≠ b) ∧ ∀ p ∈ X.pn ++ pins, p.1 ≠ b
theorem Inv.fpOk {X : Cx} {pins : List (Addr × Obj)} {σ : St} {H H' : Hp} {s : Shared} {b : Addr} (I : Inv X pins σ H s) (hb : s.heap.objs.size ≤ b) (hn : H' b = none) : uQ X pins H' b := by
 refine ⟨hn, Nat.ne_of_gt (Nat.lt_of_lt_of_le I.lt hb), I.nofs hb, .inr (Nat.le_trans I.sz hb), fun x c e z => ?_, fun p hp z => ?_⟩
 ·obtain ⟨v, q⟩ := I.cell x c e
  exact absurd (Nat.lt_of_lt_of_le q.lt (by rw [z]; exact hb)) (Nat.lt_irrefl _)
 ·exact absurd (Nat.lt_of_lt_of_le (Heap.lt_size (I.pin p hp).1) (by rw [z]; exact hb)) (Nat.lt_irrefl _)
structure Bu (P : Program) (w : World) (K : PySem.W.Frag) (tg : Expr) (J : It) (fp : List Addr) (it : Addr) (tn : Nat → Heap → Prop) : Prop where
 mem : it ∈ fp
 obj : ∀ i h, tn i h → ∀ b ∈ fp, ∃ o, h.get? b = some o ∧ ∀ v, o.data ≠ .cell v
 keep : ∀ i h h', tn i h → (∀ b ∈ fp, ∀ o, h.get? b = some o → h'.get? b = some o) → tn i h'
 item : ∀ (X : Cx), X.prog = P → X.w = w → X.K = K → X.calm = true → ∀ (i : Nat) (pins : List (Addr × Obj)) (s : Shared) (σ : St) (H : Hp) (E : Value → Shared → Prop), Inv X pins σ H s → (∀ b ∈ fp, uQ X pins H b) → tn i s.heap → J.go i H →
  wpAny (model P w) X.A (pyNext (.ref it)) (fun r s1 => ∃ u, r = some u ∧
   wpAny (model P w) X.A (letOwnedTupleGo tg (.ref it) u) (fun _ s2 => ∃ x H', Inv X pins σ H' s2 ∧ dv x u ∧ J.yld i H x H' ∧ tn (i + 1) s2.heap ∧ ∀ b ∈ fp, H' b = none) E s1) E s
 done : ∀ (X : Cx), X.prog = P → X.w = w → X.K = K → X.calm = true → ∀ (i : Nat) (pins : List (Addr × Obj)) (s : Shared) (σ : St) (H : Hp) (E : Value → Shared → Prop), Inv X pins σ H s → (∀ b ∈ fp, uQ X pins H b) → tn i s.heap → J.stop i H →
  wpAny (model P w) X.A (pyNext (.ref it)) (fun r s1 => r = none ∧ Inv X pins σ H s1) E s
 self : ∀ (A : Around) (i : Nat) (s : Shared) (Q : Value → Shared → Prop) (E : Value → Shared → Prop), tn i s.heap → Q (.ref it) s → wpAny (model P w) A (pyIter (.ref it)) Q E s
noncomputable abbrev TI := St → Hp → (It → Hp → Prop) → Prop
noncomputable def PIE (X : Cx) (pins : List (Addr × Obj)) (σ : St) (tg : Expr) (R : It → Hp → Prop) (itv : Value) (s2 : Shared) : Prop :=
 ∃ (it : Addr) (fp : List Addr) (tn : Nat → Heap → Prop) (J : It) (H' : Hp), itv = .ref it ∧ Inv X pins σ H' s2 ∧ Bu X.prog X.w X.K tg J fp it tn ∧ tn 0 s2.heap ∧ (∀ b ∈ fp, uQ X pins H' b) ∧ R J H'
noncomputable def PI (X : Cx) (tg iter : Expr) (wi : TI) : Prop :=
 ∀ (pins : List (Addr × Obj)) (s : Shared) (σ : St) (H : Hp) (R : It → Hp → Prop), Inv X pins σ H s → wi σ H R →
  wpAny (model X.prog X.w) X.A (eval iter X.env) (fun v s1 => wpAny (model X.prog X.w) X.A (pyIter v) (PIE X pins σ tg R) X.xe s1) X.xe s
theorem yD {M : Model} {A : Around} {E : Value → Shared → Prop} {s : Shared} {tg : Expr} {it : Addr} {u : Value} {o : Obj} {n : String} {vs : Array Value} {Q : Unit → Shared → Prop} (ho : s.heap.get? it = some o) (hc : o.cls = .type n) (hd : o.data = .fields vs)
    (hn : ["enumerate", "zip", "dict_itemiterator", "dict_reverseitemiterator", "odict_iterator", "itertools.zip_longest", "itertools.pairwise"].contains n = false) (hQ : Q () s) : wpAny M A (letOwnedTupleGo tg (.ref it) u) Q E s := by
  unfold letOwnedTupleGo
  cases tg <;> first
    | exact wpAny_pure hQ
    | (cases u <;> first
        | exact wpAny_pure hQ
        | (refine wpAny_bind (wpAny_load ho ?_)
           rw [hc, hd]
           show wpAny M A (if (["enumerate", "zip", "dict_itemiterator", "dict_reverseitemiterator", "odict_iterator", "itertools.zip_longest", "itertools.pairwise"].contains n && vs[0]? == some (rawInt _)) = true then _ else _) Q E s
           rw [if_neg (by intro h; rw [hn, Bool.false_and] at h; cases h)]
           exact wpAny_pure hQ))
noncomputable def Itl (K : PySem.W.Frag) (a : Addr) : It :=
 ⟨fun i H => ∃ xs x, SqL K H a xs ∧ xs[i]? = some x, fun i H x H' => H' = H ∧ ∀ xs, SqL K H a xs → xs[i]? = some x, fun i H => ∃ xs, SqL K H a xs ∧ xs.length ≤ i⟩
noncomputable def Itt (K : PySem.W.Frag) (a : Addr) : It :=
 ⟨fun i H => ∃ xs x, SqT K H a xs ∧ xs[i]? = some x, fun i H x H' => H' = H ∧ ∀ xs, SqT K H a xs → xs[i]? = some x, fun i H => ∃ xs, SqT K H a xs ∧ xs.length ≤ i⟩
noncomputable def Itr (lo : Int) (n : Nat) : It := ⟨fun i _ => i < n, fun i H x H' => H' = H ∧ x = .int (lo + i), fun i _ => n ≤ i⟩
theorem se {P : Program} {w : World} {K : PySem.W.Frag} {tg : Expr} (a it : Addr) : Bu P w K tg (Itl K a) [it] it (fun i h => h.IsListIter it a i) where
 mem := by simp
 obj := fun i h st b hb => by
  have e : b = it := by simpa using hb
  subst e
  obtain ⟨o, e, c, d⟩ := st
  exact ⟨o, e, fun v z => by rw [d] at z; cases z⟩
 keep := fun i h h' st k => st.at fun o e => k it (by simp) o e
 item := by
  intro X hP hw hK hc i pins s σ H E I hf st hg
  subst hP hw hK
  obtain ⟨xs, x, hq, hx⟩ := hg
  obtain ⟨its, rv, p, hz⟩ := I.list hq
  obtain ⟨u, hu, ru⟩ := rv.get hx
  obtain ⟨f0, f1, f2, f3, f4, f5⟩ := hf it (by simp)
  refine wpAny_pyNext_list_item st p.isList (x := u) (by simpa using hu) fun h' st' sb => ?_
  have I1 : Inv X pins σ H { s with heap := h' } := I.turned (t' := s.toks) (fun b o hb e => (sb.2 b hb).trans e) f0 f1 f3 f4 f5
  obtain ⟨o, e, c, d⟩ := id st'
  exact ⟨u, rfl, yD (s := { s with heap := h' }) e c d (by decide) ⟨x, H, I1, ru, ⟨rfl, fun ys hy => by rw [I.list_inj hy hq]; exact hx⟩, st', fun b hb => (hf b hb).1⟩⟩
 done := by
  intro X hP hw hK hc i pins s σ H E I hf st hg
  subst hP hw hK
  obtain ⟨xs, hq, hx⟩ := hg
  obtain ⟨its, rv, p, hz⟩ := I.list hq
  obtain ⟨f0, f1, f2, f3, f4, f5⟩ := hf it (by simp)
  have hl := rv.length
  exact wpAny_pyNext_list_end (I.ok.hd hc) st p.isList (by simp; omega) fun h' eb => ⟨rfl, I.turned (t' := s.toks) (fun b o hb e => eb b o hb e) f0 f1 f3 f4 f5⟩
 self := fun _ _ _ _ _ st h => wpAny_pyIter_listiter st h
theorem qM {P : Program} {w : World} {K : PySem.W.Frag} {tg : Expr} (a it : Addr) : Bu P w K tg (Itt K a) [it] it (fun i h => h.IsTupleIter it a i) where
 mem := by simp
 obj := fun i h st b hb => by
  have e : b = it := by simpa using hb
  subst e
  obtain ⟨o, e, c, d⟩ := st
  exact ⟨o, e, fun v z => by rw [d] at z; cases z⟩
 keep := fun i h h' st k => st.at fun o e => k it (by simp) o e
 item := by
  intro X hP hw hK hc i pins s σ H E I hf st hg
  subst hP hw hK
  obtain ⟨xs, x, hq, hx⟩ := hg
  obtain ⟨its, rv, p, hz⟩ := I.tuple hq
  obtain ⟨u, hu, ru⟩ := rv.get hx
  obtain ⟨f0, f1, f2, f3, f4, f5⟩ := hf it (by simp)
  refine wpAny_pyNext_tuple_item st (show s.heap.IsTuple a its.toArray from p) (x := u) (by simpa using hu) fun h' st' sb => ?_
  have I1 : Inv X pins σ H { s with heap := h' } := I.turned (t' := s.toks) (fun b o hb e => (sb.2 b hb).trans e) f0 f1 f3 f4 f5
  obtain ⟨o, e, c, d⟩ := id st'
  exact ⟨u, rfl, yD (s := { s with heap := h' }) e c d (by decide) ⟨x, H, I1, ru, ⟨rfl, fun ys hy => by rw [I.tuple_inj hy hq]; exact hx⟩, st', fun b hb => (hf b hb).1⟩⟩
 done := by
  intro X hP hw hK hc i pins s σ H E I hf st hg
  subst hP hw hK
  obtain ⟨xs, hq, hx⟩ := hg
  obtain ⟨its, rv, p, hz⟩ := I.tuple hq
  obtain ⟨f0, f1, f2, f3, f4, f5⟩ := hf it (by simp)
  have hl := rv.length
  exact wpAny_pyNext_tuple_end (I.ok.hd hc) st (show s.heap.IsTuple a its.toArray from p) (by simp; omega) fun h' eb => ⟨rfl, I.turned (t' := s.toks) (fun b o hb e => eb b o hb e) f0 f1 f3 f4 f5⟩
 self := fun _ _ _ _ _ st h => wpAny_pyIter_tupleiter st h
theorem qN {P : Program} {w : World} {K : PySem.W.Frag} {tg : Expr} (it : Addr) (lo : Int) (n : Nat) : Bu P w K tg (Itr lo n) [it] it (fun i h => IsRangeIter h it (lo + (i : Nat) * 1) ((n : Int) - (i : Nat)) 1) where
 mem := by simp
 obj := fun i h st b hb => by
  have e : b = it := by simpa using hb
  subst e
  exact ⟨_, st, fun v z => by
   have z' : Data.fields _ = Data.cell v := z
   cases z'⟩
 keep := fun i h h' st k => k it (by simp) _ st
 item := by
  intro X hP hw hK hc i pins s σ H E I hf st hg
  subst hP hw hK
  obtain ⟨f0, f1, f2, f3, f4, f5⟩ := hf it (by simp)
  have W := Walks.range (prog := X.prog) (w := X.w) (I.ok.hd hc) it lo 1 n
  refine W.item i s _ _ hg st fun v h' tk hv st' kk => ?_
  obtain ⟨t, rfl⟩ := hv
  have I1 : Inv X pins σ H { s with heap := h', toks := tk } := I.turned (fun b o hb e => kk b o (by simpa using hb) e) f0 f1 f3 f4 f5
  refine ⟨_, rfl, yD (s := { s with heap := h', toks := tk }) (n := "range_iterator") st' rfl rfl (by decide) ⟨.int (lo + i), H, I1, ⟨t, ?_⟩, ⟨rfl, rfl⟩, st', fun b hb => (hf b hb).1⟩⟩
  rw [Int.mul_one]
 done := by
  intro X hP hw hK hc i pins s σ H E I hf st hg
  subst hP hw hK
  obtain ⟨f0, f1, f2, f3, f4, f5⟩ := hf it (by simp)
  exact wpAny_pyNext_range_end (I.ok.hd hc) st (by have : n ≤ i := hg; omega) fun h' eb => ⟨rfl, I.turned (t' := s.toks) (fun b o hb e => eb b o hb e) f0 f1 f3 f4 f5⟩
 self := fun _ _ _ _ _ st h => wpAny_pyIter_rangeiter st h
section
variable {X : Cx} {tg : Expr}
noncomputable def Bd (K : PySem.W.Frag) (tl : TE) : TI := fun σ H R => tl σ H fun x H1 => ∃ a, x = .ref a ∧ (∃ xs, SqL K H1 a xs) ∧ R (Itl K a) H1
noncomputable def En (K : PySem.W.Frag) (tl : TE) : TI := fun σ H R => tl σ H fun x H1 => ∃ a, x = .ref a ∧ (∃ xs, SqT K H1 a xs) ∧ R (Itt K a) H1
theorem x8 {l : Expr} {tl : TE} (hl : PE X l tl) : PI X tg l (Bd X.K tl) := by
 intro pins s σ H R I h
 refine thn (hl pins s σ H _ I h) fun v s1 hz => ?_
 obtain ⟨x, H1, I1, r1, q1⟩ := hz
 obtain ⟨a, e, ⟨xs, hq⟩, q⟩ := q1
 subst e
 cases r1
 obtain ⟨its, rv, p, hz⟩ := I1.list hq
 refine wpAny_pyIter_list p.isList ?_
 refine ⟨s1.heap.objs.size, [s1.heap.objs.size], _, _, H1, rfl, I1.kept (t' := s1.toks) fun b o e => Heap.get?_push_of_some _ e, se a _, ⟨_, Heap.get?_push_size _ rfl, rfl, rfl⟩, fun b hb => ?_, q⟩
 have e : b = s1.heap.objs.size := by simpa using hb
 subst e
 exact I1.fpOk (Nat.le_refl _) (I1.hok.fresh (Nat.le_refl _))
theorem Aq {l : Expr} {tl : TE} (hl : PE X l tl) : PI X tg l (En X.K tl) := by
 intro pins s σ H R I h
 refine thn (hl pins s σ H _ I h) fun v s1 hz => ?_
 obtain ⟨x, H1, I1, r1, q1⟩ := hz
 obtain ⟨a, e, ⟨xs, hq⟩, q⟩ := q1
 subst e
 cases r1
 obtain ⟨its, rv, p, hz⟩ := I1.tuple hq
 refine wpAny_pyIter_tuple (show s1.heap.IsTuple a its.toArray from p) ?_
 refine ⟨s1.heap.objs.size, [s1.heap.objs.size], _, _, H1, rfl, I1.kept (t' := s1.toks) fun b o e => Heap.get?_push_of_some _ e, qM a _, ⟨_, Heap.get?_push_size _ rfl, rfl, rfl⟩, fun b hb => ?_, q⟩
 have e : b = s1.heap.objs.size := by simpa using hb
 subst e
 exact I1.fpOk (Nat.le_refl _) (I1.hok.fresh (Nat.le_refl _))
theorem pX {pins : List (Addr × Obj)} {σ : St} {H : Hp} {s : Shared} {R : It → Hp → Prop} {E : Value → Shared → Prop} {lo hi : Int} {t u v : Tok} {tk : Nat} (I : Inv X pins σ H s) (h1 : -(2 ^ 62) ≤ lo) (h2 : lo < 2 ^ 62) (h3 : -(2 ^ 62) ≤ hi) (h4 : hi < 2 ^ 62)
  (q : R (Itr lo (hi - lo).toNat) H) : wpAny (model X.prog X.w) X.A (pyIter (.ref s.heap.objs.size)) (PIE X pins σ tg R) E { s with heap := s.heap.push { cls := .type "range", data := .fields #[.int lo t, .int hi u, .int 1 v] }, toks := tk } := by
 refine wpAny_pyIter_range (IsRange.new ..) (small_one h1 h2 h3 h4) ?_
 have I1 : Inv X pins σ H { s with heap := s.heap.push { cls := .type "range", data := .fields #[.int lo t, .int hi u, .int 1 v] }, toks := tk } := I.kept fun b o e => Heap.get?_push_of_some _ e
 refine ⟨(s.heap.push { cls := .type "range", data := .fields #[.int lo t, .int hi u, .int 1 v] }).objs.size, [(s.heap.push { cls := .type "range", data := .fields #[.int lo t, .int hi u, .int 1 v] }).objs.size], _, _, H, rfl,
  I1.kept (t' := tk) fun b o e => Heap.get?_push_of_some _ e, qN _ lo (hi - lo).toNat, ?_, fun b hb => ?_, q⟩
 ·have e1 : lo + ((0 : Nat) : Int) * 1 = lo := by simp
  have e2 : (((hi - lo).toNat : Nat) : Int) - ((0 : Nat) : Int) = Builtin.Range.rangeSize lo hi 1 := by rw [rangeSize_one]; split <;> omega
  show IsRangeIter _ _ (lo + ((0 : Nat) : Int) * 1) ((((hi - lo).toNat : Nat) : Int) - ((0 : Nat) : Int)) 1
  rw [e1, e2]
  exact Heap.get?_push_size _ rfl
 ·have e : b = (s.heap.push { cls := .type "range", data := .fields #[.int lo t, .int hi u, .int 1 v] }).objs.size := by simpa using hb
  subst e
  exact I1.fpOk (Nat.le_refl _) (I1.hok.fresh (Nat.le_refl _))
noncomputable def Bc (ta : TA) : TI := fun σ H R => ta σ H fun vs H1 => ∃ j : Int, vs = [.int j] ∧ -(2 ^ 62) ≤ j ∧ j < 2 ^ 62 ∧ R (Itr 0 j.toNat) H1
noncomputable def Bb (ta : TA) : TI := fun σ H R => ta σ H fun vs H1 => ∃ i j : Int, vs = [.int i, .int j] ∧ (-(2 ^ 62) ≤ i ∧ i < 2 ^ 62 ∧ -(2 ^ 62) ≤ j ∧ j < 2 ^ 62) ∧ R (Itr i (j - i).toNat) H1
theorem sP {a : Expr} {ta : TA} {p pos : Pos} (hg : Gl X "range") (hm : X.mg "range" = none) (ha : PA X [a] ta) (hs : starEach [a] X.env = [(false, eval a X.env)] := by rfl) : PI X tg (.Call (.Name "range" p) [a] [] pos) (Bc ta) := by
 intro pins s σ H R I h
 refine Call_ (lW I hg hm boot_range (PyProof.Rows.callWith_type1 (thn (ha pos pins s σ H _ I h) fun us s1 ⟨vs, H1, I1, r1, q1⟩ => ?_) hs rfl))
 obtain ⟨j, e, q1, q2, q⟩ := q1
 subst e
 cases r1 with
 | cons r rr =>
  cases rr
  obtain ⟨t, rfl⟩ := r
  exact call_range_1 (pX I1 (by omega) (by omega) q1 q2 (by simpa using q))
theorem sO {a b : Expr} {ta : TA} {p pos : Pos} (hg : Gl X "range") (hm : X.mg "range" = none) (ha : PA X [a, b] ta) (hs : starEach [a, b] X.env = [(false, eval a X.env), (false, eval b X.env)] := by rfl) (hs2 : starEach [b] X.env = [(false, eval b X.env)] := by rfl) :
  PI X tg (.Call (.Name "range" p) [a, b] [] pos) (Bb ta) := by
 intro pins s σ H R I h
 refine Call_ (lW I hg hm boot_range (PyProof.Rows.callWith_type1 (thn (ha pos pins s σ H _ I h) fun us s1 ⟨vs, H1, I1, r1, q1⟩ => ?_) (by rw [hs, hs2]) (by rw [hs2]; rfl)))
 obtain ⟨i, j, e, ⟨q1, q2, q3, q4⟩, q⟩ := q1
 subst e
 cases r1 with
 | cons r rr =>
  cases rr with
  | cons r' rr =>
   cases rr
   obtain ⟨t, rfl⟩ := r
   obtain ⟨t', rfl⟩ := r'
   exact call_range_2 (pX I1 q1 q2 q3 q4 q)
noncomputable def CP (wi : TI) (g : TG) (tb : TS) : TS := fun D σ H => wi σ H fun J H1 => ∃ W : Nat → Nat → St → Hp → Prop, (∃ m, W 0 m σ H1) ∧ ∀ i m σ H, W i m σ H →
 (J.stop i H ∧ D.nx σ H) ∨ (J.go i H ∧ ∃ N : St → Hp → Prop, (∀ σ' H', N σ' H' → ∃ m', m' < m ∧ W (i + 1) m' σ' H') ∧ ∀ x H', J.yld i H x H' → g x σ H' fun σ2 H2 => tb { D with nx := N, ct := N, bk := D.nx } σ2 H2)
noncomputable def pZ (fp : List Addr) (h : Heap) : List (Addr × Obj) := fp.filterMap fun b => (h.get? b).map fun o => (b, o)
theorem gD {fp : List Addr} {h : Heap} {b : Addr} {o : Obj} (hb : b ∈ fp) (e : h.get? b = some o) : (b, o) ∈ pZ fp h := List.mem_filterMap.mpr ⟨b, hb, by rw [e]; rfl⟩
theorem sX {fp : List Addr} {h : Heap} {p : Addr × Obj} (hp : p ∈ pZ fp h) : p.1 ∈ fp ∧ h.get? p.1 = some p.2 := by
 obtain ⟨b, hb, e⟩ := List.mem_filterMap.mp hp
 cases q : h.get? b with
 | none => rw [q] at e; cases e
 | some o =>
  rw [q] at e
  have e' : (b, o) = p := Option.some.inj e
  subst e'
  exact ⟨hb, q⟩
theorem Inv.pinned {pins : List (Addr × Obj)} {σ : St} {H : Hp} {s : Shared} {fp : List Addr} (I : Inv X pins σ H s) (hf : ∀ b ∈ fp, uQ X pins H b) (ho : ∀ b ∈ fp, ∃ o, s.heap.get? b = some o ∧ ∀ v, o.data ≠ .cell v) : Inv X (pins ++ pZ fp s.heap) σ H s :=
 I.pins_of fun p hp => (List.mem_append.mp hp).elim (fun z => I.pin p (List.mem_append_right _ z)) fun z => by
  obtain ⟨hb, e⟩ := sX z
  obtain ⟨f0, f1, f2, _⟩ := hf p.1 hb
  obtain ⟨o, e', d⟩ := ho p.1 hb
  rw [e] at e'; cases e'
  exact ⟨e, f0, f1, f2, d⟩
theorem Inv.unpinned {pins pl : List (Addr × Obj)} {σ : St} {H : Hp} {s : Shared} (I : Inv X (pins ++ pl) σ H s) : Inv X pins σ H s := I.pins_of fun p hp => I.pin p (List.mem_append_right _ (List.mem_append_left _ hp))
theorem Ao {iter : Expr} {body : List Stmt} {wi : TI} {g : TG} {tb : TS} {pos : Pos} (hp : PassesOwn (model X.prog X.w) X.A X.env X.xe) (hc : X.calm = true) (hi : PI X tg iter wi) (hg : PG X tg g) (hb : PSs X body tb)
  (hs : ∀ x, foldedSetIterable iter X.env x = pure x := by intro _; rfl) : PS X (.For tg iter body [] pos) (CP wi g tb) := by
 intro pins s σ H D I h
 refine wpAny_For (thn (hi pins s σ H _ I h) fun v s1 h1 => thn h1 fun itv s2 h2 => ?_) hs
 obtain ⟨it, fp, tn, J, H2, e, I2, T, st2, f2, W, ⟨m0, w0⟩, turn⟩ := h2
 subst e
 have stat : ∀ {H' : Hp}, (∀ b ∈ fp, H' b = none) → ∀ b ∈ fp, uQ X pins H' b := fun hn b hb => ⟨hn b hb, (f2 b hb).2⟩
 refine codeAny_forLoop_any (fun n s' => ∃ i σ' H', Inv X pins σ' H' s' ∧ tn i s'.heap ∧ (∀ b ∈ fp, H' b = none) ∧ W i n σ' H') ?_ m0 ⟨0, σ, H2, I2, st2, fun b hb => (f2 b hb).1, w0⟩
 rintro n s3 ⟨i, σ3, H3, I3, st3, fr3, w3⟩
 rcases turn i n σ3 H3 w3 with ⟨stop, qn⟩ | ⟨go, N, hN, step⟩
 ·refine wpAny_passesOwn hp (thn (T.done X rfl rfl rfl hc i pins s3 σ3 H3 X.xe I3 (stat fr3) st3 stop) fun r s4 ⟨hr, I4⟩ => ?_)
  subst hr
  exact wpAny_execs_nil ⟨σ3, H3, I4, qn⟩
 ·refine wpAny_passesOwn hp (thn (T.item X rfl rfl rfl hc i pins s3 σ3 H3 X.xe I3 (stat fr3) st3 go) fun r s4 ⟨u, hr, h4⟩ => ?_)
  subst hr
  refine wpAny_passesOwn hp (thn h4 fun _ s5 hz => ?_)
  obtain ⟨x, H5, I5, r5, y5, st5, fr5⟩ := hz
  have I5' := I5.pinned (stat fr5) (T.obj _ _ st5)
  refine wpAny_passesOwn hp (thn (hg _ s5 σ3 H5 x u _ I5' r5 (step x H5 y5)) fun _ s6 hz => ?_)
  obtain ⟨σ6, H6, I6, q6⟩ := hz
  refine wpAny_passesOwn hp (thn (hb _ s6 σ6 H6 _ I6 q6) fun f s7 q7 => ?_)
  have again : ∀ {σ7 : St} {H7 : Hp}, Inv X (pins ++ pZ fp s5.heap) σ7 H7 s7 → N σ7 H7 → ∃ m, m < n ∧ ∃ i σ' H', Inv X pins σ' H' s7 ∧ tn i s7.heap ∧ (∀ b ∈ fp, H' b = none) ∧ W i m σ' H' := fun {σ7 H7} I7 n7 => by
   obtain ⟨m', hm, w7⟩ := hN σ7 H7 n7
   refine ⟨m', hm, i + 1, σ7, H7, I7.unpinned, T.keep _ _ _ st5 fun b hb o e => (I7.pin (b, o) (List.mem_append_right _ (List.mem_append_right _ (gD hb e)))).1, fun b hb => ?_, w7⟩
   obtain ⟨o, e, d⟩ := T.obj _ _ st5 b hb
   exact (I7.pin (b, o) (List.mem_append_right _ (List.mem_append_right _ (gD hb e)))).2.1
  cases f with
  | next => obtain ⟨σ7, H7, I7, n7⟩ := q7; exact again I7 n7
  | cont => obtain ⟨σ7, H7, I7, n7⟩ := q7; exact again I7 n7
  | brk => obtain ⟨σ7, H7, I7, q7⟩ := q7; exact ⟨σ7, H7, I7.unpinned, q7⟩
  | ret v => obtain ⟨x7, σ7, H7, I7, r7, q7⟩ := q7; exact ⟨x7, σ7, H7, I7.unpinned, r7, q7⟩
end
noncomputable abbrev R2 := V → V → Hp → VK → Prop
noncomputable def OpR (X : Cx) (f : Value → Value → Sem Value) (r : R2) : Prop :=
 ∀ (pins : List (Addr × Obj)) (s : Shared) (σ : St) (H : Hp) (x y : V) (v u : Value) (Q : VK), Inv X pins σ H s → dv x v → dv y u → r x y H Q →
  wpAny (model X.prog X.w) X.A (f v u) (EP X pins σ Q) X.xe s
noncomputable def UnR (X : Cx) (f : Value → Sem Value) (r : V → Hp → VK → Prop) : Prop :=
 ∀ (pins : List (Addr × Obj)) (s : Shared) (σ : St) (H : Hp) (x : V) (v : Value) (Q : VK), Inv X pins σ H s → dv x v → r x H Q →
  wpAny (model X.prog X.w) X.A (f v) (EP X pins σ Q) X.xe s
noncomputable def eQ (X : Cx) (f : Value) (r : List V → Hp → VK → Prop) : Prop :=
 ∀ (pins : List (Addr × Obj)) (s : Shared) (σ : St) (H : Hp) (xs : List V) (us : List Value) (Q : VK), Inv X pins σ H s → cL xs us → r xs H Q →
  wpAny (model X.prog X.w) X.A (call f us) (EP X pins σ Q) X.xe s
noncomputable def tOp (r : R2) (ta tb : TE) : TE := fun σ H Q => ta σ H fun x H1 => tb σ H1 fun y H2 => r x y H2 Q
noncomputable def tUn (r : V → Hp → VK → Prop) (ta : TE) : TE := fun σ H Q => ta σ H fun x H1 => r x H1 Q
noncomputable def rI (C : Int → Int → Prop) (g : Int → Int → V) : R2 := fun x y H Q => ∃ i j, x = .int i ∧ y = .int j ∧ C i j ∧ Q (g i j) H
noncomputable def rI0 (g : Int → Int → V) : R2 := fun x y H Q => ∃ i j, x = .int i ∧ y = .int j ∧ Q (g i j) H
noncomputable def rU (g : Int → V) : V → Hp → VK → Prop := fun x H Q => ∃ i, x = .int i ∧ Q (g i) H
section
variable {X : Cx} {a b c : Expr} {ta tb tc : TE} {pos : Pos}
theorem DS (ha : PE X a ta) (hb : PE X b tb) {pins : List (Addr × Obj)} {s : Shared} {σ : St} {H : Hp} {R : V → V → Hp → Prop} (I : Inv X pins σ H s)
  (h : ta σ H fun x H1 => tb σ H1 fun y H2 => R x y H2) {Q : Value → Shared → Prop} {f : Value → Value → Sem Value}
  (hf : ∀ v u s2 x y H2, Inv X pins σ H2 s2 → dv x v → dv y u → R x y H2 → wpAny (model X.prog X.w) X.A (f v u) Q X.xe s2) :
  wpAny (model X.prog X.w) X.A (eval a X.env) (fun v s₁ => wpAny (model X.prog X.w) X.A (eval b X.env) (fun u s₂ => wpAny (model X.prog X.w) X.A (f v u) Q X.xe s₂) X.xe s₁) X.xe s := by
 refine thn (ha pins s σ H _ I h) fun v s1 hz => ?_
 obtain ⟨x, H1, I1, r1, q1⟩ := hz
 refine thn (hb pins s1 σ H1 _ I1 q1) fun u s2 hz => ?_
 obtain ⟨y, H2, I2, r2, q2⟩ := hz
 exact hf v u s2 x y H2 I2 r1 r2 q2
theorem C4 {op : Operator} {r : R2} (ho : OpR X (binaryOp op) r) (ha : PE X a ta) (hb : PE X b tb) : PE X (.BinOp a op b pos) (tOp r ta tb) := by
 intro pins s σ H Q I h
 exact wpAny_BinOp (DS ha hb I h fun v u s2 x y H2 I2 rx ry q => ho pins s2 σ H2 x y v u Q I2 rx ry q)
theorem C3 {op : UnaryOp} {r : V → Hp → VK → Prop} (ho : UnR X (unaryOp op) r) (ha : PE X a ta) : PE X (.UnaryOp op a pos) (tUn r ta) := by
 intro pins s σ H Q I h
 exact UnaryOp_ (thn (ha pins s σ H _ I h) fun v s1 ⟨x, H1, I1, r1, q1⟩ => ho pins s1 σ H1 x v Q I1 r1 q1)
theorem opI {f : Value → Value → Sem Value} {C : Int → Int → Prop} {g : Int → Int → Int}
  (rule : ∀ (i j : Int) (t u : Tok) (s : Shared) (Q : Value → Shared → Prop) (E : Value → Shared → Prop), C i j → Q (.int (g i j) s.toks) { s with toks := s.toks + 1 } → wpAny (model X.prog X.w) X.A (f (.int i t) (.int j u)) Q E s) :
  OpR X f (rI C fun i j => .int (g i j)) := by
 intro pins s σ H x y v u Q I rx ry h
 obtain ⟨i, j, rfl, rfl, hc, q⟩ := h
 obtain ⟨t, rfl⟩ := rx
 obtain ⟨t', rfl⟩ := ry
 exact rule i j t t' s _ _ hc ⟨.int (g i j), H, I.tok _, ⟨_, rfl⟩, q⟩
theorem Ed {f : Value → Value → Sem Value} {g : Int → Int → Int}
  (rule : ∀ (i j : Int) (t u : Tok) (s : Shared) (Q : Value → Shared → Prop) (E : Value → Shared → Prop), Q (.int (g i j) s.toks) { s with toks := s.toks + 1 } → wpAny (model X.prog X.w) X.A (f (.int i t) (.int j u)) Q E s) :
  OpR X f (rI0 fun i j => .int (g i j)) := by
 intro pins s σ H x y v u Q I rx ry h
 obtain ⟨i, j, rfl, rfl, q⟩ := h
 obtain ⟨t, rfl⟩ := rx
 obtain ⟨t', rfl⟩ := ry
 exact rule i j t t' s _ _ ⟨.int (g i j), H, I.tok _, ⟨_, rfl⟩, q⟩
theorem BC {f : Value → Value → Sem Value} {g : Int → Int → Bool}
  (rule : ∀ (i j : Int) (t u : Tok) (s : Shared) (Q : Value → Shared → Prop) (E : Value → Shared → Prop), Q (.bool (g i j)) s → wpAny (model X.prog X.w) X.A (f (.int i t) (.int j u)) Q E s) :
  OpR X f (rI0 fun i j => .bl (g i j)) := by
 intro pins s σ H x y v u Q I rx ry h
 obtain ⟨i, j, rfl, rfl, q⟩ := h
 obtain ⟨t, rfl⟩ := rx
 obtain ⟨t', rfl⟩ := ry
 exact rule i j t t' s _ _ ⟨.bl (g i j), H, I, rfl, q⟩
noncomputable def yW (i j : Int) : Prop := 0 ≤ j ∧ j ≤ 1000000 ∧ i.natAbs < 2 ^ 64
noncomputable def rB (i j : Int) : Prop := (-(2 ^ 64) < i ∧ i < 2 ^ 64) ∨ (-(2 ^ 64) < j ∧ j < 2 ^ 64)
theorem rB.ok {i j : Int} (h : rB i j) : IntMulOk i j := by
 rcases h with ⟨h1, h2⟩ | ⟨h1, h2⟩
 ·exact .of_left (intBits_le_64 h1 h2)
 ·exact .of_right (intBits_le_64 h1 h2)
theorem AQ : OpR X (binaryOp .Add) (rI0 fun i j => .int (i + j)) := Ed fun _ _ _ _ _ _ _ q => add_int q
theorem b9 : OpR X (binaryOp .Sub) (rI0 fun i j => .int (i - j)) := Ed fun _ _ _ _ _ _ _ q => sub_int q
theorem gZ : OpR X (binaryOp .Mult) (rI rB fun i j => .int (i * j)) := opI fun _ _ _ _ _ _ _ hc q => mul_int q hc.ok
theorem j8 : OpR X (binaryOp .Mod) (rI (fun _ j => 0 < j) fun i j => .int (i % j)) := opI fun i j _ _ _ _ _ hc q => by
 have h1 : (0 : Int) < j := hc
 exact mod_int' (by omega) (by rw [Int.fmod_eq_emod_of_nonneg i (by omega)]; exact q)
theorem p6 : OpR X (binaryOp .Pow) (rI yW fun i j => .int (i ^ j.toNat)) := opI fun _ _ _ _ _ _ _ hc q => pow_int_small hc.1 hc.2.1 hc.2.2 q
theorem unI {f : Value → Sem Value} {g : Int → Int}
  (rule : ∀ (i : Int) (t : Tok) (s : Shared) (Q : Value → Shared → Prop) (E : Value → Shared → Prop), Q (.int (g i) s.toks) { s with toks := s.toks + 1 } → wpAny (model X.prog X.w) X.A (f (.int i t)) Q E s) :
  UnR X f (rU fun i => .int (g i)) := by
 intro pins s σ H x v Q I rx h
 obtain ⟨i, rfl, q⟩ := h
 obtain ⟨t, rfl⟩ := rx
 exact rule i t s _ _ ⟨.int (g i), H, I.tok _, ⟨_, rfl⟩, q⟩
theorem wD : UnR X (unaryOp .USub) (rU fun i => .int (-i)) := unI fun _ _ _ _ _ q => neg_int q
end
noncomputable def CV : V → V → Bool
 | .non, .non => true | .non, .int _ => true | .int _, .non => true | .non, .bl _ => true | .bl _, .non => true | .non, .str _ => true | .str _, .non => true
 | .int _, .int _ => true | .bl _, .bl _ => true | .str _, .str _ => true | .byt _, .byt _ => true
 | .int _, .str _ => true | .str _, .int _ => true | .bl _, .str _ => true | .str _, .bl _ => true
 | _, _ => false
noncomputable def rEq : R2 := fun x y H Q => CV x y = true ∧ Q (.bl (decide (x = y))) H
noncomputable def rNe : R2 := fun x y H Q => CV x y = true ∧ Q (.bl (!decide (x = y))) H
theorem t4 {i j : Int} : decide (V.int i = V.int j) = (i == j) := by
 rw [Bool.eq_iff_iff]
 simp
theorem wW {i j : Bool} : decide (V.bl i = V.bl j) = (i == j) := by
 rw [Bool.eq_iff_iff]
 simp
theorem tZ {i j : Str} : decide (V.str i = V.str j) = (i == j) := by
 rw [Bool.eq_iff_iff]
 simp
theorem t5 {i j : Array UInt8} : decide (V.byt i = V.byt j) = (i.toList == j.toList) := by
 rw [Bool.eq_iff_iff]
 cases i
 cases j
 simp
section
variable {X : Cx} {a b c : Expr} {ta tb tc : TE} {pos : Pos}
theorem bN {pins : List (Addr × Obj)} {σ : St} {H : Hp} {s : Shared} {Q : VK} {k k' : Bool} (I : Inv X pins σ H s) (q : Q (.bl k) H) (e : k = k') : EP X pins σ Q (.bool k') s := by
 subst e
 exact ⟨.bl k, H, I, rfl, q⟩
theorem fe : OpR X (compareOp .Eq) rEq := by
 intro pins s σ H x y v u Q I rx ry h
 obtain ⟨hs, q⟩ := h
 cases x with
 | non =>
  cases rx
  cases y with
  | non => cases ry; exact PySem.EqNone.eq_none_none (bN I q (by simp))
  | bl j => cases ry; exact PySem.EqNone.eq_none_bool (bN I q (by simp))
  | int j => obtain ⟨t', rfl⟩ := ry; exact PySem.EqNone.eq_none_int (bN I q (by simp))
  | str j => obtain ⟨t', rfl⟩ := ry; exact PySem.EqNone.eq_none_str (bN I q (by simp))
  | _ => exact absurd (show false = true from hs) Bool.false_ne_true
 | bl i =>
  cases rx
  cases y with
  | non => cases ry; exact PySem.EqNone.eq_bool_none (bN I q (by simp))
  | bl j => cases ry; exact eq_bool (bN I q wW)
  | str j => obtain ⟨t', rfl⟩ := ry; exact PySem.EqMixed.eq_bool_str (bN I q (by simp))
  | _ => exact absurd (show false = true from hs) Bool.false_ne_true
 | int i =>
  obtain ⟨t, rfl⟩ := rx
  cases y with
  | non => cases ry; exact PySem.EqNone.eq_int_none (bN I q (by simp))
  | int j => obtain ⟨t', rfl⟩ := ry; exact eq_int (bN I q t4)
  | str j => obtain ⟨t', rfl⟩ := ry; exact PySem.EqMixed.eq_int_str (bN I q (by simp))
  | _ => exact absurd (show false = true from hs) Bool.false_ne_true
 | str i =>
  obtain ⟨t, rfl⟩ := rx
  cases y with
  | non => cases ry; exact PySem.EqNone.eq_str_none (bN I q (by simp))
  | bl j => cases ry; exact PySem.EqMixed.eq_str_bool (bN I q (by simp))
  | int j => obtain ⟨t', rfl⟩ := ry; exact PySem.EqMixed.eq_str_int (bN I q (by simp))
  | str j => obtain ⟨t', rfl⟩ := ry; exact eq_str (bN I q tZ)
  | _ => exact absurd (show false = true from hs) Bool.false_ne_true
 | byt i =>
  obtain ⟨t, rfl⟩ := rx
  cases y with
  | byt j => obtain ⟨t', rfl⟩ := ry; exact PySem.W.eq_bytes (bN I q t5)
  | _ => exact absurd (show false = true from hs) Bool.false_ne_true
 | _ => cases y <;> exact absurd (show false = true from hs) Bool.false_ne_true
theorem yp : OpR X (compareOp .NotEq) rNe := by
 intro pins s σ H x y v u Q I rx ry h
 obtain ⟨hs, q⟩ := h
 cases x with
 | non =>
  cases rx
  cases y with
  | non => cases ry; exact PySem.EqNone.ne_none_none (bN I q (by simp))
  | bl j => cases ry; exact PySem.EqNone.ne_none_bool (bN I q (by simp))
  | int j => obtain ⟨t', rfl⟩ := ry; exact PySem.EqNone.ne_none_int (bN I q (by simp))
  | str j => obtain ⟨t', rfl⟩ := ry; exact PySem.EqNone.ne_none_str (bN I q (by simp))
  | _ => exact absurd (show false = true from hs) Bool.false_ne_true
 | bl i =>
  cases rx
  cases y with
  | non => cases ry; exact PySem.EqNone.ne_bool_none (bN I q (by simp))
  | bl j => cases ry; exact ne_bool (bN I q (congrArg not wW))
  | str j => obtain ⟨t', rfl⟩ := ry; exact PySem.EqMixed.ne_bool_str (bN I q (by simp))
  | _ => exact absurd (show false = true from hs) Bool.false_ne_true
 | int i =>
  obtain ⟨t, rfl⟩ := rx
  cases y with
  | non => cases ry; exact PySem.EqNone.ne_int_none (bN I q (by simp))
  | int j => obtain ⟨t', rfl⟩ := ry; exact ne_int (bN I q (congrArg not t4))
  | str j => obtain ⟨t', rfl⟩ := ry; exact PySem.EqMixed.ne_int_str (bN I q (by simp))
  | _ => exact absurd (show false = true from hs) Bool.false_ne_true
 | str i =>
  obtain ⟨t, rfl⟩ := rx
  cases y with
  | non => cases ry; exact PySem.EqNone.ne_str_none (bN I q (by simp))
  | bl j => cases ry; exact PySem.EqMixed.ne_str_bool (bN I q (by simp))
  | int j => obtain ⟨t', rfl⟩ := ry; exact PySem.EqMixed.ne_str_int (bN I q (by simp))
  | str j => obtain ⟨t', rfl⟩ := ry; exact ne_str (bN I q (congrArg not tZ))
  | _ => exact absurd (show false = true from hs) Bool.false_ne_true
 | byt i =>
  obtain ⟨t, rfl⟩ := rx
  cases y with
  | byt j => obtain ⟨t', rfl⟩ := ry; exact PySem.W.ne_bytes (bN I q (congrArg not t5))
  | _ => exact absurd (show false = true from hs) Bool.false_ne_true
 | _ => cases y <;> exact absurd (show false = true from hs) Bool.false_ne_true
theorem lA : OpR X (compareOp .Lt) (rI0 fun i j => .bl (decide (i < j))) := BC fun _ _ _ _ _ _ _ q => lt_int q
theorem qQ : OpR X (compareOp .LtE) (rI0 fun i j => .bl (decide (i ≤ j))) := BC fun _ _ _ _ _ _ _ q => le_int q
theorem lB : OpR X (compareOp .Gt) (rI0 fun i j => .bl (decide (j < i))) := BC fun _ _ _ _ _ _ _ q => gt_int q
theorem Dg : OpR X (compareOp .GtE) (rI0 fun i j => .bl (decide (j ≤ i))) := BC fun _ _ _ _ _ _ _ q => ge_int q
theorem AN : OpR X (compareOp .Is) (fun x y H Q => y = .non ∧ Q (.bl (decide (x = .non))) H) := by
 intro pins s σ H x y v u Q I rx ry h
 obtain ⟨rfl, q⟩ := h
 cases ry
 refine is_none_gen (bN I q ?_)
 cases x <;> first
  | (cases rx; rfl)
  | (obtain ⟨t, rfl⟩ := rx; rfl)
theorem OpR.or {f : Value → Value → Sem Value} {r r' : R2} (h : OpR X f r) (h' : OpR X f r') : OpR X f (fun x y H Q => r x y H Q ∨ r' x y H Q) := by
 intro pins s σ H x y v u Q I rx ry q
 rcases q with q | q
 ·exact h pins s σ H x y v u Q I rx ry q
 ·exact h' pins s σ H x y v u Q I rx ry q
theorem aK (b : Expr) {op : CmpOp} (h : op ≠ .In := by decide) (h2 : op ≠ .NotIn := by decide) : behindInMarks op b = false := by
 have e1 : (op == CmpOp.In) = false := by cases op <;> first | rfl | exact absurd rfl h
 have e2 : (op == CmpOp.NotIn) = false := by cases op <;> first | rfl | exact absurd rfl h2
 cases b <;> simp [behindInMarks, e1, e2]
theorem yd {op : CmpOp} {r : R2} (ho : OpR X (compareOp op) r) (ha : PE X a ta) (hb : PE X b tb) (hm : behindInMarks op b = false) : PE X (.Compare a [op] [b] pos) (tOp r ta tb) := by
 intro pins s σ H Q I h
 exact wpAny_Compare1 (DS ha hb I h fun v u s2 x y H2 I2 rx ry q => ho pins s2 σ H2 x y v u Q I2 rx ry q) hm
noncomputable def zO (t : TE) : TT := fun σ H Q => t σ H fun x H' => ∃ k, x = .bl k ∧ Q k H'
theorem xW {op : CmpOp} {r : R2} (ho : OpR X (compareOp op) r) (ha : PE X a ta) (hb : PE X b tb) (hm : behindInMarks op b = false) : PT X (.Compare a [op] [b] pos) (zO (tOp r ta tb)) := by
 intro pins s σ H Q I h
 refine wpAny_isTrue_Compare1 (thn (ha pins s σ H _ I h) fun v s1 ⟨x, H1, I1, r1, q1⟩ => thn (hb pins s1 σ H1 _ I1 q1) fun u s2 ⟨y, H2, I2, r2, q2⟩ =>
  thn (ho pins s2 σ H2 x y v u _ I2 r1 r2 q2) fun c s3 ⟨z, H3, I3, r3, k, e, q3⟩ => ?_) hm
 subst e
 cases r3
 exact wpAny_truthy_bool ⟨H3, I3, q3⟩
noncomputable def sh (r r' : R2) (ta tb tc : TE) : TE := fun σ H Q => ta σ H fun x H1 => tb σ H1 fun y H2 => r x y H2 fun z H3 => ∃ k, z = .bl k ∧
 (if k = true then tc σ H3 fun w' H4 => r' y w' H4 Q else Q (.bl false) H3)
theorem vA {op op' : CmpOp} {r r' : R2} (ho : OpR X (compareOp op) r) (ho' : OpR X (compareOp op') r') (ha : PE X a ta) (hb : PE X b tb) (hc : PE X c tc)
  (hm : lastMarks [op, op'] [b, c] = false := by with_unfolding_all rfl) : PE X (.Compare a [op, op'] [b, c] pos) (sh r r' ta tb tc) := by
 intro pins s σ H Q I h
 refine Compare_chain (thn (ha pins s σ H _ I h) fun v s1 ⟨x, H1, I1, r1, q1⟩ => chain_link (thn (hb pins s1 σ H1 _ I1 q1) fun u s2 ⟨y, H2, I2, r2, q2⟩ =>
  thn (ho pins s2 σ H2 x y v u _ I2 r1 r2 q2) fun d s3 ⟨z, H3, I3, r3, k, e, q3⟩ => ?_)) hm
 subst e
 cases r3
 refine wpAny_truthy_bool ?_
 cases k with
 | false => exact ite_ff ⟨.bl false, H3, I3, rfl, q3⟩
 | true => exact ite_tt (chain_last (thn (hc pins s3 σ H3 _ I3 q3) fun w' s4 ⟨z', H4, I4, r4, q4⟩ => ho' pins s4 σ H4 y z' u w' Q I4 r2 r4 q4))
theorem p8 : (sizeLine : Nat) < 2 ^ 63 := by rw [sizeLine_eq]; decide
theorem qR : OpR X (binaryOp .Add) (fun x y H Q => ∃ i j, x = .str i ∧ y = .str j ∧ i.length + j.length ≤ sizeLine ∧ Q (.str (i ++ j)) H) := by
 intro pins s σ H x y v u Q I rx ry h
 obtain ⟨i, j, rfl, rfl, hz, q⟩ := h
 obtain ⟨t, rfl⟩ := rx
 obtain ⟨t', rfl⟩ := ry
 exact add_str (fun t' tk => ⟨.str (i ++ j), H, I.tok _, ⟨_, rfl⟩, q⟩) hz
theorem ll {x : V} {us : List Value} (r : cL [x] us) : ∃ u, us = [u] ∧ dv x u := by
 cases r with
 | cons r1 r2 => cases r2; exact ⟨_, rfl, r1⟩
theorem vf {x y : V} {us : List Value} (r : cL [x, y] us) : ∃ u w', us = [u, w'] ∧ dv x u ∧ dv y w' := by
 cases r with
 | cons r1 r2 =>
  cases r2 with
  | cons r3 r4 => cases r4; exact ⟨_, _, rfl, r1, r3⟩
theorem ug (hc : X.calm = true) : eQ X (.builtin "min") (fun xs H Q => ∃ i j, xs = [.int i, .int j] ∧ Q (.int (if j < i then j else i)) H) := by
 intro pins s σ H xs us Q I r h
 obtain ⟨i, j, rfl, q⟩ := h
 obtain ⟨u, w', rfl, ⟨t, rfl⟩, ⟨t', rfl⟩⟩ := vf r
 refine min_two_ints (I.ok.hd hc) fun h' tk k => ⟨_, H, I.kept k, ?_, q⟩
 by_cases hj : j < i
 ·rw [if_pos hj, if_pos hj]; exact ⟨_, rfl⟩
 ·rw [if_neg hj, if_neg hj]; exact ⟨_, rfl⟩
theorem nQ : eQ X (.type "int") (fun xs H Q => (∃ i, xs = [.int i] ∧ Q (.int i) H) ∨ ∃ k, xs = [.bl k] ∧ Q (.int (if k then 1 else 0)) H) := by
 intro pins s σ H xs us Q I r h
 rcases h with ⟨i, rfl, q⟩ | ⟨k, rfl, q⟩
 ·obtain ⟨u, rfl, t, rfl⟩ := ll r
  exact call_int_int ⟨.int i, H, I, ⟨_, rfl⟩, q⟩
 ·obtain ⟨u, rfl, r1⟩ := ll r
  cases r1
  exact call_int_bool ⟨.int (if k then 1 else 0), H, I.tok _, ⟨_, rfl⟩, q⟩
theorem nO : eQ X (.type "str") (fun xs H Q => ∃ i, xs = [.int i] ∧ i.natAbs.log2 < 1920 ∧ Q (.str (toString i)) H) := by
 intro pins s σ H xs us Q I r h
 obtain ⟨i, rfl, hz, q⟩ := h
 obtain ⟨u, rfl, t, rfl⟩ := ll r
 exact PySem.P.str_of_int hz ⟨.str _, H, I.tok _, ⟨_, rfl⟩, q⟩
end
structure DX (h : Heap) (x dx C : Addr) (mA : Str → Option Value) : Prop where
 obj : h.get? x = some (PySem.W.instObj C dx)
 ns : h.Ns1 dx mA
 ne : dx ≠ x
theorem tj {h : Heap} {dx : Addr} {mA : Str → Option Value} (n : h.Ns1 dx mA) : ∃ od, h.get? dx = some od ∧ ∀ name, PySem.W.lookIn name od = some (mA name) := by
 obtain ⟨o, es, ep, ho, hd, hk, _, hm⟩ := n
 refine ⟨o, ho, fun name => ?_⟩
 have e := hm name
 unfold nsFind findBy at e
 rw [← Array.find?_toList] at e
 unfold PySem.W.lookIn
 rw [hd]
 dsimp only
 split
 ·rename_i y q
  rw [q] at e
  exact congrArg some e
 ·rename_i q
  rw [q] at e
  have a : es.toList.any (·.refKey) = false := by
   rw [List.any_eq_false]
   intro y hy
   obtain ⟨z, t, hkey⟩ := hk y (Array.mem_toList_iff.mp hy)
   simp [DictEntry.refKey, hkey]
  have a' : ¬ es.toList.any (·.refKey) = true := by rw [a]; exact Bool.false_ne_true
  rw [if_neg a']
  exact congrArg some e
theorem DX.look {h : Heap} {x dx C : Addr} {mA : Str → Option Value} (I : DX h x dx C mA) : ∃ od, PySem.W.InstAt h x (PySem.W.instObj C dx) C (some od) ∧ ∀ name, PySem.W.lookIn name od = some (mA name) :=
 let ⟨od, ho, hl⟩ := tj I.ns
 ⟨od, ⟨I.obj, rfl, rfl, ho⟩, hl⟩
theorem ux.some_of {v : V} {o : Option Value} (r : ux (some v) o) : ∃ u, o = some u ∧ dv v u := by
 cases o with
 | none => exact (show False from r).elim
 | some u => exact ⟨u, rfl, r⟩
section
variable {P : Program} {w : World} {H H' : Hp} {h h' : Heap} {a C dx : Addr} {fs fs' : List (Str × V)}
theorem yB (hok : HOk P w H h) (e : H a = some (.ins C dx fs)) : ∃ mA, DX h a dx C mA ∧ (∀ f, ux (fs.lookup f) (mA f)) ∧ PySem.Within mA (fs.map (·.1)) ∧ fs.length ≤ 1000 ∧ H dx = some (.own a) := by
 obtain ⟨d, z, ne, ob, mA, n, r, q⟩ := (show dX P w H h a (.ins C dx fs) from hok a _ e)
 exact ⟨mA, ⟨ob, n, ne⟩, r, q, z, d⟩
end
structure Cls (K : PySem.W.Frag) (C : Addr) : Prop where
 pg : PySem.W.plainGet K C Str.empty = true
 hd : PySem.W.hasDictIn K C = true
 po : PySem.W.plainOver K C = true
 sa : PySem.W.findIn K (.ref C) "__setattr__" = some (some (.builtin "object.__setattr__"))
theorem Cls.get {K : PySem.W.Frag} {C : Addr} (c : Cls K C) (f : Str) : PySem.W.plainGet K C f = true := c.pg
section
variable {X : Cx} {pins : List (Addr × Obj)} {σ : St} {H : Hp} {s : Shared} {A : Around} {E : Value → Shared → Prop} {Q : Value → Shared → Prop} {c : Value} {b : Bool}
inductive qy (K : PySem.W.Frag) (H : Hp) : V → Value → Prop where
 | non : qy K H .non (.type "NoneType")
 | bl (x : Bool) : qy K H (.bl x) (.type "bool")
 | int (i : Int) : qy K H (.int i) (.type "int")
 | str (x : Str) : qy K H (.str x) (.type "str")
 | flt (x : UInt64) : qy K H (.flt x) (.type "float")
 | lst {a : Addr} {xs : List V} (e : H a = some (.lst xs)) : qy K H (.ref a) (.type "list")
 | frz {a : Addr} {o : Obj} {xs : List V} (e : H a = some (.frz o (.lst xs))) : qy K H (.ref a) (.type "list")
 | tup {a : Addr} {xs : List V} (e : H a = some (.tup xs)) : qy K H (.ref a) (.type "tuple")
 | dK {a : Addr} {kvs : List (Key × V)} (e : H a = some (.dK kvs)) : qy K H (.ref a) (.type "dict")
 | dT {a : Addr} {kvs : List (List Key × V)} (e : H a = some (.dT kvs)) : qy K H (.ref a) (.type "dict")
 | ins {a C dx : Addr} {fs : List (Str × V)} (e : H a = some (.ins C dx fs)) (cl : Cls K C) (ha : PySem.W.findIn K (.ref C) "__class__" = some (some (.builtin "object.__class__")))
   (hn : PySem.W.specialIn K (.builtin "object.__class__") "__get__" = some (some (.builtin "getset_descriptor.__get__"))) (htk : PySem.W.takesIn K (.builtin "object.__class__") = some true)
   (hm : PySem.W.mroIn K C (.type "object") = some true) : qy K H (.ref a) (.ref C)
theorem tH {x : V} {u t : Value} (I : Inv X pins σ H s) (rx : dv x u) (ty : qy X.K H x t) (e : PySem.W.kitOne X.K t c = some b) (h : ∀ tk, Q (.bool b) { s with toks := tk }) :
  wpAny (model X.prog X.w) A (call (.builtin "isinstance") [u, c]) Q E s := by
 cases ty with
 | non => cases (show u = Value.none from rx); exact PySem.W.kia_one PySem.W.kitx_none I.kIn True.intro e (fun z => nomatch z) h
 | bl y => cases (show u = Value.bool y from rx); exact PySem.W.kia_one PySem.W.kitx_bool I.kIn True.intro e (fun z => nomatch z) h
 | int i => obtain ⟨t, q⟩ := (show ∃ t, u = Value.int i t from rx); cases q; exact PySem.W.kia_one PySem.W.kitx_int I.kIn True.intro e (fun z => nomatch z) h
 | str y => obtain ⟨t, q⟩ := (show ∃ t, u = Value.str y t from rx); cases q; exact PySem.W.kia_one PySem.W.kitx_str I.kIn True.intro e (fun z => nomatch z) h
 | flt y => obtain ⟨t, q⟩ := (show ∃ t, u = Value.float y t from rx); cases q; exact PySem.W.kia_one PySem.W.kitx_float I.kIn True.intro e (fun z => nomatch z) h
 | @lst a xs ea =>
  cases (show u = Value.ref a from rx)
  obtain ⟨_, _, n, _, h1⟩ := (show dX X.prog X.w H s.heap a (.lst xs) from I.hok a _ ea)
  exact PySem.W.kia_one PySem.W.kitx_list I.kIn ⟨_, h1, rfl⟩ e (fun z => nomatch z) h
 | @frz a ob xs ea =>
  cases (show u = Value.ref a from rx)
  obtain ⟨_, _, _, n, _, h1⟩ := (show dX X.prog X.w H s.heap a (.frz ob (.lst xs)) from I.hok a _ ea)
  exact PySem.W.kia_one PySem.W.kitx_list I.kIn ⟨_, h1, rfl⟩ e (fun z => nomatch z) h
 | @tup a xs ea =>
  cases (show u = Value.ref a from rx)
  obtain ⟨_, _, _, p⟩ := (show dX X.prog X.w H s.heap a (.tup xs) from I.hok a _ ea)
  obtain ⟨o, h1, h2, _⟩ := p
  exact PySem.W.kia_one PySem.W.kitx_tuple I.kIn ⟨o, h1, h2⟩ e (fun z => nomatch z) h
 | @dK a kvs ea =>
  cases (show u = Value.ref a from rx)
  obtain ⟨_, _, vs, _, p⟩ := (show dX X.prog X.w H s.heap a (.dK kvs) from I.hok a _ ea)
  obtain ⟨o, es, ep, h1, h2, _⟩ := p
  exact PySem.W.kia_one PySem.W.kitx_dict I.kIn ⟨o, h1, h2.1⟩ e (fun z => nomatch z) h
 | @dT a kvs ea =>
  cases (show u = Value.ref a from rx)
  obtain ⟨_, _, xs, _, o, es, ep, h1, h2, _⟩ := (show dX X.prog X.w H s.heap a (.dT kvs) from I.hok a _ ea)
  exact PySem.W.kia_one PySem.W.kitx_dict I.kIn ⟨o, h1, h2.1⟩ e (fun z => nomatch z) h
 | @ins a C dx fs ea cl ha hn htk hm =>
  cases (show u = Value.ref a from rx)
  obtain ⟨mA, O, _⟩ := yB I.hok ea
  obtain ⟨od, J, _⟩ := O.look
  exact PySem.W.kia_one (PySem.W.kitx_own (cl.get _) cl.hd ha hn htk hm) I.kIn J e (fun z => nomatch z) h
end
structure kK (k : Nat) (A : Around) : Prop where
 hd : A.handled = none
 dp : A.depth + 3 * k + 5 < recursionLimit
 un : A.units + 16 * k + 200 < cLine
 gd : A.guards = some []
theorem kK.mono {j k : Nat} {A : Around} (r : kK k A) (h : j ≤ k) : kK j A := ⟨r.hd, by have := r.dp; omega, by have := r.un; omega, r.gd⟩
theorem kK.deeper {k : Nat} {A : Around} (r : kK (k + 1) A) (env : Env) : kK k (A.deeper env) :=
 ⟨r.hd, by have := r.dp; show A.depth + 1 + 3 * k + 5 < _; omega, by have := r.un; show A.units + 3 + 16 * k + 200 < _; omega, r.gd⟩
theorem kK.depth {k : Nat} {A : Around} (r : kK k A) : A.depth < recursionLimit := by have := r.dp; omega
theorem kK.units {k : Nat} {A : Around} (r : kK k A) : A.units + 64 < cLine := by have := r.un; omega
noncomputable def D4 : TA := fun _ H Q => Q [] H
noncomputable def zU (ta : TE) (tr : TA) : TA := fun σ H Q => ta σ H fun x H1 => tr σ H1 fun xs H2 => Q (x :: xs) H2
section
variable {X : Cx} {e : Expr} {es : List Expr} {te : TE} {t : TA} {pos : Pos}
theorem AG : PA X [] D4 := fun _ _ _ _ H Q I h => Calls.spliced_nil ⟨[], H, I, .nil, h⟩
theorem yg (ha : PE X e te) (hr : PA X es t) (hs : starEach (e :: es) X.env = (false, eval e X.env) :: starEach es X.env := by rfl) : PA X (e :: es) (zU te t) := by
 intro pos pins s σ H Q I h
 rw [hs]
 show wpAny _ _ (spliced ((false, eval e X.env) :: backTo pos (starEach es X.env))) _ _ s
 refine Calls.spliced_cons (thn (ha pins s σ H _ I h) fun u s1 hz => ?_)
 obtain ⟨x, H1, I1, r1, q1⟩ := hz
 exact thn (hr pos pins s1 σ H1 _ I1 q1) fun us s2 ⟨xs, H2, I2, r2, q2⟩ => ⟨x :: xs, H2, I2, .cons r1 r2, q2⟩
noncomputable def D0 (t : TA) : TE := fun σ H Q => t σ H fun xs H1 => xs.length ≤ sizeLine ∧ ∀ p, H1 p = none → Q (.ref p) (upd H1 p (.tup xs))
noncomputable def D5 (t : TA) : TE := fun σ H Q => t σ H fun xs H1 => xs.length ≤ sizeLine ∧ ∀ p, H1 p = none → Q (.ref p) (upd H1 p (.lst xs))
theorem Av {x1} (h : PA X es t) : PE X (.Tuple es x1 pos) (D0 t) := by
 intro pins s σ H Q I hq
 refine wpAny_Tuple_spliced (thn (h pos pins s σ H _ I hq) fun us s1 ⟨xs, H1, I1, r, z, q⟩ => ⟨by rw [← r.length]; exact z, ?_⟩)
 have hf : H1 s1.heap.objs.size = none := I1.hok.fresh (Nat.le_refl _)
 refine ⟨.ref s1.heap.objs.size, upd H1 s1.heap.objs.size (.tup xs), I1.laid (t' := s1.toks) (fun b u e => Heap.get?_push_of_some _ e) (Nat.le_refl _) ?_, rfl, q _ hf⟩
 exact ⟨z, us, r, ⟨_, Heap.get?_push_size _ rfl, rfl, _, rfl⟩⟩
theorem AA (h : PA X es t) : PE X (.List es pos) (D5 t) := by
 intro pins s σ H Q I hq
 refine wpAny_List_spliced (thn (h pos pins s σ H _ I hq) fun us s1 ⟨xs, H1, I1, r, z, q⟩ => ⟨by rw [← r.length]; exact z, ?_⟩)
 have hf : H1 s1.heap.objs.size = none := I1.hok.fresh (Nat.le_refl _)
 refine ⟨.ref s1.heap.objs.size, upd H1 s1.heap.objs.size (.lst xs), I1.laid (t' := s1.toks) (fun b u e => Heap.get?_push_of_some _ e) (Nat.le_refl _) ?_, rfl, q _ hf⟩
 exact ⟨z, us, 0, r, Heap.get?_push_size _ rfl⟩
end
noncomputable abbrev Sp := List V → Hp → VK → XK → Prop
noncomputable abbrev CXT := List Env → Hp → Shared → XK → Value → Shared → Prop
structure BO (P : Program) (w : World) (K : PySem.W.Frag) (mg : Str → Option Value) (base : Heap) (A : Around) (outer : List Env) (s : Shared) (H : Hp) : Prop where
 frames : A.frames = some outer
 mod : Mod K mg base
 bs : ∀ b o, base.get? b = some o → s.heap.get? b = some o ∧ H b = none
 bsz : base.objs.size ≤ s.heap.objs.size
 funs : s.heap.FunFrames base outer
 frf : ∀ b ∈ frs outer, H b = none
 hok : HOk P w H s.heap
 bare : AllBare s.gens
noncomputable def CE (outer : List Env) (P : Program) (w : World) (H : Hp) (s : Shared) (Q : VK) (u : Value) (s' : Shared) : Prop :=
 ∃ v H', s'.os = s.os ∧ AllBare s'.gens ∧ Un (frs outer) [] H H' s.heap s'.heap ∧ HOk P w H' s'.heap ∧ dv v u ∧ Q v H'
noncomputable def CR (CX : CXT) (outer : List Env) (P : Program) (w : World) (H : Hp) (s : Shared) (Q : VK) (E : XK) (r : Result) (s' : Shared) : Prop :=
 match r with
 | .ok (.ret u) => CE outer P w H s Q u s'
 | .ok _ => False
 | .error e => CX outer H s E e s'
structure qF (P : Program) (w : World) (K : PySem.W.Frag) (mg : Str → Option Value) (base : Heap) (CX : CXT) (k : Nat) (f : Addr) (fd : FuncData) (ps : List Str) (sp : Sp) : Prop where
 len : ∀ vs H Q E, sp vs H Q E → vs.length = ps.length
 run : ∀ (A : Around) (outer : List Env) (s : Shared) (H : Hp) (args : Args) (us : List Value) (vs : List V) (Q : VK) (E : XK), kK k A → BO P w K mg base A outer s H → BindsTo s fd args (ps.zip us) → cL vs us → sp vs H Q E →
  codeAny (model P w) A (.call (.ref f) args) (CR CX outer P w H s Q E) s
theorem qF.mono {P : Program} {w : World} {K : PySem.W.Frag} {mg : Str → Option Value} {base : Heap} {CX : CXT} {j k : Nat} {f : Addr} {fd : FuncData} {ps : List Str} {sp : Sp} (F : qF P w K mg base CX j f fd ps sp) (h : j ≤ k) :
  qF P w K mg base CX k f fd ps sp := ⟨F.len, fun A outer s H args us vs Q E hr => F.run A outer s H args us vs Q E (hr.mono h)⟩
section
variable {X : Cx} {pins : List (Addr × Obj)} {σ : St} {H : Hp} {s s' : Shared}
theorem Inv.env0 (I : Inv X pins σ H s) : BO X.prog X.w X.K X.mg X.base X.A X.stack s H :=
 ⟨I.ok.frames, I.ok.mod, I.bs, Nat.le_trans I.ok.bsz I.sz, I.stack, I.stkFree, I.hok, I.bare⟩
theorem Inv.after {Q : VK} {u : Value} (I : Inv X pins σ H s) (h : CE X.stack X.prog X.w H s Q u s') : EP X pins σ Q u s' := by
 obtain ⟨v, H', os, bare, un, hok, r, q⟩ := h
 obtain ⟨hh, g, d, t, os'⟩ := s'
 obtain rfl : os' = s.os := os
 exact ⟨v, H', I.call (h' := hh) (g' := g) (d' := d) (t' := t) (ch := []) un hok bare (fun b z => absurd z (by simp)), r, q⟩
end
noncomputable def zV (sp : Sp) (dvs : List V) (E : XK) (t : TA) : TE := fun σ H Q => t σ H fun vs H1 => sp (vs ++ dvs) H1 Q E
noncomputable def pD (K : PySem.W.Frag) (fd : FuncData) (ps : List Str) (ds : List Value) : Prop :=
 ∀ (s : Shared) (us : List Value), K.In s.heap → (us ++ ds).length = ps.length → BindsTo s fd ⟨us, []⟩ (ps.zip (us ++ ds))
theorem pD.all {K : PySem.W.Frag} {fd : FuncData} {ps : List Str} (h : ∀ us : List Value, us.length = ps.length → bindArgs fd ⟨us, []⟩ = pure (ps.zip us)) : pD K fd ps [] := fun s us _ hl => by
 rw [List.append_nil] at hl ⊢
 exact .of_eq (h us hl)
noncomputable def uz (CX : CXT) (X : Cx) (E : XK) : Prop := ∀ (pins : List (Addr × Obj)) (σ : St) (H : Hp) (s : Shared) (e : Value) (s' : Shared), Inv X pins σ H s → CX X.stack H s E e s' → X.xe e s'
section
variable {X : Cx} {CX : CXT} {k : Nat} {f C : Addr} {fd : FuncData} {ps : List Str} {sp : Sp} {dvs : List V} {ds : List Value} {E : XK} {x m : Str} {p pos apos : Pos} {e o : Expr} {es : List Expr} {ta : TE} {t : TA}
theorem Aa {pins : List (Addr × Obj)} {σ : St} {H : Hp} {s : Shared} {Q : VK} {us : List Value} {vs : List V} (F : qF X.prog X.w X.K X.mg X.base CX k f fd ps sp) (hr : kK k X.A) (hb : pD X.K fd ps ds) (hd : cL dvs ds) (hx : uz CX X E)
  (I : Inv X pins σ H s) (r : cL vs us) (h : sp (vs ++ dvs) H Q E) : wpAny (model X.prog X.w) X.A (call (.ref f) us) (EP X pins σ Q) X.xe s := by
 have r2 : cL (vs ++ dvs) (us ++ ds) := r.append hd
 have hl : (us ++ ds).length = ps.length := by rw [← r2.length]; exact F.len _ _ _ _ h
 refine wpAny_call (codeAny_mono (F.run X.A X.stack s H ⟨us, []⟩ (us ++ ds) (vs ++ dvs) Q E hr I.env0 (hb s us I.kIn hl) r2 h) fun r s' hq => ?_)
 cases r with
 | error e => exact hx pins σ H s e s' I hq
 | ok fl =>
  cases fl with
  | ret u => exact I.after hq
  | next => exact False.elim hq
  | brk => exact False.elim hq
  | cont => exact False.elim hq
theorem ye (F : qF X.prog X.w X.K X.mg X.base CX k f fd ps sp) (hr : kK k X.A) (hg : Gl X x) (hm : X.mg x = some (.ref f)) (hk : PySem.W.keepIn X.K (.ref f) = true) (hb : pD X.K fd ps ds) (hd : cL dvs ds) (hx : uz CX X E)
  (ha : PA X (e :: es) t) (hdb : (x == ("__debug__" : Str)) = false := by decide) (he : starEach (e :: es) X.env = (false, eval e X.env) :: starEach es X.env := by rfl) (hpl : (backTo pos (starEach es X.env)).any (·.1) = false := by rfl) :
  PE X (.Call (.Name x p) (e :: es) [] pos) (zV sp dvs E t) := by
 intro pins s σ H Q I h
 refine wpAny_Call_Name_kw (tq I hg hm ?_ hdb)
 refine PySem.W.callWith_K (h₀ := X.base) I.ok.mod.kin hk (thn (ha pos pins s σ H _ I h) fun us s1 ⟨vs, H1, I1, r, q⟩ => ⟨I1.kIn, ?_⟩) he hpl
 exact Aa F hr hb hd hx I1 r q
end
structure aY (N P : List Str) (sc : Scope) : Prop where
 kind : sc.kind = .function
 co : sc.isCoroutine = false
 gen : sc.isGenerator = false
 nd : N.Nodup
 pre : N.take P.length = P
 par : ∀ x ∈ P, sc.names.lookup x = some .local ∨ sc.names.lookup x = some .cell
 nofree : ∀ y ∈ sc.names, y.2 ≠ .free
theorem nT {kindOf : Str → Option NameKind} {x : Str} : ∀ {binds : List (Str × Value)} {m : Str → Option Value}, (∀ v, (x, v) ∉ binds) → bindL kindOf binds m x = m x
 | [], _, _ => rfl
 | (n, v) :: r, m, h => by
  unfold bindL
  rw [nT fun w hw => h w (List.mem_cons_of_mem _ hw)]
  split
  ·have : x ≠ n := by rintro rfl; exact h v List.mem_cons_self
   simp [this]
  ·rfl
theorem nV {kindOf : Str → Option NameKind} {x : Str} : ∀ {binds : List (Str × Value)} {m : Str → Option Value}, (∀ v, (x, v) ∉ binds) → bindC kindOf binds m x = m x
 | [], _, _ => rfl
 | (n, v) :: r, m, h => by
  unfold bindC
  rw [nV fun w hw => h w (List.mem_cons_of_mem _ hw)]
  split
  ·rfl
  ·have : x ≠ n := by rintro rfl; exact h v List.mem_cons_self
   simp [this]
theorem nU {kindOf : Str → Option NameKind} {x : Str} {v : Value} : ∀ {P : List Str} {vs : List Value} {i : Nat} {m : Str → Option Value}, P.Nodup → P[i]? = some x → vs[i]? = some v → kindOf x = some .local →
  bindL kindOf (P.zip vs) m x = some v
 | [], _, _, _, _, h, _, _ => by simp at h
 | _ :: _, [], _, _, _, _, h, _ => by simp at h
 | p :: P, w :: vs, 0, m, nd, h1, h2, hk => by
  simp at h1 h2; subst h1; subst h2
  show bindL kindOf ((p, w) :: P.zip vs) m p = _
  unfold bindL
  rw [nT fun v hv => (List.nodup_cons.mp nd).1 (List.of_mem_zip hv).1, if_pos hk]
  simp
 | p :: P, w :: vs, i + 1, m, nd, h1, h2, hk => by
  show bindL kindOf ((p, w) :: P.zip vs) m x = _
  unfold bindL
  exact nU (i := i) (List.nodup_cons.mp nd).2 (by simpa using h1) (by simpa using h2) hk
theorem nW {kindOf : Str → Option NameKind} {x : Str} {v : Value} : ∀ {P : List Str} {vs : List Value} {i : Nat} {m : Str → Option Value}, P.Nodup → P[i]? = some x → vs[i]? = some v → kindOf x ≠ some .local →
  bindC kindOf (P.zip vs) m x = some v
 | [], _, _, _, _, h, _, _ => by simp at h
 | _ :: _, [], _, _, _, _, h, _ => by simp at h
 | p :: P, w :: vs, 0, m, nd, h1, h2, hk => by
  simp at h1 h2; subst h1; subst h2
  show bindC kindOf ((p, w) :: P.zip vs) m p = _
  unfold bindC
  rw [nV fun v hv => (List.nodup_cons.mp nd).1 (List.of_mem_zip hv).1, if_neg hk]
  simp
 | p :: P, w :: vs, i + 1, m, nd, h1, h2, hk => by
  show bindC kindOf ((p, w) :: P.zip vs) m x = _
  unfold bindC
  exact nW (i := i) (List.nodup_cons.mp nd).2 (by simpa using h1) (by simpa using h2) hk
noncomputable def gT (N : List Str) (vs : List V) : St := vs.map some ++ List.replicate (N.length - vs.length) none
noncomputable def uN (CX : CXT) (P : Program) (w : World) (K : PySem.W.Frag) (mg : Str → Option Value) (base : Heap) (N : List Str) (qual : Str) (scope : Scope) (f : Addr) (cd : Value) (A : Around) (outer : List Env) (s : Shared) (H : Hp) (E : XK) : Cx where
 prog := P
 w := w
 K := K
 mg := mg
 base := base
 A := A.deeper (envOfC qual scope s.heap.objs.size f cd)
 N := N
 s₀ := s
 H₀ := H
 env := envOfC qual scope s.heap.objs.size f cd
 outer := outer
 stack := envOfC qual scope s.heap.objs.size f cd :: outer
 ex := []
 calm := true
 fn := fun _ => true
 pn := []
 xe := fun e s' => wpAny (model P w) (A.deeper (envOfC qual scope s.heap.objs.size f cd)) (leaving (envOfC qual scope s.heap.objs.size f cd) e) (fun _ s'' => CX outer H s E e s'') (fun e' s'' => CX outer H s E e' s'') s'
theorem qq {sc : Scope} {n : Nat} {x : Str} (h : sc.names.lookup x = some .cell) : ∃ c, (cellsFrom n sc.names []).lookup x = some c := by
 have q := PySem.W.cellsFrom_some sc.names n [] (.inl h)
 exact Option.isSome_iff_exists.mp q
theorem tK {CX : CXT} {P : Program} {w : World} {K : PySem.W.Frag} {mg : Str → Option Value} {base : Heap} {N ps : List Str} {qual : Str} {scope : Scope} {f : Addr} {cd : Value} {A : Around} {outer : List Env} {s s1 : Shared} {H : Hp} {E : XK} {us : List Value} {vs : List V}
  (S : aY N ps scope) (hd : A.handled = none) (e0 : BO P w K mg base A outer s H) (hl : vs.length = ps.length) (r : cL vs us)
  (x : InCallC s s.heap.objs.size (bindL (envOfC qual scope s.heap.objs.size f cd).kindOf (ps.zip us) fun _ => none) (cellsFrom (s.heap.objs.size + 1) scope.names []) (bindC (envOfC qual scope s.heap.objs.size f cd).kindOf (ps.zip us) fun _ => none) s1) :
  Inv (uN CX P w K mg base N qual scope f cd A outer s H E) [] (gT N vs) H s1 := by
 have hpl : ps.length ≤ N.length := by have := congrArg List.length S.pre; rw [List.length_take] at this; omega
 obtain ⟨h1, tk, rfl, hk⟩ := x.done
 have noA : ∀ b : Addr, b ∉ (uN CX P w K mg base N qual scope f cd A outer s H E).ex := fun b z => absurd (show b ∈ ([] : List Addr) from z) (by simp)
 refine ⟨⟨e0.mod, S.kind, rfl, rfl, Nat.le_refl _, fun y z c h1 h2 => ?_, fun y hy => ?_, fun y c _ h => ?_, fun _ => hd, Around.frames_deeper e0.frames, .inr ⟨rfl, rfl⟩, fun b z => absurd z (noA b), e0.bs, e0.bsz, fun b _ _ => noA b, fun b z => absurd z (noA b), e0.funs, e0.frf⟩,
  rfl, e0.bare, Un.kept hk, ⟨_, x.toInCall.ns, fun i y v h1 h2 h3 => ?_⟩, fun y c h => ⟨_, x.cell y c h⟩, e0.hok.fresh (Nat.le_refl _), fun y c h => ?_, fun p hp => absurd (show p ∈ ([] : List (Addr × Obj)) from hp) (by simp), e0.hok.kept hk, ?_⟩
 ·exact name_of_addr x.apart (PySem.mem_of_lookup h1) (PySem.mem_of_lookup h2)
 ·have hy : scope.names.lookup y = some .cell ∨ scope.names.lookup y = some .free := hy
  rcases hy with hy | hy
  ·exact qq hy
  ·exact absurd rfl (S.nofree _ (PySem.mem_of_lookup hy))
 ·exact Nat.le_of_lt (x.above y c (PySem.mem_of_lookup h))
 ·have hi : i < vs.length := by
   unfold gT at h2
   by_cases hi : i < vs.length
   ·exact hi
   ·rw [List.getElem?_append_right (by simpa using hi)] at h2
    rw [List.getElem?_replicate] at h2
    split at h2 <;> cases h2
  have ha : vs[i]? = some v := by
   unfold gT at h2
   rw [List.getElem?_append_left (by simpa using hi), List.getElem?_map] at h2
   cases e : vs[i]? with
   | none => rw [e] at h2; cases h2
   | some a => rw [e] at h2; cases h2; rfl
  obtain ⟨u, hu, rv⟩ := r.get ha
  have hp : ps[i]? = some y := by
   rw [← S.pre, List.getElem?_take_of_lt (by omega)]; exact h1
  have ndP : ps.Nodup := by rw [← S.pre]; exact S.nd.sublist (List.take_sublist _ _)
  refine ⟨u, rv, ?_⟩
  rcases S.par y (List.mem_of_getElem? hp) with k | k
  ·exact .inl ⟨k, nU ndP hp hu k⟩
  ·obtain ⟨c, e⟩ := qq (n := s.heap.objs.size + 1) k
   refine .inr ⟨.inl k, c, e, ?_⟩
   have q := x.cell y c e
   rw [nW ndP hp hu (by show scope.names.lookup y ≠ _; rw [k]; decide)] at q
   exact q
 ·exact e0.hok.fresh (Nat.le_of_lt (x.above y c (PySem.mem_of_lookup h)))
 ·unfold gT
  show _ = N.length
  rw [List.length_append, List.length_map, List.length_replicate]
  omega
theorem DI {CX : CXT} {P : Program} {w : World} {K : PySem.W.Frag} {mg : Str → Option Value} {base : Heap} {k : Nat} {f : Addr} {name qual : Str} {params : Arguments} {body : List Stmt} {scope : Scope} {dV kV doc pm cdv ct oc : Value} {an od : Option Addr}
  {osl : Array (Option Value)} {N ps : List Str} {sp : Sp} (lk : K.lookup f = some ⟨oc, od, .func (PySem.W.fnOf name qual params body scope dV kV doc pm an cdv ct), osl⟩) (hcd : PySem.W.codeIn K cdv qual = true) (S : aY N ps scope)
  (len : ∀ vs H Q E, sp vs H Q E → vs.length = ps.length)
  (hbody : ∀ (A : Around) (outer : List Env) (s : Shared) (H : Hp) (vs : List V) (Q : VK) (E : XK), kK k (A.deeper (envOfC qual scope s.heap.objs.size f cdv)) → sp vs H Q E →
   ∃ t, PSs (uN CX P w K mg base N qual scope f cdv A outer s H E) body t ∧ t { nx := fun _ H' => Q .non H', rt := Q } (gT N vs) H) :
  qF P w K mg base CX (k + 1) f (PySem.W.fnOf name qual params body scope dV kV doc pm an cdv ct) ps sp := by
 refine ⟨len, fun A outer s H args us vs Q E hr e0 hb r hsp => ?_⟩
 have hl := len _ _ _ _ hsp
 have KX : K.In s.heap := e0.mod.kin.keeps fun b o e => (e0.bs b o e).1
 have lim : s.heap.NoLimit := e0.mod.nolimit.keeps fun b o e => (e0.bs b o e).1
 have hkind : ∀ y ∈ ps.zip us, scope.names.lookup y.1 = some .local ∨ (scope.names.lookup y.1 = some .cell ∧ ((cellsFrom (s.heap.objs.size + 1) scope.names []).lookup y.1).isSome = true) := fun ⟨n, v⟩ hy => by
  rcases S.par n (List.of_mem_zip hy).1 with q | q
  ·exact .inl q
  ·exact .inr ⟨q, PySem.W.cellsFrom_some _ _ _ (.inl q)⟩
 refine codeAny_call_function hr.depth (KX _ _ lk) rfl S.co S.gen rfl (PySem.W.codeRec_of KX hcd) (hb _ _ _ _ ?_)
 refine wpAny_newFunctionEnv_cells S.kind hkind fun env he s1 x => ?_
 subst he
 refine ⟨lim.keeps x.toInCall.keep, codeAny_func ?_⟩
 obtain ⟨t, ht, hq⟩ := hbody A outer s H vs Q E (hr.deeper _) hsp
 have I : Inv (uN CX P w K mg base N qual scope f cdv A outer s H E) [] (gT N vs) H s1 := tK S hr.hd e0 hl r x
 refine wpAny_mono (ht [] s1 (gT N vs) H _ I hq) (fun fl s' hs => ?_) fun e s' hs => hs
 have fin : ∀ {σ' : St} {H' : Hp} {v : V} {u : Value}, Inv (uN CX P w K mg base N qual scope f cdv A outer s H E) [] σ' H' s' → dv v u → Q v H' → CE outer P w H s Q u s' :=
  fun {σ' H' v u} J rv q => ⟨v, H', J.os, J.bare, J.base, J.hok, rv, q⟩
 cases fl with
 | ret u =>
  obtain ⟨v, σ', H', J, rv, q⟩ := hs
  exact fin J rv q
 | next =>
  obtain ⟨σ', H', J, q⟩ := hs
  exact fin (v := V.non) (u := Value.none) J rfl q
 | brk =>
  obtain ⟨_, _, _, q⟩ := hs
  exact False.elim q
 | cont =>
  obtain ⟨_, _, _, q⟩ := hs
  exact False.elim q
section
variable {X : Cx} {x : Str} {p pos : Pos} {e : Expr} {es : List Expr} {t : TA} {id T : String} {r : List V → Hp → VK → Prop}
noncomputable def tCB (r : List V → Hp → VK → Prop) (t : TA) : TE := fun σ H Q => t σ H fun vs H1 => r vs H1 Q
theorem vB (hc : eQ X (.builtin id) r) (hg : Gl X x) (hm : X.mg x = none) (hv : bootBuiltins x = some (.builtin id)) (ha : PA X (e :: es) t) (hn : x ≠ "__name__" := by decide) (hdb : (x == ("__debug__" : Str)) = false := by decide)
  (he : starEach (e :: es) X.env = (false, eval e X.env) :: starEach es X.env := by rfl) (hpl : (backTo pos (starEach es X.env)).any (·.1) = false := by rfl) : PE X (.Call (.Name x p) (e :: es) [] pos) (tCB r t) := by
 intro pins s σ H Q I h
 refine wpAny_Call_Name_kw (lW I hg hm hv ?_ hn hdb)
 exact PyProof.Rows.callWith_builtin1 (thn (ha pos pins s σ H _ I h) fun us s1 ⟨vs, H1, I1, r1, q1⟩ => hc pins s1 σ H1 vs us Q I1 r1 q1) he hpl
theorem sR (hc : eQ X (.type T) r) (hg : Gl X x) (hm : X.mg x = none) (hv : bootBuiltins x = some (.type T)) (ha : PA X (e :: es) t) (hn : x ≠ "__name__" := by decide) (hdb : (x == ("__debug__" : Str)) = false := by decide)
  (he : starEach (e :: es) X.env = (false, eval e X.env) :: starEach es X.env := by rfl) (hpl : (backTo pos (starEach es X.env)).any (·.1) = false := by rfl) : PE X (.Call (.Name x p) (e :: es) [] pos) (tCB r t) := by
 intro pins s σ H Q I h
 refine wpAny_Call_Name_kw (lW I hg hm hv ?_ hn hdb)
 exact PyProof.Rows.callWith_type1 (thn (ha pos pins s σ H _ I h) fun us s1 ⟨vs, H1, I1, r1, q1⟩ => hc pins s1 σ H1 vs us Q I1 r1 q1) he hpl
end
end L2
namespace HT
open PySem PyProof.Rows
section
variable {prog : Program} {w : World} {A : Around} {E : Value → Shared → Prop} {s : Shared}
theorem cat_tup {t b : Addr} {vs ws : List Value} {Q : Value → Shared → Prop} (ht : IsTup s.heap t vs.toArray) (hb : IsTup s.heap b ws.toArray) (hv : vs ≠ [])
  (h1 : ws = [] → Q (.ref t) s) (h2 : ws ≠ [] → Q (.ref s.heap.objs.size) { s with heap := s.heap.push { cls := .type "tuple", data := .seq (vs ++ ws).toArray } })
  (hsz : vs.length + ws.length ≤ sizeLine) : wpAny (model prog w) A (binaryOp .Add (.ref t) (.ref b)) Q E s := by
 obtain ⟨⟨cls, dd, data, sl⟩, ho, hc, n, hd⟩ := id ht
 obtain ⟨⟨cls2, dd2, data2, sl2⟩, ho2, hc2, n2, hd2⟩ := id hb
 simp only at hc hd hc2 hd2
 subst hc hd hc2 hd2
 have e : vs.toArray ++ ws.toArray = (vs ++ ws).toArray := by simp
 by_cases hw : ws = []
 ·exact concat_meets ⟨_, ho, rfl⟩ ⟨_, ho2, rfl⟩ noFill_tuple_add seq_tuple_add PySem.F.slot_tuple_add PySem.F.entry_tuple_add (PySem.F.args_tuple_add_2 _ _)
   (tuple_addW1 t b vs.toArray ws.toArray n n2 dd dd2 sl sl2 (by simpa using hv) (by simp [hw])) ⟨ho, ho2, h1 hw⟩
 ·refine concat_meets ⟨_, ho, rfl⟩ ⟨_, ho2, rfl⟩ noFill_tuple_add seq_tuple_add PySem.F.slot_tuple_add PySem.F.entry_tuple_add (PySem.F.args_tuple_add_2 _ _)
   (tuple_addW2 t b vs.toArray ws.toArray n n2 dd dd2 sl sl2 (by simpa using hv) (by simpa using hw) (by rw [List.size_toArray, List.size_toArray]; exact hsz)) ⟨ho, ho2, ?_⟩
  rw [e]
  exact h2 hw
noncomputable def sIx (n d : Nat) : Option Int → Nat
 | none => d
 | some v => if v < 0 then (v + (n : Int)).toNat else min v.toNat n
theorem sIx_none (n d : Nat) : sIx n d none = d := rfl
theorem sIx_nat (n d k : Nat) : sIx n d (some (k : Int)) = min k n := by
 show (if (k : Int) < 0 then ((k : Int) + (n : Int)).toNat else min (k : Int).toNat n) = min k n
 rw [if_neg (by omega), Int.toNat_natCast]
theorem zZ (n d : Nat) (hd : d ≤ n) (o : Option Int) : sIx n d o ≤ n := by
 cases o with
 | none => exact hd
 | some v =>
  show (if v < 0 then (v + (n : Int)).toNat else min v.toNat n) ≤ n
  by_cases hv : v < 0
  ·rw [if_pos hv]; omega
  ·rw [if_neg hv]; exact Nat.min_le_right _ _
theorem ue (v : Int) (n d : Nat) : (if v < 0 then max (v + (n : Int)) 0 else min v (n : Int)) = ((sIx n d (some v) : Nat) : Int) := by
 show (if v < 0 then max (v + (n : Int)) 0 else min v (n : Int)) = (((if v < 0 then (v + (n : Int)).toNat else min v.toNat n) : Nat) : Int)
 by_cases hv : v < 0
 ·simp only [if_pos hv]; omega
 ·simp only [if_neg hv]; omega
theorem rh (lo hi : Option Int) (n : Nat) : Builtin.Slice.sliceAdjust lo hi 1 (n : Int) = (((sIx n 0 lo : Nat) : Int), ((sIx n n hi : Nat) : Int)) := by
 have h1 : ¬ ((1 : Int) < 0) := by omega
 unfold Builtin.Slice.sliceAdjust
 simp only [h1, if_false]
 refine Prod.ext ?_ ?_
 ·cases lo with
  | none => rfl
  | some v => exact ue v n 0
 ·cases hi with
  | none => rfl
  | some v => exact ue v n n
theorem qP (i j : Nat) : Builtin.Slice.slicePlaces (i : Int) (j : Int) 1 = j - i := by
 unfold Builtin.Slice.slicePlaces
 have h1 : (1 : Int) > 0 := by omega
 simp only [h1, if_true, Int.ediv_one]
 split <;> omega
theorem lR {v : Value} {o : Option Int} {Q : Option Int → Shared → Prop} (p : IsPart v o) (h : Q o s) : wpAny (model prog w) A (Builtin.Slice.slicePartIndex v) Q E s := by
 cases p with
 | none => exact slicePart_none h
 | int i t => exact slicePart_int h
theorem i9 {sl : Addr} {vl vu : Value} {lo hi : Option Int} {n : Nat} {Q : Int × Int × Nat → Shared → Prop} (hs : s.heap.IsSliceOf sl vl vu .none) (pl : IsPart vl lo) (pu : IsPart vu hi)
  (h : Q (((sIx n 0 lo : Nat) : Int), 1, sIx n n hi - sIx n 0 lo) s) : wpAny (model prog w) A (Builtin.Slice.sliceApplied (.ref sl) (pure (n : Int))) Q E s := by
 obtain ⟨os, hos, hcs, hds⟩ := id hs
 unfold Builtin.Slice.sliceApplied Builtin.Slice.sliceFields
 refine wpAny_bind (wpAny_bind (wpAny_field hos hds (x := vl) rfl (wpAny_bind (wpAny_field hos hds (x := vu) rfl (wpAny_bind (wpAny_field hos hds (x := .none) rfl (wpAny_pure ?_)))))))
 refine wpAny_bind (slicePart_none ?_)
 show wpAny _ _ (if ((1 : Int) == 0) = true then _ else _) _ _ s
 rw [if_neg (by decide)]
 refine wpAny_bind (lR pl (wpAny_bind (lR pu (wpAny_bind (wpAny_pure ?_)))))
 show wpAny _ _ (match Builtin.Slice.sliceAdjust lo hi 1 (n : Int) with | (lo, hi) => pure (lo, (1 : Int), Builtin.Slice.slicePlaces lo hi 1)) _ _ s
 rw [rh lo hi n]
 show wpAny _ _ (pure (((sIx n 0 lo : Nat) : Int), (1 : Int), Builtin.Slice.slicePlaces ((sIx n 0 lo : Nat) : Int) ((sIx n n hi : Nat) : Int) 1)) _ _ s
 rw [qP]
 exact wpAny_pure h
theorem vx (xs : Array Value) (i k : Nat) : ((List.range k).filterMap fun (m : Nat) => xs[((i : Int) + (m : Int) * 1).toNat]?).toArray = ((xs.toList.drop i).take k).toArray := by
 have e : (fun (m : Nat) => xs[((i : Int) + (m : Int) * 1).toNat]?) = fun m => xs[i + m]? := by
  funext m
  have : ((i : Int) + (m : Int) * 1).toNat = i + m := by omega
  rw [this]
 rw [e]
 have := pick_run xs i k
 rw [List.filterMap_map] at this
 have e2 : ((fun x => xs[x]?) ∘ fun x => i + x) = fun m => xs[i + m]? := rfl
 rw [e2] at this
 rw [this]
theorem getItem_tuple_cut {t sl : Addr} {items : Array Value} {vl vu : Value} {lo hi : Option Int} {Q : Value → Shared → Prop} (ht : IsTup s.heap t items) (hs : s.heap.IsSliceOf sl vl vu .none) (pl : IsPart vl lo) (pu : IsPart vu hi)
  (hw : ¬ (sIx items.size 0 lo = 0 ∧ sIx items.size items.size hi = items.size))
  (h : Q (.ref s.heap.objs.size) { s with heap := s.heap.push { cls := .type "tuple", data := .seq ((items.toList.drop (sIx items.size 0 lo)).take (sIx items.size items.size hi - sIx items.size 0 lo)).toArray } })
  (hsz : items.size ≤ sizeLine) : wpAny (model prog w) A (getItem (.ref t) (.ref sl)) Q E s := by
 have htake : sizeOk (.seq ((items.toList.drop (sIx items.size 0 lo)).take (sIx items.size items.size hi - sIx items.size 0 lo)).toArray) := by
  show ((items.toList.drop (sIx items.size 0 lo)).take (sIx items.size items.size hi - sIx items.size 0 lo)).toArray.size ≤ sizeLine
  rw [List.size_toArray, List.length_take, List.length_drop, Array.length_toList]
  omega
 have hj : sIx items.size items.size hi ≤ items.size := zZ _ _ (Nat.le_refl _) hi
 obtain ⟨os, hos, hcs, hds⟩ := id hs
 have hTs : s.TypeIs (.ref sl) "slice" := ⟨os, hos, hcs⟩
 unfold getItem
 try with_reducible refine wpAny_holding ?_
 first | refine wpAny_bind (wpAny_pure ?_) | skip
 refine wpAny_bind (wpAny_sequenceKey ht.typeIs (by decide) ?_)
 refine wpAny_bind (wpAny_callSpecial?_slot (name := Str.ofString "__getitem__") ht.typeIs PyProof.Rows.slot_tuple_getitem
  (wpAny_call_entry PyProof.Rows.slot_tuple_getitem ht.typeIs entry_tuple_getitem ?_ (args_tuple_getitem _ _)))
 show wpAny _ _ (Builtin.Tuple.tupleItemsOf (.ref t) >>= _) _ _ s
 refine wpAny_bind (tupleItemsOf_ ht ?_)
 refine wpAny_bind (wpAny_typeOf hTs ?_)
 rw [if_pos (by decide)]
 refine wpAny_bind (i9 hs pl pu ?_)
 have hno : ¬ ((((sIx items.size 0 lo : Nat) : Int) == 0 && (1 : Int) == 1 && (sIx items.size items.size hi - sIx items.size 0 lo) == items.size) = true) := by
  intro q
  rw [Bool.and_eq_true, Bool.and_eq_true] at q
  have q1 : ((sIx items.size 0 lo : Nat) : Int) = 0 := eq_of_beq q.1.1
  have q2 : sIx items.size items.size hi - sIx items.size 0 lo = items.size := eq_of_beq q.2
  exact hw ⟨by omega, by omega⟩
 show wpAny _ _ (if (((sIx items.size 0 lo : Nat) : Int) == 0 && (1 : Int) == 1 && (sIx items.size items.size hi - sIx items.size 0 lo) == items.size) = true then _ else _) _ _ s
 rw [if_neg hno, vx]
 first
  | exact wpAny_bind (m := Builtin.Tuple.tupleExact _) (wpAny_newObj_type (wpAny_pure ⟨_, rfl, wpAny_pure h⟩) htake)
  | exact wpAny_bind (m := Builtin.Tuple.tupleExact _) (wpAny_newObj_type (wpAny_bind (wpAny_pure (wpAny_pure ⟨_, rfl, wpAny_pure h⟩))) htake)
  | exact wpAny_bind (wpAny_bind (m := Builtin.Tuple.tupleExact _) (wpAny_newObj_type (wpAny_pure (wpAny_pure ⟨_, rfl, wpAny_pure h⟩)) htake))
  | exact wpAny_bind (wpAny_bind (m := Builtin.Tuple.tupleExact _) (wpAny_newObj_type (wpAny_pure ⟨_, rfl, wpAny_pure h⟩) htake))
end
end HT
namespace L2
open PySem PySem.Spec PyProof.Rows
noncomputable abbrev TO := St → Hp → (Option Int → Hp → Prop) → Prop
noncomputable def PO (X : Cx) (e : Option Expr) (t : TO) : Prop :=
 ∀ (pins : List (Addr × Obj)) (s : Shared) (σ : St) (H : Hp) (Q : Option Int → Hp → Prop), Inv X pins σ H s → t σ H Q →
  wpAny (model X.prog X.w) X.A (evalPart e X.env) (fun u s' => ∃ o H', Inv X pins σ H' s' ∧ IsPart u o ∧ Q o H') X.xe s
noncomputable def sg : TO := fun _ H Q => Q none H
noncomputable def zP (t : TE) : TO := fun σ H Q => t σ H fun x H1 => ∃ i, x = .int i ∧ Q (some i) H1
section
variable {X : Cx} {e : Expr} {te : TE} {lo hi : Option Expr} {tl th : TO} {pos p2 : Pos}
theorem x6 : PO X none sg := by
 intro pins s σ H Q I h
 rw [evalPart_none]
 exact wpAny_pure ⟨none, H, I, .none, h⟩
theorem x5 (h : PE X e te) : PO X (some e) (zP te) := by
 intro pins s σ H Q I hw
 rw [evalPart_some]
 refine thn (h pins s σ H _ I hw) fun u s1 hz => ?_
 obtain ⟨x, H1, I1, r1, q1⟩ := hz
 obtain ⟨i, rfl, q⟩ := q1
 obtain ⟨t, rfl⟩ := r1
 exact ⟨some i, H1, I1, .int i t, q⟩
noncomputable def SlR (X : Cx) (r : V → Option Int → Option Int → Hp → VK → Prop) : Prop :=
 ∀ (pins : List (Addr × Obj)) (s : Shared) (σ : St) (H : Hp) (x : V) (v vl vu : Value) (lo hi : Option Int) (sl : Addr) (Q : VK), Inv X pins σ H s → dv x v → s.heap.IsSliceOf sl vl vu .none → IsPart vl lo → IsPart vu hi → r x lo hi H Q →
  ∃ T id, typeLookup (.type T) "__getitem__" = pure (some (.builtin id)) ∧ s.TypeIs v T ∧ wpAny (model X.prog X.w) X.A (getItem v (.ref sl)) (EP X pins σ Q) X.xe s
theorem SlR.or {r r' : V → Option Int → Option Int → Hp → VK → Prop} (h : SlR X r) (h' : SlR X r') : SlR X (fun x lo hi H Q => r x lo hi H Q ∨ r' x lo hi H Q) := by
 intro pins s σ H x v vl vu lo hi sl Q I rx hs pl pu q
 rcases q with q | q
 ·exact h pins s σ H x v vl vu lo hi sl Q I rx hs pl pu q
 ·exact h' pins s σ H x v vl vu lo hi sl Q I rx hs pl pu q
noncomputable def tSl (r : V → Option Int → Option Int → Hp → VK → Prop) (te : TE) (tl th : TO) : TE := fun σ H Q => te σ H fun x H1 => tl σ H1 fun l H2 => th σ H2 fun u H3 => r x l u H3 Q
theorem vz {r : V → Option Int → Option Int → Hp → VK → Prop} (hr : SlR X r) (he : PE X e te) (hl : PO X lo tl) (hu : PO X hi th) : PE X (.Subscript e (.Slice lo hi none p2) pos) (tSl r te tl th) := by
 intro pins s σ H Q I h
 refine Subscript_ (thn (he pins s σ H _ I h) fun v s1 hz => ?_)
 obtain ⟨x, H1, I1, r1, q1⟩ := hz
 refine wpAny_Slice (thn (hl pins s1 σ H1 _ I1 q1) fun vl s2 ⟨l, H2, I2, pl, q2⟩ => thn (hu pins s2 σ H2 _ I2 q2) fun vu s3 hz => ?_)
 obtain ⟨u, H3, I3, pu, q3⟩ := hz
 rw [evalPart_none]
 refine wpAny_pure ?_
 have I4 : Inv X pins σ H3 { s3 with heap := s3.heap.push { cls := .type "slice", data := .fields #[vl, vu, .none] } } := I3.kept (t' := s3.toks) fun b ob q => Heap.get?_push_of_some _ q
 obtain ⟨T, id, hT, ht, hg⟩ := hr pins { s3 with heap := s3.heap.push { cls := .type "slice", data := .fields #[vl, vu, .none] } } σ H3 x v vl vu l u s3.heap.objs.size Q I4 r1 (Heap.IsSliceOf.new ..) pl pu q3
 show wpAny (model X.prog X.w) X.A (subscriptTail e (.Slice lo hi none p2) v (.ref s3.heap.objs.size)) (EP X pins σ Q) X.xe { s3 with heap := s3.heap.push { cls := .type "slice", data := .fields #[vl, vu, .none] } }
 exact tail_any (ops := [.ref s3.heap.objs.size, v]) ht hT hg (by with_unfolding_all rfl)
noncomputable def t9 (xs : List V) (lo hi : Option Int) : List V := (xs.drop (HT.sIx xs.length 0 lo)).take (HT.sIx xs.length xs.length hi - HT.sIx xs.length 0 lo)
theorem kH (xs : List V) (lo hi : Option Int) : (t9 xs lo hi).length ≤ xs.length := by
 unfold t9
 rw [List.length_take, List.length_drop]
 omega
noncomputable def ET (K : PySem.W.Frag) : V → Option Int → Option Int → Hp → VK → Prop := fun x lo hi H Q => ∃ a xs, x = .ref a ∧ SqT K H a xs ∧
 ¬ (HT.sIx xs.length 0 lo = 0 ∧ HT.sIx xs.length xs.length hi = xs.length) ∧ ∀ p, H p = none → Q (.ref p) (upd H p (.tup (t9 xs lo hi)))
theorem zY : SlR X (ET X.K) := by
 intro pins s σ H x v vl vu lo hi sl Q I rx hs pl pu h
 obtain ⟨a, xs, rfl, hx, hw, q⟩ := h
 cases rx
 obtain ⟨its, r, ht, hz⟩ := I.tuple hx
 have fS : its.toArray.size = xs.length := by rw [List.size_toArray]; exact r.length.symm
 refine ⟨"tuple", _, PyProof.Rows.slot_tuple_getitem.lookup, ht.typeIs, ?_⟩
 refine HT.getItem_tuple_cut ht hs pl pu (by rw [fS]; exact hw) ?_ (by rw [fS]; exact hz)
 rw [fS]
 refine ⟨.ref s.heap.objs.size, _, I.laid (t' := s.toks) (o := .tup (t9 xs lo hi)) (fun b ob q => Heap.get?_push_of_some _ q) (Nat.le_refl _) ?_, rfl, q _ (I.hok.fresh (Nat.le_refl _))⟩
 exact ⟨Nat.le_trans (kH xs lo hi) hz, _, (r.drop (HT.sIx xs.length 0 lo)).take (HT.sIx xs.length xs.length hi - HT.sIx xs.length 0 lo), IsTup.new _ _⟩
noncomputable def CY (K : PySem.W.Frag) : R2 := fun x y H Q => ∃ a b xs ys, x = .ref a ∧ y = .ref b ∧ SqT K H a xs ∧ SqT K H b ys ∧ xs ≠ [] ∧ xs.length + ys.length ≤ sizeLine ∧
 (ys = [] → Q (.ref a) H) ∧ (ys ≠ [] → ∀ p, H p = none → Q (.ref p) (upd H p (.tup (xs ++ ys))))
theorem cL.nil_iff {xs : List V} {us : List Value} (r : cL xs us) : us = [] ↔ xs = [] := by
 cases r with
 | nil => simp
 | cons _ _ => simp
theorem yq : OpR X (binaryOp .Add) (CY X.K) := by
 intro pins s σ H x y v u Q I rx ry h
 obtain ⟨a, b, xs, ys, rfl, rfl, ha, hb, hx, hz, q1, q2⟩ := h
 cases rx
 cases ry
 obtain ⟨its, r1, p1, _⟩ := I.tuple ha
 obtain ⟨its2, r2, p2, _⟩ := I.tuple hb
 refine HT.cat_tup p1 p2 (fun z => hx (r1.nil_iff.mp z)) (fun z => ⟨.ref a, H, I, rfl, q1 (r2.nil_iff.mp z)⟩) (fun z => ?_) (by rw [← r1.length, ← r2.length]; exact hz)
 refine ⟨.ref s.heap.objs.size, _, I.laid (t' := s.toks) (o := .tup (xs ++ ys)) (fun b ob q => Heap.get?_push_of_some _ q) (Nat.le_refl _) ?_, rfl, q2 (fun w => z (r2.nil_iff.mpr w)) _ (I.hok.fresh (Nat.le_refl _))⟩
 exact ⟨by rw [List.length_append]; exact hz, _, r1.append r2, IsTup.new _ _⟩
end
noncomputable def ixN (n : Nat) (i : Int) : Option Nat := if 0 ≤ i then (if i < n then some i.toNat else none) else if -(n : Int) ≤ i then some (i + n).toNat else none
noncomputable def atI {α : Type} (xs : List α) (i : Int) : Option α := (ixN xs.length i).bind fun j => xs[j]?
theorem tF {n : Nat} {i : Int} {j : Nat} (h : ixN n i = some j) : seqIndex? i n = some j ∧ j < n ∧ -(n : Int) ≤ i ∧ i < n := by
 unfold ixN at h
 by_cases h0 : 0 ≤ i
 ·rw [if_pos h0] at h
  by_cases h1 : i < n
  ·rw [if_pos h1] at h
   have e : i.toNat = j := Option.some.inj h
   exact ⟨by rw [seqIndex_of h0 h1, e], by omega, by omega, h1⟩
  ·rw [if_neg h1] at h; cases h
 ·rw [if_neg h0] at h
  by_cases h1 : -(n : Int) ≤ i
  ·rw [if_pos h1] at h
   have e : (i + n).toNat = j := Option.some.inj h
   exact ⟨by rw [seqIndex_neg (by omega) h1, e], by omega, h1, by omega⟩
  ·rw [if_neg h1] at h; cases h
theorem uu {α : Type} {xs : List α} {i : Int} {v : α} (h : atI xs i = some v) : ∃ j, seqIndex? i xs.length = some j ∧ xs[j]? = some v ∧ j < xs.length ∧ -(xs.length : Int) ≤ i ∧ i < xs.length := by
 unfold atI at h
 cases e : ixN xs.length i with
 | none => rw [e] at h; cases h
 | some j =>
  rw [e] at h
  obtain ⟨h1, h2, h3, h4⟩ := tF e
  exact ⟨j, h1, h, h2, h3, h4⟩
theorem fO {α : Type} {xs : List α} {j : Nat} {v : α} (h : xs[j]? = some v) : atI xs (j : Int) = some v := by
 have hj : j < xs.length := (List.getElem?_eq_some_iff.mp h).1
 have e : ixN xs.length (j : Int) = some j := by
  unfold ixN
  rw [if_pos (by omega), if_pos (by omega)]; simp
 unfold atI; rw [e]; exact h
noncomputable def o8 (b : Expr) : Prop := ∀ o i, subscripted b false o i = operate [o, i] (getItem o i)
noncomputable def IxR (X : Cx) (r : R2) : Prop :=
 ∀ (value slice : Expr) (pins : List (Addr × Obj)) (s : Shared) (σ : St) (H : Hp) (x y : V) (v u : Value) (Q : VK), Inv X pins σ H s → dv x v → dv y u → r x y H Q →
  subscripted slice false v u = operate [v, u] (getItem v u) → wpAny (model X.prog X.w) X.A (subscriptTail value slice v u) (EP X pins σ Q) X.xe s
noncomputable def MtR (X : Cx) (id : String) (r : V → List V → Hp → VK → Prop) : Prop :=
 ∀ (pins : List (Addr × Obj)) (s : Shared) (σ : St) (H : Hp) (x : V) (xs : List V) (v : Value) (us : List Value) (Q : VK), Inv X pins σ H s → dv x v → cL xs us → r x xs H Q →
  wpAny (model X.prog X.w) X.A (call (.builtin id) (v :: us)) (EP X pins σ Q) X.xe s
section
variable {X : Cx} {a b : Expr} {ta tb : TE} {pos : Pos}
theorem IxR.or {r r' : R2} (h : IxR X r) (h' : IxR X r') : IxR X (fun x y H Q => r x y H Q ∨ r' x y H Q) := by
 intro value slice pins s σ H x y v u Q I rx ry q hs
 rcases q with q | q
 ·exact h value slice pins s σ H x y v u Q I rx ry q hs
 ·exact h' value slice pins s σ H x y v u Q I rx ry q hs
theorem C5 {r : R2} (hr : IxR X r) (ha : PE X a ta) (hb : PE X b tb) (hs : o8 b) : PE X (.Subscript a b pos) (tOp r ta tb) := by
 intro pins s σ H Q I h
 exact Subscript_ (DS ha hb I h fun v u s2 x y H2 I2 rx ry q => hr a b pins s2 σ H2 x y v u Q I2 rx ry q (hs _ _))
noncomputable def EW (K : PySem.W.Frag) : R2 := fun x y H Q => ∃ p xs i v, x = .ref p ∧ y = .int i ∧ SqL K H p xs ∧ atI xs i = some v ∧ Q v H
noncomputable def EV (K : PySem.W.Frag) : R2 := fun x y H Q => ∃ p xs i v, x = .ref p ∧ y = .int i ∧ SqT K H p xs ∧ atI xs i = some v ∧ Q v H
theorem yA : IxR X (EW X.K) := by
 intro value slice pins s σ H x y v u Q I rx ry h hs
 obtain ⟨p, xs, i, z, rfl, rfl, hq, he, q⟩ := h
 cases rx
 obtain ⟨t, rfl⟩ := ry
 obtain ⟨its, r, pl, hz⟩ := I.list hq
 obtain ⟨j, h1, h2, h3, h4, h5⟩ := uu he
 obtain ⟨w, ew, rw'⟩ := r.get h2
 have hl := r.length
 have hn := p8
 have fin : EP X pins σ Q w s := ⟨z, H, I, rw', q⟩
 by_cases h0 : 0 ≤ i
 ·have hj : i.toNat = j := by
   rw [seqIndex_of h0 h5] at h1
   exact Option.some.inj h1
  exact item_listR pl.isList h0 (by omega) (by rw [hj]; simpa using ew) fin hs
 ·have hj : (i + (its.toArray.size : Int)).toNat = j := by
   rw [seqIndex_neg (by omega) h4] at h1
   rw [List.size_toArray, ← hl]
   exact Option.some.inj h1
  exact subscriptTail_builtinR (x := w) pl.isList.typeIs slot_list_getitem.lookup
   (wpAny_getItem_list_neg (Q := fun r s' => r = w ∧ EP X pins σ Q r s') pl.isList (by omega) (by rw [List.size_toArray] <;> omega) (by omega) (by rw [hj]; simpa using ew) ⟨rfl, fin⟩) hs
theorem A5 : IxR X (EV X.K) := by
 intro value slice pins s σ H x y v u Q I rx ry h hs
 obtain ⟨p, xs, i, z, rfl, rfl, hq, he, q⟩ := h
 cases rx
 obtain ⟨t, rfl⟩ := ry
 obtain ⟨its, r, pl, hz⟩ := I.tuple hq
 obtain ⟨j, h1, h2, h3, h4, h5⟩ := uu he
 obtain ⟨w, ew, rw'⟩ := r.get h2
 have hl := r.length
 have hn := p8
 have fin : EP X pins σ Q w s := ⟨z, H, I, rw', q⟩
 exact subscriptTail_builtinR (x := w) pl.typeIs slot_tuple_getitem.lookup
  (getItem_tuple (j := j) (Q := fun r s' => r = w ∧ EP X pins σ Q r s') pl (by omega) (by omega) (by rw [List.size_toArray, ← hl]; exact h1) (by simpa using ew) ⟨rfl, fin⟩) hs
theorem qS (its : List Value) (n j : Nat) (u : Value) : Obj.mapSeq (·.setIfInBounds j u) { cls := .type "list", data := .seq its.toArray n } = { cls := .type "list", data := .seq (its.set j u).toArray n } := by
 simp [Obj.mapSeq]
theorem Inv.lst {pins : List (Addr × Obj)} {σ : St} {H : Hp} {s : Shared} {p : Addr} {xs : List V} (I : Inv X pins σ H s) (h : H p = some (.lst xs)) :
  ∃ (its : List Value) (n : Nat), cL xs its ∧ s.heap.get? p = some { cls := .type "list", data := .seq its.toArray n } ∧ xs.length ≤ sizeLine := by
 obtain ⟨z, its, n, r, e⟩ := I.hok p _ h
 exact ⟨its, n, r, e, z⟩
theorem Inv.lstUpd {pins : List (Addr × Obj)} {σ : St} {H : Hp} {s : Shared} {p : Addr} {xs ys : List V} {its its' : List Value} {n n' : Nat} {f : Obj → Obj} (I : Inv X pins σ H s) (h : H p = some (.lst xs))
  (ho : s.heap.get? p = some { cls := .type "list", data := .seq its.toArray n }) (hf : f { cls := .type "list", data := .seq its.toArray n } = { cls := .type "list", data := .seq its'.toArray n' }) (r : cL ys its') (hz : ys.length ≤ sizeLine) (t : Nat) :
  Inv X pins σ (upd H p (.lst ys)) { s with heap := s.heap.update p f, toks := t } := by
 have e : (s.heap.update p f).get? p = some { cls := .type "list", data := .seq its'.toArray n' } := by
  rw [Heap.get?_update_self f ho (by rw [hf] <;> rfl), hf]
 refine I.write (x := p) (e := p) (by rw [h]; trivial) (.inl rfl) (fun b u hb q => (Heap.get?_update_other _ _ (Ne.symm hb)).trans q) ⟨_, e⟩ ?_
 exact ⟨hz, its', n', r, e⟩
noncomputable def CW : V → V → V → Hp → (Hp → Prop) → Prop := fun o i v H Q => ∃ p xs k j, o = .ref p ∧ i = .int k ∧ H p = some (.lst xs) ∧ ixN xs.length k = some j ∧ Q (upd H p (.lst (xs.set j v)))
theorem vk : DV X CW := by
 intro pins s σ H o i v ov iv u Q I ro ri rv h
 obtain ⟨p, xs, k, j, rfl, rfl, hp, hj, q⟩ := h
 cases ro
 obtain ⟨t, rfl⟩ := ri
 obtain ⟨its, n, r, ho, hz⟩ := I.lst hp
 obtain ⟨h1, h2, h3, h4⟩ := tF hj
 have hl := r.length
 have hn := p8
 have I' : Inv X pins σ (upd H p (.lst (xs.set j v))) { s with heap := s.heap.update p (Obj.mapSeq (·.setIfInBounds j u)) } :=
  I.lstUpd hp ho (qS its n j u) (r.set rv j) (by rw [List.length_set]; exact hz) s.toks
 by_cases h0 : 0 ≤ k
 ·have hk : k.toNat = j := by
   rw [seqIndex_of h0 h4] at h1
   exact Option.some.inj h1
  exact PySem.W.ki_setAt ho h0 (by omega) (by rw [List.size_toArray, ← hl]; exact h4) (by rw [hk]; exact ⟨_, I', q⟩)
 ·have hk : (k + (its.toArray.size : Int)).toNat = j := by
   rw [seqIndex_neg (by omega) h3] at h1
   rw [List.size_toArray, ← hl]
   exact Option.some.inj h1
  exact PySem.W.ki_setBack ho (by omega) (by rw [List.size_toArray, ← hl]; exact h3) (by omega) (by rw [hk]; exact ⟨_, I', q⟩)
theorem nq (lo hi : Option Int) (n : Nat) : (sliceBounds lo hi none n).1 = ((HT.sIx n 0 lo : Nat) : Int) ∧ (sliceBounds lo hi none n).2.1 = ((HT.sIx n n hi : Nat) : Int) ∧ (sliceBounds lo hi none n).2.2 = 1 := by
 refine ⟨?_, ?_, rfl⟩
 ·cases lo with
  | none => simp [sliceBounds, HT.sIx]
  | some i =>
   simp only [sliceBounds, HT.sIx, Option.getD_none, show (1 : Int) > 0 by decide, if_true]
   by_cases h : i < 0
   ·simp only [h, if_true] <;> omega
   ·simp only [h, if_false] <;> omega
 ·cases hi with
  | none => simp [sliceBounds, HT.sIx]
  | some i =>
   simp only [sliceBounds, HT.sIx, Option.getD_none, show (1 : Int) > 0 by decide, if_true]
   by_cases h : i < 0
   ·simp only [h, if_true] <;> omega
   ·simp only [h, if_false] <;> omega
theorem mq (its : List Value) (lo hi : Option Int) : slicePick its.toArray lo hi none = ((its.drop (HT.sIx its.length 0 lo)).take (HT.sIx its.length its.length hi - HT.sIx its.length 0 lo)).toArray := by
 obtain ⟨h1, h2, h3⟩ := nq lo hi its.toArray.size
 unfold slicePick
 rw [h1, h2, h3]
 simp only [sliceRange_one, pick_run, List.size_toArray] <;> rfl
noncomputable def EU (K : PySem.W.Frag) : V → Option Int → Option Int → Hp → VK → Prop := fun x lo hi H Q => ∃ a xs, x = .ref a ∧ SqL K H a xs ∧ ∀ p, H p = none → Q (.ref p) (upd H p (.lst (t9 xs lo hi)))
theorem su : SlR X (EU X.K) := by
 intro pins s σ H x v vl vu lo hi sl Q I rx hs pl pu h
 obtain ⟨a, xs, rfl, hx, q⟩ := h
 cases rx
 obtain ⟨its, r, ht, hz⟩ := I.list hx
 have fS := r.length
 refine ⟨"list", _, slot_list_getitem.lookup, ht.isList.typeIs, ?_⟩
 refine wpAny_getItem_list_slice ht.isList hs pl pu .none (by simp) ?_ (by rw [List.size_toArray] <;> omega)
 rw [mq, ← fS]
 refine ⟨.ref s.heap.objs.size, _, I.laid (t' := s.toks) (o := .lst (t9 xs lo hi)) (fun b ob q => Heap.get?_push_of_some _ q) (Nat.le_refl _) ?_, rfl, q _ (I.hok.fresh (Nat.le_refl _))⟩
 exact ⟨Nat.le_trans (kH xs lo hi) hz, _, 0, (r.drop (HT.sIx xs.length 0 lo)).take (HT.sIx xs.length xs.length hi - HT.sIx xs.length 0 lo), Heap.get?_push_size _ rfl⟩
noncomputable def lE : V → Bool
 | .non => true
 | .bl _ => true
 | .int _ => true
 | .str _ => true
 | _ => false
noncomputable def eqV : V → V → Bool
 | .non, .non => true
 | .bl a, .bl b => a == b
 | .bl a, .int b => (if a then 1 else 0) == b
 | .int a, .bl b => a == (if b then 1 else 0)
 | .int a, .int b => a == b
 | .str a, .str b => a == b
 | _, _ => false
theorem Bj {A : Around} {s : Shared} {y x : V} {u v : Value} (ry : dv y u) (rx : dv x v) (fy : lE y = true) (fx : lE x = true) : SeqAt.EqAt A s u v (eqV y x) := by
 cases y with
 | non =>
  cases ry
  cases x with
  | non => cases rx; exact SeqAt.EqAt.same _
  | bl b => cases rx; exact SeqAt.EqAt.none_bool b
  | int b => obtain ⟨t, rfl⟩ := rx; exact SeqAt.EqAt.none_int b t
  | str b => obtain ⟨t, rfl⟩ := rx; exact SeqAt.EqAt.none_str b t
  | _ => exact absurd (show false = true from fx) Bool.false_ne_true
 | bl a =>
  cases ry
  cases x with
  | non => cases rx; exact SeqAt.EqAt.bool_none a
  | bl b => cases rx; exact SeqAt.EqAt.bool_bool a b
  | int b => obtain ⟨t, rfl⟩ := rx; exact SeqAt.EqAt.bool_int a b t
  | str b => obtain ⟨t, rfl⟩ := rx; exact SeqAt.EqAt.bool_str a b t
  | _ => exact absurd (show false = true from fx) Bool.false_ne_true
 | int a =>
  obtain ⟨t', rfl⟩ := ry
  cases x with
  | non => cases rx; exact SeqAt.EqAt.int_none a t'
  | bl b => cases rx; exact SeqAt.EqAt.int_bool a t' b
  | int b => obtain ⟨t, rfl⟩ := rx; exact SeqAt.EqAt.int_int a t' b t
  | str b => obtain ⟨t, rfl⟩ := rx; exact SeqAt.EqAt.int_str a t' b t
  | _ => exact absurd (show false = true from fx) Bool.false_ne_true
 | str a =>
  obtain ⟨t', rfl⟩ := ry
  cases x with
  | non => cases rx; exact SeqAt.EqAt.str_none a t'
  | bl b => cases rx; exact SeqAt.EqAt.str_bool a t' b
  | int b => obtain ⟨t, rfl⟩ := rx; exact SeqAt.EqAt.str_int a t' b t
  | str b => obtain ⟨t, rfl⟩ := rx; exact SeqAt.EqAt.str_str a t' b t
  | _ => exact absurd (show false = true from fx) Bool.false_ne_true
 | _ => exact absurd (show false = true from fy) Bool.false_ne_true
noncomputable def eqU (x : V) (u : Value) : Bool := match u with
 | .none => eqV .non x
 | .bool b => eqV (.bl b) x
 | .int i _ => eqV (.int i) x
 | .str z _ => eqV (.str z) x
 | _ => false
theorem wV {x y : V} {u : Value} (r : dv y u) (f : lE y = true) : eqU x u = eqV y x := by
 cases y with
 | non => cases r; rfl
 | bl b => cases r; rfl
 | int i => obtain ⟨t, rfl⟩ := r; rfl
 | str z => obtain ⟨t, rfl⟩ := r; rfl
 | _ => exact absurd (show false = true from f) Bool.false_ne_true
theorem o6 {x : V} : ∀ {xs : List V} {us : List Value}, cL xs us → xs.all lE = true → us.any (eqU x) = xs.any fun y => eqV y x
 | _, _, .nil, _ => rfl
 | y :: xs, u :: us, .cons r t, f => by
  rw [List.all_cons, Bool.and_eq_true] at f
  rw [List.any_cons, List.any_cons, wV r f.1, o6 t f.2]
theorem mz {A : Around} {s : Shared} {x : V} {v : Value} (rx : dv x v) (fx : lE x = true) : ∀ {xs : List V} {us : List Value}, cL xs us → xs.all lE = true → ∀ u ∈ us, SeqAt.EqAt A s u v (eqU x u)
 | _, _, .nil, _ => fun u hu => by cases hu
 | y :: xs, u :: us, .cons r t, f => fun u' hu => by
  rw [List.all_cons, Bool.and_eq_true] at f
  rcases List.mem_cons.mp hu with rfl | hu
  ·rw [wV r f.1]; exact Bj r rx f.1 fx
  ·exact mz rx fx t f.2 u' hu
noncomputable def inV (x : V) (xs : List V) : Bool := xs.any fun y => eqV y x
noncomputable def rIn (K : PySem.W.Frag) (neg : Bool) : R2 := fun x y H Q => ∃ p xs, y = .ref p ∧ (SqL K H p xs ∨ SqT K H p xs) ∧ lE x = true ∧ xs.all lE = true ∧ Q (.bl (if neg then !inV x xs else inV x xs)) H
theorem iY : OpR X (compareOp .NotIn) (rIn X.K true) := by
 intro pins s σ H x y v u Q I rx ry h
 obtain ⟨p, xs, rfl, hq, fx, fs, q⟩ := h
 cases ry
 rcases hq with hq | hq
 ·obtain ⟨its, r, pl, hz⟩ := I.list hq
  refine SeqAt.notIn_listAt (eqU x) pl.isList (fun w hw => mz rx fx r fs w (by simpa using hw)) ⟨.bl _, H, I, rfl, ?_⟩
  rw [show its.toArray.any (eqU x) = its.any (eqU x) by simp, o6 r fs]
  exact q
 ·obtain ⟨its, r, pl, hz⟩ := I.tuple hq
  refine SeqAt.notIn_tupleAt (eqU x) pl (fun w hw => mz rx fx r fs w (by simpa using hw)) ⟨.bl _, H, I, rfl, ?_⟩
  rw [show its.toArray.any (eqU x) = its.any (eqU x) by simp, o6 r fs]
  exact q
theorem nP : eQ X (.builtin "len") (fun xs H Q => ∃ p ys, xs = [.ref p] ∧ (SqL X.K H p ys ∨ SqT X.K H p ys) ∧ Q (.int ys.length) H) := by
 intro pins s σ H xs us Q I r h
 obtain ⟨p, ys, rfl, hq, q⟩ := h
 obtain ⟨u, rfl, rx⟩ := ll r
 cases rx
 have hn := p8
 rcases hq with hq | hq
 ·obtain ⟨its, r', pl, hz⟩ := I.list hq
  have fS := r'.length
  exact Calls.call_len_list pl.isList (by simp only [List.size_toArray] <;> omega) ⟨.int ys.length, H, I.tok _, ⟨s.toks + 1, by rw [List.size_toArray, fS]⟩, q⟩
 ·obtain ⟨its, r', pl, hz⟩ := I.tuple hq
  have fS := r'.length
  exact len_tuple pl (by simp only [List.size_toArray] <;> omega) ⟨.int ys.length, H, I.tok _, ⟨s.toks + 1, by rw [List.size_toArray, fS]⟩, q⟩
theorem eQ.or {f : Value} {r r' : List V → Hp → VK → Prop} (h : eQ X f r) (h' : eQ X f r') : eQ X f (fun xs H Q => r xs H Q ∨ r' xs H Q) := by
 intro pins s σ H xs us Q I rs q
 rcases q with q | q
 ·exact h pins s σ H xs us Q I rs q
 ·exact h' pins s σ H xs us Q I rs q
theorem eX : eQ X (.type "list") (fun xs H Q => ∃ p ys, xs = [.ref p] ∧ (SqL X.K H p ys ∨ SqT X.K H p ys) ∧ ∀ l, H l = none → Q (.ref l) (upd H l (.lst ys))) := by
 intro pins s σ H xs us Q I r h
 obtain ⟨p, ys, rfl, hq, q⟩ := h
 obtain ⟨u, rfl, rx⟩ := ll r
 cases rx
 have fin : ∀ (its : List Value), cL ys its → ys.length ≤ sizeLine → ∀ (h' : Heap) (c' : Nat), (∀ b o', s.heap.get? b = some o' → h'.get? b = some o') →
   h'.get? s.heap.objs.size = some { cls := .type "list", dict := none, data := .seq its.toArray c', slots := #[] } → EP X pins σ Q (.ref s.heap.objs.size) { s with heap := h' } := fun its r' hz h' c' kp e =>
  ⟨.ref s.heap.objs.size, _, I.laid (t' := s.toks) kp (Nat.le_refl _) (show dX X.prog X.w _ h' _ (.lst ys) from ⟨hz, its, c', r', e⟩), rfl, q _ (I.hok.fresh (Nat.le_refl _))⟩
 rcases hq with hq | hq
 ·obtain ⟨its, r', pl, hz⟩ := I.list hq
  have fS := r'.length
  obtain ⟨o, ho, hc, n, hd⟩ := pl.isList
  exact call_list_seq p (.inl rfl) ho hc hd (fun h' c' kp e => fin its r' hz h' c' kp e) (by simp only [List.size_toArray] <;> omega)
 ·obtain ⟨its, r', pl, hz⟩ := I.tuple hq
  have fS := r'.length
  obtain ⟨o, ho, hc, n, hd⟩ := pl
  exact call_list_seq p (.inr rfl) ho hc hd (fun h' c' kp e => fin its r' hz h' c' kp e) (by simp only [List.size_toArray] <;> omega)
theorem mN : eQ X (.type "tuple") (fun xs H Q => ∃ p ys, xs = [.ref p] ∧ ((SqL X.K H p ys ∧ ∀ l, H l = none → Q (.ref l) (upd H l (.tup ys))) ∨ (SqT X.K H p ys ∧ Q (.ref p) H))) := by
 intro pins s σ H xs us Q I r h
 obtain ⟨p, ys, rfl, h⟩ := h
 obtain ⟨u, rfl, rx⟩ := ll r
 cases rx
 rcases h with ⟨hq, q⟩ | ⟨hq, q⟩
 ·obtain ⟨its, r', pl, hz⟩ := I.list hq
  have fS := r'.length
  refine call_tuple_list pl.isList (fun h' kp => ?_) (by simp only [List.size_toArray] <;> omega)
  have I1 : Inv X pins σ H { s with heap := h' } := I.kept (t' := s.toks) kp
  have I2 : Inv X pins σ (upd H h'.objs.size (.tup ys)) { s with heap := h'.push { cls := .type "tuple", data := .seq its.toArray } } :=
   I1.laid (t' := s.toks) (fun b o e => Heap.get?_push_of_some _ e) (Nat.le_refl _) (show dX X.prog X.w _ _ _ (.tup ys) from ⟨hz, its, r', IsTup.new _ _⟩)
  exact ⟨.ref h'.objs.size, _, I2, rfl, q _ (I1.hok.fresh (Nat.le_refl _))⟩
 ·obtain ⟨its, r', pl, hz⟩ := I.tuple hq
  exact call_tuple_same pl ⟨.ref p, H, I, rfl, q⟩
noncomputable def tyV (K : PySem.W.Frag) (T : String) (x : V) (H : Hp) : Prop := match x with
 | .str _ => T = "str"
 | .int _ => T = "int"
 | .ref p => (T = "list" ∧ ∃ xs, SqL K H p xs) ∨ (T = "tuple" ∧ ∃ o, K.lookup p = some o ∧ o.cls = .type "tuple" ∧ o.dict = none) ∨
   (T = "dict" ∧ ((∃ kvs, H p = some (.dK kvs)) ∨ ∃ kvs, H p = some (.dT kvs))) ∨ (T = "set" ∧ ∃ S n, H p = some (.set S n))
 | _ => False
theorem wF {pins : List (Addr × Obj)} {σ : St} {H : Hp} {s : Shared} {T : String} {x : V} {v : Value} (I : Inv X pins σ H s) (r : dv x v) (ty : tyV X.K T x H) :
  s.TypeIs v T ∧ ∀ a, v = .ref a → ∃ ob, s.heap.get? a = some ob ∧ ob.dict = none := by
 cases x with
 | str z =>
  obtain ⟨t, rfl⟩ := r
  cases (show T = "str" from ty)
  exact ⟨typeIs_str s z t, fun _ e => nomatch e⟩
 | int i =>
  obtain ⟨t, rfl⟩ := r
  cases (show T = "int" from ty)
  exact ⟨typeIs_int s i t, fun _ e => nomatch e⟩
 | ref p =>
  cases r
  rcases ty with ⟨rfl, xs, hq⟩ | ⟨rfl, o, hk, hc, hd⟩ | ⟨rfl, hk⟩ | ⟨rfl, S, n, hk⟩
  ·obtain ⟨its, _, pl, _⟩ := I.list hq
   refine ⟨pl.isList.typeIs, fun a e => ?_⟩
   cases e
   obtain ⟨o, n, e, c, hd, _⟩ := pl
   exact ⟨o, e, hd⟩
  ·refine ⟨⟨o, I.kIn p o hk, hc⟩, fun a e => ?_⟩
   cases e
   exact ⟨o, I.kIn _ o hk, hd⟩
  ·have z : ∃ o, s.heap.get? p = some o ∧ o.ExactDict := by
    rcases hk with ⟨kvs, hk⟩ | ⟨kvs, hk⟩
    ·obtain ⟨_, _, _, _, o, _, _, e, ex, _⟩ := I.hok p _ hk
     exact ⟨o, e, ex⟩
    ·obtain ⟨_, _, _, _, o, _, _, e, ex, _⟩ := I.hok p _ hk
     exact ⟨o, e, ex⟩
   obtain ⟨o, e, ex⟩ := z
   refine ⟨⟨o, e, ex.1⟩, fun a e2 => ?_⟩
   cases e2
   exact ⟨o, e, ex.2.1⟩
  ·obtain ⟨o, _, _, _, e, ex, _⟩ := I.hok p _ hk
   refine ⟨⟨o, e, ex.1⟩, fun a e2 => ?_⟩
   cases e2
   exact ⟨o, e, ex.2.1⟩
 | _ => exact False.elim ty
noncomputable def D7 (K : PySem.W.Frag) (T : String) (r : V → List V → Hp → VK → Prop) (to : TE) : TE := fun σ H Q => to σ H fun x H1 => tyV K T x H1 ∧ r x [] H1 Q
noncomputable def tBM (K : PySem.W.Frag) (T : String) (r : V → List V → Hp → VK → Prop) (to : TE) (t : TA) : TE := fun σ H Q => to σ H fun x H1 => tyV K T x H1 ∧ t σ H1 fun xs H2 => r x xs H2 Q
variable {o e : Expr} {es : List Expr} {to : TE} {t : TA} {name : Str} {apos cpos : Pos} {T id : String} {r : V → List V → Hp → VK → Prop}
theorem AE (pa : PlainAttrs T) (slot : Slot T name id) (hty : typeOf (.builtin id) = pure (.type "method_descriptor")) (hm : MtR X id r) (ho : PE X o to)
  (hbase : attributeBase o name X.env (eval o X.env) = eval o X.env := by rfl) (hline : (apos.endLine == cpos.line) = true := by rfl) : PE X (.Call (.Attribute o name apos) [] [] cpos) (D7 X.K T r to) := by
 intro pins s σ H Q I h
 refine wpAny_Call_method0_late hbase hline (thn (ho pins s σ H _ I h) fun v s1 hz => ?_)
 obtain ⟨x, H1, I1, r1, ty, q1⟩ := hz
 obtain ⟨h1, h2⟩ := wF I1 r1 ty
 exact ⟨T, id, pa, slot, hty, h1, h2, Calls.callWith_builtin rfl (PySem.evalArgs_none (hm pins s1 σ H1 x [] v [] Q I1 r1 .nil q1))⟩
theorem C6 (pa : PlainAttrs T) (slot : Slot T name id) (hty : typeOf (.builtin id) = pure (.type "method_descriptor")) (hm : MtR X id r) (ho : PE X o to) (ha : PA X (e :: es) t)
  (hbase : attributeBase o name X.env (eval o X.env) = eval o X.env := by rfl)
  (hfew : ((backTo cpos (starEach (e :: es) X.env)).all (fun x => !x.1) && (backToKw cpos (keywordEach [] X.env)).all (fun x => x.1.isSome)
   && decide ((e :: es).length + ([] : List Keyword).length + (if ([] : List Keyword).isEmpty then 0 else 1) < 30)) = true := by rfl)
  (hline : (apos.endLine == cpos.line) = true := by rfl) (hs : starEach (e :: es) X.env = (false, eval e X.env) :: starEach es X.env := by rfl) (hplain : (backTo cpos (starEach es X.env)).any (·.1) = false := by rfl) :
  PE X (.Call (.Attribute o name apos) (e :: es) [] cpos) (tBM X.K T r to t) := by
 intro pins s σ H Q I h
 refine wpAny_Call_method_late hbase hfew hline rfl (thn (ho pins s σ H _ I h) fun v s1 hz => ?_)
 obtain ⟨x, H1, I1, r1, ty, q1⟩ := hz
 obtain ⟨h1, h2⟩ := wF I1 r1 ty
 refine ⟨T, id, pa, slot, hty, h1, h2, ?_⟩
 have hA := ha cpos pins s1 σ H1 _ I1 q1
 rw [hs] at hA ⊢
 refine Calls.callWith_builtin (by show (false || (backTo cpos (starEach es X.env)).any (·.1)) = false; rw [hplain] <;> rfl) (Calls.evalArgs_plain ?_)
 exact thn hA fun us s2 ⟨vs, H2, I2, r2, q2⟩ => hm pins s2 σ H2 x vs v us Q I2 r1 r2 q2
end
noncomputable def MtM (X : Cx) (id : String) (r : V → List V → Hp → VK → Prop) : Prop :=
 ∀ (pins : List (Addr × Obj)) (s : Shared) (σ : St) (H : Hp) (x : V) (xs : List V) (v : Value) (us : List Value) (Q : VK), Inv X pins σ H s → dv x v → cL xs us → r x xs H Q →
  wpAny (model X.prog X.w) X.A (call (.builtin id) (v :: us)) (EP X pins σ Q) X.xe s
theorem cL.one : ∀ {x : V} {us : List Value}, cL [x] us → ∃ u, us = [u] ∧ dv x u
 | _, _, .cons r .nil => ⟨_, rfl, r⟩
theorem cL.rep {xs : List V} {us : List Value} (h : cL xs us) : ∀ k : Nat, cL (List.replicate k xs).flatten (List.replicate k us).flatten
 | 0 => .nil
 | k + 1 => by
  rw [List.replicate_succ, List.replicate_succ, List.flatten_cons, List.flatten_cons]
  exact cL.append h (cL.rep h k)
theorem kx (its : List Value) : ∀ (k : Nat) (acc : List Value),
  List.foldl (fun x1 x2 => x1 ++ x2) acc.toArray (List.replicate k its.toArray) = (acc ++ (List.replicate k its).flatten).toArray
 | 0, acc => by simp
 | k + 1, acc => by
  have e : acc.toArray ++ its.toArray = (acc ++ its).toArray := by simp
  have e2 : (acc ++ its) ++ (List.replicate k its).flatten = acc ++ (List.replicate (k + 1) its).flatten := by
   rw [List.replicate_succ, List.flatten_cons, List.append_assoc]
  rw [← e2, ← kx its k (acc ++ its), ← e, List.replicate_succ, List.foldl_cons]
section
variable {X : Cx} {pins : List (Addr × Obj)} {σ : St} {H : Hp} {s : Shared} {l b : Addr} {xs ys zs : List V}
theorem Inv.lset {its its' : List Value} {n : Nat} {f : Array Value → Array Value} {t' : Nat} (I : Inv X pins σ H s) (hH : H l = some (.lst xs))
  (e : s.heap.get? l = some { cls := .type "list", data := .seq its.toArray n }) (hf : f its.toArray = its'.toArray) (hv : cL ys its') (hz : ys.length ≤ sizeLine) :
  Inv X pins σ (upd H l (.lst ys)) { s with heap := s.heap.update l (Obj.mapSeq f), toks := t' } := by
 have q := PySem.IsL.update e f
 rw [hf] at q
 refine I.write (x := l) (e := l) (by rw [hH]; exact trivial) (.inl rfl) (fun b' u hb hu => (Heap.get?_update_other s.heap (Obj.mapSeq f) (Ne.symm hb)).trans hu) ⟨_, q⟩ ?_
 exact ⟨hz, its', _, hv, q⟩
theorem Inv.lnew {its : List Value} {t' : Nat} (I : Inv X pins σ H s) (hv : cL ys its) (hz : ys.length ≤ sizeLine) :
  Inv X pins σ (upd H s.heap.objs.size (.lst ys)) { s with heap := s.heap.push { cls := .type "list", data := .seq its.toArray }, toks := t' } :=
 I.laid (fun _ _ q => Heap.get?_push_of_some _ q) (Nat.le_refl _) ⟨hz, its, 0, hv, Heap.get?_push_size _ rfl⟩
theorem Inv.fresh (I : Inv X pins σ H s) : H s.heap.objs.size = none := I.hok.fresh (Nat.le_refl _)
theorem Inv.lstM (I : Inv X pins σ H s) (hH : H l = some (.lst xs)) : xs.length ≤ sizeLine ∧ ∃ (its : List Value) (n : Nat), cL xs its ∧ xs.length = its.length ∧ s.heap.get? l = some { cls := .type "list", data := .seq its.toArray n } := by
 obtain ⟨z, its, n, r, e⟩ := I.hok l _ hH
 exact ⟨z, its, n, r, r.length, e⟩
theorem vJ {n : Nat} (h : n ≤ sizeLine) : Builtin.List.listTooLong n = false := by
 unfold Builtin.List.listTooLong
 exact decide_eq_false (by omega)
end
section
variable {X : Cx}
noncomputable def sG : V → List V → Hp → VK → Prop := fun x vs H Q => ∃ l xs y, x = .ref l ∧ vs = [y] ∧ H l = some (.lst xs) ∧ xs.length < sizeLine ∧ Q .non (upd H l (.lst (xs ++ [y])))
theorem nD : MtM X "list.append" sG := by
 intro pins s σ H x vs v us Q I rx rv h
 obtain ⟨l, xs, y, rfl, rfl, hH, hz, q⟩ := h
 cases rx
 obtain ⟨u, rfl, ru⟩ := rv.one
 obtain ⟨z, its, n, r, hl, e⟩ := I.lstM hH
 refine call_meets F.slot_list_append ⟨_, e, rfl⟩ F.entry_list_append (F.args_list_append_2 _ _) (PySem.list_append l its.toArray n u (by rw [List.size_toArray]; omega)) ⟨e, ?_⟩
 refine ⟨.non, _, I.lset (its' := its ++ [u]) hH e (by simp) (r.append (.cons ru .nil)) ?_, rfl, q⟩
 rw [List.length_append, List.length_singleton]
 omega
noncomputable def BA : R2 := fun x y H Q => ∃ l b xs zs, x = .ref l ∧ y = .ref b ∧ H l = some (.lst xs) ∧ H b = some (.lst zs) ∧ xs.length + zs.length ≤ sizeLine ∧ ∀ p, H p = none → Q (.ref p) (upd H p (.lst (xs ++ zs)))
theorem AO : OpR X (binaryOp .Add) BA := by
 intro pins s σ H x y v u Q I rx ry h
 obtain ⟨l, b, xs, zs, rfl, rfl, hH, hB, hz, q⟩ := h
 cases rx
 cases ry
 obtain ⟨z, its, n, r, hl, e⟩ := I.lstM hH
 obtain ⟨z2, its2, n2, r2, hl2, e2⟩ := I.lstM hB
 refine PySem.P.add_list e e2 ?_ (by rw [List.size_toArray, List.size_toArray]; omega)
 have ea : its.toArray ++ its2.toArray = (its ++ its2).toArray := by simp
 rw [ea]
 exact ⟨.ref _, _, I.lnew (t' := s.toks) (r.append r2) (by rw [List.length_append]; omega), rfl, q _ I.fresh⟩
noncomputable def Ad : R2 := fun x y H Q => ∃ l k xs, x = .ref l ∧ y = .int k ∧ H l = some (.lst xs) ∧ -(2 ^ 63) ≤ k ∧ k < 2 ^ 63 ∧ xs.length * k.toNat ≤ sizeLine ∧
 ∀ p, H p = none → Q (.ref p) (upd H p (.lst (List.replicate k.toNat xs).flatten))
theorem oK {α : Type} (xs : List α) (k : Nat) : (List.replicate k xs).flatten.length = k * xs.length := by
 induction k with
 | zero => simp
 | succ k ih => rw [List.replicate_succ, List.flatten_cons, List.length_append, ih, Nat.succ_mul, Nat.add_comm]
theorem AM : OpR X (binaryOp .Mult) Ad := by
 intro pins s σ H x y v u Q I rx ry h
 obtain ⟨l, k, xs, rfl, rfl, hH, h1, h2, hz, q⟩ := h
 cases rx
 obtain ⟨t, rfl⟩ := ry
 obtain ⟨z, its, n, r, hl, e⟩ := I.lstM hH
 have fS : its.toArray.size * k.toNat ≤ sizeLine := by rw [List.size_toArray, ← hl]; exact hz
 have hcap : ¬ its.toArray.size * k.toNat > (2 ^ 63 - 1) / 8 := by
  have : (sizeLine : Nat) ≤ (2 ^ 63 - 1) / 8 := by decide
  omega
 have hfit : ¬ (!Builtin.List.listFitsIndex k) = true := by
  rw [fitsIndex_both h1 h2]
  exact Bool.false_ne_true
 have hlong : ¬ Builtin.List.listTooLong (its.toArray.size * k.toNat) = true := by
  rw [vJ fS]
  exact Bool.false_ne_true
 have hnew : List.foldl (fun x1 x2 => x1 ++ x2) #[] (List.replicate (if its.toArray.isEmpty = true then 0 else k.toNat) its.toArray) = (List.replicate k.toNat its).flatten.toArray := by
  have f0 : ∀ m : Nat, List.foldl (fun x1 x2 => x1 ++ x2) #[] (List.replicate m its.toArray) = (List.replicate m its).flatten.toArray := fun m => by
   have := kx its m []
   rw [List.nil_append] at this
   exact this
  rw [f0]
  cases its with
  | nil => simp
  | cons a r' => rw [if_neg (by simp)]
 refine wpAny_binaryOp_repeat_ref (T := "list") (U := "int") (by decide) ⟨_, e, rfl⟩ (fun s' => typeIs_int s' k t) noFill_list_mul F.fills_int_mul F.slot_int_rmul repeat_list F.slot_int_index.lookup
  (call_meets F.slot_int_rmul (typeIs_int s k t) F.entry_int_rmul (F.args_int_rmul_2 _ _) (int___rmul___int_list k t l its.toArray n)
   ⟨e, rfl, ⟨_, e, rfl⟩, call_meets F.slot_list_mul ⟨_, e, rfl⟩ F.entry_list_mul (F.args_list_mul_2 _ _) (AutoListH.list___mul___list_int_3 l its.toArray n k t hfit hcap hlong) ⟨e, ?_⟩⟩)
 rw [hnew]
 exact ⟨.ref _, _, I.lnew (t' := s.toks) (r.rep k.toNat) (by rw [oK, Nat.mul_comm]; exact hz), rfl, q _ I.fresh⟩
end
section
variable {κ : Type} [DecidableEq κ]
noncomputable def mV (kvs : List (κ × V)) (k : κ) : Option V := (kvs.find? fun kv => decide (kv.1 = k)).map (·.2)
noncomputable def pY (kvs : List (κ × V)) (k : κ) (v : V) : List (κ × V) :=
 if (kvs.any fun kv => decide (kv.1 = k)) = true then kvs.map (fun kv => if kv.1 = k then (kv.1, v) else kv) else kvs ++ [(k, v)]
theorem mh {p : κ × V} {r : List (κ × V)} {k : κ} (e : p.1 = k) : mV (p :: r) k = some p.2 := by simp [mV, List.find?_cons, e]
theorem mi {p : κ × V} {r : List (κ × V)} {k : κ} (e : ¬ p.1 = k) : mV (p :: r) k = mV r k := by simp [mV, List.find?_cons, e]
theorem pO (k : κ) : ∀ kvs : List (κ × V), (kvs.any fun kv => decide (kv.1 = k)) = (mV kvs k).isSome
 | [] => rfl
 | p :: r => by
  rw [List.any_cons]
  by_cases e : p.1 = k
  ·simp only [mh e, decide_eq_true e, Bool.true_or, Option.isSome_some]
  ·rw [mi e, decide_eq_false e, Bool.false_or]; exact pO k r
theorem kf (kvs : List (κ × V)) (k : κ) (v : V) : (pY kvs k v).length ≤ kvs.length + 1 := by
 unfold pY
 split
 ·rw [List.length_map]; omega
 ·rw [List.length_append, List.length_cons, List.length_nil]; omega
theorem ux.isSome_eq {o : Option V} {u : Option Value} (r : ux o u) : o.isSome = u.isSome := by
 cases o with
 | none => cases u with
  | none => rfl
  | some _ => exact (show False from r).elim
 | some _ => cases u with
  | none => exact (show False from r).elim
  | some _ => rfl
theorem KV.val {kvs : List (κ × V)} {vs : List (κ × Value)} (r : KV kvs vs) (k : κ) : ux (mV kvs k) (valueAt vs k) := by
 unfold KV at r
 induction r with
 | nil => exact True.intro
 | @cons p q ps qs h t ih =>
  obtain ⟨h1, h2⟩ := h
  by_cases e : p.1 = k
  ·have e' : q.1 = k := h1.symm.trans e
   have b : valueAt (q :: qs) k = some q.2 := by simp [valueAt, List.find?_cons, e']
   rw [mh e, b]; exact h2
  ·have e' : ¬ q.1 = k := fun z => e (h1.trans z)
   have b : valueAt (q :: qs) k = valueAt qs k := by simp [valueAt, List.find?_cons, e']
   rw [mi e, b]; exact ih
theorem KV.any {kvs : List (κ × V)} {vs : List (κ × Value)} (r : KV kvs vs) (k : κ) : (kvs.any fun kv => decide (kv.1 = k)) = vs.any fun kv => decide (kv.1 = k) := by
 unfold KV at r
 induction r with
 | nil => rfl
 | cons h t ih => rw [List.any_cons, List.any_cons, ih, h.1]
theorem KV.repl {kvs : List (κ × V)} {vs : List (κ × Value)} (r : KV kvs vs) (k : κ) {y : V} {u : Value} (ry : dv y u) :
  KV (kvs.map fun kv => if kv.1 = k then (kv.1, y) else kv) (vs.map fun kv => if kv.1 = k then (kv.1, u) else kv) := by
 unfold KV at r ⊢
 induction r with
 | nil => exact .nil
 | @cons p q ps qs h t ih =>
  rw [List.map_cons, List.map_cons]
  refine .cons ?_ ih
  obtain ⟨h1, h2⟩ := h
  by_cases e : p.1 = k
  ·rw [if_pos e, if_pos (h1.symm.trans e)]; exact ⟨h1, ry⟩
  ·rw [if_neg e, if_neg (fun z => e (h1.trans z))]; exact ⟨h1, h2⟩
theorem KV.put {kvs : List (κ × V)} {vs : List (κ × Value)} (r : KV kvs vs) (k : κ) {y : V} {u : Value} (ry : dv y u) : KV (pY kvs k y) (stored vs k u) := by
 unfold pY stored
 rw [r.any k]
 by_cases e : (vs.any fun kv => decide (kv.1 = k)) = true
 ·rw [if_pos e, if_pos e]; exact r.repl k ry
 ·rw [if_neg e, if_neg e]; exact Paired.snoc r ⟨rfl, ry⟩
theorem KV.length {kvs : List (κ × V)} {vs : List (κ × Value)} (r : KV kvs vs) : kvs.length = vs.length := Paired.length r
end
theorem vO {P : Program} {w : World} {k : Key} {u : Value} (r : dv (kV k) u) : (dN P w).is k u = true := by
 cases k with
 | inl i => obtain ⟨t, e⟩ := (show ∃ t, u = Value.int i t from r); subst e; exact oJ P w i t
 | inr x => obtain ⟨t, e⟩ := (show ∃ t, u = Value.str x t from r); subst e; exact oI P w x t
theorem nF {P : Program} {w : World} : ∀ {ks : List Key} {us : List Value}, cL (ks.map kV) us → ItemsAre (dN P w) ks us
 | [], _, r => by rw [List.map_nil] at r; cases r; exact .nil
 | k :: ks, _, r => by
  rw [List.map_cons] at r
  cases r with
  | cons h t => exact .cons (vO h) (nF t)
noncomputable abbrev KT (H : Hp) : List (List Key × V) → List (List Key × Addr × Value) → Prop := Paired fun p q => p.1 = q.1 ∧ H q.2.1 = some (.tup (p.1.map kV)) ∧ dv p.2 q.2.2
theorem KT.val {H : Hp} {kvs : List (List Key × V)} {xs : List (List Key × Addr × Value)} (r : KT H kvs xs) (k : List Key) : ux (mV kvs k) ((atKey xs k).map (·.2)) := by
 induction r with
 | nil => exact True.intro
 | @cons p q ps qs h t ih =>
  obtain ⟨h1, _, h2⟩ := h
  by_cases e : p.1 = k
  ·have e' : q.1 = k := h1.symm.trans e
   have b : atKey (q :: qs) k = some q.2 := by simp [atKey, List.find?_cons, e']
   rw [mh e, b]; exact h2
  ·have e' : ¬ q.1 = k := fun z => e (h1.trans z)
   have b : atKey (q :: qs) k = atKey qs k := by simp [atKey, List.find?_cons, e']
   rw [mi e, b]; exact ih
theorem KT.repl {H : Hp} {kvs : List (List Key × V)} {xs : List (List Key × Addr × Value)} (r : KT H kvs xs) (k : List Key) {y : V} {u : Value} (ry : dv y u) :
  KT H (kvs.map fun kv => if kv.1 = k then (kv.1, y) else kv) (xs.map (putAt k u)) := by
 induction r with
 | nil => exact .nil
 | @cons p q ps qs h t ih =>
  rw [List.map_cons, List.map_cons]
  refine .cons ?_ ih
  obtain ⟨h1, h2, h3⟩ := h
  unfold putAt
  by_cases e : p.1 = k
  ·rw [if_pos e, if_pos (h1.symm.trans e)]; exact ⟨h1, h2, ry⟩
  ·rw [if_neg e, if_neg (fun z => e (h1.trans z))]; exact ⟨h1, h2, h3⟩
theorem KT.put {H : Hp} {kvs : List (List Key × V)} {xs : List (List Key × Addr × Value)} (r : KT H kvs xs) (k : List Key) {b : Addr} {y : V} {u : Value} (hb : H b = some (.tup (k.map kV))) (ry : dv y u) :
  KT H (pY kvs k y) (storedH xs k b u) := by
 have e : (kvs.any fun kv => decide (kv.1 = k)) = (atKey xs k).isSome := by
  rw [pO, (r.val k).isSome_eq, Option.isSome_map]
 unfold pY storedH
 rw [e]
 by_cases q : (atKey xs k).isSome = true
 ·rw [if_pos q, if_pos q]; exact r.repl k ry
 ·rw [if_neg q, if_neg q]; exact Paired.snoc r ⟨rfl, hb, ry⟩
theorem KT.keeps {H H' : Hp} {kvs : List (List Key × V)} {xs : List (List Key × Addr × Value)} (r : KT H kvs xs) (ht : ∀ b ys, H b = some (.tup ys) → H' b = some (.tup ys)) : KT H' kvs xs :=
 Paired.mapP r fun _ _ z => ⟨z.1, ht _ _ z.2.1, z.2.2⟩
section
variable {P : Program} {w : World} {H : Hp} {h : Heap} {a : Addr}
theorem Ab {u : HO} (ok : HOk P w H h) (e : Rd H a u) : dX P w H h a u := e.ok ok
theorem tW {kvs : List (Key × V)} (ok : HOk P w H h) (e : Rd H a (.dK kvs)) : kvs.length ≤ sizeLine ∧ (a == sysModules) = false ∧ ∃ vs, KV kvs vs ∧ h.DictOf (dN P w) a vs :=
 show dX P w H h a (.dK kvs) from Ab ok e
theorem DM {kvs : List (Key × V)} (ok : HOk P w H h) (e : H a = some (.dK kvs)) : kvs.length ≤ sizeLine ∧ (a == sysModules) = false ∧ ∃ vs, KV kvs vs ∧ h.DictOf (dN P w) a vs := tW ok (.inl e)
theorem p9 {ks : List Key} (ok : HOk P w H h) (e : H a = some (.tup (ks.map kV))) : (tupleKind (dN P w)).is h ks a := by
 obtain ⟨_, its, r, o, h1, h2, n, h3⟩ := (show dX P w H h a (.tup (ks.map kV)) from ok a _ e)
 exact ⟨o, its.toArray, n, h1, h2, h3, by simpa using nF r⟩
theorem vY {kvs : List (List Key × V)} (ok : HOk P w H h) (e : Rd H a (.dT kvs)) : kvs.length ≤ sizeLine ∧ (a == sysModules) = false ∧
  ∃ xs, KT H kvs xs ∧ h.DictOfH (tupleKind (dN P w)) a xs := by
 obtain ⟨z, y, xs, r, o, es, ep, h1, h2, h3, h4, h5⟩ := (show dX P w H h a (.dT kvs) from Ab ok e)
 refine ⟨z, y, xs, r, o, es, ep, h1, h2, h3, h4, fun x hx => ?_, h5⟩
 have all : ∀ {l : List (List Key × V)} {m : List (List Key × Addr × Value)}, KT H l m → ∀ x ∈ m, (tupleKind (dN P w)).is h x.1 x.2.1 := by
  intro l m q
  induction q with
  | nil => intro x hx; exact nomatch hx
  | @cons p q ps qs hq t ih =>
   intro x hx
   rcases List.mem_cons.mp hx with e | hx
   ·subst e
    exact p9 ok (by rw [← hq.1]; exact hq.2.1)
   ·exact ih x hx
 exact all r x hx
theorem DL {kvs : List (List Key × V)} (ok : HOk P w H h) (e : H a = some (.dT kvs)) : kvs.length ≤ sizeLine ∧ (a == sysModules) = false ∧
  ∃ xs, KT H kvs xs ∧ h.DictOfH (tupleKind (dN P w)) a xs := vY ok (.inl e)
end
noncomputable def DGet (H : Hp) (a : Addr) (y : V) (r : Option V) : Prop :=
 (∃ kvs k, Rd H a (.dK kvs) ∧ y = kV k ∧ r = mV kvs k) ∨ ∃ kvs k b, Rd H a (.dT kvs) ∧ y = .ref b ∧ H b = some (.tup (k.map kV)) ∧ r = mV kvs k
noncomputable def Bw (H : Hp) (a : Addr) (y v : V) (H' : Hp) : Prop :=
 (∃ kvs k, H a = some (.dK kvs) ∧ y = kV k ∧ kvs.length < sizeLine ∧ H' = upd H a (.dK (pY kvs k v))) ∨
 ∃ kvs k b, H a = some (.dT kvs) ∧ y = .ref b ∧ H b = some (.tup (k.map kV)) ∧ kvs.length < sizeLine ∧ H' = upd H a (.dT (pY kvs k v))
theorem DGet.k {H : Hp} {a : Addr} {kvs : List (Key × V)} {k : Key} (e : H a = some (.dK kvs)) : DGet H a (kV k) (mV kvs k) := .inl ⟨kvs, k, .inl e, rfl, rfl⟩
theorem Bw.k {H : Hp} {a : Addr} {kvs : List (Key × V)} {k : Key} {v : V} (e : H a = some (.dK kvs)) (hl : kvs.length < sizeLine) : Bw H a (kV k) v (upd H a (.dK (pY kvs k v))) := .inl ⟨kvs, k, e, rfl, hl, rfl⟩
section
variable {X : Cx} {pins : List (Addr × Obj)} {σ : St} {H : Hp} {s : Shared} {a : Addr} {y v : V} {u r : Value} {o : Option V} {A : Around} {E : Value → Shared → Prop}
theorem t8 {Q : Value → Shared → Prop} (hu : A.units + 1 < cLine) (I : Inv X pins σ H s) (g : DGet H a y (some v)) (ry : dv y u) (h : ∀ w' s', Inv X pins σ H s' → dv v w' → Q w' s') :
  wpAny (model X.prog X.w) A (getItem (.ref a) u) Q E s := by
 rcases g with ⟨kvs, k, e, ey, l⟩ | ⟨kvs, k, b, e, ey, eb, l⟩
 ·subst ey
  obtain ⟨z, hd, vs, rel, dd⟩ := tW I.hok e
  obtain ⟨w', hw, rw'⟩ := ux.some_of (v := v) (o := valueAt vs k) (by rw [l]; exact rel.val k)
  exact wpAny_getItem_of (vO ry) dd.mapOf hw (h w' _ (I.tok _) rw')
 ·subst ey
  cases (show u = Value.ref b from ry)
  obtain ⟨z, hd, xs, rel, dd⟩ := vY I.hok e
  obtain ⟨w', hw, rw'⟩ := ux.some_of (v := v) (o := (atKey xs k).map (·.2)) (by rw [l]; exact rel.val k)
  obtain ⟨p, hp, hp2⟩ := Option.map_eq_some_iff.mp hw
  refine wpAny_getItem_heap (tupleKind_room_in1 hu) (p9 I.hok eb) dd hp ?_
  rw [hp2]
  exact h w' _ (I.tok _) rw'
theorem yK {Q : Value → Shared → Prop} (hu : A.units + 1 < cLine) (I : Inv X pins σ H s) (g : DGet H a y o) (ry : dv y u) (h : ∀ s', Inv X pins σ H s' → Q (.bool (!o.isSome)) s') :
  wpAny (model X.prog X.w) A (compareOp .NotIn u (.ref a)) Q E s := by
 rcases g with ⟨kvs, k, e, ey, l⟩ | ⟨kvs, k, b, e, ey, eb, l⟩
 ·subst ey
  obtain ⟨z, hd, vs, rel, dd⟩ := tW I.hok e
  refine wpAny_notIn_of (vO ry) hd dd.mapOf ?_
  rw [← (rel.val k).isSome_eq, ← l]
  exact h _ (I.tok _)
 ·subst ey
  cases (show u = Value.ref b from ry)
  obtain ⟨z, hd, xs, rel, dd⟩ := vY I.hok e
  refine wpAny_notIn_heap (tupleKind_room_in1 hu) (p9 I.hok eb) hd dd ?_
  have q := (rel.val k).isSome_eq
  rw [Option.isSome_map] at q
  rw [← q, ← l]
  exact h _ (I.tok _)
theorem t6 {h' : Heap} {t' : Nat} {ob : HO} (I : Inv X pins σ H s) (mu : Mut (H a)) (hs : Heap.SameBut a s.heap h') (he : ∃ q, h'.get? a = some q) (new : dX X.prog X.w (upd H a ob) h' a ob) :
  Inv X pins σ (upd H a ob) { s with heap := h', toks := t' } :=
 I.write (x := a) (e := a) mu (.inl rfl) (fun b q hb z => (hs.2 b hb).trans z) he new
theorem Bl {P : Program} {w : World} {H' : Hp} {h' : Heap} {kvs : List (Key × V)} {vs : List (Key × Value)} (z : kvs.length ≤ sizeLine) (hd : (a == sysModules) = false) (rel : KV kvs vs) (dd : h'.DictOf (dN P w) a vs) :
  dX P w H' h' a (.dK kvs) := ⟨z, hd, vs, rel, dd⟩
theorem t7 {H' : Hp} {Q : Unit → Shared → Prop} (hu : A.units + 1 < cLine) (I : Inv X pins σ H s) (g : Bw H a y v H') (ry : dv y u) (rv : dv v r) (h : ∀ s', Inv X pins σ H' s' → Q () s') :
  wpAny (model X.prog X.w) A (setItem (.ref a) u r) Q E s := by
 rcases g with ⟨kvs, k, e, ey, l, eH⟩ | ⟨kvs, k, b, e, ey, eb, l, eH⟩
 ·subst ey eH
  obtain ⟨z, hd, vs, rel, dd⟩ := DM I.hok e
  have hz : vs.length ≤ sizeLine := by rw [← rel.length]; exact z
  have hl : (pY kvs k v).length ≤ sizeLine := by have := kf kvs k v; omega
  refine wpAny_setItem_pairs (hsz := hz) (vO ry) dd fun h' dd' hs => h _ ?_
  have he : ∃ q, h'.get? a = some q := let ⟨q, _, _, hq, _⟩ := dd'; ⟨q, hq⟩
  exact t6 I (by rw [e]; exact True.intro) hs he (Bl hl hd (rel.put k rv) dd')
 ·subst ey eH
  cases (show u = Value.ref b from ry)
  obtain ⟨z, hd, xs, rel, dd⟩ := DL I.hok e
  have hz : xs.length ≤ sizeLine := by rw [← Paired.length rel]; exact z
  have hl : (pY kvs k v).length ≤ sizeLine := by have := kf kvs k v; omega
  refine wpAny_setItem_heap (hsz := hz) (tupleKind_room_in1 hu) (p9 I.hok eb) dd fun h' dd' hs => h _ ?_
  obtain ⟨q, es, ep, hq, h2, h3, h4, _, h5⟩ := dd'
  refine t6 I (by rw [e]; exact True.intro) hs ⟨q, hq⟩ ⟨hl, hd, _, (rel.put k eb rv).keeps fun c ys ec => ?_, q, es, ep, hq, h2, h3, h4, h5⟩
  rw [cy (Di ec e (fun z => nomatch z))]
  exact ec
end
section
variable {X : Cx} {pins : List (Addr × Obj)} {σ : St} {H : Hp} {s : Shared} {a : Addr} {kvs : List (Key × V)} {k : Key} {u : Value} {A : Around} {E : Value → Shared → Prop}
theorem DN {Q : Value → Shared → Prop} (I : Inv X pins σ H s) (e : Rd H a (.dK kvs)) (h : ∀ t s', Inv X pins σ H s' → Q (.int kvs.length t) s') : wpAny (model X.prog X.w) A (call (.builtin "len") [.ref a]) Q E s := by
 obtain ⟨z, hd, vs, rel, dd⟩ := tW I.hok e
 refine call_len_dict hd dd (by rw [← rel.length]; rw [sizeLine_eq] at z; omega) ?_
 rw [← rel.length]
 exact h _ _ (I.tok _)
end
noncomputable def BN (i : Expr) : Prop := ∀ ov iv, subscripted i false ov iv = operate [ov, iv] (getItem ov iv)
theorem xQ {prog : Program} {w : World} {A : Around} {E : Value → Shared → Prop} {s : Shared} {env : Env} {value slice : Expr} {pos : Pos} {T id : String} {Q : Value → Shared → Prop}
  (hl : typeLookup (.type T) "__getitem__" = pure (some (.builtin id))) (hs : BN slice)
  (h : wpAny (model prog w) A (eval value env) (fun o s₁ => wpAny (model prog w) A (eval slice env) (fun i s₂ => s₂.TypeIs o T ∧ wpAny (model prog w) A (getItem o i) Q E s₂) E s₁) E s) :
  wpAny (model prog w) A (eval (.Subscript value slice pos) env) Q E s := by
 refine Subscript_ (wpAny_mono h (fun o s₁ h₁ => wpAny_mono h₁ (fun i s₂ h₂ => ?_) fun _ _ x => x) fun _ _ x => x)
 obtain ⟨hT, h₂⟩ := h₂
 unfold subscriptTail
 refine wpAny_bind ?_
 rw [getitemInPython_of_ne hT.not_modules]
 refine wpAny_bind (wpAny_specialOf hT hl ?_)
 have fin : wpAny (model prog w) A (subscripted slice false o i) (fun r s₃ => wpAny (model prog w) A (letTemporaryGo value o r >>= fun _ => pure r) Q E s₃) E s₂ := by
  rw [hs o i]
  exact wpAny_operating (wpAny_mono h₂ (fun r s₃ h₃ => wpAny_bind (wpAny_letTemporaryGo (wpAny_pure h₃))) fun _ _ x => x)
 first
  | exact wpAny_pure (wpAny_bind fin)
  | exact wpAny_bind (wpAny_pure (wpAny_bind fin))
  | exact wpAny_bind fin
theorem oW {X : Cx} {pins : List (Addr × Obj)} {σ : St} {H : Hp} {s : Shared} {a : Addr} {y : V} {o : Option V} (I : Inv X pins σ H s) (g : DGet H a y o) : s.TypeIs (.ref a) "dict" := by
 rcases g with ⟨kvs, k, e, _, _⟩ | ⟨kvs, k, b, e, _, _, _⟩
 ·obtain ⟨_, _, vs, _, dd⟩ := tW I.hok e
  exact dd.typeIs
 ·obtain ⟨_, _, xs, _, dd⟩ := vY I.hok e
  exact dd.typeIs
noncomputable def zT (td ty : TE) : TE := fun σ H Q => td σ H fun x H1 => ty σ H1 fun y H2 => ∃ a v, x = .ref a ∧ DGet H2 a y (some v) ∧ Q v H2
noncomputable def ml (ty td : TE) : TE := fun σ H Q => ty σ H fun y H1 => td σ H1 fun x H2 => ∃ a o, x = .ref a ∧ DGet H2 a y o ∧ Q (.bl (!o.isSome)) H2
noncomputable def z9 (td ty tv : TE) : TS := fun D σ H => tv σ H fun v H1 => td σ H1 fun x H2 => ty σ H2 fun y H3 => ∃ a H4, x = .ref a ∧ Bw H3 a y v H4 ∧ D.nx σ H4
section
variable {X : Cx} {o i e value : Expr} {pos pos' tpos : Pos} {td ty tv : TE}
theorem yc (hu : X.A.units + 1 < cLine) (ho : PE X o td) (hi : PE X i ty) (hs : BN i) : PE X (.Subscript o i pos) (zT td ty) := by
 intro pins s σ H Q I h
 refine xQ PySem.F.slot_dict_getitem.lookup hs (thn (ho pins s σ H _ I h) fun u s1 ⟨x, H1, I1, rx, q1⟩ => thn (hi pins s1 σ H1 _ I1 q1) fun iv s2 hz => ?_)
 obtain ⟨y, H2, I2, ry, a, v, ex, g, q2⟩ := hz
 subst ex
 obtain rfl : u = Value.ref a := rx
 exact ⟨oW I2 g, t8 hu I2 g ry fun w' s3 I3 rw' => ⟨v, H2, I3, rw', q2⟩⟩
theorem sS (hu : X.A.units + 1 < cLine) (hi : PE X i ty) (ho : PE X o td) : PC X .NotIn i o (ml ty td) := by
 intro pins s σ H Q I h
 refine thn (hi pins s σ H _ I h) fun iv s1 ⟨y, H1, I1, ry, q1⟩ => thn (ho pins s1 σ H1 _ I1 q1) fun u s2 hz => ?_
 obtain ⟨x, H2, I2, rx, a, ov, ex, g, q2⟩ := hz
 subst ex
 obtain rfl : u = Value.ref a := rx
 exact yK hu I2 g ry fun s3 I3 => ⟨.bl (!ov.isSome), H2, I3, rfl, q2⟩
theorem x4 (hu : X.A.units + 1 < cLine) (ho : PE X o td) (hi : PE X i ty) (hv : PE X value tv) (hs : swapsWith value (some (.Subscript o i pos')) pos.line X.env = pure false) :
  PS X (.Assign [.Subscript o i pos'] value pos) (z9 td ty tv) := by
 intro pins s σ H D I h
 refine wpAny_Assign_Subscript (thn (hv pins s σ H _ I h) fun r s1 ⟨v, H1, I1, rv, q1⟩ => thn (ho pins s1 σ H1 _ I1 q1) fun u s2 ⟨x, H2, I2, rx, q2⟩ => thn (hi pins s2 σ H2 _ I2 q2) fun iv s3 hz => ?_) hs
 obtain ⟨y, H3, I3, ry, a, H4, ex, g, q3⟩ := hz
 subst ex
 obtain rfl : u = Value.ref a := rx
 exact t7 hu I3 g ry rv fun s4 I4 => ⟨σ, H4, I4, q3⟩
end
end L2
namespace Att
open PySem PySem.W PySem.Calls PyProof.Rows
theorem kr {P : Params} {h : Heap} : ∀ (ns : List Int) (vs : List Value), WellAll P h vs (ns.map WData.int) → IntsAre vs ns := by
 intro ns
 induction ns with
 | nil =>
  intro vs w
  rw [List.map_nil] at w
  cases w
  exact .nil
 | cons n ns ih =>
  intro vs w
  rw [List.map_cons] at w
  cases w with
  | cons a b =>
   cases a
   exact .cons _ _ (ih _ b)
theorem sy {l : OpenLaw} {n : Nat} (hn : l.most = some n) {P : Params} {h : Heap} {args : List WData} {vals : List Value}
  (hpre : l.row.toRowW.claim.pre args = true) (hwl : WellAll P h vals args) :
  ∃ a vs ns, vals = [Value.ref a] ∧ args = [WData.list (ns.map WData.int)] ∧ h.get? a = some { cls := .type "list", data := .seq vs.toArray } ∧ IntsAre vs ns ∧ ns.length ≤ n := by
 have hsh : WShape.hasAll [] args [.list .int] = true := (pre_splitW hpre).1
 have hc : l.pre.holds [] { args := args } = true := (pre_splitW hpre).2
 obtain ⟨d, r, rfl, h1, h2⟩ := hasAllW_cons hsh
 obtain rfl := hasAllW_nil h2
 obtain ⟨xs, rfl, h3⟩ := hasW_list h1
 obtain ⟨ns, rfl⟩ := items_int h3
 have fS : ns.length ≤ n := by
  unfold OpenLaw.pre at hc
  have h4 : (WTm.not (.lt (.lit (.int (n : Int))) (.len (.arg 0)))).holds [] { args := [.list (ns.map .int)] } = true := by
   have h4 := (holds_andW hc).1
   rw [hn] at h4
   exact h4
  have h5 := condW_of h4 (w_not (w_lt w_lit (w_len_list (w_arg rfl))))
  rw [List.length_map] at h5
  refine Nat.le_of_not_lt fun q => ?_
  have q' : (n : Int) < ((ns.length : Nat) : Int) := by omega
  first
   | (rw [decide_eq_true q'] at h5; exact absurd h5 (by decide))
   | (simp at h5; omega)
 cases hwl with
 | cons w1 w2 =>
  cases w2
  cases w1 with
  | list ho hall => exact ⟨_, _, ns, rfl, rfl, ho, kr ns _ hall, fS⟩
theorem sN (l : OpenLaw) (args : List WData) : l.row.toRowW.claim.post args (.bool true) args = true :=
 postW_of (r := l.row.toRowW) (X := (true == true))
  (show WShape.has [] (.bool true) .bool = true by first | rfl | decide | simp [WShape.has, WShape.arms, WShape.armsAll])
  (show (WTm.eq .res (.lit (.bool true))).value [] { args := args, res := some (.bool true), after := args } = some (.bool (true == true)) from w_eq_bool (w_res rfl) w_lit) rfl
theorem attach_call {l : OpenLaw} {n : Nat} {q : Program} {loose : List Str} {XP : (Str → Option Value) → Heap → Prop} {YP : World → Heap → Prop} {d : DefRec}
  (hn : l.most = some n) (hdf : d.params.defaults = [])
  (call : ∀ (w : World) (s₀ s₁ : Shared) (mg mb : Str → Option Value) (fa : Addr) (o : Obj) (pm cd doc : Value) (a : Addr) (vs : List Value) (ns : List Int),
   Ground q loose [] XP w s₀ mg mb s₁.heap → YP w s₁.heap →
   s₁.heap.get? fa = some o → o.data = .func (docDef d.name d.params d.body d.scope pm cd doc) → s₁.heap.CodeRec cd d.name → mg d.name = some (.ref fa) →
   s₁.heap.get? a = some { cls := .type "list", data := .seq vs.toArray } → IntsAre vs ns → ns.length ≤ n → s₁.gens = #[] →
   codeAny (model l.prog w) callerA (.call (.ref fa) ⟨[.ref a], []⟩) (fun r s' => r = .ok (.ret (.bool true)) ∧ OldK s₁.heap s'.heap ∧ s'.os = s₁.os ∧ AllBare s'.gens) s₁) :
  WalkO q loose XP YP l.row.toRowW d [] (fun f vs => PySem.call f vs) := by
 intro w s₀ s₁ mg mb G Y fa o pm cd doc dV kV ho hd hcd hD hmg hg args vals as hpre hlay hrd hwl hlo
 obtain rfl : dV = .none := Dflts.none hD hdf
 obtain rfl : kV = .none := Dflts.noKw hD
 obtain ⟨a, vs, ns, rfl, rfl, hobj, hints, fS⟩ := sy hn hpre hwl
 refine enter_call (codeAny_mono (call w s₀ s₁ mg mb fa o pm cd doc a vs ns G Y ho (fd_plain hd) hcd hmg hobj hints fS hg) fun r s' hq => ?_)
 obtain ⟨rfl, h2, h3, h4⟩ := hq
 exact ⟨.inl ⟨.bool true, .bool true, [], rfl, fun _ => rfl, .bool true, sN l _, fun _ => ⟨List.Pairwise.nil, fun _ hm => (nomatch hm)⟩⟩, h2, h3, h4⟩
end Att
namespace L2
open PySem PySem.Spec PyProof.Rows
theorem gS : ∀ {vs : List Value} {ns : List Int}, IntsAre vs ns → cL (ns.map V.int) vs
 | _, _, .nil => .nil
 | _, _, .cons n t h => .cons ⟨t, rfl⟩ (gS h)
noncomputable def DW (H : Hp) : Prop := ∀ b, H b = none ∨ ∃ o xs, H b = some (.frz o (.lst xs))
theorem vN {P : Program} {w : World} {K : PySem.W.Frag} {mg mb : Str → Option Value} {CX : CXT} {k : Nat} {fa a : Addr} {fd : FuncData} {x : Str} {sp : Sp} {s₁ : Shared} {vs : List Value} {ns : List Int}
  (KX : K.In s₁.heap) (hns : s₁.heap.Ns mainGlobals mg) (hb : s₁.heap.Ns builtinsNs mb) (hbb : ∀ x : Str, x ≠ "__name__" → mb x = bootBuiltins x) (hlim : s₁.heap.NoLimit) (hg : s₁.gens = #[])
  (ha : s₁.heap.get? a = some { cls := .type "list", data := .seq vs.toArray }) (hi : IntsAre vs ns) (hl : ns.length ≤ sizeLine) (hr : kK k callerA)
  (F : ∀ base : Heap, K.In base → base.Ns mainGlobals mg → qF P w K mg base CX k fa fd [x] sp) (hbind : ∀ (s : Shared) (u : Value), BindsTo s fd ⟨[u], []⟩ [(x, u)])
  (hsp : ∀ H : Hp, DW H → SqL K H a (ns.map V.int) → sp [.ref a] H (fun v _ => v = .bl true) fun _ _ _ => False)
  (hCX : ∀ H e s', CX [] H s₁ (fun _ _ _ => False) e s' → False) :
  codeAny (model P w) callerA (.call (.ref fa) ⟨[.ref a], []⟩) (fun r s' => r = .ok (.ret (.bool true)) ∧ OldK s₁.heap s'.heap ∧ s'.os = s₁.os ∧ AllBare s'.gens) s₁ := by
 have rv := gS hi
 have lenV := hi.length
 have core : ∀ H : Hp, DW H → SqL K H a (ns.map V.int) → HOk P w H s₁.heap → (∀ b, H b ≠ none → b = a) → (H a ≠ none → K.lookup a = none) →
   codeAny (model P w) callerA (.call (.ref fa) ⟨[.ref a], []⟩) (fun r s' => r = .ok (.ret (.bool true)) ∧ OldK s₁.heap s'.heap ∧ s'.os = s₁.os ∧ AllBare s'.gens) s₁ := by
  intro H hO hS hok hA hK
  have base_of : ∀ {b : Addr} {o : Obj}, s₁.heap.get? b = some o → H b = none → (vS s₁.heap H).get? b = some o := fun e n => vR e n
  have noA : ∀ {b : Addr} {o : Obj} {es : Array DictEntry} {ep : Nat}, s₁.heap.get? b = some o → o.data = .dict es ep → H b = none := fun {b o es ep} e d => by
   cases q : H b with
   | none => rfl
   | some u =>
    have e' : b = a := hA b (by rw [q]; simp)
    subst e'
    rw [ha] at e; cases e
    have d' : Data.seq vs.toArray _ = Data.dict es ep := d
    cases d'
  have nsK : ∀ {b : Addr} {m : Str → Option Value}, s₁.heap.Ns b m → (vS s₁.heap H).Ns b m := fun {b m} ⟨o, es, ep, e, d, r⟩ => ⟨o, es, ep, base_of e (noA e d), d, r⟩
  have hKb : K.In (vS s₁.heap H) := fun b o e => base_of (KX b o e) (by
   cases q : H b with
   | none => rfl
   | some u =>
    have e' : b = a := hA b (by rw [q]; simp)
    subst e'
    rw [hK (by rw [q]; simp)] at e; cases e)
  have hM : Mod K mg (vS s₁.heap H) := ⟨hKb, nsK hns, ⟨mb, nsK hb, hbb⟩, let ⟨mc, h1, h2⟩ := hlim; ⟨mc, nsK h1, h2⟩⟩
  have e0 : BO P w K mg (vS s₁.heap H) callerA [] s₁ H := ⟨rfl, hM, fun b o e => yt e, Nat.le_of_eq (tM _ _), trivial, fun b hb => absurd (show b ∈ ([] : List Addr) from hb) (by simp), hok, .of_eq hg⟩
  refine codeAny_mono ((F _ hKb (nsK hns)).run callerA [] s₁ H ⟨[.ref a], []⟩ [.ref a] [.ref a] _ _ hr e0 (hbind s₁ (.ref a)) (.cons rfl .nil) (hsp H hO hS)) fun r s' h => ?_
  cases r with
  | error e => exact (hCX H e s' h).elim
  | ok fl =>
   cases fl with
   | next => exact False.elim h
   | brk => exact False.elim h
   | cont => exact False.elim h
   | ret u =>
    obtain ⟨v, H', os, bare, un, hok', r', q⟩ := h
    have q' : v = .bl true := q
    subst q'
    obtain rfl : u = Value.bool true := r'
    refine ⟨rfl, OldK.of_keep fun b o e => ?_, os, bare⟩
    cases q : H b with
    | none => exact un.keep b o e q (by intro z; exact absurd (show b ∈ ([] : List Addr) from z) (by simp)) (by simp)
    | some u =>
     rcases hO b with z | ⟨ob, xs, z⟩
     ·rw [q] at z; cases z
     ·have z2 := un.frzs b ob _ z
      obtain ⟨e1, _⟩ := hok b _ z
      obtain ⟨e2, _⟩ := hok' b _ z2
      rw [e] at e1; cases e1
      exact e2
 cases hk : K.lookup a with
 | some o =>
  have e := KX a o hk
  rw [ha] at e
  cases e
  refine core (fun _ => none) (fun _ => .inl rfl) (.inr ⟨_, vs.toArray, _, hk, rfl, rfl, rfl, by rw [List.size_toArray, lenV]; exact hl, by simpa using rv⟩) (fun b u z => by have z' : (none : Option HO) = some u := z; cases z') (fun b z => absurd rfl z) fun z => absurd rfl z
 | none =>
  refine core (fun b => if b = a then some (.frz { cls := .type "list", data := .seq vs.toArray } (.lst (ns.map V.int))) else none) (fun b => ?_) (.inl (.inr ⟨{ cls := .type "list", data := .seq vs.toArray }, if_pos rfl⟩)) (fun b u z => ?_) (fun b z => ?_) fun _ => hk
  ·by_cases hb : b = a
   ·exact .inr ⟨_, _, if_pos hb⟩
   ·exact .inl (if_neg hb)
  ·by_cases hb : b = a
   ·have z' := (if_pos hb).symm.trans z
    cases z'
    subst hb
    exact ⟨ha, by rw [List.length_map]; exact hl, vs, _, rv, ha⟩
   ·have z' := (if_neg hb).symm.trans z
    cases z'
  ·by_cases hb : b = a
   ·exact hb
   ·exact absurd (if_neg hb) z
theorem xO {l : PySem.W.OpenLaw} {n k : Nat} {q : Program} {loose : List Str} {XP : (Str → Option Value) → Heap → Prop} {YP : World → Heap → Prop} {d : DefRec} {K : Params → PySem.W.Frag} {CX : World → CXT} {sp : World → Sp} {x : Str}
  (hn : l.most = some n) (hn2 : n ≤ sizeLine) (hdf : d.params.defaults = []) (hr : kK k callerA)
  (hY : ∀ (w : World) (h : Heap), YP w h → (K w.params).In h)
  (F : ∀ (w : World) (mg : Str → Option Value) (fa : Addr) (h : Heap), (K w.params).In h → h.Ns mainGlobals mg → mg d.name = some (.ref fa) →
   ∃ fd : FuncData, (∀ (s : Shared) (u : Value), BindsTo s fd ⟨[u], []⟩ [(x, u)]) ∧
    ∀ base : Heap, (K w.params).In base → base.Ns mainGlobals mg → qF l.prog w (K w.params) mg base (CX w) k fa fd [x] (sp w))
  (hsp : ∀ (w : World) (H : Hp) (a : Addr) (ns : List Int), ns.length ≤ n → DW H → SqL (K w.params) H a (ns.map V.int) → sp w [.ref a] H (fun v _ => v = .bl true) fun _ _ _ => False)
  (hCX : ∀ (w : World) (H : Hp) (s : Shared) (e : Value) (s' : Shared), CX w [] H s (fun _ _ _ => False) e s' → False) :
  PySem.W.WalkO q loose XP YP l.row.toRowW d [] (fun f vs => PySem.call f vs) := by
 refine Att.attach_call hn hdf fun w s₀ s₁ mg mb fa o pm cd doc a vs ns G Y ho hd hcd hmg hobj hints fS hg => ?_
 have KX := hY w _ Y
 obtain ⟨fd, hb, hF⟩ := F w mg fa _ KX G.T.g hmg
 exact vN KX G.T.g G.T.b G.T.builtins G.T.nolimit hg hobj hints (Nat.le_trans fS hn2) hr hF hb (fun H hO hS => hsp w H a ns fS hO hS) fun H e s' => hCX w H s₁ e s'
noncomputable def ba (s : Stmt) : Arguments := match s with
 | .FunctionDef _ a _ _ _ _ _ _ _ _ => a
 | _ => { posonlyargs := [], args := [], vararg := none, kwonlyargs := [], kw_defaults := [], kwarg := none, defaults := [] }
noncomputable def aU (s : Stmt) : List Stmt := match s with
 | .FunctionDef _ _ b _ _ _ _ _ _ _ => b
 | _ => []
noncomputable def ax (s : Stmt) : Scope := match s with
 | .FunctionDef _ _ _ _ _ _ sc _ _ _ => sc
 | _ => { kind := .function, names := [], isGenerator := false, isCoroutine := false }
noncomputable abbrev CX0 : CXT := fun _ _ _ _ _ _ => False
noncomputable abbrev E0 : XK := fun _ _ _ => False
theorem C8 {X : Cx} : uz CX0 X E0 := fun _ _ _ _ _ _ _ h => h.elim
structure Fun (K : PySem.W.Frag) (x qual : Str) (st : Stmt) (f : Addr) (fd : FuncData) : Prop where
 ex : ∃ (oc : Value) (od : Option Addr) (kV doc pm : Value) (an : Option Addr) (cdv ct : Value) (osl : Array (Option Value)),
  fd = PySem.W.fnOf x qual (ba st) (aU st) (ax st) .none kV doc pm an cdv ct ∧ K.lookup f = some ⟨oc, od, .func fd, osl⟩ ∧ PySem.W.codeIn K cdv qual = true
 kp : PySem.W.keepIn K (.ref f) = true
section
variable {P : Program} {w : World} {K : PySem.W.Frag} {mg : Str → Option Value} {base : Heap}
theorem Fun.ok {x qual : Str} {st : Stmt} {f : Addr} {fd : FuncData} {N ps : List Str} {k : Nat} {sp : Sp} (F : Fun K x qual st f fd) (S : aY N ps (ax st)) (len : ∀ vs H Q E, sp vs H Q E → vs.length = ps.length)
  (hbody : ∀ (cdv : Value) (A : Around) (outer : List Env) (s : Shared) (H : Hp) (vs : List V) (Q : VK) (E : XK), kK k (A.deeper (envOfC qual (ax st) s.heap.objs.size f cdv)) → sp vs H Q E →
   ∃ t, PSs (uN CX0 P w K mg base N qual (ax st) f cdv A outer s H E).nox (aU st) t ∧ t { nx := fun _ H' => Q .non H', rt := Q } (gT N vs) H) : qF P w K mg base CX0 (k + 1) f fd ps sp := by
 obtain ⟨oc, od, kV, doc, pm, an, cdv, ct, osl, rfl, lk, hcd⟩ := F.ex
 refine DI lk hcd S len fun A outer s H vs Q E hr hsp => ?_
 obtain ⟨t, h, q⟩ := hbody cdv A outer s H vs Q E hr hsp
 exact ⟨t, h.nox, q⟩
theorem Fun.binds {x qual : Str} {st : Stmt} {f : Addr} {fd : FuncData} {ps : List Str} (F : Fun K x qual st f fd)
  (h : ∀ (kV doc pm : Value) (an : Option Addr) (cdv ct : Value) (us : List Value), us.length = ps.length → bindArgs (PySem.W.fnOf x qual (ba st) (aU st) (ax st) .none kV doc pm an cdv ct) ⟨us, []⟩ = pure (ps.zip us)) : pD K fd ps [] := by
 obtain ⟨oc, od, kV, doc, pm, an, cdv, ct, osl, rfl, lk, hcd⟩ := F.ex
 exact .all (h kV doc pm an cdv ct)
theorem cD {x qual : Str} {st : Stmt} {f : Addr} {oc : Value} {od an : Option Addr} {osl : Array (Option Value)} {kV doc pm cdv ct : Value} (l : K.lookup f = some ⟨oc, od, .func (PySem.W.fnOf x qual (ba st) (aU st) (ax st) .none kV doc pm an cdv ct), osl⟩)
  (c : PySem.W.codeIn K cdv qual = true) (k : PySem.W.keepIn K (.ref f) = true) : Fun K x qual st f (PySem.W.fnOf x qual (ba st) (aU st) (ax st) .none kV doc pm an cdv ct) := ⟨⟨oc, od, kV, doc, pm, an, cdv, ct, osl, rfl, l, c⟩, k⟩
end
theorem eJ {A : Around} {k : Nat} (hr : kK k A) : A.units + 1 < cLine := Nat.lt_of_le_of_lt (Nat.add_le_add_left (by decide : 1 ≤ 64) _) hr.units
theorem sm {n : Nat} (h : n ≤ 1000) : n < sizeLine := Nat.lt_of_le_of_lt h (by decide)
section
variable {X : Cx}
theorem pv (i : Nat) {x : Str} {pos : Pos} (hN : X.N[i]? = some x := by rfl) (hv : Vis X.env.scope x := by first | exact Or.inl rfl | exact Or.inr (Or.inl rfl) | exact Or.inr (Or.inr rfl)) (hd : (x == ("__debug__" : Str)) = false := by decide)
  (hcd : (x == ("__classdict__" : Str)) = false := by decide) : PE X (.Name x pos) (By i) := Au hN hv hd hcd
theorem uh : eQ X (.builtin "len") (fun xs H Q => ∃ a kvs, xs = [V.ref a] ∧ H a = some (.dK kvs) ∧ Q (.int kvs.length) H) := by
 intro pins s σ H xs us Q I r h
 obtain ⟨a, kvs, rfl, ha, q⟩ := h
 obtain ⟨u, rfl, ru⟩ := ll r
 cases ru
 exact DN I (.inl ha) fun t s' I' => ⟨.int kvs.length, H, I', ⟨t, rfl⟩, q⟩
end
theorem A7 {A B : Prop} (h : B) : if false = true then A else B := by
 rw [if_neg Bool.false_ne_true]
 exact h
theorem A6 {A B : Prop} (h : A) : if true = true then A else B := by
 rw [if_pos rfl]
 exact h
noncomputable def o7 (H H' : Hp) : Prop := ∀ b o, H b = some o → H' b = some o
theorem o7.refl (H : Hp) : o7 H H := fun _ _ h => h
theorem o7.trans {H H1 H2 : Hp} (a : o7 H H1) (b : o7 H1 H2) : o7 H H2 := fun c o h => b c o (a c o h)
theorem o7.free {H H' : Hp} (e : o7 H H') {l : Addr} (h : H' l = Option.none) : H l = Option.none := by
 cases q : H l with
 | none => rfl
 | some o =>
  rw [e l o q] at h
  cases h
end L2
namespace OG
open PySem PySem.Spec PyProof.Rows L2
structure WE (X : Cx) (e : Expr) (t : TE) : Prop where
 h : PE X e t
structure WT (X : Cx) (e : Expr) (t : TT) : Prop where
 h : PT X e t
structure WW (X : Cx) (e : Expr) (t : TT) : Prop where
 h : PW X e t
structure WA (X : Cx) (es : List Expr) (t : TA) : Prop where
 h : PA X es t
structure WS (X : Cx) (st : Stmt) (t : TS) : Prop where
 h : PS X st t
structure WSs (X : Cx) (st : List Stmt) (t : TS) : Prop where
 h : PSs X st t
structure WI (X : Cx) (tg iter : Expr) (wi : TI) : Prop where
 h : PI X tg iter wi
structure WG (X : Cx) (target : Expr) (t : TG) : Prop where
 h : PG X target t
structure WGs (X : Cx) (ts : List Expr) (t : TGs) : Prop where
 h : PGs X ts t
structure WC (X : Cx) (op : CmpOp) (a b : Expr) (t : TE) : Prop where
 h : PC X op a b t
structure WO (X : Cx) (e : Option Expr) (t : TO) : Prop where
 h : PO X e t
section
variable {X : Cx}
theorem af {i j pos} : WE X (.Constant (.int i) j pos) (tC (.int i)) := ⟨AB ⟩
end
section
variable {X : Cx}
theorem dh {b j pos} : WE X (.Constant (.bool b) j pos) (tC (.bl b)) := ⟨C7 ⟩
end
section
variable {X : Cx}
theorem fB {j pos} : WE X (.Constant .none j pos) (tC .non) := ⟨Az ⟩
end
section
variable {X : Cx}
theorem aA {x j pos} : WE X (.Constant (.str x) j pos) (tC (.str x)) := ⟨Aw ⟩
end
section
variable {X : Cx}
variable {a b : Expr} {ta tb : TE} {pos : Pos}
theorem xK {op : CmpOp} {t : TE} (h : WC X op a b t) (h1 : behindInMarks op b = false := by first | exact nobehind _ (by decide) (by decide) | rfl) : WE X (.Compare a [op] [b] pos) t := ⟨AD h.h h1⟩
end
section
variable {X : Cx}
variable {a b : Expr} {ta tb : TE} {pos : Pos}
theorem xC {op : CmpOp} {t : TE} (h : WC X op a b t) (h1 : behindInMarks op b = false := by first | exact nobehind _ (by decide) (by decide) | rfl) : WT X (.Compare a [op] [b] pos) (tB t) := ⟨Ak h.h h1⟩
end
section
variable {X : Cx}
variable {a b : Expr} {ta tb : TE} {pos : Pos}
theorem xA {e : Expr} {t : TE} (h : WE X e t) (he : ∀ whole, isTrue e X.env whole = (do let v ← whole; standAt e.pos; holding [v] (truthy v)) := by intro _; rfl) : WT X e (tB t) := ⟨Ai h.h he⟩
end
section
variable {X : Cx}
variable {a b : Expr} {ta tb : TE} {pos : Pos}
variable {tA tB' : TT} {rest : List Expr}
theorem u0 (ha : WT X a tA) : WW X (.BoolOp .And [a] pos) tA := ⟨xV ha.h⟩
end
section
variable {X : Cx}
variable {a b : Expr} {ta tb : TE} {pos : Pos}
variable {tA tB' : TT} {rest : List Expr}
theorem xx (ha : WT X a tA) : WW X (.BoolOp .Or [a] pos) tA := ⟨Ag ha.h⟩
end
section
variable {X : Cx}
variable {a b : Expr} {ta tb : TE} {pos : Pos}
variable {tA tB' : TT} {rest : List Expr}
theorem xy (ha : WT X a tA) (hb : WW X (.BoolOp .And (b :: rest) pos) tB') : WW X (.BoolOp .And (a :: b :: rest) pos) (D8 tA tB') := ⟨Ah ha.h hb.h⟩
end
section
variable {X : Cx}
variable {a b : Expr} {ta tb : TE} {pos : Pos}
variable {tA tB' : TT} {rest : List Expr}
theorem zH (ha : WT X a tA) (hb : WW X (.BoolOp .Or (b :: rest) pos) tB') : WW X (.BoolOp .Or (a :: b :: rest) pos) (tOr tA tB') := ⟨C0 ha.h hb.h⟩
end
section
variable {X : Cx}
variable {a b : Expr} {ta tb : TE} {pos : Pos}
variable {tA tB' : TT} {rest : List Expr}
theorem xB (ha : WT X a tA) : WT X (.UnaryOp .Not a pos) (D3 tA) := ⟨Aj ha.h⟩
end
section
variable {X : Cx}
variable {a b : Expr} {ta tb : TE} {pos : Pos}
variable {tA tB' : TT} {rest : List Expr}
theorem xI {op} {t : TE} (h : WE X a t) : WE X (.BoolOp op [a] pos) t := ⟨Ax h.h⟩
end
section
variable {X : Cx}
variable {a b : Expr} {ta tb : TE} {pos : Pos}
variable {tA tB' : TT} {rest : List Expr}
theorem xN (ha : WE X a ta) (hb : WE X (.BoolOp .And (b :: rest) pos) tb) : WE X (.BoolOp .And (a :: b :: rest) pos) (zX ta tb) := ⟨AF ha.h hb.h⟩
end
section
variable {X : Cx}
variable {a b : Expr} {ta tb : TE} {pos : Pos}
variable {tA tB' : TT} {rest : List Expr}
theorem xJ (ha : WE X a ta) : WE X (.UnaryOp .Not a pos) (zQ ta) := ⟨Ay ha.h⟩
end
section
variable {X : Cx} {st : Stmt} {rest : List Stmt} {t u : TS} {e : Expr} {te : TE} {pos : Pos}
theorem u5  : WSs X [] zR := ⟨xY ⟩
end
section
variable {X : Cx} {st : Stmt} {rest : List Stmt} {t u : TS} {e : Expr} {te : TE} {pos : Pos}
theorem mZ (h1 : WS X st t) (h2 : WSs X rest u) : WSs X (st :: rest) (D1 t u) := ⟨vv h1.h h2.h⟩
end
section
variable {X : Cx} {st : Stmt} {rest : List Stmt} {t u : TS} {e : Expr} {te : TE} {pos : Pos}
theorem pJ (h1 : WS X st t) : WSs X [st] t := ⟨xX h1.h⟩
end
section
variable {X : Cx} {st : Stmt} {rest : List Stmt} {t u : TS} {e : Expr} {te : TE} {pos : Pos}
theorem u6 (he : WE X e te) (hs : swapsWith e none pos.line X.env = pure false := by rfl) : WS X (.Expr e pos) (zS te) := ⟨xZ he.h hs⟩
end
section
variable {X : Cx} {st : Stmt} {rest : List Stmt} {t u : TS} {e : Expr} {te : TE} {pos : Pos}
theorem rR (he : WE X e te) : WS X (.Return (some e) pos) (D2 te) := ⟨An he.h⟩
end
section
variable {X : Cx} {st : Stmt} {rest : List Stmt} {t u : TS} {e : Expr} {te : TE} {pos : Pos}
theorem zI {c : Expr} {a b : List Stmt} {tc : TT} (hc : WT X c tc) (ha : WSs X a t) (hb : WSs X b u) : WS X (.If c a b pos) (D6 tc t u) := ⟨C1 hc.h ha.h hb.h⟩
end
section
variable {X : Cx} {pos : Pos}
theorem cf {i : Nat} {x : Str} (hN : X.N.Nodup) (hi : X.N[i]? = some x) (hx : Loc X.env.scope x) (hf : X.fn x = true ∨ X.env.scope.names.lookup x = some .local := by first | exact .inl rfl | exact .inr rfl | assumption) : WG X (.Name x pos) (qX i) := ⟨yb hN hi hx hf⟩
end
section
variable {X : Cx} {pos : Pos}
theorem va  : WGs X [] Er := ⟨ya ⟩
end
section
variable {X : Cx} {pos : Pos}
theorem rV {e : Expr} {es : List Expr} {t : TG} {u : TGs} (h1 : WG X e t) (h2 : WGs X es u) (hs : (assignEach (e :: es) X.env).map (·.2) = assign e X.env :: (assignEach es X.env).map (·.2) := by rfl) : WGs X (e :: es) (Be t u) := ⟨vy h1.h h2.h hs⟩
end
section
variable {X : Cx} {pos : Pos}
theorem xF {es : List Expr} {k : Nat} {t : TGs} {n : Nat} (hc : X.calm = true) (h : WGs X es t) (hn : (assignEach es X.env).length = n := by rfl) (hst : (assignEach es X.env).findIdx? (·.1) = none := by rfl) : WG X (.Tuple es k pos) (Eo X.K n t) := ⟨Ar hc h.h hn hst⟩
end
section
variable {X : Cx} {pos : Pos}
theorem xG {o i : Expr} {to ti : TE} {t : BM} (ho : WE X o to) (hi : WE X i ti) (hs : DV X t) (ha : ∀ v, assign (.Subscript o i pos) X.env v = (do
   let ov ← holding [v] (eval o X.env)
   let iv ← holding [v, ov] (eval i X.env)
   standAt pos
   holding [v, ov, iv] (setItem ov iv v)
   release [v, ov, iv] []) := by intro _; rfl) : WG X (.Subscript o i pos) (Ep to ti t) := ⟨As ho.h hi.h hs ha⟩
end
section
variable {X : Cx} {pos : Pos}
theorem rS {tg e : Expr} {te : TE} {g : TG} (he : WE X e te) (hg : WG X tg g) (hs : swapsWithSole [tg] e pos.line X.env = pure false := by rfl) (hw : swappedStores [tg] e X.env = pure none := by rfl) (h1 : (assignEach [tg] X.env).map (·.2) = [assign tg X.env] := by rfl) : WS X (.Assign [tg] e pos) (zW te g) := ⟨Ap he.h hg.h hs hw h1⟩
end
section
variable {X : Cx} {pos : Pos}
theorem rQ {i : Nat} {x : Str} {e : Expr} {te : TE} {pos' : Pos} (hN : X.N.Nodup) (hi : X.N[i]? = some x) (hx : Loc X.env.scope x) (he : WE X e te) (hs : swapsWith e (some (.Name x pos')) pos.line X.env = pure false := by rfl) (hf : X.fn x = true ∨ X.env.scope.names.lookup x = some .local := by first | exact .inl rfl | exact .inr rfl | assumption) : WS X (.Assign [.Name x pos'] e pos) (zW te (qX i)) := ⟨Am hN hi hx he.h hs hf⟩
end
section
variable {X : Cx} {tg : Expr}
theorem u9 {l : Expr} {tl : TE} (hl : WE X l tl) : WI X tg l (Bd X.K tl) := ⟨x8 hl.h⟩
end
section
variable {X : Cx} {tg : Expr}
theorem xE {l : Expr} {tl : TE} (hl : WE X l tl) : WI X tg l (En X.K tl) := ⟨Aq hl.h⟩
end
section
variable {X : Cx} {tg : Expr}
theorem qL {a : Expr} {ta : TA} {p pos : Pos} (hg : Gl X "range") (hm : X.mg "range" = none) (ha : WA X [a] ta) (hs : starEach [a] X.env = [(false, eval a X.env)] := by rfl) : WI X tg (.Call (.Name "range" p) [a] [] pos) (Bc ta) := ⟨sP hg hm ha.h hs⟩
end
section
variable {X : Cx} {tg : Expr}
theorem qK {a b : Expr} {ta : TA} {p pos : Pos} (hg : Gl X "range") (hm : X.mg "range" = none) (ha : WA X [a, b] ta) (hs : starEach [a, b] X.env = [(false, eval a X.env), (false, eval b X.env)] := by rfl) (hs2 : starEach [b] X.env = [(false, eval b X.env)] := by rfl) : WI X tg (.Call (.Name "range" p) [a, b] [] pos) (Bb ta) := ⟨sO hg hm ha.h hs hs2⟩
end
section
variable {X : Cx} {tg : Expr}
theorem xD {iter : Expr} {body : List Stmt} {wi : TI} {g : TG} {tb : TS} {pos : Pos} (hp : PassesOwn (model X.prog X.w) X.A X.env X.xe) (hc : X.calm = true) (hi : WI X tg iter wi) (hg : WG X tg g) (hb : WSs X body tb) (hs : ∀ x, foldedSetIterable iter X.env x = pure x := by intro _; rfl) : WS X (.For tg iter body [] pos) (CP wi g tb) := ⟨Ao hp hc hi.h hg.h hb.h hs⟩
end
section
variable {X : Cx} {a b c : Expr} {ta tb tc : TE} {pos : Pos}
theorem zK {op : Operator} {r : R2} (ho : OpR X (binaryOp op) r) (ha : WE X a ta) (hb : WE X b tb) : WE X (.BinOp a op b pos) (tOp r ta tb) := ⟨C4 ho ha.h hb.h⟩
end
section
variable {X : Cx} {a b c : Expr} {ta tb tc : TE} {pos : Pos}
theorem zJ {op : UnaryOp} {r : V → Hp → VK → Prop} (ho : UnR X (unaryOp op) r) (ha : WE X a ta) : WE X (.UnaryOp op a pos) (tUn r ta) := ⟨C3 ho ha.h⟩
end
section
variable {X : Cx} {a b c : Expr} {ta tb tc : TE} {pos : Pos}
theorem pM {op : CmpOp} {r : R2} (ho : OpR X (compareOp op) r) (ha : WE X a ta) (hb : WE X b tb) (hm : behindInMarks op b = false) : WE X (.Compare a [op] [b] pos) (tOp r ta tb) := ⟨yd ho ha.h hb.h hm⟩
end
section
variable {X : Cx} {a b c : Expr} {ta tb tc : TE} {pos : Pos}
theorem pI {op : CmpOp} {r : R2} (ho : OpR X (compareOp op) r) (ha : WE X a ta) (hb : WE X b tb) (hm : behindInMarks op b = false) : WT X (.Compare a [op] [b] pos) (zO (tOp r ta tb)) := ⟨xW ho ha.h hb.h hm⟩
end
section
variable {X : Cx} {a b c : Expr} {ta tb tc : TE} {pos : Pos}
theorem rX {op op' : CmpOp} {r r' : R2} (ho : OpR X (compareOp op) r) (ho' : OpR X (compareOp op') r') (ha : WE X a ta) (hb : WE X b tb) (hc : WE X c tc) (hm : lastMarks [op, op'] [b, c] = false := by with_unfolding_all rfl) : WE X (.Compare a [op, op'] [b, c] pos) (sh r r' ta tb tc) := ⟨vA ho ho' ha.h hb.h hc.h hm⟩
end
section
variable {X : Cx} {e : Expr} {es : List Expr} {te : TE} {t : TA} {pos : Pos}
theorem ib  : WA X [] D4 := ⟨AG ⟩
end
section
variable {X : Cx} {e : Expr} {es : List Expr} {te : TE} {t : TA} {pos : Pos}
theorem d8 (ha : WE X e te) (hr : WA X es t) (hs : starEach (e :: es) X.env = (false, eval e X.env) :: starEach es X.env := by rfl) : WA X (e :: es) (zU te t) := ⟨yg ha.h hr.h hs⟩
end
section
variable {X : Cx} {e : Expr} {es : List Expr} {te : TE} {t : TA} {pos : Pos}
theorem xH {x1} (h : WA X es t) : WE X (.Tuple es x1 pos) (D0 t) := ⟨Av h.h⟩
end
section
variable {X : Cx} {e : Expr} {es : List Expr} {te : TE} {t : TA} {pos : Pos}
theorem rW (h : WA X es t) : WE X (.List es pos) (D5 t) := ⟨AA h.h⟩
end
section
variable {X : Cx} {x : Str} {p pos : Pos} {e : Expr} {es : List Expr} {t : TA} {id T : String} {r : List V → Hp → VK → Prop}
theorem m7 (hc : eQ X (.builtin id) r) (hg : Gl X x) (hm : X.mg x = none) (hv : bootBuiltins x = some (.builtin id)) (ha : WA X (e :: es) t) (hn : x ≠ "__name__" := by decide) (hdb : (x == ("__debug__" : Str)) = false := by decide) (he : starEach (e :: es) X.env = (false, eval e X.env) :: starEach es X.env := by rfl) (hpl : (backTo pos (starEach es X.env)).any (·.1) = false := by rfl) : WE X (.Call (.Name x p) (e :: es) [] pos) (tCB r t) := ⟨vB hc hg hm hv ha.h hn hdb he hpl⟩
end
section
variable {X : Cx} {x : Str} {p pos : Pos} {e : Expr} {es : List Expr} {t : TA} {id T : String} {r : List V → Hp → VK → Prop}
theorem lL (hc : eQ X (.type T) r) (hg : Gl X x) (hm : X.mg x = none) (hv : bootBuiltins x = some (.type T)) (ha : WA X (e :: es) t) (hn : x ≠ "__name__" := by decide) (hdb : (x == ("__debug__" : Str)) = false := by decide) (he : starEach (e :: es) X.env = (false, eval e X.env) :: starEach es X.env := by rfl) (hpl : (backTo pos (starEach es X.env)).any (·.1) = false := by rfl) : WE X (.Call (.Name x p) (e :: es) [] pos) (tCB r t) := ⟨sR hc hg hm hv ha.h hn hdb he hpl⟩
end
section
variable {X : Cx} {e : Expr} {te : TE} {lo hi : Option Expr} {tl th : TO} {pos p2 : Pos}
theorem pL  : WO X none sg := ⟨x6 ⟩
end
section
variable {X : Cx} {e : Expr} {te : TE} {lo hi : Option Expr} {tl th : TO} {pos p2 : Pos}
theorem pK (h : WE X e te) : WO X (some e) (zP te) := ⟨x5 h.h⟩
end
section
variable {X : Cx} {e : Expr} {te : TE} {lo hi : Option Expr} {tl th : TO} {pos p2 : Pos}
theorem m6 {r : V → Option Int → Option Int → Hp → VK → Prop} (hr : SlR X r) (he : WE X e te) (hl : WO X lo tl) (hu : WO X hi th) : WE X (.Subscript e (.Slice lo hi none p2) pos) (tSl r te tl th) := ⟨vz hr he.h hl.h hu.h⟩
end
section
variable {X : Cx} {a b : Expr} {ta tb : TE} {pos : Pos}
theorem zL {r : R2} (hr : IxR X r) (ha : WE X a ta) (hb : WE X b tb) (hs : o8 b) : WE X (.Subscript a b pos) (tOp r ta tb) := ⟨C5 hr ha.h hb.h hs⟩
end
section
variable {X : Cx} {a b : Expr} {ta tb : TE} {pos : Pos}
variable {o e : Expr} {es : List Expr} {to : TE} {t : TA} {name : Str} {apos cpos : Pos} {T id : String} {r : V → List V → Hp → VK → Prop}
theorem xM (pa : PlainAttrs T) (slot : Slot T name id) (hty : typeOf (.builtin id) = pure (.type "method_descriptor")) (hm : MtR X id r) (ho : WE X o to) (hbase : attributeBase o name X.env (eval o X.env) = eval o X.env := by rfl) (hline : (apos.endLine == cpos.line) = true := by rfl) : WE X (.Call (.Attribute o name apos) [] [] cpos) (D7 X.K T r to) := ⟨AE pa slot hty hm ho.h hbase hline⟩
end
section
variable {X : Cx} {a b : Expr} {ta tb : TE} {pos : Pos}
variable {o e : Expr} {es : List Expr} {to : TE} {t : TA} {name : Str} {apos cpos : Pos} {T id : String} {r : V → List V → Hp → VK → Prop}
theorem zM (pa : PlainAttrs T) (slot : Slot T name id) (hty : typeOf (.builtin id) = pure (.type "method_descriptor")) (hm : MtR X id r) (ho : WE X o to) (ha : WA X (e :: es) t) (hbase : attributeBase o name X.env (eval o X.env) = eval o X.env := by rfl) (hfew : ((backTo cpos (starEach (e :: es) X.env)).all (fun x => !x.1) && (backToKw cpos (keywordEach [] X.env)).all (fun x => x.1.isSome)
   && decide ((e :: es).length + ([] : List Keyword).length + (if ([] : List Keyword).isEmpty then 0 else 1) < 30)) = true := by rfl) (hline : (apos.endLine == cpos.line) = true := by rfl) (hs : starEach (e :: es) X.env = (false, eval e X.env) :: starEach es X.env := by rfl) (hplain : (backTo cpos (starEach es X.env)).any (·.1) = false := by rfl) : WE X (.Call (.Attribute o name apos) (e :: es) [] cpos) (tBM X.K T r to t) := ⟨C6 pa slot hty hm ho.h ha.h hbase hfew hline hs hplain⟩
end
section
variable {X : Cx} {o i e value : Expr} {pos pos' tpos : Pos} {td ty tv : TE}
theorem vc (hu : X.A.units + 1 < cLine) (ho : WE X o td) (hi : WE X i ty) (hs : BN i) : WE X (.Subscript o i pos) (zT td ty) := ⟨yc hu ho.h hi.h hs⟩
end
section
variable {X : Cx} {o i e value : Expr} {pos pos' tpos : Pos} {td ty tv : TE}
theorem lM (hu : X.A.units + 1 < cLine) (hi : WE X i ty) (ho : WE X o td) : WC X .NotIn i o (ml ty td) := ⟨sS hu hi.h ho.h⟩
end
section
variable {X : Cx} {o i e value : Expr} {pos pos' tpos : Pos} {td ty tv : TE}
theorem u7 (hu : X.A.units + 1 < cLine) (ho : WE X o td) (hi : WE X i ty) (hv : WE X value tv) (hs : swapsWith value (some (.Subscript o i pos')) pos.line X.env = pure false) : WS X (.Assign [.Subscript o i pos'] value pos) (z9 td ty tv) := ⟨x4 hu ho.h hi.h hv.h hs⟩
end
section
variable {X : Cx}
theorem wpv (i : Nat) {x : Str} {pos : Pos} (hN : X.N[i]? = some x := by rfl) (hv : Vis X.env.scope x := by first | exact Or.inl rfl | exact Or.inr (Or.inl rfl) | exact Or.inr (Or.inr rfl)) (hd : (x == ("__debug__" : Str)) = false := by decide) (hcd : (x == ("__classdict__" : Str)) = false := by decide) : WE X (.Name x pos) (By i) := ⟨pv i hN hv hd hcd⟩
end
theorem WW.pt {X : Cx} {e : Expr} {t : TT} (h : WW X e t) : WT X e t := ⟨h.h.pt⟩
section
variable {X : Cx} {a b c e : Expr} {ta tb tc : TE} {pos : Pos}
noncomputable def rC (i j : Int) : Prop := 0 < j ∧ j.natAbs.log2 < 9000
theorem my : OpR X (binaryOp .FloorDiv) (rI rC fun i j => .int (i / j)) := opI fun i j _ _ _ _ _ hc q => by
 refine PyProof.Rows.floordiv_int (by have := hc.1; omega) ?_ (.inl (PyProof.noPylong_of_log2 hc.2))
 rw [Int.fdiv_eq_ediv_of_nonneg i (Int.le_of_lt hc.1)]
 exact q
theorem oH : OpR X (compareOp .IsNot) (fun x y H Q => ∃ k l, x = .bl k ∧ y = .bl l ∧ Q (.bl (k != l)) H) := by
 rintro pins s σ H x y v u Q I rx ry ⟨k, l, rfl, rfl, q⟩
 cases rx; cases ry
 exact PyProof.Rows.isnot_bool ⟨.bl (k != l), H, I, rfl, q⟩
theorem oX : eQ X (.builtin "isinstance") (fun xs H Q => ∃ (x : V) (T : String) (t : Value) (k : Bool), xs = [x, .ty T] ∧ qy X.K H x t ∧ PySem.W.kitOne X.K t (.type T) = some k ∧ Q (.bl k) H) := by
 rintro pins s σ H xs us Q I r ⟨x, T, t, k, rfl, ty, e, q⟩
 obtain ⟨u, w', rfl, ru, rw'⟩ := vf r
 cases rw'
 exact tH I ru ty e fun tk => ⟨.bl k, H, I.tok tk, rfl, q⟩
end
theorem dy {H : Hp} {p : Addr} (h : H p = none) (o : HO) : o7 H (upd H p o) := fun b u q => by rw [cy (cM q h)]; exact q
noncomputable def Def (K : PySem.W.Frag) (mg : Str → Option Value) (x : Str) (st : Stmt) (ps : List Str) : Prop :=
 ∃ f fd, Fun K x x st f fd ∧ pD K fd ps [] ∧ mg x = some (.ref f)
noncomputable def Has (P : Program) (w : World) (K : PySem.W.Frag) (mg : Str → Option Value) (base : Heap) (x : Str) (k : Nat) (ps : List Str) (sp : Sp) : Prop :=
 ∃ f fd, qF P w K mg base CX0 k f fd ps sp ∧ pD K fd ps [] ∧ PySem.W.keepIn K (.ref f) = true ∧ mg x = some (.ref f)
section
variable {P : Program} {w : World} {K : PySem.W.Frag} {mg : Str → Option Value} {base : Heap} {x : Str} {st : Stmt} {ps N : List Str} {k j : Nat} {sp sp' : Sp}
theorem Has.mono (h : Has P w K mg base x j ps sp) (l : j ≤ k) : Has P w K mg base x k ps sp := by
 obtain ⟨f, fd, a, b, c, d⟩ := h
 exact ⟨f, fd, a.mono l, b, c, d⟩
theorem Def.has (d : Def K mg x st ps) (S : aY N ps (ax st)) (len : ∀ vs H Q E, sp vs H Q E → vs.length = ps.length)
  (hbody : ∀ (f : Addr) (cdv : Value) (A : Around) (outer : List Env) (s : Shared) (H : Hp) (vs : List V) (Q : VK) (E : XK), kK k (A.deeper (envOfC x (ax st) s.heap.objs.size f cdv)) → sp vs H Q E →
   ∃ t, WSs (uN CX0 P w K mg base N x (ax st) f cdv A outer s H E).nox (aU st) t ∧ t { nx := fun _ H' => Q .non H', rt := Q } (gT N vs) H) : Has P w K mg base x (k + 1) ps sp := by
 obtain ⟨f, fd, F, b, m⟩ := d
 exact ⟨f, fd, F.ok S len (fun cdv A outer s H vs Q E hr h => let ⟨t, a, b⟩ := hbody f cdv A outer s H vs Q E hr h; ⟨t, a.h, b⟩), b, F.kp, m⟩
theorem Def.none (d : Def K mg x st ps) (no : ∀ vs H Q E, ¬ sp vs H Q E) : Has P w K mg base x k ps sp := by
 obtain ⟨f, fd, F, b, m⟩ := d
 exact ⟨f, fd, ⟨fun vs H Q E h => absurd h (no vs H Q E), fun A outer s H args us vs Q E _ _ _ _ h => absurd h (no vs H Q E)⟩, b, F.kp, m⟩
end
theorem wC {X : Cx} {k : Nat} {ps : List Str} {sp : Sp} {x : Str} {p pos : Pos} {e : Expr} {es : List Expr} {t : TA} (F : Has X.prog X.w X.K X.mg X.base x k ps sp) (hr : kK k X.A) (hg : Gl X x)
  (ha : WA X (e :: es) t) (hdb : (x == ("__debug__" : Str)) = false := by decide) (he : starEach (e :: es) X.env = (false, eval e X.env) :: starEach es X.env := by rfl) (hpl : (backTo pos (starEach es X.env)).any (·.1) = false := by rfl) :
  WE X (.Call (.Name x p) (e :: es) [] pos) (zV sp [] E0 t) := by
 obtain ⟨f, fd, a, b, c, d⟩ := F
 exact ⟨ye a hr hg d c b .nil C8 ha.h hdb he hpl⟩
structure Blt (mg : Str → Option Value) : Prop where
 len : mg "len" = none
 isinstance : mg "isinstance" = none
 int : mg "int" = none
 bool : mg "bool" = none
 str : mg "str" = none
 tuple : mg "tuple" = none
 list : mg "list" = none
 range : mg "range" = none
 min : mg "min" = none
 sum : mg "sum" = none
 all : mg "all" = none
 zip : mg "zip" = none
 sorted : mg "sorted" = none
 dict : mg "dict" = none
 enumerate : mg "enumerate" = none
 any : mg "any" = none
 max : mg "max" = none
 set : mg "set" = none
theorem nk {n : Nat} (h : n ≤ 1000) : n ≤ sizeLine := Nat.le_of_lt (sm h)
theorem qT {n : Nat} (h : n < 2 ^ 60) : n.log2 < 1920 := by
 by_cases e : n = 0
 ·subst e; decide
 ·have := (Nat.log2_lt e).mpr h; omega
theorem vZ (ns : List Int) (lo hi : Option Int) : t9 (ns.map V.int) lo hi = ((ns.drop (HT.sIx (ns.map V.int).length 0 lo)).take (HT.sIx (ns.map V.int).length (ns.map V.int).length hi - HT.sIx (ns.map V.int).length 0 lo)).map V.int := by
 unfold t9
 rw [List.map_take, List.map_drop]
noncomputable def vj (K : PySem.W.Frag) : Sp := fun vs H Q _ => ∃ (a : Addr) (ns : List Int), vs = [.ref a] ∧ SqL K H a (ns.map V.int) ∧ ns.length ≤ 63 ∧ ∀ H', Q (.bl true) H'
theorem jq : bootBuiltins "int" = some (.type "int") := rfl
theorem kJ : bootBuiltins "bool" = some (.type "bool") := rfl
theorem qt : bootBuiltins "str" = some (.type "str") := rfl
theorem fA : bootBuiltins "tuple" = some (.type "tuple") := rfl
theorem hV : bootBuiltins "list" = some (.type "list") := rfl
theorem kI : bootBuiltins "isinstance" = some (.builtin "isinstance") := rfl
theorem wk : bootBuiltins "min" = some (.builtin "min") := rfl
theorem wj : bootBuiltins "sum" = some (.builtin "sum") := rfl
theorem qu : bootBuiltins "all" = some (.builtin "all") := rfl
theorem gL {X : Cx} {x : Str} {T : String} {pos : Pos} (hg : Gl X x) (hm : X.mg x = none) (hv : bootBuiltins x = some (.type T)) (hn : x ≠ "__name__" := by decide) (hd : (x == ("__debug__" : Str)) = false := by decide) : WE X (.Name x pos) (tC (.ty T)) :=
 ⟨yf hg hm hv rfl hn hd⟩
theorem mf {X : Cx} {x : Str} {i : Int} {pos : Pos} (hg : Gl X x) (hm : ∃ t, X.mg x = some (.int i t)) (hd : (x == ("__debug__" : Str)) = false := by decide) : WE X (.Name x pos) (tC (.int i)) := by
 obtain ⟨t, hm⟩ := hm
 exact ⟨sQ hg hm ⟨t, rfl⟩ hd⟩
theorem Bs {α : Type} {xs : List α} {k : Int} {v : α} (h0 : 0 ≤ k) (h : xs[k.toNat]? = some v) : atI xs k = some v := by
 have ek : k = ((k.toNat : Nat) : Int) := by omega
 rw [ek]; exact fO h
theorem Fun.okW {P : Program} {w : World} {K : PySem.W.Frag} {mg : Str → Option Value} {base : Heap} {x qual : Str} {st : Stmt} {f : Addr} {fd : FuncData} {N ps : List Str} {k : Nat} {sp : Sp} (F : Fun K x qual st f fd) (S : aY N ps (ax st)) (len : ∀ vs H Q E, sp vs H Q E → vs.length = ps.length)
  (hbody : ∀ (cdv : Value) (A : Around) (outer : List Env) (s : Shared) (H : Hp) (vs : List V) (Q : VK) (E : XK), kK k (A.deeper (envOfC qual (ax st) s.heap.objs.size f cdv)) → sp vs H Q E →
   ∃ t, WSs (uN CX0 P w K mg base N qual (ax st) f cdv A outer s H E).nox (aU st) t ∧ t { nx := fun _ H' => Q .non H', rt := Q } (gT N vs) H) : qF P w K mg base CX0 (k + 1) f fd ps sp :=
 F.ok S len fun cdv A outer s H vs Q E hr h => let ⟨t, a, b⟩ := hbody cdv A outer s H vs Q E hr h; ⟨t, a.h, b⟩
noncomputable def w6 (env : Env) : List (Str × Addr) → Prop
 | [] => True
 | p :: r => env.cells.lookup p.1 = some p.2 ∧ w6 env r
theorem w6.look {env : Env} : ∀ {cl : List (Str × Addr)} {y : Str} {c : Addr}, w6 env cl → cl.lookup y = some c → env.cells.lookup y = some c
 | [], _, _, _, h => by simp at h
 | (n, d) :: r, y, c, a, h => by
  obtain ⟨a1, a2⟩ := a
  rw [List.lookup_cons] at h
  by_cases e : (y == n) = true
  ·rw [e] at h
   have e' : y = n := by simpa using e
   subst e'
   cases h
   exact a1
  ·have e' : (y == n) = false := by simpa using e
   rw [e'] at h
   exact w6.look a2 h
noncomputable abbrev cxC (X : Cx) (Nc : List Str) (scope : Scope) (cl : List (Str × Addr)) (s3 : Shared) (H3 : Hp) (fp : List Addr) : Cx where
 prog := X.prog
 w := X.w
 K := X.K
 mg := X.mg
 base := X.base
 A := X.A
 N := Nc
 s₀ := s3
 H₀ := H3
 env := compEnvC scope cl s3.heap.objs.size X.env
 outer := X.stack
 stack := X.stack
 ex := fp
 fn := fun _ => false
 calm := X.calm
 pn := []
 xe := fun _ _ => False
noncomputable def stC (n : Nat) (caps : List Nat) (σ : L2.St) : L2.St := List.replicate n none ++ caps.map fun i => (σ[i]?).getD none
noncomputable def xP (wi : TI) (g : TG) (te : TE) (n : Nat) (caps : List Nat) : TE := fun σ H Q => wi σ H fun J H1 => ∀ l, H1 l = none → ∃ W : Nat → Nat → L2.St → Hp → Prop, (∃ m, W 0 m (stC n caps σ) (upd H1 l (.lst []))) ∧
 ∀ i m σ' H2, W i m σ' H2 → (J.stop i H2 ∧ Q (.ref l) H2) ∨ (J.go i H2 ∧ ∃ N : L2.St → Hp → Prop, (∀ σ'' H', N σ'' H' → ∃ m', m' < m ∧ W (i + 1) m' σ'' H') ∧
  ∀ x H3, J.yld i H2 x H3 → g x σ' H3 fun σ2 H4 => te σ2 H4 fun v H5 => ∃ ys, H5 l = some (.lst ys) ∧ ys.length < sizeLine ∧ N σ2 (upd H5 l (.lst (ys ++ [v]))))
theorem nN {prog : Program} {w : World} {A : Around} {R : Result → Shared → Prop} {s : Shared} {elt target iter : Expr} {scope : Scope} {pos : Pos} {it acc : Value} {env : Env} (I : Nat → Shared → Prop)
  (turn : ∀ n s, I n s → wpAny (model prog w) A (pyNext it) (fun r s₁ => match r with
   | none => R (.ok .next) s₁
   | some v => wpAny (model prog w) A (letOwnedTupleGo target it v) (fun _ s₁' => wpAny (model prog w) A (assign target env v) (fun _ s₂ => wpAny (model prog w) A (eval elt env) (fun x s₃ =>
     wpAny (model prog w) A (call (.builtin "list.append") [acc, x]) (fun _ s₄ => ∃ m, m < n ∧ I m s₄) (fun _ _ => False) s₃)
     (fun _ _ => False) s₂) (fun _ _ => False) s₁') (fun _ _ => False) s₁) (fun _ _ => False) s)
  (n : Nat) (h : I n s) :
  codeAny (model prog w) A (.compLoop (.ListComp elt [⟨target, iter, [], 0⟩] scope pos) 0 it acc env) R s := by
 refine codeAny_loop rfl I (fun n s hI => ?_) n h
 show wpAny _ _ ((compTurn (.ListComp elt [⟨target, iter, [], 0⟩] scope pos) 0 it acc env).onRaise (fun x => do noteFrame x env; theTreesLotGoes x)) _ _ s
 refine wpAny_noted ?_
 rw [compTurn_list1]
 refine wpAny_bind (wpAny_standAt (wpAny_bind (wpAny_mono (turn n s hI) (fun r s₁ h₁ => ?_) fun _ _ h' => h'.elim)))
 cases r with
 | none => exact wpAny_pure h₁
 | some v =>
  refine wpAny_bind (wpAny_mono h₁ (fun _ s₁' h₁' => ?_) fun _ _ h' => h'.elim)
  exact wpAny_bind (wpAny_mono h₁' (fun _ s₂ h₂ => wpAny_bind (wpAny_bind (wpAny_mono h₂ (fun x s₃ h₃ => wpAny_bind (wpAny_mono h₃
   (fun _ s₄ h₄ => wpAny_pure (wpAny_pure ⟨rfl, h₄⟩)) fun _ _ h' => h'.elim)) fun _ _ h' => h'.elim))) fun _ _ h' => h'.elim)
section
variable {X : Cx} {pins : List (Addr × Obj)} {σ : L2.St} {H : Hp} {s : Shared} {Nc capN : List Str} {scope : Scope} {cl : List (Str × Addr)} {fp : List Addr} {n : Nat} {caps : List Nat} {tg iter elt : Expr} {pos : Pos} {wi : TI} {g : TG} {te : TE}
noncomputable def Cap (X : Cx) (scope : Scope) (cl : List (Str × Addr)) (i : Nat) (y : Str) : Prop := X.N[i]? = some y ∧ X.env.scope.names.lookup y = some .cell ∧ (relabel scope X.env).names.lookup y = some .cell ∧ ∃ c, cl.lookup y = some c
theorem Inv.comp {h1 : Heap} {t' : Nat} (I : Inv X pins σ H s) (hc : X.calm = true) (f2 : ∀ b ∈ fp, uQ X pins H b) (fo : ∀ b ∈ fp, b < s.heap.objs.size) (hkind : scope.kind = .function) (hcl : w6 X.env cl)
  (hhas : ((relabel scope X.env).names.all fun p => !(p.2 == .cell || p.2 == .free) || (cl.lookup p.1).isSome) = true)
  (hcap : Paired (Cap X scope cl) caps capN) (tn : List Str) (hN : Nc = tn ++ capN) (hn : tn.length = n)
  (hns : h1.Ns s.heap.objs.size (fun _ => none)) (hk : ∀ b o, s.heap.get? b = some o → h1.get? b = some o) :
  Inv (cxC X Nc scope cl s H fp) [] (stC n caps σ) H { s with heap := h1, toks := t' } := by
 have lkc : ∀ y c, cl.lookup y = some c → X.env.cells.lookup y = some c := fun y c e => hcl.look e
 refine ⟨⟨I.ok.mod, ?_, I.ok.glob, I.ok.blt, Nat.le_refl _, fun x y c a b => I.ok.inj x y c (lkc _ _ a) (lkc _ _ b), fun x hx => ?_, fun x c z => (nomatch z), I.ok.hd, I.ok.frames, .inl rfl, fun b hb => ⟨Nat.ne_of_lt (fo b hb), fun x c e => (f2 b hb).2.2.2.2.1 x c (lkc _ _ e)⟩, I.bs, Nat.le_trans I.ok.bsz I.sz,
  fun b o e hb => ?_, fun b hb z => ?_, I.stack, I.stkFree⟩, rfl, I.bare, Un.kept hk, ⟨_, hns, fun i y v h1' h2 h3 => ?_⟩, fun y c e => ?_, I.hok.fresh (Nat.le_refl _), fun y c e => I.freeC y c (lkc _ _ e), fun p hp => (by simp at hp), I.hok.kept hk, ?_⟩
 ·exact hkind
 ·have hx' : (relabel scope X.env).names.lookup x = some .cell ∨ (relabel scope X.env).names.lookup x = some .free := hx
  have mem : ∀ {k}, (relabel scope X.env).names.lookup x = some k → (x, k) ∈ (relabel scope X.env).names := fun {k} e => by
   generalize (relabel scope X.env).names = L at e
   induction L with
   | nil => simp at e
   | cons p r ih =>
    obtain ⟨a, b⟩ := p
    rw [List.lookup_cons] at e
    by_cases q : (x == a) = true
    ·rw [q] at e; cases e
     have : x = a := by simpa using q
     subst this; exact List.mem_cons_self
    ·rw [show (x == a) = false by simpa using q] at e
     exact List.mem_cons_of_mem _ (ih e)
  have fin : ∀ {k}, (k = NameKind.cell ∨ k = .free) → (relabel scope X.env).names.lookup x = some k → ∃ c, cl.lookup x = some c := fun {k} hk' e => by
   have := List.all_eq_true.mp hhas _ (mem e)
   dsimp only at this
   have q : (cl.lookup x).isSome = true := by
    rcases hk' with z | z <;> subst z <;> simpa using this
   exact Option.isSome_iff_exists.mp q
  rcases hx' with e | e
  ·exact fin (.inl rfl) e
  ·exact fin (.inr rfl) e
 ·rcases (f2 b hb).2.2.2.1 with z | z
  ·exact I.ok.noex b o e z
  ·exact absurd (Nat.lt_of_lt_of_le (Heap.lt_size e) I.ok.bsz) (Nat.not_lt.mpr z)
 ·rcases List.mem_cons.mp (I.stkSub b z) with q | q
  ·exact (f2 b hb).2.1 q
  ·exact (f2 b hb).2.2.1 q
 ·obtain ⟨m, hm, hl⟩ := I.loc
  have h2' : (stC n caps σ)[i]? = some (some v) := h2
  have h1'' : Nc[i]? = some y := h1'
  unfold stC at h2'
  by_cases hi : i < n
  ·rw [List.getElem?_append_left (by simpa using hi), List.getElem?_replicate, if_pos hi] at h2'
   cases h2'
  ·rw [List.getElem?_append_right (by simp; omega), List.length_replicate, List.getElem?_map] at h2'
   rw [hN, List.getElem?_append_right (by omega), hn] at h1''
   have key : ∀ (j : Nat) {caps : List Nat} {capN : List Str}, Paired (Cap X scope cl) caps capN → capN[j]? = some y → (Option.map (fun i => (σ[i]?).getD none) caps[j]?) = some (some v) → ∃ k, Cap X scope cl k y ∧ σ[k]? = some (some v) := by
    intro j
    induction j with
    | zero =>
     intro caps capN P e1 e2
     cases P with
     | nil => simp at e1
     | @cons a b l r p t =>
      simp at e1 e2
      subst e1
      cases q : σ[a]? with
      | none => rw [q] at e2; simp at e2
      | some w' => rw [q] at e2; simp at e2; subst e2; exact ⟨a, p, q⟩
    | succ j ih =>
     intro caps capN P e1 e2
     cases P with
     | nil => simp at e1
     | cons p t => exact ih t (by simpa using e1) (by simpa using e2)
   obtain ⟨k, ⟨c1, c2, c3, c, c4⟩, e⟩ := key _ hcap h1'' h2'
   obtain ⟨u, r, lk⟩ := hl k y v c1 e (.inr (.inl c2))
   refine ⟨u, r, .inr ⟨.inl c3, c, c4, ?_⟩⟩
   rcases lk with ⟨z, _⟩ | ⟨_, c', e', o, ho, hd⟩
   ·have z' : X.env.scope.names.lookup y = some .local := z
    rw [c2] at z'; cases z'
   ·rw [lkc _ _ c4] at e'
    cases e'
    exact ⟨o, hk _ _ ho, hd⟩
 ·obtain ⟨v, o, ho, hd⟩ := I.cell y c (lkc _ _ e)
  exact ⟨v, o, hk _ _ ho, hd⟩
 ·show (stC n caps σ).length = Nc.length
  have pl : caps.length = capN.length := Paired.length hcap
  unfold stC
  rw [List.length_append, List.length_replicate, List.length_map, hN, List.length_append, hn, pl]
end
theorem wa {X : Cx} {Nc capN tn : List Str} {scope : Scope} {cl : List (Str × Addr)} {n : Nat} {caps : List Nat} {tg iter elt : Expr} {pos : Pos} {wi : TI} {g : TG} {te : TE}
  (hc : X.calm = true) (hi : WI X tg iter wi) (hg : ∀ s3 H3 fp, WG (cxC X Nc scope cl s3 H3 fp) tg g) (he : ∀ s3 H3 fp, WE (cxC X Nc scope cl s3 H3 fp) elt te)
  (hclos : closureFor scope X.env = pure cl) (hkind : scope.kind = .function) (hnl : ∀ x ∈ scope.names, x.2 = .local → scope.names.lookup x.1 = some .local) (hcell : ∀ x ∈ scope.names, x.2 ≠ .cell)
  (hcl : w6 X.env cl) (hhas : ((relabel scope X.env).names.all fun p => !(p.2 == .cell || p.2 == .free) || (cl.lookup p.1).isSome) = true)
  (hcap : Paired (Cap X scope cl) caps capN) (hN : Nc = tn ++ capN) (hn : tn.length = n)
  {use : Option (Value → Sem Unit)} {pins : List (Addr × Obj)} {σ : L2.St} {H : Hp} {s : Shared} {Q : VK} {Qf : Value → Shared → Prop} (I : Inv X pins σ H s) (h : xP wi g te n caps σ H Q)
  (hend : ∀ (D C : Addr) (s6 : Shared) (H5 : Hp) (m : Str → Option Value), Inv X pins σ H5 s6 → s6.heap.Ns C m → H5 C = none → C ≠ X.env.locals → X.s₀.heap.objs.size ≤ C → (∀ x c, X.env.cells.lookup x = some c → c ≠ C) → (∀ p ∈ X.pn ++ pins, p.1 ≠ C) → Q (.ref D) H5 → compPost (model X.prog X.w) X.A X.xe use Qf (.ref D) C (.ok .next) s6)
  (hs : ∀ x, foldedSetIterable iter X.env x = pure x) :
  wpAny (model X.prog X.w) X.A (comprehension (.ListComp elt [⟨tg, iter, [], 0⟩] scope pos) scope X.env (firstIterPos [⟨tg, iter, [], 0⟩] pos) (newList []) (firstAsync [⟨tg, iter, [], 0⟩]) (firstIter [⟨tg, iter, [], 0⟩] X.env) use) Qf X.xe s := by
 refine wpAny_comprehension_free (use := use) (g := ⟨tg, iter, [], 0⟩) (gs := []) rfl hs hclos hkind hnl (thn (hi.h pins s σ H _ I h) fun v s1 h1 => thn h1 fun itv s2 h2 => ?_)
 obtain ⟨it, fp, tnn, J, H2, rfl, I2, T, st2, f2, hW⟩ := h2
 have hD := I2.fresh
 obtain ⟨W, ⟨m0, w0⟩, turn⟩ := hW _ hD
 refine wpAny_newObj_type (wpAny_newFunctionEnv hcell (by intro y hy; simp at hy) (fun h₁ hns₁ hsb₁ => ?_) hkind)
 dsimp only at hns₁ hsb₁ ⊢
 have I3 : Inv X pins σ (upd H2 s2.heap.objs.size (.lst [])) { s2 with heap := s2.heap.push { cls := .type "list", dict := none, data := .seq ([] : List Value).toArray }, toks := s2.toks } := I2.lnew (its := []) .nil (Nat.zero_le _)
 generalize hs3 : ({ s2 with heap := s2.heap.push { cls := .type "list", dict := none, data := .seq ([] : List Value).toArray }, toks := s2.toks } : Shared) = s3 at I3
 have es3 : s3.heap = s2.heap.push { cls := .type "list", dict := none, data := .seq ([] : List Value).toArray } := by rw [← hs3]
 generalize hDD : s2.heap.objs.size = D at *
 have kept : ∀ b o, s3.heap.get? b = some o → h₁.get? b = some o := fun b o e => by
  have lt := Heap.lt_size e
  rw [es3] at lt e
  exact hsb₁.extBut b o (Nat.ne_of_lt lt) (Heap.get?_push_of_some _ e)
 have old : ∀ b o, s2.heap.get? b = some o → s3.heap.get? b = some o := fun b o e => by rw [es3]; exact Heap.get?_push_of_some _ e
 have ltD : ∀ b ∈ fp, b < D := fun b hb => by
  obtain ⟨o, e, _⟩ := T.obj 0 _ st2 b hb
  rw [← hDD]; exact Heap.lt_size e
 have fo : ∀ b ∈ fp, b < s3.heap.objs.size := fun b hb => by
  obtain ⟨o, e, _⟩ := T.obj 0 _ st2 b hb
  exact Heap.lt_size (old _ _ e)
 have f3 : ∀ b ∈ fp, uQ X pins (upd H2 D (.lst [])) b := fun b hb => by
  refine ⟨?_, (f2 b hb).2⟩
  rw [cy (Nat.ne_of_lt (ltD b hb))]
  exact (f2 b hb).1
 rw [← es3] at hns₁ hsb₁ ⊢
 have Ic := fun t' => Inv.comp (h1 := h₁) (t' := t') (Nc := Nc) (n := n) I3 hc f3 fo hkind hcl hhas hcap tn hN hn hns₁ kept
 have stat : ∀ {H' : Hp}, (∀ b ∈ fp, H' b = none) → ∀ b ∈ fp, uQ (cxC X Nc scope cl s3 (upd H2 D (.lst [])) fp) [] H' b := fun hn' b hb => by
  refine ⟨hn' b hb, Nat.ne_of_lt (fo b hb), fun z => ?_, .inl hb, fun x c e => (f2 b hb).2.2.2.2.1 x c (hcl.look e), fun p hp => (by simp at hp)⟩
  rcases List.mem_cons.mp (I3.stkSub b z) with q | q
  ·exact (f2 b hb).2.1 q
  ·exact (f2 b hb).2.2.1 q
 have loop : ∀ s4 : Shared, (∃ t', s4 = { s3 with heap := h₁, toks := t' }) → codeAny (model X.prog X.w) X.A (.compLoop (.ListComp elt [⟨tg, iter, [], 0⟩] scope pos) 0 (.ref it) (.ref D) (compEnvC scope cl s3.heap.objs.size X.env))
   (compPost (model X.prog X.w) X.A X.xe use Qf (.ref D) s3.heap.objs.size) s4 := by
  rintro s4 ⟨t', rfl⟩
  refine nN (fun n' s' => ∃ i σ' H', Inv (cxC X Nc scope cl s3 (upd H2 D (.lst [])) fp) [] σ' H' s' ∧ tnn i s'.heap ∧ (∀ b ∈ fp, H' b = none) ∧ W i n' σ' H') ?_ m0
   ⟨0, _, _, Ic t', T.keep 0 _ _ st2 fun b hb o e => kept _ _ (old _ _ e), fun b hb => (f3 b hb).1, w0⟩
  rintro n' s5 ⟨i, σ5, H5, I5, st5, fr5, w5⟩
  rcases turn i n' σ5 H5 w5 with ⟨stop, qn⟩ | ⟨go, N, hN', step⟩
  ·refine thn (T.done (cxC X Nc scope cl s3 (upd H2 D (.lst [])) fp) rfl rfl rfl hc i [] s5 σ5 H5 (fun _ _ => False) I5 (stat fr5) st5 stop) fun r s6 ⟨hr, I6⟩ => ?_
   subst hr
   obtain ⟨m, hm, _⟩ := I6.loc
   have I7 : Inv X pins σ H5 s6 := Inv.call' (ch := fp) I3 I6.os I6.base I6.hok I6.bare fun b hb => ⟨(f2 b hb).2.2.2.1, (f2 b hb).2.1, (f2 b hb).2.2.2.2.1, (f2 b hb).2.2.2.2.2⟩
   exact hend D _ s6 H5 m I7 hm I6.free (Ne.symm (Nat.ne_of_lt I3.lt)) I3.sz (fun x c e => by
     obtain ⟨v', o, ho, _⟩ := I3.cell x c e
     exact Nat.ne_of_lt (Heap.lt_size ho)) (fun p hp => Nat.ne_of_lt (Heap.lt_size (I3.pin p hp).1)) qn
  ·refine thn (T.item (cxC X Nc scope cl s3 (upd H2 D (.lst [])) fp) rfl rfl rfl hc i [] s5 σ5 H5 (fun _ _ => False) I5 (stat fr5) st5 go) fun r s6 ⟨u, hr, h6⟩ => ?_
   subst hr
   refine thn h6 fun _ s7 hz => ?_
   obtain ⟨x, H7, I7, r7, y7, st7, fr7⟩ := hz
   have I7' := I7.pinned (stat fr7) (T.obj _ _ st7)
   refine thn ((hg s3 (upd H2 D (.lst [])) fp).h _ s7 σ5 H7 x u _ I7' r7 (step x H7 y7)) fun _ s8 hz => ?_
   obtain ⟨σ8, H8, I8, q8⟩ := hz
   refine thn ((he s3 (upd H2 D (.lst [])) fp).h _ s8 σ8 H8 _ I8 q8) fun v9 s9 hz => ?_
   obtain ⟨x9, H9, I9, r9, ys, hy, hlt, q9⟩ := hz
   refine thn (nD (X := cxC X Nc scope cl s3 (upd H2 D (.lst [])) fp) _ s9 σ8 H9 (.ref D) [x9] (.ref D) [v9] (fun _ H' => N σ8 H') I9 rfl (.cons r9 .nil) ⟨D, ys, x9, rfl, rfl, hy, hlt, q9⟩) fun _ s10 hz => ?_
   obtain ⟨_, H10, I10, _, q10⟩ := hz
   obtain ⟨m', hm, w10⟩ := hN' σ8 H10 q10
   refine ⟨m', hm, i + 1, σ8, H10, I10.unpinned, T.keep _ _ _ st7 fun b hb o e => (I10.pin (b, o) (List.mem_append_right _ (List.mem_append_right _ (gD hb e)))).1, fun b hb => ?_, w10⟩
   obtain ⟨o, e, d⟩ := T.obj _ _ st7 b hb
   exact (I10.pin (b, o) (List.mem_append_right _ (List.mem_append_right _ (gD hb e)))).2.1
 have e4 : ∀ t', ({ s2 with heap := h₁, toks := t' } : Shared) = { s3 with heap := h₁, toks := t' } := fun t' => by rw [← hs3]
 refine codeAny_compStart_list (loop _ ⟨_, e4 _⟩) (T.self _ 0 _ _ _ (T.keep 0 _ _ st2 fun b hb o e => kept _ _ (old _ _ e)) (loop _ ⟨_, e4 _⟩))
theorem vd {X : Cx} {Nc capN tn : List Str} {scope : Scope} {cl : List (Str × Addr)} {n : Nat} {caps : List Nat} {tg iter elt : Expr} {pos : Pos} {wi : TI} {g : TG} {te : TE}
  (hc : X.calm = true) (hi : WI X tg iter wi) (hg : ∀ s3 H3 fp, WG (cxC X Nc scope cl s3 H3 fp) tg g) (he : ∀ s3 H3 fp, WE (cxC X Nc scope cl s3 H3 fp) elt te)
  (hclos : closureFor scope X.env = pure cl) (hkind : scope.kind = .function) (hnl : ∀ x ∈ scope.names, x.2 = .local → scope.names.lookup x.1 = some .local) (hcell : ∀ x ∈ scope.names, x.2 ≠ .cell)
  (hcl : w6 X.env cl) (hhas : ((relabel scope X.env).names.all fun p => !(p.2 == .cell || p.2 == .free) || (cl.lookup p.1).isSome) = true)
  (hcap : Paired (Cap X scope cl) caps capN) (hN : Nc = tn ++ capN) (hn : tn.length = n)
  (hs : ∀ x, foldedSetIterable iter X.env x = pure x := by intro _; rfl) :
  WE X (.ListComp elt [⟨tg, iter, [], 0⟩] scope pos) (xP wi g te n caps) := by
 constructor
 intro pins s σ H Q I h
 rw [eval_ListComp]
 refine wa hc hi hg he hclos hkind hnl hcell hcl hhas hcap hN hn I h (fun D C s6 H5 m I7 hm fr nl sz cn pn qn => ⟨m, hm, fun h' hs' => ?_⟩) hs
 exact ⟨.ref D, H5, I7.turned (t' := s6.toks) (it := C) (fun b o hb e => hs'.extBut b o hb e) fr nl (.inr sz) cn pn, rfl, qn⟩
section
variable {X : Cx}
theorem sd : ∀ {bs : List Bool} {us : List Value} {i : Nat} {v : Value}, cL (bs.map V.bl) us → us[i]? = some v → ∃ b, bs[i]? = some b ∧ v = .bool b
 | [], _, _, _, r, e => by cases r; simp at e
 | b :: bs, _, 0, _, .cons r _, e => by
  have r' : _ = Value.bool b := r
  simp at e; subst e; exact ⟨b, by simp, r'⟩
 | b :: bs, _, i + 1, v, .cons _ t, e => by
  obtain ⟨b', e1, e2⟩ := sd (i := i) (v := v) t (by simpa using e)
  exact ⟨b', by simpa using e1, e2⟩
theorem pN : ∀ {bs : List Int} {us : List Value} {i : Nat} {v : Value}, cL (bs.map V.int) us → us[i]? = some v → ∃ b, bs[i]? = some b ∧ ∃ t, v = .int b t
 | [], _, _, _, r, e => by cases r; simp at e
 | b :: bs, _, 0, _, .cons r _, e => by
  obtain ⟨t, r'⟩ : ∃ t, _ = Value.int b t := r
  simp at e; subst e; exact ⟨b, by simp, t, r'⟩
 | b :: bs, _, i + 1, v, .cons _ t, e => by
  obtain ⟨b', e1, e2⟩ := pN (i := i) (v := v) t (by simpa using e)
  exact ⟨b', by simpa using e1, e2⟩
theorem wq (bs : List Bool) : (List.range bs.length).all (fun i => (bs[i]?).getD true) = bs.all id := by
 rw [Bool.eq_iff_iff, List.all_eq_true, List.all_eq_true]
 constructor
 ·intro h b hb
  obtain ⟨i, hi, e⟩ := List.mem_iff_getElem.mp hb
  have := h i (List.mem_range.mpr hi)
  rw [List.getElem?_eq_getElem hi, Option.getD_some, e] at this
  exact this
 ·intro h i hi
  have hi' := List.mem_range.mp hi
  have := h _ (List.getElem_mem hi')
  rw [List.getElem?_eq_getElem hi', Option.getD_some]
  exact this
theorem sY {h : Heap} {b : Addr} {o : Obj} (e : h.get? b = some o) : ¬ b ∈ [h.objs.size] := fun z => by
 have z' : b = h.objs.size := by simpa using z
 exact absurd (Heap.lt_size e) (by rw [z']; exact Nat.lt_irrefl _)
theorem qr (hc : X.calm = true) : eQ X (.builtin "all") (fun xs H Q => ∃ (p : Addr) (bs : List Bool), xs = [.ref p] ∧ SqL X.K H p (bs.map V.bl) ∧ Q (.bl (bs.all id)) H) := by
 intro pins s σ H xs us Q I r h
 obtain ⟨p, bs, rfl, hq, q⟩ := h
 obtain ⟨u, rfl, rx⟩ := ll r
 cases rx
 obtain ⟨its, rv, pl, hz⟩ := I.list hq
 have fS := rv.length
 rw [List.length_map] at fS
 refine call_all_walk (wpAny_pyIter_list pl.isList ?_)
 have lt : p < s.heap.objs.size := by obtain ⟨o, e, _⟩ := pl.isList; exact Heap.lt_size e
 refine ⟨s.heap.objs.size, _, _, _, _, _, fun i => (bs[i]?).getD true, rfl, Walks.list (show X.A.in1.handled = none from I.ok.hd hc) s.heap.objs.size p (Nat.ne_of_lt lt) its.toArray, ⟨⟨_, Heap.get?_push_size _ rfl, rfl, rfl⟩, pl.isList.at fun o e => Heap.get?_push_of_some _ e⟩, ?_, fun h' tk hk => ?_⟩
 ·intro i v s' Q' E' hP hQ
  have hP' : its.toArray[i]? = some v := hP
  obtain ⟨b, e1, e2⟩ := sd rv (by simpa using hP')
  subst e2
  dsimp only at hQ
  rw [e1, Option.getD_some] at hQ
  exact wpAny_truthy_bool hQ
 ·have e : (List.range its.toArray.size).all (fun i => (bs[i]?).getD true) = bs.all id := by
   rw [List.size_toArray, ← fS]; exact wq bs
  rw [e]
  exact ⟨.bl (bs.all id), H, I.kept fun b o e => hk b o (sY e) (Heap.get?_push_of_some _ e), rfl, q⟩
theorem gR (ns : List Int) : ∀ j, j ≤ ns.length → preSum (fun i => (ns[i]?).getD 0) j = (ns.take j).sum
 | 0, _ => by simp [preSum]
 | j + 1, h => by
  have hj : j < ns.length := by omega
  rw [preSum, gR ns j (by omega), List.take_succ_eq_append_getElem hj, List.sum_append]
  simp [List.getElem?_eq_getElem hj]
theorem sj {ns : List Int} (h : ∀ n ∈ ns, 0 ≤ n ∧ n ≤ 1000000) : 0 ≤ ns.sum ∧ ns.sum ≤ 1000000 * ns.length := by
 induction ns with
 | nil => simp
 | cons a r ih =>
  have h1 := h a List.mem_cons_self
  have h2 := ih fun n hn => h n (List.mem_cons_of_mem _ hn)
  rw [List.sum_cons, List.length_cons]
  omega
theorem wc (hc : X.calm = true) : eQ X (.builtin "sum") (fun xs H Q => ∃ (p : Addr) (ns : List Int), xs = [.ref p] ∧ SqL X.K H p (ns.map V.int) ∧ ns.length ≤ 1000 ∧ (∀ n ∈ ns, 0 ≤ n ∧ n ≤ 1000000) ∧ Q (.int ns.sum) H) := by
 intro pins s σ H xs us Q I r h
 obtain ⟨p, ns, rfl, hq, hl, hb, q⟩ := h
 obtain ⟨u, rfl, rx⟩ := ll r
 cases rx
 obtain ⟨its, rv, pl, hz⟩ := I.list hq
 have fS := rv.length
 rw [List.length_map] at fS
 refine call_sum_walk (wpAny_pyIter_list pl.isList ?_)
 have lt : p < s.heap.objs.size := by obtain ⟨o, e, _⟩ := pl.isList; exact Heap.lt_size e
 refine ⟨s.heap.objs.size, _, _, _, _, _, fun i => (ns[i]?).getD 0, rfl, Walks.list (show X.A.in1.handled = none from I.ok.hd hc) s.heap.objs.size p (Nat.ne_of_lt lt) its.toArray, ⟨⟨_, Heap.get?_push_size _ rfl, rfl, rfl⟩, pl.isList.at fun o e => Heap.get?_push_of_some _ e⟩, ?_, ?_, ?_, fun h' tk t' hk => ?_⟩
 ·intro b hb'
  have : b = s.heap.objs.size ∨ b = p := by simpa using hb'
  show b < (s.heap.push _).objs.size
  rw [Heap.size_push]
  rcases this with e | e
  ·rw [e]; exact Nat.lt_succ_self _
  ·rw [e]; exact Nat.lt_succ_of_lt lt
 ·intro i v hP
  have hP' : its.toArray[i]? = some v := hP
  obtain ⟨b, e1, t, e2⟩ := pN rv (by simpa using hP')
  exact ⟨t, by dsimp only; rw [e1]; exact e2⟩
 ·intro j hj
  have hj' : j < ns.length := by rw [List.size_toArray] at hj; omega
  constructor
  ·have := hb _ (List.getElem_mem hj')
   dsimp only
   rw [List.getElem?_eq_getElem hj', Option.getD_some]
   unfold InLong; omega
  ·rw [gR ns (j + 1) hj']
   have := sj (ns := ns.take (j + 1)) fun n hn => hb n (List.mem_of_mem_take hn)
   rw [List.length_take] at this
   unfold InLong
   have : (min (j + 1) ns.length : Nat) ≤ 1000 := by omega
   omega
 ·have e : preSum (fun i => (ns[i]?).getD 0) its.toArray.size = ns.sum := by
   rw [List.size_toArray, ← fS, gR ns _ (Nat.le_refl _), List.take_length]
  rw [e]
  exact ⟨.int ns.sum, H, I.kept fun b o e => hk b o (sY e) (Heap.get?_push_of_some _ e), ⟨t', rfl⟩, q⟩
end
open PySem.AutoSeq1 (wpAny_loadPart')
theorem wb {prog : Program} {w : World} {A : Around} {E : Value → Shared → Prop} {s : Shared} {t b : Addr} {vs ws : List Value} {Q : Value → Shared → Prop} (ht : IsTup s.heap t vs.toArray) (hb : IsTup s.heap b ws.toArray) (hv : vs = [])
  (h1 : Q (.ref b) s) : wpAny (model prog w) A (binaryOp .Add (.ref t) (.ref b)) Q E s := by
 obtain ⟨⟨cls, dd, data, sl⟩, ho, hc, n, hd⟩ := id ht
 obtain ⟨⟨cls2, dd2, data2, sl2⟩, ho2, hc2, n2, hd2⟩ := id hb
 simp only at hc hd hc2 hd2
 subst hc hd hc2 hd2
 exact concat_meets ⟨_, ho, rfl⟩ ⟨_, ho2, rfl⟩ noFill_tuple_add seq_tuple_add PySem.F.slot_tuple_add PySem.F.entry_tuple_add (PySem.F.args_tuple_add_2 _ _)
   (tuple_addW0 t b vs.toArray ws.toArray n n2 dd dd2 sl sl2 (by simp [hv])) ⟨ho, ho2, h1⟩
theorem fR : fillsNumberSlot (.type "tuple") "mul" = pure false :=
 PySem.fillsNumberSlot_seq (id := "tuple.__mul__") (r := some (.builtin "tuple.__rmul__")) F.slot_tuple_mul.lookup (by decide +kernel) F.slot_tuple_rmul.lookup (by decide +kernel)
theorem iX : seqRepeat? (.type "tuple") = pure (some (.builtin "tuple.__mul__")) := by
 unfold seqRepeat?
 rw [PySem.seqSlot_of (T := "tuple") (name := "__mul__") (id := "tuple.__mul__") F.slot_tuple_mul.lookup (by decide +kernel), PySem.seqSlot_of (T := "tuple") (name := "__rmul__") (id := "tuple.__rmul__") F.slot_tuple_rmul.lookup (by decide +kernel)]
 rfl
theorem gN (a : Int) (t : Tok) (l : Addr) (items : Array Value) (n : Nat) (dd : Option Addr) (sl : Array (Option Value)) :
  Meets (Builtin.«int.__rmul__» ⟨[.int a t, .ref l], []⟩) (fun _ R s => s.heap.get? l = some { cls := .type "tuple", dict := dd, data := .seq items n, slots := sl } ∧ R (.ok (.ret Value.notImplemented)) s) :=
 .of_wp fun prog w A R s h => by obtain ⟨hp, g, d, tk, os⟩ := s; obtain ⟨hl, h⟩ := h; wp_walk using wpAny_loadPart' hl; exact ⟨_, rfl, h⟩
theorem oo (l : Addr) (items : Array Value) (n : Nat) (dd : Option Addr) (sl : Array (Option Value)) (t : Tok) :
  Meets (Builtin.«tuple.__mul__» ⟨[.ref l, .int 1 t], []⟩) (fun _ R s => s.heap.get? l = some { cls := .type "tuple", dict := dd, data := .seq items n, slots := sl } ∧ R (.ok (.ret (Value.ref l))) s) :=
 .of_wp fun prog w A R s h => by obtain ⟨hp, g, d, tk, os⟩ := s; obtain ⟨hl, h⟩ := h; have f1 := AutoSeq1.idx_int; wp_walk using wpAny_loadPart' hl; exact ⟨_, rfl, h⟩
theorem om (l : Addr) (items : Array Value) (n : Nat) (dd : Option Addr) (sl : Array (Option Value)) (k : Int) (t : Tok) (hc0 : ¬(decide (k < -2 ^ 63) || decide (k ≥ 2 ^ 63)) = true) (hc1 : ¬(items.isEmpty || k == 1) = true) (hc2 : ¬(decide (k ≤ 0) || items.isEmpty) = true)
  (hc3 : ¬((items.size : Int) * k > (2 ^ 63 - 1) / 8)) (hc4 : ¬Builtin.Tuple.tupleTooMany ((items.size : Int) * k) = true) (hz : (List.foldl (fun x1 x2 => x1 ++ x2) #[] (List.replicate k.toNat items)).size ≤ sizeLine) :
  Meets (Builtin.«tuple.__mul__» ⟨[.ref l, .int k t], []⟩) (fun _ R s => s.heap.get? l = some { cls := .type "tuple", dict := dd, data := .seq items n, slots := sl } ∧
   R (.ok (.ret (Value.ref s.heap.objs.size))) { s with heap := s.heap.push { cls := Value.type "tuple", data := Data.seq (List.foldl (fun x1 x2 => x1 ++ x2) #[] (List.replicate k.toNat items)) } }) :=
 .of_wp fun prog w A R s h => by
  obtain ⟨hp, g, d, tk, os⟩ := s
  obtain ⟨hl, h⟩ := h
  have f1 := AutoSeq1.idx_int
  have g0 : (decide (k < -2 ^ 63) || decide (k ≥ 2 ^ 63)) = false := by simpa using hc0
  have g1 : (items.isEmpty || k == 1) = false := by simpa using hc1
  have g2 : (decide (k ≤ 0) || items.isEmpty) = false := by simpa using hc2
  have g4 : Builtin.Tuple.tupleTooMany ((items.size : Int) * k) = false := by simpa using hc4
  wp_walk using wpAny_loadPart' hl
  refine PySem.W.KFB.if_not g0 ?_
  wp_walk using wpAny_loadPart' hl
  try (refine PySem.W.KFB.if_not g1 ?_; wp_walk using wpAny_loadPart' hl)
  try (refine PySem.W.KFB.if_not g2 ?_; wp_walk using wpAny_loadPart' hl)
  try (rw [if_neg hc3]; wp_walk using wpAny_loadPart' hl)
  try (refine PySem.W.KFB.if_not g4 ?_; wp_walk using wpAny_loadPart' hl)
  try (refine wpAny_ite_false (decide_eq_false (Nat.not_lt.mpr hz)) ?_; wp_walk)
  exact ⟨_, rfl, h⟩
structure Eu (H : Hp) (p xs : Addr) : Prop where
 ex : ∃ (ns : List Int) (at' cur : Int), H p = some (.lst [.ref xs, .int at', .int cur]) ∧ H xs = some (.lst (ns.map V.int)) ∧ xs ≠ p ∧ 0 ≤ at' ∧ 0 ≤ cur
noncomputable def wH (K : PySem.W.Frag) : Sp := fun vs H Q _ => ∃ (a : Addr) (ns : List Int), vs = [.ref a] ∧ SqL K H a (ns.map V.int) ∧ ∀ (q xs : Addr) (H' : Hp), o7 H H' → Eu H' q xs → H q = none → Q (.ref q) H'
theorem tm {m : Int} (h0 : 0 ≤ m) (h : m < 2 ^ 60) : m.natAbs.log2 < 9000 := by
 have := qT (n := m.natAbs) (by omega)
 omega
end OG
namespace OP
open PySem PySem.Spec PyProof.Rows L2 OG
inductive U where
 | non | bl (b : Bool) | int (i : Int) | str (x : Str) | tup (us : List U) | ref (l : Nat) | kl (ns : List Int)
structure Cl where
 C : Addr
 ns : List Str
inductive O where
 | lst (us : List U) | dic (kvs : List (Key × U)) | ins (c : Cl) (fs : List (Option U)) | fdc (ep : Nat) (kvs : List (Key × U)) | dit (kvs : List (List Key × U)) | fdt (ep : Nat) (kvs : List (List Key × U))
noncomputable abbrev Sto := List O
noncomputable abbrev Rho := List (Option U)
noncomputable def KL (K : PySem.W.Frag) (H : Hp) (a : Addr) (ns : List Int) : Prop :=
 (∃ o, H a = some (.frz o (.lst (ns.map V.int)))) ∨
  ∃ (o : Obj) (its : Array Value) (n : Nat), K.lookup a = some o ∧ o.cls = .type "list" ∧ o.dict = none ∧ o.data = .seq its n ∧ its.size ≤ sizeLine ∧ cL (ns.map V.int) its.toList
theorem KL.sq {K : PySem.W.Frag} {H : Hp} {a : Addr} {ns : List Int} (h : KL K H a ns) : SqL K H a (ns.map V.int) := by
 rcases h with h | h
 ·exact .inl (.inr h)
 ·exact .inr h
mutual
noncomputable def Is (K : PySem.W.Frag) (m : List Addr) (H : Hp) : V → U → Prop
 | v, .non => v = .non
 | v, .bl b => v = .bl b
 | v, .int i => v = .int i
 | v, .str x => v = .str x
 | v, .tup us => ∃ a xs, v = .ref a ∧ SqT K H a xs ∧ IsL K m H xs us
 | v, .ref l => ∃ a, m[l]? = some a ∧ v = .ref a
 | v, .kl ns => ∃ a, v = .ref a ∧ KL K H a ns
noncomputable def IsL (K : PySem.W.Frag) (m : List Addr) (H : Hp) : List V → List U → Prop
 | xs, [] => xs = []
 | xs, u :: us => ∃ x r, xs = x :: r ∧ Is K m H x u ∧ IsL K m H r us
end
structure yO (K : PySem.W.Frag) (H H' : Hp) : Prop where
 t : ∀ a xs, SqT K H a xs → SqT K H' a xs
 l : ∀ a ns, KL K H a ns → KL K H' a ns
structure Ext (K : PySem.W.Frag) (m : List Addr) (H : Hp) (m' : List Addr) (H' : Hp) : Prop where
 pre : ∃ t, m' = m ++ t
 keep : yO K H H'
section
variable {K : PySem.W.Frag} {m m' m'' : List Addr} {H H' H'' : Hp} {v x : V} {u : U} {xs ys : List V} {us ws : List U} {a q : Addr} {o : HO}
theorem Ext.refl : Ext K m H m H := ⟨⟨[], by simp⟩, fun _ _ h => h, fun _ _ h => h⟩
theorem Ext.trans (a : Ext K m H m' H') (b : Ext K m' H' m'' H'') : Ext K m H m'' H'' := by
 obtain ⟨t, rfl⟩ := a.pre
 obtain ⟨t', rfl⟩ := b.pre
 exact ⟨⟨t ++ t', by simp⟩, fun c ys h => b.keep.t c ys (a.keep.t c ys h), fun c ys h => b.keep.l c ys (a.keep.l c ys h)⟩
theorem Ext.of (k : yO K H H') : Ext K m H m H' := ⟨⟨[], by simp⟩, k⟩
theorem Ext.new (k : yO K H H') : Ext K m H (m ++ [q]) H' := ⟨⟨[q], rfl⟩, k⟩
theorem Ext.get {l : Nat} (e : Ext K m H m' H') (h : m[l]? = some a) : m'[l]? = some a := by
 obtain ⟨t, rfl⟩ := e.pre
 rw [List.getElem?_append_left (List.getElem?_eq_some_iff.mp h).1]
 exact h
mutual
theorem Is.mono (e : Ext K m H m' H') : ∀ {v : V} {u : U}, Is K m H v u → Is K m' H' v u
 | v, .non, h => by unfold Is at h ⊢; exact h
 | v, .bl b, h => by unfold Is at h ⊢; exact h
 | v, .int i, h => by unfold Is at h ⊢; exact h
 | v, .str x, h => by unfold Is at h ⊢; exact h
 | v, .tup us, h => by
  unfold Is at h ⊢
  obtain ⟨a, xs, e1, k, l⟩ := h
  exact ⟨a, xs, e1, e.keep.t _ _ k, IsL.mono e l⟩
 | v, .ref l, h => by
  unfold Is at h ⊢
  obtain ⟨a, k, e1⟩ := h
  exact ⟨a, e.get k, e1⟩
 | v, .kl ns, h => by
  unfold Is at h ⊢
  obtain ⟨a, e1, k⟩ := h
  exact ⟨a, e1, e.keep.l _ _ k⟩
theorem IsL.mono (e : Ext K m H m' H') : ∀ {xs : List V} {us : List U}, IsL K m H xs us → IsL K m' H' xs us
 | xs, [], h => by unfold IsL at h ⊢; exact h
 | xs, u :: us, h => by
  unfold IsL at h ⊢
  obtain ⟨x, r, e1, k, l⟩ := h
  exact ⟨x, r, e1, Is.mono e k, IsL.mono e l⟩
end
theorem Is.int_ {i : Int} : Is K m H (.int i) (.int i) := by unfold Is; rfl
theorem Is.bl_ {b : Bool} : Is K m H (.bl b) (.bl b) := by unfold Is; rfl
theorem Is.non_ : Is K m H .non .non := by unfold Is; rfl
theorem Is.str_ {x : Str} : Is K m H (.str x) (.str x) := by unfold Is; rfl
theorem Is.of_int {i : Int} (h : Is K m H v (.int i)) : v = .int i := by unfold Is at h; exact h
theorem Is.of_bl {b : Bool} (h : Is K m H v (.bl b)) : v = .bl b := by unfold Is at h; exact h
theorem Is.of_non (h : Is K m H v .non) : v = .non := by unfold Is at h; exact h
theorem Is.of_str {x : Str} (h : Is K m H v (.str x)) : v = .str x := by unfold Is at h; exact h
theorem Is.of_tup (h : Is K m H v (.tup us)) : ∃ a xs, v = .ref a ∧ SqT K H a xs ∧ IsL K m H xs us := by unfold Is at h; exact h
theorem Is.of_ref {l : Nat} (h : Is K m H v (.ref l)) : ∃ a, m[l]? = some a ∧ v = .ref a := by unfold Is at h; exact h
theorem Is.of_kl {ns : List Int} (h : Is K m H v (.kl ns)) : ∃ a, v = .ref a ∧ KL K H a ns := by unfold Is at h; exact h
theorem Is.tup_ (e : SqT K H a xs) (h : IsL K m H xs us) : Is K m H (.ref a) (.tup us) := by unfold Is; exact ⟨a, xs, rfl, e, h⟩
theorem Is.ref_ {l : Nat} (e : m[l]? = some a) : Is K m H (.ref a) (.ref l) := by unfold Is; exact ⟨a, e, rfl⟩
theorem IsL.nil_ : IsL K m H [] [] := by unfold IsL; rfl
theorem IsL.cons_ (h : Is K m H x u) (t : IsL K m H xs us) : IsL K m H (x :: xs) (u :: us) := by unfold IsL; exact ⟨x, xs, rfl, h, t⟩
theorem IsL.of_nil (h : IsL K m H xs []) : xs = [] := by unfold IsL at h; exact h
theorem IsL.of_cons (h : IsL K m H xs (u :: us)) : ∃ x r, xs = x :: r ∧ Is K m H x u ∧ IsL K m H r us := by unfold IsL at h; exact h
theorem IsL.length : ∀ {xs : List V} {us : List U}, IsL K m H xs us → xs.length = us.length
 | xs, [], h => by rw [h.of_nil]; rfl
 | xs, d :: ds, h => by
  obtain ⟨x, r, rfl, _, t⟩ := h.of_cons
  rw [List.length_cons, List.length_cons, IsL.length t]
theorem IsL.getD : ∀ {xs : List V} {us : List U} {i : Nat} {u : U}, IsL K m H xs us → us[i]? = some u → ∃ x, xs[i]? = some x ∧ Is K m H x u
 | xs, [], i, x, h, e => by simp at e
 | xs, d :: ds, 0, x, h, e => by
  obtain ⟨y, r, rfl, k, t⟩ := h.of_cons
  simp at e; subst e; exact ⟨y, by simp, k⟩
 | xs, d :: ds, i + 1, x, h, e => by
  obtain ⟨y, r, rfl, k, t⟩ := h.of_cons
  obtain ⟨d', e1, e2⟩ := IsL.getD (i := i) (u := x) t (by simpa using e)
  exact ⟨d', by simpa using e1, e2⟩
theorem IsL.append : ∀ {xs : List V} {us : List U}, IsL K m H xs us → IsL K m H ys ws → IsL K m H (xs ++ ys) (us ++ ws)
 | xs, [], h, k => by rw [h.of_nil]; exact k
 | xs, d :: ds, h, k => by
  obtain ⟨y, r, rfl, z, t⟩ := h.of_cons
  exact .cons_ z (IsL.append t k)
theorem IsL.set : ∀ {xs : List V} {us : List U} {j : Nat}, IsL K m H xs us → Is K m H x u → IsL K m H (xs.set j x) (us.set j u)
 | xs, [], j, h, k => by rw [h.of_nil]; exact .nil_
 | xs, d :: ds, 0, h, k => by
  obtain ⟨y, r, rfl, z, t⟩ := h.of_cons
  exact .cons_ k t
 | xs, d :: ds, j + 1, h, k => by
  obtain ⟨y, r, rfl, z, t⟩ := h.of_cons
  exact .cons_ z (IsL.set t k)
theorem IsL.drop : ∀ {xs : List V} {us : List U} (n : Nat), IsL K m H xs us → IsL K m H (xs.drop n) (us.drop n)
 | xs, us, 0, h => h
 | xs, [], n + 1, h => by rw [h.of_nil]; exact .nil_
 | xs, d :: ds, n + 1, h => by
  obtain ⟨y, r, rfl, z, t⟩ := h.of_cons
  exact IsL.drop n t
theorem IsL.take : ∀ {xs : List V} {us : List U} (n : Nat), IsL K m H xs us → IsL K m H (xs.take n) (us.take n)
 | xs, us, 0, h => .nil_
 | xs, [], n + 1, h => by rw [h.of_nil]; exact .nil_
 | xs, d :: ds, n + 1, h => by
  obtain ⟨y, r, rfl, z, t⟩ := h.of_cons
  exact .cons_ z (IsL.take n t)
theorem IsL.rep : ∀ (n : Nat), IsL K m H xs us → IsL K m H (List.replicate n xs).flatten (List.replicate n us).flatten
 | 0, h => .nil_
 | n + 1, h => by
  rw [List.replicate_succ, List.replicate_succ, List.flatten_cons, List.flatten_cons]
  exact h.append (IsL.rep n h)
theorem qd (h : H a = some o) (nt : ∀ xs, o ≠ .tup xs) (nf : ∀ ob xs, o ≠ .frz ob (.tup xs)) (nl : ∀ ob xs, o ≠ .frz ob (.lst xs)) (o' : HO) : yO K H (upd H a o') := by
 refine ⟨fun b xs q => ?_, fun b ns q => ?_⟩
 ·rcases q with (q | ⟨ob, q⟩) | q
  ·have n : b ≠ a := fun z => by subst z; rw [q] at h; cases h; exact nt _ rfl
   exact .inl (.inl (by rw [cy n]; exact q))
  ·have n : b ≠ a := fun z => by subst z; rw [q] at h; cases h; exact nf _ _ rfl
   exact .inl (.inr ⟨ob, by rw [cy n]; exact q⟩)
  ·exact .inr q
 ·rcases q with ⟨ob, q⟩ | q
  ·have n : b ≠ a := fun z => by subst z; rw [q] at h; cases h; exact nl _ _ rfl
   exact .inl ⟨ob, by rw [cy n]; exact q⟩
  ·exact .inr q
theorem eG (s : o7 H H') : yO K H H' := by
 refine ⟨fun b xs q => ?_, fun b ns q => ?_⟩
 ·rcases q with (q | ⟨ob, q⟩) | q
  ·exact .inl (.inl (s _ _ q))
  ·exact .inl (.inr ⟨ob, s _ _ q⟩)
  ·exact .inr q
 ·rcases q with ⟨ob, q⟩ | q
  ·exact .inl ⟨ob, s _ _ q⟩
  ·exact .inr q
theorem eU (h : H q = none) (o' : HO) : yO K H (upd H q o') := eG (dy h o')
end
noncomputable def IsP {κ : Type} (K : PySem.W.Frag) (m : List Addr) (H : Hp) (kvs : List (κ × V)) (kus : List (κ × U)) : Prop := kvs.map (·.1) = kus.map (·.1) ∧ IsL K m H (kvs.map (·.2)) (kus.map (·.2))
noncomputable def Rf (K : PySem.W.Frag) (m : List Addr) (H : Hp) : Option V → Option U → Prop
 | some v, some u => Is K m H v u
 | none, none => True
 | _, _ => False
structure InF (K : PySem.W.Frag) (m : List Addr) (H : Hp) (c : Cl) (fs : List (Str × V)) (fus : List (Option U)) : Prop where
 nd : c.ns.Nodup
 few : c.ns.length < 1000
 knd : (fs.map (·.1)).Nodup
 sub : ∀ x ∈ fs.map (·.1), x ∈ c.ns
 len : fus.length = c.ns.length
 at_ : ∀ (i : Nat) (x : Str), c.ns[i]? = some x → Rf K m H (fs.lookup x) ((fus[i]?).join)
theorem Rf.mono {K : PySem.W.Frag} {m m' : List Addr} {H H' : Hp} {v : Option V} {u : Option U} (e : Ext K m H m' H') (h : Rf K m H v u) : Rf K m' H' v u := by
 cases v with
 | none => cases u with
  | none => trivial
  | some u => exact h.elim
 | some v => cases u with
  | none => exact h.elim
  | some u => exact Is.mono e h
theorem InF.mono {K : PySem.W.Frag} {m m' : List Addr} {H H' : Hp} {c : Cl} {fs : List (Str × V)} {fus : List (Option U)} (e : Ext K m H m' H') (h : InF K m H c fs fus) : InF K m' H' c fs fus := ⟨h.nd, h.few, h.knd, h.sub, h.len, fun i x q => (h.at_ i x q).mono e⟩
noncomputable def Ob (K : PySem.W.Frag) (m : List Addr) (H : Hp) (a : Addr) : O → Prop
 | .lst us => ∃ xs, H a = some (.lst xs) ∧ IsL K m H xs us
 | .dic kus => ∃ kvs, H a = some (.dK kvs) ∧ IsP K m H kvs kus
 | .ins c fus => ∃ dx fs, H a = some (.ins c.C dx fs) ∧ InF K m H c fs fus
 | .fdc ep kus => ∃ ob es kvs, H a = some (.frz ob (.dK kvs)) ∧ ob.data = .dict es ep ∧ IsP K m H kvs kus
 | .dit kus => ∃ kvs, H a = some (.dT kvs) ∧ IsP K m H kvs kus
 | .fdt ep kus => ∃ ob es kvs, H a = some (.frz ob (.dT kvs)) ∧ ob.data = .dict es ep ∧ IsP K m H kvs kus
structure Sr (K : PySem.W.Frag) (m : List Addr) (S : Sto) (H : Hp) : Prop where
 len : m.length = S.length
 nd : m.Nodup
 ob : ∀ (l : Nat) (a : Addr) (o : O), m[l]? = some a → S[l]? = some o → Ob K m H a o
structure Lr (K : PySem.W.Frag) (m : List Addr) (H : Hp) (ρ : Rho) (σ : L2.St) : Prop where
 len : ρ.length = σ.length
 at_ : ∀ (i : Nat) (u : U), ρ[i]? = some (some u) → ∃ v, σ[i]? = some (some v) ∧ Is K m H v u
section
variable {κ : Type} {K : PySem.W.Frag} {m m' : List Addr} {H H' : Hp} {S S' : Sto} {ρ : Rho} {σ : L2.St} {a q : Addr} {l : Nat} {o : O} {ho : HO} {us : List U} {v : V} {u : U} {kvs : List (κ × V)} {kus : List (κ × U)}
theorem IsP.mono (e : Ext K m H m' H') (h : IsP K m H kvs kus) : IsP K m' H' kvs kus := ⟨h.1, h.2.mono e⟩
theorem IsP.length (h : IsP K m H kvs kus) : kvs.length = kus.length := by have := h.2.length; simpa using this
theorem IsP.nil_ : IsP (κ := κ) K m H [] [] := ⟨rfl, .nil_⟩
theorem IsP.cons_ {k : κ} (h : Is K m H v u) (t : IsP K m H kvs kus) : IsP K m H ((k, v) :: kvs) ((k, u) :: kus) := ⟨by simp [t.1], .cons_ h t.2⟩
theorem IsP.ind {P : List (κ × V) → List (κ × U) → Prop} (h0 : P [] []) (h1 : ∀ k v u kvs kus, Is K m H v u → IsP K m H kvs kus → P kvs kus → P ((k, v) :: kvs) ((k, u) :: kus)) : ∀ {kvs : List (κ × V)} {kus : List (κ × U)}, IsP K m H kvs kus → P kvs kus
 | [], [], _ => h0
 | [], p :: r, h => by have := h.length; simp at this
 | p :: r, [], h => by have := h.length; simp at this
 | (k, v) :: r, (k', u) :: r', h => by
  obtain ⟨e, i⟩ := h
  simp only [List.map_cons, List.cons.injEq] at e
  obtain ⟨e1, e2⟩ := e
  subst e1
  obtain ⟨x, t, e3, iu, it⟩ := i.of_cons
  cases e3
  exact h1 k v u r r' iu ⟨e2, it⟩ (IsP.ind h0 h1 (⟨e2, it⟩ : IsP K m H r r'))
theorem Ob.mono (e : Ext K m H m' H') (h1 : H' a = H a) (h : Ob K m H a o) : Ob K m' H' a o := by
 cases o with
 | lst us => obtain ⟨xs, k, i⟩ := h; exact ⟨xs, h1.trans k, i.mono e⟩
 | dic kus => obtain ⟨xs, k, i⟩ := h; exact ⟨xs, h1.trans k, i.mono e⟩
 | ins C fus => obtain ⟨dx, fs, k, i⟩ := h; exact ⟨dx, fs, h1.trans k, i.mono e⟩
 | fdc ep kus => obtain ⟨ob, es, kvs, k, d, i⟩ := h; exact ⟨ob, es, kvs, h1.trans k, d, i.mono e⟩
 | dit kus => obtain ⟨xs, k, i⟩ := h; exact ⟨xs, h1.trans k, i.mono e⟩
 | fdt ep kus => obtain ⟨ob, es, kvs, k, d, i⟩ := h; exact ⟨ob, es, kvs, h1.trans k, d, i.mono e⟩
theorem Ob.some (h : Ob K m H a o) : ∃ ho, H a = some ho ∧ (∀ xs, ho ≠ .tup xs) ∧ (∀ ob xs, ho ≠ .frz ob (.tup xs)) ∧ (∀ ob xs, ho ≠ .frz ob (.lst xs)) := by
 cases o with
 | lst us => obtain ⟨xs, k, i⟩ := h; exact ⟨_, k, by simp, by simp, by simp⟩
 | dic kus => obtain ⟨xs, k, i⟩ := h; exact ⟨_, k, by simp, by simp, by simp⟩
 | ins C fus => obtain ⟨dx, fs, k, i⟩ := h; exact ⟨_, k, by simp, by simp, by simp⟩
 | fdc ep kus => obtain ⟨ob, es, kvs, k, d, i⟩ := h; exact ⟨_, k, by simp, by simp, by simp⟩
 | dit kus => obtain ⟨xs, k, i⟩ := h; exact ⟨_, k, by simp, by simp, by simp⟩
 | fdt ep kus => obtain ⟨ob, es, kvs, k, d, i⟩ := h; exact ⟨_, k, by simp, by simp, by simp⟩
theorem Lr.mono (e : Ext K m H m' H') (h : Lr K m H ρ σ) : Lr K m' H' ρ σ := ⟨h.len, fun i u e1 => let ⟨v, e2, e3⟩ := h.at_ i u e1; ⟨v, e2, e3.mono e⟩⟩
theorem Lr.set (h : Lr K m H ρ σ) (i : Nat) (hv : Is K m H v u) : Lr K m H (ρ.set i (some u)) (σ.set i (some v)) := by
 refine ⟨by simp [h.len], fun j w e => ?_⟩
 by_cases c : i = j
 ·subst c
  rw [List.getElem?_set_self' ] at e
  rw [List.getElem?_set_self']
  have hl := h.len
  cases e1 : ρ[i]? with
  | none => rw [e1] at e; simp at e
  | some z =>
   rw [e1] at e
   simp at e
   subst e
   have : i < σ.length := by rw [← hl]; exact (List.getElem?_eq_some_iff.mp e1).1
   rw [List.getElem?_eq_getElem this]
   exact ⟨v, rfl, hv⟩
 ·rw [List.getElem?_set_ne c] at e
  rw [List.getElem?_set_ne c]
  exact h.at_ j w e
theorem Sr.get (r : Sr K m S H) (h : S[l]? = some o) : ∃ a, m[l]? = some a ∧ Ob K m H a o := by
 have hl : l < m.length := by rw [r.len]; exact (List.getElem?_eq_some_iff.mp h).1
 exact ⟨_, List.getElem?_eq_getElem hl, r.ob _ _ _ (List.getElem?_eq_getElem hl) h⟩
theorem Sr.at_ (r : Sr K m S H) (h : m[l]? = some a) : ∃ o, S[l]? = some o ∧ Ob K m H a o := by
 have hl : l < S.length := by rw [← r.len]; exact (List.getElem?_eq_some_iff.mp h).1
 exact ⟨_, List.getElem?_eq_getElem hl, r.ob _ _ _ h (List.getElem?_eq_getElem hl)⟩
theorem Sr.same (r : Sr K m S H) (s : o7 H H') : Sr K m S H' := ⟨r.len, r.nd, fun l a o h1 h2 => by
 have q := r.ob l a o h1 h2
 obtain ⟨ho, e, _⟩ := q.some
 exact q.mono (.of (eG s)) (by rw [s _ _ e, e])⟩
theorem Sr.new (r : Sr K m S H) (h : H q = none) (n : Ob K (m ++ [q]) (upd H q ho) q o) : Sr K (m ++ [q]) (S ++ [o]) (upd H q ho) := by
 have hq : q ∉ m := fun z => by
  obtain ⟨l, e⟩ := List.getElem?_of_mem z
  obtain ⟨o, _, k⟩ := r.at_ e
  obtain ⟨ho, e2, _⟩ := k.some
  rw [h] at e2; cases e2
 refine ⟨by simp [r.len], ?_, fun l a o' h1 h2 => ?_⟩
 ·rw [List.nodup_append]
  exact ⟨r.nd, by simp, fun x hx y hy z => by simp at hy; subst hy; subst z; exact hq hx⟩
 ·by_cases c : l < m.length
  ·rw [List.getElem?_append_left c] at h1
   rw [List.getElem?_append_left (by rw [← r.len]; exact c)] at h2
   have q' := r.ob l a o' h1 h2
   obtain ⟨ho', e, _⟩ := q'.some
   exact q'.mono (.new (eU h _)) (by rw [cy (cM e h)])
  ·have e : l = m.length := by
    have := (List.getElem?_eq_some_iff.mp h1).1
    simp at this; omega
   subst e
   rw [List.getElem?_append_right (Nat.le_refl _)] at h1
   rw [List.getElem?_append_right (by rw [r.len]; exact Nat.le_refl _)] at h2
   simp [r.len] at h1 h2
   subst h1; subst h2
   exact n
theorem Sr.put (r : Sr K m S H) (h : m[l]? = some a) (n : Ob K m (upd H a ho) a o) : Sr K m (S.set l o) (upd H a ho) := by
 obtain ⟨o0, h0, k0⟩ := r.at_ h
 obtain ⟨ho', e, nt, nf, nl⟩ := k0.some
 refine ⟨by simp [r.len], r.nd, fun l' a' o' h1 h2 => ?_⟩
 by_cases c : l = l'
 ·subst c
  rw [h] at h1; cases h1
  rw [List.getElem?_set_self (List.getElem?_eq_some_iff.mp h0).1] at h2
  cases h2
  exact n
 ·rw [List.getElem?_set_ne c] at h2
  have na : a' ≠ a := fun z => by
   subst z
   obtain ⟨p1, e1⟩ := List.getElem?_eq_some_iff.mp h
   obtain ⟨p2, e2⟩ := List.getElem?_eq_some_iff.mp h1
   exact c ((List.getElem_inj r.nd).mp (e1.trans e2.symm))
  exact (r.ob l' a' o' h1 h2).mono (.of (qd e nt nf nl _)) (by rw [cy na])
theorem Sr.keep (r : Sr K m S H) (h : m[l]? = some a) (ho : HO) : yO K H (upd H a ho) := by
 obtain ⟨o0, h0, k0⟩ := r.at_ h
 obtain ⟨ho', e, nt, nf, nl⟩ := k0.some
 exact qd e nt nf nl _
end
noncomputable def iC (K : PySem.W.Frag) (m : List Addr) (H : Hp) (Q : VK) (u : U) (S' : Sto) : Prop := ∀ m' v H', Ext K m H m' H' → Sr K m' S' H' → Is K m' H' v u → Q v H'
noncomputable abbrev CE := Rho → Sto → Option (U × Sto)
noncomputable abbrev CT := Rho → Sto → Option (Bool × Sto)
noncomputable abbrev CA := Rho → Sto → Option (List U × Sto)
inductive Out where
 | nx | rt (u : U) | bk | ct
noncomputable abbrev CS := Rho → Sto → Option (Out × Rho × Sto)
noncomputable def wx (K : PySem.W.Frag) (m : List Addr) (H : Hp) (Q : Bool → Hp → Prop) (b : Bool) (S' : Sto) : Prop := ∀ m' H', Ext K m H m' H' → Sr K m' S' H' → Q b H'
noncomputable def DU (K : PySem.W.Frag) (m : List Addr) (H : Hp) (Q : List V → Hp → Prop) (us : List U) (S' : Sto) : Prop := ∀ m' vs H', Ext K m H m' H' → Sr K m' S' H' → IsL K m' H' vs us → Q vs H'
noncomputable def h7 (K : PySem.W.Frag) (m : List Addr) (H : Hp) (Q : L2.St → Hp → Prop) (ρ' : Rho) (S' : Sto) : Prop := ∀ m' σ' H', Ext K m H m' H' → Sr K m' S' H' → Lr K m' H' ρ' σ' → Q σ' H'
noncomputable def rk (K : PySem.W.Frag) (m : List Addr) (H : Hp) (D : w4) : Out → Rho → Sto → Prop
 | .nx, ρ', S' => h7 K m H D.nx ρ' S'
 | .bk, ρ', S' => h7 K m H D.bk ρ' S'
 | .ct, ρ', S' => h7 K m H D.ct ρ' S'
 | .rt u, _, S' => iC K m H D.rt u S'
theorem mM {α β γ δ ε : Type} {A B C D : α → β → γ → δ → ε → Prop} {p : Prop} (h : ∃ a b c d e, A a b c d e ∧ B a b c d e ∧ C a b c d e ∧ D a b c d e) (f : ∀ a b c d e, A a b c d e → B a b c d e → C a b c d e → D a b c d e → p) : p := by
 obtain ⟨a, b, c, d, e, h1, h2, h3, h4⟩ := h
 exact f a b c d e h1 h2 h3 h4
theorem tR {α β γ δ ε ζ : Type} {A B C D : α → β → γ → δ → ε → ζ → Prop} {p : Prop} (h : ∃ a b c d e g, A a b c d e g ∧ B a b c d e g ∧ C a b c d e g ∧ D a b c d e g) (f : ∀ a b c d e g, A a b c d e g → B a b c d e g → C a b c d e g → D a b c d e g → p) : p := by
 obtain ⟨a, b, c, d, e, g, h1, h2, h3, h4⟩ := h
 exact f a b c d e g h1 h2 h3 h4
theorem Es {α β γ δ ε ζ : Type} {A B C D E : α → β → γ → δ → ε → ζ → Prop} {p : Prop} (h : ∃ a b c d e g, A a b c d e g ∧ B a b c d e g ∧ C a b c d e g ∧ D a b c d e g ∧ E a b c d e g) (f : ∀ a b c d e g, A a b c d e g → B a b c d e g → C a b c d e g → D a b c d e g → E a b c d e g → p) : p := by
 obtain ⟨a, b, c, d, e, g, h1, h2, h3, h4, h5⟩ := h
 exact f a b c d e g h1 h2 h3 h4 h5
noncomputable def tE (K : PySem.W.Frag) (c : CE) : TE := fun σ H Q => ∃ m ρ S u S', Sr K m S H ∧ Lr K m H ρ σ ∧ c ρ S = some (u, S') ∧ iC K m H Q u S'
noncomputable def tT (K : PySem.W.Frag) (c : CT) : TT := fun σ H Q => ∃ m ρ S u S', Sr K m S H ∧ Lr K m H ρ σ ∧ c ρ S = some (u, S') ∧ wx K m H Q u S'
noncomputable def tA (K : PySem.W.Frag) (c : CA) : TA := fun σ H Q => ∃ m ρ S u S', Sr K m S H ∧ Lr K m H ρ σ ∧ c ρ S = some (u, S') ∧ DU K m H Q u S'
noncomputable def tS (K : PySem.W.Frag) (c : CS) : TS := fun D σ H => ∃ m ρ S o ρ' S', Sr K m S H ∧ Lr K m H ρ σ ∧ c ρ S = some (o, ρ', S') ∧ rk K m H D o ρ' S'
noncomputable abbrev QE (X : Cx) (e : Expr) (c : CE) : Prop := WE X e (tE X.K c)
noncomputable abbrev QT (X : Cx) (e : Expr) (c : CT) : Prop := WT X e (tT X.K c)
noncomputable abbrev QW (X : Cx) (e : Expr) (c : CT) : Prop := WW X e (tT X.K c)
noncomputable abbrev QS (X : Cx) (e : Stmt) (c : CS) : Prop := WS X e (tS X.K c)
noncomputable abbrev QSs (X : Cx) (e : List Stmt) (c : CS) : Prop := WSs X e (tS X.K c)
structure QA (X : Cx) (es : List Expr) (c : CA) : Prop where
 h : WA X es (tA X.K c)
 len : ∀ ρ S us S', c ρ S = some (us, S') → us.length = es.length
section
variable {X : Cx} {e : Expr} {es : List Expr} {st : Stmt} {sts : List Stmt}
theorem _root_.OG.WE.imp {t t' : TE} (h : WE X e t) (i : ∀ σ H Q, t' σ H Q → t σ H Q) : WE X e t' := ⟨fun pins s σ H Q I k => h.h pins s σ H Q I (i σ H Q k)⟩
theorem _root_.OG.WT.imp {t t' : TT} (h : WT X e t) (i : ∀ σ H Q, t' σ H Q → t σ H Q) : WT X e t' := ⟨fun pins s σ H Q I k => h.h pins s σ H Q I (i σ H Q k)⟩
theorem _root_.OG.WW.imp {t t' : TT} (h : WW X e t) (i : ∀ σ H Q, t' σ H Q → t σ H Q) : WW X e t' := ⟨fun wh pins s σ H Q I k => h.h wh pins s σ H Q I (i σ H Q k)⟩
theorem _root_.OG.WA.imp {t t' : TA} (h : WA X es t) (i : ∀ σ H Q, t' σ H Q → t σ H Q) : WA X es t' := ⟨fun pos pins s σ H Q I k => h.h pos pins s σ H Q I (i σ H Q k)⟩
theorem _root_.OG.WS.imp {t t' : TS} (h : WS X st t) (i : ∀ D σ H, t' D σ H → t D σ H) : WS X st t' := ⟨fun pins s σ H D I k => h.h pins s σ H D I (i D σ H k)⟩
theorem _root_.OG.WSs.imp {t t' : TS} (h : WSs X sts t) (i : ∀ D σ H, t' D σ H → t D σ H) : WSs X sts t' := ⟨fun pins s σ H D I k => h.h pins s σ H D I (i D σ H k)⟩
theorem _root_.OG.WI.imp {tg : Expr} {t t' : TI} (h : WI X tg e t) (i : ∀ σ H R, t' σ H R → t σ H R) : WI X tg e t' := ⟨fun pins s σ H R I k => h.h pins s σ H R I (i σ H R k)⟩
theorem _root_.OG.WG.imp {t t' : TG} (h : WG X e t) (i : ∀ v σ H Q, t' v σ H Q → t v σ H Q) : WG X e t' := ⟨fun pins s σ H v u Q I r k => h.h pins s σ H v u Q I r (i v σ H Q k)⟩
theorem _root_.OG.WGs.imp {t t' : TGs} (h : WGs X es t) (i : ∀ v σ H Q, t' v σ H Q → t v σ H Q) : WGs X es t' := ⟨fun pins s σ H v u Q I r k => h.h pins s σ H v u Q I r (i v σ H Q k)⟩
theorem _root_.OG.WE.or {t t' : TE} (h : WE X e t) (h' : WE X e t') : WE X e (fun σ H Q => t σ H Q ∨ t' σ H Q) := ⟨fun pins s σ H Q I k => k.elim (h.h pins s σ H Q I) (h'.h pins s σ H Q I)⟩
theorem _root_.OG.WT.or {t t' : TT} (h : WT X e t) (h' : WT X e t') : WT X e (fun σ H Q => t σ H Q ∨ t' σ H Q) := ⟨fun pins s σ H Q I k => k.elim (h.h pins s σ H Q I) (h'.h pins s σ H Q I)⟩
theorem _root_.OG.WS.or {t t' : TS} (h : WS X st t) (h' : WS X st t') : WS X st (fun D σ H => t D σ H ∨ t' D σ H) := ⟨fun pins s σ H D I k => k.elim (h.h pins s σ H D I) (h'.h pins s σ H D I)⟩
theorem _root_.OG.WI.or {tg : Expr} {t t' : TI} (h : WI X tg e t) (h' : WI X tg e t') : WI X tg e (fun σ H D => t σ H D ∨ t' σ H D) := ⟨fun pins s σ H D I k => k.elim (h.h pins s σ H D I) (h'.h pins s σ H D I)⟩
end
section
variable {K : PySem.W.Frag} {m m' : List Addr} {H H' : Hp} {Q : VK} {R : L2.St → Hp → Prop} {D : w4} {u : U} {o : Out} {S' : Sto} {ρ' : Rho}
theorem iC.mono (e : Ext K m H m' H') (p : iC K m H Q u S') : iC K m' H' Q u S' := fun m2 v H2 e2 r i => p m2 v H2 (e.trans e2) r i
theorem wx.mono {Q : Bool → Hp → Prop} {b : Bool} (e : Ext K m H m' H') (p : wx K m H Q b S') : wx K m' H' Q b S' := fun m2 H2 e2 r => p m2 H2 (e.trans e2) r
theorem h7.mono (e : Ext K m H m' H') (p : h7 K m H R ρ' S') : h7 K m' H' R ρ' S' := fun m2 v H2 e2 r i => p m2 v H2 (e.trans e2) r i
theorem rk.mono (e : Ext K m H m' H') (p : rk K m H D o ρ' S') : rk K m' H' D o ρ' S' := by
 cases o with
 | nx => exact h7.mono e p
 | rt u => exact iC.mono e p
 | bk => exact h7.mono e p
 | ct => exact h7.mono e p
end
noncomputable def LIM : Nat := 100000
theorem lim {n : Nat} (h : n ≤ LIM) : n ≤ sizeLine := Nat.le_trans h (by unfold LIM sizeLine; decide)
theorem Dk {n : Nat} (h : n < LIM) : n < sizeLine := Nat.lt_of_lt_of_le h (by unfold LIM sizeLine; decide)
noncomputable def ak (i : Nat) : CE := fun ρ S => match ρ[i]? with
 | some (some u) => some (u, S)
 | _ => none
noncomputable def cC (u : U) : CE := fun _ S => some (u, S)
section
variable {X : Cx} {e a b c : Expr} {ca cb cc : CE} {pos : Pos}
theorem ah {i : Nat} (h : WE X e (By i)) : QE X e (ak i) := h.imp fun σ H Q hz => mM hz fun m ρ S u S' sr lr hc post => by
 unfold ak at hc
 split at hc
 ·rename_i u' e
  cases hc
  obtain ⟨v, e1, e2⟩ := lr.at_ i u e
  exact ⟨v, e1, post m v H .refl sr e2⟩
 ·cases hc
theorem q_c {v : V} {u : U} (h : WE X e (tC v)) (hi : ∀ m H, Is X.K m H v u) : QE X e (cC u) := h.imp fun σ H Q hz => mM hz fun m ρ S u' S' sr lr hc post => by
 cases hc
 exact post m v H .refl sr (hi m H)
theorem ao {i : Int} (h : WE X e (tC (.int i))) : QE X e (cC (.int i)) := q_c h fun _ _ => .int_
theorem lV {i : Bool} (h : WE X e (tC (.bl i))) : QE X e (cC (.bl i)) := q_c h fun _ _ => .bl_
theorem aQ {i : Str} (h : WE X e (tC (.str i))) : QE X e (cC (.str i)) := q_c h fun _ _ => .str_
theorem mw (h : WE X e (tC .non)) : QE X e (cC .non) := q_c h fun _ _ => .non_
noncomputable def cOp (f : U → U → Sto → Option (U × Sto)) (ca cb : CE) : CE := fun ρ S => (ca ρ S).bind fun p => (cb ρ p.2).bind fun q => f p.1 q.1 q.2
noncomputable def OpP (K : PySem.W.Frag) (r : R2) (f : U → U → Sto → Option (U × Sto)) : Prop :=
 ∀ m S H x y v w u S' Q, Sr K m S H → Is K m H v x → Is K m H w y → f x y S = some (u, S') → iC K m H Q u S' → r v w H Q
theorem sW {K : PySem.W.Frag} {r : R2} {f : U → U → Sto → Option (U × Sto)} (hp : OpP K r f) : ∀ σ H Q, tE K (cOp f ca cb) σ H Q → tOp r (tE K ca) (tE K cb) σ H Q := by
 rintro σ H Q ⟨m, ρ, S, u, S', sr, lr, hc, post⟩
 obtain ⟨⟨x, S1⟩, h1, h⟩ := Option.bind_eq_some_iff.mp hc
 obtain ⟨⟨y, S2⟩, h2, h3⟩ := Option.bind_eq_some_iff.mp h
 exact ⟨m, ρ, S, x, S1, sr, lr, h1, fun m1 v1 H1 e1 sr1 i1 => ⟨m1, ρ, S1, y, S2, sr1, lr.mono e1, h2, fun m2 v2 H2 e2 sr2 i2 => hp m2 S2 H2 x y v1 v2 u S' Q sr2 (i1.mono e2) i2 h3 (post.mono (e1.trans e2))⟩⟩
theorem bw {op : Operator} {r : R2} {f : U → U → Sto → Option (U × Sto)} (ho : OpR X (binaryOp op) r) (hp : OpP X.K r f) (ha : QE X a ca) (hb : QE X b cb) : QE X (.BinOp a op b pos) (cOp f ca cb) := (zK ho ha hb).imp (sW hp)
theorem oE {op : CmpOp} {r : R2} {f : U → U → Sto → Option (U × Sto)} (ho : OpR X (compareOp op) r) (hp : OpP X.K r f) (ha : QE X a ca) (hb : QE X b cb) (hm : behindInMarks op b = false) : QE X (.Compare a [op] [b] pos) (cOp f ca cb) := (pM ho ha hb hm).imp (sW hp)
noncomputable def aE (c : CE) : CT := fun ρ S => (c ρ S).bind fun p => match p.1 with
 | .bl b => some (b, p.2)
 | _ => none
theorem mj {K : PySem.W.Frag} {c : CE} {t : TE} (h : ∀ σ H Q, tE K c σ H Q → t σ H Q) : ∀ σ H Q, tT K (aE c) σ H Q → t σ H fun x H' => ∃ k, x = .bl k ∧ Q k H' := by
 rintro σ H Q ⟨m, ρ, S, u, S', sr, lr, hc, post⟩
 obtain ⟨⟨x, S1⟩, h1, h2⟩ := Option.bind_eq_some_iff.mp hc
 refine h σ H _ ⟨m, ρ, S, x, S1, sr, lr, h1, fun m1 v1 H1 e1 sr1 i1 => ?_⟩
 cases x <;> simp at h2
 obtain ⟨rfl, rfl⟩ := h2
 exact ⟨_, i1.of_bl, post m1 H1 e1 sr1⟩
theorem aP {op : CmpOp} {r : R2} {f : U → U → Sto → Option (U × Sto)} (ho : OpR X (compareOp op) r) (hp : OpP X.K r f) (ha : QE X a ca) (hb : QE X b cb) (hm : behindInMarks op b = false) : QT X (.Compare a [op] [b] pos) (aE (cOp f ca cb)) := (pI ho ha hb hm).imp (mj (sW hp))
theorem gf (h : QE X e ca) (he : ∀ whole, isTrue e X.env whole = (do let v ← whole; standAt e.pos; holding [v] (truthy v)) := by intro _; rfl) : QT X e (aE ca) := (xA h he).imp (mj fun _ _ _ z => z)
variable {ta tb : CT} {rest : List Expr}
noncomputable def md (ta tb : CT) : CT := fun ρ S => (ta ρ S).bind fun p => if p.1 = true then tb ρ p.2 else some (false, p.2)
noncomputable def cOr (ta tb : CT) : CT := fun ρ S => (ta ρ S).bind fun p => if p.1 = true then some (true, p.2) else tb ρ p.2
noncomputable def oY (ta : CT) : CT := fun ρ S => (ta ρ S).bind fun p => some (!p.1, p.2)
theorem oD (h : QW X e ta) : QT X e ta := WW.pt h
theorem nz (ha : QT X a ta) : QW X (.BoolOp .And [a] pos) ta := u0 ha
theorem lx (ha : QT X a ta) : QW X (.BoolOp .Or [a] pos) ta := xx ha
theorem nA (ha : QT X a ta) (hb : QW X (.BoolOp .And (b :: rest) pos) tb) : QW X (.BoolOp .And (a :: b :: rest) pos) (md ta tb) := (xy ha hb).imp fun σ H Q hz => mM hz fun m ρ S u S' sr lr hc post => by
 obtain ⟨⟨x, S1⟩, h1, h2⟩ := Option.bind_eq_some_iff.mp hc
 refine ⟨m, ρ, S, x, S1, sr, lr, h1, fun m1 H1 e1 sr1 => ?_⟩
 cases x with
 | true => exact A6 ⟨m1, ρ, S1, u, S', sr1, lr.mono e1, h2, post.mono e1⟩
 | false => cases h2; exact A7 (post m1 H1 e1 sr1)
theorem sJ (ha : QT X a ta) (hb : QW X (.BoolOp .Or (b :: rest) pos) tb) : QW X (.BoolOp .Or (a :: b :: rest) pos) (cOr ta tb) := (zH ha hb).imp fun σ H Q hz => mM hz fun m ρ S u S' sr lr hc post => by
 obtain ⟨⟨x, S1⟩, h1, h2⟩ := Option.bind_eq_some_iff.mp hc
 refine ⟨m, ρ, S, x, S1, sr, lr, h1, fun m1 H1 e1 sr1 => ?_⟩
 cases x with
 | true => cases h2; exact A6 (post m1 H1 e1 sr1)
 | false => exact A7 ⟨m1, ρ, S1, u, S', sr1, lr.mono e1, h2, post.mono e1⟩
theorem gh (ha : QT X a ta) : QT X (.UnaryOp .Not a pos) (oY ta) := (xB ha).imp fun σ H Q hz => mM hz fun m ρ S u S' sr lr hc post => by
 obtain ⟨⟨x, S1⟩, h1, h2⟩ := Option.bind_eq_some_iff.mp hc
 cases h2
 exact ⟨m, ρ, S, x, _, sr, lr, h1, fun m1 H1 e1 sr1 => post m1 H1 e1 sr1⟩
noncomputable def hU (ca cb : CE) : CE := fun ρ S => (ca ρ S).bind fun p => match p.1 with
 | .bl true => cb ρ p.2
 | .bl false => some (.bl false, p.2)
 | _ => none
noncomputable def Et (ca cb : CE) : CE := fun ρ S => (ca ρ S).bind fun p => match p.1 with
 | .bl false => cb ρ p.2
 | .bl true => some (.bl true, p.2)
 | _ => none
noncomputable def uj (ca : CE) : CE := fun ρ S => (ca ρ S).bind fun p => match p.1 with
 | .bl b => some (.bl (!b), p.2)
 | _ => none
theorem mv {op} (h : QE X a ca) : QE X (.BoolOp op [a] pos) ca := xI h
theorem gj (ha : QE X a ca) (hb : QE X (.BoolOp .And (b :: rest) pos) cb) : QE X (.BoolOp .And (a :: b :: rest) pos) (hU ca cb) := (xN ha hb).imp fun σ H Q hz => mM hz fun m ρ S u S' sr lr hc post => by
 obtain ⟨⟨x, S1⟩, h1, h2⟩ := Option.bind_eq_some_iff.mp hc
 refine ⟨m, ρ, S, x, S1, sr, lr, h1, fun m1 v1 H1 e1 sr1 i1 => ?_⟩
 cases x with
 | bl k =>
  refine ⟨k, i1.of_bl, ?_⟩
  cases k with
  | true => exact A6 ⟨m1, ρ, S1, u, S', sr1, lr.mono e1, h2, post.mono e1⟩
  | false => cases h2; exact A7 (post m1 _ H1 e1 sr1 .bl_)
 | _ => simp at h2
theorem wN (ha : QE X a ca) : QE X (.UnaryOp .Not a pos) (uj ca) := (xJ ha).imp fun σ H Q hz => mM hz fun m ρ S u S' sr lr hc post => by
 obtain ⟨⟨x, S1⟩, h1, h2⟩ := Option.bind_eq_some_iff.mp hc
 refine ⟨m, ρ, S, x, S1, sr, lr, h1, fun m1 v1 H1 e1 sr1 i1 => ?_⟩
 cases x with
 | bl k => cases h2; exact ⟨k, i1.of_bl, post m1 _ H1 e1 sr1 .bl_⟩
 | _ => simp at h2
noncomputable def cIf (t : CT) (ca cb : CE) : CE := fun ρ S => (t ρ S).bind fun p => if p.1 = true then ca ρ p.2 else cb ρ p.2
noncomputable def ma (f f' : U → U → Sto → Option (U × Sto)) (ca cb cc : CE) : CE := fun ρ S => (ca ρ S).bind fun p => (cb ρ p.2).bind fun q => (f p.1 q.1 q.2).bind fun r => match r.1 with
 | .bl true => (cc ρ r.2).bind fun z => f' q.1 z.1 z.2
 | .bl false => some (.bl false, r.2)
 | _ => none
theorem uf {K : PySem.W.Frag} {r r' : R2} {f f' : U → U → Sto → Option (U × Sto)} (hp : OpP K r f) (hp' : OpP K r' f') : ∀ σ H Q, tE K (ma f f' ca cb cc) σ H Q → sh r r' (tE K ca) (tE K cb) (tE K cc) σ H Q := by
 rintro σ H Q ⟨m, ρ, S, u, S', sr, lr, hc, post⟩
 obtain ⟨⟨x, S1⟩, h1, h⟩ := Option.bind_eq_some_iff.mp hc
 obtain ⟨⟨y, S2⟩, h2, h⟩ := Option.bind_eq_some_iff.mp h
 obtain ⟨⟨z, S3⟩, h3, h4⟩ := Option.bind_eq_some_iff.mp h
 refine ⟨m, ρ, S, x, S1, sr, lr, h1, fun m1 v1 H1 e1 sr1 i1 => ⟨m1, ρ, S1, y, S2, sr1, lr.mono e1, h2, fun m2 v2 H2 e2 sr2 i2 => hp m2 S2 H2 x y v1 v2 z S3 _ sr2 (i1.mono e2) i2 h3 fun m3 v3 H3 e3 sr3 i3 => ?_⟩⟩
 have e03 := (e1.trans e2).trans e3
 cases z with
 | bl k =>
  refine ⟨k, i3.of_bl, ?_⟩
  cases k with
  | true =>
   obtain ⟨⟨w, S4⟩, h5, h6⟩ := Option.bind_eq_some_iff.mp h4
   exact A6 ⟨m3, ρ, S3, w, S4, sr3, lr.mono e03, h5, fun m4 v4 H4 e4 sr4 i4 => hp' m4 S4 H4 y w v2 v4 u S' Q sr4 (i2.mono (e3.trans e4)) i4 h6 (post.mono (e03.trans e4))⟩
  | false => cases h4; exact A7 (post m3 _ H3 e03 sr3 .bl_)
 | _ => simp at h4
theorem sM {op op' : CmpOp} {r r' : R2} {f f' : U → U → Sto → Option (U × Sto)} (ho : OpR X (compareOp op) r) (hp : OpP X.K r f) (ho' : OpR X (compareOp op') r') (hp' : OpP X.K r' f') (ha : QE X a ca) (hb : QE X b cb) (hc : QE X c cc)
  (hm : lastMarks [op, op'] [b, c] = false := by with_unfolding_all rfl) : QE X (.Compare a [op, op'] [b, c] pos) (ma f f' ca cb cc) := (rX ho ho' ha hb hc hm).imp (uf hp hp')
variable {es : List Expr} {cr : CA}
noncomputable def aq : CA := fun _ S => some ([], S)
noncomputable def ab (ca : CE) (cr : CA) : CA := fun ρ S => (ca ρ S).bind fun p => (cr ρ p.2).bind fun q => some (p.1 :: q.1, q.2)
theorem ar : QA X [] aq := ⟨ib.imp fun σ H Q hz => mM hz fun m ρ S u S' sr lr hc post => by cases hc; exact post m [] H .refl sr .nil_, fun ρ S us S' h => by cases h; rfl⟩
theorem ae (ha : QE X e ca) (hr : QA X es cr) (hs : starEach (e :: es) X.env = (false, eval e X.env) :: starEach es X.env := by rfl) : QA X (e :: es) (ab ca cr) := ⟨(d8 ha hr.h hs).imp fun σ H Q hz => mM hz fun m ρ S u S' sr lr hc post => by
 obtain ⟨⟨x, S1⟩, h1, h⟩ := Option.bind_eq_some_iff.mp hc
 obtain ⟨⟨y, S2⟩, h2, h3⟩ := Option.bind_eq_some_iff.mp h
 cases h3
 exact ⟨m, ρ, S, x, S1, sr, lr, h1, fun m1 v1 H1 e1 sr1 i1 => ⟨m1, ρ, S1, y, S2, sr1, lr.mono e1, h2, fun m2 v2 H2 e2 sr2 i2 => post m2 _ H2 (e1.trans e2) sr2 (.cons_ (i1.mono e2) i2)⟩⟩,
 fun ρ S us S' h => by
 obtain ⟨⟨x, S1⟩, h1, h⟩ := Option.bind_eq_some_iff.mp h
 obtain ⟨⟨y, S2⟩, h2, h3⟩ := Option.bind_eq_some_iff.mp h
 cases h3
 simp [hr.len ρ S1 y S2 h2]⟩
noncomputable def aF (cr : CA) : CE := fun ρ S => (cr ρ S).bind fun p => some (.tup p.1, p.2)
noncomputable def eD (cr : CA) : CE := fun ρ S => (cr ρ S).bind fun p => some (.ref p.2.length, p.2 ++ [.lst p.1])
theorem mD {m : List Addr} {S : Sto} {q : Addr} (h : m.length = S.length) : (m ++ [q])[S.length]? = some q := by rw [List.getElem?_append_right (by omega)]; simp [h]
theorem mx {K : PySem.W.Frag} {m : List Addr} {H : Hp} {S : Sto} {us : List U} {xs : List V} {Q : VK} {p : Addr} (sr : Sr K m S H) (i : IsL K m H xs us) (post : iC K m H Q (.tup us) S) (hp : H p = none) : Q (.ref p) (upd H p (.tup xs)) :=
 post m _ _ (.of (eU hp _)) (sr.same (dy hp _)) (.tup_ (SqT.of bQ) (i.mono (.of (eU hp _))))
theorem gC {K : PySem.W.Frag} {m : List Addr} {H : Hp} {S : Sto} {us : List U} {xs : List V} {Q : VK} {p : Addr} (sr : Sr K m S H) (i : IsL K m H xs us) (post : iC K m H Q (.ref S.length) (S ++ [.lst us])) (hp : H p = none) : Q (.ref p) (upd H p (.lst xs)) :=
 post (m ++ [p]) _ _ (.new (eU hp _)) (sr.new hp ⟨xs, bQ, i.mono (.new (eU hp _))⟩) (.ref_ (mD sr.len))
theorem aI {x1} (h : QA X es cr) (hl : es.length ≤ 1000 := by exact Nat.le_of_ble_eq_true rfl) : QE X (.Tuple es x1 pos) (aF cr) := (xH h.h).imp fun σ H Q hz => mM hz fun m ρ S u S' sr lr hc post => by
 obtain ⟨⟨us, S1⟩, h1, h2⟩ := Option.bind_eq_some_iff.mp hc
 cases h2
 refine ⟨m, ρ, S, us, _, sr, lr, h1, fun m1 v1 H1 e1 sr1 i1 => ⟨nk ?_, fun p hp => mx sr1 i1 (post.mono e1) hp⟩⟩
 rw [i1.length, h.len _ _ _ _ h1]; exact hl
theorem dJ (h : QA X es cr) (hl : es.length ≤ 1000 := by exact Nat.le_of_ble_eq_true rfl) : QE X (.List es pos) (eD cr) := (rW h.h).imp fun σ H Q hz => mM hz fun m ρ S u S' sr lr hc post => by
 obtain ⟨⟨us, S1⟩, h1, h2⟩ := Option.bind_eq_some_iff.mp hc
 cases h2
 refine ⟨m, ρ, S, us, _, sr, lr, h1, fun m1 v1 H1 e1 sr1 i1 => ⟨nk ?_, fun p hp => gC sr1 i1 (post.mono e1) hp⟩⟩
 rw [i1.length, h.len _ _ _ _ h1]; exact hl
noncomputable def cCB (f : List U → Sto → Option (U × Sto)) (cr : CA) : CE := fun ρ S => (cr ρ S).bind fun p => f p.1 p.2
noncomputable def lg (K : PySem.W.Frag) (r : List V → Hp → VK → Prop) (f : List U → Sto → Option (U × Sto)) : Prop :=
 ∀ m S H us vs u S' Q, Sr K m S H → IsL K m H vs us → f us S = some (u, S') → iC K m H Q u S' → r vs H Q
theorem wY {K : PySem.W.Frag} {r : List V → Hp → VK → Prop} {f : List U → Sto → Option (U × Sto)} (hp : lg K r f) : ∀ σ H Q, tE K (cCB f cr) σ H Q → tCB r (tA K cr) σ H Q := by
 rintro σ H Q ⟨m, ρ, S, u, S', sr, lr, hc, post⟩
 obtain ⟨⟨us, S1⟩, h1, h2⟩ := Option.bind_eq_some_iff.mp hc
 exact ⟨m, ρ, S, us, S1, sr, lr, h1, fun m1 v1 H1 e1 sr1 i1 => hp m1 S1 H1 us v1 u S' Q sr1 i1 h2 (post.mono e1)⟩
theorem bR {id : String} {x : Str} {p : Pos} {r : List V → Hp → VK → Prop} {f : List U → Sto → Option (U × Sto)} (hc : eQ X (.builtin id) r) (hp : lg X.K r f) (hg : Gl X x) (hm : X.mg x = none) (hv : bootBuiltins x = some (.builtin id)) (ha : QA X (e :: es) cr) (hn : x ≠ "__name__" := by decide) (hdb : (x == ("__debug__" : Str)) = false := by decide) (he : starEach (e :: es) X.env = (false, eval e X.env) :: starEach es X.env := by rfl) (hpl : (backTo pos (starEach es X.env)).any (·.1) = false := by rfl) :
  QE X (.Call (.Name x p) (e :: es) [] pos) (cCB f cr) := (m7 hc hg hm hv ha.h hn hdb he hpl).imp (wY hp)
theorem fH {id : String} {x : Str} {p : Pos} {r : List V → Hp → VK → Prop} {f : List U → Sto → Option (U × Sto)} (hc : eQ X (.type id) r) (hp : lg X.K r f) (hg : Gl X x) (hm : X.mg x = none) (hv : bootBuiltins x = some (.type id)) (ha : QA X (e :: es) cr) (hn : x ≠ "__name__" := by decide) (hdb : (x == ("__debug__" : Str)) = false := by decide) (he : starEach (e :: es) X.env = (false, eval e X.env) :: starEach es X.env := by rfl) (hpl : (backTo pos (starEach es X.env)).any (·.1) = false := by rfl) :
  QE X (.Call (.Name x p) (e :: es) [] pos) (cCB f cr) := (lL hc hg hm hv ha.h hn hdb he hpl).imp (wY hp)
end
noncomputable def Bz (K : PySem.W.Frag) (f : List U → Sto → Option (U × Sto)) : Sp := fun vs H Q _ => ∃ m us S u S', IsL K m H vs us ∧ Sr K m S H ∧ f us S = some (u, S') ∧ iC K m H Q u S'
noncomputable abbrev Fn := List U → Sto → Option (U × Sto)
noncomputable abbrev bI (P : Program) (w : World) (K : PySem.W.Frag) (mg : Str → Option Value) (base : Heap) (x : Str) (k : Nat) (ps : List Str) (f : Fn) : Prop := Has P w K mg base x k ps (Bz K f)
noncomputable def nh (n : Nat) (us : List U) : Rho := us.map some ++ List.replicate (n - us.length) none
noncomputable def fnU (n k : Nat) (c : CS) : Fn := fun us S => if us.length = k then (c (nh n us) S).bind fun r => match r.1 with
 | .rt u => some (u, r.2.2)
 | .nx => some (.non, r.2.2)
 | _ => none else none
section
variable {P : Program} {w : World} {K : PySem.W.Frag} {mg : Str → Option Value} {base : Heap} {x : Str} {st : Stmt} {ps N : List Str} {k : Nat} {c : CS} {f : Fn}
theorem vL {m : List Addr} {H : Hp} {vs : List V} {us : List U} (i : IsL K m H vs us) : Lr K m H (nh N.length us) (L2.gT N vs) := by
 have hl := i.length
 refine ⟨by simp [nh, L2.gT, hl], fun j u e => ?_⟩
 unfold nh at e
 unfold L2.gT
 by_cases c : j < us.length
 ·rw [List.getElem?_append_left (by simpa using c), List.getElem?_map] at e
  rw [List.getElem?_append_left (by simpa [hl] using c), List.getElem?_map]
  rw [List.getElem?_eq_getElem c] at e
  simp at e
  obtain ⟨v, e1, e2⟩ := i.getD (List.getElem?_eq_getElem c)
  rw [e1]
  subst e
  exact ⟨v, rfl, e2⟩
 ·rw [List.getElem?_append_right (by simpa using c), List.getElem?_replicate] at e
  split at e <;> cases e
theorem yG {X : Cx} {body : List Stmt} {Q : VK} {E : XK} {vs : List V} {H : Hp} (hK : X.K = K) (h : Bz K (fnU N.length ps.length c) vs H Q E) : tS X.K c { nx := fun _ H' => Q .non H', rt := Q } (L2.gT N vs) H := by
 subst hK
 obtain ⟨m, us, S, u, S', i, sr, hf, post⟩ := h
 unfold fnU at hf
 split at hf
 ·obtain ⟨⟨o, ρ', S2⟩, h1, h2⟩ := Option.bind_eq_some_iff.mp hf
  refine ⟨m, _, S, o, ρ', S2, sr, vL i, h1, ?_⟩
  cases o with
  | rt v => cases h2; exact post
  | nx => cases h2; exact fun m1 σ1 H1 e1 sr1 _ => post m1 _ H1 e1 sr1 .non_
  | bk => simp at h2
  | ct => simp at h2
 ·cases hf
theorem vi {vs : List V} {H : Hp} {Q : VK} {E : XK} {n k : Nat} (h : Bz K (fnU n k c) vs H Q E) : vs.length = k := by
 obtain ⟨m, us, S, u, S', i, sr, hf, post⟩ := h
 unfold fnU at hf
 split at hf
 ·rename_i e
  rw [i.length, e]
 ·cases hf
theorem _root_.OG.Def.pure (d : Def K mg x st ps) (S : aY N ps (ax st))
  (hb : ∀ (f : Addr) (cdv : Value) (A : Around) (outer : List Env) (s : Shared) (H : Hp) (E : XK), kK k (A.deeper (envOfC x (ax st) s.heap.objs.size f cdv)) →
   WSs (uN CX0 P w K mg base N x (ax st) f cdv A outer s H E).nox (aU st) (tS K c)) : bI P w K mg base x (k + 1) ps (fnU N.length ps.length c) :=
 d.has S (fun vs H Q E h => vi h) fun f cdv A outer s H vs Q E hr h => ⟨_, hb f cdv A outer s H E hr, yG (X := (uN CX0 P w K mg base N x (ax st) f cdv A outer s H E).nox) (body := []) (ps := ps) rfl h⟩
theorem _root_.OG.Def.no (d : Def K mg x st ps) : bI P w K mg base x k ps (fun _ _ => none) := d.none fun vs H Q E h => by
 obtain ⟨m, us, S, u, S', i, sr, hf, post⟩ := h
 cases hf
theorem aD {X : Cx} {e : Expr} {es : List Expr} {cr : CA} {p pos : Pos} (F : Has X.prog X.w X.K X.mg X.base x k ps (Bz X.K f)) (hr : kK k X.A) (hg : Gl X x) (ha : QA X (e :: es) cr)
  (hdb : (x == ("__debug__" : Str)) = false := by decide) (he : starEach (e :: es) X.env = (false, eval e X.env) :: starEach es X.env := by rfl) (hpl : (backTo pos (starEach es X.env)).any (·.1) = false := by rfl) :
  QE X (.Call (.Name x p) (e :: es) [] pos) (cCB f cr) := (wC F hr hg ha.h hdb he hpl).imp fun σ H Q hz => mM hz fun m ρ S u S' sr lr hc post => by
 obtain ⟨⟨us, S1⟩, h1, h2⟩ := Option.bind_eq_some_iff.mp hc
 exact ⟨m, ρ, S, us, S1, sr, lr, h1, fun m1 v1 H1 e1 sr1 i1 => ⟨m1, us, S1, u, S', by simpa using i1, sr1, h2, post.mono e1⟩⟩
end
section
variable {X : Cx} {e a b c : Expr} {ca cb cc : CE} {pos : Pos} {st : Stmt} {sts : List Stmt} {c1 c2 : CS}
noncomputable def bP : CS := fun ρ S => some (.nx, ρ, S)
noncomputable def bx (c1 c2 : CS) : CS := fun ρ S => (c1 ρ S).bind fun r => match r.1 with
 | .nx => c2 r.2.1 r.2.2
 | o => some (o, r.2.1, r.2.2)
theorem bj : QSs X [] bP := u5.imp fun D σ H hz => tR hz fun m ρ S o ρ' S' sr lr hc post => by cases hc; exact post m σ H .refl sr lr
theorem aw (h1 : QS X st c1) (h2 : QSs X sts c2) : QSs X (st :: sts) (bx c1 c2) := (mZ h1 h2).imp fun D σ H hz => tR hz fun m ρ S o ρ' S' sr lr hc post => by
 obtain ⟨⟨o1, ρ1, S1⟩, h1, h2⟩ := Option.bind_eq_some_iff.mp hc
 refine ⟨m, ρ, S, o1, ρ1, S1, sr, lr, h1, ?_⟩
 cases o1 with
 | nx => exact fun m1 σ1 H1 e1 sr1 lr1 => ⟨m1, ρ1, S1, o, ρ', S', sr1, lr1, h2, post.mono e1⟩
 | rt u => cases h2; exact post
 | bk => cases h2; exact post
 | ct => cases h2; exact post
theorem aC (h1 : QS X st c1) : QSs X [st] c1 := pJ h1
noncomputable def lJ (ca : CE) : CS := fun ρ S => (ca ρ S).bind fun p => some (.nx, ρ, p.2)
theorem mr (he : QE X e ca) (hs : swapsWith e none pos.line X.env = pure false := by rfl) : QS X (.Expr e pos) (lJ ca) := (u6 he hs).imp fun D σ H hz => tR hz fun m ρ S o ρ' S' sr lr hc post => by
 obtain ⟨⟨u, S1⟩, h1, h2⟩ := Option.bind_eq_some_iff.mp hc
 cases h2
 exact ⟨m, ρ, S, u, _, sr, lr, h1, fun m1 v1 H1 e1 sr1 i1 => post m1 σ H1 e1 sr1 (lr.mono e1)⟩
noncomputable def cS (ca : CE) : CS := fun ρ S => (ca ρ S).bind fun p => some (.rt p.1, ρ, p.2)
theorem aM (he : QE X e ca) : QS X (.Return (some e) pos) (cS ca) := (rR he).imp fun D σ H hz => tR hz fun m ρ S o ρ' S' sr lr hc post => by
 obtain ⟨⟨u, S1⟩, h1, h2⟩ := Option.bind_eq_some_iff.mp hc
 cases h2
 exact ⟨m, ρ, S, u, _, sr, lr, h1, post⟩
noncomputable def dq (t : CT) (c1 c2 : CS) : CS := fun ρ S => (t ρ S).bind fun p => if p.1 = true then c1 ρ p.2 else c2 ρ p.2
theorem bX {t : CT} {s1 s2 : List Stmt} (hc : QT X c t) (h1 : QSs X s1 c1) (h2 : QSs X s2 c2) : QS X (.If c s1 s2 pos) (dq t c1 c2) := (zI hc h1 h2).imp fun D σ H hz => tR hz fun m ρ S o ρ' S' sr lr hc post => by
 obtain ⟨⟨x, S1⟩, h1, h2⟩ := Option.bind_eq_some_iff.mp hc
 refine ⟨m, ρ, S, x, S1, sr, lr, h1, fun m1 H1 e1 sr1 => ?_⟩
 cases x with
 | true => exact A6 ⟨m1, ρ, S1, o, ρ', S', sr1, lr.mono e1, h2, post.mono e1⟩
 | false => exact A7 ⟨m1, ρ, S1, o, ρ', S', sr1, lr.mono e1, h2, post.mono e1⟩
noncomputable abbrev CG := U → Rho → Sto → Option (Rho × Sto)
noncomputable def tG (K : PySem.W.Frag) (g : CG) : TG := fun v σ H Q => ∃ m ρ S u ρ' S', Sr K m S H ∧ Lr K m H ρ σ ∧ Is K m H v u ∧ g u ρ S = some (ρ', S') ∧ h7 K m H Q ρ' S'
noncomputable abbrev QG (X : Cx) (e : Expr) (g : CG) : Prop := WG X e (tG X.K g)
noncomputable def gNm (i : Nat) : CG := fun u ρ S => some (ρ.set i (some u), S)
theorem fc {i : Nat} (h : WG X e (qX i)) : QG X e (gNm i) := h.imp fun v σ H Q hz => Es hz fun m ρ S u ρ' S' sr lr iu hc post => by
 cases hc
 exact post m _ H .refl sr (lr.set i iu)
noncomputable def fQ : List Nat → List U → Rho → Option Rho
 | [], [], ρ => some ρ
 | i :: is, u :: us, ρ => fQ is us (ρ.set i (some u))
 | _, _, _ => none
noncomputable def tGs (K : PySem.W.Frag) (is : List Nat) : TGs := fun vs σ H Q => ∃ m ρ S us ρ', Sr K m S H ∧ Lr K m H ρ σ ∧ IsL K m H vs us ∧ fQ is us ρ = some ρ' ∧ h7 K m H Q ρ' S
noncomputable abbrev QGs (X : Cx) (es : List Expr) (is : List Nat) : Prop := WGs X es (tGs X.K is)
theorem sI : QGs X [] [] := va.imp fun v σ H Q ⟨m, ρ, S, us, ρ', sr, lr, iu, hc, post⟩ => by
 cases us with
 | nil => cases hc; exact ⟨iu.of_nil, post m σ H .refl sr lr⟩
 | cons a r => simp [fQ] at hc
theorem gY {i : Nat} {is : List Nat} {es : List Expr} (h : WG X e (qX i)) (h2 : QGs X es is) (hs : (assignEach (e :: es) X.env).map (·.2) = assign e X.env :: (assignEach es X.env).map (·.2) := by rfl) : QGs X (e :: es) (i :: is) := (rV h h2 hs).imp fun v σ H Q ⟨m, ρ, S, us, ρ', sr, lr, iu, hc, post⟩ => by
 cases us with
 | nil => simp [fQ] at hc
 | cons u r =>
  obtain ⟨x, xr, rfl, i1, i2⟩ := iu.of_cons
  exact ⟨x, xr, rfl, m, ρ.set i (some u), S, r, ρ', sr, lr.set i i1, i2, hc, post⟩
noncomputable def gTp (is : List Nat) : CG := fun u ρ S => match u with
 | .tup us => (fQ is us ρ).bind fun ρ' => some (ρ', S)
 | _ => none
theorem lS : ∀ {is : List Nat} {us : List U} {ρ ρ' : Rho}, fQ is us ρ = some ρ' → us.length = is.length
 | [], [], _, _, _ => rfl
 | [], _ :: _, _, _, h => by simp [fQ] at h
 | _ :: _, [], _, _, h => by simp [fQ] at h
 | i :: is, u :: us, ρ, ρ', h => by
  have := lS (is := is) (us := us) h
  simp [this]
theorem wM {is : List Nat} {es : List Expr} {k : Nat} (hc : X.calm = true) (h : QGs X es is) (hn : (assignEach es X.env).length = is.length := by rfl) (hst : (assignEach es X.env).findIdx? (·.1) = none := by rfl) : QG X (.Tuple es k pos) (gTp is) := (xF hc h hn hst).imp fun v σ H Q hz => Es hz fun m ρ S u ρ' S' sr lr iu hc post => by
 cases u with
 | tup us =>
  obtain ⟨ρ2, h1, h2⟩ := Option.bind_eq_some_iff.mp hc
  cases h2
  obtain ⟨a, xs, rfl, sq, il⟩ := iu.of_tup
  refine ⟨a, xs, rfl, sq, ?_, m, ρ, S, us, ρ', sr, lr, il, h1, post⟩
  rw [il.length]; exact lS h1
 | _ => simp [gTp] at hc
noncomputable def BL (ca : CE) (g : CG) : CS := fun ρ S => (ca ρ S).bind fun p => (g p.1 ρ p.2).bind fun q => some (.nx, q.1, q.2)
theorem yN {K : PySem.W.Frag} {g : CG} : ∀ D σ H, tS K (BL ca g) D σ H → zW (tE K ca) (tG K g) D σ H := by
 rintro D σ H ⟨m, ρ, S, o, ρ', S', sr, lr, hc, post⟩
 obtain ⟨⟨u, S1⟩, h1, h2⟩ := Option.bind_eq_some_iff.mp hc
 obtain ⟨⟨ρ2, S2⟩, h3, h4⟩ := Option.bind_eq_some_iff.mp h2
 cases h4
 exact ⟨m, ρ, S, u, S1, sr, lr, h1, fun m1 v1 H1 e1 sr1 i1 => ⟨m1, ρ, S1, u, _, _, sr1, lr.mono e1, i1, h3, h7.mono e1 post⟩⟩
theorem Ae {tg : Expr} {g : CG} (he : QE X e ca) (hg : QG X tg g) (hs : swapsWithSole [tg] e pos.line X.env = pure false := by rfl) (hw : swappedStores [tg] e X.env = pure none := by rfl)
  (h1 : (assignEach [tg] X.env).map (·.2) = [assign tg X.env] := by rfl) : QS X (.Assign [tg] e pos) (BL ca g) := (rS he hg hs hw h1).imp yN
noncomputable def b8 (i : Nat) (ca : CE) : CS := fun ρ S => (ca ρ S).bind fun p => some (.nx, ρ.set i (some p.1), p.2)
theorem aL {i : Nat} {x : Str} {pos' : Pos} (hN : X.N.Nodup) (hi : X.N[i]? = some x) (hx : Loc X.env.scope x) (he : QE X e ca) (hs : swapsWith e (some (.Name x pos')) pos.line X.env = pure false := by rfl) (hf : X.fn x = true ∨ X.env.scope.names.lookup x = some .local := by first | exact .inl rfl | exact .inr rfl | assumption) :
  QS X (.Assign [.Name x pos'] e pos) (b8 i ca) := (rQ hN hi hx he hs hf).imp fun D σ H hz => tR hz fun m ρ S o ρ' S' sr lr hc post => by
 obtain ⟨⟨u, S1⟩, h1, h2⟩ := Option.bind_eq_some_iff.mp hc
 cases h2
 exact ⟨m, ρ, S, u, _, sr, lr, h1, fun m1 v1 H1 e1 sr1 i1 => post m1 _ H1 e1 sr1 ((lr.mono e1).set i i1)⟩
noncomputable abbrev CI := Rho → Sto → Option (List U × (Sto → Prop) × Sto)
noncomputable def yV (K : PySem.W.Frag) (J : It) (m : List Addr) (H : Hp) (us : List U) (ok : Sto → Prop) : Prop := ∀ m2 S2 H2 i, Ext K m H m2 H2 → Sr K m2 S2 H2 → ok S2 →
 (∀ u, us[i]? = some u → J.go i H2 ∧ ∀ x H3, J.yld i H2 x H3 → Ext K m2 H2 m2 H3 ∧ Sr K m2 S2 H3 ∧ Is K m2 H3 x u) ∧ (us.length ≤ i → J.stop i H2)
noncomputable def tI (K : PySem.W.Frag) (ci : CI) : TI := fun σ H R => ∃ m ρ S us ok S', Sr K m S H ∧ Lr K m H ρ σ ∧ ci ρ S = some (us, ok, S') ∧ ∀ m' H' J, Ext K m H m' H' → Sr K m' S' H' → yV K J m' H' us ok → R J H'
noncomputable abbrev QI (X : Cx) (tg iter : Expr) (ci : CI) : Prop := WI X tg iter (tI X.K ci)
open Classical in
noncomputable def fk (ok : Sto → Prop) (g : CG) (cb : CS) : List U → CS
 | [] => fun ρ S => if ok S then some (.nx, ρ, S) else none
 | u :: us => fun ρ S => if ok S then (g u ρ S).bind fun p => (cb p.1 p.2).bind fun r => match r.1 with
  | .nx => fk ok g cb us r.2.1 r.2.2
  | .ct => fk ok g cb us r.2.1 r.2.2
  | .bk => some (.nx, r.2.1, r.2.2)
  | .rt v => some (.rt v, r.2.1, r.2.2) else none
noncomputable def nS (ci : CI) (g : CG) (cb : CS) : CS := fun ρ S => (ci ρ S).bind fun p => fk p.2.1 g cb p.1 ρ p.2.2
theorem nM {α : Type} {us : List α} {i : Nat} {u : α} (h : us[i]? = some u) : us.drop i = u :: us.drop (i + 1) := by
 obtain ⟨hl, e⟩ := List.getElem?_eq_some_iff.mp h
 rw [List.drop_eq_getElem_cons hl, e]
theorem vM {K : PySem.W.Frag} {g : CG} {cb : CS} {J : It} {us : List U} {ok : Sto → Prop} {D : w4} {m1 : List Addr} {H1 : Hp} {ρ ρ' : Rho} {σ : L2.St} {S1 S' : Sto} {o : Out} (sr1 : Sr K m1 S1 H1) (lr1 : Lr K m1 H1 ρ σ) (ito : yV K J m1 H1 us ok) (h2 : fk ok g cb us ρ S1 = some (o, ρ', S')) (post : rk K m1 H1 D o ρ' S') :
  ∃ W : Nat → Nat → L2.St → Hp → Prop, (∃ n, W 0 n σ H1) ∧ ∀ i n σ H, W i n σ H →
   (J.stop i H ∧ D.nx σ H) ∨ (J.go i H ∧ ∃ N : L2.St → Hp → Prop, (∀ σ' H', N σ' H' → ∃ n', n' < n ∧ W (i + 1) n' σ' H') ∧ ∀ x H', J.yld i H x H' → tG K g x σ H' fun σ2 H2 => tS K cb { D with nx := N, ct := N, bk := D.nx } σ2 H2) := by
 let W : Nat → Nat → L2.St → Hp → Prop := fun i n σ2 H2 => n = us.length - i ∧ i ≤ us.length ∧ ∃ m2 ρ2 S2, Ext K m1 H1 m2 H2 ∧ Sr K m2 S2 H2 ∧ Lr K m2 H2 ρ2 σ2 ∧ fk ok g cb (us.drop i) ρ2 S2 = some (o, ρ', S')
 refine ⟨W, ⟨us.length, by simp, Nat.zero_le _, m1, ρ, S1, .refl, sr1, lr1, by simpa using h2⟩, ?_⟩
 rintro i n σ2 H2 ⟨rfl, hi, m2, ρ2, S2, e2, sr2, lr2, hl⟩
 by_cases hlt : i < us.length
 ·have hu := List.getElem?_eq_getElem hlt
  rw [nM hu] at hl
  unfold fk at hl
  split at hl
  ·rename_i hok
   obtain ⟨⟨ρ3, S3⟩, h3, hl⟩ := Option.bind_eq_some_iff.mp hl
   obtain ⟨⟨o4, ρ4, S4⟩, h4, hl⟩ := Option.bind_eq_some_iff.mp hl
   obtain ⟨hgo, hy⟩ := (ito m2 S2 H2 i e2 sr2 hok).1 _ hu
   refine .inr ⟨hgo, W (i + 1) (us.length - (i + 1)), fun σ' H' w' => ⟨_, by omega, w'⟩, fun x H3 y => ?_⟩
   obtain ⟨e3, sr3, ix⟩ := hy x H3 y
   refine ⟨m2, ρ2, S2, _, ρ3, S3, sr3, lr2.mono e3, ix, h3, fun m4 σ4 H4 e4 sr4 lr4 => ⟨m4, ρ3, S3, o4, ρ4, S4, sr4, lr4, h4, ?_⟩⟩
   have e14 := (e2.trans e3).trans e4
   have nxt : fk ok g cb (us.drop (i + 1)) ρ4 S4 = some (o, ρ', S') → h7 K m4 H4 (W (i + 1) (us.length - (i + 1))) ρ4 S4 := fun hn m5 σ5 H5 e5 sr5 lr5 => ⟨rfl, hlt, m5, ρ4, S4, e14.trans e5, sr5, lr5, hn⟩
   cases o4 with
   | nx => exact nxt hl
   | ct => exact nxt hl
   | bk => cases hl; exact h7.mono e14 post
   | rt v => cases hl; exact iC.mono e14 post
  ·cases hl
 ·have e : i = us.length := by omega
  subst e
  rw [List.drop_length] at hl
  unfold fk at hl
  split at hl
  ·rename_i hok
   cases hl
   exact .inl ⟨(ito m2 _ H2 _ e2 sr2 hok).2 (Nat.le_refl _), post m2 σ2 H2 e2 sr2 lr2⟩
  ·cases hl
theorem yF {K : PySem.W.Frag} {ci : CI} {g : CG} {cb : CS} : ∀ D σ H, tS K (nS ci g cb) D σ H → CP (tI K ci) (tG K g) (tS K cb) D σ H := by
 rintro D σ H ⟨m, ρ, S, o, ρ', S', sr, lr, hc, post⟩
 obtain ⟨⟨us, ok, S1⟩, h1, h2⟩ := Option.bind_eq_some_iff.mp hc
 exact ⟨m, ρ, S, us, ok, S1, sr, lr, h1, fun m1 H1 J e1 sr1 ito => vM sr1 (lr.mono e1) ito h2 (rk.mono e1 post)⟩
theorem lU {tg iter : Expr} {body : List Stmt} {ci : CI} {g : CG} {cb : CS} (hp : PassesOwn (model X.prog X.w) X.A X.env X.xe) (hc : X.calm = true) (hi : QI X tg iter ci) (hg : QG X tg g) (hb : QSs X body cb) (hs : ∀ x, foldedSetIterable iter X.env x = pure x := by intro _; rfl) : QS X (.For tg iter body [] pos) (nS ci g cb) := (xD hp hc hi hg hb hs).imp yF
noncomputable def iTp (ca : CE) : CI := fun ρ S => (ca ρ S).bind fun p => match p.1 with
 | .tup us => some (us, fun _ => True, p.2)
 | .ref l => match p.2[l]? with
  | some (.lst us) => some (us, fun S => S[l]? = some (.lst us), p.2)
  | _ => none
 | _ => none
theorem A8 {K : PySem.W.Frag} {m : List Addr} {H : Hp} {us : List U} {a : Addr} {xs : List V} (sq : SqT K H a xs) (il : IsL K m H xs us) : yV K (Itt K a) m H us (fun _ => True) := by
 intro m2 S2 H2 i e2 sr2 _
 have sq2 := e2.keep.t _ _ sq
 have il2 := il.mono e2
 refine ⟨fun u hu => ?_, fun hi => ⟨xs, sq2, by rw [il2.length]; exact hi⟩⟩
 obtain ⟨x, hx, ix⟩ := il2.getD hu
 refine ⟨⟨xs, x, sq2, hx⟩, fun y H3 hy => ?_⟩
 obtain ⟨rfl, hy⟩ := hy
 have := hy xs sq2
 rw [hx] at this; cases this
 exact ⟨.refl, sr2, ix⟩
theorem A9 {K : PySem.W.Frag} {m : List Addr} {H : Hp} {us : List U} {a : Addr} {l : Nat} (hl : m[l]? = some a) : yV K (Itl K a) m H us (fun S => S[l]? = some (.lst us)) := by
 intro m2 S2 H2 i e2 sr2 hok
 obtain ⟨a', ha', xs, hx, il⟩ := sr2.get hok
 rw [e2.get hl] at ha'
 cases ha'
 refine ⟨fun u hu => ?_, fun hi => ⟨xs, SqL.of hx, by rw [il.length]; exact hi⟩⟩
 obtain ⟨x, hx', ix⟩ := il.getD hu
 refine ⟨⟨xs, x, SqL.of hx, hx'⟩, fun y H3 hy => ?_⟩
 obtain ⟨rfl, hy⟩ := hy
 have := hy xs (SqL.of hx)
 rw [hx'] at this; cases this
 exact ⟨.refl, sr2, ix⟩
theorem nv {tg : Expr} (h : QE X e ca) : QI X tg e (iTp ca) := ((xE h).or (u9 h)).imp fun σ H R hz => tR hz fun m ρ S us ok S' sr lr hc post => by
 obtain ⟨⟨u, S1⟩, h1, h2⟩ := Option.bind_eq_some_iff.mp hc
 cases u with
 | tup ws =>
  cases h2
  refine .inl ⟨m, ρ, S, .tup us, _, sr, lr, h1, fun m1 v1 H1 e1 sr1 i1 => ?_⟩
  obtain ⟨a, xs, rfl, sq, il⟩ := i1.of_tup
  exact ⟨a, rfl, ⟨xs, sq⟩, post m1 H1 _ e1 sr1 (A8 sq il)⟩
 | ref l =>
  simp only at h2
  split at h2
  ·rename_i us' hS
   cases h2
   refine .inr ⟨m, ρ, S, .ref l, _, sr, lr, h1, fun m1 v1 H1 e1 sr1 i1 => ?_⟩
   obtain ⟨a, hl, rfl⟩ := i1.of_ref
   obtain ⟨a', ha', xs, hx, il⟩ := sr1.get hS
   rw [hl] at ha'; cases ha'
   exact ⟨a, rfl, ⟨xs, SqL.of hx⟩, post m1 H1 _ e1 sr1 (A9 hl)⟩
  ·cases h2
 | _ => simp at h2
noncomputable def eF (lo : Int) (n : Nat) : List U := (List.range n).map fun i => .int (lo + (i : Nat))
theorem qf {K : PySem.W.Frag} {m : List Addr} {H : Hp} {lo : Int} {n : Nat} : yV K (Itr lo n) m H (eF lo n) (fun _ => True) := by
 intro m2 S2 H2 i e2 sr2 _
 refine ⟨fun u hu => ?_, fun hi => by show n ≤ i; simpa [eF] using hi⟩
 unfold eF at hu
 rw [List.getElem?_map] at hu
 by_cases c : i < n
 ·rw [List.getElem?_range c] at hu
  simp at hu
  subst hu
  refine ⟨c, fun y H3 hy => ?_⟩
  obtain ⟨rfl, rfl⟩ := hy
  exact ⟨.refl, sr2, .int_⟩
 ·rw [List.getElem?_eq_none (by simpa using c)] at hu
  cases hu
noncomputable def eI (cr : CA) : CI := fun ρ S => (cr ρ S).bind fun p => match p.1 with
 | [.int j] => if -(2 ^ 62) ≤ j ∧ j < 2 ^ 62 then some (eF 0 j.toNat, fun _ => True, p.2) else none
 | _ => none
noncomputable def mH (cr : CA) : CI := fun ρ S => (cr ρ S).bind fun p => match p.1 with
 | [.int i, .int j] => if (-(2 ^ 62) ≤ i ∧ i < 2 ^ 62) ∧ -(2 ^ 62) ≤ j ∧ j < 2 ^ 62 then some (eF i (j - i).toNat, fun _ => True, p.2) else none
 | _ => none
theorem gX {tg : Expr} {cr : CA} {p : Pos} (hg : Gl X "range") (hm : X.mg "range" = none) (ha : QA X [a] cr) (hs : starEach [a] X.env = [(false, eval a X.env)] := by rfl) : QI X tg (.Call (.Name "range" p) [a] [] pos) (eI cr) := (qL hg hm ha.h hs).imp fun σ H R hz => tR hz fun m ρ S us ok S' sr lr hc post => by
 obtain ⟨⟨ws, S1⟩, h1, h2⟩ := Option.bind_eq_some_iff.mp hc
 simp only at h2
 split at h2
 ·rename_i j
  split at h2
  ·rename_i hj
   cases h2
   refine ⟨m, ρ, S, _, S', sr, lr, h1, fun m1 v1 H1 e1 sr1 i1 => ?_⟩
   obtain ⟨x, r, rfl, ix, ir⟩ := i1.of_cons
   rw [ir.of_nil, ix.of_int]
   exact ⟨j, rfl, hj.1, hj.2, post m1 H1 _ e1 sr1 qf⟩
  ·cases h2
 ·cases h2
theorem sH {tg : Expr} {cr : CA} {p : Pos} (hg : Gl X "range") (hm : X.mg "range" = none) (ha : QA X [a, b] cr) (hs : starEach [a, b] X.env = [(false, eval a X.env), (false, eval b X.env)] := by rfl) (hs2 : starEach [b] X.env = [(false, eval b X.env)] := by rfl) : QI X tg (.Call (.Name "range" p) [a, b] [] pos) (mH cr) := (qK hg hm ha.h hs hs2).imp fun σ H R hz => tR hz fun m ρ S us ok S' sr lr hc post => by
 obtain ⟨⟨ws, S1⟩, h1, h2⟩ := Option.bind_eq_some_iff.mp hc
 simp only at h2
 split at h2
 ·rename_i i j
  split at h2
  ·rename_i hj
   cases h2
   refine ⟨m, ρ, S, _, S', sr, lr, h1, fun m1 v1 H1 e1 sr1 i1 => ?_⟩
   obtain ⟨x, r, rfl, ix, ir⟩ := i1.of_cons
   obtain ⟨y, r, rfl, iy, ir⟩ := ir.of_cons
   rw [ir.of_nil, ix.of_int, iy.of_int]
   exact ⟨i, j, rfl, ⟨hj.1.1, hj.1.2, hj.2⟩, post m1 H1 _ e1 sr1 qf⟩
  ·cases h2
 ·cases h2
end
noncomputable def fI (g : Int → Int → Option U) : U → U → Sto → Option (U × Sto)
 | .int i, .int j, S => (g i j).bind fun u => some (u, S)
 | _, _, _ => none
section
variable {X : Cx} {K : PySem.W.Frag}
theorem BB {C : Int → Int → Prop} {gV : Int → Int → V} {g : Int → Int → Option U} (h : ∀ i j u, g i j = some u → C i j ∧ ∀ m H, Is K m H (gV i j) u) : OpP K (rI C gV) (fI g) := by
 intro m S H x y v w u S' Q sr ix iy hf post
 cases x <;> cases y <;> simp only [fI] at hf <;> try cases hf
 rename_i i j
 obtain ⟨u1, h1, h2⟩ := Option.bind_eq_some_iff.mp hf
 cases h2
 obtain ⟨hc, hi⟩ := h i j u h1
 exact ⟨i, j, ix.of_int, iy.of_int, hc, post m _ H .refl sr (hi m H)⟩
theorem sU {gV : Int → Int → V} {g : Int → Int → Option U} (h : ∀ i j u, g i j = some u → ∀ m H, Is K m H (gV i j) u) : OpP K (rI0 gV) (fI g) := by
 intro m S H x y v w u S' Q sr ix iy hf post
 cases x <;> cases y <;> simp only [fI] at hf <;> try cases hf
 rename_i i j
 obtain ⟨u1, h1, h2⟩ := Option.bind_eq_some_iff.mp hf
 cases h2
 exact ⟨i, j, ix.of_int, iy.of_int, post m _ H .refl sr (h i j u h1 m H)⟩
noncomputable def vm (K : PySem.W.Frag) : R2 := fun x y H Q => ∃ a b xs ys, x = .ref a ∧ y = .ref b ∧ SqT K H a xs ∧ SqT K H b ys ∧ xs.length + ys.length ≤ sizeLine ∧ ∀ q H', o7 H H' → SqT K H' q (xs ++ ys) → Q (.ref q) H'
theorem yr : OpR X (binaryOp .Add) (vm X.K) := by
 intro pins s σ H x y v u Q I rx ry h
 obtain ⟨a, b, xs, ys, rfl, rfl, ha, hb, hz, q⟩ := h
 by_cases e : xs = []
 ·cases rx
  cases ry
  obtain ⟨its, r1, p1, _⟩ := I.tuple ha
  obtain ⟨its2, r2, p2, _⟩ := I.tuple hb
  refine wb p1 p2 (r1.nil_iff.mpr e) ⟨.ref b, H, I, rfl, q b H (.refl _) (by rw [e]; exact hb)⟩
 ·refine yq pins s σ H _ _ v u Q I rx ry ⟨a, b, xs, ys, rfl, rfl, ha, hb, e, hz, fun z => q a H (.refl _) (by rw [z, List.append_nil]; exact ha), fun _ p hp => q p _ (dy hp _) (SqT.of bQ)⟩
noncomputable def tP : U → U → Sto → Option (U × Sto)
 | .tup a, .tup b, S => if a.length + b.length ≤ LIM then some (.tup (a ++ b), S) else none
 | _, _, _ => none
theorem vD : OpP K (vm K) tP := by
 intro m S H x y v w u S' Q sr ix iy hf post
 cases x <;> cases y <;> simp only [tP] at hf <;> try cases hf
 split at hf <;> try cases hf
 rename_i hl
 obtain ⟨a, xs, rfl, sa, la⟩ := ix.of_tup
 obtain ⟨b, ys, rfl, sb, lb⟩ := iy.of_tup
 refine ⟨a, b, xs, ys, rfl, rfl, sa, sb, lim (by rw [la.length, lb.length]; exact hl), fun q H' s sq => ?_⟩
 exact post m _ H' (.of (eG s)) (sr.same s) (.tup_ sq ((la.append lb).mono (.of (eG s))))
noncomputable def mK : U → U → Sto → Option (U × Sto)
 | .ref l, .ref k, S => match S[l]?, S[k]? with
  | some (.lst a), some (.lst b) => if a.length + b.length ≤ LIM then some (.ref S.length, S ++ [.lst (a ++ b)]) else none
  | _, _ => none
 | _, _, _ => none
theorem vG : OpP K BA mK := by
 intro m S H x y v w u S' Q sr ix iy hf post
 cases x <;> cases y <;> simp only [mK] at hf <;> try cases hf
 rename_i l k
 split at hf <;> try cases hf
 rename_i a b h1 h2
 split at hf <;> try cases hf
 rename_i hl
 obtain ⟨p, hp, rfl⟩ := ix.of_ref
 obtain ⟨q, hq, rfl⟩ := iy.of_ref
 obtain ⟨p', hp', xs, hx, il⟩ := sr.get h1
 obtain ⟨q', hq', ys, hy, il'⟩ := sr.get h2
 rw [hp] at hp'; cases hp'
 rw [hq] at hq'; cases hq'
 exact ⟨p, q, xs, ys, rfl, rfl, hx, hy, lim (by rw [il.length, il'.length]; exact hl), fun r hr => gC sr (il.append il') post hr⟩
noncomputable def tQ : U → U → Sto → Option (U × Sto)
 | .str a, .str b, S => if a.length + b.length ≤ LIM then some (.str (a ++ b), S) else none
 | _, _, _ => none
theorem vE : OpP K (fun x y H Q => ∃ i j, x = .str i ∧ y = .str j ∧ i.length + j.length ≤ sizeLine ∧ Q (.str (i ++ j)) H) tQ := by
 intro m S H x y v w u S' Q sr ix iy hf post
 cases x <;> cases y <;> simp only [tQ] at hf <;> try cases hf
 split at hf <;> try cases hf
 rename_i hl
 exact ⟨_, _, ix.of_str, iy.of_str, lim hl, post m _ H .refl sr .str_⟩
noncomputable def bJ : U → U → Sto → Option (U × Sto)
 | .int i, .int j, S => some (.int (i + j), S)
 | .tup a, .tup b, S => if a.length + b.length ≤ LIM then some (.tup (a ++ b), S) else none
 | .str a, .str b, S => if a.length + b.length ≤ LIM then some (.str (a ++ b), S) else none
 | .ref l, .ref k, S => mK (.ref l) (.ref k) S
 | _, _, _ => none
theorem bA : OpR X (binaryOp .Add) (fun x y H Q => rI0 (fun i j => .int (i + j)) x y H Q ∨ (BA x y H Q ∨ (vm X.K x y H Q ∨ ∃ i j, x = .str i ∧ y = .str j ∧ i.length + j.length ≤ sizeLine ∧ Q (.str (i ++ j)) H))) := AQ.or (AO.or (yr.or qR))
theorem bz : OpP K (fun x y H Q => rI0 (fun i j => .int (i + j)) x y H Q ∨ (BA x y H Q ∨ (vm K x y H Q ∨ ∃ i j, x = .str i ∧ y = .str j ∧ i.length + j.length ≤ sizeLine ∧ Q (.str (i ++ j)) H))) bJ := by
 intro m S H x y v w u S' Q sr ix iy hf post
 cases x <;> cases y <;> simp only [bJ] at hf <;> try cases hf
 ·exact .inl ⟨_, _, ix.of_int, iy.of_int, post m _ H .refl sr .int_⟩
 ·exact .inr (.inr (.inr (vE m S H _ _ v w u S' Q sr ix iy hf post)))
 ·exact .inr (.inr (.inl (vD m S H _ _ v w u S' Q sr ix iy hf post)))
 ·exact .inr (.inl (vG m S H _ _ v w u S' Q sr ix iy hf post))
noncomputable def eV := fI fun i j => some (.int (i - j))
theorem ej : OpP K (rI0 fun i j => .int (i - j)) eV := sU fun i j u h m H => by cases h; exact .int_
instance {i j : Int} : Decidable (rB i j) := by unfold rB; exact inferInstance
noncomputable def kG := fI fun i j => if rB i j then some (.int (i * j)) else none
theorem nB : OpP K (rI rB fun i j => .int (i * j)) kG := BB fun i j u h => by
 split at h
 ·rename_i c; cases h; exact ⟨c, fun m H => .int_⟩
 ·cases h
instance {i j : Int} : Decidable (rC i j) := by unfold rC; exact inferInstance
noncomputable def vV := fI fun i j => if rC i j then some (.int (i / j)) else none
theorem yk : OpP K (rI rC fun i j => .int (i / j)) vV := BB fun i j u h => by
 split at h
 ·rename_i c; cases h; exact ⟨c, fun m H => .int_⟩
 ·cases h
noncomputable def nJ := fI fun i j => if 0 < j then some (.int (i % j)) else none
theorem oF : OpP K (rI (fun _ j => 0 < j) fun i j => .int (i % j)) nJ := BB fun i j u h => by
 split at h
 ·rename_i c; cases h; exact ⟨c, fun m H => .int_⟩
 ·cases h
instance {i j : Int} : Decidable (yW i j) := by unfold yW; exact inferInstance
noncomputable def rH := fI fun i j => if yW i j then some (.int (i ^ j.toNat)) else none
theorem vF : OpP K (rI yW fun i j => .int (i ^ j.toNat)) rH := BB fun i j u h => by
 split at h
 ·rename_i c; cases h; exact ⟨c, fun m H => .int_⟩
 ·cases h
noncomputable def fLt := fI fun i j => some (.bl (decide (i < j)))
noncomputable def fLe := fI fun i j => some (.bl (decide (i ≤ j)))
noncomputable def fGt := fI fun i j => some (.bl (decide (j < i)))
noncomputable def fGe := fI fun i j => some (.bl (decide (j ≤ i)))
theorem uL : OpP K (rI0 fun i j => .bl (decide (i < j))) fLt := sU fun i j u h m H => by cases h; exact .bl_
theorem yS : OpP K (rI0 fun i j => .bl (decide (i ≤ j))) fLe := sU fun i j u h m H => by cases h; exact .bl_
theorem uM : OpP K (rI0 fun i j => .bl (decide (j < i))) fGt := sU fun i j u h m H => by cases h; exact .bl_
theorem EY : OpP K (rI0 fun i j => .bl (decide (j ≤ i))) fGe := sU fun i j u h m H => by cases h; exact .bl_
noncomputable def eqS : U → U → Option Bool
 | .int i, .int j => some (decide (i = j))
 | .bl i, .bl j => some (decide (i = j))
 | .str i, .str j => some (decide (i = j))
 | .non, .non => some true
 | .non, .int _ => some false | .int _, .non => some false
 | .non, .bl _ => some false | .bl _, .non => some false
 | .non, .str _ => some false | .str _, .non => some false
 | .int _, .str _ => some false | .str _, .int _ => some false
 | .bl _, .str _ => some false | .str _, .bl _ => some false
 | _, _ => none
noncomputable def fEq : U → U → Sto → Option (U × Sto) := fun x y S => (eqS x y).bind fun b => some (.bl b, S)
noncomputable def fNe : U → U → Sto → Option (U × Sto) := fun x y S => (eqS x y).bind fun b => some (.bl (!b), S)
theorem nK {m : List Addr} {H : Hp} {x y : U} {v w : V} {b : Bool} (ix : Is K m H v x) (iy : Is K m H w y) (h : eqS x y = some b) : CV v w = true ∧ decide (v = w) = b := by
 cases x <;> cases y <;> simp only [eqS] at h <;> (first | cases h | skip)
 all_goals
  (first | (have e1 := ix.of_int) | (have e1 := ix.of_bl) | (have e1 := ix.of_str) | (have e1 := ix.of_non))
  (first | (have e2 := iy.of_int) | (have e2 := iy.of_bl) | (have e2 := iy.of_str) | (have e2 := iy.of_non))
  subst e1 e2
  exact ⟨rfl, by simp⟩
theorem lz : OpP K rEq fEq := by
 intro m S H x y v w u S' Q sr ix iy hf post
 obtain ⟨b, h1, h2⟩ := Option.bind_eq_some_iff.mp hf
 cases h2
 obtain ⟨e1, e2⟩ := nK ix iy h1
 exact ⟨e1, by rw [e2]; exact post m _ H .refl sr .bl_⟩
theorem Dc : OpP K rNe fNe := by
 intro m S H x y v w u S' Q sr ix iy hf post
 obtain ⟨b, h1, h2⟩ := Option.bind_eq_some_iff.mp hf
 cases h2
 obtain ⟨e1, e2⟩ := nK ix iy h1
 exact ⟨e1, by rw [e2]; exact post m _ H .refl sr .bl_⟩
noncomputable def Ba : U → Bool
 | .non => true
 | _ => false
noncomputable def Bh : U → U → Sto → Option (U × Sto)
 | x, .non, S => some (.bl (Ba x), S)
 | _, _, _ => none
theorem vQ {m : List Addr} {H : Hp} {x : U} {v : V} (ix : Is K m H v x) : decide (v = .non) = Ba x := by
 cases x with
 | non => rw [ix.of_non]; rfl
 | bl b => rw [ix.of_bl]; rfl
 | int i => rw [ix.of_int]; rfl
 | str i => rw [ix.of_str]; rfl
 | tup us => obtain ⟨a, xs, rfl, _⟩ := ix.of_tup; rfl
 | ref l => obtain ⟨a, _, rfl⟩ := ix.of_ref; rfl
 | kl ns => obtain ⟨a, rfl, _⟩ := ix.of_kl; rfl
theorem Df : OpP K (fun x y H Q => y = .non ∧ Q (.bl (decide (x = .non))) H) Bh := by
 intro m S H x y v w u S' Q sr ix iy hf post
 cases y <;> simp only [Bh] at hf <;> cases hf
 exact ⟨iy.of_non, by rw [vQ ix]; exact post m _ H .refl sr .bl_⟩
noncomputable def mL : U → U → Sto → Option (U × Sto)
 | .bl a, .bl b, S => some (.bl (a != b), S)
 | _, _, _ => none
theorem vH : OpP K (fun x y H Q => ∃ k l, x = .bl k ∧ y = .bl l ∧ Q (.bl (k != l)) H) mL := by
 intro m S H x y v w u S' Q sr ix iy hf post
 cases x <;> cases y <;> simp only [mL] at hf <;> cases hf
 exact ⟨_, _, ix.of_bl, iy.of_bl, post m _ H .refl sr .bl_⟩
section
variable {κ : Type} [DecidableEq κ]
noncomputable def jw {α : Type} (kvs : List (κ × α)) (k : κ) : Option α := (kvs.find? fun kv => decide (kv.1 = k)).map (·.2)
noncomputable def yR {α : Type} (kvs : List (κ × α)) (k : κ) (v : α) : List (κ × α) :=
 if (kvs.any fun kv => decide (kv.1 = k)) = true then kvs.map (fun kv => if kv.1 = k then (kv.1, v) else kv) else kvs ++ [(k, v)]
variable {m : List Addr} {H : Hp} {kvs : List (κ × V)} {kus : List (κ × U)} {k : κ} {v : V} {u : U}
theorem IsP.val (h : IsP K m H kvs kus) : Rf K m H (mV kvs k) (jw kus k) := by
 refine IsP.ind (P := fun kvs kus => Rf K m H (mV kvs k) (jw kus k)) trivial (fun k' v u kvs kus i _ ih => ?_) h
 by_cases e : k' = k
 ·subst e
  simp [mV, jw, List.find?_cons, Rf, i]
 ·simp only [mV, jw, List.find?_cons, decide_eq_false e] at ih ⊢
  exact ih
theorem IsP.any_ (h : IsP K m H kvs kus) : (kvs.any fun kv => decide (kv.1 = k)) = (kus.any fun kv => decide (kv.1 = k)) :=
 IsP.ind (P := fun kvs kus => (kvs.any fun kv => decide (kv.1 = k)) = (kus.any fun kv => decide (kv.1 = k))) rfl (fun k' v u kvs kus i _ ih => by simp only [List.any_cons, ih]) h
theorem IsP.append {kvs' : List (κ × V)} {kus' : List (κ × U)} (h : IsP K m H kvs kus) (h' : IsP K m H kvs' kus') : IsP K m H (kvs ++ kvs') (kus ++ kus') := ⟨by simp [h.1, h'.1], by simpa using h.2.append h'.2⟩
theorem IsP.put (h : IsP K m H kvs kus) (i : Is K m H v u) : IsP K m H (pY kvs k v) (yR kus k u) := by
 unfold pY yR
 rw [h.any_]
 split
 ·refine IsP.ind (P := fun kvs kus => IsP K m H (kvs.map fun kv => if kv.1 = k then (kv.1, v) else kv) (kus.map fun kv => if kv.1 = k then (kv.1, u) else kv)) .nil_ (fun k' v' u' kvs kus i' _ ih => ?_) h
  simp only [List.map_cons]
  by_cases e : k' = k
  ·simp only [e, if_true]; exact .cons_ i ih
  ·simp only [e, if_false]; exact .cons_ i' ih
 ·exact h.append (.cons_ i .nil_)
end
noncomputable def ko : U → Option Key
 | .int i => some (.inl i)
 | .str x => some (.inr x)
 | _ => none
theorem kj {m : List Addr} {H : Hp} {x : U} {v : V} {k : Key} (ix : Is K m H v x) (h : ko x = some k) : v = kV k := by
 cases x <;> simp only [ko] at h <;> cases h
 ·exact ix.of_int
 ·exact ix.of_str
noncomputable def ff : U → Bool
 | .non => true | .bl _ => true | .int _ => true | .str _ => true | _ => false
noncomputable def eqF : U → U → Bool
 | .non, .non => true
 | .bl a, .bl b => a == b
 | .bl a, .int b => (if a then 1 else 0) == b
 | .int a, .bl b => a == (if b then 1 else 0)
 | .int a, .int b => a == b
 | .str a, .str b => a == b
 | _, _ => false
noncomputable def inU (x : U) (us : List U) : Bool := us.any fun y => eqF y x
theorem oQ {m : List Addr} {H : Hp} {x : U} {v : V} (ix : Is K m H v x) (h : ff x = true) : lE v = true := by
 cases x with
 | non => rw [ix.of_non]; rfl
 | bl b => rw [ix.of_bl]; rfl
 | int i => rw [ix.of_int]; rfl
 | str i => rw [ix.of_str]; rfl
 | tup us => cases h
 | ref l => cases h
 | kl l => cases h
theorem Bi {m : List Addr} {H : Hp} {x y : U} {v w : V} (ix : Is K m H v x) (iy : Is K m H w y) (hx : ff x = true) (hy : ff y = true) : eqV v w = eqF x y := by
 cases x <;> (first | cases hx | skip) <;> cases y <;> (first | cases hy | skip)
 all_goals
  (first | (have e1 := ix.of_int) | (have e1 := ix.of_bl) | (have e1 := ix.of_str) | (have e1 := ix.of_non))
  (first | (have e2 := iy.of_int) | (have e2 := iy.of_bl) | (have e2 := iy.of_str) | (have e2 := iy.of_non))
  subst e1 e2
  rfl
theorem mJ {m : List Addr} {H : Hp} : ∀ {xs : List V} {us : List U}, IsL K m H xs us → us.all ff = true → xs.all lE = true
 | xs, [], h, _ => by rw [h.of_nil]; rfl
 | xs, u :: us, h, k => by
  obtain ⟨x, r, rfl, i, t⟩ := h.of_cons
  rw [List.all_cons, Bool.and_eq_true] at k ⊢
  exact ⟨oQ i k.1, mJ t k.2⟩
theorem tL {m : List Addr} {H : Hp} {x : U} {v : V} (ix : Is K m H v x) (hx : ff x = true) : ∀ {xs : List V} {us : List U}, IsL K m H xs us → us.all ff = true → inV v xs = inU x us
 | xs, [], h, _ => by rw [h.of_nil]; rfl
 | xs, u :: us, h, k => by
  obtain ⟨y, r, rfl, i, t⟩ := h.of_cons
  rw [List.all_cons, Bool.and_eq_true] at k
  have ih := tL ix hx t k.2
  unfold inV inU at ih ⊢
  rw [List.any_cons, List.any_cons, ih, Bi i ix k.1 hx]
theorem _root_.L2.DGet.kz {H : Hp} {a : Addr} {ob : Obj} {kvs : List (Key × V)} {k : Key} (e : H a = some (.frz ob (.dK kvs))) : DGet H a (kV k) (mV kvs k) := .inl ⟨kvs, k, .inr ⟨ob, e⟩, rfl, rfl⟩
noncomputable def fIn (neg : Bool) : U → U → Sto → Option (U × Sto) := fun x y S => match y with
 | .tup us => if ff x = true ∧ us.all ff = true then some (.bl (if neg then !inU x us else inU x us), S) else none
 | .ref l => match S[l]? with
  | some (.lst us) => if ff x = true ∧ us.all ff = true then some (.bl (if neg then !inU x us else inU x us), S) else none
  | some (.dic kus) => (ko x).bind fun k => some (.bl (if neg then !(jw kus k).isSome else (jw kus k).isSome), S)
  | some (.fdc ep kus) => (ko x).bind fun k => some (.bl (if neg then !(jw kus k).isSome else (jw kus k).isSome), S)
  | _ => none
 | _ => none
theorem Rf.isSome {m : List Addr} {H : Hp} {v : Option V} {u : Option U} (h : Rf K m H v u) : v.isSome = u.isSome := by
 cases v <;> cases u <;> first | rfl | exact h.elim
theorem wU {ca cb : CE} {neg : Bool} (t2 : TE → TE → TE) (h2 : ∀ ta tb σ H Q, (ta σ H fun y H1 => tb σ H1 fun x H2 => ∃ a o, x = .ref a ∧ DGet H2 a y o ∧ Q (.bl (if neg then !o.isSome else o.isSome)) H2) → t2 ta tb σ H Q) : ∀ σ H Q, tE K (cOp (fIn neg) ca cb) σ H Q → tOp (rIn K neg) (tE K ca) (tE K cb) σ H Q ∨ t2 (tE K ca) (tE K cb) σ H Q := by
 rintro σ H Q ⟨m, ρ, S, u, S', sr, lr, hc, post⟩
 obtain ⟨⟨x, S1⟩, h1, h⟩ := Option.bind_eq_some_iff.mp hc
 obtain ⟨⟨y, S2⟩, h3, h4⟩ := Option.bind_eq_some_iff.mp h
 cases y with
 | tup us =>
  simp only [fIn] at h4
  split at h4 <;> try cases h4
  rename_i hf
  refine .inl ⟨m, ρ, S, x, S1, sr, lr, h1, fun m1 v1 H1 e1 sr1 i1 => ⟨m1, ρ, S1, .tup us, S', sr1, lr.mono e1, h3, fun m2 v2 H2 e2 sr2 i2 => ?_⟩⟩
  obtain ⟨a, xs, rfl, sa, la⟩ := i2.of_tup
  refine ⟨a, xs, rfl, .inr sa, oQ (i1.mono e2) hf.1, mJ la hf.2, ?_⟩
  rw [tL (i1.mono e2) hf.1 la hf.2]
  exact post m2 _ H2 (e1.trans e2) sr2 .bl_
 | ref l =>
  simp only [fIn] at h4
  split at h4 <;> try cases h4
  ·rename_i us hS
   split at h4 <;> try cases h4
   rename_i hf
   refine .inl ⟨m, ρ, S, x, S1, sr, lr, h1, fun m1 v1 H1 e1 sr1 i1 => ⟨m1, ρ, S1, .ref l, S', sr1, lr.mono e1, h3, fun m2 v2 H2 e2 sr2 i2 => ?_⟩⟩
   obtain ⟨a, ha, rfl⟩ := i2.of_ref
   obtain ⟨a', ha', xs, hx, la⟩ := sr2.get hS
   rw [ha] at ha'; cases ha'
   refine ⟨a, xs, rfl, .inl (SqL.of hx), oQ (i1.mono e2) hf.1, mJ la hf.2, ?_⟩
   rw [tL (i1.mono e2) hf.1 la hf.2]
   exact post m2 _ H2 (e1.trans e2) sr2 .bl_
  ·rename_i kus hS
   obtain ⟨k, hk, h5⟩ := Option.bind_eq_some_iff.mp h4
   cases h5
   refine .inr (h2 _ _ _ _ _ ⟨m, ρ, S, x, S1, sr, lr, h1, fun m1 v1 H1 e1 sr1 i1 => ⟨m1, ρ, S1, .ref l, S', sr1, lr.mono e1, h3, fun m2 v2 H2 e2 sr2 i2 => ?_⟩⟩)
   obtain ⟨a, ha, rfl⟩ := i2.of_ref
   obtain ⟨a', ha', kvs, hx, ip⟩ := sr2.get hS
   rw [ha] at ha'; cases ha'
   have ek := kj (i1.mono e2) hk
   subst ek
   refine ⟨a, _, rfl, DGet.k hx, ?_⟩
   rw [(IsP.val ip).isSome]
   exact post m2 _ H2 (e1.trans e2) sr2 .bl_
  ·rename_i ep kus hS
   obtain ⟨k, hk, h5⟩ := Option.bind_eq_some_iff.mp h4
   cases h5
   refine .inr (h2 _ _ _ _ _ ⟨m, ρ, S, x, S1, sr, lr, h1, fun m1 v1 H1 e1 sr1 i1 => ⟨m1, ρ, S1, .ref l, S', sr1, lr.mono e1, h3, fun m2 v2 H2 e2 sr2 i2 => ?_⟩⟩)
   obtain ⟨a, ha, rfl⟩ := i2.of_ref
   obtain ⟨a', ha', ob, es, kvs, hx, hd, ip⟩ := sr2.get hS
   rw [ha] at ha'; cases ha'
   have ek := kj (i1.mono e2) hk
   subst ek
   refine ⟨a, _, rfl, DGet.kz hx, ?_⟩
   rw [(IsP.val ip).isSome]
   exact post m2 _ H2 (e1.trans e2) sr2 .bl_
 | _ => simp [fIn] at h4
variable {e a b c : Expr} {ca cb cc : CE} {pos : Pos}
theorem sL (hu : X.A.units + 1 < cLine) (ha : QE X a ca) (hb : QE X b cb) (hm : behindInMarks .NotIn b = false) : QE X (.Compare a [.NotIn] [b] pos) (cOp (fIn true) ca cb) :=
 ((pM iY ha hb hm).or (xK (lM hu ha hb) hm)).imp (wU (neg := true) ml fun _ _ _ _ _ h => h)
theorem vo (hu : X.A.units + 1 < cLine) (ha : QE X a ca) (hb : QE X b cb) (hm : behindInMarks .NotIn b = false) : QT X (.Compare a [.NotIn] [b] pos) (aE (cOp (fIn true) ca cb)) :=
 ((pI iY ha hb hm).or (xC (lM hu ha hb) hm)).imp (mj (wU (neg := true) ml fun _ _ _ _ _ h => h))
noncomputable def fIx : U → U → Sto → Option (U × Sto) := fun x y S => match x with
 | .tup us => match y with
  | .int i => (atI us i).bind fun u => some (u, S)
  | _ => none
 | .ref l => match S[l]? with
  | some (.lst us) => (match y with
   | .int i => (atI us i).bind fun u => some (u, S)
   | _ => none)
  | some (.dic kus) => (ko y).bind fun k => (jw kus k).bind fun u => some (u, S)
  | some (.fdc ep kus) => (ko y).bind fun k => (jw kus k).bind fun u => some (u, S)
  | _ => none
 | .kl ns => match y with
  | .int i => (atI (ns.map U.int) i).bind fun u => some (u, S)
  | _ => none
 | _ => none
theorem qh {K : PySem.W.Frag} {m : List Addr} {H : Hp} : ∀ ns : List Int, IsL K m H (ns.map V.int) (ns.map U.int)
 | [] => .nil_
 | n :: ns => .cons_ .int_ (qh ns)
theorem ur {m : List Addr} {H : Hp} {xs : List V} {us : List U} {i : Int} {u : U} (l : IsL K m H xs us) (h : atI us i = some u) : ∃ v, atI xs i = some v ∧ Is K m H v u := by
 unfold atI at h ⊢
 rw [l.length]
 obtain ⟨j, e1, e2⟩ := Option.bind_eq_some_iff.mp h
 rw [e1]
 obtain ⟨v, e3, e4⟩ := l.getD e2
 exact ⟨v, e3, e4⟩
theorem dz (hu : X.A.units + 1 < cLine) (ha : QE X a ca) (hb : QE X b cb) (hs : o8 b) (hs2 : BN b) : QE X (.Subscript a b pos) (cOp fIx ca cb) :=
 ((zL (yA.or A5) ha hb hs).or (vc hu ha hb hs2)).imp fun σ H Q hz => mM hz fun m ρ S u S' sr lr hc post => by
 obtain ⟨⟨x, S1⟩, h1, h⟩ := Option.bind_eq_some_iff.mp hc
 obtain ⟨⟨y, S2⟩, h3, h4⟩ := Option.bind_eq_some_iff.mp h
 cases x with
 | tup us =>
  simp only [fIx] at h4
  split at h4 <;> try cases h4
  rename_i i
  obtain ⟨w, hw, h5⟩ := Option.bind_eq_some_iff.mp h4
  cases h5
  refine .inl ⟨m, ρ, S, _, S1, sr, lr, h1, fun m1 v1 H1 e1 sr1 i1 => ⟨m1, ρ, S1, _, S', sr1, lr.mono e1, h3, fun m2 v2 H2 e2 sr2 i2 => .inr ?_⟩⟩
  obtain ⟨a, xs, rfl, sa, la⟩ := (i1.mono e2).of_tup
  obtain ⟨z, ez, iz⟩ := ur la hw
  exact ⟨a, xs, i, z, rfl, i2.of_int, sa, ez, post m2 _ H2 (e1.trans e2) sr2 iz⟩
 | ref l =>
  simp only [fIx] at h4
  split at h4 <;> try cases h4
  ·rename_i us hS
   split at h4 <;> try cases h4
   rename_i i
   obtain ⟨w, hw, h5⟩ := Option.bind_eq_some_iff.mp h4
   cases h5
   refine .inl ⟨m, ρ, S, _, S1, sr, lr, h1, fun m1 v1 H1 e1 sr1 i1 => ⟨m1, ρ, S1, _, S', sr1, lr.mono e1, h3, fun m2 v2 H2 e2 sr2 i2 => .inl ?_⟩⟩
   obtain ⟨a, ha, rfl⟩ := (i1.mono e2).of_ref
   obtain ⟨a', ha', xs, hx, la⟩ := sr2.get hS
   rw [ha] at ha'; cases ha'
   obtain ⟨z, ez, iz⟩ := ur la hw
   exact ⟨a, xs, i, z, rfl, i2.of_int, SqL.of hx, ez, post m2 _ H2 (e1.trans e2) sr2 iz⟩
  ·rename_i kus hS
   obtain ⟨k, hk, h5⟩ := Option.bind_eq_some_iff.mp h4
   obtain ⟨w, hw, h6⟩ := Option.bind_eq_some_iff.mp h5
   cases h6
   refine .inr ⟨m, ρ, S, _, S1, sr, lr, h1, fun m1 v1 H1 e1 sr1 i1 => ⟨m1, ρ, S1, _, S', sr1, lr.mono e1, h3, fun m2 v2 H2 e2 sr2 i2 => ?_⟩⟩
   obtain ⟨a, ha, rfl⟩ := (i1.mono e2).of_ref
   obtain ⟨a', ha', kvs, hx, ip⟩ := sr2.get hS
   rw [ha] at ha'; cases ha'
   have ek := kj i2 hk
   subst ek
   have rf := IsP.val (k := k) ip
   rw [hw] at rf
   cases hv : mV kvs k with
   | none => rw [hv] at rf; exact rf.elim
   | some z =>
    rw [hv] at rf
    exact ⟨a, z, rfl, by have := DGet.k (k := k) hx; rw [hv] at this; exact this, post m2 _ H2 (e1.trans e2) sr2 rf⟩
  ·rename_i ep kus hS
   obtain ⟨k, hk, h5⟩ := Option.bind_eq_some_iff.mp h4
   obtain ⟨w, hw, h6⟩ := Option.bind_eq_some_iff.mp h5
   cases h6
   refine .inr ⟨m, ρ, S, _, S1, sr, lr, h1, fun m1 v1 H1 e1 sr1 i1 => ⟨m1, ρ, S1, _, S', sr1, lr.mono e1, h3, fun m2 v2 H2 e2 sr2 i2 => ?_⟩⟩
   obtain ⟨a, ha, rfl⟩ := (i1.mono e2).of_ref
   obtain ⟨a', ha', ob, es, kvs, hx, hd, ip⟩ := sr2.get hS
   rw [ha] at ha'; cases ha'
   have ek := kj i2 hk
   subst ek
   have rf := IsP.val (k := k) ip
   rw [hw] at rf
   cases hv : mV kvs k with
   | none => rw [hv] at rf; exact rf.elim
   | some z =>
    rw [hv] at rf
    exact ⟨a, z, rfl, by have := DGet.kz (k := k) hx; rw [hv] at this; exact this, post m2 _ H2 (e1.trans e2) sr2 rf⟩
 | kl ns =>
  simp only [fIx] at h4
  split at h4 <;> try cases h4
  rename_i i
  obtain ⟨w, hw, h5⟩ := Option.bind_eq_some_iff.mp h4
  cases h5
  refine .inl ⟨m, ρ, S, _, S1, sr, lr, h1, fun m1 v1 H1 e1 sr1 i1 => ⟨m1, ρ, S1, _, S', sr1, lr.mono e1, h3, fun m2 v2 H2 e2 sr2 i2 => .inl ?_⟩⟩
  obtain ⟨a, rfl, ka⟩ := (i1.mono e2).of_kl
  obtain ⟨z, ez, iz⟩ := ur (qh (K := X.K) (m := m2) (H := H2) ns) hw
  exact ⟨a, _, i, z, rfl, i2.of_int, ka.sq, ez, post m2 _ H2 (e1.trans e2) sr2 iz⟩
 | _ => simp [fIx] at h4
noncomputable def kF : U → U → U → Sto → Option Sto := fun o i v S => match o with
 | .ref l => match S[l]? with
  | some (.lst us) => (match i with
   | .int k => (ixN us.length k).bind fun j => some (S.set l (.lst (us.set j v)))
   | _ => none)
  | some (.dic kus) => (ko i).bind fun k => if kus.length < LIM then some (S.set l (.dic (yR kus k v))) else none
  | _ => none
 | _ => none
noncomputable def lZ (co ci cv : CE) : CS := fun ρ S => (cv ρ S).bind fun p => (co ρ p.2).bind fun q => (ci ρ q.2).bind fun r => (kF q.1 r.1 p.1 r.2).bind fun S' => some (.nx, ρ, S')
theorem jh {o i : Expr} {co ci cv : CE} {pos' : Pos} (hu : X.A.units + 1 < cLine) (ho : QE X o co) (hi : QE X i ci) (hv : QE X e cv)
  (hs0 : swapsWithSole [.Subscript o i pos'] e pos.line X.env = pure false := by rfl) (hw : swappedStores [.Subscript o i pos'] e X.env = pure none := by rfl)
  (h1 : (assignEach [.Subscript o i pos'] X.env).map (·.2) = [assign (.Subscript o i pos') X.env] := by rfl)
  (hs : swapsWith e (some (.Subscript o i pos')) pos.line X.env = pure false := by rfl)
  (ha : ∀ v, assign (.Subscript o i pos') X.env v = (do
   let ov ← holding [v] (eval o X.env)
   let iv ← holding [v, ov] (eval i X.env)
   standAt pos'
   holding [v, ov, iv] (setItem ov iv v)
   release [v, ov, iv] []) := by intro _; rfl) : QS X (.Assign [.Subscript o i pos'] e pos) (lZ co ci cv) :=
 ((rS hv (xG ho hi vk ha) hs0 hw h1).or (u7 hu ho hi hv hs)).imp fun D σ H hz => tR hz fun m ρ S o ρ' S' sr lr hc post => by
 obtain ⟨⟨v, S1⟩, h1, h⟩ := Option.bind_eq_some_iff.mp hc
 obtain ⟨⟨ou, S2⟩, h2, h⟩ := Option.bind_eq_some_iff.mp h
 obtain ⟨⟨iu, S3⟩, h3, h⟩ := Option.bind_eq_some_iff.mp h
 obtain ⟨S4, h4, h⟩ := Option.bind_eq_some_iff.mp h
 cases h
 cases ou with
 | ref l =>
  simp only [kF] at h4
  split at h4 <;> try cases h4
  ·rename_i us hS
   split at h4 <;> try cases h4
   rename_i k
   obtain ⟨j, hj, h5⟩ := Option.bind_eq_some_iff.mp h4
   cases h5
   refine .inl ⟨m, ρ, S, v, S1, sr, lr, h1, fun m1 v1 H1 e1 sr1 i1 => ⟨m1, ρ, S1, _, S2, sr1, lr.mono e1, h2, fun m2 v2 H2 e2 sr2 i2 => ⟨m2, ρ, S2, _, S3, sr2, lr.mono (e1.trans e2), h3, fun m3 v3 H3 e3 sr3 i3 => ?_⟩⟩⟩
   obtain ⟨a, ha, rfl⟩ := (i2.mono e3).of_ref
   obtain ⟨a', ha', xs, hx, la⟩ := sr3.get hS
   rw [ha] at ha'; cases ha'
   have e13 := (e1.trans e2).trans e3
   have ek : Ext X.K m3 H3 m3 (upd H3 a (.lst (xs.set j v1))) := .of (sr3.keep ha _)
   refine ⟨a, xs, k, j, rfl, i3.of_int, hx, by rw [la.length]; exact hj, post m3 σ _ (e13.trans ek) (sr3.put ha ⟨_, bQ, ((la.set (i1.mono (e2.trans e3)))).mono ek⟩) (lr.mono (e13.trans ek))⟩
  ·rename_i kus hS
   obtain ⟨k, hk, h5⟩ := Option.bind_eq_some_iff.mp h4
   split at h5 <;> try cases h5
   have fS : kus.length < LIM := by assumption
   refine .inr ⟨m, ρ, S, v, S1, sr, lr, h1, fun m1 v1 H1 e1 sr1 i1 => ⟨m1, ρ, S1, _, S2, sr1, lr.mono e1, h2, fun m2 v2 H2 e2 sr2 i2 => ⟨m2, ρ, S2, _, S3, sr2, lr.mono (e1.trans e2), h3, fun m3 v3 H3 e3 sr3 i3 => ?_⟩⟩⟩
   obtain ⟨a, ha, rfl⟩ := (i2.mono e3).of_ref
   obtain ⟨a', ha', kvs, hx, ip⟩ := sr3.get hS
   rw [ha] at ha'; cases ha'
   have ek := kj i3 hk
   subst ek
   have e13 := (e1.trans e2).trans e3
   have ee : Ext X.K m3 H3 m3 (upd H3 a (.dK (pY kvs k v1))) := .of (sr3.keep ha _)
   exact ⟨a, _, rfl, Bw.k hx (Dk (by rw [IsP.length ip]; exact fS)), post m3 σ _ (e13.trans ee) (sr3.put ha ⟨_, bQ, (IsP.put ip (i1.mono (e2.trans e3))).mono ee⟩) (lr.mono (e13.trans ee))⟩
 | _ => simp [kF] at h4
end
section
variable {X : Cx} {K : PySem.W.Frag} {m : List Addr} {H : Hp} {c : Cl} {fs : List (Str × V)} {fus : List (Option U)}
open Classical in
noncomputable def DK (c : Cl) (i : Nat) (x : U) (S : Sto) : Option (U × Sto) := match x with
 | .ref l => match S[l]? with
  | some (.ins c' fus) => if c' = c then (fus[i]?).join.bind fun u => some (u, S) else none
  | _ => none
 | _ => none
noncomputable def E7 (c : Cl) (i : Nat) (ca : CE) : CE := fun ρ S => (ca ρ S).bind fun p => DK c i p.1 p.2
open Classical in
noncomputable def yH (c : Cl) (i : Nat) (x v : U) (S : Sto) : Option Sto := match x with
 | .ref l => match S[l]? with
  | some (.ins c' fus) => if c' = c then some (S.set l (.ins c (fus.set i (some v)))) else none
  | _ => none
 | _ => none
noncomputable def DO (c : Cl) (i : Nat) (ca cv : CE) : CS := fun ρ S => (cv ρ S).bind fun p => (ca ρ p.2).bind fun q => (yH c i q.1 p.1 q.2).bind fun S' => some (.nx, ρ, S')
variable {e : Expr} {ca cv : CE} {pos : Pos} {f : Str} {i : Nat}
open Classical in
noncomputable def yI (c : Cl) (f : Fn) (x : U) (S : Sto) (args : Sto → Option (List U × Sto)) : Option (U × Sto) := match x with
 | .ref l => match S[l]? with
  | some (.ins c' _) => if c' = c then (args S).bind fun q => f (.ref l :: q.1) q.2 else none
  | _ => none
 | _ => none
noncomputable def DQ (c : Cl) (f : Fn) (ca : CE) (cr : CA) : CE := fun ρ S => (ca ρ S).bind fun p => yI c f p.1 p.2 (cr ρ)
noncomputable def DR : CE := fun _ S => some (.ref S.length, S ++ [.dic []])
noncomputable def Bo (cd ck cx : CE) : CE := fun ρ S => (cd ρ S).bind fun p => match p.1 with
 | .ref l => match p.2[l]? with
  | some (.dic _) => (ck ρ p.2).bind fun q => (cx ρ q.2).bind fun r => match r.2[l]? with
   | some (.dic kus) => (ko q.1).bind fun k => some ((jw kus k).getD r.1, r.2)
   | _ => none
  | _ => none
 | _ => none
end
noncomputable def rG (n : Nat) (caps : List Nat) (ρ : Rho) : Rho := List.replicate n none ++ caps.map fun i => (ρ[i]?).getD none
open Classical in
noncomputable def jg (ok : Sto → Prop) (g : CG) (ce : CE) (l : Nat) : List U → Rho → Sto → Option Sto
 | [], _, S => if ok S then some S else none
 | u :: us, ρ, S => if ok S then (g u ρ S).bind fun p => (ce p.1 p.2).bind fun r => match r.2[l]? with
  | some (.lst ys) => if ys.length < LIM then jg ok g ce l us p.1 (r.2.set l (.lst (ys ++ [r.1]))) else none
  | _ => none else none
noncomputable def fW (ci : CI) (g : CG) (ce : CE) (n : Nat) (caps : List Nat) : CE := fun ρ S => (ci ρ S).bind fun p => (jg p.2.1 g ce p.2.2.length p.1 (rG n caps ρ) (p.2.2 ++ [.lst []])).bind fun S' => some (.ref p.2.2.length, S')
section
variable {X : Cx} {K : PySem.W.Frag}
theorem yu {m : List Addr} {H : Hp} {ρ : Rho} {σ : L2.St} {n : Nat} {caps : List Nat} (lr : Lr K m H ρ σ) : Lr K m H (rG n caps ρ) (OG.stC n caps σ) := by
 refine ⟨by simp [rG, OG.stC], fun j u e => ?_⟩
 unfold rG at e
 unfold OG.stC
 by_cases c : j < n
 ·rw [List.getElem?_append_left (by simpa using c), List.getElem?_replicate] at e
  split at e <;> cases e
 ·rw [List.getElem?_append_right (by simp; omega), List.getElem?_map] at e ⊢
  simp only [List.length_replicate] at e ⊢
  cases q : caps[j - n]? with
  | none => rw [q] at e; simp at e
  | some i =>
   rw [q] at e
   simp only [Option.map_some, Option.some.injEq] at e ⊢
   have e2 : ρ[i]? = some (some u) := by
    cases z : ρ[i]? with
    | none => rw [z] at e; simp at e
    | some y => rw [z] at e; simp at e; rw [e]
   obtain ⟨v, h1, h2⟩ := lr.at_ i u e2
   exact ⟨v, by rw [h1]; rfl, h2⟩
theorem uc {g : CG} {ce : CE} {n : Nat} {caps : List Nat} {J : It} {us : List U} {ok : Sto → Prop} {Q : VK} {m1 : List Addr} {H1 : Hp} {S1 S' : Sto} {ρ : Rho} {σ : L2.St} {l : Addr} (sr1 : Sr K m1 S1 H1) (lr : Lr K m1 H1 ρ σ) (ito : yV K J m1 H1 us ok) (hl : H1 l = none) (h2 : jg ok g ce S1.length us (rG n caps ρ) (S1 ++ [.lst []]) = some S')
  (post : ∀ m2 H2, Ext K (m1 ++ [l]) (upd H1 l (.lst [])) m2 H2 → Sr K m2 S' H2 → Q (.ref l) H2) :
  ∃ W : Nat → Nat → L2.St → Hp → Prop, (∃ m, W 0 m (OG.stC n caps σ) (upd H1 l (.lst []))) ∧
 ∀ i m σ' H2, W i m σ' H2 → (J.stop i H2 ∧ Q (.ref l) H2) ∨ (J.go i H2 ∧ ∃ N : L2.St → Hp → Prop, (∀ σ'' H', N σ'' H' → ∃ m', m' < m ∧ W (i + 1) m' σ'' H') ∧
  ∀ x H3, J.yld i H2 x H3 → tG K g x σ' H3 fun σ2 H4 => tE K ce σ2 H4 fun v H5 => ∃ ys, H5 l = some (.lst ys) ∧ ys.length < sizeLine ∧ N σ2 (upd H5 l (.lst (ys ++ [v])))) := by
 have ee : Ext K m1 H1 (m1 ++ [l]) (upd H1 l (.lst [])) := .new (eU hl _)
 let W : Nat → Nat → L2.St → Hp → Prop := fun i k σ2 H2 => k = us.length - i ∧ i ≤ us.length ∧ ∃ m2 ρ2 S2, Ext K (m1 ++ [l]) (upd H1 l (.lst [])) m2 H2 ∧ Sr K m2 S2 H2 ∧ Lr K m2 H2 ρ2 σ2 ∧ jg ok g ce S1.length (us.drop i) ρ2 S2 = some S'
 refine ⟨W, ⟨us.length, by simp, Nat.zero_le _, m1 ++ [l], rG n caps ρ, S1 ++ [.lst []], .refl, sr1.new (o := .lst []) hl ⟨[], bQ, .nil_⟩, yu (lr.mono ee), by simpa using h2⟩, ?_⟩
 rintro i k σ2 H2 ⟨rfl, hi, m2, ρ2, S2, e2, sr2, lr2, hl2⟩
 by_cases hlt : i < us.length
 ·have hu := List.getElem?_eq_getElem hlt
  rw [nM hu] at hl2
  unfold jg at hl2
  split at hl2
  ·rename_i hok
   obtain ⟨⟨ρ3, S3⟩, h3, hl2⟩ := Option.bind_eq_some_iff.mp hl2
   obtain ⟨⟨u4, S4⟩, h4, hl2⟩ := Option.bind_eq_some_iff.mp hl2
   simp only at hl2
   split at hl2 <;> try cases hl2
   rename_i ys hys
   split at hl2 <;> try cases hl2
   rename_i fS
   obtain ⟨hgo, hy⟩ := (ito m2 S2 H2 i (ee.trans e2) sr2 hok).1 _ hu
   refine .inr ⟨hgo, W (i + 1) (us.length - (i + 1)), fun σ' H' w' => ⟨_, by omega, w'⟩, fun x H3 y => ?_⟩
   obtain ⟨e3, sr3, ix⟩ := hy x H3 y
   refine ⟨m2, ρ2, S2, _, ρ3, S3, sr3, lr2.mono e3, ix, h3, fun m4 σ4 H4 e4 sr4 lr4 => ⟨m4, ρ3, S3, u4, S4, sr4, lr4, h4, fun m5 v5 H5 e5 sr5 i5 => ?_⟩⟩
   obtain ⟨a', ha', xs, hx, il⟩ := sr5.get hys
   have ha : m5[S1.length]? = some l := (((e2.trans e3).trans e4).trans e5).get (mD sr1.len)
   rw [ha] at ha'; cases ha'
   have eu : Ext K m5 H5 m5 (upd H5 l (.lst (xs ++ [v5]))) := .of (sr5.keep ha _)
   refine ⟨xs, hx, Dk (by rw [il.length]; exact fS), rfl, hlt, m5, ρ3, _, ((((e2.trans e3).trans e4).trans e5).trans eu), sr5.put (o := .lst (ys ++ [u4])) ha ⟨_, bQ, (il.append (.cons_ i5 .nil_)).mono eu⟩, (lr4.mono (e5.trans eu)), hl2⟩
  ·cases hl2
 ·have e : i = us.length := by omega
  subst e
  rw [List.drop_length] at hl2
  unfold jg at hl2
  split at hl2
  ·rename_i hok
   cases hl2
   exact .inl ⟨(ito m2 _ H2 _ (ee.trans e2) sr2 hok).2 (Nat.le_refl _), post m2 H2 e2 sr2⟩
  ·cases hl2
theorem v8 {ci : CI} {g : CG} {ce : CE} {n : Nat} {caps : List Nat} : ∀ σ H Q, tE K (fW ci g ce n caps) σ H Q → xP (tI K ci) (tG K g) (tE K ce) n caps σ H Q := by
 rintro σ H Q ⟨m, ρ, S, u, S', sr, lr, hc, post⟩
 obtain ⟨⟨us, ok, S1⟩, h1, h2⟩ := Option.bind_eq_some_iff.mp hc
 obtain ⟨S2, h2, h3⟩ := Option.bind_eq_some_iff.mp h2
 cases h3
 refine ⟨m, ρ, S, us, ok, S1, sr, lr, h1, fun m1 H1 J e1 sr1 ito l hl => ?_⟩
 have ee : Ext K m1 H1 (m1 ++ [l]) (upd H1 l (.lst [])) := .new (eU hl _)
 exact uc sr1 (lr.mono e1) ito hl h2 fun m2 H2 e2 sr2 => post m2 _ H2 ((e1.trans ee).trans e2) sr2 (.ref_ (e2.get (mD sr1.len)))
theorem ny {Nc capN tn : List Str} {scope : Scope} {cl : List (Str × Addr)} {n : Nat} {caps : List Nat} {tg iter elt : Expr} {pos : Pos} {ci : CI} {g : CG} {ce : CE}
  (hc : X.calm = true) (hi : QI X tg iter ci) (hg : ∀ s3 H3 fp, WG (cxC X Nc scope cl s3 H3 fp) tg (tG X.K g)) (he : ∀ s3 H3 fp, WE (cxC X Nc scope cl s3 H3 fp) elt (tE X.K ce))
  (hclos : closureFor scope X.env = pure cl) (hkind : scope.kind = .function) (hnl : ∀ x ∈ scope.names, x.2 = .local → scope.names.lookup x.1 = some .local) (hcell : ∀ x ∈ scope.names, x.2 ≠ .cell)
  (hcl : w6 X.env cl) (hhas : ((relabel scope X.env).names.all fun p => !(p.2 == .cell || p.2 == .free) || (cl.lookup p.1).isSome) = true)
  (hcap : Paired (Cap X scope cl) caps capN) (hN : Nc = tn ++ capN) (hn : tn.length = n)
  (hs : ∀ x, foldedSetIterable iter X.env x = pure x := by intro _; rfl) :
  QE X (.ListComp elt [⟨tg, iter, [], 0⟩] scope pos) (fW ci g ce n caps) := (vd hc hi hg he hclos hkind hnl hcell hcl hhas hcap hN hn hs).imp v8
noncomputable def gH : Fn
 | [.tup us], S => some (.int us.length, S)
 | [.ref l], S => match S[l]? with
  | some (.lst us) => some (.int us.length, S)
  | some (.dic us) => some (.int us.length, S)
  | _ => none
 | [.kl ns], S => some (.int ns.length, S)
 | _, _ => none
noncomputable abbrev D9 (K : PySem.W.Frag) : List V → Hp → VK → Prop := fun xs H Q => (∃ p ys, xs = [.ref p] ∧ (SqL K H p ys ∨ SqT K H p ys) ∧ Q (.int ys.length) H) ∨ ∃ a kvs, xs = [V.ref a] ∧ H a = some (.dK kvs) ∧ Q (.int kvs.length) H
theorem fV : eQ X (.builtin "len") (D9 X.K) := nP.or uh
theorem IsL.one {m : List Addr} {H : Hp} {vs : List V} {u : U} (h : IsL K m H vs [u]) : ∃ v, vs = [v] ∧ Is K m H v u := by
 obtain ⟨x, r, rfl, i, t⟩ := h.of_cons
 rw [t.of_nil]; exact ⟨x, rfl, i⟩
theorem IsL.two {m : List Addr} {H : Hp} {vs : List V} {u w : U} (h : IsL K m H vs [u, w]) : ∃ v x, vs = [v, x] ∧ Is K m H v u ∧ Is K m H x w := by
 obtain ⟨x, r, rfl, i, t⟩ := h.of_cons
 obtain ⟨y, rfl, j⟩ := t.one
 exact ⟨x, y, rfl, i, j⟩
theorem fU : lg K (D9 K) gH := by
 intro m S H us vs u S' Q sr i hf post
 match us, hf with
 | [.tup ws], hf =>
  cases hf
  obtain ⟨v, rfl, iv⟩ := i.one
  obtain ⟨a, xs, rfl, sa, la⟩ := iv.of_tup
  exact .inl ⟨a, xs, rfl, .inr sa, by rw [la.length]; exact post m _ H .refl sr .int_⟩
 | [.ref l], hf =>
  obtain ⟨v, rfl, iv⟩ := i.one
  obtain ⟨a, ha, rfl⟩ := iv.of_ref
  simp only [gH] at hf
  split at hf <;> try cases hf
  ·rename_i ws hS
   obtain ⟨a', ha', xs, hx, la⟩ := sr.get hS
   rw [ha] at ha'; cases ha'
   exact .inl ⟨a, xs, rfl, .inl (SqL.of hx), by rw [la.length]; exact post m _ H .refl sr .int_⟩
  ·rename_i ws hS
   obtain ⟨a', ha', xs, hx, la⟩ := sr.get hS
   rw [ha] at ha'; cases ha'
   exact .inr ⟨a, xs, rfl, hx, by rw [IsP.length la]; exact post m _ H .refl sr .int_⟩
 | [.kl ns], hf =>
  cases hf
  obtain ⟨v, rfl, iv⟩ := i.one
  obtain ⟨a, rfl, ka⟩ := iv.of_kl
  exact .inl ⟨a, _, rfl, .inl ka.sq, by rw [List.length_map]; exact post m _ H .refl sr .int_⟩
noncomputable def dD : Fn
 | [.tup us], S => some (.ref S.length, S ++ [.lst us])
 | [.ref l], S => match S[l]? with
  | some (.lst us) => some (.ref S.length, S ++ [.lst us])
  | _ => none
 | _, _ => none
theorem sV : lg K (fun xs H Q => ∃ p ys, xs = [.ref p] ∧ (SqL K H p ys ∨ SqT K H p ys) ∧ ∀ l, H l = none → Q (.ref l) (upd H l (.lst ys))) dD := by
 intro m S H us vs u S' Q sr i hf post
 match us, hf with
 | [.tup ws], hf =>
  cases hf
  obtain ⟨v, rfl, iv⟩ := i.one
  obtain ⟨a, xs, rfl, sa, la⟩ := iv.of_tup
  exact ⟨a, xs, rfl, .inr sa, fun l hl => gC sr la post hl⟩
 | [.ref l], hf =>
  obtain ⟨v, rfl, iv⟩ := i.one
  obtain ⟨a, ha, rfl⟩ := iv.of_ref
  simp only [dD] at hf
  split at hf <;> try cases hf
  rename_i ws hS
  obtain ⟨a', ha', xs, hx, la⟩ := sr.get hS
  rw [ha] at ha'; cases ha'
  exact ⟨a, xs, rfl, .inl (SqL.of hx), fun l hl => gC sr la post hl⟩
noncomputable def lY : Fn
 | [.tup us], S => some (.tup us, S)
 | [.ref l], S => match S[l]? with
  | some (.lst us) => some (.tup us, S)
  | _ => none
 | _, _ => none
theorem yj : lg K (fun xs H Q => ∃ p ys, xs = [.ref p] ∧ ((SqL K H p ys ∧ ∀ l, H l = none → Q (.ref l) (upd H l (.tup ys))) ∨ (SqT K H p ys ∧ Q (.ref p) H))) lY := by
 intro m S H us vs u S' Q sr i hf post
 match us, hf with
 | [.tup ws], hf =>
  cases hf
  obtain ⟨v, rfl, iv⟩ := i.one
  obtain ⟨a, xs, rfl, sa, la⟩ := iv.of_tup
  exact ⟨a, xs, rfl, .inr ⟨sa, post m _ H .refl sr iv⟩⟩
 | [.ref l], hf =>
  obtain ⟨v, rfl, iv⟩ := i.one
  obtain ⟨a, ha, rfl⟩ := iv.of_ref
  simp only [lY] at hf
  split at hf <;> try cases hf
  rename_i ws hS
  obtain ⟨a', ha', xs, hx, la⟩ := sr.get hS
  rw [ha] at ha'; cases ha'
  exact ⟨a, xs, rfl, .inl ⟨SqL.of hx, fun l hl => mx sr la post hl⟩⟩
noncomputable def BK : Fn
 | [.int i], S => some (.int i, S)
 | [.bl b], S => some (.int (if b then 1 else 0), S)
 | _, _ => none
theorem AJ : lg K (fun xs H Q => (∃ i, xs = [.int i] ∧ Q (.int i) H) ∨ ∃ k, xs = [.bl k] ∧ Q (.int (if k then 1 else 0)) H) BK := by
 intro m S H us vs u S' Q sr i hf post
 match us, hf with
 | [.int j], hf =>
  cases hf
  obtain ⟨v, rfl, iv⟩ := i.one
  exact .inl ⟨j, by rw [iv.of_int], post m _ H .refl sr .int_⟩
 | [.bl j], hf =>
  cases hf
  obtain ⟨v, rfl, iv⟩ := i.one
  exact .inr ⟨j, by rw [iv.of_bl], post m _ H .refl sr .int_⟩
noncomputable def DJ : Fn
 | [.int i, .int j], S => some (.int (if j < i then j else i), S)
 | _, _ => none
theorem De : lg K (fun xs H Q => ∃ i j, xs = [.int i, .int j] ∧ Q (.int (if j < i then j else i)) H) DJ := by
 intro m S H us vs u S' Q sr i hf post
 match us, hf with
 | [.int j, .int k], hf =>
  cases hf
  obtain ⟨v, w, rfl, iv, iw⟩ := i.two
  exact ⟨j, k, by rw [iv.of_int, iw.of_int], post m _ H .refl sr .int_⟩
noncomputable def qV : List U → Option (List Int)
 | [] => some []
 | .int i :: r => (qV r).map (i :: ·)
 | _ => none
noncomputable def yU : List U → Option (List Bool)
 | [] => some []
 | .bl i :: r => (yU r).map (i :: ·)
 | _ => none
theorem qi : ∀ {us : List U} {ns : List Int}, qV us = some ns → us = ns.map U.int
 | [], ns, h => by cases h; rfl
 | u :: r, ns, h => by
  cases u <;> simp only [qV] at h <;> try cases h
  obtain ⟨ms, e, h⟩ := Option.map_eq_some_iff.mp h
  subst h
  rw [qi e]; rfl
theorem nG : ∀ (ns : List Int), qV (ns.map U.int) = some ns
 | [] => rfl
 | n :: r => by simp [qV, nG r]
theorem uq : ∀ {us : List U} {ns : List Bool}, yU us = some ns → us = ns.map U.bl
 | [], ns, h => by cases h; rfl
 | u :: r, ns, h => by
  cases u <;> simp only [yU] at h <;> try cases h
  obtain ⟨ms, e, h⟩ := Option.map_eq_some_iff.mp h
  subst h
  rw [uq e]; rfl
theorem qv : ∀ (ns : List Bool), yU (ns.map U.bl) = some ns
 | [] => rfl
 | n :: r => by simp [yU, qv r]
theorem IsL.ints {m : List Addr} {H : Hp} : ∀ {xs : List V} {ns : List Int}, IsL K m H xs (ns.map U.int) → xs = ns.map V.int
 | xs, [], h => h.of_nil
 | xs, n :: ns, h => by
  obtain ⟨x, r, rfl, i, t⟩ := h.of_cons
  rw [IsL.ints t, i.of_int]; rfl
theorem IsL.bls {m : List Addr} {H : Hp} : ∀ {xs : List V} {ns : List Bool}, IsL K m H xs (ns.map U.bl) → xs = ns.map V.bl
 | xs, [], h => h.of_nil
 | xs, n :: ns, h => by
  obtain ⟨x, r, rfl, i, t⟩ := h.of_cons
  rw [IsL.bls t, i.of_bl]; rfl
theorem qg {m : List Addr} {H : Hp} : ∀ (ns : List Int), IsL K m H (ns.map V.int) (ns.map U.int)
 | [] => .nil_
 | n :: ns => .cons_ .int_ (qg ns)
noncomputable def yT : Fn
 | [.ref l], S => match S[l]? with
  | some (.lst us) => (yU us).bind fun bs => some (.bl (bs.all id), S)
  | _ => none
 | _, _ => none
theorem AL : lg K (fun xs H Q => ∃ (p : Addr) (bs : List Bool), xs = [.ref p] ∧ SqL K H p (bs.map V.bl) ∧ Q (.bl (bs.all id)) H) yT := by
 intro m S H us vs u S' Q sr i hf post
 match us, hf with
 | [.ref l], hf =>
  obtain ⟨v, rfl, iv⟩ := i.one
  obtain ⟨a, ha, rfl⟩ := iv.of_ref
  simp only [yT] at hf
  split at hf <;> try cases hf
  rename_i ws hS
  obtain ⟨bs, hb, h⟩ := Option.bind_eq_some_iff.mp hf
  cases h
  obtain ⟨a', ha', xs, hx, la⟩ := sr.get hS
  rw [ha] at ha'; cases ha'
  rw [uq hb] at la
  rw [la.bls] at hx
  exact ⟨a, bs, rfl, SqL.of hx, post m _ H .refl sr .bl_⟩
noncomputable def Bg : Fn
 | [.ref l], S => match S[l]? with
  | some (.lst us) => (qV us).bind fun ns => if ns.length ≤ 1000 ∧ ∀ n ∈ ns, 0 ≤ n ∧ n ≤ 1000000 then some (.int ns.sum, S) else none
  | _ => none
 | _, _ => none
theorem C9 : lg K (fun xs H Q => ∃ (p : Addr) (ns : List Int), xs = [.ref p] ∧ SqL K H p (ns.map V.int) ∧ ns.length ≤ 1000 ∧ (∀ n ∈ ns, 0 ≤ n ∧ n ≤ 1000000) ∧ Q (.int ns.sum) H) Bg := by
 intro m S H us vs u S' Q sr i hf post
 match us, hf with
 | [.ref l], hf =>
  obtain ⟨v, rfl, iv⟩ := i.one
  obtain ⟨a, ha, rfl⟩ := iv.of_ref
  simp only [Bg] at hf
  split at hf <;> try cases hf
  rename_i ws hS
  obtain ⟨bs, hb, h⟩ := Option.bind_eq_some_iff.mp hf
  split at h <;> try cases h
  have hc : bs.length ≤ 1000 ∧ ∀ n ∈ bs, 0 ≤ n ∧ n ≤ 1000000 := by assumption
  obtain ⟨a', ha', xs, hx, la⟩ := sr.get hS
  rw [ha] at ha'; cases ha'
  rw [qi hb] at la
  rw [la.ints] at hx
  exact ⟨a, bs, rfl, SqL.of hx, hc.1, hc.2, post m _ H .refl sr .int_⟩
inductive Ty where
 | non | bool | int | str | tuple | list | dict
noncomputable def Ty.nm : Ty → String
 | .non => "NoneType" | .bool => "bool" | .int => "int" | .str => "str" | .tuple => "tuple" | .list => "list" | .dict => "dict"
noncomputable def tyU : U → Sto → Option Ty
 | .non, _ => some .non | .bl _, _ => some .bool | .int _, _ => some .int | .str _, _ => some .str | .tup _, _ => some .tuple
 | .ref l, S => match S[l]? with
  | some (.lst _) => some .list
  | some (.dic _) => some .dict
  | _ => none
 | .kl _, _ => none
noncomputable def oy : Ty → Ty → Bool
 | .non, .non => true | .bool, .bool => true | .bool, .int => true | .int, .int => true | .str, .str => true | .tuple, .tuple => true | .list, .list => true | .dict, .dict => true
 | _, _ => false
theorem kg (a b : Ty) (hb : b ≠ .non) : PySem.W.kitOne K (.type a.nm) (.type b.nm) = some (oy a b) := by
 cases b <;> first | exact absurd rfl hb | (cases a <;> rfl)
noncomputable abbrev EX (K : PySem.W.Frag) : List V → Hp → VK → Prop := fun xs H Q => (∃ (x : V) (T : String) (t : Value) (k : Bool), xs = [x, .ty T] ∧ qy K H x t ∧ PySem.W.kitOne K t (.type T) = some k ∧ Q (.bl k) H) ∨
 ∃ (a : Addr) (ys : List V) (T : String) (k : Bool), xs = [.ref a, .ty T] ∧ SqT K H a ys ∧ PySem.W.kitOne K (.type "tuple") (.type T) = some k ∧ Q (.bl k) H
theorem Dh : eQ X (.builtin "isinstance") (EX X.K) := by
 refine oX.or ?_
 rintro pins s σ H xs us Q I r ⟨a, ys, T, k, rfl, sq, e, q⟩
 obtain ⟨u, w', rfl, ru, rw'⟩ := vf r
 cases rw'
 cases ru
 obtain ⟨its, rv, ht, hz⟩ := I.tuple sq
 obtain ⟨o, h1, h2, _⟩ := ht
 exact PySem.W.kia_one PySem.W.kitx_tuple I.kIn ⟨o, h1, h2⟩ e (fun z => nomatch z) fun tk => ⟨.bl k, H, I.tok tk, rfl, q⟩
noncomputable def nR (T : Ty) (ca : CE) : CE := fun ρ S => (ca ρ S).bind fun p => (tyU p.1 p.2).bind fun t => some (.bl (oy t T), p.2)
theorem ly {T : Ty} {e eT : Expr} {ca : CE} {p pos : Pos} (hT0 : T ≠ .non) (he : QE X e ca) (hT : WE X eT (tC (.ty T.nm))) (hg : Gl X "isinstance") (hm : X.mg "isinstance" = none)
  (h1 : starEach [e, eT] X.env = (false, eval e X.env) :: starEach [eT] X.env := by rfl) (h2 : starEach [eT] X.env = (false, eval eT X.env) :: starEach [] X.env := by rfl) (hpl : (backTo pos (starEach [eT] X.env)).any (·.1) = false := by rfl) :
  QE X (.Call (.Name "isinstance" p) [e, eT] [] pos) (nR T ca) := (m7 Dh hg hm OG.kI (d8 he (d8 hT ib h2) h1) (by decide) (by decide) h1 hpl).imp fun σ H Q hz => mM hz fun m ρ S u S' sr lr hc post => by
 obtain ⟨⟨x, S1⟩, h1, h2⟩ := Option.bind_eq_some_iff.mp hc
 obtain ⟨t, ht, h3⟩ := Option.bind_eq_some_iff.mp h2
 cases h3
 refine ⟨m, ρ, S, x, _, sr, lr, h1, fun m1 v1 H1 e1 sr1 i1 => ?_⟩
 have fin := post m1 _ H1 e1 sr1 (Is.bl_ (b := oy t T))
 cases x with
 | non => cases ht; rw [i1.of_non]; exact .inl ⟨_, _, _, _, rfl, .non, kg .non T hT0, fin⟩
 | bl b => cases ht; rw [i1.of_bl]; exact .inl ⟨_, _, _, _, rfl, .bl b, kg .bool T hT0, fin⟩
 | int i => cases ht; rw [i1.of_int]; exact .inl ⟨_, _, _, _, rfl, .int i, kg .int T hT0, fin⟩
 | str i => cases ht; rw [i1.of_str]; exact .inl ⟨_, _, _, _, rfl, .str i, kg .str T hT0, fin⟩
 | tup us =>
  cases ht
  obtain ⟨a, xs, rfl, sa, la⟩ := i1.of_tup
  exact .inr ⟨a, xs, _, _, rfl, sa, kg .tuple T hT0, fin⟩
 | ref l =>
  obtain ⟨a, ha, rfl⟩ := i1.of_ref
  simp only [tyU] at ht
  split at ht <;> try cases ht
  ·rename_i ws hS
   obtain ⟨a', ha', xs, hx, la⟩ := sr1.get hS
   rw [ha] at ha'; cases ha'
   exact .inl ⟨_, _, _, _, rfl, .lst hx, kg .list T hT0, fin⟩
  ·rename_i ws hS
   obtain ⟨a', ha', xs, hx, la⟩ := sr1.get hS
   rw [ha] at ha'; cases ha'
   exact .inl ⟨_, _, _, _, rfl, .dK hx, kg .dict T hT0, fin⟩
 | kl ns => cases ht
noncomputable def cBM (f : U → List U → Sto → Option (U × Sto)) (co : CE) (cr : CA) : CE := fun ρ S => (co ρ S).bind fun p => match p.1 with
 | .ref l => match p.2[l]? with
  | some (.lst _) => (cr ρ p.2).bind fun q => f p.1 q.1 q.2
  | _ => none
 | _ => none
noncomputable def MtP (K : PySem.W.Frag) (r : V → List V → Hp → VK → Prop) (f : U → List U → Sto → Option (U × Sto)) : Prop :=
 ∀ m S H x v us vs u S' Q, Sr K m S H → Is K m H v x → IsL K m H vs us → f x us S = some (u, S') → iC K m H Q u S' → r v vs H Q
theorem Bp {r : V → List V → Hp → VK → Prop} {f : U → List U → Sto → Option (U × Sto)} {co : CE} {cr : CA} (hp : MtP K r f) : ∀ σ H Q, tE K (cBM f co cr) σ H Q → tBM K "list" r (tE K co) (tA K cr) σ H Q := by
 rintro σ H Q ⟨m, ρ, S, u, S', sr, lr, hc, post⟩
 obtain ⟨⟨x, S1⟩, h1, h2⟩ := Option.bind_eq_some_iff.mp hc
 refine ⟨m, ρ, S, x, S1, sr, lr, h1, fun m1 v1 H1 e1 sr1 i1 => ?_⟩
 cases x with
 | ref l =>
  simp only at h2
  split at h2 <;> try cases h2
  rename_i ws hS
  obtain ⟨⟨us, S2⟩, h3, h4⟩ := Option.bind_eq_some_iff.mp h2
  obtain ⟨a, ha, rfl⟩ := id i1.of_ref
  obtain ⟨a', ha', xs, hx, la⟩ := sr1.get hS
  rw [ha] at ha'; cases ha'
  exact ⟨.inl ⟨rfl, xs, SqL.of hx⟩, m1, ρ, S1, us, S2, sr1, lr.mono e1, h3, fun m2 vs H2 e2 sr2 i2 => hp m2 S2 H2 _ _ us vs u S' Q sr2 (i1.mono e2) i2 h4 (post.mono (e1.trans e2))⟩
 | _ => simp at h2
noncomputable def dR : U → List U → Sto → Option (U × Sto)
 | .ref l, [u], S => match S[l]? with
  | some (.lst us) => if us.length < LIM then some (.non, S.set l (.lst (us ++ [u]))) else none
  | _ => none
 | _, _, _ => none
theorem vI : MtP K sG dR := by
 intro m S H x v us vs u S' Q sr ix i hf post
 match x, us, hf with
 | .ref l, [w], hf =>
  simp only [dR] at hf
  split at hf <;> try cases hf
  rename_i ws hS
  split at hf <;> try cases hf
  rename_i hl
  obtain ⟨a, ha, rfl⟩ := ix.of_ref
  obtain ⟨a', ha', xs, hx, la⟩ := sr.get hS
  rw [ha] at ha'; cases ha'
  obtain ⟨y, rfl, iy⟩ := i.one
  have eu : Ext K m H m (upd H a (.lst (xs ++ [y]))) := .of (sr.keep ha _)
  exact ⟨a, xs, y, rfl, rfl, hx, Dk (by rw [la.length]; exact hl), post m _ _ eu (sr.put ha ⟨_, bQ, (la.append (.cons_ iy .nil_)).mono eu⟩) .non_⟩
variable {e : Expr} {es : List Expr} {co : CE} {cr : CA} {o : Expr} {apos cpos : Pos}
theorem ji (ho : QE X o co) (ha : QA X (e :: es) cr) (hbase : attributeBase o "append" X.env (eval o X.env) = eval o X.env := by rfl) (hfew : ((backTo cpos (starEach (e :: es) X.env)).all (fun x => !x.1) && (backToKw cpos (keywordEach [] X.env)).all (fun x => x.1.isSome)
   && decide ((e :: es).length + ([] : List Keyword).length + (if ([] : List Keyword).isEmpty then 0 else 1) < 30)) = true := by rfl) (hline : (apos.endLine == cpos.line) = true := by rfl) (hs : starEach (e :: es) X.env = (false, eval e X.env) :: starEach es X.env := by rfl) (hplain : (backTo cpos (starEach es X.env)).any (·.1) = false := by rfl) :
  QE X (.Call (.Attribute o "append" apos) (e :: es) [] cpos) (cBM dR co cr) := (zM PySem.F.plainAttrs_list PySem.F.slot_list_append PySem.F.type_list_append nD ho ha.h hbase hfew hline hs hplain).imp (Bp vI)
end
noncomputable def SI : Bool → Heap → Addr → Addr → Nat → Prop
 | true, h, it, a, i => h.IsListIter it a i
 | false, h, it, a, i => h.IsTupleIter it a i
noncomputable def SA : Bool → Heap → Addr → Array Value → Prop
 | true, h, a, xs => h.IsList a xs
 | false, h, a, xs => h.IsTuple a xs
theorem SI.at_ {b : Bool} {h h' : Heap} {it a : Addr} {i : Nat} (x : SI b h it a i) (k : ∀ o, h.get? it = some o → h'.get? it = some o) : SI b h' it a i := by
 cases b with
 | true => obtain ⟨o, e, r⟩ := x; exact ⟨o, k o e, r⟩
 | false => obtain ⟨o, e, r⟩ := x; exact ⟨o, k o e, r⟩
theorem SA.at_ {b : Bool} {h h' : Heap} {a : Addr} {xs : Array Value} (x : SA b h a xs) (k : ∀ o, h.get? a = some o → h'.get? a = some o) : SA b h' a xs := by
 cases b with
 | true => obtain ⟨o, e, r⟩ := x; exact ⟨o, k o e, r⟩
 | false => obtain ⟨o, e, r⟩ := x; exact ⟨o, k o e, r⟩
theorem SI.obj {b : Bool} {h : Heap} {it a : Addr} {i : Nat} (x : SI b h it a i) : ∃ o, h.get? it = some o ∧ ∀ v, o.data ≠ .cell v := by
 cases b with
 | true => obtain ⟨o, e, c, d⟩ := x; exact ⟨o, e, fun v z => by rw [d] at z; cases z⟩
 | false => obtain ⟨o, e, c, d⟩ := x; exact ⟨o, e, fun v z => by rw [d] at z; cases z⟩
theorem SA.lt {b : Bool} {h : Heap} {a : Addr} {xs : Array Value} (x : SA b h a xs) : a < h.objs.size := by
 cases b with
 | true => obtain ⟨o, e, _⟩ := x; exact Heap.lt_size e
 | false => obtain ⟨o, e, _⟩ := x; exact Heap.lt_size e
section
variable {prog : Program} {w : World} {A : Around} {E : Value → Shared → Prop} {s : Shared}
theorem vh {I t : Addr} {j : Nat} {ys : Array Value} {y : Value} {Q : Value → Shared → Prop} (hI : s.heap.IsTupleIter I t j) (hT : s.heap.IsTuple t ys) (hy : ys[j]? = some y)
  (k : ∀ h', h'.IsTupleIter I t (j + 1) → Heap.SameBut I s.heap h' → Q y { s with heap := h' }) : wpAny (model prog w) A (Builtin.SmallTypes.nextOf (.ref I)) Q E s := by
 obtain ⟨oi, gi, ci, di⟩ := id hI
 obtain ⟨ot, gt, _, nt, dt⟩ := hT
 unfold Builtin.SmallTypes.nextOf
 refine wpAny_bind (wpAny_callSpecial?_slot (name := Str.ofString "__next__") hI.typeIs PySem.F.slot_tuple_iterator_next (wpAny_call_entry PySem.F.slot_tuple_iterator_next hI.typeIs PySem.F.entry_tuple_iterator_next ?_ (PySem.F.args_tuple_iterator_next_1 _)))
 show wpAny _ _ (field (.ref I) 0 >>= _) _ _ s
 refine wpAny_bind (wpAny_field gi di (x := .ref t) rfl ?_)
 show wpAny _ _ (ite ((Value.ref t == Value.none) = true) _ _) _ _ s
 rw [if_neg (by exact Bool.false_ne_true)]
 show wpAny _ _ (field (.ref I) 1 >>= _) _ _ s
 refine wpAny_bind (wpAny_field gi di (x := .int j 0) rfl ?_)
 show wpAny _ _ (seqItems? (.ref t) >>= _) _ _ s
 refine wpAny_bind (wpAny_seqItems gt dt ?_)
 simp only [hy, Int.toNat_natCast]
 refine wpAny_bind (wpAny_setField gi di (by simp) (wpAny_pure ⟨y, rfl, wpAny_pure (k _ ⟨_, Heap.get?_update_self _ gi (Obj.isFreed_of_fields (Obj.data_mapFields di _)), (Obj.cls_mapFields ..).trans ci, ?_⟩ (Heap.SameBut.update ..))⟩))
 rw [Obj.data_mapFields di]; simp [rawInt]
theorem nc {I t : Addr} {j : Nat} {ys : Array Value} {Q : Value → Shared → Prop} (hh : A.handled = none) (hI : s.heap.IsTupleIter I t j) (hT : s.heap.IsTuple t ys) (hy : ys[j]? = none)
  (k : ∀ h' e, Heap.ExtBut I s.heap h' → (∃ o, h'.get? e = some o ∧ o.cls = .type "StopIteration") → E (.ref e) { s with heap := h' }) : wpAny (model prog w) A (Builtin.SmallTypes.nextOf (.ref I)) Q E s := by
 obtain ⟨oi, gi, ci, di⟩ := id hI
 obtain ⟨ot, gt, _, nt, dt⟩ := hT
 unfold Builtin.SmallTypes.nextOf
 refine wpAny_bind (wpAny_callSpecial?_slot (name := Str.ofString "__next__") hI.typeIs PySem.F.slot_tuple_iterator_next (wpAny_call_entry PySem.F.slot_tuple_iterator_next hI.typeIs PySem.F.entry_tuple_iterator_next ?_ (PySem.F.args_tuple_iterator_next_1 _)))
 show wpAny _ _ (field (.ref I) 0 >>= _) _ _ s
 refine wpAny_bind (wpAny_field gi di (x := .ref t) rfl ?_)
 show wpAny _ _ (ite ((Value.ref t == Value.none) = true) _ _) _ _ s
 rw [if_neg (by exact Bool.false_ne_true)]
 show wpAny _ _ (field (.ref I) 1 >>= _) _ _ s
 refine wpAny_bind (wpAny_field gi di (x := .int j 0) rfl ?_)
 show wpAny _ _ (seqItems? (.ref t) >>= _) _ _ s
 refine wpAny_bind (wpAny_seqItems gt dt ?_)
 simp only [hy, Int.toNat_natCast]
 refine wpAny_bind (wpAny_rule (wpAny_bind (wpAny_setField gi di (by simp) ?_)))
 show wpAny _ _ (newExc (.type "StopIteration") [] >>= _) _ _ _
 simp only [newExc, newTuple]; refine wpAny_bind ?_
 refine wpAny_bind (wpAny_newObj_type ?_ (by (size_fits)))
 refine wpAny_bind (m := firstArgMember _ _) (wpAny_of_eq (a := Value.none) (by simp only [firstArgMember] <;> rfl) ?_)
 refine wpAny_newObj_type ?_ (by (size_fits))
 simp only [raiseNew]
 refine wpAny_bind (wpAny_handled ?_)
 rw [show A.in1.handled = none from hh]
 exact wpAny_bind (wpAny_pure (wpAny_throw (k _ _ (((Heap.SameBut.update ..).extBut.push _).push _) ⟨_, Heap.get?_push_size _ rfl, rfl⟩)))
theorem oz {b : Bool} {I t : Addr} {j : Nat} {ys : Array Value} {y : Value} {Q : Value → Shared → Prop} (hI : SI b s.heap I t j) (hT : SA b s.heap t ys) (hy : ys[j]? = some y)
  (k : ∀ h', SI b h' I t (j + 1) → Heap.SameBut I s.heap h' → Q y { s with heap := h' }) : wpAny (model prog w) A (Builtin.SmallTypes.nextOf (.ref I)) Q E s := by
 cases b with
 | true => exact wpAny_nextOf_list_item hI hT hy k
 | false => exact vh hI hT hy k
theorem jx {b : Bool} {I t : Addr} {j : Nat} {ys : Array Value} {Q : Value → Shared → Prop} (hh : A.handled = none) (hI : SI b s.heap I t j) (hT : SA b s.heap t ys) (hy : ys[j]? = none)
  (k : ∀ h' e, Heap.ExtBut I s.heap h' → (∃ o, h'.get? e = some o ∧ o.cls = .type "StopIteration") → E (.ref e) { s with heap := h' }) : wpAny (model prog w) A (Builtin.SmallTypes.nextOf (.ref I)) Q E s := by
 cases b with
 | true => exact wpAny_nextOf_list_end hh hI hT hy k
 | false => exact nc hh hI hT hy k
structure ZA (z I O i j a c : Addr) : Prop where
 Iz : I ≠ z
 Oz : O ≠ z
 iz : i ≠ z
 jz : j ≠ z
 IO : I ≠ O
 Ii : I ≠ i
 Ij : I ≠ j
 Oi : O ≠ i
 Oj : O ≠ j
 ij : i ≠ j
 az : a ≠ z
 aO : a ≠ O
 ai : a ≠ i
 aj : a ≠ j
 cz : c ≠ z
 cO : c ≠ O
 ci : c ≠ i
 cj : c ≠ j
structure ZSt (b d : Bool) (h : Heap) (z I O i j a c : Addr) (f : Value) (n : Nat) : Prop where
 hz : IsZip h z I O f
 hI : IsPair h I (.ref i) (.ref j)
 hO : ∃ p q, IsPair h O p q
 h1 : SI b h i a n
 h2 : SI d h j c n
theorem ZSt.at_ {b d : Bool} {h h' : Heap} {z I O i j a c : Addr} {f : Value} {n : Nat} (x : ZSt b d h z I O i j a c f n) (k : ∀ e ∈ [z, I, O, i, j], ∀ o, h.get? e = some o → h'.get? e = some o) : ZSt b d h' z I O i j a c f n := by
 obtain ⟨p, q, hO⟩ := x.hO
 exact ⟨k z (by simp) _ x.hz, k I (by simp) _ x.hI, ⟨p, q, k O (by simp) _ hO⟩, x.h1.at_ fun o e => k i (by simp) o e, x.h2.at_ fun o e => k j (by simp) o e⟩
theorem uT {b d : Bool} {z I O i j a c : Addr} {n : Nat} {xs ys : Array Value} {x y : Value} {Q : Value → Shared → Prop} (D : ZA z I O i j a c) (st : ZSt b d s.heap z I O i j a c .none n) (ha : SA b s.heap a xs) (hc : SA d s.heap c ys) (hx : xs[n]? = some x) (hy : ys[n]? = some y)
  (k : ∀ h', ZSt b d h' z I O i j a c (rawInt s.heap.objs.size) (n + 1) → IsPair h' s.heap.objs.size x y →
   (∀ e o, e ≠ z → e ≠ O → e ≠ i → e ≠ j → s.heap.get? e = some o → h'.get? e = some o) → Q (.ref s.heap.objs.size) { s with heap := h' }) :
  wpAny (model prog w) A (Builtin.«zip.__next__» ⟨[.ref z], []⟩) (fun fin s' => ∃ v, fin = .done (.ret v) ∧ Q v s') E s := by
 obtain ⟨hz, hI, ⟨p, q, hO⟩, h1, h2⟩ := st
 show wpAny _ _ (field (.ref z) 2 >>= _) _ _ _
 refine wpAny_bind (wpAny_field hz rfl (x := .bool false) rfl ?_)
 show wpAny _ _ (field (.ref z) 3 >>= _) _ _ _
 refine wpAny_bind (wpAny_field hz rfl (x := .ref I) rfl ?_)
 refine wpAny_bind (wpAny_seqItems hI rfl ?_)
 show wpAny _ _ (Builtin.SmallTypes.ownedTupleIsFree (.ref z) >>= _) _ _ _
 refine wpAny_bind ?_
 unfold Builtin.SmallTypes.ownedTupleIsFree
 refine wpAny_bind (wpAny_field hz rfl (x := .none) rfl (wpAny_pure ?_))
 simp only [if_true]
 refine wpAny_bind (wpAny_rule (wpAny_bind (wpAny_field hz rfl (x := .ref O) rfl (wpAny_bind (wpAny_setField_rec hz (by simp) fun g1 z1 s1 => wpAny_bind ?_)))))
 replace z1 : IsZip g1 z I O .ellipsis := z1
 simp only [List.zipIdx_nil, List.zipIdx_cons, List.forIn_nil, List.forIn_cons]
 refine wpAny_bind (wpAny_bind (wpAny_onRaise ?_))
 show wpAny _ _ (Builtin.SmallTypes.nextOf (.ref i) >>= _) _ _ _
 refine wpAny_bind (oz (b := b) (h1.at_ fun o e => s1.extBut _ _ D.iz e) (ha.at_ fun o e => s1.extBut _ _ D.az e) hx fun g2 i2 s2 => wpAny_pure ?_)
 have O2 : IsPair g2 O p q := s2.extBut _ _ D.Oi (s1.extBut _ _ D.Oz hO)
 refine wpAny_bind (wpAny_seqItems O2 rfl (wpAny_bind (wpAny_updateSeq_pair O2 fun g3 O3 s3 => ?_)))
 replace O3 : IsPair g3 O x q := O3
 refine wpAny_bind (wpAny_letGo (wpAny_pure (wpAny_bind (wpAny_bind (wpAny_onRaise ?_)))))
 show wpAny _ _ (Builtin.SmallTypes.nextOf (.ref j) >>= _) _ _ _
 have up3 : ∀ e o, e ≠ z → e ≠ i → e ≠ O → s.heap.get? e = some o → g3.get? e = some o := fun e o u1 u2 u3 q => s3.extBut _ _ u3 (s2.extBut _ _ u2 (s1.extBut _ _ u1 q))
 refine wpAny_bind (oz (b := d) (h2.at_ fun o e => up3 _ _ D.jz D.ij.symm D.Oj.symm e) (hc.at_ fun o e => up3 _ _ D.cz D.ci D.cO e) hy fun g4 j4 s4 => wpAny_pure ?_)
 have O4 : IsPair g4 O x q := s4.extBut _ _ D.Oj O3
 refine wpAny_bind (wpAny_seqItems O4 rfl (wpAny_bind (wpAny_updateSeq_pair O4 fun g5 O5 s5 => ?_)))
 replace O5 : IsPair g5 O x y := O5
 refine wpAny_bind (wpAny_letGo (wpAny_pure (wpAny_pure (wpAny_bind (wpAny_seqItems O5 rfl (wpAny_bind (wpAny_newTuple ?_)))))))
 have sz : g5.objs.size = s.heap.objs.size := by rw [s5.1, s4.1, s3.1, s2.1, s1.1]
 have z5 : IsZip g5 z I O .ellipsis := s5.extBut _ _ D.Oz.symm (s4.extBut _ _ D.jz.symm (s3.extBut _ _ D.Oz.symm (s2.extBut _ _ D.iz.symm z1)))
 have up5 : ∀ e o, e ≠ z → e ≠ O → e ≠ i → e ≠ j → s.heap.get? e = some o → g5.get? e = some o := fun e o u1 u2 u3 u4 q => s5.extBut _ _ u2 (s4.extBut _ _ u4 (up3 e o u1 u3 u2 q))
 have i5 : SI b g5 i a (n + 1) := i2.at_ fun o e => s5.extBut _ _ D.Oi.symm (s4.extBut _ _ D.ij (s3.extBut _ _ D.Oi.symm e))
 have j5 : SI d g5 j c (n + 1) := j4.at_ fun o e => s5.extBut _ _ D.Oj.symm e
 have zlt : z < g5.objs.size := Heap.lt_size z5
 show wpAny _ _ (Builtin.SmallTypes.ownedTupleHandOut (.ref z) (.ref g5.objs.size) >>= _) _ _ _
 refine wpAny_bind ?_
 unfold Builtin.SmallTypes.ownedTupleHandOut
 have z6 : IsZip (g5.push { cls := .type "tuple", data := .seq #[x, y] }) z I O .ellipsis := Heap.get?_push_of_some _ z5
 refine wpAny_bind (wpAny_setField_rec z6 (by simp) fun g7 z7 s7 => ?_)
 replace z7 : IsZip g7 z I O (rawInt g5.objs.size) := z7
 refine wpAny_setField_rec z7 (by simp) fun g8 z8 s8 => ?_
 replace z8 : IsZip g8 z I O (rawInt g5.objs.size) := z8
 have up8 : ∀ e o, e ≠ z → g5.get? e = some o → g8.get? e = some o := fun e o u1 q => s8.extBut _ _ u1 (s7.extBut _ _ u1 (Heap.get?_push_of_some _ q))
 have T8 : IsPair g8 g5.objs.size x y := s8.extBut _ _ (Nat.ne_of_gt zlt) (s7.extBut _ _ (Nat.ne_of_gt zlt) (Heap.get?_push_size _ rfl))
 rw [sz] at z8 T8
 refine wpAny_pure ⟨_, rfl, ?_⟩
 show Q (.ref g5.objs.size) _
 rw [sz]
 exact k g8 ⟨z8, up8 _ _ D.Iz (up5 _ _ D.Iz D.IO D.Ii D.Ij hI), ⟨x, y, up8 _ _ D.Oz O5⟩, i5.at_ fun o e => up8 _ _ D.iz e, j5.at_ fun o e => up8 _ _ D.jz e⟩ T8 fun e o u1 u2 u3 u4 q => up8 e o u1 (up5 e o u1 u2 u3 u4 q)
theorem uU {b d : Bool} {z I O i j a c : Addr} {n : Nat} {xs ys : Array Value} {Q : PySem.Fin → Shared → Prop} (hh : A.handled = none) (D : ZA z I O i j a c) (st : ZSt b d s.heap z I O i j a c .none n) (ha : SA b s.heap a xs) (hc : SA d s.heap c ys) (hn : xs[n]? = none ∨ ys[n]? = none)
  (k : ∀ h' e, (∀ c o, c ≠ z → c ≠ O → c ≠ i → c ≠ j → s.heap.get? c = some o → h'.get? c = some o) → (∃ o, h'.get? e = some o ∧ o.cls = .type "StopIteration") → E (.ref e) { s with heap := h' }) :
  wpAny (model prog w) A (Builtin.«zip.__next__» ⟨[.ref z], []⟩) Q E s := by
 obtain ⟨hz, hI, ⟨p, q, hO⟩, h1, h2⟩ := st
 show wpAny _ _ (field (.ref z) 2 >>= _) _ _ _
 refine wpAny_bind (wpAny_field hz rfl (x := .bool false) rfl ?_)
 show wpAny _ _ (field (.ref z) 3 >>= _) _ _ _
 refine wpAny_bind (wpAny_field hz rfl (x := .ref I) rfl ?_)
 refine wpAny_bind (wpAny_seqItems hI rfl ?_)
 show wpAny _ _ (Builtin.SmallTypes.ownedTupleIsFree (.ref z) >>= _) _ _ _
 refine wpAny_bind ?_
 unfold Builtin.SmallTypes.ownedTupleIsFree
 refine wpAny_bind (wpAny_field hz rfl (x := .none) rfl (wpAny_pure ?_))
 simp only [if_true]
 refine wpAny_bind (wpAny_rule (wpAny_bind (wpAny_field hz rfl (x := .ref O) rfl (wpAny_bind (wpAny_setField_rec hz (by simp) fun g1 z1 s1 => wpAny_bind ?_)))))
 replace z1 : IsZip g1 z I O .ellipsis := z1
 simp only [List.zipIdx_nil, List.zipIdx_cons, List.forIn_nil, List.forIn_cons]
 refine wpAny_bind (wpAny_bind (wpAny_onRaise ?_))
 show wpAny _ _ (Builtin.SmallTypes.nextOf (.ref i) >>= _) _ _ _
 cases hx : xs[n]? with
 | none =>
  refine wpAny_bind (jx (b := b) hh (h1.at_ fun o e => s1.extBut _ _ D.iz e) (ha.at_ fun o e => s1.extBut _ _ D.az e) hx fun g2 e s2 he => ?_)
  obtain ⟨oe, ge, ce⟩ := he
  have z2 : IsZip g2 z I O .ellipsis := s2 _ _ D.iz.symm z1
  have nez : e ≠ z := fun v => by subst v; rw [z2] at ge; cases ge; simp at ce
  exact wpAny_setField_rec z2 (by simp) fun g3 _ s3 => k g3 e (fun c o u1 _ u3 _ v => s3.extBut _ _ u1 (s2 _ _ u3 (s1.extBut _ _ u1 v))) ⟨oe, s3.extBut _ _ nez ge, ce⟩
 | some x =>
  have hy : ys[n]? = none := by rcases hn with v | v; rw [hx] at v; cases v; exact v
  refine wpAny_bind (oz (b := b) (h1.at_ fun o e => s1.extBut _ _ D.iz e) (ha.at_ fun o e => s1.extBut _ _ D.az e) hx fun g2 i2 s2 => wpAny_pure ?_)
  have O2 : IsPair g2 O p q := s2.extBut _ _ D.Oi (s1.extBut _ _ D.Oz hO)
  refine wpAny_bind (wpAny_seqItems O2 rfl (wpAny_bind (wpAny_updateSeq_pair O2 fun g3 O3 s3 => ?_)))
  refine wpAny_bind (wpAny_letGo (wpAny_pure (wpAny_bind (wpAny_bind (wpAny_onRaise ?_)))))
  show wpAny _ _ (Builtin.SmallTypes.nextOf (.ref j) >>= _) _ _ _
  have up3 : ∀ e o, e ≠ z → e ≠ i → e ≠ O → s.heap.get? e = some o → g3.get? e = some o := fun e o u1 u2 u3 q => s3.extBut _ _ u3 (s2.extBut _ _ u2 (s1.extBut _ _ u1 q))
  refine wpAny_bind (jx (b := d) hh (h2.at_ fun o e => up3 _ _ D.jz D.ij.symm D.Oj.symm e) (hc.at_ fun o e => up3 _ _ D.cz D.ci D.cO e) hy fun g4 e s4 he => ?_)
  obtain ⟨oe, ge, ce⟩ := he
  have z4 : IsZip g4 z I O .ellipsis := s4 _ _ D.jz.symm (s3.extBut _ _ D.Oz.symm (s2.extBut _ _ D.iz.symm z1))
  have nez : e ≠ z := fun v => by subst v; rw [z4] at ge; cases ge; simp at ce
  exact wpAny_setField_rec z4 (by simp) fun g5 _ s5 => k g5 e (fun c o u1 u2 u3 u4 v => s5.extBut _ _ u1 (s4 _ _ u4 (up3 c o u1 u3 u2 v))) ⟨oe, s5.extBut _ _ nez ge, ce⟩
theorem uV {b d : Bool} {z I O i j a c : Addr} {n : Nat} {xs ys : Array Value} {x y : Value} {Q : Option Value → Shared → Prop} (D : ZA z I O i j a c) (st : ZSt b d s.heap z I O i j a c .none n) (ha : SA b s.heap a xs) (hc : SA d s.heap c ys) (hx : xs[n]? = some x) (hy : ys[n]? = some y)
  (k : ∀ h', ZSt b d h' z I O i j a c (rawInt s.heap.objs.size) (n + 1) → IsPair h' s.heap.objs.size x y →
   (∀ e o, e ≠ z → e ≠ O → e ≠ i → e ≠ j → s.heap.get? e = some o → h'.get? e = some o) → Q (some (.ref s.heap.objs.size)) { s with heap := h' }) : wpAny (model prog w) A (pyNext (.ref z)) Q E s := by
 have ty : s.TypeIs (.ref z) "zip" := ⟨_, st.hz, rfl⟩
 unfold pyNext
 exact wpAny_bind (wpAny_attempt (wpAny_callSpecial?_slot (name := Str.ofString "__next__") ty PySem.F.slot_zip_next (wpAny_call_entry PySem.F.slot_zip_next ty PySem.F.entry_zip_next
   (uT D st ha hc hx hy fun h' a1 a2 a3 => wpAny_pure (k h' a1 a2 a3)) (PySem.F.args_zip_next_1 _))))
theorem w9 {b d : Bool} {z I O i j a c : Addr} {n : Nat} {xs ys : Array Value} {Q : Option Value → Shared → Prop} (hh : A.handled = none) (D : ZA z I O i j a c) (st : ZSt b d s.heap z I O i j a c .none n) (ha : SA b s.heap a xs) (hc : SA d s.heap c ys) (hn : xs[n]? = none ∨ ys[n]? = none)
  (k : ∀ h', (∀ c o, c ≠ z → c ≠ O → c ≠ i → c ≠ j → s.heap.get? c = some o → h'.get? c = some o) → Q none { s with heap := h' }) : wpAny (model prog w) A (pyNext (.ref z)) Q E s := by
 have ty : s.TypeIs (.ref z) "zip" := ⟨_, st.hz, rfl⟩
 unfold pyNext
 refine wpAny_bind (wpAny_attempt (wpAny_callSpecial?_slot (name := Str.ofString "__next__") ty PySem.F.slot_zip_next (wpAny_call_entry PySem.F.slot_zip_next ty PySem.F.entry_zip_next
   (uU hh D st ha hc hn fun h' e hk he => ?_) (PySem.F.args_zip_next_1 _))))
 obtain ⟨o, ho, co⟩ := he
 exact wpAny_bind (wpAny_isInstance (T := "StopIteration") (b := true) ⟨o, ho, co⟩ isSubtype_stop (wpAny_pure (k _ hk)))
noncomputable def itO (b : Bool) (a : Addr) : Obj := { cls := .type (if b then "list_iterator" else "tuple_iterator"), data := .fields #[.ref a, .int 0 0] }
noncomputable abbrev zG2 (b d : Bool) (h : Heap) (a c : Addr) : Heap := (h.push (itO b a)).push (itO d c)
noncomputable abbrev zG4 (b d : Bool) (h : Heap) (a c : Addr) : Heap := ((zG2 b d h a c).push { cls := .type "tuple", data := .seq #[.ref h.objs.size, .ref (h.push (itO b a)).objs.size] }).push { cls := .type "tuple", data := .seq #[.none, .none] }
noncomputable abbrev zG5 (b d : Bool) (h : Heap) (a c : Addr) : Heap := (zG4 b d h a c).push { cls := .type "zip", data := .fields #[.none, .bool false, .bool false, .ref (zG2 b d h a c).objs.size, .ref ((zG2 b d h a c).push { cls := .type "tuple", data := .seq #[.ref h.objs.size, .ref (h.push (itO b a)).objs.size] }).objs.size] }
theorem w8 (b d : Bool) (a c : Addr) (xs ys : Array Value) : Meets (Builtin.«zip.__new__» ⟨[.type "zip", .ref a, .ref c], []⟩) (fun _ R s => SA b s.heap a xs ∧ SA d s.heap c ys ∧
   R (.ok (.ret (.ref (zG4 b d s.heap a c).objs.size))) { s with heap := zG5 b d s.heap a c }) :=
 .of_wp fun prog w A R s q => by
  obtain ⟨hp, g, dr, tk, os⟩ := s
  obtain ⟨p1, p2, q⟩ := q
  have sb := sub_zip
  cases b <;> cases d
  ·have e1 : Heap.IsTuple (Shared.heap ⟨hp, g, dr, tk, os⟩) a xs := p1
   have e2 : Heap.IsTuple (Shared.heap ⟨hp.push { cls := .type "tuple_iterator", data := .fields #[.ref a, .int 0 0] }, g, dr, tk, os⟩) c ys := SA.at_ (b := false) p2 fun o e => Heap.get?_push_of_some _ e
   wp_walk using wpAny_pyIter_tuple e1, wpAny_pyIter_tuple e2
   exact ⟨_, rfl, q⟩
  ·have e1 : Heap.IsTuple (Shared.heap ⟨hp, g, dr, tk, os⟩) a xs := p1
   have e2 : Heap.IsList (Shared.heap ⟨hp.push { cls := .type "tuple_iterator", data := .fields #[.ref a, .int 0 0] }, g, dr, tk, os⟩) c ys := SA.at_ (b := true) p2 fun o e => Heap.get?_push_of_some _ e
   wp_walk using wpAny_pyIter_tuple e1, wpAny_pyIter_list e2
   exact ⟨_, rfl, q⟩
  ·have e1 : Heap.IsList (Shared.heap ⟨hp, g, dr, tk, os⟩) a xs := p1
   have e2 : Heap.IsTuple (Shared.heap ⟨hp.push { cls := .type "list_iterator", data := .fields #[.ref a, .int 0 0] }, g, dr, tk, os⟩) c ys := SA.at_ (b := false) p2 fun o e => Heap.get?_push_of_some _ e
   wp_walk using wpAny_pyIter_list e1, wpAny_pyIter_tuple e2
   exact ⟨_, rfl, q⟩
  ·have e1 : Heap.IsList (Shared.heap ⟨hp, g, dr, tk, os⟩) a xs := p1
   have e2 : Heap.IsList (Shared.heap ⟨hp.push { cls := .type "list_iterator", data := .fields #[.ref a, .int 0 0] }, g, dr, tk, os⟩) c ys := SA.at_ (b := true) p2 fun o e => Heap.get?_push_of_some _ e
   wp_walk using wpAny_pyIter_list e1, wpAny_pyIter_list e2
   exact ⟨_, rfl, q⟩
theorem wR {b : Bool} {a i : Addr} {h : Heap} (e : h.get? i = some (itO b a)) : SI b h i a 0 := by
 cases b with
 | true => exact ⟨_, e, rfl, rfl⟩
 | false => exact ⟨_, e, rfl, rfl⟩
theorem uW {b d : Bool} {a c : Addr} {xs ys : Array Value} {Q : Value → Shared → Prop} (ha : SA b s.heap a xs) (hc : SA d s.heap c ys)
  (k : ∀ h' z I O i j, ZA z I O i j a c → ZSt b d h' z I O i j a c .none 0 → (∀ e ∈ [z, I, O, i, j], s.heap.objs.size ≤ e) → (∀ e o, s.heap.get? e = some o → h'.get? e = some o) → Q (.ref z) { s with heap := h' }) :
  wpAny (model prog w) A (call (.type "zip") [.ref a, .ref c]) Q E s := by
 refine callType_new PySem.F.called_zip (by decide) (PySem.F.typeCall_zip_2 _ _) (PySem.F.newCall_zip_2 _ _) (fun obj => PySem.F.args_object_init_3 obj _ _) PySem.F.entry_zip_new (w8 b d a c xs ys) ⟨ha, hc, ?_⟩
 have n1 : (s.heap.push (itO b a)).objs.size = s.heap.objs.size + 1 := Heap.size_push ..
 have n2 : (zG2 b d s.heap a c).objs.size = s.heap.objs.size + 2 := by rw [Heap.size_push, n1]
 have n3 : ((zG2 b d s.heap a c).push { cls := .type "tuple", data := .seq #[.ref s.heap.objs.size, .ref (s.heap.push (itO b a)).objs.size] }).objs.size = s.heap.objs.size + 3 := by rw [Heap.size_push, n2]
 have n4 : (zG4 b d s.heap a c).objs.size = s.heap.objs.size + 4 := by rw [Heap.size_push, n3]
 have p5 : (zG5 b d s.heap a c).get? (zG4 b d s.heap a c).objs.size = some _ := Heap.get?_push_size _ rfl
 have p4 : (zG5 b d s.heap a c).get? ((zG2 b d s.heap a c).push { cls := .type "tuple", data := .seq #[.ref s.heap.objs.size, .ref (s.heap.push (itO b a)).objs.size] }).objs.size = some _ := Heap.get?_push_of_some _ (Heap.get?_push_size _ rfl)
 have p3 : (zG5 b d s.heap a c).get? (zG2 b d s.heap a c).objs.size = some _ := Heap.get?_push_of_some _ (Heap.get?_push_of_some _ (Heap.get?_push_size _ rfl))
 have p2 : (zG5 b d s.heap a c).get? (s.heap.push (itO b a)).objs.size = some _ := Heap.get?_push_of_some _ (Heap.get?_push_of_some _ (Heap.get?_push_of_some _ (Heap.get?_push_size _ rfl)))
 have p1 : (zG5 b d s.heap a c).get? s.heap.objs.size = some _ := Heap.get?_push_of_some _ (Heap.get?_push_of_some _ (Heap.get?_push_of_some _ (Heap.get?_push_of_some _ (Heap.get?_push_size _ rfl))))
 have la := ha.lt
 have lc := hc.lt
 rw [n4, n2, n3] at p5
 rw [n2, n1] at p3
 rw [n3] at p4
 rw [n1] at p2
 show _ ∧ _
 rw [n4]
 refine ⟨⟨_, p5, rfl⟩, k _ (s.heap.objs.size + 4) (s.heap.objs.size + 2) (s.heap.objs.size + 3) s.heap.objs.size (s.heap.objs.size + 1) ⟨?_, ?_, ?_, ?_, ?_, ?_, ?_, ?_, ?_, ?_, ?_, ?_, ?_, ?_, ?_, ?_, ?_, ?_⟩ ⟨p5, p3, ⟨_, _, p4⟩, wR p1, wR p2⟩ (fun e he => ?_) fun e o x => Heap.get?_push_of_some _ (Heap.get?_push_of_some _ (Heap.get?_push_of_some _ (Heap.get?_push_of_some _ (Heap.get?_push_of_some _ x))))⟩
 case refine_19 =>
  simp only [List.mem_cons, List.not_mem_nil, or_false] at he
  rcases he with e1 | e1 | e1 | e1 | e1 <;> rw [e1] <;> first | exact Nat.le_refl _ | exact Nat.le_add_right _ _
 all_goals first | exact Nat.ne_of_lt (by omega) | exact Nat.ne_of_gt (by omega) | exact Nat.ne_of_lt (Nat.lt_of_lt_of_le la (by omega)) | exact Nat.ne_of_lt (Nat.lt_of_lt_of_le lc (by omega))
end
noncomputable def Sq (K : PySem.W.Frag) : Bool → Hp → Addr → List V → Prop
 | true, H, a, xs => SqL K H a xs
 | false, H, a, xs => SqT K H a xs
section
variable {X : Cx} {pins : List (Addr × Obj)} {σ : L2.St} {H : Hp} {s : Shared} {h' : Heap}
theorem _root_.L2.Inv.turnedL {t' : Nat} {ch : List Addr} (I : Inv X pins σ H s) (k : ∀ b o, b ∉ ch → s.heap.get? b = some o → h'.get? b = some o) (hf : ∀ b ∈ ch, uQ X pins H b) : Inv X pins σ H { s with heap := h', toks := t' } := by
 have nit : ∀ b u, H b = some u → b ∉ ch := fun b u e z => by rw [(hf b z).1] at e; cases e
 refine I.step (g' := s.gens) (d' := s.drawn) (ch := ch) (fun b hb => ⟨(hf b hb).2.2.2.1, (hf b hb).2.1, (hf b hb).2.2.2.2.1, (hf b hb).2.2.2.2.2⟩) (fun b o _ _ hc e _ => k b o hc e) (fun b o _ _ hc e _ => ⟨o.slots, k b o hc e⟩) (fun _ _ _ _ n => n)
  (fun b o hc e => ⟨o, k b o hc e⟩) (fun _ _ e => e) (fun _ _ _ e => e) (fun b ps e => ⟨#[], by rw [e]; simp⟩) (fun m hm => ?_) (fun b u e => ?_) I.bare
 ·obtain ⟨o, es, ep, ho, r⟩ := hm
  exact ⟨o, es, ep, k _ o (fun z => (hf _ z).2.1 rfl) ho, r⟩
 ·refine (I.hok b u e).stay (fun c v hc q => k c v ?_ q) (fun _ q => q) fun _ _ q => q
  rcases hc with z | z
  ·rw [z]; exact nit b u e
  ·exact nit c _ z
theorem _root_.L2.Inv.sq {b : Bool} {a : Addr} {xs : List V} (I : Inv X pins σ H s) (h : Sq X.K b H a xs) : ∃ its : List Value, cL xs its ∧ SA b s.heap a its.toArray := by
 cases b with
 | true => obtain ⟨its, r, p, _⟩ := I.list h; exact ⟨its, r, p.isList⟩
 | false => obtain ⟨its, r, p, _⟩ := I.tuple h; exact ⟨its, r, p⟩
theorem _root_.L2.Inv.sq_inj {b : Bool} {a : Addr} {xs ys : List V} (I : Inv X pins σ H s) (h : Sq X.K b H a xs) (h2 : Sq X.K b H a ys) : xs = ys := by
 cases b with
 | true => exact I.list_inj h h2
 | false => exact I.tuple_inj h h2
end
noncomputable def Itz (K : PySem.W.Frag) (b d : Bool) (a c : Addr) : It :=
  ⟨fun i H => ∃ xs ys x y, Sq K b H a xs ∧ Sq K d H c ys ∧ xs[i]? = some x ∧ ys[i]? = some y,
   fun i H v H' => ∃ p x y, v = .ref p ∧ H p = none ∧ H' = upd H p (.tup [x, y]) ∧ (∀ xs, Sq K b H a xs → xs[i]? = some x) ∧ ∀ ys, Sq K d H c ys → ys[i]? = some y,
   fun i H => ∃ xs ys, Sq K b H a xs ∧ Sq K d H c ys ∧ (xs.length ≤ i ∨ ys.length ≤ i)⟩
theorem vt {h : Heap} {ob o : Obj} {e : Addr} (q : (h.push ob).get? e = some o) (ne : e ≠ h.objs.size) : h.get? e = some o := (Heap.get?_push_ne h e ob ne).symm.trans q
theorem vC {P : Program} {w : World} {H : Hp} {h : Heap} {a : Addr} {x y : V} {u v : Value} (e : h.get? a = some { cls := .type "tuple", data := .seq #[u, v] }) (rx : dv x u) (ry : dv y v) : dX P w H h a (.tup [x, y]) :=
 ⟨by show 2 ≤ sizeLine; decide, [u, v], .cons rx (.cons ry .nil), ⟨_, e, rfl, _, rfl⟩⟩
theorem vg {P : Program} {w : World} {K : PySem.W.Frag} {es : List Expr} {k : Nat} {pos : Pos} {b d : Bool} {z I O i j a c : Addr} (D : ZA z I O i j a c) :
  Bu P w K (.Tuple es k pos) (Itz K b d a c) [z, I, O, i, j] z (fun n h => ZSt b d h z I O i j a c .none n) where
 mem := by simp
 obj := fun n h st e he => by
  obtain ⟨hz, hI, ⟨p, q, hO⟩, h1, h2⟩ := st
  simp only [List.mem_cons, List.not_mem_nil, or_false] at he
  rcases he with rfl | rfl | rfl | rfl | rfl
  ·exact ⟨_, hz, fun v q => by cases q⟩
  ·exact ⟨_, hI, fun v q => by cases q⟩
  ·exact ⟨_, hO, fun v q => by cases q⟩
  ·exact h1.obj
  ·exact h2.obj
 keep := fun n h h' st kp => st.at_ kp
 item := by
  intro X hP hw hK hc n pins s σ H E Iv hf st hg
  subst hP hw hK
  obtain ⟨xs, ys, x, y, qa, qc, hx, hy⟩ := hg
  obtain ⟨ia, ra, sa⟩ := Iv.sq qa
  obtain ⟨ic, rc, sc⟩ := Iv.sq qc
  obtain ⟨u, hu, ru⟩ := ra.get hx
  obtain ⟨v, hv, rv⟩ := rc.get hy
  refine uV D st sa sc (x := u) (y := v) (by simpa using hu) (by simpa using hv) fun h1 st1 T1 up1 => ⟨_, rfl, wpAny_letOwnedTupleGo_zip st1.hz fun h2 z2 s2 => ?_⟩
  have hfr : H s.heap.objs.size = none := Iv.hok.fresh (Nat.le_refl _)
  have sz : ∀ e ∈ [z, I, O, i, j], e < s.heap.objs.size := fun e he => by
   simp only [List.mem_cons, List.not_mem_nil, or_false] at he
   obtain ⟨hz, hI, ⟨p, q, hO⟩, h1', h2'⟩ := st
   rcases he with rfl | rfl | rfl | rfl | rfl
   ·exact Heap.lt_size hz
   ·exact Heap.lt_size hI
   ·exact Heap.lt_size hO
   ·obtain ⟨o, e, _⟩ := h1'.obj; exact Heap.lt_size e
   ·obtain ⟨o, e, _⟩ := h2'.obj; exact Heap.lt_size e
  have T2 : h2.get? s.heap.objs.size = some { cls := .type "tuple", data := .seq #[u, v] } := s2.extBut _ _ (Nat.ne_of_gt (sz z (by simp))) T1
  have I1 : Inv X pins σ (upd H s.heap.objs.size (.tup [x, y])) { s with heap := s.heap.push { cls := .type "tuple", data := .seq #[u, v] }, toks := s.toks } :=
   Iv.laid (fun b o e => Heap.get?_push_of_some _ e) (Nat.le_refl _) (vC (Heap.get?_push_size _ rfl) ru rv)
  have fr2 : ∀ e ∈ [z, I, O, i, j], (upd H s.heap.objs.size (.tup [x, y])) e = none := fun e he => by rw [cy (Nat.ne_of_lt (sz e he))]; exact (hf e he).1
  have I2 : Inv X pins σ (upd H s.heap.objs.size (.tup [x, y])) { s with heap := h2, toks := s.toks } :=
   Inv.turnedL (s := { s with heap := s.heap.push { cls := .type "tuple", data := .seq #[u, v] }, toks := s.toks }) (h' := h2) (t' := s.toks) (ch := [z, I, O, i, j]) I1 (fun e o hn q => by
    by_cases ce : e = s.heap.objs.size
    ·subst ce
     have q' : (s.heap.push { cls := .type "tuple", data := .seq #[u, v] }).get? s.heap.objs.size = some o := q
     rw [Heap.get?_push_size _ rfl] at q'
     cases q'; exact T2
    ·have q' : s.heap.get? e = some o := vt q ce
     simp only [List.mem_cons, List.not_mem_nil, or_false, not_or] at hn
     exact s2.extBut _ _ hn.1 (up1 e o hn.1 hn.2.2.1 hn.2.2.2.1 hn.2.2.2.2 q')) fun e he => ⟨fr2 e he, (hf e he).2⟩
  refine ⟨.ref s.heap.objs.size, _, I2, rfl, ⟨_, x, y, rfl, hfr, rfl, fun xs' q => by rw [Iv.sq_inj q qa]; exact hx, fun ys' q => by rw [Iv.sq_inj q qc]; exact hy⟩, ?_, fr2⟩
  obtain ⟨_, hI1, ⟨p, q, hO1⟩, i1, j1⟩ := st1
  exact ⟨z2, s2.extBut _ _ D.Iz hI1, ⟨p, q, s2.extBut _ _ D.Oz hO1⟩, i1.at_ fun o e => s2.extBut _ _ D.iz e, j1.at_ fun o e => s2.extBut _ _ D.jz e⟩
 done := by
  intro X hP hw hK hc n pins s σ H E Iv hf st hg
  subst hP hw hK
  obtain ⟨xs, ys, qa, qc, hx⟩ := hg
  obtain ⟨ia, ra, sa⟩ := Iv.sq qa
  obtain ⟨ic, rc, sc⟩ := Iv.sq qc
  have la := ra.length
  have lc := rc.length
  refine w9 (Iv.ok.hd hc) D st sa sc (hx.elim (fun q => .inl (by simp; omega)) fun q => .inr (by simp; omega)) fun h1 up1 => ⟨rfl, ?_⟩
  exact Iv.turnedL (t' := s.toks) (ch := [z, I, O, i, j]) (fun e o hn q => by
   simp only [List.mem_cons, List.not_mem_nil, or_false, not_or] at hn
   exact up1 e o hn.1 hn.2.2.1 hn.2.2.2.1 hn.2.2.2.2 q) hf
 self := fun _ _ _ _ _ st h => wpAny_pyIter_zip st.hz h
noncomputable def DG (K : PySem.W.Frag) (ta : TA) : TI := fun σ H R => ta σ H fun vs H2 => ∃ b d a c, vs = [.ref a, .ref c] ∧ (∃ xs, Sq K b H2 a xs) ∧ (∃ ys, Sq K d H2 c ys) ∧ R (Itz K b d a c) H2
theorem wg : bootBuiltins "zip" = some (.type "zip") := rfl
section
variable {X : Cx} {pos : Pos}
theorem zN {es : List Expr} {k : Nat} {tp p : Pos} {a c : Expr} {ta : TA} (hg : Gl X "zip") (hm : X.mg "zip" = none) (ha : WA X [a, c] ta)
  (hs : starEach [a, c] X.env = (false, eval a X.env) :: starEach [c] X.env := by rfl) (hpl : (backTo pos (starEach [c] X.env)).any (·.1) = false := by rfl) : WI X (.Tuple es k tp) (.Call (.Name "zip" p) [a, c] [] pos) (DG X.K ta) := by
 constructor
 intro pins s σ H R I h
 refine wpAny_Call_Name_kw (lW I hg hm OP.wg ?_)
 refine PyProof.Rows.callWith_type1 (thn (ha.h pos pins s σ H _ I h) fun us s1 hz => ?_) hs hpl
 obtain ⟨vs, H1, I1, r1, q1⟩ := hz
 obtain ⟨b, d, aa, cc, rfl, ⟨xs, qa⟩, ⟨ys, qc⟩, q⟩ := q1
 obtain ⟨u, v, rfl, ru, rv⟩ := vf r1
 cases ru
 cases rv
 obtain ⟨ia, ra, sa⟩ := I1.sq qa
 obtain ⟨ic, rc, sc⟩ := I1.sq qc
 refine uW sa sc fun h1 z II O i j D st hi up => wpAny_pyIter_zip st.hz ⟨z, [z, II, O, i, j], _, _, H1, rfl, I1.kept (t' := s1.toks) up, vg D, st, fun e he => ?_, q⟩
 exact I1.fpOk (hi e he) (I1.hok.fresh (hi e he))
noncomputable def yP : U → Sto → Option (List U × (Sto → Prop))
 | .tup us, _ => some (us, fun _ => True)
 | .ref l, S => match S[l]? with
  | some (.lst us) => some (us, fun S => S[l]? = some (.lst us))
  | _ => none
 | _, _ => none
noncomputable def sT (us ws : List U) : List U := (us.zip ws).map fun p => .tup [p.1, p.2]
noncomputable def BJ (ca cb : CE) : CI := fun ρ S => (ca ρ S).bind fun p => (cb ρ p.2).bind fun q => (yP p.1 q.2).bind fun x => (yP q.1 q.2).bind fun y => some (sT x.1 y.1, fun S => x.2 S ∧ y.2 S, q.2)
theorem wJ {K : PySem.W.Frag} {m : List Addr} {S : Sto} {H : Hp} {u : U} {v : V} {us : List U} {ok : Sto → Prop} (sr : Sr K m S H) (iu : Is K m H v u) (h : yP u S = some (us, ok)) :
  ∃ b a, v = .ref a ∧ (∃ xs, Sq K b H a xs) ∧ ∀ m2 S2 H2, Ext K m H m2 H2 → Sr K m2 S2 H2 → ok S2 → ∃ xs, Sq K b H2 a xs ∧ IsL K m2 H2 xs us := by
 cases u with
 | tup ws =>
  cases h
  obtain ⟨a, xs, rfl, sq, il⟩ := iu.of_tup
  exact ⟨false, a, rfl, ⟨xs, sq⟩, fun m2 S2 H2 e _ _ => ⟨xs, e.keep.t _ _ sq, il.mono e⟩⟩
 | ref l =>
  simp only [yP] at h
  split at h <;> try cases h
  rename_i us hS
  obtain ⟨a, ha, rfl⟩ := iu.of_ref
  obtain ⟨a', ha', xs, hx, il⟩ := sr.get hS
  rw [ha] at ha'; cases ha'
  refine ⟨true, a, rfl, ⟨xs, SqL.of hx⟩, fun m2 S2 H2 e sr2 hok => ?_⟩
  obtain ⟨a', ha', xs, hx, il⟩ := sr2.get hok
  rw [e.get ha] at ha'; cases ha'
  exact ⟨xs, SqL.of hx, il⟩
 | _ => simp [yP] at h
theorem Af {es : List Expr} {k : Nat} {tp p : Pos} {a c : Expr} {ca cc : CE} (hg : Gl X "zip") (hm : X.mg "zip" = none) (ha : QE X a ca) (hc : QE X c cc)
  (hs : starEach [a, c] X.env = (false, eval a X.env) :: starEach [c] X.env := by rfl) (hs2 : starEach [c] X.env = (false, eval c X.env) :: starEach [] X.env := by rfl) (hpl : (backTo pos (starEach [c] X.env)).any (·.1) = false := by rfl) :
  QI X (.Tuple es k tp) (.Call (.Name "zip" p) [a, c] [] pos) (BJ ca cc) := (zN hg hm (d8 ha (d8 hc ib hs2) hs) hs hpl).imp fun σ H R hz => tR hz fun m ρ S us ok S' sr lr hf post => by
 obtain ⟨⟨x, S1⟩, h1, h⟩ := Option.bind_eq_some_iff.mp hf
 obtain ⟨⟨y, S2⟩, h2, h⟩ := Option.bind_eq_some_iff.mp h
 obtain ⟨⟨xs, okx⟩, h3, h⟩ := Option.bind_eq_some_iff.mp h
 obtain ⟨⟨ys, oky⟩, h4, h⟩ := Option.bind_eq_some_iff.mp h
 cases h
 refine ⟨m, ρ, S, x, S1, sr, lr, h1, fun m1 v1 H1 e1 sr1 i1 => ⟨m1, ρ, S1, y, _, sr1, lr.mono e1, h2, fun m2 v2 H2 e2 sr2 i2 => ?_⟩⟩
 obtain ⟨b, aa, rfl, q1, k1⟩ := wJ sr2 (i1.mono e2) h3
 obtain ⟨d, bb, rfl, q2, k2⟩ := wJ sr2 i2 h4
 refine ⟨b, d, aa, bb, rfl, q1, q2, post m2 H2 _ (e1.trans e2) sr2 fun m3 S3 H3 i e3 sr3 hok => ?_⟩
 obtain ⟨vs, sq1, l1⟩ := k1 m3 S3 H3 e3 sr3 hok.1
 obtain ⟨ws, sq2, l2⟩ := k2 m3 S3 H3 e3 sr3 hok.2
 have n1 := l1.length
 have n2 := l2.length
 refine ⟨fun u hu => ?_, fun hi => ⟨vs, ws, sq1, sq2, ?_⟩⟩
 ·simp only [sT, List.getElem?_map, Option.map_eq_some_iff] at hu
  obtain ⟨⟨p, q⟩, hz, rfl⟩ := hu
  obtain ⟨hp, hq⟩ := List.getElem?_zip_eq_some.mp hz
  obtain ⟨vp, ep, ip⟩ := l1.getD hp
  obtain ⟨vq, eq, iq⟩ := l2.getD hq
  refine ⟨⟨vs, ws, vp, vq, sq1, sq2, ep, eq⟩, fun v H4 hy => ?_⟩
  obtain ⟨r, x', y', rfl, hr, rfl, f1, f2⟩ := hy
  have := f1 vs sq1
  rw [ep] at this; cases this
  have := f2 ws sq2
  rw [eq] at this; cases this
  have ee : Ext X.K m3 H3 m3 (upd H3 r (.tup [vp, vq])) := .of (eU hr _)
  exact ⟨ee, sr3.same (dy hr _), .tup_ (SqT.of bQ) (.cons_ (ip.mono ee) (.cons_ (iq.mono ee) .nil_))⟩
 ·simp only [sT, List.length_map, List.length_zip] at hi
  omega
end
section
variable {X : Cx} {pos : Pos}
noncomputable def j6 : List (CE × CE) → Rho → Sto → Option (List (Key × U) × Sto)
 | [], _, S => some ([], S)
 | (ck, cv) :: r, ρ, S => (ck ρ S).bind fun p => (cv ρ p.2).bind fun q => (ko p.1).bind fun k => (j6 r ρ q.2).bind fun z => some ((k, q.1) :: z.1, z.2)
noncomputable def AU (kus : List (Key × U)) (au : List (Key × U)) : List (Key × U) := kus.foldl (fun acc kv => yR acc kv.1 kv.2) au
noncomputable def sZ (kus : List (Key × U)) : List (Key × U) := AU kus []
noncomputable def Bn (prs : List (CE × CE)) : CE := fun ρ S => (j6 prs ρ (S ++ [.dic []])).bind fun q => match q.2[S.length]? with
 | some (.dic []) => some (.ref S.length, q.2.set S.length (.dic (sZ q.1)))
 | _ => none
end
theorem gS : ∀ {ns : List Int} {vs : List Value}, cL (ns.map V.int) vs → IntsAre vs ns
 | [], _, h => by cases h; exact .nil
 | n :: ns, _, .cons r t => by
  obtain ⟨k, rfl⟩ := r
  exact .cons n k (gS t)
section
variable {ρ : Rho} {S : Sto} {c1 c2 : CS} {t ta tb : CT} {ca cb cc : CE} {cr : CA} {u x y : U} {us : List U} {i l : Nat} {f g : U → U → Sto → Option (U × Sto)} {b : Bool}
noncomputable def Ee (S : Sto) : Option (Option U) → Option (U × Sto)
 | some (some u) => some (u, S)
 | _ => none
theorem BP : ak i ρ S = Ee S (ρ[i]?) := rfl
theorem yX : Ee S (some (some u)) = some (u, S) := rfl
theorem x_c : cC u ρ S = some (u, S) := rfl
noncomputable def BG (f : U → U → Sto → Option (U × Sto)) (x : U) (q : U × Sto) := f x q.1 q.2
noncomputable def Dr (f : U → U → Sto → Option (U × Sto)) (cb : CE) (ρ : Rho) (p : U × Sto) := (cb ρ p.2).bind (BG f p.1)
theorem rD : cOp f ca cb ρ S = (ca ρ S).bind (Dr f cb ρ) := rfl
theorem ju : Dr f cb ρ (x, S) = (cb ρ S).bind (BG f x) := rfl
theorem jt : BG f x (y, S) = f x y S := rfl
noncomputable def A0 : U × Sto → Option (Bool × Sto)
 | (.bl b, S) => some (b, S)
 | _ => none
theorem pE : aE ca ρ S = (ca ρ S).bind A0 := by
 unfold aE; congr 1; funext p; obtain ⟨u, S⟩ := p; cases u <;> rfl
theorem oj : A0 (.bl b, S) = some (b, S) := rfl
noncomputable def DD (tb : CT) (ρ : Rho) (p : Bool × Sto) := if p.1 = true then tb ρ p.2 else some (false, p.2)
noncomputable def kOr (tb : CT) (ρ : Rho) (p : Bool × Sto) := if p.1 = true then some (true, p.2) else tb ρ p.2
noncomputable def Ej (p : Bool × Sto) : Option (Bool × Sto) := some (!p.1, p.2)
theorem CK : md ta tb ρ S = (ta ρ S).bind (DD tb ρ) := rfl
theorem zE : DD tb ρ (true, S) = tb ρ S := rfl
theorem zD : DD tb ρ (false, S) = some (false, S) := rfl
theorem Bx : cOr ta tb ρ S = (ta ρ S).bind (kOr tb ρ) := rfl
theorem ze : kOr tb ρ (true, S) = some (true, S) := rfl
theorem xc : kOr tb ρ (false, S) = tb ρ S := rfl
theorem B1 : oY ta ρ S = (ta ρ S).bind Ej := rfl
theorem zg : Ej (b, S) = some (!b, S) := rfl
noncomputable def yz (cb : CE) (ρ : Rho) : U × Sto → Option (U × Sto)
 | (.bl true, S) => cb ρ S
 | (.bl false, S) => some (.bl false, S)
 | _ => none
noncomputable def Dq (cb : CE) (ρ : Rho) : U × Sto → Option (U × Sto)
 | (.bl false, S) => cb ρ S
 | (.bl true, S) => some (.bl true, S)
 | _ => none
noncomputable def A3 : U × Sto → Option (U × Sto)
 | (.bl b, S) => some (.bl (!b), S)
 | _ => none
theorem zC : hU ca cb ρ S = (ca ρ S).bind (yz cb ρ) := by
 unfold hU; congr 1; funext p; obtain ⟨u, S⟩ := p; cases u with
 | bl b => cases b <;> rfl
 | _ => rfl
theorem xw : yz cb ρ (.bl true, S) = cb ρ S := rfl
theorem xv : yz cb ρ (.bl false, S) = some (.bl false, S) := rfl
theorem B0 : Et ca cb ρ S = (ca ρ S).bind (Dq cb ρ) := by
 unfold Et; congr 1; funext p; obtain ⟨u, S⟩ := p; cases u with
 | bl b => cases b <;> rfl
 | _ => rfl
theorem zd : Dq cb ρ (.bl false, S) = cb ρ S := rfl
theorem zc : Dq cb ρ (.bl true, S) = some (.bl true, S) := rfl
theorem zf : uj ca ρ S = (ca ρ S).bind A3 := by
 unfold uj; congr 1; funext p; obtain ⟨u, S⟩ := p; cases u <;> rfl
theorem xf : A3 (.bl b, S) = some (.bl (!b), S) := rfl
noncomputable def tD (u : U) (q : List U × Sto) : Option (List U × Sto) := some (u :: q.1, q.2)
noncomputable def wQ (cr : CA) (ρ : Rho) (p : U × Sto) := (cr ρ p.2).bind (tD p.1)
theorem B2 : aq ρ S = some ([], S) := rfl
theorem mY : ab ca cr ρ S = (ca ρ S).bind (wQ cr ρ) := rfl
theorem me : wQ cr ρ (u, S) = (cr ρ S).bind (tD u) := rfl
theorem rP : tD u (us, S) = some (u :: us, S) := rfl
noncomputable def Ef (p : List U × Sto) : Option (U × Sto) := some (.tup p.1, p.2)
noncomputable def Ek (p : List U × Sto) : Option (U × Sto) := some (.ref p.2.length, p.2 ++ [.lst p.1])
theorem uX : aF cr ρ S = (cr ρ S).bind Ef := rfl
theorem wA : Ef (us, S) = some (.tup us, S) := rfl
theorem rN : eD cr ρ S = (cr ρ S).bind Ek := rfl
theorem pF : Ek (us, S) = some (.ref S.length, S ++ [.lst us]) := rfl
noncomputable def kCB (f : Fn) (p : List U × Sto) := f p.1 p.2
theorem DY {f : Fn} : cCB f cr ρ S = (cr ρ S).bind (kCB f) := rfl
theorem CB {f : Fn} : kCB f (us, S) = f us S := rfl
noncomputable def El (T : Ty) (p : U × Sto) : Option (U × Sto) := (tyU p.1 p.2).bind fun t => some (.bl (oy t T), p.2)
theorem uZ {T : Ty} : nR T ca ρ S = (ca ρ S).bind (El T) := rfl
theorem pG {T : Ty} : El T (u, S) = (tyU u S).bind fun t => some (.bl (oy t T), S) := rfl
noncomputable def A1 (c2 : CS) : Out × Rho × Sto → Option (Out × Rho × Sto)
 | (.nx, ρ, S) => c2 ρ S
 | (o, ρ, S) => some (o, ρ, S)
theorem y2 : bP ρ S = some (.nx, ρ, S) := rfl
theorem uY : bx c1 c2 ρ S = (c1 ρ S).bind (A1 c2) := by
 unfold bx; congr 1; funext p; obtain ⟨o, ρ, S⟩ := p; cases o <;> rfl
theorem wB : A1 c2 (.nx, ρ, S) = c2 ρ S := rfl
theorem y9 : A1 c2 (.rt u, ρ, S) = some (.rt u, ρ, S) := rfl
theorem y8 : A1 c2 (.bk, ρ, S) = some (.bk, ρ, S) := rfl
theorem y6 : A1 c2 (.ct, ρ, S) = some (.ct, ρ, S) := rfl
noncomputable def A4 (ρ : Rho) (p : U × Sto) : Option (Out × Rho × Sto) := some (.nx, ρ, p.2)
noncomputable def Ei (ρ : Rho) (p : U × Sto) : Option (Out × Rho × Sto) := some (.rt p.1, ρ, p.2)
theorem zw : lJ ca ρ S = (ca ρ S).bind (A4 ρ) := rfl
theorem xo : A4 ρ (u, S) = some (.nx, ρ, S) := rfl
theorem qH : cS ca ρ S = (ca ρ S).bind (Ei ρ) := rfl
theorem za : Ei ρ (u, S) = some (.rt u, ρ, S) := rfl
noncomputable def Du (c1 c2 : CS) (ρ : Rho) (p : Bool × Sto) := if p.1 = true then c1 ρ p.2 else c2 ρ p.2
theorem qJ : dq t c1 c2 ρ S = (t ρ S).bind (Du c1 c2 ρ) := rfl
theorem rO : Du c1 c2 ρ (true, S) = c1 ρ S := rfl
theorem pH : Du c1 c2 ρ (false, S) = c2 ρ S := rfl
noncomputable def kIf (ca cb : CE) (ρ : Rho) (p : Bool × Sto) := if p.1 = true then ca ρ p.2 else cb ρ p.2
theorem EL : cIf t ca cb ρ S = (t ρ S).bind (kIf ca cb ρ) := rfl
theorem Ci : kIf ca cb ρ (true, S) = ca ρ S := rfl
theorem Cg : kIf ca cb ρ (false, S) = cb ρ S := rfl
noncomputable def Eg (i : Nat) (ρ : Rho) (p : U × Sto) : Option (Out × Rho × Sto) := some (.nx, ρ.set i (some p.1), p.2)
theorem xa : b8 i ca ρ S = (ca ρ S).bind (Eg i ρ) := rfl
theorem rL : Eg i ρ (u, S) = some (.nx, ρ.set i (some u), S) := rfl
noncomputable def yx (q : Rho × Sto) : Option (Out × Rho × Sto) := some (.nx, q.1, q.2)
noncomputable def Em (g : CG) (ρ : Rho) (p : U × Sto) := (g p.1 ρ p.2).bind yx
theorem CH {g : CG} : BL ca g ρ S = (ca ρ S).bind (Em g ρ) := rfl
theorem zB {g : CG} : Em g ρ (u, S) = (g u ρ S).bind yx := rfl
theorem zA : yx (ρ, S) = some (.nx, ρ, S) := rfl
theorem Ck : gNm i u ρ S = some (ρ.set i (some u), S) := rfl
theorem Cj {is : List Nat} : gTp is (.tup us) ρ S = (fQ is us ρ).bind fun ρ' => some (ρ', S) := rfl
theorem zG : fQ [] [] ρ = some ρ := rfl
theorem zF {is : List Nat} : fQ (i :: is) (u :: us) ρ = fQ is us (ρ.set i (some u)) := rfl
noncomputable def A2 (ρ : Rho) (S' : Sto) : Option (Out × Rho × Sto) := some (.nx, ρ, S')
noncomputable def Dn (o v : U) (ρ : Rho) (r : U × Sto) := (kF o r.1 v r.2).bind (A2 ρ)
noncomputable def Dp (ci : CE) (v : U) (ρ : Rho) (q : U × Sto) := (ci ρ q.2).bind (Dn q.1 v ρ)
noncomputable def kSI (co ci : CE) (ρ : Rho) (p : U × Sto) := (co ρ p.2).bind (Dp ci p.1 ρ)
theorem Ew : lZ ca cb cc ρ S = (cc ρ S).bind (kSI ca cb ρ) := rfl
theorem BW : kSI ca cb ρ (u, S) = (ca ρ S).bind (Dp cb u ρ) := rfl
theorem BV : Dp cb y ρ (u, S) = (cb ρ S).bind (Dn u y ρ) := rfl
theorem BU : Dn x y ρ (u, S) = (kF x u y S).bind (A2 ρ) := rfl
theorem BS : A2 ρ S = some (.nx, ρ, S) := rfl
noncomputable def kIx (y : U) (S : Sto) : Option O → Option (U × Sto)
 | some (.lst us) => (match y with
   | .int i => (atI us i).bind fun u => some (u, S)
   | _ => none)
 | some (.dic kus) => (ko y).bind fun k => (jw kus k).bind fun u => some (u, S)
 | some (.fdc _ kus) => (ko y).bind fun k => (jw kus k).bind fun u => some (u, S)
 | _ => none
theorem xn {j : Int} : fIx (.tup us) (.int j) S = (atI us j).bind fun u => some (u, S) := rfl
theorem zp : fIx (.ref l) y S = kIx y S S[l]? := by
 unfold fIx kIx; dsimp only <;> (generalize S[l]? = q; rcases q with _ | o <;> first | rfl | (cases o <;> rfl))
theorem zq {j : Int} : kIx (.int j) S (some (.lst us)) = (atI us j).bind fun u => some (u, S) := rfl
theorem Cc {kus : List (Key × U)} : kIx y S (some (.dic kus)) = (ko y).bind fun k => (jw kus k).bind fun u => some (u, S) := rfl
noncomputable def BD (l : Nat) (i v : U) (S : Sto) : Option O → Option Sto
 | some (.lst us) => (match i with
   | .int k => (ixN us.length k).bind fun j => some (S.set l (.lst (us.set j v)))
   | _ => none)
 | some (.dic kus) => (ko i).bind fun k => if kus.length < LIM then some (S.set l (.dic (yR kus k v))) else none
 | _ => none
theorem BR : kF (.ref l) x y S = BD l x y S S[l]? := by
 unfold kF BD; dsimp only <;> (generalize S[l]? = q; rcases q with _ | o <;> first | rfl | (cases o <;> rfl))
theorem y3 {j : Int} : BD l (.int j) y S (some (.lst us)) = (ixN us.length j).bind fun j => some (S.set l (.lst (us.set j y))) := rfl
theorem y4 {kus : List (Key × U)} : BD l x y S (some (.dic kus)) = (ko x).bind fun k => if kus.length < LIM then some (S.set l (.dic (yR kus k y))) else none := rfl
theorem at0 {α : Type} {a : α} {r : List α} : atI (a :: r) 0 = some a := by show atI _ ((0 : Nat) : Int) = _; exact fO rfl
theorem at1 {α : Type} {a b : α} {r : List α} : atI (a :: b :: r) 1 = some b := by show atI _ ((1 : Nat) : Int) = _; exact fO rfl
theorem at2 {α : Type} {a b c : α} {r : List α} : atI (a :: b :: c :: r) 2 = some c := by show atI _ ((2 : Nat) : Int) = _; exact fO rfl
theorem at3 {α : Type} {a b c d : α} {r : List α} : atI (a :: b :: c :: d :: r) 3 = some d := by show atI _ ((3 : Nat) : Int) = _; exact fO rfl
theorem ix0 {n : Nat} : ixN (n + 1) 0 = some 0 := by simp [ixN]
theorem ix1 {n : Nat} : ixN (n + 1 + 1) 1 = some 1 := by simp [ixN]; omega
theorem ix2 {n : Nat} : ixN (n + 1 + 1 + 1) 2 = some 2 := by simp [ixN]; omega
noncomputable def BH (S : Sto) : Option O → Option (U × Sto)
 | some (.lst us) => some (.int us.length, S)
 | some (.dic us) => some (.int us.length, S)
 | _ => none
theorem zk : gH [.ref l] S = BH S S[l]? := by
 unfold gH BH; dsimp only <;> (generalize S[l]? = q; rcases q with _ | o <;> first | rfl | (cases o <;> rfl))
theorem zl : BH S (some (.lst us)) = some (.int us.length, S) := rfl
theorem zm {kus : List (Key × U)} : BH S (some (.dic kus)) = some (.int kus.length, S) := rfl
theorem zj : gH [.tup us] S = some (.int us.length, S) := rfl
variable {j k : Int}
theorem CL : bJ (.int j) (.int k) S = some (.int (j + k), S) := rfl
theorem BQ : eV (.int j) (.int k) S = some (.int (j - k), S) := rfl
theorem zh (h : rB j k) : kG (.int j) (.int k) S = some (.int (j * k), S) := by simp [kG, fI, h]
theorem xp (h : rC j k) : vV (.int j) (.int k) S = some (.int (j / k), S) := by simp [vV, fI, h]
theorem qI (h : 0 < k) : nJ (.int j) (.int k) S = some (.int (j % k), S) := by simp [nJ, fI, h]
theorem xb (h : yW j k) : rH (.int j) (.int k) S = some (.int (j ^ k.toNat), S) := by simp [rH, fI, h]
theorem EK : fLt (.int j) (.int k) S = some (.bl (decide (j < k)), S) := rfl
theorem Ca : fLe (.int j) (.int k) S = some (.bl (decide (j ≤ k)), S) := rfl
theorem EM : fGt (.int j) (.int k) S = some (.bl (decide (k < j)), S) := rfl
theorem EN : fGe (.int j) (.int k) S = some (.bl (decide (k ≤ j)), S) := rfl
theorem Cq : fEq (.int j) (.int k) S = some (.bl (decide (j = k)), S) := rfl
theorem B4 : fNe (.int j) (.int k) S = some (.bl (!decide (j = k)), S) := rfl
theorem Cp {a c : Str} : fEq (.str a) (.str c) S = some (.bl (decide (a = c)), S) := rfl
theorem B3 {a c : Str} : fNe (.str a) (.str c) S = some (.bl (!decide (a = c)), S) := rfl
theorem Cr {a c : Bool} : fEq (.bl a) (.bl c) S = some (.bl (decide (a = c)), S) := rfl
theorem B5 {a c : Bool} : fNe (.bl a) (.bl c) S = some (.bl (!decide (a = c)), S) := rfl
noncomputable def kFn : Out × Rho × Sto → Option (U × Sto)
 | (.rt u, _, S) => some (u, S)
 | (.nx, _, S) => some (.non, S)
 | _ => none
theorem lh {n k : Nat} (h : us.length = k) : fnU n k c1 us S = (c1 (nh n us) S).bind kFn := by
 unfold fnU; rw [if_pos h]; congr 1; funext p; obtain ⟨o, ρ, S⟩ := p; cases o <;> rfl
theorem Cn : kFn (.rt u, ρ, S) = some (u, S) := rfl
theorem Cm : kFn (.nx, ρ, S) = some (.non, S) := rfl
end
section
variable {ρ : Rho} {S : Sto} {c1 c2 : CS} {t ta tb : CT} {ca cb cc : CE} {cr : CA} {u x y : U} {us : List U} {i l : Nat} {b : Bool} {c : Cl} {fus : List (Option U)} {g : Fn}
open Classical in
noncomputable def vP (c : Cl) (i : Nat) (S : Sto) : Option O → Option (U × Sto)
 | some (.ins c' fus) => if c' = c then (fus[i]?).join.bind fun u => some (u, S) else none
 | _ => none
noncomputable def Dv (c : Cl) (i : Nat) (p : U × Sto) := DK c i p.1 p.2
theorem Co : E7 c i ca ρ S = (ca ρ S).bind (Dv c i) := rfl
theorem zv : Dv c i (.ref l, S) = vP c i S S[l]? := by
 unfold Dv DK vP; dsimp only <;> (generalize S[l]? = q; rcases q with _ | o <;> first | rfl | (cases o <;> rfl))
theorem zu : vP c i S (some (.ins c fus)) = ((fus[i]?).join).bind fun u => some (u, S) := by
 unfold vP; dsimp only; rw [if_pos rfl]
open Classical in
noncomputable def BE (c : Cl) (i l : Nat) (v : U) (S : Sto) : Option O → Option Sto
 | some (.ins c' fus) => if c' = c then some (S.set l (.ins c (fus.set i (some v)))) else none
 | _ => none
noncomputable def BF (c : Cl) (i : Nat) (v : U) (ρ : Rho) (q : U × Sto) := (yH c i q.1 v q.2).bind (A2 ρ)
noncomputable def Eh (c : Cl) (i : Nat) (ca : CE) (ρ : Rho) (p : U × Sto) := (ca ρ p.2).bind (BF c i p.1 ρ)
theorem Ex : DO c i ca cb ρ S = (cb ρ S).bind (Eh c i ca ρ) := rfl
theorem BZ : Eh c i ca ρ (u, S) = (ca ρ S).bind (BF c i u ρ) := rfl
theorem BY : BF c i u ρ (.ref l, S) = (BE c i l u S S[l]?).bind (A2 ρ) := by
 unfold BF yH BE; dsimp only <;> (generalize S[l]? = q; rcases q with _ | o <;> first | rfl | (cases o <;> rfl))
theorem BX : BE c i l u S (some (.ins c fus)) = some (S.set l (.ins c (fus.set i (some u)))) := by
 unfold BE; dsimp only; rw [if_pos rfl]
noncomputable def tx (g : Fn) (l : Nat) (q : List U × Sto) := g (.ref l :: q.1) q.2
open Classical in
noncomputable def qe (c : Cl) (g : Fn) (cr : CA) (ρ : Rho) (l : Nat) (S : Sto) : Option O → Option (U × Sto)
 | some (.ins c' _) => if c' = c then (cr ρ S).bind (tx g l) else none
 | _ => none
noncomputable def yw (c : Cl) (g : Fn) (cr : CA) (ρ : Rho) (p : U × Sto) := yI c g p.1 p.2 (cr ρ)
theorem zi : DQ c g ca cr ρ S = (ca ρ S).bind (yw c g cr ρ) := rfl
theorem xi : yw c g cr ρ (.ref l, S) = qe c g cr ρ l S S[l]? := by
 unfold yw yI qe; dsimp only <;> (generalize S[l]? = q; rcases q with _ | o <;> first | rfl | (cases o <;> rfl))
theorem xh : qe c g cr ρ l S (some (.ins c fus)) = (cr ρ S).bind (tx g l) := by
 unfold qe; dsimp only; rw [if_pos rfl]
theorem xg : tx g l (us, S) = g (.ref l :: us) S := rfl
noncomputable def Ds (n : Nat) : U × Sto → Option (U × Sto)
 | (.non, S) => some (.ref n, S)
 | _ => none
theorem xj : Ds i (.non, S) = some (.ref i, S) := rfl
noncomputable def kIn (neg : Bool) (x : U) (S : Sto) : Option O → Option (U × Sto)
 | some (.lst us) => if ff x = true ∧ us.all ff = true then some (.bl (if neg then !inU x us else inU x us), S) else none
 | some (.dic kus) => (ko x).bind fun k => some (.bl (if neg then !(jw kus k).isSome else (jw kus k).isSome), S)
 | some (.fdc _ kus) => (ko x).bind fun k => some (.bl (if neg then !(jw kus k).isSome else (jw kus k).isSome), S)
 | _ => none
theorem zt {neg : Bool} : fIn neg x (.ref l) S = kIn neg x S S[l]? := by
 unfold fIn kIn; dsimp only <;> (generalize S[l]? = q; rcases q with _ | o <;> first | rfl | (cases o <;> rfl))
theorem Ce {neg : Bool} {kus : List (Key × U)} : kIn neg x S (some (.dic kus)) = (ko x).bind fun k => some (.bl (if neg then !(jw kus k).isSome else (jw kus k).isSome), S) := rfl
theorem Cd {neg : Bool} (h : ff x = true ∧ us.all ff = true) : kIn neg x S (some (.lst us)) = some (.bl (if neg then !inU x us else inU x us), S) := by
 unfold kIn; dsimp only; rw [if_pos h]
theorem Cb {j : Int} : ko (.int j) = some (.inl j) := rfl
theorem zo {z : Str} : ko (.str z) = some (.inr z) := rfl
noncomputable def DB (f : U → List U → Sto → Option (U × Sto)) (x : U) (q : List U × Sto) := f x q.1 q.2
noncomputable def DC (f : U → List U → Sto → Option (U × Sto)) (cr : CA) (ρ : Rho) (x : U) (S : Sto) : Option O → Option (U × Sto)
 | some (.lst _) => (cr ρ S).bind (DB f x)
 | _ => none
noncomputable def kBM (f : U → List U → Sto → Option (U × Sto)) (cr : CA) (ρ : Rho) : U × Sto → Option (U × Sto)
 | (.ref l, S) => DC f cr ρ (.ref l) S S[l]?
 | _ => none
variable {fm : U → List U → Sto → Option (U × Sto)}
theorem ER : cBM fm ca cr ρ S = (ca ρ S).bind (kBM fm cr ρ) := by
 unfold cBM; congr 1; funext p; obtain ⟨u, S⟩ := p
 cases u <;> try rfl
theorem CF : kBM fm cr ρ (.ref l, S) = DC fm cr ρ (.ref l) S S[l]? := rfl
theorem CD : DC fm cr ρ x S (some (.lst us)) = (cr ρ S).bind (DB fm x) := rfl
theorem CC : DB fm x (us, S) = fm x us S := rfl
noncomputable def BI (l : Nat) (u : U) (S : Sto) : Option O → Option (U × Sto)
 | some (.lst us) => if us.length < LIM then some (.non, S.set l (.lst (us ++ [u]))) else none
 | _ => none
theorem CJ : dR (.ref l) [u] S = BI l u S S[l]? := by
 unfold dR BI; dsimp only <;> (generalize S[l]? = q; rcases q with _ | o <;> first | rfl | (cases o <;> rfl))
theorem jv (h : us.length < LIM) : BI l u S (some (.lst us)) = some (.non, S.set l (.lst (us ++ [u]))) := by
 unfold BI; dsimp only; rw [if_pos h]
noncomputable def Dw (ku xu : U) (S : Sto) : Option O → Option (U × Sto)
 | some (.dic kus) => (ko ku).bind fun k => some ((jw kus k).getD xu, S)
 | _ => none
noncomputable def Dx (l : Nat) (ku : U) (r : U × Sto) := Dw ku r.1 r.2 r.2[l]?
noncomputable def Dy (l : Nat) (cx : CE) (ρ : Rho) (q : U × Sto) := (cx ρ q.2).bind (Dx l q.1)
noncomputable def Dz (l : Nat) (ck cx : CE) (ρ : Rho) (S : Sto) : Option O → Option (U × Sto)
 | some (.dic _) => (ck ρ S).bind (Dy l cx ρ)
 | _ => none
noncomputable def kDG (ck cx : CE) (ρ : Rho) : U × Sto → Option (U × Sto)
 | (.ref l, S) => Dz l ck cx ρ S S[l]?
 | _ => none
theorem EO : Bo ca cb cc ρ S = (ca ρ S).bind (kDG cb cc ρ) := by
 unfold Bo; congr 1; funext p; obtain ⟨u, S⟩ := p
 cases u <;> try rfl
theorem Cw : kDG cb cc ρ (.ref l, S) = Dz l cb cc ρ S S[l]? := rfl
theorem Cv {kus : List (Key × U)} : Dz l cb cc ρ S (some (.dic kus)) = (cb ρ S).bind (Dy l cc ρ) := rfl
theorem Cu : Dy l cc ρ (u, S) = (cc ρ S).bind (Dx l u) := rfl
theorem Ct : Dx l u (x, S) = Dw u x S S[l]? := rfl
theorem Cs {kus : List (Key × U)} : Dw u x S (some (.dic kus)) = (ko u).bind fun k => some ((jw kus k).getD x, S) := rfl
theorem zx : DR ρ S = some (.ref S.length, S ++ [.dic []]) := rfl
noncomputable def kP3 (k : Key) (u : U) (z : List (Key × U) × Sto) : Option (List (Key × U) × Sto) := some ((k, u) :: z.1, z.2)
noncomputable def kP2 (r : List (CE × CE)) (ρ : Rho) (x : U) (q : U × Sto) := (ko x).bind fun k => (j6 r ρ q.2).bind (kP3 k q.1)
noncomputable def kP1 (cv : CE) (r : List (CE × CE)) (ρ : Rho) (p : U × Sto) := (cv ρ p.2).bind (kP2 r ρ p.1)
variable {pr : List (CE × CE)}
theorem EB : j6 [] ρ S = some ([], S) := rfl
theorem x_p : j6 ((ca, cb) :: pr) ρ S = (ca ρ S).bind (kP1 cb pr ρ) := rfl
theorem EA : kP1 cb pr ρ (u, S) = (cb ρ S).bind (kP2 pr ρ u) := rfl
theorem Ez : kP2 pr ρ x (u, S) = (ko x).bind fun k => (j6 pr ρ S).bind (kP3 k u) := rfl
theorem Ey {k : Key} {z : List (Key × U)} : kP3 k u (z, S) = some ((k, u) :: z, S) := rfl
noncomputable def kD1 (n : Nat) (kus : List (Key × U)) (S : Sto) : Option O → Option (U × Sto)
 | some (.dic []) => some (.ref n, S.set n (.dic (sZ kus)))
 | _ => none
noncomputable def kD (n : Nat) (q : List (Key × U) × Sto) := kD1 n q.1 q.2 q.2[n]?
theorem zy : Bn pr ρ S = (j6 pr ρ (S ++ [.dic []])).bind (kD S.length) := by
 unfold Bn; congr 1
theorem xt {z : List (Key × U)} : kD i (z, S) = kD1 i z S S[i]? := rfl
theorem xq {z : List (Key × U)} : kD1 i z S (some (.dic [])) = some (.ref i, S.set i (.dic (sZ z))) := rfl
theorem yY : lY [.tup us] S = some (.tup us, S) := rfl
noncomputable def Dm (S : Sto) : Option O → Option (U × Sto)
 | some (.lst us) => some (.tup us, S)
 | _ => none
theorem yZ : lY [.ref l] S = Dm S S[l]? := by
 unfold lY Dm; dsimp only <;> (generalize S[l]? = q; rcases q with _ | o <;> first | rfl | (cases o <;> rfl))
theorem y1 : Dm S (some (.lst us)) = some (.tup us, S) := rfl
theorem xk : dD [.tup us] S = some (.ref S.length, S ++ [.lst us]) := rfl
noncomputable def kLs (S : Sto) : Option O → Option (U × Sto)
 | some (.lst us) => some (.ref S.length, S ++ [.lst us])
 | _ => none
theorem xl : dD [.ref l] S = kLs S S[l]? := by
 unfold dD kLs; dsimp only <;> (generalize S[l]? = q; rcases q with _ | o <;> first | rfl | (cases o <;> rfl))
theorem xm : kLs S (some (.lst us)) = some (.ref S.length, S ++ [.lst us]) := rfl
theorem zr : BK [.bl b] S = some (.int (if b then 1 else 0), S) := rfl
theorem ga {X : Sto} {n : Nat} : (S ++ X)[S.length + n]? = X[n]? := by rw [List.getElem?_append_right (Nat.le_add_right _ _), Nat.add_sub_cancel_left]
theorem ga0 {X : Sto} : (S ++ X)[S.length]? = X[0]? := ga (n := 0)
theorem gs {X : Sto} {n : Nat} {o : O} : (S ++ X).set (S.length + n) o = S ++ X.set n o := by rw [List.set_append_right _ _ (Nat.le_add_right _ _), Nat.add_sub_cancel_left]
theorem gs0 {X : Sto} {o : O} : (S ++ X).set S.length o = S ++ X.set 0 o := gs (n := 0)
section
variable {ok : Sto → Prop} {gg : CG} {cbd : CS} {ρ0 ρ1 : Rho} {S0 S1 : Sto}
theorem g9 (h : ok S) : fk ok gg cbd [] ρ S = some (.nx, ρ, S) := by unfold fk; rw [if_pos h]
theorem dA (h : ok S) (hg : gg u ρ S = some (ρ0, S0)) (hb : cbd ρ0 S0 = some (.nx, ρ1, S1)) : fk ok gg cbd (u :: us) ρ S = fk ok gg cbd us ρ1 S1 := by
 rw [fk]; dsimp only; rw [if_pos h, hg, Option.bind_some]; dsimp only; rw [hb, Option.bind_some]
theorem ud {ce : CE} {ys : List U} (h : ok S) (hg : gg u ρ S = some (ρ0, S0)) (he : ce ρ0 S0 = some (x, S1)) (hl : S1[l]? = some (.lst ys)) (hn : ys.length < LIM) : jg ok gg ce l (u :: us) ρ S = jg ok gg ce l us ρ0 (S1.set l (.lst (ys ++ [x]))) := by
 rw [jg, if_pos h, hg, Option.bind_some]; dsimp only; rw [he, Option.bind_some]; dsimp only; rw [hl]; dsimp only; rw [if_pos hn]
theorem v7 {ce : CE} (h : ok S) : jg ok gg ce l [] ρ S = some S := by rw [jg, if_pos h]
end
end
theorem yv {K : PySem.W.Frag} {H : Hp} {p xs : Addr} {c : CS} {r : Rho} {σ : L2.St} {v0 : Option V} {Q : VK} {nx bk ct : L2.St → Hp → Prop} (P : Eu H p xs)
  (ok : ∀ (ns : List Int) (a b : Int), 0 ≤ a → 0 ≤ b → ∃ ρ' S', c (none :: some (.ref 1) :: r) [.lst (ns.map U.int), .lst [.ref 0, .int a, .int b]] = some (.rt (.bl true), ρ', S')) (q : ∀ H', Q (.bl true) H')
  (hr : r = List.replicate r.length none := by rfl) (hl : σ.length = r.length := by rfl) : tS K c { nx := nx, rt := Q, bk := bk, ct := ct } (v0 :: some (.ref p) :: σ) H := by
 obtain ⟨ns, a, b, h1, h2, h3, h4, h5⟩ := P
 obtain ⟨ρ', S', e⟩ := ok ns a b h4 h5
 refine ⟨[xs, p], _, _, _, ρ', S', ⟨rfl, by simp [h3], fun l ad o e1 e2 => ?_⟩, ⟨by simp [hl], fun i u e1 => ?_⟩, e, fun m' v H' _ _ iv => by rw [iv.of_bl]; exact q H'⟩
 ·match l, e1, e2 with
  | 0, e1, e2 =>
   simp at e1 e2
   subst e1; subst e2
   exact ⟨_, h2, qg ns⟩
  | 1, e1, e2 =>
   simp at e1 e2
   subst e1; subst e2
   exact ⟨_, h1, .cons_ (.ref_ rfl) (.cons_ .int_ (.cons_ .int_ .nil_))⟩
  | l + 2, e1, e2 => simp at e1
 ·match i, e1 with
  | 0, e1 => simp at e1
  | 1, e1 =>
   simp at e1
   subst e1
   exact ⟨.ref p, rfl, .ref_ rfl⟩
  | i + 2, e1 =>
   simp at e1
   rw [hr, List.getElem?_replicate] at e1
   split at e1 <;> cases e1
theorem jr {p : List Value → Prop} (h : p []) (us : List Value) (e : us.length = 0) : p us := by rw [List.length_eq_zero_iff.mp e]; exact h
theorem dW {n : Nat} {p : List Value → Prop} (h : ∀ a us, us.length = n → p (a :: us)) (us : List Value) (e : us.length = n + 1) : p us := by
 cases us with
 | nil => cases e
 | cons a us => exact h a us (Nat.succ.inj e)
end OP
namespace OP
open PySem PySem.Spec PyProof PyProof.Rows L2 OG
mutual
inductive RdV (K : PySem.W.Frag) (H : Hp) : V → PyData → Prop
 | non : RdV K H .non .none
 | bl (b : Bool) : RdV K H (.bl b) (.bool b)
 | int (i : Int) : RdV K H (.int i) (.int i)
 | str (x : Str) : RdV K H (.str x) (.str x)
 | lst {a : Addr} {xs : List V} {ds : List PyData} : SqL K H a xs → uy K H xs ds → RdV K H (.ref a) (.list ds)
 | tup {a : Addr} {xs : List V} {ds : List PyData} : SqT K H a xs → uy K H xs ds → RdV K H (.ref a) (.tuple ds)
inductive uy (K : PySem.W.Frag) (H : Hp) : List V → List PyData → Prop
 | nil : uy K H [] []
 | cons {x : V} {xs : List V} {d : PyData} {ds : List PyData} : RdV K H x d → uy K H xs ds → uy K H (x :: xs) (d :: ds)
end
mutual
inductive Dt (S : Sto) : U → PyData → Prop
 | non : Dt S .non .none
 | bl (b : Bool) : Dt S (.bl b) (.bool b)
 | int (i : Int) : Dt S (.int i) (.int i)
 | str (x : Str) : Dt S (.str x) (.str x)
 | lst {l : Nat} {us : List U} {ds : List PyData} : S[l]? = some (.lst us) → DtL S us ds → Dt S (.ref l) (.list ds)
 | tup {us : List U} {ds : List PyData} : DtL S us ds → Dt S (.tup us) (.tuple ds)
inductive DtL (S : Sto) : List U → List PyData → Prop
 | nil : DtL S [] []
 | cons {x : U} {xs : List U} {d : PyData} {ds : List PyData} : Dt S x d → DtL S xs ds → DtL S (x :: xs) (d :: ds)
end
section
variable {X : Cx} {K : PySem.W.Frag} {pins : List (Addr × Obj)} {σ : L2.St} {H : Hp} {s : Shared}
mutual
theorem RdV.reads (I : Inv X pins σ H s) : ∀ {x : V} {d : PyData} {v : Value}, RdV X.K H x d → dv x v → ∃ as, Reads s.heap v d as
 | _, _, _, .non, r => by cases r; exact ⟨_, .none⟩
 | _, _, _, .bl b, r => by cases r; exact ⟨_, .bool b⟩
 | _, _, _, .int i, r => by obtain ⟨t, rfl⟩ := r; exact ⟨_, .int i t⟩
 | _, _, _, .str i, r => by obtain ⟨t, rfl⟩ := r; exact ⟨_, .str i t⟩
 | _, _, _, .lst (a := a) h t, r => by
  cases r
  obtain ⟨its, rv, pl, _⟩ := I.list h
  obtain ⟨as, k⟩ := uy.reads I t rv
  obtain ⟨o, h1, h2, n, h3⟩ := pl.isList
  exact ⟨_, .list h1 h2 h3 (by simpa using k)⟩
 | _, _, _, .tup (a := a) h t, r => by
  cases r
  obtain ⟨its, rv, pl, _⟩ := I.tuple h
  obtain ⟨as, k⟩ := uy.reads I t rv
  obtain ⟨o, h1, h2, n, h3⟩ := pl
  exact ⟨_, .tuple h1 h2 h3 (by simpa using k)⟩
theorem uy.reads (I : Inv X pins σ H s) : ∀ {xs : List V} {ds : List PyData} {vs : List Value}, uy X.K H xs ds → cL xs vs → ∃ as, ReadsAll s.heap vs ds as
 | _, _, _, .nil, r => by cases r; exact ⟨_, .nil⟩
 | _, _, _, .cons h t, .cons r rs => by
  obtain ⟨as, a⟩ := RdV.reads I h r
  obtain ⟨bs, b⟩ := uy.reads I t rs
  exact ⟨_, .cons a b⟩
end
mutual
theorem Dt.rd {m : List Addr} {S : Sto} (sr : Sr K m S H) : ∀ {u : U} {d : PyData} {v : V}, Dt S u d → Is K m H v u → RdV K H v d
 | _, _, _, .non, i => by rw [i.of_non]; exact .non
 | _, _, _, .bl b, i => by rw [i.of_bl]; exact .bl b
 | _, _, _, .int b, i => by rw [i.of_int]; exact .int b
 | _, _, _, .str b, i => by rw [i.of_str]; exact .str b
 | _, _, _, .lst h t, i => by
  obtain ⟨a, ha, rfl⟩ := i.of_ref
  obtain ⟨a', ha', xs, hx, il⟩ := sr.get h
  rw [ha] at ha'; cases ha'
  exact .lst (SqL.of hx) (DtL.rd sr t il)
 | _, _, _, .tup t, i => by
  obtain ⟨a, xs, rfl, sa, la⟩ := i.of_tup
  exact .tup sa (DtL.rd sr t la)
theorem DtL.rd {m : List Addr} {S : Sto} (sr : Sr K m S H) : ∀ {us : List U} {ds : List PyData} {vs : List V}, DtL S us ds → IsL K m H vs us → uy K H vs ds
 | _, _, _, .nil, i => by rw [i.of_nil]; exact .nil
 | _, _, _, .cons h t, i => by
  obtain ⟨x, r, rfl, i1, i2⟩ := i.of_cons
  exact .cons (Dt.rd sr h i1) (DtL.rd sr t i2)
end
noncomputable def yL (us : List U) (lo hi : Option Int) : List U := (us.drop (HT.sIx us.length 0 lo)).take (HT.sIx us.length us.length hi - HT.sIx us.length 0 lo)
theorem wX {m : List Addr} {xs : List V} {us : List U} {lo hi : Option Int} (i : IsL K m H xs us) : IsL K m H (t9 xs lo hi) (yL us lo hi) := by
 unfold t9 yL
 rw [i.length]
 exact (i.drop _).take _
noncomputable def fSl (x : U) (lo hi : Option Int) (S : Sto) : Option (U × Sto) := match x with
 | .tup us => if HT.sIx us.length 0 lo = 0 ∧ HT.sIx us.length us.length hi = us.length then none else some (.tup (yL us lo hi), S)
 | .ref l => match S[l]? with
  | some (.lst us) => some (.ref S.length, S ++ [.lst (yL us lo hi)])
  | _ => none
 | _ => none
noncomputable def mO : Option CE → Rho → Sto → Option (Option Int × Sto)
 | none, _, S => some (none, S)
 | some c, ρ, S => (c ρ S).bind fun p => match p.1 with
  | .int i => some (some i, p.2)
  | _ => none
noncomputable def cSl (ca : CE) (cl ch : Option CE) : CE := fun ρ S => (ca ρ S).bind fun p => (mO cl ρ p.2).bind fun q => (mO ch ρ q.2).bind fun r => fSl p.1 q.1 r.1 r.2
noncomputable def DT (K : PySem.W.Frag) (m : List Addr) (H : Hp) (Q : Option Int → Hp → Prop) (o : Option Int) (S' : Sto) : Prop := ∀ m' H', Ext K m H m' H' → Sr K m' S' H' → Q o H'
noncomputable def tO (K : PySem.W.Frag) (c : Option CE) : TO := fun σ H Q => ∃ m ρ S o S', Sr K m S H ∧ Lr K m H ρ σ ∧ mO c ρ S = some (o, S') ∧ DT K m H Q o S'
noncomputable abbrev QO (X : Cx) (e : Option Expr) (c : Option CE) : Prop := WO X e (tO X.K c)
theorem gQ : QO X none none := ⟨fun pins s σ H Q I hz => mM hz fun m ρ S o S' sr lr hc post => pL.h pins s σ H Q I (by cases hc; exact post m H .refl sr)⟩
theorem gP {e : Expr} {ca : CE} (h : QE X e ca) : QO X (some e) (some ca) := ⟨fun pins s σ H Q I hz => mM hz fun m ρ S o S' sr lr hc post => (pK h).h pins s σ H Q I (by
 obtain ⟨⟨x, S1⟩, h1, h2⟩ := Option.bind_eq_some_iff.mp hc
 refine ⟨m, ρ, S, x, S1, sr, lr, h1, fun m1 v1 H1 e1 sr1 i1 => ?_⟩
 cases x <;> simp at h2
 obtain ⟨rfl, rfl⟩ := h2
 exact ⟨_, i1.of_int, post m1 H1 e1 sr1⟩)⟩
theorem xU {e : Expr} {lo hi : Option Expr} {ca : CE} {cl ch : Option CE} {pos p2 : Pos} (ha : QE X e ca) (hl : QO X lo cl) (hh : QO X hi ch) : QE X (.Subscript e (.Slice lo hi none p2) pos) (cSl ca cl ch) := (m6 (su.or zY) ha hl hh).imp fun σ H Q hz => mM hz fun m ρ S u S' sr lr hc post => by
 obtain ⟨⟨x, S1⟩, h1, ha⟩ := Option.bind_eq_some_iff.mp hc
 obtain ⟨⟨l, S2⟩, h2, hb⟩ := Option.bind_eq_some_iff.mp ha
 obtain ⟨⟨k, S3⟩, h3, h⟩ := Option.bind_eq_some_iff.mp hb
 clear ha hb hc
 refine ⟨m, ρ, S, x, S1, sr, lr, h1, fun m1 v1 H1 e1 sr1 i1 => ⟨m1, ρ, S1, l, S2, sr1, lr.mono e1, h2, fun m2 H2 e2 sr2 => ⟨m2, ρ, S2, k, S3, sr2, lr.mono (e1.trans e2), h3, fun m3 H3 e3 sr3 => ?_⟩⟩⟩
 have i3 := i1.mono (e2.trans e3)
 have e03 := (e1.trans e2).trans e3
 cases x with
 | tup us =>
  simp only [fSl] at h
  split at h <;> try cases h
  rename_i hw
  obtain ⟨a, xs, rfl, sa, la⟩ := i3.of_tup
  exact .inr ⟨a, xs, rfl, sa, by rw [la.length]; exact hw, fun p hp => mx sr3 (wX la) (post.mono e03) hp⟩
 | ref r =>
  simp only [fSl] at h
  split at h <;> try cases h
  rename_i us hS
  obtain ⟨a, ha, rfl⟩ := i3.of_ref
  obtain ⟨a', ha', xs, hx, la⟩ := sr3.get hS
  rw [ha] at ha'; cases ha'
  exact .inl ⟨a, xs, rfl, SqL.of hx, fun p hp => gC sr3 (wX la) (post.mono e03) hp⟩
 | _ => simp [fSl] at h
end
section
variable {X : Cx} {K : PySem.W.Frag}
noncomputable def sF (K : PySem.W.Frag) : R2 := fun x y H Q => ∃ a k xs, x = .ref a ∧ y = .int k ∧ SqT K H a xs ∧ xs ≠ [] ∧ 1 ≤ k ∧ xs.length * k.toNat ≤ 1000 ∧ ∀ q H', o7 H H' → SqT K H' q (List.replicate k.toNat xs).flatten → Q (.ref q) H'
theorem yl : OpR X (binaryOp .Mult) (sF X.K) := by
 intro pins s σ H x y v u Q I rx ry h
 obtain ⟨a, k, xs, rfl, rfl, ha, hne, hk, hz, q⟩ := h
 cases rx
 obtain ⟨t, rfl⟩ := ry
 obtain ⟨its, r1, p1, hzz⟩ := I.tuple ha
 have fS := r1.length
 obtain ⟨⟨cls, dd, data, sl⟩, ho, hc, n, hd⟩ := id p1
 simp only at hc hd
 subst hc hd
 have hne' : its ≠ [] := fun z => hne (r1.nil_iff.mp z)
 refine wpAny_binaryOp_repeat_ref (T := "tuple") (U := "int") (by decide) ⟨_, ho, rfl⟩ (fun s' => typeIs_int s' k t) fR F.fills_int_mul F.slot_int_rmul iX F.slot_int_index.lookup
  (call_meets F.slot_int_rmul (typeIs_int s k t) F.entry_int_rmul (F.args_int_rmul_2 _ _) (gN k t a its.toArray n dd sl) ⟨ho, rfl, ⟨_, ho, rfl⟩, ?_⟩)
 by_cases k1 : k = 1
 ·subst k1
  refine call_meets F.slot_tuple_mul ⟨_, ho, rfl⟩ F.entry_tuple_mul (F.args_tuple_mul_2 _ _) (oo a its.toArray n dd sl t) ⟨ho, ⟨.ref a, H, I, rfl, q a H (.refl _) ?_⟩⟩
  simpa using ha
 ·have hfold : List.foldl (fun x1 x2 => x1 ++ x2) #[] (List.replicate k.toNat its.toArray) = (List.replicate k.toNat its).flatten.toArray := by
   have := kx its k.toNat []
   rw [List.nil_append] at this
   exact this
  have hfl : (List.replicate k.toNat its).flatten.length ≤ 1000 := by rw [oK, ← fS, Nat.mul_comm]; exact hz
  have hlp : 0 < its.length := List.length_pos_iff.mpr hne'
  have hk2 : k.toNat ≤ 1000 := Nat.le_trans (Nat.le_mul_of_pos_left _ (by rw [fS]; exact hlp)) hz
  have hsz : (its.toArray.size : Int) * k ≤ 1000 := by
   rw [List.size_toArray, ← fS]
   have e : k = ((k.toNat : Nat) : Int) := by omega
   rw [e, ← Int.natCast_mul]
   omega
  refine call_meets F.slot_tuple_mul ⟨_, ho, rfl⟩ F.entry_tuple_mul (F.args_tuple_mul_2 _ _) (om a its.toArray n dd sl k t ?_ ?_ ?_ ?_ ?_ ?_) ⟨ho, ?_⟩
  ·simp; omega
  ·simp [hne', k1]
  ·simp [hne']; omega
  ·omega
  ·unfold Builtin.Tuple.tupleTooMany
   have : ¬ (its.toArray.size : Int) * k > (sizeLine : Int) := by
    have : (1000 : Nat) ≤ sizeLine := nk (Nat.le_refl _)
    omega
   simpa using this
  ·rw [hfold, List.size_toArray]; exact nk hfl
  ·rw [hfold]
   refine ⟨.ref s.heap.objs.size, _, I.laid (t' := s.toks) (o := .tup (List.replicate k.toNat xs).flatten) (fun b ob q => Heap.get?_push_of_some _ q) (Nat.le_refl _) ?_, rfl, q _ _ (dy (I.hok.fresh (Nat.le_refl _)) _) (SqT.of bQ)⟩
   exact ⟨nk (by rw [oK, Nat.mul_comm]; exact hz), _, r1.rep k.toNat, IsTup.new _ _⟩
noncomputable def vT : U → U → Sto → Option (U × Sto)
 | .int i, .int j, S => if rB i j then some (.int (i * j), S) else none
 | .tup us, .int k, S => if us ≠ [] ∧ 1 ≤ k ∧ us.length * k.toNat ≤ 1000 then some (.tup (List.replicate k.toNat us).flatten, S) else none
 | .ref l, .int k, S => match S[l]? with
  | some (.lst us) => if 0 ≤ k ∧ k ≤ 100000 ∧ us.length * k.toNat ≤ LIM then some (.ref S.length, S ++ [.lst (List.replicate k.toNat us).flatten]) else none
  | _ => none
 | _, _, _ => none
theorem AS : OpR X (binaryOp .Mult) (fun x y H Q => rI rB (fun i j => .int (i * j)) x y H Q ∨ (sF X.K x y H Q ∨ Ad x y H Q)) := gZ.or (yl.or AM)
instance {us : List U} : Decidable (us ≠ []) := match us with
 | [] => .isFalse fun h => h rfl
 | _ :: _ => .isTrue fun h => by cases h
theorem AI : OpP K (fun x y H Q => rI rB (fun i j => .int (i * j)) x y H Q ∨ (sF K x y H Q ∨ Ad x y H Q)) vT := by
 intro m S H x y v w u S' Q sr ix iy hf post
 cases x <;> cases y <;> simp only [vT] at hf <;> try cases hf
 ·split at hf <;> try cases hf
  rename_i hc
  exact .inl ⟨_, _, ix.of_int, iy.of_int, hc, post m _ H .refl sr .int_⟩
 ·rename_i us k
  split at hf <;> try cases hf
  rename_i hc
  obtain ⟨a, xs, rfl, sa, la⟩ := ix.of_tup
  refine .inr (.inl ⟨a, k, xs, rfl, iy.of_int, sa, fun z => hc.1 ?_, hc.2.1, by rw [la.length]; exact hc.2.2, fun q H' s sq => ?_⟩)
  ·subst z
   have := la.length
   exact List.length_eq_zero_iff.mp this.symm
  ·exact post m _ H' (.of (eG s)) (sr.same s) (.tup_ sq ((la.rep k.toNat).mono (.of (eG s))))
 ·rename_i l k
  split at hf <;> try cases hf
  rename_i us hS
  split at hf <;> try cases hf
  rename_i hc
  obtain ⟨a, ha, rfl⟩ := ix.of_ref
  obtain ⟨a', ha', xs, hx, la⟩ := sr.get hS
  rw [ha] at ha'; cases ha'
  exact .inr (.inr ⟨a, k, xs, rfl, iy.of_int, hx, by omega, by omega, lim (by rw [la.length]; exact hc.2.2), fun p hp => gC sr (la.rep k.toNat) post hp⟩)
end
section
variable {X : Cx} {K : PySem.W.Frag}
noncomputable def DP (ca : CE) : CE := fun ρ S => (ca ρ S).bind fun p => match p.1 with
 | .int i => some (.int (-i), p.2)
 | _ => none
theorem wD : UnR X (unaryOp .USub) (fun x H Q => ∃ i, x = .int i ∧ Q (.int (-i)) H) := by
 rintro pins s σ H x v Q I rx ⟨i, rfl, q⟩
 obtain ⟨t, rfl⟩ := rx
 exact PyProof.Rows.neg_int ⟨.int (-i), H, I.tok _, ⟨_, rfl⟩, q⟩
theorem CZ {a : Expr} {ca : CE} {pos : Pos} (ha : QE X a ca) : QE X (.UnaryOp .USub a pos) (DP ca) := (zJ wD ha).imp fun σ H Q hz => mM hz fun m ρ S u S' sr lr hc post => by
 obtain ⟨⟨x, S1⟩, h1, h2⟩ := Option.bind_eq_some_iff.mp hc
 refine ⟨m, ρ, S, x, S1, sr, lr, h1, fun m1 v1 H1 e1 sr1 i1 => ?_⟩
 cases x <;> simp at h2
 obtain ⟨rfl, rfl⟩ := h2
 exact ⟨_, i1.of_int, post m1 _ H1 e1 sr1 .int_⟩
variable {e : Expr} {es : List Expr} {co : CE} {cr : CA} {o : Expr} {apos cpos : Pos}
end
noncomputable def FzT (H : Hp) (a : Addr) (ep : Nat) (ks : List (List Key)) : Prop := ∃ ob es kvs, H a = some (.frz ob (.dT kvs)) ∧ ob.data = .dict es ep ∧ kvs.map (·.1) = ks
noncomputable def Itt (a : Addr) (ep : Nat) (ks : List (List Key)) : It :=
 ⟨fun i H => i < ks.length ∧ FzT H a ep ks, fun i H x H' => H' = H ∧ ∃ k p, ks[i]? = some k ∧ x = .ref p ∧ H p = some (.tup (k.map kV)), fun i H => ks.length ≤ i ∧ FzT H a ep ks⟩
end OP
namespace OP
open PySem PySem.Spec PyProof PyProof.Rows L2 OG PySem.W
noncomputable def pP (p : Int × Int) : U := .tup [.int p.1, .int p.2]
end OP
namespace OG
open PySem PySem.Spec PyProof.Rows L2
section
variable {X : Cx} {tg : Expr}
theorem vb {x : Str} {a : Addr} {pos : Pos} (hg : Gl X x) (hm : X.mg x = some (.ref a)) (hd : (x == ("__debug__" : Str)) = false := by decide) : WE X (.Name x pos) (tC (.ref a)) :=
 ⟨sQ hg hm rfl hd⟩
end
end OG
namespace OP
open PySem PySem.Spec PyProof.Rows L2 OG
section
variable {X : Cx} {K : PySem.W.Frag} {a b o e : Expr} {es : List Expr} {ca cb co : CE} {cr : CA} {pos apos cpos : Pos}
noncomputable def Bv (K : PySem.W.Frag) (mg : Str → Option Value) (x : Str) (is : List Int) : Prop := ∃ (a : Addr) (o : Obj) (its : Array Value) (n : Nat), mg x = some (.ref a) ∧ K.lookup a = some o ∧ o.cls = .type "tuple" ∧ o.data = .seq its n ∧ its.size ≤ sizeLine ∧ cL (is.map V.int) its.toList
theorem lX {m : List Addr} {H : Hp} : ∀ is : List Int, IsL K m H (is.map V.int) (is.map U.int)
 | [] => .nil_
 | i :: is => .cons_ .int_ (lX is)
theorem j3 {x : Str} {is : List Int} {us : List U} (hg : Gl X x) (hm : Bv X.K X.mg x is) (hd : (x == ("__debug__" : Str)) = false := by decide) (hu : is.map U.int = us := by rfl) : QE X (.Name x pos) (cC (.tup us)) := by
 subst hu
 obtain ⟨p, o, its, n, h1, h2, h3, h4, h5, h6⟩ := hm
 exact q_c (vb hg h1 hd) fun m H => .tup_ (.inr ⟨o, its, n, h2, h3, h4, h5, h6⟩) (lX is)
end
end OP
namespace OG
open PySem PySem.Spec PyProof.Rows L2
open PySem.AutoSeq1 (wpAny_loadPart')
theorem ow (l : Addr) (items : Array Value) (n : Nat) (dd : Option Addr) (sl : Array (Option Value)) (t : Tok) (hc1 : (items.isEmpty || ((0 : Int) == 1)) = false) :
  Meets (Builtin.«tuple.__mul__» ⟨[.ref l, .int 0 t], []⟩) (fun _ R s => s.heap.get? l = some { cls := .type "tuple", dict := dd, data := .seq items n, slots := sl } ∧
   R (.ok (.ret (Value.ref s.heap.objs.size))) { s with heap := s.heap.push { cls := Value.type "tuple", data := Data.seq #[] } }) :=
 .of_wp fun prog w A R s h => by
  obtain ⟨hp, g, d, tk, os⟩ := s
  obtain ⟨hl, h⟩ := h
  have f1 := AutoSeq1.idx_int
  wp_walk using wpAny_loadPart' hl
  try (refine PySem.W.KFB.if_not hc1 ?_; wp_walk using wpAny_loadPart' hl)
  exact ⟨_, rfl, h⟩
section
variable {X : Cx}
noncomputable def wL : V → List V → Hp → VK → Prop := fun x xs H Q => ∃ a : Str, x = .str a ∧ xs = [] ∧ (Txt.upper a).length ≤ 100000 ∧ Q (.str (Txt.upper a)) H
theorem vK : MtR X "str.upper" wL := by
 rintro pins s σ H x xs v us Q I rx rs ⟨a, rfl, rfl, hl, q⟩
 obtain ⟨t, rfl⟩ := rx
 cases rs
 refine SC.upper ?_ ⟨.str _, H, I.tok _, ⟨_, rfl⟩, q⟩
 unfold Builtin.Str.tooLong
 have line : 100000 ≤ sizeLine := by unfold sizeLine; decide
 exact decide_eq_false (by omega)
end
end OG
namespace OP
open PySem PySem.Spec PyProof PyProof.Rows L2 OG PySem.W
section
variable {X : Cx} {K : PySem.W.Frag} {a b o e : Expr} {es : List Expr} {ca cb co : CE} {cr : CA} {pos apos cpos : Pos}
noncomputable def xS (K : PySem.W.Frag) : R2 := fun x y H Q => ∃ a xs, x = .ref a ∧ y = .int 0 ∧ SqT K H a xs ∧ xs ≠ [] ∧ ∀ q H', o7 H H' → SqT K H' q [] → Q (.ref q) H'
theorem yo : OpR X (binaryOp .Mult) (xS X.K) := by
 intro pins s σ H x y v u Q I rx ry h
 obtain ⟨a, xs, rfl, rfl, ha, hne, q⟩ := h
 cases rx
 obtain ⟨t, rfl⟩ := ry
 obtain ⟨its, r1, p1, hzz⟩ := I.tuple ha
 obtain ⟨⟨cls, dd, data, sl⟩, ho, hc, n, hd⟩ := id p1
 simp only at hc hd
 subst hc hd
 have hne' : its ≠ [] := fun z => hne (r1.nil_iff.mp z)
 refine wpAny_binaryOp_repeat_ref (T := "tuple") (U := "int") (by decide) ⟨_, ho, rfl⟩ (fun s' => typeIs_int s' 0 t) fR F.fills_int_mul F.slot_int_rmul iX F.slot_int_index.lookup
  (call_meets F.slot_int_rmul (typeIs_int s 0 t) F.entry_int_rmul (F.args_int_rmul_2 _ _) (gN 0 t a its.toArray n dd sl) ⟨ho, rfl, ⟨_, ho, rfl⟩, ?_⟩)
 refine call_meets F.slot_tuple_mul ⟨_, ho, rfl⟩ F.entry_tuple_mul (F.args_tuple_mul_2 _ _) (ow a its.toArray n dd sl t (by simp [hne'])) ⟨ho, ?_⟩
 refine ⟨.ref s.heap.objs.size, _, I.laid (t' := s.toks) (o := .tup []) (fun b ob q => Heap.get?_push_of_some _ q) (Nat.le_refl _) ?_, rfl, q _ _ (dy (I.hok.fresh (Nat.le_refl _)) _) (SqT.of bQ)⟩
 exact ⟨Nat.zero_le _, [], .nil, IsTup.new _ _⟩
noncomputable def jc : U → U → Sto → Option (U × Sto)
 | .tup us, .int k, S => if k = 0 then (if us ≠ [] then some (.tup [], S) else none) else vT (.tup us) (.int k) S
 | _, _, _ => none
theorem kc : OpR X (binaryOp .Mult) (fun x y H Q => xS X.K x y H Q ∨ (rI rB (fun i j => .int (i * j)) x y H Q ∨ (sF X.K x y H Q ∨ Ad x y H Q))) := yo.or AS
theorem j7 : OpP K (fun x y H Q => xS K x y H Q ∨ (rI rB (fun i j => .int (i * j)) x y H Q ∨ (sF K x y H Q ∨ Ad x y H Q))) jc := by
 intro m S H x y v w u S' Q sr ix iy hf post
 cases x <;> cases y <;> simp only [jc] at hf <;> try cases hf
 rename_i us k
 split at hf
 ·rename_i hk
  subst hk
  split at hf <;> try cases hf
  rename_i hne
  obtain ⟨a, xs, rfl, sa, la⟩ := ix.of_tup
  refine .inl ⟨a, xs, rfl, iy.of_int, sa, fun z => hne ?_, fun q H' s sq => post m _ H' (.of (eG s)) (sr.same s) (.tup_ sq .nil_)⟩
  have := la.length
  rw [z] at this
  exact List.length_eq_zero_iff.mp this.symm
 ·exact .inr (AI m S H _ _ v w u S' Q sr ix iy hf post)
noncomputable def dB : U → List U → Sto → Option (U × Sto)
 | .str x, [], S => if (Txt.upper x).length ≤ 100000 then some (.str (Txt.upper x), S) else none
 | _, _, _ => none
theorem yh : MtP K wL dB := by
 intro m S H x v us vs u S' Q sr ix il hf post
 match x, us, hf with
 | .str x, [], hf =>
  simp only [dB] at hf
  split at hf <;> try cases hf
  rename_i hl
  exact ⟨x, ix.of_str, il.of_nil, hl, post m _ H .refl sr .str_⟩
noncomputable def mW (f : U → List U → Sto → Option (U × Sto)) (co : CE) : CE := fun ρ S => (co ρ S).bind fun p => match p.1 with
 | .str _ => f p.1 [] p.2
 | _ => none
theorem xT (ho : QE X o co) (hbase : attributeBase o "upper" X.env (eval o X.env) = eval o X.env := by rfl) (hline : (apos.endLine == cpos.line) = true := by rfl) : QE X (.Call (.Attribute o "upper" apos) [] [] cpos) (mW dB co) :=
 (xM PySem.F.plainAttrs_str PySem.F.slot_str_upper PySem.F.type_str_upper vK ho hbase hline).imp fun σ H Q hz => mM hz fun m ρ S u S' sr lr hc post => by
 obtain ⟨⟨x, S1⟩, h1, h2⟩ := Option.bind_eq_some_iff.mp hc
 refine ⟨m, ρ, S, x, S1, sr, lr, h1, fun m1 v1 H1 e1 sr1 i1 => ?_⟩
 cases x with
 | str z =>
  have ev := i1.of_str
  subst ev
  exact ⟨rfl, yh m1 S1 H1 _ _ [] [] u S' Q sr1 i1 .nil_ h2 (post.mono e1)⟩
 | _ => simp at h2
noncomputable def uw (d : PyData) : Prop := d.showable = true ∧ d.hasDict = false ∧ d.depth ≤ 40 ∧ d.shown.length ≤ 2000000
noncomputable def Ac (K : PySem.W.Frag) : List V → Hp → VK → Prop := fun xs H Q => (∃ i, xs = [.int i] ∧ i.natAbs.log2 < 1920 ∧ Q (.str (toString i)) H) ∨ ∃ (a : Addr) (d : PyData), xs = [.ref a] ∧ RdV K H (.ref a) d ∧ uw d ∧ Q (.str d.shown) H
theorem AR (hg : X.A.guards = some []) (hu : X.A.units + 64 < cLine) : eQ X (.type "str") (Ac X.K) := by
 rintro pins s σ H xs us Q I r (⟨i, rfl, hz, q⟩ | ⟨a, d, rfl, hd, ok, q⟩)
 ·exact nO pins s σ H _ us Q I r ⟨i, rfl, hz, q⟩
 ·obtain ⟨u, rfl, ru⟩ := ll r
  cases ru
  obtain ⟨as, rd⟩ := hd.reads I (v := .ref a) rfl
  have line : 2000000 ≤ sizeLine := by unfold sizeLine; decide
  obtain ⟨k1, k2, k3, k4⟩ := ok
  exact str_of_reads rd k1 (fun z => by rw [k2] at z; cases z) hg (by omega) (fun b o e => e) (fun h' t tk hk => ⟨.str _, H, I.kept hk, ⟨_, rfl⟩, q⟩) (Nat.le_trans k4 line)
open Classical in
noncomputable def kE : Fn
 | [.int i], S => if i.natAbs.log2 < 1920 then some (.str (toString i), S) else none
 | [.tup us], S => if h : ∃ d, Dt S (.tup us) d ∧ uw d then some (.str h.choose.shown, S) else none
 | _, _ => none
theorem AH : lg K (Ac K) kE := by
 intro m S H us vs u S' Q sr i hf post
 match us, hf with
 | [.int j], hf =>
  obtain ⟨v, rfl, iv⟩ := i.one
  simp only [kE] at hf
  split at hf <;> try cases hf
  rename_i hz
  exact .inl ⟨j, by rw [iv.of_int], hz, post m _ H .refl sr .str_⟩
 | [.tup ws], hf =>
  obtain ⟨v, rfl, iv⟩ := i.one
  unfold kE at hf
  simp only at hf
  split at hf <;> try cases hf
  rename_i hd
  have rd := hd.choose_spec.1.rd sr iv
  obtain ⟨a, xs, rfl, sa, la⟩ := iv.of_tup
  exact .inr ⟨a, _, rfl, rd, hd.choose_spec.2, post m _ H .refl sr .str_⟩
noncomputable def Ea (K : PySem.W.Frag) : R2 := fun x y H Q => ∃ b : Str, y = .str b ∧ ((∃ a, x = .str a ∧ Q (.bl (decide (a = b))) H) ∨ (((x = .non ∨ (∃ c, x = .bl c)) ∨ ((∃ i, x = .int i) ∨ ∃ p xs, x = .ref p ∧ (SqL K H p xs ∨ SqT K H p xs))) ∧ Q (.bl false) H))
theorem j9 (hu : X.A.units + 64 < cLine) : OpR X (compareOp .Eq) (Ea X.K) := by
 rintro pins s σ H x y v u Q I rx ry ⟨b, rfl, h⟩
 obtain ⟨t, rfl⟩ := ry
 rcases h with ⟨a, rfl, q⟩ | ⟨((rfl | ⟨c, rfl⟩) | (⟨i, rfl⟩ | ⟨p, xs, rfl, hq⟩)), q⟩
 ·obtain ⟨t', rfl⟩ := rx
  refine SeqAt.RcAt.str_str a t' b t X.prog X.w X.xe _ ⟨.bl _, H, I, ?_, q⟩
  show Value.bool (a == b) = Value.bool (decide (a = b))
  congr 1
 ·cases rx
  exact SeqAt.RcAt.none_str b t X.prog X.w X.xe _ ⟨.bl false, H, I, rfl, q⟩
 ·cases rx
  exact SeqAt.RcAt.bool_str c b t X.prog X.w X.xe _ ⟨.bl false, H, I, rfl, q⟩
 ·obtain ⟨t', rfl⟩ := rx
  exact SeqAt.RcAt.int_str i t' b t X.prog X.w X.xe _ ⟨.bl false, H, I, rfl, q⟩
 ·cases rx
  rcases hq with hq | hq
  ·obtain ⟨its, _, pl, _⟩ := I.list hq
   exact SeqAt.RcAt.list_str b t pl.isList (by omega) X.prog X.w X.xe _ ⟨.bl false, H, I, rfl, q⟩
  ·obtain ⟨its, _, pl, _⟩ := I.tuple hq
   exact SeqAt.RcAt.tuple_str b t (show s.heap.IsTuple p its.toArray from pl) (by omega) X.prog X.w X.xe _ ⟨.bl false, H, I, rfl, q⟩
noncomputable def rJ : U → U → Sto → Option (U × Sto)
 | .str a, .str b, S => some (.bl (decide (a = b)), S)
 | .non, .str _, S => some (.bl false, S)
 | .bl _, .str _, S => some (.bl false, S)
 | .int _, .str _, S => some (.bl false, S)
 | .tup _, .str _, S => some (.bl false, S)
 | .ref l, .str _, S => match S[l]? with
  | some (.lst _) => some (.bl false, S)
  | _ => none
 | _, _, _ => none
theorem oG : OpP K (Ea K) rJ := by
 intro m S H x y v w u S' Q sr ix iy hf post
 cases y with
 | str b =>
  refine ⟨b, iy.of_str, ?_⟩
  cases x with
  | str a => cases hf; exact .inl ⟨a, ix.of_str, post m _ H .refl sr .bl_⟩
  | non => cases hf; exact .inr ⟨.inl (.inl ix.of_non), post m _ H .refl sr .bl_⟩
  | bl c => cases hf; exact .inr ⟨.inl (.inr ⟨c, ix.of_bl⟩), post m _ H .refl sr .bl_⟩
  | int i => cases hf; exact .inr ⟨.inr (.inl ⟨i, ix.of_int⟩), post m _ H .refl sr .bl_⟩
  | tup us =>
   cases hf
   obtain ⟨a, xs, rfl, sa, la⟩ := ix.of_tup
   exact .inr ⟨.inr (.inr ⟨a, xs, rfl, .inr sa⟩), post m _ H .refl sr .bl_⟩
  | ref l =>
   simp only [rJ] at hf
   split at hf <;> try cases hf
   rename_i us hS
   obtain ⟨a, ha, rfl⟩ := ix.of_ref
   obtain ⟨a', ha', xs, hx, la⟩ := sr.get hS
   rw [ha] at ha'; cases ha'
   exact .inr ⟨.inr (.inr ⟨a, xs, rfl, .inl (SqL.of hx)⟩), post m _ H .refl sr .bl_⟩
  | kl ns => cases hf
 | _ => cases x <;> cases hf
noncomputable def Eb (K : PySem.W.Frag) : R2 := fun x y H Q => ∃ a b xs, x = .ref a ∧ y = .ref b ∧ SqT K H a xs ∧ SqT K H b [] ∧ Q (.bl (decide (xs.length = 0))) H
theorem wO (hu : X.A.units + 64 < cLine) : OpR X (compareOp .Eq) (Eb X.K) := by
 rintro pins s σ H x y v u Q I rx ry ⟨a, b, xs, rfl, rfl, ha, hb, q⟩
 cases rx
 cases ry
 obtain ⟨i1, r1, p1, _⟩ := I.tuple ha
 obtain ⟨i2, r2, p2, _⟩ := I.tuple hb
 have l1 := r1.length
 have l2 := r2.length
 have z2 : i2.toArray.size = 0 := by simp; simpa using l2.symm
 refine SeqAt.RcAt.tuples (e := fun _ => false) (show s.heap.IsTuple a i1.toArray from p1) (show s.heap.IsTuple b i2.toArray from p2) (by omega) (fun j h1 h2 => absurd h2 (by omega)) X.prog X.w X.xe _ ⟨.bl _, H, I, ?_, q⟩
 show Value.bool _ = Value.bool _
 congr 1
 rw [z2, Nat.min_zero]
 simp only [List.range_zero, List.all_nil, Bool.true_and, List.size_toArray, ← l1]
 rw [Bool.eq_iff_iff]; simp
noncomputable def vU : U → U → Sto → Option (U × Sto)
 | .tup us, .tup [], S => some (.bl (decide (us.length = 0)), S)
 | _, _, _ => none
theorem AK : OpP K (Eb K) vU := by
 intro m S H x y v w u S' Q sr ix iy hf post
 match x, y, hf with
 | .tup us, .tup [], hf =>
  cases hf
  obtain ⟨a, xs, rfl, sa, la⟩ := ix.of_tup
  obtain ⟨b, ys, rfl, sb, lb⟩ := iy.of_tup
  have := lb.of_nil
  subst this
  exact ⟨a, b, xs, rfl, rfl, sa, sb, by rw [la.length]; exact post m _ H .refl sr .bl_⟩
end
end OP
namespace OQ
open PySem PySem.Spec PyProof.Rows L2 OG OP
noncomputable def dS : CS :=
 (bx (dq (aE (cOp fEq (cOp fIx (ak 0) (cC (.int 2))) (cC (.int 0)))) (bx (b8 2 (cOp fIx (ak 0) (cC (.int 1))))
  (bx (lZ (ak 0) (cC (.int 1)) (cOp bJ (ak 2) (cC (.int 1))))
  (bx (b8 3 (cC (.int 0)))
  (bx (dq (aE (cOp fLt (ak 2) (cCB gH (ab (cOp fIx (ak 0) (cC (.int 0))) aq)))) (b8 3 (cOp fIx (cOp fIx (ak 0) (cC (.int 0))) (ak 2))) (dq (aE (cOp fGt (cCB gH (ab (cOp fIx (ak 0) (cC (.int 0))) aq)) (cC (.int 0)))) (b8 3 (cOp bJ (cOp nJ (cOp fIx (cOp fIx (ak 0) (cC (.int 0))) (cOp nJ (cOp kG (ak 2) (cC (.int 3))) (cCB gH (ab (cOp fIx (ak 0) (cC (.int 0))) aq)))) (cC (.int 1000003))) (cOp kG (cC (.int 97)) (ak 2)))) bP))
  (bx (b8 4 (cOp nJ (cOp kG (cOp bJ (cOp bJ (cOp nJ (ak 3) (cC (.int 998244353))) (cOp kG (cC (.int 53)) (ak 2))) (cC (.int 1))) (cC (.int 48271))) (cC (.int 2147483647))))
  (bx (b8 5 (cOp nJ (cOp bJ (cOp bJ (cOp kG (ak 4) (ak 4)) (cOp kG (cC (.int 69621)) (ak 2))) (cC (.int 5))) (cC (.int 1000000007))))
  (bx (b8 6 (cOp nJ (cOp bJ (cOp kG (ak 5) (ak 5)) (ak 4)) (cC (.int 998244353))))
  (bx (lZ (ak 0) (cC (.int 2)) (cOp bJ (cOp vV (cOp bJ (cOp kG (ak 5) (cC (.int 998244353))) (ak 6)) (cC (.int 16))) (cC (.int 1))))
  (dq (aE (cOp fGe (ak 3) (cOp rH (cC (.int 10)) (cC (.int 18))))) (lZ (ak 0) (cC (.int 2)) (cOp vV (ak 3) (cOp rH (cC (.int 10)) (cC (.int 18))))) bP))))))))) bP)
  (bx (b8 7 (cOp nJ (cOp fIx (ak 0) (cC (.int 2))) (ak 1)))
  (bx (lZ (ak 0) (cC (.int 2)) (cOp vV (cOp fIx (ak 0) (cC (.int 2))) (ak 1)))
  (cS (ak 7)))))
theorem oT {a0 a1 : U} {S : Sto} : fnU 8 2 (dS ) [a0, a1] S = ((dS ) [some a0, some a1, none, none, none, none, none, none] S).bind kFn := lh rfl
noncomputable def eA (ag : Fn) : CS :=
 (cS (aF (ab (cOp bJ (cC (.int 1)) (cCB ag (ab (ak 0) (ab (cC (.int 6)) aq)))) (ab (cOp fIx (eD (ab (cC (.int 2)) (ab (cC (.int 3)) (ab (cC (.int 5)) (ab (cC (.int 10)) (ab (cOp bJ (cC (.int 2)) (cCB ag (ab (ak 0) (ab (cC (.int 999)) aq)))) aq)))))) (cCB ag (ab (ak 0) (ab (cC (.int 5)) aq)))) aq))))
theorem nL {ag : Fn} {a0 : U} {S : Sto} : fnU 1 1 (eA ag) [a0] S = ((eA ag) [some a0] S).bind kFn := lh rfl
noncomputable def eC (aB : Fn) : CS :=
 (bx (b8 1 (cOp bJ (ak 1) (cC (.int 1))))
  (dq (aE (cOp fEq (cOp fIx (ak 2) (cC (.int 0))) (cC (.str "try")))) (b8 1 (cOp bJ (cOp bJ (ak 1) (cCB aB (ab (cOp fIx (ak 2) (cC (.int 1))) aq))) (cCB aB (ab (cOp fIx (ak 2) (cC (.int 2))) aq)))) bP))
noncomputable def eO (aB : Fn) : CS :=
 (bx (b8 1 (cC (.int 0)))
  (bx (nS (iTp (ak 0)) (gNm 2) (eC aB))
  (cS (ak 1))))
theorem oU {aB : Fn} {a0 : U} {S : Sto} : fnU 3 1 (eO aB) [a0] S = ((eO aB) [some a0, none, none] S).bind kFn := lh rfl
noncomputable def aT (ag : Fn) : CS :=
 (bx (dq (aE (cOp fLt (ak 2) (cC (.int 4)))) (cS (aF (ab (cC (.str "look")) (ab (ak 3) (ab (cCB ag (ab (ak 0) (ab (cOp fIx (ak 1) (cC (.int 0))) aq))) aq))))) bP)
  (bx (dq (aE (cOp fLt (ak 2) (cC (.int 7)))) (cS (aF (ab (cC (.str "put")) (ab (cCB ag (ab (ak 0) (ab (cOp fIx (ak 1) (cC (.int 0))) aq))) (ab (ak 3) aq))))) bP)
  (bx (dq (aE (cOp fLt (ak 2) (cC (.int 9)))) (cS (aF (ab (cC (.str "set")) (ab (ak 3) (ab (cCB ag (ab (ak 0) (ab (cOp fIx (ak 1) (cC (.int 1))) aq))) aq))))) bP)
  (bx (dq (aE (cOp fLt (ak 2) (cC (.int 11)))) (cS (aF (ab (cC (.str "plus")) (ab (ak 3) (ab (cCB ag (ab (ak 0) (ab (cC (.int 4)) aq))) aq))))) bP)
  (cS (aF (ab (cC (.str "leap")) (ab (ak 3) (ab (cOp bJ (cC (.int 1)) (cCB ag (ab (ak 0) (ab (cOp fIx (eD (ab (cC (.int 2)) (ab (cC (.int 12)) aq))) (cCB ag (ab (ak 0) (ab (cC (.int 2)) aq)))) aq)))) aq)))))))))
theorem iA {ag : Fn} {a0 a1 a2 a3 : U} {S : Sto} : fnU 4 4 (aT ag) [a0, a1, a2, a3] S = ((aT ag) [some a0, some a1, some a2, some a3] S).bind kFn := lh rfl
noncomputable def cT (ag aN ay aB : Fn) : CS :=
 (bx (b8 7 (cCB ag (ab (ak 0) (ab (cC (.int 16)) aq))))
  (bx (b8 8 (cCB ag (ab (ak 0) (ab (cC (.int 4)) aq))))
  (dq (md (aE (cOp fGt (ak 5) (cC (.int 0)))) (md (aE (cOp fLt (cCB gH (ab (ak 4) aq)) (cC (.int 12)))) (aE (cOp fLt (ak 7) (cC (.int 13)))))) (bx (lJ (cBM dR (ak 4) (ab (cCB aN (ab (ak 0) (ab (ak 1) (ab (ak 7) (ab (ak 8) aq))))) aq)))
  (b8 5 (cOp eV (ak 5) (cC (.int 1))))) (dq (md (aE (cOp fGt (ak 5) (cC (.int 0)))) (md (aE (cOp fLt (cCB gH (ab (ak 4) aq)) (cC (.int 12)))) (cOr (aE (cOp fEq (ak 7) (cC (.int 13)))) (aE (cOp fEq (ak 3) (cC (.int 0))))))) (bx (dq (md (aE (cOp fGt (ak 5) (cC (.int 1)))) (md (aE (cOp fLt (cCB gH (ab (ak 4) aq)) (cC (.int 11)))) (aE (cOp fGt (cCB ag (ab (ak 0) (ab (cC (.int 4)) aq))) (cC (.int 0)))))) (bx (lJ (cBM dR (ak 4) (ab (aF (ab (cC (.str "leap")) (ab (ak 8) (ab (cC (.int 1)) aq)))) aq)))
  (b8 5 (cOp eV (ak 5) (cC (.int 1))))) bP)
  (bx (lJ (cBM dR (ak 4) (ab (aF (ab (cC (.str "wait")) aq)) aq)))
  (b8 5 (cOp eV (ak 5) (cC (.int 1)))))) (dq (md (aE (cOp fGt (ak 5) (cC (.int 0)))) (aE (cOp fLt (cCB gH (ab (ak 4) aq)) (cC (.int 12))))) (bx (b8 9 (cCB ay (ab (ak 0) (ab (ak 1) (ab (cCB ag (ab (ak 0) (ab (ak 5) aq))) (ab (cOp eV (ak 3) (cC (.int 1))) aq))))))
  (bx (b8 5 (cOp eV (cOp eV (ak 5) (cC (.int 1))) (cCB aB (ab (ak 9) aq))))
  (bx (b8 10 (cCB ay (ab (ak 0) (ab (ak 1) (ab (cCB ag (ab (ak 0) (ab (cOp bJ (ak 5) (cC (.int 1))) aq))) (ab (cOp eV (ak 3) (cC (.int 1))) aq))))))
  (bx (b8 5 (cOp eV (ak 5) (cCB aB (ab (ak 10) aq))))
  (lJ (cBM dR (ak 4) (ab (aF (ab (cC (.str "try")) (ab (ak 9) (ab (ak 10) aq)))) aq))))))) bP)))))
noncomputable def cQ (ag aN ay aB : Fn) : CS :=
 (bx (b8 4 (eD aq))
  (bx (b8 5 (ak 2))
  (bx (nS (eI (ab (cCB ag (ab (ak 0) (ab (cOp bJ (cCB DJ (ab (cC (.int 12)) (ab (ak 2) aq))) (cC (.int 1))) aq))) aq)) (gNm 6) (cT ag aN ay aB))
  (cS (cCB lY (ab (ak 4) aq))))))
theorem lH {ag aN ay aB : Fn} {a0 a1 a2 a3 : U} {S : Sto} : fnU 11 4 (cQ ag aN ay aB) [a0, a1, a2, a3] S = ((cQ ag aN ay aB) [some a0, some a1, some a2, some a3, none, none, none, none, none, none, none] S).bind kFn := lh rfl
noncomputable def fw : CS :=
 (cS (hU (nR .int (ak 0)) (uj (nR .bool (ak 0)))))
theorem qY {a0 : U} {S : Sto} : fnU 1 1 (fw ) [a0] S = ((fw ) [some a0] S).bind kFn := lh rfl
noncomputable def b5 (dP : Fn) : CS :=
 (cS (hU (cCB dP (ab (ak 0) aq)) (ma fLe fLe (ak 1) (ak 0) (ak 2))))
theorem oR {dP : Fn} {a0 a1 a2 : U} {S : Sto} : fnU 3 3 (b5 dP) [a0, a1, a2] S = ((b5 dP) [some a0, some a1, some a2] S).bind kFn := lh rfl
noncomputable def aV : CS :=
 (bx (b8 2 (aF (ab (cC (.int 0)) (ab (cOp eV (cOp fIx (ak 0) (cC (.int 0))) (cC (.int 1))) aq))))
  (bx (dq (aE (cOp rJ (ak 1) (cC (.str "look")))) (cS (aF (ab (cC (.tup [.int 0, .int 3])) (ab (ak 2) aq)))) bP)
  (bx (dq (aE (cOp rJ (ak 1) (cC (.str "put")))) (cS (aF (ab (ak 2) (ab (cC (.tup [.int 0, .int 3])) aq)))) bP)
  (bx (dq (aE (cOp rJ (ak 1) (cC (.str "set")))) (cS (aF (ab (cC (.tup [.int 0, .int 3])) (ab (aF (ab (cC (.int 0)) (ab (cOp eV (cOp fIx (ak 0) (cC (.int 1))) (cC (.int 1))) aq))) aq)))) bP)
  (bx (dq (aE (cOp rJ (ak 1) (cC (.str "plus")))) (cS (aF (ab (cC (.tup [.int 0, .int 3])) (ab (cC (.tup [.int 0, .int 3])) aq)))) bP)
  (bx (dq (aE (cOp rJ (ak 1) (cC (.str "leap")))) (cS (aF (ab (cC (.tup [.int 0, .int 3])) (ab (cC (.tup [.int 1, .int 12])) aq)))) bP)
  (bx (dq (aE (cOp rJ (ak 1) (cC (.str "wait")))) (cS (aF aq)) bP)
  (cS (cC .non)))))))))
theorem oS {a0 a1 : U} {S : Sto} : fnU 3 2 (aV ) [a0, a1] S = ((aV ) [some a0, some a1, none] S).bind kFn := lh rfl
noncomputable def eY (b7 : Fn) : CS :=
 (bx (dq (cOr (aE (cOp fNe (cCB gH (ab (ak 1) aq)) (cC (.int 3)))) (aE (cOp fEq (ak 2) (cC (.int 0))))) (cS (cC (.bl false))) bP)
  (cS (hU (cCB b7 (ab (ak 0) (ab (cOp fIx (ak 1) (cC (.int 1))) (ab (cOp eV (ak 2) (cC (.int 1))) aq)))) (cCB b7 (ab (ak 0) (ab (cOp fIx (ak 1) (cC (.int 2))) (ab (cOp eV (ak 2) (cC (.int 1))) aq)))))))
theorem vW {b7 : Fn} {a0 a1 a2 : U} {S : Sto} : fnU 3 3 (eY b7) [a0, a1, a2] S = ((eY b7) [some a0, some a1, some a2] S).bind kFn := lh rfl
noncomputable def cP (fM da cZ : Fn) : CS :=
 (bx (dq (cOr (oY (aE (nR .tuple (ak 1)))) (aE (cOp fEq (cCB gH (ab (ak 1) aq)) (cC (.int 0))))) (cS (cC (.bl false))) bP)
  (bx (dq (aE (cOp rJ (cOp fIx (ak 1) (cC (.int 0))) (cC (.str "try")))) (cS (cCB fM (ab (ak 0) (ab (ak 1) (ab (ak 2) aq))))) bP)
  (bx (b8 3 (cCB da (ab (ak 0) (ab (cOp fIx (ak 1) (cC (.int 0))) aq))))
  (bx (dq (cOr (aE (cOp Bh (ak 3) (cC .non))) (aE (cOp fNe (cCB gH (ab (ak 1) aq)) (cOp bJ (cC (.int 1)) (cCB gH (ab (ak 3) aq)))))) (cS (cC (.bl false))) bP)
  (cS (cCB yT (ab (fW (BJ (cSl (ak 1) (some (cC (.int 1))) none) (ak 3)) (gTp [0, 1]) (cCB cZ (ab (ak 0) (ab (cOp fIx (ak 1) (cC (.int 0))) (ab (cOp fIx (ak 1) (cC (.int 1))) aq)))) 2 []) aq)))))))
theorem tV {fM da cZ : Fn} {a0 a1 a2 : U} {S : Sto} : fnU 4 3 (cP fM da cZ) [a0, a1, a2] S = ((cP fM da cZ) [some a0, some a1, some a2, none] S).bind kFn := lh rfl
noncomputable def fN (eK : Fn) : CS :=
 (bx (dq (cOr (oY (aE (nR .tuple (ak 1)))) (aE (cOp fGt (cCB gH (ab (ak 1) aq)) (cC (.int 12))))) (cS (cC (.bl false))) bP)
  (cS (cCB yT (ab (fW (iTp (ak 1)) (gNm 0) (cCB eK (ab (ak 1) (ab (ak 0) (ab (ak 2) aq)))) 1 [0, 2]) aq))))
theorem vX {eK : Fn} {a0 a1 a2 : U} {S : Sto} : fnU 3 3 (fN eK) [a0, a1, a2] S = ((fN eK) [some a0, some a1, some a2] S).bind kFn := lh rfl
noncomputable def dk (bc : Fn) : CS :=
 (bx (dq (aE (cOp fEq (cOp fIx (ak 0) (cC (.int 0))) (cC (.str "try")))) (cS (cOp bJ (cOp bJ (cC (.int 1)) (cCB bc (ab (cOp fIx (ak 0) (cC (.int 1))) aq))) (cCB bc (ab (cOp fIx (ak 0) (cC (.int 2))) aq)))) bP)
  (cS (cC (.int 1))))
theorem qZ {bc : Fn} {a0 : U} {S : Sto} : fnU 1 1 (dk bc) [a0] S = ((dk bc) [some a0] S).bind kFn := lh rfl
noncomputable def fz (dQ : Fn) : CS :=
 (cS (cCB Bg (ab (fW (iTp (ak 0)) (gNm 0) (cCB dQ (ab (ak 0) aq)) 1 []) aq)))
theorem q0 {dQ : Fn} {a0 : U} {S : Sto} : fnU 1 1 (fz dQ) [a0] S = ((fz dQ) [some a0] S).bind kFn := lh rfl
noncomputable def dj (b7 bc : Fn) : CS :=
 (cS (hU (cCB b7 (ab (ak 0) (ab (ak 1) (ab (cC (.int 3)) aq)))) (cOp fLe (cCB bc (ab (ak 1) aq)) (cC (.int 40)))))
theorem iZ {b7 bc : Fn} {a0 a1 : U} {S : Sto} : fnU 2 2 (dj b7 bc) [a0, a1] S = ((dj b7 bc) [some a0, some a1] S).bind kFn := lh rfl
noncomputable def b6 : CS :=
 (cS (hU (nR .int (ak 0)) (hU (uj (nR .bool (ak 0))) (ma fLe fLe (ak 1) (ak 0) (ak 2)))))
theorem lF {a0 a1 a2 : U} {S : Sto} : fnU 3 3 (b6 ) [a0, a1, a2] S = ((b6 ) [some a0, some a1, some a2] S).bind kFn := lh rfl
noncomputable def aZ (bh aS : Fn) : CS :=
 (bx (dq (cOr (oY (aE (nR .tuple (ak 1)))) (cOr (aE (cOp vU (ak 1) (aF aq))) (oY (aE (nR .str (cOp fIx (ak 1) (cC (.int 0)))))))) (cS (cC (.bl false))) bP)
  (bx (dq (aE (cOp fEq (cOp fIx (ak 1) (cC (.int 0))) (cC (.str "wait")))) (cS (cOp fEq (cCB gH (ab (ak 1) aq)) (cC (.int 1)))) bP)
  (bx (dq (aE (cOp fNe (cCB gH (ab (ak 1) aq)) (cC (.int 3)))) (cS (cC (.bl false))) bP)
  (bx (dq (aE (cOp fEq (cOp fIx (ak 1) (cC (.int 0))) (cC (.str "try")))) (cS (hU (cOp fGt (ak 2) (cC (.int 0))) (hU (cCB bh (ab (ak 0) (ab (cOp fIx (ak 1) (cC (.int 1))) (ab (cOp eV (ak 2) (cC (.int 1))) aq)))) (cCB bh (ab (ak 0) (ab (cOp fIx (ak 1) (cC (.int 2))) (ab (cOp eV (ak 2) (cC (.int 1))) aq))))))) bP)
  (bx (BL (ak 1) (gTp [3, 4, 5]))
  (bx (dq (aE (cOp fEq (ak 3) (cC (.str "put")))) (cS (hU (cCB aS (ab (ak 4) (ab (cC (.int 0)) (ab (cOp eV (cOp fIx (ak 0) (cC (.int 0))) (cC (.int 1))) aq)))) (cCB aS (ab (ak 5) (ab (cC (.int 0)) (ab (cC (.int 3)) aq)))))) bP)
  (bx (dq (cOr (aE (cOp (fIn true) (ak 3) (aF (ab (cC (.str "look")) (ab (cC (.str "set")) (ab (cC (.str "plus")) (ab (cC (.str "leap")) aq))))))) (oY (aE (cCB aS (ab (ak 4) (ab (cC (.int 0)) (ab (cC (.int 3)) aq))))))) (cS (cC (.bl false))) bP)
  (bx (dq (aE (cOp fEq (ak 3) (cC (.str "look")))) (cS (cCB aS (ab (ak 5) (ab (cC (.int 0)) (ab (cOp eV (cOp fIx (ak 0) (cC (.int 0))) (cC (.int 1))) aq))))) bP)
  (bx (dq (aE (cOp fEq (ak 3) (cC (.str "set")))) (cS (cCB aS (ab (ak 5) (ab (cC (.int 0)) (ab (cOp eV (cOp fIx (ak 0) (cC (.int 1))) (cC (.int 1))) aq))))) bP)
  (cS (cCB aS (ab (ak 5) (ab (cCB BK (ab (cOp fEq (ak 3) (cC (.str "leap"))) aq)) (ab (cOp fIx (eD (ab (cC (.int 3)) (ab (cC (.int 12)) aq))) (cCB BK (ab (cOp fEq (ak 3) (cC (.str "leap"))) aq))) aq))))))))))))))
theorem lG {bh aS : Fn} {a0 a1 a2 : U} {S : Sto} : fnU 6 3 (aZ bh aS) [a0, a1, a2] S = ((aZ bh aS) [some a0, some a1, some a2, none, none, none] S).bind kFn := lh rfl
noncomputable def dU (b4 : Fn) : CS :=
 (bx (dq (cOr (oY (aE (nR .tuple (ak 1)))) (aE (cOp fGt (cCB gH (ab (ak 1) aq)) (cC (.int 12))))) (cS (cC (.bl false))) bP)
  (cS (cOp (fIn true) (cC (.bl false)) (fW (iTp (ak 1)) (gNm 0) (cCB b4 (ab (ak 1) (ab (ak 0) (ab (ak 2) aq)))) 1 [0, 2]))))
theorem rb {b4 : Fn} {a0 a1 a2 : U} {S : Sto} : fnU 3 3 (dU b4) [a0, a1, a2] S = ((dU b4) [some a0, some a1, some a2] S).bind kFn := lh rfl
noncomputable def bL (bh aB : Fn) : CS :=
 (cS (hU (cCB bh (ab (ak 0) (ab (ak 1) (ab (cC (.int 3)) aq)))) (cOp fLe (cCB aB (ab (ak 1) aq)) (cC (.int 40)))))
theorem fv {bh aB : Fn} {a0 a1 : U} {S : Sto} : fnU 2 2 (bL bh aB) [a0, a1] S = ((bL bh aB) [some a0, some a1] S).bind kFn := lh rfl
noncomputable def cq (ag : Fn) : CS :=
 (bx (b8 3 (cCB ag (ab (ak 0) (ab (cOp rH (cC (.int 10)) (cC (.int 50))) aq))))
  (bx (b8 4 (eD (ab (cCB dD (ab (ak 2) aq)) (ab (cOp fIx (ak 2) (cC (.int 0))) (ab (cC .non) (ab (aF aq) (ab (cOp bJ (ak 2) (aF (ab (cC (.int 0)) aq))) (ab (cSl (ak 2) none (some (DP (cC (.int 1))))) aq))))))))
  (bx (b8 4 (cOp bJ (ak 4) (eD (ab (cOp bJ (aF (ab (mW dB (cOp fIx (ak 2) (cC (.int 0)))) aq)) (cSl (ak 2) (some (cC (.int 1))) none)) (ab (aF (ab (cC (.str "hush")) aq)) (ab (aF (ab (cC (.str "wait")) (ab (cC (.int 0)) aq))) aq))))))
  (bx (b8 4 (cOp bJ (ak 4) (eD (ab (aF (ab (cC (.str "look")) (ab (cC (.int 4)) (ab (cC (.int 0)) aq)))) (ab (aF (ab (cC (.str "look")) (ab (cC (.int 0)) (ab (cOp fIx (ak 1) (cC (.int 0))) aq)))) (ab (aF (ab (cC (.str "look")) (ab (cC (.bl true)) (ab (cC (.int 0)) aq)))) aq))))))
  (bx (b8 4 (cOp bJ (ak 4) (eD (ab (aF (ab (cC (.str "look")) (ab (cC (.int 0)) (ab (cOp eV (cC (.int 0)) (cC (.int 1))) aq)))) (ab (aF (ab (cC (.str "put")) (ab (cOp fIx (ak 1) (cC (.int 0))) (ab (cC (.int 0)) aq)))) aq)))))
  (bx (b8 4 (cOp bJ (ak 4) (eD (ab (aF (ab (cC (.str "put")) (ab (cC (.int 0)) (ab (cC (.int 4)) aq)))) (ab (aF (ab (cC (.str "put")) (ab (cC (.int 0)) (ab (cOp eV (cOp eV (cC (.int 0)) (cC (.int 1))) (ak 3)) aq)))) aq)))))
  (bx (b8 4 (cOp bJ (ak 4) (eD (ab (aF (ab (cC (.str "set")) (ab (cC (.int 0)) (ab (cOp bJ (cOp fIx (ak 1) (cC (.int 1))) (ak 3)) aq)))) (ab (aF (ab (cC (.str "set")) (ab (cC (.int 0)) (ab (cC (.str "0")) aq)))) (ab (aF (ab (cC (.str "set")) (ab (cC (.int 0)) (ab (cC .non) aq)))) aq))))))
  (bx (b8 4 (cOp bJ (ak 4) (eD (ab (aF (ab (cC (.str "plus")) (ab (cC (.int 0)) (ab (cC (.int 4)) aq)))) (ab (aF (ab (cC (.str "plus")) (ab (cOp eV (cC (.int 0)) (cC (.int 1))) (ab (cC (.int 0)) aq)))) (ab (aF (ab (cC (.str "leap")) (ab (cC (.int 0)) (ab (cC (.int 0)) aq)))) aq))))))
  (bx (b8 4 (cOp bJ (ak 4) (eD (ab (aF (ab (cC (.str "leap")) (ab (cC (.int 0)) (ab (cC (.int 13)) aq)))) (ab (aF (ab (cC (.str "leap")) (ab (cC (.int 4)) (ab (cC (.int 1)) aq)))) (ab (aF (ab (cC (.str "leap")) (ab (cC (.int 0)) (ab (cC (.bl true)) aq)))) aq))))))
  (bx (b8 4 (cOp bJ (ak 4) (eD (ab (aF (ab (cC (.str "try")) (ab (aF aq) (ab (aF aq) aq)))) (ab (aF (ab (cC (.str "try")) (ab (aF aq) (ab (eD aq) aq)))) (ab (aF (ab (cC (.str "try")) (ab (aF (ab (aF (ab (cC (.str "wait")) aq)) aq)) aq))) aq))))))
  (bx (b8 4 (cOp bJ (ak 4) (eD (ab (aF (ab (cC (.str "try")) (ab (aF aq) (ab (aF aq) (ab (aF aq) aq))))) (ab (aF (ab (cC (.str "try")) (ab (cC .non) (ab (aF aq) aq)))) aq)))))
  (bx (b8 4 (cOp bJ (ak 4) (eD (ab (aF (ab (cC (.str "try")) (ab (aF (ab (ak 2) aq)) (ab (aF (ab (cCB dD (ab (ak 2) aq)) aq)) aq)))) (ab (aF (ab (ak 2) aq)) (ab (aF (ab (cC (.str "set")) (ab (cC (.int 0)) aq))) aq))))))
  (bx (b8 4 (cOp bJ (ak 4) (eD (ab (aF (ab (aF (ab (cC (.str "look")) aq)) (ab (cC (.int 0)) (ab (cC (.int 0)) aq)))) (ab (aF (ab (cC (.str "leap")) (ab (cC (.int 0)) (ab (cOp bJ (cC (.int 13)) (ak 3)) aq)))) aq)))))
  (bx (b8 4 (cOp bJ (ak 4) (eD (ab (aF (ab (cC (.str "look")) (ab (eD (ab (cC (.int 0)) aq)) (ab (cC (.int 0)) aq)))) (ab (aF (ab (cC (.str "set")) (ab (cC (.int 0)) (ab (eD (ab (cC (.int 0)) aq)) aq)))) (ab (aF (ab (eD (ab (cC (.str "wait")) aq)) aq)) (ab (aF (ab (cC (.str "put")) (ab (aF (ab (cC (.int 0)) aq)) (ab (cC (.int 0)) aq)))) aq)))))))
  (cS (cOp fIx (ak 4) (cCB ag (ab (ak 0) (ab (cC (.int 39)) aq)))))))))))))))))))
theorem jf {ag : Fn} {a0 a1 a2 : U} {S : Sto} : fnU 5 3 (cq ag) [a0, a1, a2] S = ((cq ag) [some a0, some a1, some a2, none, none] S).bind kFn := lh rfl
noncomputable def bS (ag : Fn) : CS :=
 (bx (dq (aE (cOp fEq (cCB gH (ab (ak 2) aq)) (cC (.int 1)))) (cS (cOp bJ (ak 2) (aF (ab (cC (.int 0)) aq)))) bP)
  (bx (b8 3 (cOp bJ (cC (.int 1)) (cCB ag (ab (ak 0) (ab (cOp eV (cCB gH (ab (ak 2) aq)) (cC (.int 1))) aq)))))
  (bx (b8 4 (cCB ag (ab (ak 0) (ab (cOp rH (cC (.int 10)) (cC (.int 50))) aq))))
  (bx (b8 5 (eD (ab (cOp eV (cC (.int 0)) (cC (.int 1))) (ab (cOp eV (cOp eV (cC (.int 0)) (cC (.int 1))) (ak 4)) (ab (cC (.int 4)) (ab (cC (.int 13)) (ab (cC (.int 0)) (ab (cC (.int 1)) (ab (cC (.int 12)) (ab (cOp fIx (ak 1) (cC (.int 0))) (ab (cOp fIx (ak 1) (cC (.int 1))) (ab (cOp bJ (cOp fIx (ak 1) (cC (.int 1))) (ak 4)) (ab (cC (.bl true)) (ab (cC (.bl false)) aq))))))))))))))
  (bx (b8 5 (cOp bJ (ak 5) (eD (ab (cC .non) (ab (cCB kE (ab (cOp fIx (ak 2) (ak 3)) aq)) (ab (aF (ab (cOp fIx (ak 2) (ak 3)) aq)) (ab (eD (ab (cOp fIx (ak 2) (ak 3)) aq)) aq)))))))
  (cS (cOp bJ (cOp bJ (cSl (ak 2) none (some (ak 3))) (aF (ab (cOp fIx (ak 5) (cCB ag (ab (ak 0) (ab (cC (.int 16)) aq)))) aq))) (cSl (ak 2) (some (cOp bJ (ak 3) (cC (.int 1)))) none))))))))
theorem je {ag : Fn} {a0 a1 a2 : U} {S : Sto} : fnU 6 3 (bS ag) [a0, a1, a2] S = ((bS ag) [some a0, some a1, some a2, none, none, none] S).bind kFn := lh rfl
noncomputable def eP (ag aJ bD bF : Fn) : CS :=
 (bx (dq (cOr (aE (cOp vU (ak 2) (aF aq))) (aE (cOp fEq (cCB ag (ab (ak 0) (ab (cC (.int 12)) aq))) (cC (.int 0))))) (cS (cOp fIx (eD (ab (cCB dD (ab (ak 2) aq)) (ab (cOp bJ (ak 2) (aF (ab (ak 2) aq))) (ab (cOp bJ (ak 2) (aF (ab (aF (ab (cC (.str "wait")) (ab (aF aq) aq))) aq))) (ab (cC .non) aq))))) (cCB ag (ab (ak 0) (ab (cC (.int 4)) aq))))) bP)
  (bx (b8 3 (cCB ag (ab (ak 0) (ab (cCB gH (ab (ak 2) aq)) aq))))
  (bx (b8 4 (cOp fIx (ak 2) (ak 3)))
  (bx (dq (md (aE (cOp fEq (cOp fIx (ak 4) (cC (.int 0))) (cC (.str "try")))) (aE (cOp fGt (cCB ag (ab (ak 0) (ab (cC (.int 3)) aq))) (cC (.int 0))))) (dq (aE (cOp fEq (cCB ag (ab (ak 0) (ab (cC (.int 2)) aq))) (cC (.int 0)))) (b8 4 (aF (ab (cC (.str "try")) (ab (cCB aJ (ab (ak 0) (ab (ak 1) (ab (cOp fIx (ak 4) (cC (.int 1))) aq)))) (ab (cOp fIx (ak 4) (cC (.int 2))) aq))))) (b8 4 (aF (ab (cC (.str "try")) (ab (cOp fIx (ak 4) (cC (.int 1))) (ab (cCB aJ (ab (ak 0) (ab (ak 1) (ab (cOp fIx (ak 4) (cC (.int 2))) aq)))) aq)))))) (dq (aE (cOp fEq (cCB ag (ab (ak 0) (ab (cC (.int 2)) aq))) (cC (.int 0)))) (b8 4 (cCB bD (ab (ak 0) (ab (ak 1) (ab (ak 4) aq))))) (b8 4 (cCB bF (ab (ak 0) (ab (ak 1) (ab (ak 4) aq)))))))
  (cS (cOp bJ (cOp bJ (cSl (ak 2) none (some (ak 3))) (aF (ab (ak 4) aq))) (cSl (ak 2) (some (cOp bJ (ak 3) (cC (.int 1)))) none)))))))
theorem oV {ag aJ bD bF : Fn} {a0 a1 a2 : U} {S : Sto} : fnU 5 3 (eP ag aJ bD bF) [a0, a1, a2] S = ((eP ag aJ bD bF) [some a0, some a1, some a2, none, none] S).bind kFn := lh rfl
noncomputable def cR (aH br : Fn) : CS :=
 (bx (b8 2 (cCB aH (ab (ak 0) (ab (ak 1) aq))))
  (cS (hU (nR .bool (ak 2)) (cOp fEq (ak 2) (cCB br (ab (ak 0) (ab (ak 1) aq)))))))
theorem lI {aH br : Fn} {a0 a1 : U} {S : Sto} : fnU 3 2 (cR aH br) [a0, a1] S = ((cR aH br) [some a0, some a1, none] S).bind kFn := lh rfl
end OQ
local macro_rules
 | `(tactic| rwa $s:rwRuleSeq) => do
  let ts : Array (Lean.TSyntax `term) := s.raw[1].getSepArgs.map fun r => ⟨r[1]⟩
  let us : Array (Lean.TSyntax `term) := (("BP yX x_c rD ju jt pE oj CK zE zD Bx ze xc B1 zg zC xw xv B0 zd zc zf xf B2 mY me rP uX wA rN pF DY CB uZ pG y2 uY wB y9 y8 y6 zw xo qH za qJ rO pH EL Ci Cg xa rL CH zB zA Ck Cj zG zF Ew BW BV BU BS xn zp zq Cc BR y3 y4 zk zl zm zj CL BQ EK Ca EM EN Cq B4 Cp B3 Cr B5 Cn Cm at0 at1 at2 at3 ix0 ix1 ix2 Option.bind_some List.getElem?_cons_zero List.getElem?_cons_succ List.set_cons_zero List.set_cons_succ List.length_cons List.length_nil List.map_cons List.map_nil decide_true decide_false Bool.not_true Bool.not_false Co zv zu Ex BZ BY BX zi xi xh xg xj zt Ce Cb zo ER CF CD CC CJ EO Cw Cv Cu Ct Cs zx EB x_p EA Ez Ey zy xt xq yY yZ y1 xk xl xm zr ga ga0 gs gs0 Option.join_some Nat.add_zero List.cons_append List.nil_append List.append_assoc" : String).splitOn " ").toArray.map fun x => ⟨(Lean.mkIdent ((x.splitOn ".").foldl Lean.Name.str Lean.Name.anonymous)).raw⟩
  let vs := ts ++ us
  `(tactic| simp only [$[$vs:term],*])
namespace OQ
open PySem PySem.Spec PyProof.Rows L2 OG OP
noncomputable def pen (a c : Int) : O := .lst [.ref 0, .int a, .int c]
section
variable {S : Sto} {j k : Int}
theorem rM (h : -(2 ^ 64) < k ∧ k < 2 ^ 64) : kG (.int j) (.int k) S = some (.int (j * k), S) := zh (.inr h)
theorem mX (h : -(2 ^ 64) < j ∧ j < 2 ^ 64) : kG (.int j) (.int k) S = some (.int (j * k), S) := zh (.inl h)
theorem EJ : kG (.int j) (.int 3) S = some (.int (j * 3), S) := rM (by decide)
theorem B8 : kG (.int 97) (.int k) S = some (.int (97 * k), S) := mX (by decide)
theorem B9 : kG (.int 53) (.int k) S = some (.int (53 * k), S) := mX (by decide)
theorem EI : kG (.int j) (.int 48271) S = some (.int (j * 48271), S) := rM (by decide)
theorem EH : kG (.int 69621) (.int k) S = some (.int (69621 * k), S) := mX (by decide)
theorem EG : kG (.int j) (.int 998244353) S = some (.int (j * 998244353), S) := rM (by decide)
theorem B7 : kG (.int (j % 2147483647)) (.int k) S = some (.int (j % 2147483647 * k), S) := mX (by have := Int.emod_nonneg j (show (2147483647 : Int) ≠ 0 by decide); have := Int.emod_lt_of_pos j (show (0 : Int) < 2147483647 by decide); omega)
theorem B6 : kG (.int (j % 1000000007)) (.int k) S = some (.int (j % 1000000007 * k), S) := mX (by have := Int.emod_nonneg j (show (1000000007 : Int) ≠ 0 by decide); have := Int.emod_lt_of_pos j (show (0 : Int) < 1000000007 by decide); omega)
theorem EF : nJ (.int j) (.int 998244353) S = some (.int (j % 998244353), S) := qI (by decide)
theorem EE : nJ (.int j) (.int 2147483647) S = some (.int (j % 2147483647), S) := qI (by decide)
theorem ED : nJ (.int j) (.int 1000000007) S = some (.int (j % 1000000007), S) := qI (by decide)
theorem EC : nJ (.int j) (.int 1000003) S = some (.int (j % 1000003), S) := qI (by decide)
theorem Cz : vV (.int j) (.int 16) S = some (.int (j / 16), S) := xp ⟨by decide, by decide +kernel⟩
theorem zb : rH (.int 10) (.int 18) S = some (.int 1000000000000000000, S) := xb (j := 10) (k := 18) ⟨by decide, by decide, by decide⟩
theorem Cy : vV (.int j) (.int 1000000000000000000) S = some (.int (j / 1000000000000000000), S) := xp ⟨by decide, by decide +kernel⟩
theorem atU {ns : List Int} {k : Int} (h0 : 0 ≤ k) (h1 : k < (ns.length : Int)) : ∃ v : Int, atI (ns.map U.int) k = some (.int v) := by
 have hk : k.toNat < ns.length := by omega
 exact ⟨ns[k.toNat], Bs h0 (by rw [List.getElem?_map, List.getElem?_eq_getElem hk]; rfl)⟩
end
noncomputable def bH : Fn := fnU 8 2 dS
theorem bo (ns : List Int) (T : Sto) {a c m : Int} (ha : 0 ≤ a) (hc : 0 ≤ c) (hm : 0 < m) (hb : m.natAbs.log2 < 9000) :
  ∃ f a' c', bH [.ref 1, .int m] (.lst (ns.map U.int) :: pen a c :: T) = some (.int f, .lst (ns.map U.int) :: pen a' c' :: T) ∧ 0 ≤ f ∧ f < m ∧ 0 ≤ a' ∧ 0 ≤ c' := by
 unfold bH
 rw [oT]
 have dm : ∀ {j : Int} {S : Sto}, vV (.int j) (.int m) S = some (.int (j / m), S) := xp ⟨hm, hb⟩
 have mm : ∀ {j : Int} {S : Sto}, nJ (.int j) (.int m) S = some (.int (j % m), S) := qI hm
 have fin : ∀ {a' c' : Int}, 0 ≤ a' → 0 ≤ c' → 0 ≤ c' % m ∧ c' % m < m ∧ 0 ≤ a' ∧ 0 ≤ c' / m := fun h1 h2 => ⟨Int.emod_nonneg _ (by omega), Int.emod_lt_of_pos _ hm, h1, Int.ediv_nonneg h2 (by omega)⟩
 by_cases c0 : c = 0
 ·subst c0
  have cell : ∃ z : Int, (dq (aE (cOp fLt (ak 2) (cCB gH (ab (cOp fIx (ak 0) (cC (U.int 0))) aq))))
              (b8 3 (cOp fIx (cOp fIx (ak 0) (cC (U.int 0))) (ak 2)))
              (dq
               (aE (cOp fGt (cCB gH (ab (cOp fIx (ak 0) (cC (U.int 0))) aq)) (cC (U.int 0))))
               (b8 3
                (cOp bJ
                 (cOp nJ
                  (cOp fIx (cOp fIx (ak 0) (cC (U.int 0)))
                   (cOp nJ (cOp kG (ak 2) (cC (U.int 3)))
                    (cCB gH (ab (cOp fIx (ak 0) (cC (U.int 0))) aq))))
                  (cC (U.int 1000003)))
                 (cOp kG (cC (U.int 97)) (ak 2))))
               bP)) [some (.ref 1), some (.int m), some (.int a), some (.int 0), none, none, none, none] (O.lst (ns.map U.int) :: .lst [.ref 0, .int (a + 1), .int 0] :: T) = some (.nx, [some (.ref 1), some (.int m), some (.int a), some (.int z), none, none, none, none], O.lst (ns.map U.int) :: .lst [.ref 0, .int (a + 1), .int 0] :: T) := by
   by_cases h1 : a < (ns.length : Int)
   ·obtain ⟨z, hz⟩ := atU ha h1
    exact ⟨z, by rwa [hz, h1, List.length_map]⟩
   ·by_cases h2 : (0 : Int) < (ns.length : Int)
    ·obtain ⟨z, hz⟩ := atU (ns := ns) (k := a * 3 % (ns.length : Int)) (Int.emod_nonneg _ (by omega)) (Int.emod_lt_of_pos _ h2)
     exact ⟨z % 1000003 + 97 * a, by rwa [h1, h2, EJ, qI h2, hz, EC, B8, List.length_map]⟩
    ·exact ⟨0, by rwa [h1, h2, List.length_map]⟩
  obtain ⟨z, hz⟩ := cell
  rwa [dS, pen, hz, EF, EE, ED, B9, EI, EH, EG, B7, B6, Cz, zb]
  by_cases h3 : (1000000000000000000 : Int) ≤ z
  ·rwa [h3, zb, Cy, mm, dm]
   exact ⟨_, _, _, rfl, fin (by omega) (Int.ediv_nonneg (by omega) (by omega))⟩
  ·rwa [h3, mm, dm]
   refine ⟨_, _, _, rfl, fin (by omega) ?_⟩
   exact Int.add_nonneg (Int.ediv_nonneg (Int.add_nonneg (Int.mul_nonneg (Int.emod_nonneg _ (by decide)) (by decide)) (Int.emod_nonneg _ (by decide))) (by decide)) (by decide)
 ·rwa [dS, pen, c0, mm, dm]
  exact ⟨_, _, _, rfl, fin ha hc⟩
theorem l9 {m : Int} (h0 : 0 ≤ m) (h : m < 2 ^ 60) : m.natAbs.log2 < 9000 := tm h0 h
noncomputable abbrev scr (ns : List Int) : O := .lst (ns.map U.int)
theorem C2 {f g : Int} (g0 : 0 ≤ g) (g1 : g < 999) (f0 : 0 ≤ f) (f1 : f < 5) : ∃ v : Int, atI [U.int 2, U.int 3, U.int 5, U.int 10, U.int (2 + g)] f = some (.int v) ∧ 2 ≤ v ∧ v ≤ 1000 := by
 have : f = 0 ∨ f = 1 ∨ f = 2 ∨ f = 3 ∨ f = 4 := by omega
 rcases this with rfl | rfl | rfl | rfl | rfl
 ·exact ⟨2, rfl, by omega, by omega⟩
 ·exact ⟨3, rfl, by omega, by omega⟩
 ·exact ⟨5, rfl, by omega, by omega⟩
 ·exact ⟨10, rfl, by omega, by omega⟩
 ·exact ⟨2 + g, rfl, by omega, by omega⟩
noncomputable def kL : Fn := fnU 1 1 (eA bH)
theorem ve (ns : List Int) (T : Sto) {a c : Int} (ha : 0 ≤ a) (hc : 0 ≤ c) :
  ∃ n w a' c' G, kL [.ref 1] (scr ns :: pen a c :: T) = some (.tup [.int n, .int w], scr ns :: pen a' c' :: (T ++ G)) ∧ 1 ≤ n ∧ n ≤ 6 ∧ 2 ≤ w ∧ w ≤ 1000 ∧ 0 ≤ a' ∧ 0 ≤ c' := by
 unfold kL
 rw [nL]
 obtain ⟨f1, a1, c1, h1, p1, q1, ha1, hc1⟩ := bo ns T (m := 6) ha hc (by decide) (by decide +kernel)
 obtain ⟨f2, a2, c2, h2, p2, q2, ha2, hc2⟩ := bo ns T (m := 999) ha1 hc1 (by decide) (by decide +kernel)
 obtain ⟨f3, a3, c3, h3, p3, q3, ha3, hc3⟩ := bo ns (T ++ [.lst [.int 2, .int 3, .int 5, .int 10, .int (2 + f2)]]) (m := 5) ha2 hc2 (by decide) (by decide +kernel)
 obtain ⟨v, hv, v0, v1⟩ := C2 p2 q2 p3 q3
 refine ⟨1 + f1, v, a3, c3, [.lst [.int 2, .int 3, .int 5, .int 10, .int (2 + f2)]], ?_, by omega, by omega, v0, v1, ha3, hc3⟩
 rwa [eA, h1, h2, h3, hv]
inductive qG where
 | look (h b : Int) | put (b h : Int) | set (h v : Int) | plus (h g : Int) | leap (h k : Int) | wait
noncomputable def qG.u : qG → U
 | .look h b => .tup [.str "look", .int h, .int b]
 | .put b h => .tup [.str "put", .int b, .int h]
 | .set h v => .tup [.str "set", .int h, .int v]
 | .plus h g => .tup [.str "plus", .int h, .int g]
 | .leap h k => .tup [.str "leap", .int h, .int k]
 | .wait => .tup [.str "wait"]
noncomputable def qG.ok (n w : Int) : qG → Prop
 | .look h b => 0 ≤ h ∧ h < 4 ∧ 0 ≤ b ∧ b < n
 | .put b h => 0 ≤ h ∧ h < 4 ∧ 0 ≤ b ∧ b < n
 | .set h v => 0 ≤ h ∧ h < 4 ∧ 0 ≤ v ∧ v < w
 | .plus h g => 0 ≤ h ∧ h < 4 ∧ 0 ≤ g ∧ g < 4
 | .leap h k => 0 ≤ h ∧ h < 4 ∧ 1 ≤ k ∧ k ≤ 12
 | .wait => True
noncomputable def iD : Fn := fnU 4 4 (aT bH)
theorem vw (ns : List Int) (T : Sto) {a c n w way hand : Int} (ha : 0 ≤ a) (hc : 0 ≤ c) (n0 : 1 ≤ n) (n1 : n ≤ 6) (w0 : 2 ≤ w) (w1 : w ≤ 1000) (y0 : 0 ≤ way) (h0 : 0 ≤ hand) (h1 : hand < 4) :
  ∃ (d : qG) (a' c' : Int) (G : Sto), iD [.ref 1, .tup [.int n, .int w], .int way, .int hand] (scr ns :: pen a c :: T) = some (d.u, scr ns :: pen a' c' :: (T ++ G)) ∧ d.ok n w ∧ 0 ≤ a' ∧ 0 ≤ c' := by
 unfold iD
 rw [iA]
 by_cases c4 : way < 4
 ·obtain ⟨f, a1, c1, e1, p1, q1, ha1, hc1⟩ := bo ns T (m := n) ha hc (by omega) (l9 (by omega) (by omega))
  exact ⟨.look hand f, a1, c1, [], by rwa [aT, c4, e1, qG.u, List.append_nil], ⟨h0, h1, p1, q1⟩, ha1, hc1⟩
 by_cases c7 : way < 7
 ·obtain ⟨f, a1, c1, e1, p1, q1, ha1, hc1⟩ := bo ns T (m := n) ha hc (by omega) (l9 (by omega) (by omega))
  exact ⟨.put f hand, a1, c1, [], by rwa [aT, c4, c7, e1, qG.u, List.append_nil], ⟨h0, h1, p1, q1⟩, ha1, hc1⟩
 by_cases c9 : way < 9
 ·obtain ⟨f, a1, c1, e1, p1, q1, ha1, hc1⟩ := bo ns T (m := w) ha hc (by omega) (l9 (by omega) (by omega))
  exact ⟨.set hand f, a1, c1, [], by rwa [aT, c4, c7, c9, e1, qG.u, List.append_nil], ⟨h0, h1, p1, q1⟩, ha1, hc1⟩
 by_cases c11 : way < 11
 ·obtain ⟨f, a1, c1, e1, p1, q1, ha1, hc1⟩ := bo ns T (m := 4) ha hc (by omega) (l9 (by omega) (by omega))
  exact ⟨.plus hand f, a1, c1, [], by rwa [aT, c4, c7, c9, c11, e1, qG.u, List.append_nil], ⟨h0, h1, p1, q1⟩, ha1, hc1⟩
 obtain ⟨f, a1, c1, e1, p1, q1, ha1, hc1⟩ := bo ns (T ++ [.lst [.int 2, .int 12]]) (m := 2) ha hc (by decide) (by decide +kernel)
 have key : ∃ z : Int, atI [U.int 2, U.int 12] f = some (.int z) ∧ 0 < z ∧ z ≤ 12 := by
  have : f = 0 ∨ f = 1 := by omega
  rcases this with rfl | rfl
  ·exact ⟨2, rfl, by omega, by omega⟩
  ·exact ⟨12, rfl, by omega, by omega⟩
 obtain ⟨z, hz, z0, z1⟩ := key
 obtain ⟨g, a2, c2, e2, p2, q2, ha2, hc2⟩ := bo ns (T ++ [.lst [.int 2, .int 12]]) (m := z) ha1 hc1 z0 (l9 (by omega) (by omega))
 exact ⟨.leap hand (1 + g), a2, c2, [.lst [.int 2, .int 12]], by rwa [aT, c4, c7, c9, c11, e1, e2, hz, qG.u], ⟨h0, h1, by omega, by omega⟩, ha2, hc2⟩
noncomputable def qD (fd fs : Fn) : Fn := fnU 11 4 (cQ bH iD fd fs)
theorem iI : decide (("wait" : Str) = "leap") = false := by decide +kernel
theorem jy : decide (("wait" : Str) = "try") = false := by decide +kernel
theorem iH : decide (("wait" : Str) = "look") = false := by decide +kernel
theorem jB : decide (("wait" : Str) = "put") = false := by decide +kernel
theorem jA : decide (("wait" : Str) = "set") = false := by decide +kernel
theorem iG : decide (("wait" : Str) = "plus") = false := by decide +kernel
theorem iP : decide (("leap" : Str) = "wait") = false := by decide +kernel
theorem jS : decide (("leap" : Str) = "try") = false := by decide +kernel
theorem iR : decide (("leap" : Str) = "look") = false := by decide +kernel
theorem jU : decide (("leap" : Str) = "put") = false := by decide +kernel
theorem jT : decide (("leap" : Str) = "set") = false := by decide +kernel
theorem iQ : decide (("leap" : Str) = "plus") = false := by decide +kernel
theorem jC : decide (("try" : Str) = "wait") = false := by decide +kernel
theorem jF : decide (("try" : Str) = "leap") = false := by decide +kernel
theorem jE : decide (("try" : Str) = "look") = false := by decide +kernel
theorem lO : decide (("try" : Str) = "put") = false := by decide +kernel
theorem lN : decide (("try" : Str) = "set") = false := by decide +kernel
theorem jD : decide (("try" : Str) = "plus") = false := by decide +kernel
theorem iM : decide (("look" : Str) = "wait") = false := by decide +kernel
theorem iO : decide (("look" : Str) = "leap") = false := by decide +kernel
theorem fD : decide (("look" : Str) = "try") = false := by decide +kernel
theorem jR : decide (("look" : Str) = "put") = false := by decide +kernel
theorem jQ : decide (("look" : Str) = "set") = false := by decide +kernel
theorem iN : decide (("look" : Str) = "plus") = false := by decide +kernel
theorem jK : decide (("put" : Str) = "wait") = false := by decide +kernel
theorem jN : decide (("put" : Str) = "leap") = false := by decide +kernel
theorem gw : decide (("put" : Str) = "try") = false := by decide +kernel
theorem jM : decide (("put" : Str) = "look") = false := by decide +kernel
theorem lQ : decide (("put" : Str) = "set") = false := by decide +kernel
theorem jL : decide (("put" : Str) = "plus") = false := by decide +kernel
theorem jG : decide (("set" : Str) = "wait") = false := by decide +kernel
theorem jJ : decide (("set" : Str) = "leap") = false := by decide +kernel
theorem gr : decide (("set" : Str) = "try") = false := by decide +kernel
theorem jI : decide (("set" : Str) = "look") = false := by decide +kernel
theorem lP : decide (("set" : Str) = "put") = false := by decide +kernel
theorem jH : decide (("set" : Str) = "plus") = false := by decide +kernel
theorem iJ : decide (("plus" : Str) = "wait") = false := by decide +kernel
theorem iL : decide (("plus" : Str) = "leap") = false := by decide +kernel
theorem fC : decide (("plus" : Str) = "try") = false := by decide +kernel
theorem iK : decide (("plus" : Str) = "look") = false := by decide +kernel
theorem jP : decide (("plus" : Str) = "put") = false := by decide +kernel
theorem jO : decide (("plus" : Str) = "set") = false := by decide +kernel
theorem SNX : type_of% @iI ∧ type_of% @jy ∧ type_of% @iH ∧ type_of% @jB ∧ type_of% @jA ∧ type_of% @iG ∧ type_of% @iP ∧ type_of% @jS ∧ type_of% @iR ∧ type_of% @jU ∧ type_of% @jT ∧ type_of% @iQ ∧ type_of% @jC ∧ type_of% @jF ∧ type_of% @jE ∧ type_of% @lO ∧ type_of% @lN ∧ type_of% @jD ∧ type_of% @iM ∧ type_of% @iO ∧ type_of% @fD ∧ type_of% @jR ∧ type_of% @jQ ∧ type_of% @iN ∧ type_of% @jK ∧ type_of% @jN ∧ type_of% @gw ∧ type_of% @jM ∧ type_of% @lQ ∧ type_of% @jL ∧ type_of% @jG ∧ type_of% @jJ ∧ type_of% @gr ∧ type_of% @jI ∧ type_of% @lP ∧ type_of% @jH ∧ type_of% @iJ ∧ type_of% @iL ∧ type_of% @fC ∧ type_of% @iK ∧ type_of% @jP ∧ type_of% @jO := ⟨@iI, @jy, @iH, @jB, @jA, @iG, @iP, @jS, @iR, @jU, @jT, @iQ, @jC, @jF, @jE, @lO, @lN, @jD, @iM, @iO, @fD, @jR, @jQ, @iN, @jK, @jN, @gw, @jM, @lQ, @jL, @jG, @jJ, @gr, @jI, @lP, @jH, @iJ, @iL, @fC, @iK, @jP, @jO⟩
inductive DF (α : Type) where
 | pl (d : qG) | tr (a b : List α)
noncomputable def DF.u {α : Type} (f : α → U) : DF α → U
 | .pl d => d.u
 | .tr a b => .tup [.str "try", .tup (a.map f), .tup (b.map f)]
noncomputable def Dl : Nat → Type
 | 0 => DF Empty
 | j + 1 => DF (Dl j)
noncomputable def Dl.u : (j : Nat) → Dl j → U
 | 0, d => DF.u (fun x => nomatch x) d
 | j + 1, d => DF.u (Dl.u j) d
noncomputable def DF.ok {α : Type} (n w : Int) (k : List α → Prop) : DF α → Prop
 | .pl d => d.ok n w
 | .tr a b => k a ∧ k b
theorem tf {α : Type} {l : List α} {k : Nat} {x : α} (h : l[k]? = some x) : k < l.length := (List.getElem?_eq_some_iff.mp h).1
theorem mI {α : Type} {l r : List α} {k : Nat} {x : α} (h : l[k]? = some x) : (l ++ r)[k]? = some x := by rw [List.getElem?_append_left (tf h)]; exact h
section
variable {α : Type} {n w : Int} {f : α → U} {k : List α → Prop} {s : List α → Int}
noncomputable def szF (s : List α → Int) : List (DF α) → Int
 | [] => 0
 | .pl _ :: r => 1 + szF s r
 | .tr a b :: r => 1 + s a + s b + szF s r
theorem mn (s : List α → Int) : ∀ (x y : List (DF α)), szF s (x ++ y) = szF s x + szF s y
 | [], y => by simp [szF]
 | .pl d :: r, y => by simp only [List.cons_append, szF, mn s r y]; omega
 | .tr a b :: r, y => by simp only [List.cons_append, szF, mn s r y]; omega
noncomputable def HsT (fs : Fn) (f : α → U) (k : List α → Prop) (s : List α → Int) : Prop := ∀ (a : List α) (S : Sto), k a → fs [.tup (a.map f)] S = some (.int (s a), S)
noncomputable def qz (fs : Fn) : Fn := fnU 3 1 (eO fs)
theorem jV {fs : Fn} (Hs : HsT fs f k s) (x : U) : ∀ (ds : List (DF α)) (many : Int) (r2 : Option U) (S : Sto), (∀ d ∈ ds, d.ok n w k) →
  ∃ r2', fk (fun _ => True) (gNm 2) (eC fs) (ds.map (DF.u f)) [some x, some (.int many), r2] S = some (.nx, [some x, some (.int (many + szF s ds)), r2'], S)
 | [], many, r2, S, _ => ⟨r2, by simp only [szF, Int.add_zero, List.map_nil]; exact g9 trivial⟩
 | d :: r, many, r2, S, oa => by
  have od := oa d List.mem_cons_self
  cases d with
  | pl d =>
   obtain ⟨r2', ih⟩ := jV Hs x r (many + 1) (some d.u) S fun y hy => oa y (List.mem_cons_of_mem _ hy)
   have e : many + szF s (.pl d :: r) = many + 1 + szF s r := by simp only [szF]; omega
   rw [e]
   refine ⟨r2', (dA trivial rfl ?_).trans ih⟩
   have h0 : ∃ y rr, d.u = .tup (.str y :: rr) ∧ decide (y = ("try" : Str)) = false := by
    cases d <;> first | exact ⟨_, _, rfl, fD⟩ | exact ⟨_, _, rfl, gw⟩ | exact ⟨_, _, rfl, gr⟩ | exact ⟨_, _, rfl, fC⟩ | exact ⟨_, _, rfl, by decide +kernel⟩
   obtain ⟨y, rr, e0, e1⟩ := h0
   simp only [DF.u]
   rw [e0]
   rwa [eC, e1]
  | tr a b =>
   obtain ⟨ka, kb⟩ := od
   obtain ⟨r2', ih⟩ := jV Hs x r (many + 1 + s a + s b) (some (DF.u f (.tr a b))) S fun y hy => oa y (List.mem_cons_of_mem _ hy)
   have e : many + szF s (.tr a b :: r) = many + 1 + s a + s b + szF s r := by simp only [szF]; omega
   rw [e]
   refine ⟨r2', (dA trivial rfl ?_).trans ih⟩
   rwa [eC, DF.u, Hs a _ ka, Hs b _ kb, SNX]
theorem oB {fs : Fn} (Hs : HsT fs f k s) (ds : List (DF α)) (S : Sto) (oa : ∀ d ∈ ds, d.ok n w k) : qz fs [.tup (ds.map (DF.u f))] S = some (.int (szF s ds), S) := by
 unfold qz
 rw [oU]
 obtain ⟨r2, e⟩ := jV Hs (.tup (ds.map (DF.u f))) ds 0 none S oa
 rw [Int.zero_add] at e
 rwa [eO, nS, iTp, e]
end
noncomputable def nY : Nat → Fn
 | 0 => qz fun _ _ => none
 | j + 1 => qz (nY j)
noncomputable def lq : (j : Nat) → List (Dl j) → Int
 | 0, ds => szF (fun _ => 0) ds
 | j + 1, ds => szF (lq j) ds
section
variable {α : Type} {f : α → U} {k : List α → Prop} {s : List α → Int}
noncomputable def HdT (n w t : Int) (fd : Fn) (f : α → U) (k : List α → Prop) (s : List α → Int) : Prop := ∀ (ns : List Int) (T : Sto) (a c room : Int), 0 ≤ a → 0 ≤ c → 0 ≤ room → room ≤ 40 →
 ∃ (ds : List α) (a' c' : Int) (G : Sto), fd [.ref 1, .tup [.int n, .int w], .int room, .int t] (scr ns :: pen a c :: T) = some (.tup (ds.map f), scr ns :: pen a' c' :: (T ++ G)) ∧ k ds ∧ s ds ≤ room ∧ 0 ≤ s ds ∧ 0 ≤ a' ∧ 0 ≤ c' ∧ ds.length ≤ 12
noncomputable def gM (ag aN ay aB : Fn) : CS :=
 (dq (md (aE (cOp fGt (ak 5) (cC (.int 0)))) (md (aE (cOp fLt (cCB gH (ab (ak 4) aq)) (cC (.int 12)))) (aE (cOp fLt (ak 7) (cC (.int 13)))))) (bx (lJ (cBM dR (ak 4) (ab (cCB aN (ab (ak 0) (ab (ak 1) (ab (ak 7) (ab (ak 8) aq))))) aq)))
  (b8 5 (cOp eV (ak 5) (cC (.int 1))))) (dq (md (aE (cOp fGt (ak 5) (cC (.int 0)))) (md (aE (cOp fLt (cCB gH (ab (ak 4) aq)) (cC (.int 12)))) (cOr (aE (cOp fEq (ak 7) (cC (.int 13)))) (aE (cOp fEq (ak 3) (cC (.int 0))))))) (bx (dq (md (aE (cOp fGt (ak 5) (cC (.int 1)))) (md (aE (cOp fLt (cCB gH (ab (ak 4) aq)) (cC (.int 11)))) (aE (cOp fGt (cCB ag (ab (ak 0) (ab (cC (.int 4)) aq))) (cC (.int 0)))))) (bx (lJ (cBM dR (ak 4) (ab (aF (ab (cC (.str "leap")) (ab (ak 8) (ab (cC (.int 1)) aq)))) aq)))
  (b8 5 (cOp eV (ak 5) (cC (.int 1))))) bP)
  (bx (lJ (cBM dR (ak 4) (ab (aF (ab (cC (.str "wait")) aq)) aq)))
  (b8 5 (cOp eV (ak 5) (cC (.int 1)))))) (dq (md (aE (cOp fGt (ak 5) (cC (.int 0)))) (aE (cOp fLt (cCB gH (ab (ak 4) aq)) (cC (.int 12))))) (bx (b8 9 (cCB ay (ab (ak 0) (ab (ak 1) (ab (cCB ag (ab (ak 0) (ab (ak 5) aq))) (ab (cOp eV (ak 3) (cC (.int 1))) aq))))))
  (bx (b8 5 (cOp eV (cOp eV (ak 5) (cC (.int 1))) (cCB aB (ab (ak 9) aq))))
  (bx (b8 10 (cCB ay (ab (ak 0) (ab (ak 1) (ab (cCB ag (ab (ak 0) (ab (cOp bJ (ak 5) (cC (.int 1))) aq))) (ab (cOp eV (ak 3) (cC (.int 1))) aq))))))
  (bx (b8 5 (cOp eV (ak 5) (cCB aB (ab (ak 10) aq))))
  (lJ (cBM dR (ak 4) (ab (aF (ab (cC (.str "try")) (ab (ak 9) (ab (ak 10) aq)))) aq))))))) bP)))
theorem Br {f g h i : Fn} : cT f g h i = bx (b8 7 (cCB f (ab (ak 0) (ab (cC (.int 16)) aq)))) (bx (b8 8 (cCB f (ab (ak 0) (ab (cC (.int 4)) aq)))) (gM f g h i)) := rfl
theorem cN (ns : List Int) (T : Sto) {n w room t : Int} {fd fs : Fn} (Hs : HsT fs f k s) (Hd : t ≠ 0 → HdT n w (t - 1) fd f k s) (n0 : 1 ≤ n) (n1 : n ≤ 6) (w0 : 2 ≤ w) (w1 : w ≤ 1000) (rm : room ≤ 40) : ∀ (us : List U) (r6 r7 r8 r9 r10 : Option U) (left : Int) (ds : List (DF α)) (G : Sto) {a c : Int}, 0 ≤ a → 0 ≤ c → ds.length ≤ 12 → (∀ d ∈ ds, d.ok n w k) → 0 ≤ left → szF s ds + left ≤ room → 0 ≤ szF s ds →
  ∃ (ds' : List (DF α)) (ρ : Rho) (a' c' : Int) (G' : Sto), fk (fun _ => True) (gNm 6) (cT bH iD fd fs) us [some (.ref 1), some (.tup [.int n, .int w]), some (.int room), some (.int t), some (.ref (T.length + 1 + 1)), some (.int left), r6, r7, r8, r9, r10] (scr ns :: pen a c :: (T ++ .lst (ds.map (DF.u f)) :: G))
   = some (.nx, some (.ref 1) :: some (.tup [.int n, .int w]) :: some (.int room) :: some (.int t) :: some (.ref (T.length + 1 + 1)) :: ρ, scr ns :: pen a' c' :: (T ++ .lst (ds'.map (DF.u f)) :: G')) ∧ ds'.length ≤ 12 ∧ (∀ d ∈ ds', d.ok n w k) ∧ szF s ds' ≤ room ∧ 0 ≤ szF s ds' ∧ 0 ≤ a' ∧ 0 ≤ c'
 | [], r6, r7, r8, r9, r10, left, ds, G, a, c, ha, hc, hl, hd, l0, sz, s0 => ⟨ds, _, a, c, G, by simp [fk]; rfl, hl, hd, by omega, s0, ha, hc⟩
 | u :: us, r6, r7, r8, r9, r10, left, ds, G, a, c, ha, hc, hl, hd, l0, sz, s0 => by
  obtain ⟨f1, a1, c1, e1, p1, q1, ha1, hc1⟩ := bo ns (T ++ .lst (ds.map (DF.u f)) :: G) (m := 16) ha hc (by decide) (by decide +kernel)
  obtain ⟨f2, a2, c2, e2, p2, q2, ha2, hc2⟩ := bo ns (T ++ .lst (ds.map (DF.u f)) :: G) (m := 4) ha1 hc1 (by decide) (by decide +kernel)
  have pre : cT bH iD fd fs [some (.ref 1), some (.tup [.int n, .int w]), some (.int room), some (.int t), some (.ref (T.length + 1 + 1)), some (.int left), some u, r7, r8, r9, r10] (scr ns :: pen a c :: (T ++ .lst (ds.map (DF.u f)) :: G))
    = gM bH iD fd fs [some (.ref 1), some (.tup [.int n, .int w]), some (.int room), some (.int t), some (.ref (T.length + 1 + 1)), some (.int left), some u, some (.int f1), some (.int f2), r9, r10] (scr ns :: pen a2 c2 :: (T ++ .lst (ds.map (DF.u f)) :: G)) := by
   rw [Br]
   rwa [e1, e2]
  by_cases hL : 0 < left
  case neg =>
   obtain ⟨ds', ρ, a', c', G', h, kk⟩ := cN ns T (room := room) (t := t) (fd := fd) (fs := fs) Hs Hd n0 n1 w0 w1 rm us (some u) (some (.int f1)) (some (.int f2)) r9 r10 left ds G ha2 hc2 hl hd l0 sz s0
   exact ⟨ds', ρ, a', c', G', (dA trivial rfl (pre.trans (by rwa [gM, hL]))).trans h, kk⟩
  by_cases hN : (ds.length : Int) < 12
  case neg =>
   obtain ⟨ds', ρ, a', c', G', h, kk⟩ := cN ns T (room := room) (t := t) (fd := fd) (fs := fs) Hs Hd n0 n1 w0 w1 rm us (some u) (some (.int f1)) (some (.int f2)) r9 r10 left ds G ha2 hc2 hl hd l0 sz s0
   exact ⟨ds', ρ, a', c', G', (dA trivial rfl (pre.trans (by rwa [gM, hL, hN, List.length_map]))).trans h, kk⟩
  have hlm : (ds.map (DF.u f)).length < LIM := by unfold LIM; simp; omega
  have okd : ∀ {ds : List (DF α)} {d : DF α}, (∀ d ∈ ds, d.ok n w k) → d.ok n w k → ∀ x ∈ ds ++ [d], x.ok n w k := fun h1 h2 x hx => by
   rcases List.mem_append.mp hx with z | z
   ·exact h1 x z
   ·simp at z; subst z; exact h2
  have s1 : ∀ (x : List (DF α)) (d : qG), szF s (x ++ [.pl d]) = szF s x + 1 := fun x d => by rw [mn]; simp [szF]
  by_cases hW : f1 < 13
  ·obtain ⟨d, a3, c3, G3, e3, od, ha3, hc3⟩ := vw ns (T ++ .lst (ds.map (DF.u f)) :: G) ha2 hc2 n0 n1 w0 w1 p1 p2 q2
   obtain ⟨ds', ρ, a', c', G', h, kk⟩ := cN ns T (room := room) (t := t) (fd := fd) (fs := fs) Hs Hd n0 n1 w0 w1 rm us (some u) (some (.int f1)) (some (.int f2)) r9 r10 (left - 1) (ds ++ [.pl d]) (G ++ G3) ha3 hc3 (by simp; omega) (okd hd (show DF.ok n w k (.pl d) from od)) (by omega) (by rw [s1]; omega) (by rw [s1]; omega)
   simp only [List.map_append, List.map_cons, List.map_nil, DF.u] at h
   exact ⟨ds', ρ, a', c', G', (dA trivial rfl (pre.trans (by rwa [gM, e3, hL, hN, hW, jv hlm, List.length_map]))).trans h, kk⟩
  ·have wt : DF.u f (.pl .wait) = U.tup [.str "wait"] := rfl
   obtain ⟨bE, hE⟩ : ∃ b, decide (f1 = 13) = b := ⟨_, rfl⟩
   obtain ⟨bT, hT⟩ : ∃ b, decide (t = 0) = b := ⟨_, rfl⟩
   by_cases hX : bE = false ∧ bT = false
   ·obtain ⟨rfl, rfl⟩ := hX
    have tz : t ≠ 0 := of_decide_eq_false hT
    obtain ⟨f3, a3, c3, e3, p3, q3, ha3, hc3⟩ := bo ns (T ++ .lst (ds.map (DF.u f)) :: G) (m := left) ha2 hc2 hL (l9 (by omega) (by omega))
    obtain ⟨A, a4, c4, G4, e4, kA, sA, sA0, ha4, hc4, _⟩ := Hd tz ns (T ++ .lst (ds.map (DF.u f)) :: G) a3 c3 f3 ha3 hc3 p3 (by omega)
    obtain ⟨f5, a5, c5, e5, p5, q5, ha5, hc5⟩ := bo ns (T ++ .lst (ds.map (DF.u f)) :: (G ++ G4)) (m := left - 1 - s A + 1) ha4 hc4 (by omega) (l9 (by omega) (by omega))
    obtain ⟨B, a6, c6, G6, e6, kB, sB, sB0, ha6, hc6, _⟩ := Hd tz ns (T ++ .lst (ds.map (DF.u f)) :: (G ++ G4)) a5 c5 f5 ha5 hc5 p5 (by omega)
    have s2 : szF s (ds ++ [.tr A B]) = szF s ds + 1 + s A + s B := by rw [mn]; simp only [szF]; omega
    obtain ⟨ds', ρ, a', c', G', h, kk⟩ := cN ns T (room := room) (t := t) (fd := fd) (fs := fs) Hs Hd n0 n1 w0 w1 rm us (some u) (some (.int f1)) (some (.int f2)) (some (.tup (A.map f))) (some (.tup (B.map f))) (left - 1 - s A - s B) (ds ++ [.tr A B]) (G ++ (G4 ++ G6)) ha6 hc6 (by simp; omega) (okd hd (show DF.ok n w k (.tr A B) from ⟨kA, kB⟩)) (by omega) (by rw [s2]; omega) (by rw [s2]; omega)
    simp only [List.map_append, List.map_cons, List.map_nil, DF.u] at h
    simp only [List.append_assoc, List.cons_append] at e4 e6
    exact ⟨ds', ρ, a', c', G', (dA trivial rfl (pre.trans (by rwa [gM, e3, e4, e5, e6, Hs A _ kA, Hs B _ kB, hL, hN, hW, hE, hT, jv hlm, List.length_map]))).trans h, kk⟩
   have hO : (bE || bT) = true := by cases bE <;> cases bT <;> simp_all
   have hC : ∀ S' : Sto, (cOr (aE (cOp fEq (ak 7) (cC (.int 13)))) (aE (cOp fEq (ak 3) (cC (.int 0))))) [some (.ref 1), some (.tup [.int n, .int w]), some (.int room), some (.int t), some (.ref (T.length + 1 + 1)), some (.int left), some u, some (.int f1), some (.int f2), r9, r10] S' = some (true, S') := fun S' => by
    cases bE <;> cases bT <;> first | (exact absurd hO (by decide)) | rwa [hE, hT]
   by_cases hM : 1 < left
   case neg =>
    obtain ⟨ds', ρ, a', c', G', h, kk⟩ := cN ns T (room := room) (t := t) (fd := fd) (fs := fs) Hs Hd n0 n1 w0 w1 rm us (some u) (some (.int f1)) (some (.int f2)) r9 r10 (left - 1) (ds ++ [.pl .wait]) G ha2 hc2 (by simp; omega) (okd hd (show DF.ok n w k (.pl .wait) from trivial)) (by omega) (by rw [s1]; omega) (by rw [s1]; omega)
    simp only [List.map_append, List.map_cons, List.map_nil] at h
    refine ⟨ds', ρ, a', c', G', (dA trivial rfl ?_).trans h, kk⟩
    refine pre.trans ?_
    rwa [gM, hC, hL, hN, hW, hM, wt, jv hlm, List.length_map]
   by_cases hK : (ds.length : Int) < 11
   case neg =>
    obtain ⟨ds', ρ, a', c', G', h, kk⟩ := cN ns T (room := room) (t := t) (fd := fd) (fs := fs) Hs Hd n0 n1 w0 w1 rm us (some u) (some (.int f1)) (some (.int f2)) r9 r10 (left - 1) (ds ++ [.pl .wait]) G ha2 hc2 (by simp; omega) (okd hd (show DF.ok n w k (.pl .wait) from trivial)) (by omega) (by rw [s1]; omega) (by rw [s1]; omega)
    simp only [List.map_append, List.map_cons, List.map_nil] at h
    refine ⟨ds', ρ, a', c', G', (dA trivial rfl ?_).trans h, kk⟩
    refine pre.trans ?_
    rwa [gM, hC, hL, hN, hW, hM, hK, wt, jv hlm, List.length_map]
   obtain ⟨f3, a3, c3, e3, p3, q3, ha3, hc3⟩ := bo ns (T ++ .lst (ds.map (DF.u f)) :: G) (m := 4) ha2 hc2 (by decide) (by decide +kernel)
   by_cases hZ : 0 < f3
   ·have lp : DF.u f (.pl (.leap f2 1)) = U.tup [.str "leap", .int f2, .int 1] := rfl
    have hlm2 : (ds.map (DF.u f) ++ [U.tup [.str "leap", .int f2, .int 1]]).length < LIM := by unfold LIM; simp; omega
    obtain ⟨ds', ρ, a', c', G', h, kk⟩ := cN ns T (room := room) (t := t) (fd := fd) (fs := fs) Hs Hd n0 n1 w0 w1 rm us (some u) (some (.int f1)) (some (.int f2)) r9 r10 (left - 1 - 1) (ds ++ [.pl (.leap f2 1)] ++ [.pl .wait]) G ha3 hc3 (by simp; omega) (okd (okd hd (show DF.ok n w k (.pl (.leap f2 1)) from ⟨p2, q2, by omega, by omega⟩)) (show DF.ok n w k (.pl .wait) from trivial)) (by omega) (by rw [s1, s1]; omega) (by rw [s1, s1]; omega)
    simp only [List.map_append, List.map_cons, List.map_nil] at h
    refine ⟨ds', ρ, a', c', G', (dA trivial rfl ?_).trans h, kk⟩
    refine pre.trans ?_
    rwa [gM, hC, e3, hL, hN, hW, hM, hK, hZ, lp, wt, jv hlm, jv hlm2, List.length_map]
   ·obtain ⟨ds', ρ, a', c', G', h, kk⟩ := cN ns T (room := room) (t := t) (fd := fd) (fs := fs) Hs Hd n0 n1 w0 w1 rm us (some u) (some (.int f1)) (some (.int f2)) r9 r10 (left - 1) (ds ++ [.pl .wait]) G ha3 hc3 (by simp; omega) (okd hd (show DF.ok n w k (.pl .wait) from trivial)) (by omega) (by rw [s1]; omega) (by rw [s1]; omega)
    simp only [List.map_append, List.map_cons, List.map_nil] at h
    refine ⟨ds', ρ, a', c', G', (dA trivial rfl ?_).trans h, kk⟩
    refine pre.trans ?_
    rwa [gM, hC, e3, hL, hN, hW, hM, hK, hZ, wt, jv hlm, List.length_map]
theorem jo {n w t : Int} {fd fs : Fn} (Hs : HsT fs f k s) (Hd : t ≠ 0 → HdT n w (t - 1) fd f k s) (n0 : 1 ≤ n) (n1 : n ≤ 6) (w0 : 2 ≤ w) (w1 : w ≤ 1000) : HdT n w t (qD fd fs) (DF.u f) (fun ds => ds.length ≤ 30 ∧ ∀ d ∈ ds, DF.ok n w k d) (szF s) := by
 intro ns T a c room ha hc r0 r1
 unfold qD
 rw [lH]
 have hm : DJ [.int 12, .int room] = fun S => some (.int (if room < 12 then room else 12), S) := rfl
 have hk : 0 ≤ (if room < 12 then room else 12) ∧ (if room < 12 then room else 12) ≤ 12 := by split <;> omega
 generalize (if room < 12 then room else 12) = mm at hm hk
 obtain ⟨f1, a1, c1, e1, p1, q1, ha1, hc1⟩ := bo ns (T ++ [.lst []]) (m := mm + 1) ha hc (by omega) (l9 (by omega) (by omega))
 obtain ⟨ds, ρ, a', c', G, h, k1, k2, k3, k4, k5, k6⟩ := cN ns T (room := room) (t := t) (fd := fd) (fs := fs) Hs Hd n0 n1 w0 w1 r1 (eF 0 f1.toNat) none none none none none room [] [] ha1 hc1 (by simp) (by simp) r0 (by simp [szF]) (by simp [szF])
 refine ⟨ds, a', c', .lst (ds.map (DF.u f)) :: G, ?_, ⟨by omega, k2⟩, k3, k4, k5, k6, k1⟩
 have hr : -(2 ^ 62) ≤ f1 ∧ f1 < 2 ^ 62 := by omega
 simp only [List.map_nil] at h
 rwa [cQ, nS, eI, hm, e1, hr, h, if_true, and_self]
end
noncomputable def og : Nat → Fn
 | 0 => qD (fun _ _ => none) fun _ _ => none
 | j + 1 => qD (og j) (nY j)
theorem CQ {us : List U} {k : Nat} {S : Sto} (h : k < us.length) : fSl (.tup us) none (some (k : Int)) S = some (.tup (us.take k), S) := by
 have e : HT.sIx us.length us.length (some (k : Int)) = k := by rw [HT.sIx_nat]; omega
 simp only [fSl, HT.sIx_none, e, yL, List.drop_zero, Nat.sub_zero]
 rw [if_neg (by omega)]
theorem oA {us : List U} {k : Nat} {S : Sto} (h0 : 0 < k) (h : k ≤ us.length) : fSl (.tup us) (some (k : Int)) none S = some (.tup (us.drop k), S) := by
 have e : HT.sIx us.length 0 (some (k : Int)) = k := by rw [HT.sIx_nat]; omega
 simp only [fSl, HT.sIx_none, e, yL]
 rw [if_neg (by omega), List.take_of_length_le (by simp)]
theorem so {c : CE} {ρ : Rho} {S S' : Sto} {i : Int} (h : c ρ S = some (.int i, S')) : mO (some c) ρ S = some (some i, S') := by simp only [mO, h, Option.bind_some]
theorem gm {us vs : List U} {S : Sto} (h : us.length + vs.length ≤ 100) : bJ (.tup us) (.tup vs) S = some (.tup (us ++ vs), S) := by
 unfold bJ
 first | rfl | (simp only; rw [if_pos (by unfold LIM; omega)]) | simp_all
inductive Ev where
 | beg (a : Int) | look (a b x : Int) | put (a b x : Int) | fin (d : Bool) (a : Int)
structure Att where
 en : Option Bool
 lk : List (Int × Int)
 nd : List (Int × Int)
 ps : List (Int × Int)
 bf : List Int
noncomputable abbrev St := List (Int × Att)
structure Go where
 a : Int
 seen : List Int
 r : Nat
section
variable {c : Cl} {B : Nat} {E L N P F E' : List (Key × U)} {X Y S : Sto} {k : Nat} {o : O}
noncomputable def hd (c : Cl) (B : Nat) (E L N P F : List (Key × U)) : Sto := [.ins c [some (.ref (B + 1)), some (.ref (B + 2)), some (.ref (B + 3)), some (.ref (B + 4)), some (.ref (B + 5))], .dic E, .dic L, .dic N, .dic P, .dic F]
theorem hd0 : (S ++ (hd c B E L N P F ++ X))[S.length]? = some (.ins c [some (.ref (B + 1)), some (.ref (B + 2)), some (.ref (B + 3)), some (.ref (B + 4)), some (.ref (B + 5))]) := by rw [ga0]; rfl
theorem hd1 : (S ++ (hd c B E L N P F ++ X))[S.length + 1]? = some (.dic E) := by rw [ga]; rfl
theorem hd2 : (S ++ (hd c B E L N P F ++ X))[S.length + 2]? = some (.dic L) := by rw [ga]; rfl
theorem hd3 : (S ++ (hd c B E L N P F ++ X))[S.length + 3]? = some (.dic N) := by rw [ga]; rfl
theorem hd4 : (S ++ (hd c B E L N P F ++ X))[S.length + 4]? = some (.dic P) := by rw [ga]; rfl
theorem hd5 : (S ++ (hd c B E L N P F ++ X))[S.length + 5]? = some (.dic F) := by rw [ga]; rfl
theorem hs2 : (S ++ (hd c B E L N P F ++ X)).set (S.length + 2) (.dic E') = S ++ (hd c B E E' N P F ++ X) := by rw [gs]; rfl
theorem hs3 : (S ++ (hd c B E L N P F ++ X)).set (S.length + 3) (.dic E') = S ++ (hd c B E L E' P F ++ X) := by rw [gs]; rfl
theorem fS : (S ++ (hd c B E L N P F ++ X)).length = S.length + (6 + X.length) := by simp [hd]; omega
end
section
variable {c : Cl} {S : Sto} {s1 s2 st : St} {a : Int} {t t' : Att}
noncomputable def hc (c : Cl) (S : Sto) (E L N P F : List (Key × U)) (X : Sto) : Sto := S ++ (hd c S.length E L N P F ++ X)
section
variable {E L N P F E' : List (Key × U)} {X Y : Sto}
theorem hc0 : (hc c S E L N P F X)[S.length]? = some (.ins c [some (.ref (S.length + 1)), some (.ref (S.length + 2)), some (.ref (S.length + 3)), some (.ref (S.length + 4)), some (.ref (S.length + 5))]) := hd0
theorem hc1 : (hc c S E L N P F X)[S.length + 1]? = some (.dic E) := hd1
theorem hc2 : (hc c S E L N P F X)[S.length + 2]? = some (.dic L) := hd2
theorem hc3 : (hc c S E L N P F X)[S.length + 3]? = some (.dic N) := hd3
theorem hc4 : (hc c S E L N P F X)[S.length + 4]? = some (.dic P) := hd4
theorem hc5 : (hc c S E L N P F X)[S.length + 5]? = some (.dic F) := hd5
theorem hcl : (hc c S E L N P F X).length = S.length + (6 + X.length) := fS
end
end
theorem gI {α : Type} {ok : Sto → Prop} {gg : CG} {ce : CE} {S : Sto} {f : α → U} {v : α → U} {Rel : Rho → Prop} (hok : ∀ ys G, ok (S ++ (.lst ys :: G))) :
  ∀ (xs : List α) (ys : List U) (G : Sto) (ρ : Rho), Rel ρ → ys.length + xs.length ≤ 9999 →
  (∀ x ∈ xs, ∀ ys G ρ, Rel ρ → ∃ ρ0 G1, Rel ρ0 ∧ gg (f x) ρ (S ++ (.lst ys :: G)) = some (ρ0, S ++ (.lst ys :: G)) ∧ ce ρ0 (S ++ (.lst ys :: G)) = some (v x, S ++ (.lst ys :: (G ++ G1)))) →
  ∃ G', jg ok gg ce S.length (xs.map f) ρ (S ++ (.lst ys :: G)) = some (S ++ (.lst (ys ++ xs.map v) :: (G ++ G')))
 | [], ys, G, ρ, _, _, _ => ⟨[], by simp only [List.map_nil, List.append_nil]; exact v7 (hok ys G)⟩
 | x :: xs, ys, G, ρ, hr, hl, hb => by
  rw [List.length_cons] at hl
  obtain ⟨ρ0, G1, r0, h1, h2⟩ := hb x List.mem_cons_self ys G ρ hr
  obtain ⟨G', h⟩ := gI hok xs (ys ++ [v x]) (G ++ G1) ρ0 r0 (by simp; omega) (fun x hx => hb x (List.mem_cons_of_mem _ hx))
  refine ⟨G1 ++ G', ?_⟩
  rw [List.map_cons]
  refine (ud (hok ys G) h1 h2 (by rw [ga0]; rfl) (by unfold LIM; omega)).trans ?_
  rw [gs0]
  simp only [List.set_cons_zero]
  rw [h]
  simp only [List.map_cons, List.append_assoc, List.cons_append, List.nil_append]
theorem inB (bs : List Bool) : inU (.bl false) (bs.map U.bl) = !bs.all id := by
 unfold inU
 induction bs with
 | nil => rfl
 | cons b r ih => rw [List.map_cons, List.any_cons, ih]; cases b <;> simp [eqF]
section
variable {c cA : Cl} {n w : Int} {S G C : Sto} {st : St} {a : Int} {t : Att} {x : List Int} {every : Bool} {L : Nat}
noncomputable def E8 (st : St) (a : Int) : List Int := match jw st a with
 | some t => t.bf
 | none => []
noncomputable def prA (a : Int) (b : Int) : Int × Int := (b, a)
noncomputable def gA (st : St) (as : List Int) : Sto := as.map fun a => .lst ((E8 st a).map fun b => pP (prA a b))
end
theorem fE {ca cb : CS} {ρ ρ' : Rho} {S S' : Sto} (h : ca ρ S = some (.nx, ρ', S')) : bx ca cb ρ S = cb ρ' S' := by rw [uY, h, Option.bind_some, wB]
noncomputable def OkM (n w : Int) : (j : Nat) → List (Dl j) → Prop
 | 0, ds => ds.length ≤ 12 ∧ ∀ d ∈ ds, DF.ok n w (fun _ => False) d
 | j + 1, ds => ds.length ≤ 12 ∧ ∀ d ∈ ds, DF.ok n w (OkM n w j) d
section
variable {n w : Int}
theorem gy : ∀ J j : Nat, j ≤ J → HsT (nY J) (Dl.u j) (OkM n w j) (lq j)
 | 0, 0, _ => fun a S ka => oB (n := n) (w := w) (k := fun _ => False) (fun _ _ z => z.elim) a S ka.2
 | J + 1, 0, _ => fun a S ka => oB (n := n) (w := w) (k := fun _ => False) (fun _ _ z => z.elim) a S ka.2
 | J + 1, j + 1, h => fun a S ka => oB (n := n) (w := w) (gy J j (by omega)) a S ka.2
theorem HdT.twelve {α : Type} {t : Int} {fd : Fn} {f : α → U} {q : α → Prop} {s : List α → Int} (h : HdT n w t fd f (fun ds => ds.length ≤ 30 ∧ ∀ d ∈ ds, q d) s) : HdT n w t fd f (fun ds => ds.length ≤ 12 ∧ ∀ d ∈ ds, q d) s := fun ns T a c room ha hc r0 r1 => by
 obtain ⟨ds, a', c', G, e, k1, k2, k3, k4, k5, k6⟩ := h ns T a c room ha hc r0 r1
 exact ⟨ds, a', c', G, e, ⟨k6, k1.2⟩, k2, k3, k4, k5, k6⟩
theorem qo (n0 : 1 ≤ n) (n1 : n ≤ 6) (w0 : 2 ≤ w) (w1 : w ≤ 1000) : ∀ (J j t : Nat), t ≤ j → j ≤ J → HdT n w t (og J) (Dl.u j) (OkM n w j) (lq j)
 | 0, 0, 0, _, _ => (jo (k := fun _ => False) (fun _ _ z => z.elim) (fun z => absurd rfl z) n0 n1 w0 w1).twelve
 | J + 1, 0, 0, _, _ => (jo (k := fun _ => False) (fun _ _ z => z.elim) (fun z => absurd rfl z) n0 n1 w0 w1).twelve
 | J + 1, j + 1, 0, _, h => (jo (gy J j (by omega)) (fun z => absurd rfl z) n0 n1 w0 w1).twelve
 | J + 1, j + 1, t + 1, h, h' => (jo (gy J j (by omega)) (fun _ => by
   have e : ((t + 1 : Nat) : Int) - 1 = (t : Int) := by omega
   rw [e]; exact qo n0 n1 w0 w1 J j t (by omega) (by omega)) n0 n1 w0 w1).twelve
end
inductive Gd (S : Sto) : U → Prop
 | non : Gd S .non
 | bl (b : Bool) : Gd S (.bl b)
 | int (i : Int) : Gd S (.int i)
 | str (x : Str) : Gd S (.str x)
 | lst {l : Nat} {us : List U} (h : S[l]? = some (.lst us)) : Gd S (.ref l)
 | tup {us : List U} (h : ∀ u ∈ us, Gd S u) : Gd S (.tup us)
theorem Gd.app {S : Sto} {u : U} (h : Gd S u) (X : Sto) : Gd (S ++ X) u := by
 induction h with
 | non => exact .non
 | bl b => exact .bl b
 | int i => exact .int i
 | str x => exact .str x
 | lst h => exact .lst (mI h)
 | tup _ ih => exact .tup ih
theorem Gd.mem {S : Sto} {us : List U} (h : Gd S (.tup us)) : ∀ u ∈ us, Gd S u := by
 cases h with
 | tup h => exact h
noncomputable def cG (lo hi : Int) : U → Bool
 | .int i => decide (lo ≤ i) && decide (i ≤ hi)
 | _ => false
noncomputable def fg (n w : Int) (s : Str) : Option (List (Int × Int)) :=
 if s = Str.ofString "look" then some [(0, 3), (0, n - 1)] else if s = Str.ofString "put" then some [(0, n - 1), (0, 3)] else if s = Str.ofString "set" then some [(0, 3), (0, w - 1)] else if s = Str.ofString "plus" then some [(0, 3), (0, 3)] else if s = Str.ofString "leap" then some [(0, 3), (1, 12)] else if s = Str.ofString "wait" then some [] else none
noncomputable def uO (bs : List (Int × Int)) (r : List U) : Bool := (r.zip bs).all fun p => cG p.2.1 p.2.2 p.1
noncomputable def rE (rec : U → Bool) (t : Nat) : List U → Bool
 | [a, b] => decide (0 < t) && (rec a && rec b)
 | _ => false
noncomputable def eN (n w : Int) (rec : U → Bool) (t : Nat) : U → Bool
 | .tup (.str s :: r) => if s = Str.ofString "try" then rE rec t r else match fg n w s with
  | some bs => decide (r.length = bs.length) && uO bs r
  | none => false
 | _ => false
noncomputable def rF (d : U → Bool) : U → Bool
 | .tup us => decide (us.length ≤ 12) && us.all d
 | _ => false
noncomputable def yQ (n w : Int) : Nat → U → Bool
 | 0 => rF (eN n w (fun _ => false) 0)
 | t + 1 => rF (eN n w (yQ n w t) (t + 1))
section
variable {n w lo hi : Int} {S : Sto} {u : U} {us r : List U} {t : Nat}
noncomputable def mS : Fn := fnU 1 1 fw
noncomputable def isI : U → Bool
 | .int _ => true
 | _ => false
theorem rZ (h : Gd S u) : mS [u] S = some (.bl (isI u), S) := by
 unfold mS
 rw [qY]
 cases h with
 | non => rfl
 | bl b => rfl
 | int i => rfl
 | str x => rfl
 | tup _ => rfl
 | lst h => rwa [fw, tyU, h, oy, isI]
noncomputable def h8 : Fn := fnU 3 3 (b5 mS)
theorem qp {ρ : Rho} {c1 c2 c3 : CE} {i : Int} (h1 : c1 ρ S = some (.int lo, S)) (h2 : c2 ρ S = some (.int i, S)) (h3 : c3 ρ S = some (.int hi, S)) : ma fLe fLe c1 c2 c3 ρ S = some (.bl (decide (lo ≤ i) && decide (i ≤ hi)), S) := by
 unfold ma
 rw [h1, Option.bind_some]
 dsimp only
 rw [h2, Option.bind_some]
 dsimp only
 rw [Ca, Option.bind_some]
 cases hd : decide (lo ≤ i) with
 | true =>
  dsimp only
  rw [h3, Option.bind_some, Ca, Bool.true_and]
 | false => rfl
theorem rY (h : Gd S u) : h8 [u, .int lo, .int hi] S = some (.bl (cG lo hi u), S) := by
 have e := rZ h
 unfold h8
 rw [oR]
 cases u with
 | int i =>
  have hc := qp (S := S) (lo := lo) (hi := hi) (i := i) (ρ := [some (.int i), some (.int lo), some (.int hi)]) (c1 := ak 1) (c2 := ak 0) (c3 := ak 2) rfl rfl rfl
  simp only [isI] at e
  rwa [b5, e, hc, cG]
 | non => simp only [isI] at e; rwa [b5, e, cG]
 | bl b => simp only [isI] at e; rwa [b5, e, cG]
 | str x => simp only [isI] at e; rwa [b5, e, cG]
 | tup x => simp only [isI] at e; rwa [b5, e, cG]
 | ref x => simp only [isI] at e; rwa [b5, e, cG]
 | kl x => cases h
noncomputable def tJ (y : Str) : U → Bool
 | .str z => decide (z = y)
 | _ => false
theorem nK {y : Str} (h : Gd S u) : rJ u (.str y) S = some (.bl (tJ y u), S) := by
 cases h with
 | lst h => simp only [rJ, h, tJ]
 | _ => rfl
noncomputable def bU (b : Int × Int) : U := .tup [.int b.1, .int b.2]
noncomputable def oZ : Option (List (Int × Int)) → U
 | some bs => .tup (bs.map bU)
 | none => .non
noncomputable def wm (n w : Int) : U → U
 | .str s => oZ (fg n w s)
 | _ => .non
noncomputable def mU : Fn := fnU 3 2 aV
theorem um (h : Gd S u) : mU [.tup [.int n, .int w], u] S = some (wm n w u, S) := by
 have e : ∀ y, rJ u (.str y) S = some (.bl (tJ y u), S) := fun y => nK h
 unfold mU
 rw [oS]
 cases u with
 | str s =>
  simp only [tJ] at e
  show _ = some (oZ (fg n w s), S)
  unfold fg
  by_cases c1 : s = Str.ofString "look"
  ·have d1 : decide (s = Str.ofString "look") = true := decide_eq_true c1
   rw [if_pos c1]
   rwa [aV, e, d1, oZ, bU]
  have d1 : decide (s = Str.ofString "look") = false := decide_eq_false c1
  rw [if_neg c1]
  by_cases c2 : s = Str.ofString "put"
  ·have d2 : decide (s = Str.ofString "put") = true := decide_eq_true c2
   rw [if_pos c2]
   rwa [aV, e, d1, d2, oZ, bU]
  have d2 : decide (s = Str.ofString "put") = false := decide_eq_false c2
  rw [if_neg c2]
  by_cases c3 : s = Str.ofString "set"
  ·have d3 : decide (s = Str.ofString "set") = true := decide_eq_true c3
   rw [if_pos c3]
   rwa [aV, e, d1, d2, d3, oZ, bU]
  have d3 : decide (s = Str.ofString "set") = false := decide_eq_false c3
  rw [if_neg c3]
  by_cases c4 : s = Str.ofString "plus"
  ·have d4 : decide (s = Str.ofString "plus") = true := decide_eq_true c4
   rw [if_pos c4]
   rwa [aV, e, d1, d2, d3, d4, oZ, bU]
  have d4 : decide (s = Str.ofString "plus") = false := decide_eq_false c4
  rw [if_neg c4]
  by_cases c5 : s = Str.ofString "leap"
  ·have d5 : decide (s = Str.ofString "leap") = true := decide_eq_true c5
   rw [if_pos c5]
   rwa [aV, e, d1, d2, d3, d4, d5, oZ, bU]
  have d5 : decide (s = Str.ofString "leap") = false := decide_eq_false c5
  rw [if_neg c5]
  by_cases c6 : s = Str.ofString "wait"
  ·have d6 : decide (s = Str.ofString "wait") = true := decide_eq_true c6
   rw [if_pos c6]
   rwa [aV, e, d1, d2, d3, d4, d5, d6, oZ]
  have d6 : decide (s = Str.ofString "wait") = false := decide_eq_false c6
  rw [if_neg c6]
  rwa [aV, e, d1, d2, d3, d4, d5, d6, oZ]
 | non => simp only [tJ] at e; rwa [aV, e, wm]
 | bl b => simp only [tJ] at e; rwa [aV, e, wm]
 | int b => simp only [tJ] at e; rwa [aV, e, wm]
 | tup b => simp only [tJ] at e; rwa [aV, e, wm]
 | ref b => simp only [tJ] at e; rwa [aV, e, wm]
 | kl b => cases h
theorem mG {i : Nat} {ρ : Rho} (hv : ρ[i]? = some (some u)) (h : Gd S u) (hn : ∀ us, u ≠ .tup us) : aE (nR .tuple (ak i)) ρ S = some (false, S) := by
 have e : ak i ρ S = some (u, S) := by unfold ak; rw [hv]
 rw [pE, uZ, e, Option.bind_some, pG]
 cases h with
 | tup _ => exact absurd rfl (hn _)
 | lst h => simp only [tyU, h, Option.bind_some, oy, oj]
 | _ => rfl
theorem jj {i : Nat} {ρ : Rho} (hv : ρ[i]? = some (some (.tup us))) : aE (nR .tuple (ak i)) ρ S = some (true, S) := by
 have e : ak i ρ S = some (.tup us, S) := by unfold ak; rw [hv]
 rw [pE, uZ, e, Option.bind_some, pG]
 rfl
theorem wZ {bs : List Bool} {l : Nat} (h : S[l]? = some (.lst (bs.map U.bl))) : yT [.ref l] S = some (.bl (bs.all id), S) := by
 simp only [yT, h, qv, Option.bind_some]
noncomputable def HaT (fa : Fn) (wu : U) (t : Nat) (q : U → Bool) : Prop := ∀ (u : U) (S : Sto), Gd S u → ∃ G, fa [wu, u, .int t] S = some (.bl (q u), S ++ G)
noncomputable def mT (fd : Fn) : Fn := fnU 3 3 (fN fd)
theorem mF {fd : Fn} {wu : U} {d : U → Bool} (Hd : HaT fd wu t d) : HaT (mT fd) wu t (rF d) := fun u S h => by
 unfold mT
 rw [vX]
 by_cases hu : ∃ us, u = .tup us
 ·obtain ⟨us, rfl⟩ := hu
  have e1 := jj (i := 1) (S := S) (us := us) (ρ := [some wu, some (.tup us), some (.int t)]) rfl
  by_cases hl : us.length ≤ 12
  ·have d1 : decide ((us.length : Int) > 12) = false := decide_eq_false (by omega)
   obtain ⟨G', ec⟩ := gI (S := S) (ok := fun _ => True) (gg := gNm 0) (ce := cCB fd (ab (ak 1) (ab (ak 0) (ab (ak 2) aq)))) (f := fun u : U => u) (v := fun u => .bl (d u)) (Rel := fun ρ => ∃ r0, ρ = [r0, some wu, some (.int t)]) (fun _ _ => trivial) us [] [] [none, some wu, some (.int t)] ⟨_, rfl⟩ (by simp; omega) (fun x hx ys G ρ hρ => by
    obtain ⟨r0, rfl⟩ := hρ
    obtain ⟨G1, e⟩ := Hd x (S ++ (.lst ys :: G)) ((h.mem x hx).app _)
    rw [List.append_assoc, List.cons_append] at e
    refine ⟨[some x, some wu, some (.int t)], G1, ⟨_, rfl⟩, rfl, ?_⟩
    rwa [e])
   simp only [List.nil_append, List.map_id'] at ec
   have em : (us.map fun u => U.bl (d u)) = (us.map d).map U.bl := by rw [List.map_map]; rfl
   rw [em] at ec
   have hcomp : fW (iTp (ak 1)) (gNm 0) (cCB fd (ab (ak 1) (ab (ak 0) (ab (ak 2) aq)))) 1 [0, 2] [some wu, some (.tup us), some (.int t)] S = some (.ref S.length, S ++ (.lst ((us.map d).map U.bl) :: G')) := by
    have hv : ak 1 [some wu, some (.tup us), some (.int t)] S = some (.tup us, S) := rfl
    unfold fW iTp
    rw [hv, Option.bind_some]
    simp only [Option.bind_some, rG, List.replicate, List.map_cons, List.map_nil, List.getElem?_cons_zero, List.getElem?_cons_succ, Option.getD_some, List.cons_append, List.nil_append, ec]
   have ha := wZ (S := S ++ (.lst ((us.map d).map U.bl) :: G')) (bs := us.map d) (l := S.length) (by rw [ga0]; rfl)
   refine ⟨.lst ((us.map d).map U.bl) :: G', ?_⟩
   have er : rF d (.tup us) = (us.map d).all id := by show (decide (us.length ≤ 12) && us.all d) = _; rw [decide_eq_true hl, Bool.true_and, List.all_map]; rfl
   rw [er]
   rwa [fN, e1, d1, hcomp, ha]
  ·have d1 : decide ((us.length : Int) > 12) = true := decide_eq_true (by omega)
   refine ⟨[], ?_⟩
   have er : rF d (.tup us) = false := by show (decide (us.length ≤ 12) && us.all d) = _; rw [decide_eq_false hl, Bool.false_and]
   rw [er, List.append_nil]
   rwa [fN, e1, d1]
 ·have e1 := mG (i := 1) (S := S) (u := u) (ρ := [some wu, some u, some (.int t)]) rfl h fun us z => hu ⟨us, z⟩
  refine ⟨[], ?_⟩
  have er : rF d u = false := by
   cases u with
   | tup us => exact absurd ⟨us, rfl⟩ hu
   | _ => rfl
  rw [er, List.append_nil]
  rwa [fN, e1]
end
section
variable {n w lo hi : Int} {S : Sto} {u x : U} {us r : List U} {t : Nat} {wu : U} {rec : U → Bool}
noncomputable def eB (fr : Fn) : Fn := fnU 3 3 (eY fr)
theorem sf (h : r.length ≠ 2) : rE rec t r = false := by
 match r, h with
 | [], _ => rfl
 | [_], _ => rfl
 | _ :: _ :: _ :: _, _ => rfl
theorem mE {fr : Fn} (Hr : ∀ s, t = s + 1 → HaT fr wu s rec) (h : Gd S (.tup (x :: r))) : ∃ G, eB fr [wu, .tup (x :: r), .int t] S = some (.bl (rE rec t r), S ++ G) := by
 unfold eB
 rw [vW]
 by_cases hl : r.length = 2
 ·match r, hl with
  | [a, b], _ =>
   cases t with
   | zero =>
    refine ⟨[], ?_⟩
    rw [List.append_nil]
    have er : rE rec 0 [a, b] = false := rfl
    rw [er]
    rwa [eY, Int.natCast_zero]
    rfl
   | succ s =>
    have d1 : decide (((s + 1 : Nat) : Int) = 0) = false := decide_eq_false (by omega)
    have es : ((s + 1 : Nat) : Int) - 1 = (s : Int) := by omega
    obtain ⟨G1, e1⟩ := Hr s rfl a S (h.mem a (by simp))
    have er : rE rec (s + 1) [a, b] = (rec a && rec b) := by show (decide (0 < s + 1) && (rec a && rec b)) = _; rw [decide_eq_true (by omega), Bool.true_and]
    rw [er]
    have l3 : decide (((0 + 1 + 1 + 1 : Nat) : Int) = 3) = true := rfl
    cases ha : rec a with
    | false =>
     rw [ha] at e1
     refine ⟨G1, ?_⟩
     rwa [eY, l3, d1, es, e1, Bool.false_and]
    | true =>
     rw [ha] at e1
     obtain ⟨G2, e2⟩ := Hr s rfl b (S ++ G1) ((h.mem b (by simp)).app _)
     rw [List.append_assoc] at e2
     refine ⟨G1 ++ G2, ?_⟩
     rwa [eY, l3, d1, es, e1, e2, Bool.true_and]
 ·refine ⟨[], ?_⟩
  rw [List.append_nil, sf hl]
  have d1 : decide (((r.length + 1 : Nat) : Int) = 3) = false := decide_eq_false (by omega)
  rwa [eY, d1]
theorem E6 : fSl (.tup (x :: r)) (some 1) none S = some (.tup r, S) := oA (us := x :: r) (k := 1) (by omega) (by simp)
noncomputable def eZ (ft : Fn) : Fn := fnU 4 3 (cP ft mU h8)
theorem jn (h : wm n w x = .non) (hn : tJ (Str.ofString "try") x = false) : eN n w rec t (.tup (x :: r)) = false := by
 cases x with
 | str s =>
  have c1 : ¬ s = Str.ofString "try" := of_decide_eq_false hn
  have h' : oZ (fg n w s) = .non := h
  show (if s = Str.ofString "try" then rE rec t r else match fg n w s with
   | some bs => decide (r.length = bs.length) && uO bs r
   | none => false) = false
  rw [if_neg c1]
  cases hb : fg n w s with
  | none => rfl
  | some bs => rw [hb] at h'; cases h'
 | _ => rfl
theorem bO {s : Str} {bs : List (Int × Int)} (h : fg n w s = some bs) (hn : ¬ s = Str.ofString "try") : eN n w rec t (.tup (.str s :: r)) = (decide (r.length = bs.length) && uO bs r) := by
 show (if s = Str.ofString "try" then rE rec t r else match fg n w s with
   | some bs => decide (r.length = bs.length) && uO bs r
   | none => false) = _
 rw [if_neg hn, h]
theorem hR : eN n w rec t (.tup (.str "try" :: r)) = rE rec t r := by
 show (if Str.ofString "try" = Str.ofString "try" then rE rec t r else match fg n w (Str.ofString "try") with
   | some bs => decide (r.length = bs.length) && uO bs r
   | none => false) = _
 rw [if_pos rfl]
theorem kq {ft : Fn} (Ht : ∀ (r : List U) (S : Sto), Gd S (.tup (.str "try" :: r)) → ∃ G, ft [.tup [.int n, .int w], .tup (.str "try" :: r), .int t] S = some (.bl (rE rec t r), S ++ G)) : HaT (eZ ft) (.tup [.int n, .int w]) t (eN n w rec t) := fun u S h => by
 unfold eZ
 rw [tV]
 by_cases hu : ∃ us, u = .tup us
 ·obtain ⟨us, rfl⟩ := hu
  have e1 := jj (i := 1) (S := S) (us := us) (ρ := [some (.tup [.int n, .int w]), some (.tup us), some (.int t), none]) rfl
  cases us with
  | nil =>
   refine ⟨[], ?_⟩
   have er : eN n w rec t (.tup []) = false := rfl
   rw [er, List.append_nil]
   rwa [cP, e1]
   rfl
  | cons x r =>
   have gx : Gd S x := h.mem x List.mem_cons_self
   have d0 : decide (((r.length + 1 : Nat) : Int) = 0) = false := decide_eq_false (by omega)
   have eq := nK (y := "try") gx
   cases hx : tJ (Str.ofString "try") x with
   | true =>
    have hs : x = .str "try" := by
     cases x with
     | str s => rw [of_decide_eq_true hx]
     | _ => cases hx
    subst hs
    obtain ⟨G, et⟩ := Ht r S h
    refine ⟨G, ?_⟩
    rw [hx] at eq
    rw [hR]
    rwa [cP, e1, d0, eq, et]
   | false =>
    rw [hx] at eq
    have eb := um (n := n) (w := w) gx
    cases hb : wm n w x with
    | non =>
     rw [hb] at eb
     refine ⟨[], ?_⟩
     rw [List.append_nil, jn hb hx]
     have zn : Bh .non .non S = some (.bl true, S) := rfl
     rwa [cP, e1, d0, eq, eb, zn]
    | tup bu =>
     obtain ⟨s, bs, rfl, hw, hbu⟩ : ∃ s bs, x = .str s ∧ fg n w s = some bs ∧ bu = bs.map bU := by
      cases x with
      | str s =>
       have hb' : oZ (fg n w s) = .tup bu := hb
       cases hw : fg n w s with
       | none => rw [hw] at hb'; cases hb'
       | some bs => rw [hw] at hb'; injection hb' with hb'; exact ⟨s, bs, rfl, hw, hb'.symm⟩
      | _ => cases hb
     have c1 : ¬ s = Str.ofString "try" := of_decide_eq_false hx
     rw [hb] at eb
     have zn : Bh (.tup bu) .non S = some (.bl false, S) := rfl
     have lb : bu.length = bs.length := by rw [hbu, List.length_map]
     rw [bO hw c1]
     by_cases hl : r.length = bs.length
     ·have d1 : decide (((r.length + 1 : Nat) : Int) = 1 + (bu.length : Int)) = true := decide_eq_true (by omega)
      have hbs : bs.length ≤ 2 := by
       unfold fg at hw
       repeat' split at hw
       all_goals first | (cases hw; simp) | cases hw
      obtain ⟨G', ec⟩ := gI (S := S) (ok := fun _ => True ∧ True) (gg := gTp [0, 1]) (ce := cCB h8 (ab (ak 0) (ab (cOp fIx (ak 1) (cC (.int 0))) (ab (cOp fIx (ak 1) (cC (.int 1))) aq)))) (f := fun p : U × (Int × Int) => .tup [p.1, bU p.2]) (v := fun p => .bl (cG p.2.1 p.2.2 p.1)) (Rel := fun ρ => ∃ r0 r1, ρ = [r0, r1]) (fun _ _ => ⟨trivial, trivial⟩) (r.zip bs) [] [] [none, none] ⟨_, _, rfl⟩ (by simp; omega) (fun p hp ys G ρ hρ => by
       obtain ⟨r0, r1, rfl⟩ := hρ
       have gp : Gd (S ++ (.lst ys :: G)) p.1 := (h.mem p.1 (List.mem_cons_of_mem _ (List.of_mem_zip hp).1)).app _
       have ew := rY (lo := p.2.1) (hi := p.2.2) gp
       refine ⟨[some p.1, some (bU p.2)], [], ⟨_, _, rfl⟩, rfl, ?_⟩
       rw [List.append_nil]
       unfold bU
       rwa [ew])
      simp only [List.nil_append] at ec
      have em : ((r.zip bs).map fun p => U.bl (cG p.2.1 p.2.2 p.1)) = ((r.zip bs).map fun p => cG p.2.1 p.2.2 p.1).map U.bl := by rw [List.map_map]; rfl
      have ep : sT r bu = (r.zip bs).map fun p : U × (Int × Int) => .tup [p.1, bU p.2] := by
       unfold sT
       rw [hbu, List.zip_map_right, List.map_map]; rfl
      rw [em, ← ep] at ec
      have hcomp : fW (BJ (cSl (ak 1) (some (cC (.int 1))) none) (ak 3)) (gTp [0, 1]) (cCB h8 (ab (ak 0) (ab (cOp fIx (ak 1) (cC (.int 0))) (ab (cOp fIx (ak 1) (cC (.int 1))) aq)))) 2 [] [some (.tup [.int n, .int w]), some (.tup (.str s :: r)), some (.int t), some (.tup bu)] S = some (.ref S.length, S ++ (.lst (((r.zip bs).map fun p => cG p.2.1 p.2.2 p.1).map U.bl) :: G')) := by
       have hs : cSl (ak 1) (some (cC (.int 1))) none [some (.tup [.int n, .int w]), some (.tup (.str s :: r)), some (.int t), some (.tup bu)] S = some (.tup r, S) := by
        have hv : ak 1 [some (.tup [.int n, .int w]), some (.tup (.str s :: r)), some (.int t), some (.tup bu)] S = some (.tup (.str s :: r), S) := rfl
        simp only [cSl, mO, hv, cC, Option.bind_some, E6]
       have hv3 : ak 3 [some (.tup [.int n, .int w]), some (.tup (.str s :: r)), some (.int t), some (.tup bu)] S = some (.tup bu, S) := rfl
       unfold fW BJ
       rw [hs, Option.bind_some]
       simp only [hv3, yP, Option.bind_some, rG, List.replicate, List.map_nil, List.append_nil, ec]
      have ha := wZ (S := S ++ (.lst (((r.zip bs).map fun p => cG p.2.1 p.2.2 p.1).map U.bl) :: G')) (bs := (r.zip bs).map fun p => cG p.2.1 p.2.2 p.1) (l := S.length) (by rw [ga0]; rfl)
      have er : (decide (r.length = bs.length) && uO bs r) = ((r.zip bs).map fun p => cG p.2.1 p.2.2 p.1).all id := by rw [decide_eq_true hl, Bool.true_and, List.all_map]; rfl
      refine ⟨.lst (((r.zip bs).map fun p => cG p.2.1 p.2.2 p.1).map U.bl) :: G', ?_⟩
      rw [er]
      rwa [cP, e1, d0, eq, eb, zn, d1, hcomp, ha]
     ·have d1 : decide (((r.length + 1 : Nat) : Int) = 1 + (bu.length : Int)) = false := decide_eq_false (by omega)
      refine ⟨[], ?_⟩
      rw [List.append_nil, decide_eq_false hl, Bool.false_and]
      rwa [cP, e1, d0, eq, eb, zn, d1]
    | _ =>
     exfalso
     cases x with
     | str s =>
      have hb' : oZ (fg n w s) = _ := hb
      cases hw : fg n w s with
      | none => rw [hw] at hb'; cases hb'
      | some bs => rw [hw] at hb'; cases hb'
     | _ => cases hb
 ·have e1 := mG (i := 1) (S := S) (u := u) (ρ := [some (.tup [.int n, .int w]), some u, some (.int t), none]) rfl h fun us z => hu ⟨us, z⟩
  refine ⟨[], ?_⟩
  have er : eN n w rec t u = false := by
   cases u with
   | tup us => exact absurd ⟨us, rfl⟩ hu
   | _ => rfl
  rw [er, List.append_nil]
  rwa [cP, e1]
noncomputable def rj : Nat → Fn
 | 0 => mT (eZ (eB fun _ _ => none))
 | t + 1 => mT (eZ (eB (rj t)))
theorem sE : ∀ T t : Nat, t ≤ T → HaT (rj T) (.tup [.int n, .int w]) t (yQ n w t)
 | 0, 0, _ => mF (kq fun r S h => mE (fun s hs => absurd hs (by omega)) h)
 | T + 1, 0, _ => mF (kq fun r S h => mE (fun s hs => absurd hs (by omega)) h)
 | T + 1, t + 1, hT => mF (kq fun r S h => mE (fun s hs => by
   have : s = t := by omega
   subst this
   exact sE T s (by omega)) h)
end
section
variable {n w lo hi : Int} {S : Sto} {u x : U} {us r : List U} {t : Nat} {wu : U} {rec : U → Bool}
noncomputable def iE : Fn := fnU 3 3 b6
theorem mB (h : Gd S u) : iE [u, .int lo, .int hi] S = some (.bl (cG lo hi u), S) := by
 unfold iE
 rw [lF]
 cases u with
 | int i =>
  have hc := qp (S := S) (lo := lo) (hi := hi) (i := i) (ρ := [some (.int i), some (.int lo), some (.int hi)]) (c1 := ak 1) (c2 := ak 0) (c3 := ak 2) rfl rfl rfl
  have t1 : tyU (.int i) S = some .int := rfl
  have s1 : oy .int .int = true := rfl
  have s2 : oy .int .bool = false := rfl
  rwa [b6, t1, s1, s2, hc, cG]
 | bl b =>
  have t1 : tyU (.bl b) S = some .bool := rfl
  have s1 : oy .bool .int = true := rfl
  have s2 : oy .bool .bool = true := rfl
  rwa [b6, t1, s1, s2, cG]
 | non => rfl
 | str x => rfl
 | tup x => rfl
 | ref l =>
  cases h with
  | lst h => rwa [b6, tyU, h, oy, cG]
 | kl x => cases h
noncomputable def qC (fd : Fn) : Fn := fnU 3 3 (dU fd)
theorem oM {fd : Fn} {d : U → Bool} (Hd : HaT fd wu t d) : HaT (qC fd) wu t (rF d) := fun u S h => by
 unfold qC
 rw [rb]
 by_cases hu : ∃ us, u = .tup us
 ·obtain ⟨us, rfl⟩ := hu
  have e1 := jj (i := 1) (S := S) (us := us) (ρ := [some wu, some (.tup us), some (.int t)]) rfl
  by_cases hl : us.length ≤ 12
  ·have d1 : decide ((us.length : Int) > 12) = false := decide_eq_false (by omega)
   obtain ⟨G', ec⟩ := gI (S := S) (ok := fun _ => True) (gg := gNm 0) (ce := cCB fd (ab (ak 1) (ab (ak 0) (ab (ak 2) aq)))) (f := fun u : U => u) (v := fun u => .bl (d u)) (Rel := fun ρ => ∃ r0, ρ = [r0, some wu, some (.int t)]) (fun _ _ => trivial) us [] [] [none, some wu, some (.int t)] ⟨_, rfl⟩ (by simp; omega) (fun x hx ys G ρ hρ => by
    obtain ⟨r0, rfl⟩ := hρ
    obtain ⟨G1, e⟩ := Hd x (S ++ (.lst ys :: G)) ((h.mem x hx).app _)
    rw [List.append_assoc, List.cons_append] at e
    refine ⟨[some x, some wu, some (.int t)], G1, ⟨_, rfl⟩, rfl, ?_⟩
    rwa [e])
   simp only [List.nil_append, List.map_id'] at ec
   have em : (us.map fun u => U.bl (d u)) = (us.map d).map U.bl := by rw [List.map_map]; rfl
   rw [em] at ec
   have hcomp : fW (iTp (ak 1)) (gNm 0) (cCB fd (ab (ak 1) (ab (ak 0) (ab (ak 2) aq)))) 1 [0, 2] [some wu, some (.tup us), some (.int t)] S = some (.ref S.length, S ++ (.lst ((us.map d).map U.bl) :: G')) := by
    have hv : ak 1 [some wu, some (.tup us), some (.int t)] S = some (.tup us, S) := rfl
    unfold fW iTp
    rw [hv, Option.bind_some]
    simp only [Option.bind_some, rG, List.replicate, List.map_cons, List.map_nil, List.getElem?_cons_zero, List.getElem?_cons_succ, Option.getD_some, List.cons_append, List.nil_append, ec]
   obtain ⟨bs, hbs⟩ : ∃ bs, bs = us.map d := ⟨_, rfl⟩
   rw [← hbs] at hcomp
   have fl : ff (.bl false) = true ∧ (bs.map U.bl).all ff = true := ⟨rfl, by rw [List.all_map]; simp [Function.comp, ff]⟩
   have g0 : (S ++ (O.lst (bs.map U.bl) :: G'))[S.length]? = some (.lst (bs.map U.bl)) := by rw [ga0]; rfl
   have hin := inB bs
   refine ⟨.lst (bs.map U.bl) :: G', ?_⟩
   have er : rF d (.tup us) = bs.all id := by show (decide (us.length ≤ 12) && us.all d) = _; rw [decide_eq_true hl, Bool.true_and, hbs, List.all_map]; rfl
   rw [er]
   obtain ⟨vs, hvs⟩ : ∃ vs, vs = bs.map U.bl := ⟨_, rfl⟩
   rw [← hvs] at hcomp fl g0 hin ⊢
   have e2 : fIn true (.bl false) (.ref S.length) (S ++ (.lst vs :: G')) = some (.bl (bs.all id), S ++ (.lst vs :: G')) := by
    rw [zt, g0, Cd fl, hin, if_pos rfl, Bool.not_not]
   rwa [dU, e1, d1, hcomp, e2]
  ·have d1 : decide ((us.length : Int) > 12) = true := decide_eq_true (by omega)
   refine ⟨[], ?_⟩
   have er : rF d (.tup us) = false := by show (decide (us.length ≤ 12) && us.all d) = _; rw [decide_eq_false hl, Bool.false_and]
   rw [er, List.append_nil]
   rwa [dU, e1, d1]
 ·have e1 := mG (i := 1) (S := S) (u := u) (ρ := [some wu, some u, some (.int t)]) rfl h fun us z => hu ⟨us, z⟩
  refine ⟨[], ?_⟩
  have er : rF d u = false := by
   cases u with
   | tup us => exact absurd ⟨us, rfl⟩ hu
   | _ => rfl
  rw [er, List.append_nil]
  rwa [dU, e1]
theorem in4 {s : Str} : fIn true (.str s) (.tup [.str "look", .str "set", .str "plus", .str "leap"]) S = some (.bl (!(decide (s = Str.ofString "look") || (decide (s = Str.ofString "set") || (decide (s = Str.ofString "plus") || decide (s = Str.ofString "leap"))))), S) := by
 have e : inU (.str s) [.str "look", .str "set", .str "plus", .str "leap"] = (decide (s = Str.ofString "look") || (decide (s = Str.ofString "set") || (decide (s = Str.ofString "plus") || decide (s = Str.ofString "leap")))) := by
  have q : ∀ a : Str, eqF (.str a) (.str s) = decide (s = a) := fun a => by
   show (a == s) = decide (s = a)
   rw [Bool.eq_iff_iff, beq_iff_eq, decide_eq_true_iff]; exact eq_comm
  simp only [inU, List.any_cons, List.any_nil, q, Bool.or_false]
 show (if ff (.str s) = true ∧ [U.str (Str.ofString "look"), .str (Str.ofString "set"), .str (Str.ofString "plus"), .str (Str.ofString "leap")].all ff = true then some (U.bl (if true = true then !inU (.str s) [.str "look", .str "set", .str "plus", .str "leap"] else inU (.str s) [.str "look", .str "set", .str "plus", .str "leap"]), S) else none) = _
 rw [if_pos ⟨rfl, rfl⟩, if_pos rfl, e]
theorem yM {s : Str} {bs : List (Int × Int)} (h : fg n w s = some bs) (hw : ¬ s = Str.ofString "wait") : bs.length = 2 := by
 unfold fg at h
 repeat' split at h
 all_goals first | (cases h; rfl) | cases h | contradiction
theorem rg (h : r.length ≠ 2) {s : Str} (hw : ¬ s = Str.ofString "wait") : eN n w rec t (.tup (.str s :: r)) = false := by
 by_cases c1 : s = Str.ofString "try"
 ·subst c1; rw [hR]; exact sf h
 ·cases hb : fg n w s with
  | none =>
   refine jn ?_ (decide_eq_false c1)
   show oZ (fg n w s) = .non
   rw [hb]; rfl
  | some bs =>
   rw [bO hb c1, yM hb hw, decide_eq_false h, Bool.false_and]
theorem uP {a b : U} {p q : Int × Int} : (decide ([a, b].length = [p, q].length) && uO [p, q] [a, b]) = (cG p.1 p.2 a && cG q.1 q.2 b) := by
 show (true && (cG p.1 p.2 a && (cG q.1 q.2 b && true))) = _
 rw [Bool.true_and, Bool.and_true]
noncomputable def gn (fa : Fn) : Fn := fnU 6 3 (aZ fa iE)
theorem mC {fa : Fn} (Hr : ∀ s, t = s + 1 → HaT fa (.tup [.int n, .int w]) s rec) : HaT (gn fa) (.tup [.int n, .int w]) t (eN n w rec t) := fun u S h => by
 unfold gn
 rw [lG]
 by_cases hu : ∃ us, u = .tup us
 ·obtain ⟨us, rfl⟩ := hu
  have e1 := jj (i := 1) (S := S) (us := us) (ρ := [some (.tup [.int n, .int w]), some (.tup us), some (.int t), none, none, none]) rfl
  cases us with
  | nil =>
   refine ⟨[], ?_⟩
   have er : eN n w rec t (.tup []) = false := rfl
   rw [er, List.append_nil]
   have e0 : vU (.tup []) (.tup []) S = some (.bl true, S) := rfl
   rwa [aZ, e1, e0]
  | cons x r =>
   have gx : Gd S x := h.mem x List.mem_cons_self
   have e0 : vU (.tup (x :: r)) (.tup []) S = some (.bl false, S) := rfl
   by_cases hs : ∃ s, x = .str s
   ·obtain ⟨s, rfl⟩ := hs
    have t1 : tyU (.str s) S = some .str := rfl
    have s1 : oy .str .str = true := rfl
    have head : ∀ (c : CS), bx (dq (cOr (oY (aE (nR .tuple (ak 1)))) (cOr (aE (cOp vU (ak 1) (aF aq))) (oY (aE (nR .str (cOp fIx (ak 1) (cC (.int 0)))))))) (cS (cC (.bl false))) bP) c [some (.tup [.int n, .int w]), some (.tup (.str s :: r)), some (.int t), none, none, none] S = c [some (.tup [.int n, .int w]), some (.tup (.str s :: r)), some (.int t), none, none, none] S := fun c => fE (by rwa [e1, e0, t1, s1])
    by_cases cw : s = Str.ofString "wait"
    ·have dw : decide (s = Str.ofString "wait") = true := decide_eq_true cw
     have hb : fg n w s = some [] := by rw [cw]; unfold fg; rw [if_neg (of_decide_eq_false (by decide +kernel)), if_neg (of_decide_eq_false (by decide +kernel)), if_neg (of_decide_eq_false (by decide +kernel)), if_neg (of_decide_eq_false (by decide +kernel)), if_neg (of_decide_eq_false (by decide +kernel)), if_pos rfl]
     have nt : ¬ s = Str.ofString "try" := by rw [cw]; exact of_decide_eq_false (by decide +kernel)
     have er : eN n w rec t (.tup (.str s :: r)) = decide (((r.length + 1 : Nat) : Int) = 1) := by
      rw [bO hb nt]
      have ea : uO [] r = true := by unfold uO; rw [List.zip_nil_right]; rfl
      rw [ea, Bool.and_true, Bool.eq_iff_iff, decide_eq_true_iff, decide_eq_true_iff]
      simp only [List.length_nil]
      omega
     refine ⟨[], ?_⟩
     rw [er, List.append_nil]
     unfold aZ
     rw [head]
     rwa [dw]
    ·have dw : decide (s = Str.ofString "wait") = false := decide_eq_false cw
     have head2 : ∀ (c : CS), bx (dq (aE (cOp fEq (cOp fIx (ak 1) (cC (.int 0))) (cC (.str "wait")))) (cS (cOp fEq (cCB gH (ab (ak 1) aq)) (cC (.int 1)))) bP) c [some (.tup [.int n, .int w]), some (.tup (.str s :: r)), some (.int t), none, none, none] S = c [some (.tup [.int n, .int w]), some (.tup (.str s :: r)), some (.int t), none, none, none] S := fun c => fE (by rwa [dw])
     by_cases hl : r.length = 2
     ·match r, hl, h, head, head2 with
      | [a, b], _, h, head, head2 =>
       have ga : Gd S a := h.mem a (by simp)
       have gb : Gd S b := h.mem b (by simp)
       have l3 : decide (((0 + 1 + 1 + 1 : Nat) : Int) = 3) = true := rfl
       unfold aZ
       rw [head, head2]
       rw [fE (ρ' := [some (.tup [.int n, .int w]), some (.tup [.str s, a, b]), some (.int t), none, none, none]) (S' := S) (by rwa [l3])]
       by_cases ct : s = Str.ofString "try"
       ·subst ct
        have dt : decide (Str.ofString "try" = Str.ofString "try") = true := decide_eq_true rfl
        rw [hR]
        cases t with
        | zero =>
         refine ⟨[], ?_⟩
         have er : rE rec 0 [a, b] = false := rfl
         rw [er, List.append_nil]
         have d0 : decide (((0 : Nat) : Int) > 0) = false := rfl
         rwa [dt, d0]
        | succ k =>
         have d0 : decide (((k + 1 : Nat) : Int) > 0) = true := decide_eq_true (by omega)
         have es : ((k + 1 : Nat) : Int) - 1 = (k : Int) := by omega
         obtain ⟨G1, q1⟩ := Hr k rfl a S ga
         have er : rE rec (k + 1) [a, b] = (rec a && rec b) := by show (decide (0 < k + 1) && (rec a && rec b)) = _; rw [decide_eq_true (by omega), Bool.true_and]
         rw [er]
         cases ha : rec a with
         | false =>
          rw [ha] at q1
          refine ⟨G1, ?_⟩
          rwa [dt, d0, es, q1, Bool.false_and]
         | true =>
          rw [ha] at q1
          obtain ⟨G2, q2⟩ := Hr k rfl b (S ++ G1) (gb.app _)
          rw [List.append_assoc] at q2
          refine ⟨G1 ++ G2, ?_⟩
          rwa [dt, d0, es, q1, q2, Bool.true_and]
       ·have dt : decide (s = Str.ofString "try") = false := decide_eq_false ct
        rw [fE (ρ' := [some (.tup [.int n, .int w]), some (.tup [.str s, a, b]), some (.int t), none, none, none]) (S' := S) (by rwa [dt])]
        rw [fE (ρ' := [some (.tup [.int n, .int w]), some (.tup [.str s, a, b]), some (.int t), some (.str s), some a, some b]) (S' := S) (by rwa [])]
        have pa : ∀ lo hi, iE [a, .int lo, .int hi] S = some (.bl (cG lo hi a), S) := fun lo hi => mB ga
        have pb : ∀ lo hi, iE [b, .int lo, .int hi] S = some (.bl (cG lo hi b), S) := fun lo hi => mB gb
        by_cases cp : s = Str.ofString "put"
        ·have dp : decide (s = Str.ofString "put") = true := decide_eq_true cp
         have hb : fg n w s = some [(0, n - 1), (0, 3)] := by rw [cp]; unfold fg; rw [if_neg (of_decide_eq_false (by decide +kernel)), if_pos rfl]
         rw [bO hb ct, uP]
         refine ⟨[], ?_⟩
         rw [List.append_nil]
         cases ha : cG 0 (n - 1) a with
         | false => rwa [dp, pa, ha, Bool.false_and]
         | true => rwa [dp, pa, pb, ha, Bool.true_and]
        ·have dp : decide (s = Str.ofString "put") = false := decide_eq_false cp
         rw [fE (ρ' := [some (.tup [.int n, .int w]), some (.tup [.str s, a, b]), some (.int t), some (.str s), some a, some b]) (S' := S) (by rwa [dp])]
         have pb2 : ∀ lo hi, iE [b, .int lo, .int hi] (S ++ [.lst [.int 3, .int 12]]) = some (.bl (cG lo hi b), S ++ [.lst [.int 3, .int 12]]) := fun lo hi => mB (gb.app _)
         by_cases cx : s = Str.ofString "look"
         ·have hb : fg n w s = some [(0, 3), (0, n - 1)] := by rw [cx]; unfold fg; rw [if_pos rfl]
          rw [bO hb ct, uP]
          subst cx
          have gk : decide (Str.ofString "look" = Str.ofString "look") = true := decide_eq_true rfl
          have ky : decide (Str.ofString "look" = Str.ofString "set") = false := by decide +kernel
          have kC : decide (Str.ofString "look" = Str.ofString "plus") = false := by decide +kernel
          have hJ : decide (Str.ofString "look" = Str.ofString "leap") = false := by decide +kernel
          have i4 := in4 (S := S) (s := Str.ofString "look")
          rw [gk, ky, kC, hJ] at i4
          simp only [Bool.or_true, Bool.true_or, Bool.or_false, Bool.false_or, Bool.not_true] at i4
          cases ha : cG 0 3 a with
          | false =>
           refine ⟨[], ?_⟩
           rw [List.append_nil]
           rwa [i4, pa, ha, Bool.false_and]
          | true =>
           refine ⟨[], ?_⟩
           rw [List.append_nil]
           rwa [i4, pa, ha, gk, ky, pb, Bool.true_and]
         have n_look : decide (s = Str.ofString "look") = false := decide_eq_false cx
         have m_look := cx
         by_cases cx : s = Str.ofString "set"
         ·have hb : fg n w s = some [(0, 3), (0, w - 1)] := by rw [cx]; unfold fg; rw [if_neg (of_decide_eq_false (by decide +kernel)), if_neg (of_decide_eq_false (by decide +kernel)), if_pos rfl]
          rw [bO hb ct, uP]
          subst cx
          have gk : decide (Str.ofString "set" = Str.ofString "look") = false := by decide +kernel
          have ky : decide (Str.ofString "set" = Str.ofString "set") = true := decide_eq_true rfl
          have kC : decide (Str.ofString "set" = Str.ofString "plus") = false := by decide +kernel
          have hJ : decide (Str.ofString "set" = Str.ofString "leap") = false := by decide +kernel
          have i4 := in4 (S := S) (s := Str.ofString "set")
          rw [gk, ky, kC, hJ] at i4
          simp only [Bool.or_true, Bool.true_or, Bool.or_false, Bool.false_or, Bool.not_true] at i4
          cases ha : cG 0 3 a with
          | false =>
           refine ⟨[], ?_⟩
           rw [List.append_nil]
           rwa [i4, pa, ha, Bool.false_and]
          | true =>
           refine ⟨[], ?_⟩
           rw [List.append_nil]
           rwa [i4, pa, ha, gk, ky, pb, Bool.true_and]
         have n_set : decide (s = Str.ofString "set") = false := decide_eq_false cx
         have m_set := cx
         by_cases cx : s = Str.ofString "plus"
         ·have hb : fg n w s = some [(0, 3), (0, 3)] := by rw [cx]; unfold fg; rw [if_neg (of_decide_eq_false (by decide +kernel)), if_neg (of_decide_eq_false (by decide +kernel)), if_neg (of_decide_eq_false (by decide +kernel)), if_pos rfl]
          rw [bO hb ct, uP]
          subst cx
          have gk : decide (Str.ofString "plus" = Str.ofString "look") = false := by decide +kernel
          have ky : decide (Str.ofString "plus" = Str.ofString "set") = false := by decide +kernel
          have kC : decide (Str.ofString "plus" = Str.ofString "plus") = true := decide_eq_true rfl
          have hJ : decide (Str.ofString "plus" = Str.ofString "leap") = false := by decide +kernel
          have i4 := in4 (S := S) (s := Str.ofString "plus")
          rw [gk, ky, kC, hJ] at i4
          simp only [Bool.or_true, Bool.true_or, Bool.or_false, Bool.false_or, Bool.not_true] at i4
          cases ha : cG 0 3 a with
          | false =>
           refine ⟨[], ?_⟩
           rw [List.append_nil]
           rwa [i4, pa, ha, Bool.false_and]
          | true =>
           refine ⟨[.lst [.int 3, .int 12]], ?_⟩
           rwa [i4, pa, ha, gk, ky, hJ, if_true, Bool.false_eq_true, if_false, pb2, Bool.true_and]
         have n_plus : decide (s = Str.ofString "plus") = false := decide_eq_false cx
         have m_plus := cx
         by_cases cx : s = Str.ofString "leap"
         ·have hb : fg n w s = some [(0, 3), (1, 12)] := by rw [cx]; unfold fg; rw [if_neg (of_decide_eq_false (by decide +kernel)), if_neg (of_decide_eq_false (by decide +kernel)), if_neg (of_decide_eq_false (by decide +kernel)), if_neg (of_decide_eq_false (by decide +kernel)), if_pos rfl]
          rw [bO hb ct, uP]
          subst cx
          have gk : decide (Str.ofString "leap" = Str.ofString "look") = false := by decide +kernel
          have ky : decide (Str.ofString "leap" = Str.ofString "set") = false := by decide +kernel
          have kC : decide (Str.ofString "leap" = Str.ofString "plus") = false := by decide +kernel
          have hJ : decide (Str.ofString "leap" = Str.ofString "leap") = true := decide_eq_true rfl
          have i4 := in4 (S := S) (s := Str.ofString "leap")
          rw [gk, ky, kC, hJ] at i4
          simp only [Bool.or_true, Bool.true_or, Bool.or_false, Bool.false_or, Bool.not_true] at i4
          cases ha : cG 0 3 a with
          | false =>
           refine ⟨[], ?_⟩
           rw [List.append_nil]
           rwa [i4, pa, ha, Bool.false_and]
          | true =>
           refine ⟨[.lst [.int 3, .int 12]], ?_⟩
           rwa [i4, pa, ha, gk, ky, hJ, if_true, Bool.false_eq_true, if_false, pb2, Bool.true_and]
         have n_leap : decide (s = Str.ofString "leap") = false := decide_eq_false cx
         have m_leap := cx
         have hb : wm n w (.str s) = .non := by
          show oZ (fg n w s) = .non
          unfold fg
          rw [if_neg m_look, if_neg cp, if_neg m_set, if_neg m_plus, if_neg m_leap, if_neg cw]; rfl
         have i4 := in4 (S := S) (s := s)
         rw [n_look, n_set, n_plus, n_leap] at i4
         refine ⟨[], ?_⟩
         rw [List.append_nil, jn hb (decide_eq_false ct)]
         simp only [Bool.or_false, Bool.not_false] at i4
         rwa [i4]
     ·have d3 : decide (((r.length + 1 : Nat) : Int) = 3) = false := decide_eq_false (by omega)
      refine ⟨[], ?_⟩
      rw [List.append_nil, rg hl cw]
      unfold aZ
      rw [head, head2]
      rwa [d3]
   ·refine ⟨[], ?_⟩
    have er : eN n w rec t (.tup (x :: r)) = false := by
     cases x with
     | str s => exact absurd ⟨s, rfl⟩ hs
     | _ => rfl
    have ei : aE (nR .str (cOp fIx (ak 1) (cC (.int 0)))) [some (.tup [.int n, .int w]), some (.tup (x :: r)), some (.int t), none, none, none] S = some (false, S) := by
     have hv : cOp fIx (ak 1) (cC (.int 0)) [some (.tup [.int n, .int w]), some (.tup (x :: r)), some (.int t), none, none, none] S = some (x, S) := by rwa []
     rw [pE, uZ, hv, Option.bind_some, pG]
     cases gx with
     | str s => exact absurd ⟨s, rfl⟩ hs
     | lst hz => simp only [tyU, hz, Option.bind_some, oy, oj]
     | _ => rfl
    rw [er, List.append_nil]
    rwa [aZ, e1, e0, ei]
 ·have e1 := mG (i := 1) (S := S) (u := u) (ρ := [some (.tup [.int n, .int w]), some u, some (.int t), none, none, none]) rfl h fun us z => hu ⟨us, z⟩
  refine ⟨[], ?_⟩
  have er : eN n w rec t u = false := by
   cases u with
   | tup us => exact absurd ⟨us, rfl⟩ hu
   | _ => rfl
  rw [er, List.append_nil]
  rwa [aZ, e1]
noncomputable def uS : Nat → Fn
 | 0 => qC (gn fun _ _ => none)
 | t + 1 => qC (gn (uS t))
theorem o5 : ∀ T t : Nat, t ≤ T → HaT (uS T) (.tup [.int n, .int w]) t (yQ n w t)
 | 0, 0, _ => oM (mC fun s hs => absurd hs (by omega))
 | T + 1, 0, _ => oM (mC fun s hs => absurd hs (by omega))
 | T + 1, t + 1, hT => oM (mC fun s hs => by
   have : s = t := by omega
   subst this
   exact o5 T s (by omega))
end
section
variable {α : Type} {n w lo hi : Int} {S : Sto} {u x a b : U} {us r : List U} {t : Nat} {rec : U → Bool} {f : α → U} {q : List α → Prop} {s : List α → Int}
theorem p0 (h : cG lo hi x = true) : ∃ i, x = .int i ∧ lo ≤ i ∧ i ≤ hi := by
 cases x with
 | int i =>
  have h' : (decide (lo ≤ i) && decide (i ≤ hi)) = true := h
  rw [Bool.and_eq_true, decide_eq_true_iff, decide_eq_true_iff] at h'
  exact ⟨i, rfl, h'⟩
 | _ => cases h
theorem m8 {bs : List (Int × Int)} {p p' : Int × Int} (hb : bs = [p, p']) (h : (decide (r.length = bs.length) && uO bs r) = true) : ∃ i j : Int, r = [.int i, .int j] ∧ (p.1 ≤ i ∧ i ≤ p.2) ∧ p'.1 ≤ j ∧ j ≤ p'.2 := by
 subst hb
 rw [Bool.and_eq_true, decide_eq_true_iff] at h
 obtain ⟨hl, ha⟩ := h
 match r, hl with
 | [x, y], _ =>
  have ha' : (cG p.1 p.2 x && (cG p'.1 p'.2 y && true)) = true := ha
  rw [Bool.and_true, Bool.and_eq_true] at ha'
  obtain ⟨i, rfl, h1⟩ := p0 ha'.1
  obtain ⟨j, rfl, h2⟩ := p0 ha'.2
  exact ⟨i, j, rfl, h1, h2⟩
theorem ql (hr : ∀ a, rec a = true → ∃ ds : List α, a = .tup (ds.map f) ∧ q ds) (h : eN n w rec t u = true) : ∃ d : DF α, u = DF.u f d ∧ d.ok n w q := by
 match u, h with
 | .tup (.str z :: r), h =>
  by_cases ct : z = Str.ofString "try"
  ·subst ct
   rw [hR] at h
   match r, h with
   | [a, b], h =>
    have h' : (decide (0 < t) && (rec a && rec b)) = true := h
    rw [Bool.and_eq_true, Bool.and_eq_true] at h'
    obtain ⟨A, rfl, qA⟩ := hr a h'.2.1
    obtain ⟨B, rfl, qB⟩ := hr b h'.2.2
    exact ⟨.tr A B, rfl, qA, qB⟩
  ·cases hb : fg n w z with
   | none =>
    have e := jn (rec := rec) (t := t) (r := r) (n := n) (w := w) (x := .str z) (by show oZ (fg n w z) = .non; rw [hb]; rfl) (decide_eq_false ct)
    rw [e] at h; cases h
   | some bs =>
    rw [bO hb ct] at h
    unfold fg at hb
    split at hb
    ·rename_i c; cases hb
     obtain ⟨i, j, rfl, h1, h2⟩ := m8 rfl h
     subst c
     exact ⟨.pl (.look i j), rfl, by have := h1; have := h2; simp only at *; exact ⟨by omega, by omega, by omega, by omega⟩⟩
    split at hb
    ·rename_i c; cases hb
     obtain ⟨i, j, rfl, h1, h2⟩ := m8 rfl h
     subst c
     exact ⟨.pl (.put i j), rfl, by simp only at *; exact ⟨by omega, by omega, by omega, by omega⟩⟩
    split at hb
    ·rename_i c; cases hb
     obtain ⟨i, j, rfl, h1, h2⟩ := m8 rfl h
     subst c
     exact ⟨.pl (.set i j), rfl, by simp only at *; exact ⟨by omega, by omega, by omega, by omega⟩⟩
    split at hb
    ·rename_i c; cases hb
     obtain ⟨i, j, rfl, h1, h2⟩ := m8 rfl h
     subst c
     exact ⟨.pl (.plus i j), rfl, by simp only at *; exact ⟨by omega, by omega, by omega, by omega⟩⟩
    split at hb
    ·rename_i c; cases hb
     obtain ⟨i, j, rfl, h1, h2⟩ := m8 rfl h
     subst c
     exact ⟨.pl (.leap i j), rfl, by simp only at *; exact ⟨by omega, by omega, by omega, by omega⟩⟩
    split at hb
    ·rename_i c; cases hb
     subst c
     rw [Bool.and_eq_true, decide_eq_true_iff] at h
     have hr0 : r = [] := List.length_eq_zero_iff.mp h.1
     subst hr0
     exact ⟨.pl .wait, rfl, trivial⟩
    ·cases hb
theorem d9 {i : Int} (h1 : lo ≤ i) (h2 : i ≤ hi) : cG lo hi (.int i) = true := by
 show (decide (lo ≤ i) && decide (i ≤ hi)) = true
 rw [decide_eq_true h1, decide_eq_true h2]; rfl
theorem qm (hr : ∀ ds, q ds → rec (.tup (ds.map f)) = true) (ht : ∀ ds, q ds → 0 < t) {d : DF α} (ok : d.ok n w q) : eN n w rec t (DF.u f d) = true := by
 cases d with
 | tr A B =>
  show eN n w rec t (.tup (.str "try" :: [.tup (A.map f), .tup (B.map f)])) = true
  rw [hR]
  show (decide (0 < t) && (rec (.tup (A.map f)) && rec (.tup (B.map f)))) = true
  rw [decide_eq_true (ht A ok.1), hr A ok.1, hr B ok.2]; rfl
 | pl d =>
  cases d with
  | wait =>
   show eN n w rec t (.tup [.str "wait"]) = true
   rw [bO (bs := []) (by unfold fg; rw [if_neg (of_decide_eq_false (by decide +kernel)), if_neg (of_decide_eq_false (by decide +kernel)), if_neg (of_decide_eq_false (by decide +kernel)), if_neg (of_decide_eq_false (by decide +kernel)), if_neg (of_decide_eq_false (by decide +kernel)), if_pos rfl]) (of_decide_eq_false (by decide +kernel))]
   rfl
  | look i j =>
   obtain ⟨h1, h2, h3, h4⟩ : 0 ≤ i ∧ i < 4 ∧ 0 ≤ j ∧ j < n := ok
   show eN n w rec t (.tup [.str "look", .int i, .int j]) = true
   rw [bO (bs := [(0, 3), (0, n - 1)]) (by unfold fg; rw [if_pos rfl]) (of_decide_eq_false (by decide +kernel)), uP, d9 (by omega) (by omega), d9 (by omega) (by omega)]; rfl
  | put i j =>
   obtain ⟨h1, h2, h3, h4⟩ : 0 ≤ j ∧ j < 4 ∧ 0 ≤ i ∧ i < n := ok
   show eN n w rec t (.tup [.str "put", .int i, .int j]) = true
   rw [bO (bs := [(0, n - 1), (0, 3)]) (by unfold fg; rw [if_neg (of_decide_eq_false (by decide +kernel)), if_pos rfl]) (of_decide_eq_false (by decide +kernel)), uP, d9 (by omega) (by omega), d9 (by omega) (by omega)]; rfl
  | set i j =>
   obtain ⟨h1, h2, h3, h4⟩ : 0 ≤ i ∧ i < 4 ∧ 0 ≤ j ∧ j < w := ok
   show eN n w rec t (.tup [.str "set", .int i, .int j]) = true
   rw [bO (bs := [(0, 3), (0, w - 1)]) (by unfold fg; rw [if_neg (of_decide_eq_false (by decide +kernel)), if_neg (of_decide_eq_false (by decide +kernel)), if_pos rfl]) (of_decide_eq_false (by decide +kernel)), uP, d9 (by omega) (by omega), d9 (by omega) (by omega)]; rfl
  | plus i j =>
   obtain ⟨h1, h2, h3, h4⟩ : 0 ≤ i ∧ i < 4 ∧ 0 ≤ j ∧ j < 4 := ok
   show eN n w rec t (.tup [.str "plus", .int i, .int j]) = true
   rw [bO (bs := [(0, 3), (0, 3)]) (by unfold fg; rw [if_neg (of_decide_eq_false (by decide +kernel)), if_neg (of_decide_eq_false (by decide +kernel)), if_neg (of_decide_eq_false (by decide +kernel)), if_pos rfl]) (of_decide_eq_false (by decide +kernel)), uP, d9 (by omega) (by omega), d9 (by omega) (by omega)]; rfl
  | leap i j =>
   obtain ⟨h1, h2, h3, h4⟩ : 0 ≤ i ∧ i < 4 ∧ 1 ≤ j ∧ j ≤ 12 := ok
   show eN n w rec t (.tup [.str "leap", .int i, .int j]) = true
   rw [bO (bs := [(0, 3), (1, 12)]) (by unfold fg; rw [if_neg (of_decide_eq_false (by decide +kernel)), if_neg (of_decide_eq_false (by decide +kernel)), if_neg (of_decide_eq_false (by decide +kernel)), if_neg (of_decide_eq_false (by decide +kernel)), if_pos rfl]) (of_decide_eq_false (by decide +kernel)), uP, d9 (by omega) (by omega), d9 (by omega) (by omega)]; rfl
theorem uv {β : Type} {g : β → U} {p : β → Prop} {d : U → Bool} (hd : ∀ x, d x = true → ∃ e, x = g e ∧ p e) : ∀ us : List U, us.all d = true → ∃ es : List β, us = es.map g ∧ ∀ e ∈ es, p e
 | [], _ => ⟨[], rfl, fun e he => by cases he⟩
 | u :: us, h => by
  rw [List.all_cons, Bool.and_eq_true] at h
  obtain ⟨e, rfl, pe⟩ := hd u h.1
  obtain ⟨es, rfl, ps⟩ := uv hd us h.2
  exact ⟨e :: es, rfl, fun x hx => by
   rcases List.mem_cons.mp hx with rfl | hx
   ·exact pe
   ·exact ps x hx⟩
theorem sC {β : Type} {g : β → U} {p : β → Prop} {d : U → Bool} (hd : ∀ x, d x = true → ∃ e, x = g e ∧ p e) (h : rF d u = true) : ∃ es : List β, u = .tup (es.map g) ∧ es.length ≤ 12 ∧ ∀ e ∈ es, p e := by
 cases u with
 | tup us =>
  have h' : (decide (us.length ≤ 12) && us.all d) = true := h
  rw [Bool.and_eq_true, decide_eq_true_iff] at h'
  obtain ⟨es, rfl, ps⟩ := uv hd us h'.2
  exact ⟨es, rfl, by simpa using h'.1, ps⟩
 | _ => cases h
theorem sD {β : Type} {g : β → U} {d : U → Bool} {es : List β} (hl : es.length ≤ 12) (hd : ∀ e ∈ es, d (g e) = true) : rF d (.tup (es.map g)) = true := by
 show (decide ((es.map g).length ≤ 12) && (es.map g).all d) = true
 rw [decide_eq_true (by simpa using hl), Bool.true_and, List.all_map, List.all_eq_true]
 exact hd
end
section
variable {n w : Int} {S : Sto} {u : U}
theorem pV : ∀ (j : Nat) (u : U), yQ n w j u = true → ∃ ds : List (Dl j), u = .tup (ds.map (Dl.u j)) ∧ OkM n w j ds
 | 0, u, h => by
  obtain ⟨es, e, hl, ps⟩ := sC (g := Dl.u 0) (p := fun d : Dl 0 => DF.ok n w (fun _ => False) d) (fun x hx => by
   obtain ⟨d, e, ok⟩ := ql (α := Empty) (f := fun x => nomatch x) (q := fun _ => False) (fun a ha => by cases ha) hx
   refine ⟨d, ?_, ok⟩
   rw [e]
   cases d with
   | pl d => rfl
   | tr a b => exact ok.1.elim) h
  exact ⟨es, e, hl, ps⟩
 | j + 1, u, h => by
  obtain ⟨es, e, hl, ps⟩ := sC (g := Dl.u (j + 1)) (p := fun d : Dl (j + 1) => DF.ok n w (OkM n w j) d) (fun x hx => ql (f := Dl.u j) (fun a ha => pV j a ha) hx) h
  exact ⟨es, e, hl, ps⟩
theorem pW : ∀ (j : Nat) (ds : List (Dl j)), OkM n w j ds → yQ n w j (.tup (ds.map (Dl.u j))) = true
 | 0, ds, ok => sD ok.1 fun d hd => by
  have od := ok.2 d hd
  unfold Dl.u
  exact qm (q := fun _ => False) (fun _ z => z.elim) (fun _ z => z.elim) od
 | j + 1, ds, ok => sD ok.1 fun d hd => qm (f := Dl.u j) (fun es h => pW j es h) (fun _ _ => by omega) (ok.2 d hd)
end
section
variable {α : Type} {n w B : Int} {f : α → U} {k : List α → Prop} {s : List α → Int}
noncomputable def szQ (s : List α → Int) : DF α → Int
 | .pl _ => 1
 | .tr a b => 1 + s a + s b
theorem ox (s : List α → Int) : ∀ ds : List (DF α), szF s ds = (ds.map (szQ s)).sum
 | [] => rfl
 | .pl d :: r => by rw [List.map_cons, List.sum_cons, ← ox s r]; rfl
 | .tr a b :: r => by rw [List.map_cons, List.sum_cons, ← ox s r]; rfl
noncomputable def HnT (fi : Fn) (f : α → U) (k : List α → Prop) (s : List α → Int) : Prop := ∀ (a : List α) (S : Sto), k a → ∃ G, fi [.tup (a.map f)] S = some (.int (s a), S ++ G)
noncomputable def kM (fi : Fn) : Fn := fnU 1 1 (dk fi)
theorem DZ (d : qG) : ∃ y rr, d.u = .tup (.str y :: rr) ∧ decide (y = (Str.ofString "try")) = false := by
 cases d <;> first | exact ⟨_, _, rfl, fD⟩ | exact ⟨_, _, rfl, gw⟩ | exact ⟨_, _, rfl, gr⟩ | exact ⟨_, _, rfl, fC⟩ | exact ⟨_, _, rfl, by decide +kernel⟩
theorem Bk {fi : Fn} (Hn : HnT fi f k s) {d : DF α} (ok : d.ok n w k) (S : Sto) : ∃ G, kM fi [DF.u f d] S = some (.int (szQ s d), S ++ G) := by
 unfold kM
 rw [qZ]
 cases d with
 | pl d =>
  obtain ⟨y, rr, e, nt⟩ := DZ d
  refine ⟨[], ?_⟩
  rw [List.append_nil]
  show (dk fi [some d.u] S).bind kFn = some (.int 1, S)
  rw [e]
  rwa [dk, nt]
 | tr a b =>
  obtain ⟨G1, e1⟩ := Hn a S ok.1
  obtain ⟨G2, e2⟩ := Hn b (S ++ G1) ok.2
  rw [List.append_assoc] at e2
  refine ⟨G1 ++ G2, ?_⟩
  show (dk fi [some (.tup [.str "try", .tup (a.map f), .tup (b.map f)])] S).bind kFn = some (.int (1 + s a + s b), _)
  obtain ⟨ua, hua⟩ : ∃ ua, ua = U.tup (a.map f) := ⟨_, rfl⟩
  obtain ⟨ub, hub⟩ : ∃ ub, ub = U.tup (b.map f) := ⟨_, rfl⟩
  rw [← hua] at e1 ⊢
  rw [← hub] at e2 ⊢
  have dt : decide (Str.ofString "try" = Str.ofString "try") = true := decide_eq_true rfl
  rwa [dk, dt, e1, e2]
noncomputable def wy (fo : Fn) : Fn := fnU 1 1 (fz fo)
theorem tX {fi : Fn} (Hn : HnT fi f k s) (hB : ∀ a, k a → 0 ≤ s a ∧ s a ≤ B) (b0 : 0 ≤ B) (b1 : B ≤ 400000) : HnT (wy (kM fi)) (DF.u f) (fun ds => ds.length ≤ 12 ∧ ∀ d ∈ ds, DF.ok n w k d) (szF s) := fun ds S ok => by
 unfold wy
 rw [q0]
 obtain ⟨G', ec⟩ := gI (S := S) (ok := fun _ => True) (gg := gNm 0) (ce := cCB (kM fi) (ab (ak 0) aq)) (f := DF.u f) (v := fun d => .int (szQ s d)) (Rel := fun ρ => ∃ r0, ρ = [r0]) (fun _ _ => trivial) ds [] [] [none] ⟨_, rfl⟩ (by have := ok.1; simp; omega) (fun d hd ys G ρ hρ => by
  obtain ⟨r0, rfl⟩ := hρ
  obtain ⟨G1, e⟩ := Bk (n := n) (w := w) Hn (ok.2 d hd) (S ++ (.lst ys :: G))
  rw [List.append_assoc, List.cons_append] at e
  obtain ⟨du, hdu⟩ : ∃ du, du = DF.u f d := ⟨_, rfl⟩
  rw [← hdu] at e ⊢
  refine ⟨[some du], G1, ⟨_, rfl⟩, rfl, ?_⟩
  rwa [e])
 simp only [List.nil_append] at ec
 obtain ⟨ns, hns⟩ : ∃ ns, ns = ds.map (szQ s) := ⟨_, rfl⟩
 have em : (ds.map fun d => U.int (szQ s d)) = ns.map U.int := by rw [hns, List.map_map]; rfl
 rw [em] at ec
 have hcomp : fW (iTp (ak 0)) (gNm 0) (cCB (kM fi) (ab (ak 0) aq)) 1 [] [some (.tup (ds.map (DF.u f)))] S = some (.ref S.length, S ++ (.lst (ns.map U.int) :: G')) := by
  have hv : ak 0 [some (.tup (ds.map (DF.u f)))] S = some (.tup (ds.map (DF.u f)), S) := rfl
  unfold fW iTp
  rw [hv, Option.bind_some]
  simp only [Option.bind_some, rG, List.replicate, List.map_nil, List.append_nil, ec]
 have hsum : Bg [.ref S.length] (S ++ (.lst (ns.map U.int) :: G')) = some (.int ns.sum, S ++ (.lst (ns.map U.int) :: G')) := by
  have g0 : (S ++ (O.lst (ns.map U.int) :: G'))[S.length]? = some (.lst (ns.map U.int)) := by rw [ga0]; rfl
  have hc : ns.length ≤ 1000 ∧ ∀ z ∈ ns, 0 ≤ z ∧ z ≤ 1000000 := by
   refine ⟨by rw [hns, List.length_map]; have := ok.1; omega, fun z hz => ?_⟩
   rw [hns] at hz
   obtain ⟨d, hd, rfl⟩ := List.mem_map.mp hz
   have od := ok.2 d hd
   cases d with
   | pl d =>
    show (0 : Int) ≤ 1 ∧ (1 : Int) ≤ 1000000
    omega
   | tr a b =>
    have h1 := hB a od.1
    have h2 := hB b od.2
    show 0 ≤ 1 + s a + s b ∧ 1 + s a + s b ≤ 1000000
    omega
  simp only [Bg, g0, nG, Option.bind_some]
  rw [if_pos hc]
 refine ⟨.lst (ns.map U.int) :: G', ?_⟩
 rw [ox, ← hns]
 obtain ⟨x, hx⟩ : ∃ x, x = U.tup (ds.map (DF.u f)) := ⟨_, rfl⟩
 rw [← hx] at hcomp ⊢
 rwa [fz, hcomp, hsum]
theorem si (hB : ∀ a, k a → 0 ≤ s a ∧ s a ≤ B) (b0 : 0 ≤ B) : ∀ ds : List (DF α), (∀ d ∈ ds, DF.ok n w k d) → 0 ≤ szF s ds ∧ szF s ds ≤ ds.length * (1 + 2 * B)
 | [], _ => by simp [szF]
 | d :: r, ok => by
  have ih := si hB b0 r fun z hz => ok z (List.mem_cons_of_mem _ hz)
  have od := ok d List.mem_cons_self
  have e : ((d :: r).length : Int) * (1 + 2 * B) = (1 + 2 * B) + (r.length : Int) * (1 + 2 * B) := by
   rw [List.length_cons, Int.natCast_add, Int.add_mul, Int.natCast_one, Int.one_mul, Int.add_comm]
  rw [e]
  cases d with
  | pl d => simp only [szF]; omega
  | tr a b =>
   have h1 := hB a od.1
   have h2 := hB b od.2
   simp only [szF]; omega
end
noncomputable def uR : Nat → Fn
 | 0 => wy (kM fun _ _ => none)
 | j + 1 => wy (kM (uR j))
section
variable {n w : Int}
noncomputable def bdJ : Nat → Int
 | 0 => 12
 | j + 1 => 12 * (1 + 2 * bdJ j)
theorem Bq {m : Nat} {B : Int} (hm : m ≤ 12) (b0 : 0 ≤ B) : (m : Int) * (1 + 2 * B) ≤ 12 * (1 + 2 * B) := Int.mul_le_mul_of_nonneg_right (by omega) (by omega)
theorem pT : ∀ (j : Nat) (ds : List (Dl j)), OkM n w j ds → 0 ≤ lq j ds ∧ lq j ds ≤ bdJ j
 | 0, ds, ok => by
  have h := si (n := n) (w := w) (k := fun _ => False) (s := fun _ : List Empty => 0) (B := 0) (fun _ z => z.elim) (by decide) ds ok.2
  have := Bq (B := 0) ok.1 (by decide)
  exact ⟨h.1, Int.le_trans h.2 this⟩
 | j + 1, ds, ok => by
  have b0 : 0 ≤ bdJ j := by
   have : ∀ j, 0 ≤ bdJ j := fun j => by
    induction j with
    | zero => decide
    | succ j ih => simp only [bdJ]; omega
   exact this j
  have h := si (n := n) (w := w) (pT j) b0 ds ok.2
  exact ⟨h.1, Int.le_trans h.2 (Bq ok.1 b0)⟩
theorem tY : ∀ J j : Nat, j ≤ J → j ≤ 3 → HnT (uR J) (Dl.u j) (OkM n w j) (lq j)
 | 0, 0, _, _ => fun a S ka => tX (n := n) (w := w) (k := fun _ => False) (s := fun _ => 0) (B := 0) (fun _ _ z => z.elim) (fun _ z => z.elim) (by decide) (by decide) a S ka
 | J + 1, 0, _, _ => fun a S ka => tX (n := n) (w := w) (k := fun _ => False) (s := fun _ => 0) (B := 0) (fun _ _ z => z.elim) (fun _ z => z.elim) (by decide) (by decide) a S ka
 | J + 1, j + 1, h, h3 => fun a S ka => by
  have hb : 0 ≤ bdJ j ∧ bdJ j ≤ 400000 := by
   have : j = 0 ∨ j = 1 ∨ j = 2 := by omega
   rcases this with rfl | rfl | rfl <;> decide
  exact tX (n := n) (w := w) (tY J j (by omega) (by omega)) (pT j) hb.1 hb.2 a S ka
noncomputable def de : Fn := fnU 2 2 (dj (rj 3) (uR 3))
noncomputable def h9 : Fn := fnU 2 2 (bL (uS 3) (nY 3))
theorem uo {S : Sto} {u : U} (h : Gd S u) : ∃ b, (∃ G, de [.tup [.int n, .int w], u] S = some (.bl b, S ++ G)) ∧ (∀ X, ∃ G, h9 [.tup [.int n, .int w], u] (S ++ X) = some (.bl b, S ++ (X ++ G))) ∧ ∀ ds : List (Dl 3), u = .tup (ds.map (Dl.u 3)) → OkM n w 3 ds → lq 3 ds ≤ 40 → b = true := by
 obtain ⟨G1, e1⟩ := sE (n := n) (w := w) 3 3 (by omega) u S h
 have c3 : ((3 : Nat) : Int) = 3 := rfl
 rw [c3] at e1
 cases hr : yQ n w 3 u with
 | false =>
  rw [hr] at e1
  refine ⟨false, ⟨G1, ?_⟩, fun X => ?_, fun ds e ok _ => ?_⟩
  ·unfold de
   rw [iZ]
   rwa [dj, e1]
  ·obtain ⟨G2, e2⟩ := o5 (n := n) (w := w) 3 3 (by omega) u (S ++ X) (h.app X)
   rw [c3, hr, List.append_assoc] at e2
   refine ⟨G2, ?_⟩
   unfold h9
   rw [fv]
   rwa [bL, e2]
  ·rw [e, pW 3 ds ok] at hr; cases hr
 | true =>
  rw [hr] at e1
  obtain ⟨ds, rfl, ok⟩ := pV 3 u hr
  obtain ⟨G2, e2⟩ := tY (n := n) (w := w) 3 3 (by omega) (by omega) ds (S ++ G1) ok
  rw [List.append_assoc] at e2
  refine ⟨decide (lq 3 ds ≤ 40), ⟨G1 ++ G2, ?_⟩, fun X => ?_, fun es e oe hs => ?_⟩
  ·obtain ⟨x, hx⟩ : ∃ x, x = U.tup (ds.map (Dl.u 3)) := ⟨_, rfl⟩
   rw [← hx] at e1 e2 ⊢
   unfold de
   rw [iZ]
   rwa [dj, e1, e2]
  ·obtain ⟨G3, e3⟩ := o5 (n := n) (w := w) 3 3 (by omega) _ (S ++ X) (h.app X)
   have e4 := gy (n := n) (w := w) 3 3 (by omega) ds (S ++ X ++ G3) ok
   rw [c3, hr] at e3
   rw [List.append_assoc] at e3 e4
   refine ⟨G3, ?_⟩
   obtain ⟨x, hx⟩ : ∃ x, x = U.tup (ds.map (Dl.u 3)) := ⟨_, rfl⟩
   rw [← hx] at e3 e4 ⊢
   unfold h9
   rw [fv]
   rwa [bL, e3, e4]
  ·have hz : lq 3 ds = lq 3 es := by
    have e4 := gy (n := n) (w := w) 3 3 (by omega) ds [] ok
    have e5 := gy (n := n) (w := w) 3 3 (by omega) es [] oe
    rw [e, e5] at e4
    injection e4 with e4
    injection e4 with e4 _
    injection e4 with e4
    exact e4.symm
   rw [hz]; exact decide_eq_true hs
noncomputable def dC : Fn := fnU 3 2 (cR de h9)
theorem iB {S : Sto} {u : U} (h : Gd S u) : ∃ G, dC [.tup [.int n, .int w], u] S = some (.bl true, S ++ G) := by
 obtain ⟨b, ⟨G1, e1⟩, e2, _⟩ := uo (n := n) (w := w) h
 obtain ⟨G2, e2⟩ := e2 G1
 refine ⟨G1 ++ G2, ?_⟩
 have t1 : ∀ S', tyU (.bl b) S' = some .bool := fun _ => rfl
 have s1 : oy .bool .bool = true := rfl
 have d1 : decide (b = b) = true := decide_eq_true rfl
 unfold dC
 rw [lI]
 rwa [cR, e1, e2, t1, s1, d1]
end
section
variable {S0 : Sto} {ρf : Option U → Rho} {ce : CE} {cr : CA} {u : U} {m k : Nat}
noncomputable def EvG (S0 : Sto) (ρf : Option U → Rho) (ce : CE) : Prop := ∀ q X, ∃ u G, ce (ρf q) (S0 ++ X) = some (u, S0 ++ (X ++ G)) ∧ Gd (S0 ++ (X ++ G)) u
noncomputable def lj (S0 : Sto) (ρf : Option U → Rho) (cr : CA) (m : Nat) : Prop := ∀ q X, ∃ us G, cr (ρf q) (S0 ++ X) = some (us, S0 ++ (X ++ G)) ∧ us.length = m ∧ ∀ u ∈ us, Gd (S0 ++ (X ++ G)) u
theorem eL (h : ∀ q X, ce (ρf q) (S0 ++ X) = some (u, S0 ++ X)) (g : Gd S0 u) : EvG S0 ρf ce := fun q X => ⟨u, [], by rw [List.append_nil]; exact h q X, g.app _⟩
theorem fu (h : ∀ q X, ∃ i, ce (ρf q) (S0 ++ X) = some (.int i, S0 ++ X)) : EvG S0 ρf ce := fun q X => by
 obtain ⟨i, e⟩ := h q X
 exact ⟨.int i, [], by rw [List.append_nil]; exact e, .int i⟩
theorem fT {x : Str} : EvG S0 ρf (cC (.str x)) := eL (fun _ _ => rfl) (.str x)
theorem ik {x : Bool} : EvG S0 ρf (cC (.bl x)) := eL (fun _ _ => rfl) (.bl x)
theorem eM : EvG S0 ρf (cC .non) := eL (fun _ _ => rfl) .non
theorem cK : lj S0 ρf aq 0 := fun q X => ⟨[], [], by rw [List.append_nil]; rfl, rfl, fun u hu => by cases hu⟩
theorem aR (h : EvG S0 ρf ce) (t : lj S0 ρf cr m) : lj S0 ρf (ab ce cr) (m + 1) := fun q X => by
 obtain ⟨u, G, e, g⟩ := h q X
 obtain ⟨us, G', e', l', g'⟩ := t q (X ++ G)
 refine ⟨u :: us, G ++ G', ?_, by rw [List.length_cons, l'], fun v hv => ?_⟩
 ·rw [mY, e, Option.bind_some, me, e', Option.bind_some, rP, List.append_assoc]
 ·rw [List.append_assoc] at g'
  rcases List.mem_cons.mp hv with rfl | hv
  ·have := g.app G'
   rw [List.append_assoc, List.append_assoc] at this
   exact this
  ·exact g' v hv
noncomputable def EvA (S0 : Sto) (ρf : Option U → Rho) (cr : CA) : Prop := ∃ m, lj S0 ρf cr m
theorem dc : EvA S0 ρf aq := ⟨_, cK⟩
theorem cE (h : EvG S0 ρf ce) (t : EvA S0 ρf cr) : EvA S0 ρf (ab ce cr) := t.elim fun _ t => ⟨_, aR h t⟩
theorem eW (h : EvA S0 ρf cr) : EvG S0 ρf (aF cr) := fun q X => by
 obtain ⟨_, h⟩ := h
 obtain ⟨us, G, e, _, g⟩ := h q X
 exact ⟨.tup us, G, by rw [uX, e, Option.bind_some, wA], .tup g⟩
theorem fq (h : EvA S0 ρf cr) : EvG S0 ρf (eD cr) := fun q X => by
 obtain ⟨_, h⟩ := h
 obtain ⟨us, G, e, _, g⟩ := h q X
 refine ⟨.ref (S0 ++ (X ++ G)).length, G ++ [.lst us], by rw [rN, e, Option.bind_some, pF]; simp only [List.append_assoc], .lst (us := us) ?_⟩
 have e2 : S0 ++ (X ++ (G ++ [O.lst us])) = S0 ++ (X ++ G) ++ [O.lst us] := by simp only [List.append_assoc]
 rw [e2, ga0]; rfl
structure LsI (S : Sto) (l k : Nat) : Prop where
 two : 2 ≤ l
 ex : ∃ us, S[l]? = some (.lst us) ∧ us.length = k ∧ ∀ u ∈ us, Gd S u
theorem qk {i : Nat} {q : Option U} {X : Sto} (hs : ∀ q u, (ρf q).set i (some u) = ρf (some u)) (l2 : 2 ≤ S0.length) (h : lj S0 ρf cr m) : ∃ l G, b8 i (eD cr) (ρf q) (S0 ++ X) = some (.nx, ρf (some (.ref l)), S0 ++ (X ++ G)) ∧ LsI (S0 ++ (X ++ G)) l m := by
 obtain ⟨us, G, e, hl, g⟩ := h q X
 refine ⟨(S0 ++ (X ++ G)).length, G ++ [.lst us], ?_, ?_⟩
 ·rw [xa, rN, e, Option.bind_some, pF, Option.bind_some, rL, hs]; simp only [List.append_assoc]
 ·rw [← List.append_assoc, ← List.append_assoc, List.append_assoc S0]
  exact ⟨by simp; omega, us, by rw [ga0]; rfl, hl, fun u hu => (g u hu).app _⟩
theorem dM {i l : Nat} {X : Sto} (hs : ∀ q u, (ρf q).set i (some u) = ρf (some u)) (hi : ∀ u S, ak i (ρf (some u)) S = some (u, S)) (l2 : 2 ≤ S0.length) (L : LsI (S0 ++ X) l k) (hk : k + m ≤ 900) (h : lj S0 ρf cr m) :
  ∃ l' G, b8 i (cOp bJ (ak i) (eD cr)) (ρf (some (.ref l))) (S0 ++ X) = some (.nx, ρf (some (.ref l')), S0 ++ (X ++ G)) ∧ LsI (S0 ++ (X ++ G)) l' (k + m) := by
 obtain ⟨us, G, e, hl, g⟩ := h (some (.ref l)) X
 obtain ⟨vs, hv, lv, gv⟩ := L.ex
 have g1 : (S0 ++ (X ++ G) ++ [O.lst us])[l]? = some (.lst vs) := by rw [← List.append_assoc]; exact mI (mI hv)
 have g2 : (S0 ++ (X ++ G) ++ [O.lst us])[(S0 ++ (X ++ G)).length]? = some (.lst us) := by rw [ga0]; rfl
 have hz : vs.length + us.length ≤ LIM := by unfold LIM; omega
 have ea : bJ (.ref l) (.ref (S0 ++ (X ++ G)).length) (S0 ++ (X ++ G) ++ [O.lst us]) = some (.ref (S0 ++ (X ++ G) ++ [O.lst us]).length, S0 ++ (X ++ G) ++ [O.lst us] ++ [.lst (vs ++ us)]) := by
  simp only [bJ, mK, g1, g2]
  rw [if_pos hz]
 refine ⟨(S0 ++ (X ++ G) ++ [O.lst us]).length, G ++ [.lst us, .lst (vs ++ us)], ?_, ?_⟩
 ·rw [xa, rD, hi, Option.bind_some, ju, rN, e, Option.bind_some, pF, Option.bind_some, jt, ea, Option.bind_some, rL, hs]; simp only [List.append_assoc, List.cons_append, List.nil_append]
 ·have e2 : S0 ++ (X ++ (G ++ [.lst us, .lst (vs ++ us)])) = S0 ++ (X ++ G) ++ [O.lst us] ++ [.lst (vs ++ us)] := by simp only [List.append_assoc, List.cons_append, List.nil_append]
  rw [e2]
  refine ⟨by simp; omega, vs ++ us, by rw [ga0]; rfl, by rw [List.length_append, lv, hl], fun u hu => ?_⟩
  rcases List.mem_append.mp hu with hu | hu
  ·have := ((gv u hu).app G).app ([.lst us] ++ [.lst (vs ++ us)])
   rw [List.append_assoc S0 X G, ← List.append_assoc] at this
   exact this
  ·exact ((g u hu).app _).app _
end
theorem Gd.pen {ns : List Int} {a c a' c' : Int} {T : Sto} {u : U} (h : Gd (scr ns :: pen a c :: T) u) : Gd (scr ns :: pen a' c' :: T) u := by
 induction h with
 | non => exact .non
 | bl b => exact .bl b
 | int i => exact .int i
 | str x => exact .str x
 | tup _ ih => exact .tup ih
 | lst h =>
  rename_i l us
  match l, h with
  | 0, h => exact .lst h
  | 1, h => exact .lst (us := [.ref 0, .int a', .int c']) rfl
  | l + 2, h => exact .lst h
theorem LsI.at {ns : List Int} {a c a' c' : Int} {T : Sto} {l k : Nat} (L : LsI (scr ns :: pen a c :: T) l k) {f : Int} (f0 : 0 ≤ f) (f1 : f < k) : ∃ u, fIx (.ref l) (.int f) (scr ns :: pen a' c' :: T) = some (u, scr ns :: pen a' c' :: T) ∧ Gd (scr ns :: pen a' c' :: T) u := by
 obtain ⟨us, h, hl, g⟩ := L.ex
 have t2 := L.two
 obtain ⟨l', rfl⟩ : ∃ l', l = l' + 2 := ⟨l - 2, by omega⟩
 have h' : (scr ns :: pen a' c' :: T)[l' + 2]? = some (.lst us) := h
 have hf : f.toNat < us.length := by omega
 obtain ⟨u, hu⟩ : ∃ u, us[f.toNat]? = some u := ⟨_, List.getElem?_eq_getElem hf⟩
 have ai : atI us f = some u := by
  have := fO (xs := us) (j := f.toNat) (v := u) hu
  rw [show ((f.toNat : Nat) : Int) = f from by omega] at this
  exact this
 refine ⟨u, ?_, (g u (List.mem_of_getElem? hu)).pen⟩
 rw [zp, h', zq, ai]; rfl
theorem CU {us : List U} {S : Sto} (h : us ≠ []) : fSl (.tup us) none (some (-1)) S = some (.tup (us.take (us.length - 1)), S) := by
 have hp : 0 < us.length := List.length_pos_iff.mpr h
 have e : HT.sIx us.length us.length (some (-1)) = us.length - 1 := by
  show (if (-1 : Int) < 0 then ((-1 : Int) + us.length).toNat else min ((-1 : Int)).toNat us.length) = us.length - 1
  rw [if_pos (by decide)]; omega
 simp only [fSl, HT.sIx_none, e, yL, List.drop_zero, Nat.sub_zero]
 rw [if_neg (by omega)]
noncomputable def rhB (n w : Int) (du : U) (more : Int) (q : Option U) : Rho := [some (.ref 1), some (.tup [.int n, .int w]), some du, some (.int more), q]
section
variable {n w more : Int} {S0 : Sto} {y : Str} {r : List U}
theorem E5 (h : Gd S0 (.tup (.str y :: r))) (m : Nat) : Gd S0 (.tup ((U.str y :: r).take m)) := .tup fun u hu => h.mem u (List.mem_of_mem_take hu)
theorem Bm {q : Option U} {S : Sto} : cOp fIx (ak 2) (cC (.int 0)) (rhB n w (.tup (.str y :: r)) more q) S = some (.str y, S) := by
 have e : ak 2 (rhB n w (.tup (.str y :: r)) more q) S = some (.tup (.str y :: r), S) := rfl
 rw [rD, e, Option.bind_some, ju]
 show BG fIx (.tup (.str y :: r)) (.int 0, S) = _
 have ai : atI (U.str y :: r) 0 = some (.str y) := fO (xs := U.str y :: r) (j := 0) (v := .str y) rfl
 rw [jt, xn, ai]; rfl
theorem bd1 (h : Gd S0 (.tup (.str y :: r))) (hl : r.length ≤ 10) : lj S0 (rhB n w (.tup (.str y :: r)) more) (ab (cCB dD (ab (ak 2) aq)) (ab (cOp fIx (ak 2) (cC (.int 0))) (ab (cC .non) (ab (aF aq) (ab (cOp bJ (ak 2) (aF (ab (cC (.int 0)) aq))) (ab (cSl (ak 2) none (some (DP (cC (.int 1))))) aq)))))) 6 := by
 refine aR (fun q X => ?_) (aR (eL (fun q X => Bm) (.str y)) (aR eM (aR (eW dc) (aR (eL (u := .tup (.str y :: r ++ [.int 0])) (fun q X => ?_) ?_) (aR (eL (u := .tup ((U.str y :: r).take ((U.str y :: r).length - 1))) (fun q X => ?_) (E5 h _)) cK)))))
 ·refine ⟨.ref (S0 ++ X).length, [.lst (.str y :: r)], ?_, .lst (us := .str y :: r) ?_⟩
  ·show some (U.ref (S0 ++ X).length, S0 ++ X ++ [O.lst (.str y :: r)]) = _
   rw [List.append_assoc]
  ·rw [← List.append_assoc, ga0]; rfl
 ·exact gm (us := .str y :: r) (vs := [.int 0]) (by simp; omega)
 ·exact .tup fun u hu => by
   rcases List.mem_append.mp hu with hu | hu
   ·exact h.mem u hu
   ·rw [List.mem_singleton.mp hu]; exact .int 0
 ·exact CU (List.cons_ne_nil _ _)
theorem CN (h : Gd S0 (.tup (.str y :: r))) (hy : y.length ≤ 4) (hl : r.length ≤ 10) : EvG S0 (rhB n w (.tup (.str y :: r)) more) (cOp bJ (aF (ab (mW dB (cOp fIx (ak 2) (cC (.int 0)))) aq)) (cSl (ak 2) (some (cC (.int 1))) none)) := by
 refine eL (u := .tup ([.str (Txt.upper y)] ++ r)) (fun q X => ?_) (.tup fun u hu => ?_)
 ·have e1 : mW dB (cOp fIx (ak 2) (cC (.int 0))) (rhB n w (.tup (.str y :: r)) more q) (S0 ++ X) = some (.str (Txt.upper y), S0 ++ X) := by
   unfold mW
   rw [Bm, Option.bind_some]
   show (if (Txt.upper y).length ≤ 100000 then some (U.str (Txt.upper y), S0 ++ X) else none) = _
   rw [if_pos (Nat.le_trans (len_upper y) (by omega))]
  have e2 : cSl (ak 2) (some (cC (.int 1))) none (rhB n w (.tup (.str y :: r)) more q) (S0 ++ X) = some (.tup r, S0 ++ X) := oA (us := .str y :: r) (k := 1) (by decide) (by simp)
  rw [rD, uX, mY, e1, Option.bind_some, me]
  show (Dr bJ (cSl (ak 2) (some (cC (.int 1))) none) (rhB n w (.tup (.str y :: r)) more q)) (.tup [.str (Txt.upper y)], S0 ++ X) = _
  rw [ju, e2, Option.bind_some, jt]
  exact gm (by simp; omega)
 ·rcases List.mem_append.mp hu with hu | hu
  ·rw [List.mem_singleton.mp hu]; exact .str _
  ·exact h.mem u (List.mem_cons_of_mem _ hu)
theorem Dj {us : List U} (h : Gd S0 (.tup us)) : EvG S0 (rhB n w (.tup us) more) (cCB dD (ab (ak 2) aq)) := fun q X => by
 refine ⟨.ref (S0 ++ X).length, [.lst us], ?_, .lst (us := us) ?_⟩
 ·show some (U.ref (S0 ++ X).length, S0 ++ X ++ [O.lst us]) = _
  rw [List.append_assoc]
 ·rw [← List.append_assoc, ga0]; rfl
theorem CM {du : U} (h : Gd S0 du) : EvG S0 (rhB n w du more) (ak 2) := eL (fun _ _ => rfl) h
end
section
variable {n w more : Int} {S0 : Sto} {du : U}
theorem bd2 (hv : EvG S0 (rhB n w du more) (ak 2)) (hs : EvG S0 (rhB n w du more) (cCB dD (ab (ak 2) aq))) (hu : EvG S0 (rhB n w du more) (cOp bJ (aF (ab (mW dB (cOp fIx (ak 2) (cC (.int 0)))) aq)) (cSl (ak 2) (some (cC (.int 1))) none))) : lj S0 (rhB n w du more) (ab (cOp bJ (aF (ab (mW dB (cOp fIx (ak 2) (cC (.int 0)))) aq)) (cSl (ak 2) (some (cC (.int 1))) none)) (ab (aF (ab (cC (.str "hush")) aq)) (ab (aF (ab (cC (.str "wait")) (ab (cC (.int 0)) aq))) aq))) 3 := by
 repeat' first | exact cK | exact dc | exact fT | exact ik | exact eM | exact hv | exact hs | exact hu | apply aR | apply cE | apply eW | apply fq | exact fu fun q X => ⟨_, rfl⟩
theorem bd3 (hv : EvG S0 (rhB n w du more) (ak 2)) (hs : EvG S0 (rhB n w du more) (cCB dD (ab (ak 2) aq))) (hu : EvG S0 (rhB n w du more) (cOp bJ (aF (ab (mW dB (cOp fIx (ak 2) (cC (.int 0)))) aq)) (cSl (ak 2) (some (cC (.int 1))) none))) : lj S0 (rhB n w du more) (ab (aF (ab (cC (.str "look")) (ab (cC (.int 4)) (ab (cC (.int 0)) aq)))) (ab (aF (ab (cC (.str "look")) (ab (cC (.int 0)) (ab (cOp fIx (ak 1) (cC (.int 0))) aq)))) (ab (aF (ab (cC (.str "look")) (ab (cC (.bl true)) (ab (cC (.int 0)) aq)))) aq))) 3 := by
 repeat' first | exact cK | exact dc | exact fT | exact ik | exact eM | exact hv | exact hs | exact hu | apply aR | apply cE | apply eW | apply fq | exact fu fun q X => ⟨_, rfl⟩
theorem bd4 (hv : EvG S0 (rhB n w du more) (ak 2)) (hs : EvG S0 (rhB n w du more) (cCB dD (ab (ak 2) aq))) (hu : EvG S0 (rhB n w du more) (cOp bJ (aF (ab (mW dB (cOp fIx (ak 2) (cC (.int 0)))) aq)) (cSl (ak 2) (some (cC (.int 1))) none))) : lj S0 (rhB n w du more) (ab (aF (ab (cC (.str "look")) (ab (cC (.int 0)) (ab (cOp eV (cC (.int 0)) (cC (.int 1))) aq)))) (ab (aF (ab (cC (.str "put")) (ab (cOp fIx (ak 1) (cC (.int 0))) (ab (cC (.int 0)) aq)))) aq)) 2 := by
 repeat' first | exact cK | exact dc | exact fT | exact ik | exact eM | exact hv | exact hs | exact hu | apply aR | apply cE | apply eW | apply fq | exact fu fun q X => ⟨_, rfl⟩
theorem bd5 (hv : EvG S0 (rhB n w du more) (ak 2)) (hs : EvG S0 (rhB n w du more) (cCB dD (ab (ak 2) aq))) (hu : EvG S0 (rhB n w du more) (cOp bJ (aF (ab (mW dB (cOp fIx (ak 2) (cC (.int 0)))) aq)) (cSl (ak 2) (some (cC (.int 1))) none))) : lj S0 (rhB n w du more) (ab (aF (ab (cC (.str "put")) (ab (cC (.int 0)) (ab (cC (.int 4)) aq)))) (ab (aF (ab (cC (.str "put")) (ab (cC (.int 0)) (ab (cOp eV (cOp eV (cC (.int 0)) (cC (.int 1))) (ak 3)) aq)))) aq)) 2 := by
 repeat' first | exact cK | exact dc | exact fT | exact ik | exact eM | exact hv | exact hs | exact hu | apply aR | apply cE | apply eW | apply fq | exact fu fun q X => ⟨_, rfl⟩
theorem bd6 (hv : EvG S0 (rhB n w du more) (ak 2)) (hs : EvG S0 (rhB n w du more) (cCB dD (ab (ak 2) aq))) (hu : EvG S0 (rhB n w du more) (cOp bJ (aF (ab (mW dB (cOp fIx (ak 2) (cC (.int 0)))) aq)) (cSl (ak 2) (some (cC (.int 1))) none))) : lj S0 (rhB n w du more) (ab (aF (ab (cC (.str "set")) (ab (cC (.int 0)) (ab (cOp bJ (cOp fIx (ak 1) (cC (.int 1))) (ak 3)) aq)))) (ab (aF (ab (cC (.str "set")) (ab (cC (.int 0)) (ab (cC (.str "0")) aq)))) (ab (aF (ab (cC (.str "set")) (ab (cC (.int 0)) (ab (cC .non) aq)))) aq))) 3 := by
 repeat' first | exact cK | exact dc | exact fT | exact ik | exact eM | exact hv | exact hs | exact hu | apply aR | apply cE | apply eW | apply fq | exact fu fun q X => ⟨_, rfl⟩
theorem bd7 (hv : EvG S0 (rhB n w du more) (ak 2)) (hs : EvG S0 (rhB n w du more) (cCB dD (ab (ak 2) aq))) (hu : EvG S0 (rhB n w du more) (cOp bJ (aF (ab (mW dB (cOp fIx (ak 2) (cC (.int 0)))) aq)) (cSl (ak 2) (some (cC (.int 1))) none))) : lj S0 (rhB n w du more) (ab (aF (ab (cC (.str "plus")) (ab (cC (.int 0)) (ab (cC (.int 4)) aq)))) (ab (aF (ab (cC (.str "plus")) (ab (cOp eV (cC (.int 0)) (cC (.int 1))) (ab (cC (.int 0)) aq)))) (ab (aF (ab (cC (.str "leap")) (ab (cC (.int 0)) (ab (cC (.int 0)) aq)))) aq))) 3 := by
 repeat' first | exact cK | exact dc | exact fT | exact ik | exact eM | exact hv | exact hs | exact hu | apply aR | apply cE | apply eW | apply fq | exact fu fun q X => ⟨_, rfl⟩
theorem bd8 (hv : EvG S0 (rhB n w du more) (ak 2)) (hs : EvG S0 (rhB n w du more) (cCB dD (ab (ak 2) aq))) (hu : EvG S0 (rhB n w du more) (cOp bJ (aF (ab (mW dB (cOp fIx (ak 2) (cC (.int 0)))) aq)) (cSl (ak 2) (some (cC (.int 1))) none))) : lj S0 (rhB n w du more) (ab (aF (ab (cC (.str "leap")) (ab (cC (.int 0)) (ab (cC (.int 13)) aq)))) (ab (aF (ab (cC (.str "leap")) (ab (cC (.int 4)) (ab (cC (.int 1)) aq)))) (ab (aF (ab (cC (.str "leap")) (ab (cC (.int 0)) (ab (cC (.bl true)) aq)))) aq))) 3 := by
 repeat' first | exact cK | exact dc | exact fT | exact ik | exact eM | exact hv | exact hs | exact hu | apply aR | apply cE | apply eW | apply fq | exact fu fun q X => ⟨_, rfl⟩
theorem bd9 (hv : EvG S0 (rhB n w du more) (ak 2)) (hs : EvG S0 (rhB n w du more) (cCB dD (ab (ak 2) aq))) (hu : EvG S0 (rhB n w du more) (cOp bJ (aF (ab (mW dB (cOp fIx (ak 2) (cC (.int 0)))) aq)) (cSl (ak 2) (some (cC (.int 1))) none))) : lj S0 (rhB n w du more) (ab (aF (ab (cC (.str "try")) (ab (aF aq) (ab (aF aq) aq)))) (ab (aF (ab (cC (.str "try")) (ab (aF aq) (ab (eD aq) aq)))) (ab (aF (ab (cC (.str "try")) (ab (aF (ab (aF (ab (cC (.str "wait")) aq)) aq)) aq))) aq))) 3 := by
 repeat' first | exact cK | exact dc | exact fT | exact ik | exact eM | exact hv | exact hs | exact hu | apply aR | apply cE | apply eW | apply fq | exact fu fun q X => ⟨_, rfl⟩
theorem Fd (hv : EvG S0 (rhB n w du more) (ak 2)) (hs : EvG S0 (rhB n w du more) (cCB dD (ab (ak 2) aq))) (hu : EvG S0 (rhB n w du more) (cOp bJ (aF (ab (mW dB (cOp fIx (ak 2) (cC (.int 0)))) aq)) (cSl (ak 2) (some (cC (.int 1))) none))) : lj S0 (rhB n w du more) (ab (aF (ab (cC (.str "try")) (ab (aF aq) (ab (aF aq) (ab (aF aq) aq))))) (ab (aF (ab (cC (.str "try")) (ab (cC .non) (ab (aF aq) aq)))) aq)) 2 := by
 repeat' first | exact cK | exact dc | exact fT | exact ik | exact eM | exact hv | exact hs | exact hu | apply aR | apply cE | apply eW | apply fq | exact fu fun q X => ⟨_, rfl⟩
theorem Fc (hv : EvG S0 (rhB n w du more) (ak 2)) (hs : EvG S0 (rhB n w du more) (cCB dD (ab (ak 2) aq))) (hu : EvG S0 (rhB n w du more) (cOp bJ (aF (ab (mW dB (cOp fIx (ak 2) (cC (.int 0)))) aq)) (cSl (ak 2) (some (cC (.int 1))) none))) : lj S0 (rhB n w du more) (ab (aF (ab (cC (.str "try")) (ab (aF (ab (ak 2) aq)) (ab (aF (ab (cCB dD (ab (ak 2) aq)) aq)) aq)))) (ab (aF (ab (ak 2) aq)) (ab (aF (ab (cC (.str "set")) (ab (cC (.int 0)) aq))) aq))) 3 := by
 repeat' first | exact cK | exact dc | exact fT | exact ik | exact eM | exact hv | exact hs | exact hu | apply aR | apply cE | apply eW | apply fq | exact fu fun q X => ⟨_, rfl⟩
theorem Fb (hv : EvG S0 (rhB n w du more) (ak 2)) (hs : EvG S0 (rhB n w du more) (cCB dD (ab (ak 2) aq))) (hu : EvG S0 (rhB n w du more) (cOp bJ (aF (ab (mW dB (cOp fIx (ak 2) (cC (.int 0)))) aq)) (cSl (ak 2) (some (cC (.int 1))) none))) : lj S0 (rhB n w du more) (ab (aF (ab (aF (ab (cC (.str "look")) aq)) (ab (cC (.int 0)) (ab (cC (.int 0)) aq)))) (ab (aF (ab (cC (.str "leap")) (ab (cC (.int 0)) (ab (cOp bJ (cC (.int 13)) (ak 3)) aq)))) aq)) 2 := by
 repeat' first | exact cK | exact dc | exact fT | exact ik | exact eM | exact hv | exact hs | exact hu | apply aR | apply cE | apply eW | apply fq | exact fu fun q X => ⟨_, rfl⟩
theorem E9 (hv : EvG S0 (rhB n w du more) (ak 2)) (hs : EvG S0 (rhB n w du more) (cCB dD (ab (ak 2) aq))) (hu : EvG S0 (rhB n w du more) (cOp bJ (aF (ab (mW dB (cOp fIx (ak 2) (cC (.int 0)))) aq)) (cSl (ak 2) (some (cC (.int 1))) none))) : lj S0 (rhB n w du more) (ab (aF (ab (cC (.str "look")) (ab (eD (ab (cC (.int 0)) aq)) (ab (cC (.int 0)) aq)))) (ab (aF (ab (cC (.str "set")) (ab (cC (.int 0)) (ab (eD (ab (cC (.int 0)) aq)) aq)))) (ab (aF (ab (eD (ab (cC (.str "wait")) aq)) aq)) (ab (aF (ab (cC (.str "put")) (ab (aF (ab (cC (.int 0)) aq)) (ab (cC (.int 0)) aq)))) aq)))) 4 := by
 repeat' first | exact cK | exact dc | exact fT | exact ik | exact eM | exact hv | exact hs | exact hu | apply aR | apply cE | apply eW | apply fq | exact fu fun q X => ⟨_, rfl⟩
end
noncomputable def kO : Fn := fnU 5 3 (cq bH)
theorem wo (ns : List Int) (T : Sto) {n w a c : Int} (ha : 0 ≤ a) (hc : 0 ≤ c) {y : Str} {r : List U} (h : Gd (scr ns :: pen a c :: T) (.tup (.str y :: r))) (hy : y.length ≤ 4) (hl : r.length ≤ 10) :
  ∃ u a' c' G, kO [.ref 1, .tup [.int n, .int w], .tup (.str y :: r)] (scr ns :: pen a c :: T) = some (u, scr ns :: pen a' c' :: (T ++ G)) ∧ Gd (scr ns :: pen a' c' :: (T ++ G)) u ∧ 0 ≤ a' ∧ 0 ≤ c' := by
 unfold kO
 rw [jf]
 obtain ⟨m, hm⟩ : ∃ m : Int, m = 10 ^ (50 : Int).toNat := ⟨_, rfl⟩
 have hp : ∀ {S : Sto}, rH (.int 10) (.int 50) S = some (.int m, S) := by rw [hm]; exact xb (by decide)
 obtain ⟨f, a1, c1, e0, f0, f1, ha1, hc1⟩ := bo ns T ha hc (m := m) (by rw [hm]; decide +kernel) (by rw [hm]; decide +kernel)
 obtain ⟨du, hdu⟩ : ∃ du, du = U.tup (.str y :: r) := ⟨_, rfl⟩
 have h1 : Gd (scr ns :: pen a1 c1 :: T) (.tup (.str y :: r)) := h.pen
 have hv : EvG (scr ns :: pen a1 c1 :: T) (rhB n w du f) (ak 2) := by rw [hdu]; exact CM h1
 have hs : EvG (scr ns :: pen a1 c1 :: T) (rhB n w du f) (cCB dD (ab (ak 2) aq)) := by rw [hdu]; exact Dj h1
 have hu := CN (n := n) (w := w) (more := f) h1 hy hl
 have b1 := bd1 (n := n) (w := w) (more := f) h1 hl
 rw [← hdu] at hu b1 ⊢
 have E0 : b8 3 (cCB bH (ab (ak 0) (ab (cOp rH (cC (.int 10)) (cC (.int 50))) aq))) [some (.ref 1), some (.tup [.int n, .int w]), some du, none, none] (scr ns :: pen a c :: T) = some (.nx, rhB n w du f none, scr ns :: pen a1 c1 :: T) := by
  rwa [rhB, hp, e0]
 have hset : ∀ q u, (rhB n w du f q).set 4 (some u) = rhB n w du f (some u) := fun _ _ => rfl
 have hget : ∀ u S, ak 4 (rhB n w du f (some u)) S = some (u, S) := fun _ _ => rfl
 have two : 2 ≤ (scr ns :: pen a1 c1 :: T).length := by simp
 obtain ⟨l1, G1, e1, L1⟩ := qk (q := none) (X := []) hset two b1
 rw [List.append_nil, List.nil_append] at e1
 rw [List.nil_append] at L1
 obtain ⟨l2, G2, e2, L2⟩ := dM hset hget two L1 (by decide) (bd2 hv hs hu)
 obtain ⟨l3, G3, e3, L3⟩ := dM hset hget two L2 (by decide) (bd3 hv hs hu)
 obtain ⟨l4, G4, e4, L4⟩ := dM hset hget two L3 (by decide) (bd4 hv hs hu)
 obtain ⟨l5, G5, e5, L5⟩ := dM hset hget two L4 (by decide) (bd5 hv hs hu)
 obtain ⟨l6, G6, e6, L6⟩ := dM hset hget two L5 (by decide) (bd6 hv hs hu)
 obtain ⟨l7, G7, e7, L7⟩ := dM hset hget two L6 (by decide) (bd7 hv hs hu)
 obtain ⟨l8, G8, e8, L8⟩ := dM hset hget two L7 (by decide) (bd8 hv hs hu)
 obtain ⟨l9, G9, e9, L9⟩ := dM hset hget two L8 (by decide) (bd9 hv hs hu)
 obtain ⟨l10, G10, e10, L10⟩ := dM hset hget two L9 (by decide) (Fd hv hs hu)
 obtain ⟨l11, G11, e11, L11⟩ := dM hset hget two L10 (by decide) (Fc hv hs hu)
 obtain ⟨l12, G12, e12, L12⟩ := dM hset hget two L11 (by decide) (Fb hv hs hu)
 obtain ⟨l13, G13, e13, L13⟩ := dM hset hget two L12 (by decide) (E9 hv hs hu)
 unfold cq
 rw [fE E0, fE e1, fE e2, fE e3, fE e4, fE e5, fE e6, fE e7, fE e8, fE e9, fE e10, fE e11, fE e12, fE e13]
 clear e1 e2 e3 e4 e5 e6 e7 e8 e9 e10 e11 e12 e13 L1 L2 L3 L4 L5 L6 L7 L8 L9 L10 L11 L12 b1 hu hs hv
 revert L13
 generalize G1 ++ G2 ++ G3 ++ G4 ++ G5 ++ G6 ++ G7 ++ G8 ++ G9 ++ G10 ++ G11 ++ G12 ++ G13 = X
 intro L13
 have L : LsI (scr ns :: pen a1 c1 :: (T ++ X)) l13 39 := L13
 obtain ⟨g, a2, c2, e2, g0, g1, ha2, hc2⟩ := bo ns (T ++ X) ha1 hc1 (m := 39) (by decide) (by decide)
 obtain ⟨u, eu, gu⟩ := L.at (a' := a2) (c' := c2) g0 g1
 refine ⟨u, a2, c2, X, ?_, gu, ha2, hc2⟩
 show (cS (cOp fIx (ak 4) (cCB bH (ab (ak 0) (ab (cC (.int 39)) aq)))) (rhB n w du f (some (.ref l13))) (scr ns :: pen a1 c1 :: (T ++ X))).bind kFn = _
 have e3 : cCB bH (ab (ak 0) (ab (cC (.int 39)) aq)) (rhB n w du f (some (.ref l13))) (scr ns :: pen a1 c1 :: (T ++ X)) = some (.int g, scr ns :: pen a2 c2 :: (T ++ X)) := e2
 rw [qH, rD, hget, Option.bind_some, ju, e3, Option.bind_some, jt, eu]
 rfl
noncomputable def Shw (u : U) (k D : Nat) : Prop := ∀ S : Sto, ∃ d, Dt S u d ∧ d.showable = true ∧ d.hasDict = false ∧ d.depth ≤ D ∧ d.shown.length ≤ k
theorem Shw.mono {u : U} {k k' D D' : Nat} (h : Shw u k D) (hk : k ≤ k') (hD : D ≤ D') : Shw u k' D' := fun S => by
 obtain ⟨d, h1, h2, h3, h4, h5⟩ := h S
 exact ⟨d, h1, h2, h3, Nat.le_trans h4 hD, Nat.le_trans h5 hk⟩
theorem sx {k D : Nat} : ∀ us : List U, (∀ u ∈ us, Shw u k D) → ∀ S : Sto, ∃ ds, DtL S us ds ∧ PyData.showableAll ds = true ∧ PyData.hasDictAll ds = false ∧ PyData.depthAll ds ≤ D ∧ ((PyData.shownAll ds).map (·.length)).sum ≤ us.length * k ∧ (PyData.shownAll ds).length = us.length
 | [], _, S => ⟨[], .nil, by simp only [PyData.showableAll], by simp only [PyData.hasDictAll], by simp only [PyData.depthAll]; omega, by simp [PyData.shownAll], by simp [PyData.shownAll]⟩
 | u :: us, h, S => by
  obtain ⟨d, h1, h2, h3, h4, h5⟩ := h u List.mem_cons_self S
  obtain ⟨ds, g1, g2, g3, g4, g5, g6⟩ := sx us (fun v hv => h v (List.mem_cons_of_mem _ hv)) S
  refine ⟨d :: ds, .cons h1 g1, by simp only [PyData.showableAll, h2, g2, Bool.and_true], by simp only [PyData.hasDictAll, h3, g3, Bool.or_false], by simp only [PyData.depthAll]; omega, ?_, by simp only [PyData.shownAll, List.length_cons, g6]⟩
  simp only [PyData.shownAll, List.map_cons, List.sum_cons, List.length_cons, Nat.succ_mul, Nat.add_mul, Nat.one_mul]
  omega
theorem oC {us : List U} {k D m : Nat} (h : ∀ u ∈ us, Shw u k D) (hl : us.length ≤ m) : Shw (.tup us) (m * (k + 2) + 3) (D + 1) := fun S => by
 obtain ⟨ds, g1, g2, g3, g4, g5, g6⟩ := sx us h S
 refine ⟨.tuple ds, .tup g1, by simp only [PyData.showable, g2], by simp only [PyData.hasDict, g3], by simp only [PyData.depth]; omega, ?_⟩
 have e : (PyData.tuple ds).shown = tupleText (PyData.shownAll ds) := by simp only [PyData.shown]
 have t := tupleText_len_le (PyData.shownAll ds)
 rw [e]
 rw [g6] at t
 have m1 : us.length * (k + 2) ≤ m * (k + 2) := Nat.mul_le_mul_right _ hl
 rw [Nat.mul_add] at m1
 omega
theorem xR {i : Int} (h0 : 0 ≤ i) (h1 : i < 1000) : Shw (.int i) 13 0 := fun S => by
 refine ⟨.int i, .int i, ?_, by simp only [PyData.hasDict], by simp only [PyData.depth]; omega, PyData.shown_int_le (by omega)⟩
 simp only [PyData.showable]
 have := Nat.log2_le_self i.natAbs
 exact decide_eq_true (by omega)
theorem gO {x : Str} (h : (reprText x).length ≤ 13) : Shw (.str x) 13 0 := fun S => ⟨.str x, .str x, by simp only [PyData.showable], by simp only [PyData.hasDict], by simp only [PyData.depth]; omega, by simp only [PyData.shown]; exact h⟩
noncomputable def kd : Nat → Nat
 | 0 => 48
 | j + 1 => 3 * ((12 * (kd j + 2) + 3) + 2) + 3
section
variable {α : Type} {n w : Int} {f : α → U} {q : List α → Prop}
theorem wI (n1 : n ≤ 6) (w1 : w ≤ 1000) {d : qG} (ok : d.ok n w) : ∃ y r, d.u = .tup (.str y :: r) ∧ y.length ≤ 4 ∧ r.length ≤ 2 ∧ Shw (.str y) 13 0 ∧ (∀ x ∈ r, ∃ i : Int, x = .int i ∧ 0 ≤ i ∧ i < 1000) := by
 have two : ∀ {i j : Int}, 0 ≤ i ∧ i < 1000 → 0 ≤ j ∧ j < 1000 → ∀ x ∈ [U.int i, U.int j], ∃ i : Int, x = .int i ∧ 0 ≤ i ∧ i < 1000 := fun {i j} hi hj x hx => by
  rcases List.mem_cons.mp hx with rfl | hx
  ·exact ⟨i, rfl, hi⟩
  ·rw [List.mem_singleton.mp hx]; exact ⟨j, rfl, hj⟩
 cases d with
 | look i j =>
  obtain ⟨h1, h2, h3, h4⟩ : 0 ≤ i ∧ i < 4 ∧ 0 ≤ j ∧ j < n := ok
  exact ⟨_, _, rfl, by decide +kernel, Nat.le_refl 2, gO (by decide +kernel), two ⟨h1, by omega⟩ ⟨h3, by omega⟩⟩
 | put i j =>
  obtain ⟨h1, h2, h3, h4⟩ : 0 ≤ j ∧ j < 4 ∧ 0 ≤ i ∧ i < n := ok
  exact ⟨_, _, rfl, by decide +kernel, Nat.le_refl 2, gO (by decide +kernel), two ⟨h3, by omega⟩ ⟨h1, by omega⟩⟩
 | set i j =>
  obtain ⟨h1, h2, h3, h4⟩ : 0 ≤ i ∧ i < 4 ∧ 0 ≤ j ∧ j < w := ok
  exact ⟨_, _, rfl, by decide +kernel, Nat.le_refl 2, gO (by decide +kernel), two ⟨h1, by omega⟩ ⟨h3, by omega⟩⟩
 | plus i j =>
  obtain ⟨h1, h2, h3, h4⟩ : 0 ≤ i ∧ i < 4 ∧ 0 ≤ j ∧ j < 4 := ok
  exact ⟨_, _, rfl, by decide +kernel, Nat.le_refl 2, gO (by decide +kernel), two ⟨h1, by omega⟩ ⟨h3, by omega⟩⟩
 | leap i j =>
  obtain ⟨h1, h2, h3, h4⟩ : 0 ≤ i ∧ i < 4 ∧ 1 ≤ j ∧ j ≤ 12 := ok
  exact ⟨_, _, rfl, by decide +kernel, Nat.le_refl 2, gO (by decide +kernel), two ⟨h1, by omega⟩ ⟨by omega, by omega⟩⟩
 | wait => exact ⟨_, [], rfl, by decide +kernel, by decide, gO (by decide +kernel), fun x hx => by cases hx⟩
structure Dd (u : U) (K D : Nat) (ok : U → Prop) : Prop where
 ex : ∃ y r, u = .tup (.str y :: r) ∧ y.length ≤ 4 ∧ r.length ≤ 2 ∧ (∀ x ∈ U.str y :: r, Shw x K D) ∧ (∀ x ∈ r, (∃ i : Int, x = .int i ∧ 0 ≤ i ∧ i < 1000) ∨ ok x)
theorem yJ {K D : Nat} (hK : 13 ≤ K) (n1 : n ≤ 6) (w1 : w ≤ 1000) (hq : ∀ a, q a → Shw (.tup (a.map f)) K D) {d : DF α} (ok : d.ok n w q) : Dd (DF.u f d) K D (fun x => ∃ a, q a ∧ x = .tup (a.map f)) := by
 cases d with
 | pl d =>
  obtain ⟨y, r, e, h1, h2, h3, h4⟩ := wI n1 w1 ok
  refine ⟨y, r, e, h1, h2, fun x hx => ?_, fun x hx => .inl (h4 x hx)⟩
  rcases List.mem_cons.mp hx with rfl | hx
  ·exact h3.mono hK (Nat.zero_le _)
  ·obtain ⟨i, rfl, i0, i1⟩ := h4 x hx
   exact (xR i0 i1).mono hK (Nat.zero_le _)
 | tr a b =>
  refine ⟨_, _, rfl, by decide +kernel, Nat.le_refl 2, fun x hx => ?_, fun x hx => ?_⟩
  ·rcases List.mem_cons.mp hx with rfl | hx
   ·exact (gO (by decide +kernel)).mono hK (Nat.zero_le _)
   rcases List.mem_cons.mp hx with rfl | hx
   ·exact hq a ok.1
   ·rw [List.mem_singleton.mp hx]; exact hq b ok.2
  ·rcases List.mem_cons.mp hx with rfl | hx
   ·exact .inr ⟨a, ok.1, rfl⟩
   ·rw [List.mem_singleton.mp hx]; exact .inr ⟨b, ok.2, rfl⟩
theorem Dd.shw {u : U} {K D : Nat} {ok : U → Prop} (h : Dd u K D ok) : Shw u (3 * (K + 2) + 3) (D + 1) := by
 obtain ⟨y, r, rfl, h1, h2, h3, h4⟩ := h.ex
 exact oC h3 (by simp; omega)
end
section
variable {n w : Int}
theorem sv (n1 : n ≤ 6) (w1 : w ≤ 1000) : ∀ (j : Nat) (ds : List (Dl j)), OkM n w j ds → Shw (.tup (ds.map (Dl.u j))) (12 * (kd j + 2) + 3) (2 * j + 2)
 | 0, ds, ok => oC (D := 1) (fun u hu => by
   obtain ⟨d, hd, rfl⟩ := List.mem_map.mp hu
   exact (yJ (K := 13) (D := 0) (q := fun _ => False) (by decide) n1 w1 (fun _ z => z.elim) (ok.2 d hd)).shw) (by simpa using ok.1)
 | j + 1, ds, ok => oC (D := 2 * j + 3) (fun u hu => by
   obtain ⟨d, hd, rfl⟩ := List.mem_map.mp hu
   exact (yJ (K := 12 * (kd j + 2) + 3) (D := 2 * j + 2) (q := OkM n w j) (by omega) n1 w1 (sv n1 w1 j) (ok.2 d hd)).shw) (by simpa using ok.1)
theorem qO {u : U} {us : List U} {k D : Nat} (e : u = .tup us) (h : Shw u k D) (hk : k ≤ 2000000) (hD : D ≤ 40) (S : Sto) : ∃ z, kE [u] S = some (.str z, S) := by
 obtain ⟨d, h1, h2, h3, h4, h5⟩ := h S
 subst e
 have hx : ∃ d, Dt S (.tup us) d ∧ uw d := ⟨d, h1, h2, h3, Nat.le_trans h4 hD, Nat.le_trans h5 hk⟩
 unfold kE
 simp only
 rw [dif_pos hx]
 exact ⟨_, rfl⟩
end
theorem ni {us : List U} {k : Nat} {v : U} {ρ : Rho} {S S' : Sto} {ce : CE} (hk : k < us.length) (hl : us.length ≤ 40) (h2 : ρ[2]? = some (some (.tup us))) (h3 : ρ[3]? = some (some (.int k))) (he : ce ρ S = some (v, S')) :
  cOp bJ (cOp bJ (cSl (ak 2) none (some (ak 3))) (aF (ab ce aq))) (cSl (ak 2) (some (cOp bJ (ak 3) (cC (.int 1)))) none) ρ S = some (.tup (us.take k ++ [v] ++ us.drop (k + 1)), S') := by
 have v2 : ∀ S, ak 2 ρ S = some (.tup us, S) := fun S => by unfold ak; rw [h2]
 have v3 : ∀ S, ak 3 ρ S = some (.int k, S) := fun S => by unfold ak; rw [h3]
 have s1 : cSl (ak 2) none (some (ak 3)) ρ S = some (.tup (us.take k), S) := by
  unfold cSl
  rw [v2, Option.bind_some]
  show ((mO (some (ak 3)) ρ S).bind fun r => fSl (.tup us) none r.1 r.2) = _
  rw [so (v3 S), Option.bind_some]
  exact CQ hk
 have s2 : cSl (ak 2) (some (cOp bJ (ak 3) (cC (.int 1)))) none ρ S' = some (.tup (us.drop (k + 1)), S') := by
  have e : cOp bJ (ak 3) (cC (.int 1)) ρ S' = some (.int ((k + 1 : Nat) : Int), S') := by rw [rD, v3, Option.bind_some]; rfl
  unfold cSl
  rw [v2, Option.bind_some]
  show ((mO (some (cOp bJ (ak 3) (cC (.int 1)))) ρ S').bind fun q => (mO none ρ q.2).bind fun r => fSl (.tup us) q.1 r.1 r.2) = _
  rw [so e, Option.bind_some]
  exact oA (by omega) (by omega)
 have s3 : aF (ab ce aq) ρ S = some (.tup [v], S') := by rw [uX, mY, he]; rfl
 have l1 : (us.take k).length ≤ 40 := by rw [List.length_take]; omega
 have l2 : (us.drop (k + 1)).length ≤ 40 := by rw [List.length_drop]; omega
 rw [rD, rD, s1, Option.bind_some, ju, s3, Option.bind_some, jt, gm (by simp; omega), Option.bind_some, ju, s2, Option.bind_some, jt, gm (by simp; omega)]
theorem nj {us : List U} {k : Nat} {v : U} {S : Sto} (h : ∀ u ∈ us, Gd S u) (hv : Gd S v) : Gd S (.tup (us.take k ++ [v] ++ us.drop (k + 1))) := .tup fun u hu => by
 rcases List.mem_append.mp hu with hu | hu
 ·rcases List.mem_append.mp hu with hu | hu
  ·exact h u (List.mem_of_mem_take hu)
  ·rw [List.mem_singleton.mp hu]; exact hv
 ·exact h u (List.mem_of_mem_drop hu)
noncomputable def rhP (n w : Int) (du : U) (at_ : Nat) (more : Int) (q : Option U) : Rho := [some (.ref 1), some (.tup [.int n, .int w]), some du, some (.int at_), some (.int more), q]
section
variable {n w more : Int} {S0 : Sto} {us : List U} {k : Nat} {x : U}
theorem Ec {q : Option U} {S : Sto} (hx : us[k]? = some x) : cOp fIx (ak 2) (ak 3) (rhP n w (.tup us) k more q) S = some (x, S) := by
 have e : ak 2 (rhP n w (.tup us) k more q) S = some (.tup us, S) := rfl
 have e3 : ak 3 (rhP n w (.tup us) k more q) S = some (.int k, S) := rfl
 rw [rD, e, Option.bind_some, ju, e3, Option.bind_some, jt, xn, fO hx]; rfl
theorem bp1 {du : U} : lj S0 (rhP n w du k more) (ab (cOp eV (cC (.int 0)) (cC (.int 1))) (ab (cOp eV (cOp eV (cC (.int 0)) (cC (.int 1))) (ak 4)) (ab (cC (.int 4)) (ab (cC (.int 13)) (ab (cC (.int 0)) (ab (cC (.int 1)) (ab (cC (.int 12)) (ab (cOp fIx (ak 1) (cC (.int 0))) (ab (cOp fIx (ak 1) (cC (.int 1))) (ab (cOp bJ (cOp fIx (ak 1) (cC (.int 1))) (ak 4)) (ab (cC (.bl true)) (ab (cC (.bl false)) aq)))))))))))) 12 := by
 repeat' first | exact cK | exact ik | apply aR | exact fu fun q X => ⟨_, rfl⟩
theorem bp2 (hx : us[k]? = some x) (gx : Gd S0 x) (hz : ∀ S, ∃ z, kE [x] S = some (.str z, S)) : lj S0 (rhP n w (.tup us) k more) (ab (cC .non) (ab (cCB kE (ab (cOp fIx (ak 2) (ak 3)) aq)) (ab (aF (ab (cOp fIx (ak 2) (ak 3)) aq)) (ab (eD (ab (cOp fIx (ak 2) (ak 3)) aq)) aq)))) 4 := by
 have hv : EvG S0 (rhP n w (.tup us) k more) (cOp fIx (ak 2) (ak 3)) := eL (fun q X => Ec hx) gx
 refine aR eM (aR (fun q X => ?_) (aR (eW (cE hv dc)) (aR (fq (cE hv dc)) cK)))
 obtain ⟨z, ez⟩ := hz (S0 ++ X)
 refine ⟨.str z, [], ?_, .str z⟩
 rw [List.append_nil, DY, mY, Ec hx, Option.bind_some, me]
 exact ez
end
noncomputable def kN : Fn := fnU 6 3 (bS bH)
theorem we (ns : List Int) (T : Sto) {n w a c : Int} (ha : 0 ≤ a) (hc : 0 ≤ c) {y : U} {r : List U} (h : Gd (scr ns :: pen a c :: T) (.tup (y :: r))) (hl : r.length ≤ 10) (hz : ∀ x ∈ r, ∀ S, ∃ z, kE [x] S = some (.str z, S)) :
  ∃ u a' c' G, kN [.ref 1, .tup [.int n, .int w], .tup (y :: r)] (scr ns :: pen a c :: T) = some (u, scr ns :: pen a' c' :: (T ++ G)) ∧ Gd (scr ns :: pen a' c' :: (T ++ G)) u ∧ 0 ≤ a' ∧ 0 ≤ c' := by
 unfold kN
 rw [je]
 obtain ⟨us, hus⟩ : ∃ us, us = y :: r := ⟨_, rfl⟩
 have lus : us.length = r.length + 1 := by rw [hus]; rfl
 rw [← hus] at h ⊢
 by_cases hr : r.length = 0
 ·have d1 : decide ((us.length : Int) = 1) = true := decide_eq_true (by omega)
  have ea := gm (us := us) (vs := [.int 0]) (S := scr ns :: pen a c :: T) (by simp; omega)
  refine ⟨.tup (us ++ [.int 0]), a, c, [], ?_, ?_, ha, hc⟩
  ·rw [List.append_nil]
   rwa [bS, d1, ea]
  ·rw [List.append_nil]
   exact .tup fun u hu => by
    rcases List.mem_append.mp hu with hu | hu
    ·exact h.mem u hu
    ·rw [List.mem_singleton.mp hu]; exact .int 0
 ·have d1 : decide ((us.length : Int) = 1) = false := decide_eq_false (by omega)
  have E1 : dq (aE (cOp fEq (cCB gH (ab (ak 2) aq)) (cC (.int 1)))) (cS (cOp bJ (ak 2) (aF (ab (cC (.int 0)) aq)))) bP [some (.ref 1), some (.tup [.int n, .int w]), some (.tup us), none, none, none] (scr ns :: pen a c :: T) = some (.nx, [some (.ref 1), some (.tup [.int n, .int w]), some (.tup us), none, none, none], scr ns :: pen a c :: T) := by
   rwa [d1]
  obtain ⟨f, a1, c1, e1, f0, f1, ha1, hc1⟩ := bo ns T ha hc (m := (us.length : Int) - 1) (by omega) (by
   have := Nat.log2_le_self ((us.length : Int) - 1).natAbs
   omega)
  obtain ⟨k, hk⟩ : ∃ k : Nat, (k : Int) = 1 + f := ⟨(1 + f).toNat, by omega⟩
  have k1 : k < us.length := by omega
  have E2 : b8 3 (cOp bJ (cC (.int 1)) (cCB bH (ab (ak 0) (ab (cOp eV (cCB gH (ab (ak 2) aq)) (cC (.int 1))) aq)))) [some (.ref 1), some (.tup [.int n, .int w]), some (.tup us), none, none, none] (scr ns :: pen a c :: T) = some (.nx, [some (.ref 1), some (.tup [.int n, .int w]), some (.tup us), some (.int k), none, none], scr ns :: pen a1 c1 :: T) := by
   rw [hk]
   rwa [e1]
  obtain ⟨m, hm⟩ : ∃ m : Int, m = 10 ^ (50 : Int).toNat := ⟨_, rfl⟩
  have hp : ∀ {S : Sto}, rH (.int 10) (.int 50) S = some (.int m, S) := by rw [hm]; exact xb (by decide)
  obtain ⟨g, a2, c2, e2, g0, g1, ha2, hc2⟩ := bo ns T ha1 hc1 (m := m) (by rw [hm]; decide +kernel) (by rw [hm]; decide +kernel)
  have E3 : b8 4 (cCB bH (ab (ak 0) (ab (cOp rH (cC (.int 10)) (cC (.int 50))) aq))) [some (.ref 1), some (.tup [.int n, .int w]), some (.tup us), some (.int k), none, none] (scr ns :: pen a1 c1 :: T) = some (.nx, rhP n w (.tup us) k g none, scr ns :: pen a2 c2 :: T) := by
   rwa [rhP, hp, e2]
  obtain ⟨x, hx⟩ : ∃ x, us[k]? = some x := ⟨_, List.getElem?_eq_getElem k1⟩
  have xr : x ∈ r := by
   obtain ⟨k', rfl⟩ : ∃ k', k = k' + 1 := ⟨k - 1, by omega⟩
   rw [hus] at hx
   exact List.mem_of_getElem? (show r[k']? = some x from hx)
  have h2 : Gd (scr ns :: pen a2 c2 :: T) (.tup us) := h.pen
  have gx := h2.mem x (List.mem_of_getElem? hx)
  have hset : ∀ q u, (rhP n w (.tup us) k g q).set 5 (some u) = rhP n w (.tup us) k g (some u) := fun _ _ => rfl
  have hget : ∀ u S, ak 5 (rhP n w (.tup us) k g (some u)) S = some (u, S) := fun _ _ => rfl
  have two : 2 ≤ (scr ns :: pen a2 c2 :: T).length := by simp
  obtain ⟨l1, G1, e3, L1⟩ := qk (q := none) (X := []) hset two bp1
  rw [List.append_nil, List.nil_append] at e3
  rw [List.nil_append] at L1
  obtain ⟨l2, G2, e4, L2⟩ := dM hset hget two L1 (by decide) (bp2 hx gx (hz x xr))
  unfold bS
  rw [fE E1, fE E2, fE E3, fE e3, fE e4]
  clear e3 e4 L1
  revert L2
  generalize G1 ++ G2 = X
  intro L2
  have L : LsI (scr ns :: pen a2 c2 :: (T ++ X)) l2 16 := L2
  obtain ⟨i, a3, c3, e5, i0, i1, ha3, hc3⟩ := bo ns (T ++ X) ha2 hc2 (m := 16) (by decide) (by decide)
  obtain ⟨v, ev, gv⟩ := L.at (a' := a3) (c' := c3) i0 i1
  have e6 : cOp fIx (ak 5) (cCB bH (ab (ak 0) (ab (cC (.int 16)) aq))) (rhP n w (.tup us) k g (some (.ref l2))) (scr ns :: pen a2 c2 :: (T ++ X)) = some (v, scr ns :: pen a3 c3 :: (T ++ X)) := by
   have e7 : cCB bH (ab (ak 0) (ab (cC (.int 16)) aq)) (rhP n w (.tup us) k g (some (.ref l2))) (scr ns :: pen a2 c2 :: (T ++ X)) = some (.int i, scr ns :: pen a3 c3 :: (T ++ X)) := e5
   rw [rD, hget, Option.bind_some, ju, e7, Option.bind_some, jt, ev]
  have e8 := ni (us := us) (k := k) (ρ := rhP n w (.tup us) k g (some (.ref l2))) k1 (by omega) rfl rfl e6
  have h3 : Gd (scr ns :: pen a3 c3 :: (T ++ X)) (.tup us) := h2.app X |>.pen
  refine ⟨_, a3, c3, X, ?_, nj (k := k) h3.mem gv, ha3, hc3⟩
  show (cS _ (rhP n w (.tup us) k g (some (.ref l2))) (scr ns :: pen a2 c2 :: (T ++ X))).bind kFn = _
  rw [qH, e8]
  rfl
noncomputable def rhD (n w : Int) (u : U) (q : Option U) : Rho := [some (.ref 1), some (.tup [.int n, .int w]), some u, none, none]
section
variable {n w : Int} {S0 : Sto} {us : List U}
theorem bt1 (h : Gd S0 (.tup us)) (hl : us.length ≤ 12) : lj S0 (rhD n w (.tup us)) (ab (cCB dD (ab (ak 2) aq)) (ab (cOp bJ (ak 2) (aF (ab (ak 2) aq))) (ab (cOp bJ (ak 2) (aF (ab (aF (ab (cC (.str "wait")) (ab (aF aq) aq))) aq))) (ab (cC .non) aq)))) 4 := by
 have g1 : ∀ v, Gd S0 v → Gd S0 (.tup (us ++ [v])) := fun v hv => .tup fun u hu => by
  rcases List.mem_append.mp hu with hu | hu
  ·exact h.mem u hu
  ·rw [List.mem_singleton.mp hu]; exact hv
 refine aR (fun q X => ?_) (aR (eL (u := .tup (us ++ [.tup us])) (fun q X => ?_) (g1 _ h)) (aR (eL (u := .tup (us ++ [.tup [.str "wait", .tup []]])) (fun q X => ?_) (g1 _ ?_)) (aR eM cK)))
 ·refine ⟨.ref (S0 ++ X).length, [.lst us], ?_, .lst (us := us) ?_⟩
  ·show some (U.ref (S0 ++ X).length, S0 ++ X ++ [O.lst us]) = _
   rw [List.append_assoc]
  ·rw [← List.append_assoc, ga0]; rfl
 ·exact gm (us := us) (vs := [.tup us]) (by simp; omega)
 ·exact gm (us := us) (vs := [.tup [.str "wait", .tup []]]) (by simp; omega)
 ·exact .tup fun u hu => by
   rcases List.mem_cons.mp hu with rfl | hu
   ·exact .str _
   ·rw [List.mem_singleton.mp hu]; exact .tup fun u hu => by cases hu
theorem uk (ns : List Int) (T : Sto) {a c : Int} (ha : 0 ≤ a) (hc : 0 ≤ c) (h : Gd (scr ns :: pen a c :: T) (.tup us)) (hl : us.length ≤ 12) :
  ∃ u a' c' G, cS (cOp fIx (eD (ab (cCB dD (ab (ak 2) aq)) (ab (cOp bJ (ak 2) (aF (ab (ak 2) aq))) (ab (cOp bJ (ak 2) (aF (ab (aF (ab (cC (.str "wait")) (ab (aF aq) aq))) aq))) (ab (cC .non) aq))))) (cCB bH (ab (ak 0) (ab (cC (.int 4)) aq)))) [some (.ref 1), some (.tup [.int n, .int w]), some (.tup us), none, none] (scr ns :: pen a c :: T) = some (.rt u, [some (.ref 1), some (.tup [.int n, .int w]), some (.tup us), none, none], scr ns :: pen a' c' :: (T ++ G)) ∧ Gd (scr ns :: pen a' c' :: (T ++ G)) u ∧ 0 ≤ a' ∧ 0 ≤ c' := by
 obtain ⟨vs, G, e, lv, gv⟩ := bt1 (n := n) (w := w) h hl none []
 rw [List.append_nil, List.nil_append] at e
 rw [List.nil_append] at gv
 have e' : eD (ab (cCB dD (ab (ak 2) aq)) (ab (cOp bJ (ak 2) (aF (ab (ak 2) aq))) (ab (cOp bJ (ak 2) (aF (ab (aF (ab (cC (.str "wait")) (ab (aF aq) aq))) aq))) (ab (cC .non) aq)))) [some (.ref 1), some (.tup [.int n, .int w]), some (.tup us), none, none] (scr ns :: pen a c :: T) = some (.ref (scr ns :: pen a c :: (T ++ G)).length, scr ns :: pen a c :: (T ++ G ++ [O.lst vs])) := by
  have e1 := e
  unfold rhD at e1
  rw [rN, e1]
  rfl
 have L : LsI (scr ns :: pen a c :: (T ++ G ++ [O.lst vs])) (scr ns :: pen a c :: (T ++ G)).length 4 := by
  refine ⟨by simp, vs, ?_, lv, fun u hu => ?_⟩
  ·show ((scr ns :: pen a c :: (T ++ G)) ++ [O.lst vs])[(scr ns :: pen a c :: (T ++ G)).length]? = _
   rw [ga0]; rfl
  ·exact (gv u hu).app [O.lst vs]
 obtain ⟨l, hl'⟩ : ∃ l, l = (scr ns :: pen a c :: (T ++ G)).length := ⟨_, rfl⟩
 rw [← hl'] at L e'
 obtain ⟨i, a3, c3, e5, i0, i1, ha3, hc3⟩ := bo ns (T ++ G ++ [O.lst vs]) ha hc (m := 4) (by decide) (by decide)
 obtain ⟨v, ev, gv'⟩ := L.at (a' := a3) (c' := c3) i0 i1
 have e7 : cCB bH (ab (ak 0) (ab (cC (.int 4)) aq)) [some (.ref 1), some (.tup [.int n, .int w]), some (.tup us), none, none] (scr ns :: pen a c :: (T ++ G ++ [O.lst vs])) = some (.int i, scr ns :: pen a3 c3 :: (T ++ G ++ [O.lst vs])) := e5
 refine ⟨v, a3, c3, G ++ [O.lst vs], ?_, by rw [← List.append_assoc]; exact gv', ha3, hc3⟩
 rw [qH, rD, e', Option.bind_some, ju, e7, Option.bind_some, jt, ev, ← List.append_assoc]
 rfl
end
section
variable {α : Type} {n w : Int} {f : α → U} {k : List α → Prop}
noncomputable def HbT (n w : Int) (fb : Fn) (f : α → U) (k : List α → Prop) : Prop := ∀ (ns : List Int) (T : Sto) (a c : Int) (ds : List α), 0 ≤ a → 0 ≤ c → k ds → ∃ u a' c' G, fb [.ref 1, .tup [.int n, .int w], .tup (ds.map f)] (scr ns :: pen a c :: T) = some (u, scr ns :: pen a' c' :: (T ++ G)) ∧ Gd (scr ns :: pen a' c' :: (T ++ G)) u ∧ 0 ≤ a' ∧ 0 ≤ c'
noncomputable def qE (fb : Fn) : Fn := fnU 5 3 (eP bH fb kN kO)
theorem wd {fb : Fn} (Hb : HbT n w fb f k) (n1 : n ≤ 6) (w1 : w ≤ 1000) {K D : Nat} (hK : 13 ≤ K) (hK2 : K ≤ 2000000) (hD : D ≤ 40) (hq : ∀ a, k a → Shw (.tup (a.map f)) K D) (hg : ∀ a, k a → ∀ S, Gd S (.tup (a.map f)))
  (ns : List Int) (T : Sto) {a c : Int} (ha : 0 ≤ a) (hc : 0 ≤ c) {d : DF α} (ok : d.ok n w k) (u : U) (at_ : Int) :
  ∃ v a' c' G, (dq (md (aE (cOp fEq (cOp fIx (ak 4) (cC (.int 0))) (cC (.str "try")))) (aE (cOp fGt (cCB bH (ab (ak 0) (ab (cC (.int 3)) aq))) (cC (.int 0))))) (dq (aE (cOp fEq (cCB bH (ab (ak 0) (ab (cC (.int 2)) aq))) (cC (.int 0)))) (b8 4 (aF (ab (cC (.str "try")) (ab (cCB fb (ab (ak 0) (ab (ak 1) (ab (cOp fIx (ak 4) (cC (.int 1))) aq)))) (ab (cOp fIx (ak 4) (cC (.int 2))) aq))))) (b8 4 (aF (ab (cC (.str "try")) (ab (cOp fIx (ak 4) (cC (.int 1))) (ab (cCB fb (ab (ak 0) (ab (ak 1) (ab (cOp fIx (ak 4) (cC (.int 2))) aq)))) aq)))))) (dq (aE (cOp fEq (cCB bH (ab (ak 0) (ab (cC (.int 2)) aq))) (cC (.int 0)))) (b8 4 (cCB kN (ab (ak 0) (ab (ak 1) (ab (ak 4) aq))))) (b8 4 (cCB kO (ab (ak 0) (ab (ak 1) (ab (ak 4) aq)))))))
   [some (.ref 1), some (.tup [.int n, .int w]), some u, some (.int at_), some (DF.u f d)] (scr ns :: pen a c :: T) = some (.nx, [some (.ref 1), some (.tup [.int n, .int w]), some u, some (.int at_), some v], scr ns :: pen a' c' :: (T ++ G)) ∧ Gd (scr ns :: pen a' c' :: (T ++ G)) v ∧ 0 ≤ a' ∧ 0 ≤ c' := by
 obtain ⟨y, r, e, hy, hr, hs, hx⟩ := (yJ hK n1 w1 hq ok).ex
 have gd : ∀ S, Gd S (.tup (.str y :: r)) := fun S => .tup fun x hxx => by
  rcases List.mem_cons.mp hxx with rfl | hxx
  ·exact .str _
  ·rcases hx x hxx with ⟨i, rfl, _⟩ | ⟨b, qb, rfl⟩
   ·exact .int i
   ·exact hg b qb S
 have hz : ∀ x ∈ r, ∀ S, ∃ z, kE [x] S = some (.str z, S) := fun x hxx S => by
  rcases hx x hxx with ⟨i, rfl, i0, i1⟩ | ⟨b, qb, rfl⟩
  ·have := Nat.log2_le_self i.natAbs
   have hi : i.natAbs.log2 < 1920 := by omega
   refine ⟨toString i, ?_⟩
   simp only [kE]
   rw [if_pos hi]
  ·exact qO rfl (hq b qb) hK2 hD S
 have other : ∀ (a c : Int), 0 ≤ a → 0 ≤ c → ∃ v a' c' G, (dq (aE (cOp fEq (cCB bH (ab (ak 0) (ab (cC (.int 2)) aq))) (cC (.int 0)))) (b8 4 (cCB kN (ab (ak 0) (ab (ak 1) (ab (ak 4) aq))))) (b8 4 (cCB kO (ab (ak 0) (ab (ak 1) (ab (ak 4) aq))))))
   [some (.ref 1), some (.tup [.int n, .int w]), some u, some (.int at_), some (.tup (.str y :: r))] (scr ns :: pen a c :: T) = some (.nx, [some (.ref 1), some (.tup [.int n, .int w]), some u, some (.int at_), some v], scr ns :: pen a' c' :: (T ++ G)) ∧ Gd (scr ns :: pen a' c' :: (T ++ G)) v ∧ 0 ≤ a' ∧ 0 ≤ c' := fun a c ha hc => by
  obtain ⟨i, a1, c1, e1, i0, i1, ha1, hc1⟩ := bo ns T ha hc (m := 2) (by decide) (by decide)
  by_cases hi : i = 0
  ·have d1 : decide (i = 0) = true := decide_eq_true hi
   obtain ⟨v, a2, c2, G, e2, g2, ha2, hc2⟩ := we (n := n) (w := w) ns T ha1 hc1 (gd _) (by omega) hz
   refine ⟨v, a2, c2, G, ?_, g2, ha2, hc2⟩
   generalize U.tup (.str y :: r) = du at e2 ⊢
   rwa [e1, d1, e2]
  ·have d1 : decide (i = 0) = false := decide_eq_false hi
   obtain ⟨v, a2, c2, G, e2, g2, ha2, hc2⟩ := wo (n := n) (w := w) ns T ha1 hc1 (gd _) hy (by omega)
   refine ⟨v, a2, c2, G, ?_, g2, ha2, hc2⟩
   generalize U.tup (.str y :: r) = du at e2 ⊢
   rwa [e1, d1, e2]
 cases d with
 | pl d =>
  have e0 : DF.u f (.pl d) = d.u := rfl
  obtain ⟨y', r', e', nt⟩ := DZ d
  have yy : y' = y := by
   rw [e0, e'] at e
   injection e with e
   injection e with e _
   injection e
  subst yy
  obtain ⟨v, a2, c2, G, e2, g2, ha2, hc2⟩ := other a c ha hc
  refine ⟨v, a2, c2, G, ?_, g2, ha2, hc2⟩
  rw [e, ← e2, qJ]
  have t1 : (md (aE (cOp fEq (cOp fIx (ak 4) (cC (.int 0))) (cC (.str "try")))) (aE (cOp fGt (cCB bH (ab (ak 0) (ab (cC (.int 3)) aq))) (cC (.int 0))))) [some (.ref 1), some (.tup [.int n, .int w]), some u, some (.int at_), some (.tup (.str y' :: r))] (scr ns :: pen a c :: T) = some (false, scr ns :: pen a c :: T) := by
   rwa [nt]
  rw [t1, Option.bind_some, pH]
 | tr A B =>
  have e0 : DF.u f (.tr A B) = .tup [.str "try", .tup (A.map f), .tup (B.map f)] := rfl
  rw [e0] at e ⊢
  obtain ⟨uA, hA⟩ : ∃ uA, uA = U.tup (A.map f) := ⟨_, rfl⟩
  obtain ⟨uB, hB⟩ : ∃ uB, uB = U.tup (B.map f) := ⟨_, rfl⟩
  have gA := fun S => hg A ok.1 S
  have gB := fun S => hg B ok.2 S
  have HA := fun T a c ha hc => Hb ns T a c A ha hc ok.1
  have HB := fun T a c ha hc => Hb ns T a c B ha hc ok.2
  rw [← hA] at e gA HA ⊢
  rw [← hB] at e gB HB ⊢
  rw [← e] at other
  have dt : decide (Str.ofString "try" = Str.ofString "try") = true := decide_eq_true rfl
  obtain ⟨i, a1, c1, e1, i0, i1, ha1, hc1⟩ := bo ns T ha hc (m := 3) (by decide) (by decide)
  by_cases hi : i = 0
  ·obtain ⟨v, a2, c2, G, e2, g2, ha2, hc2⟩ := other a1 c1 ha1 hc1
   refine ⟨v, a2, c2, G, ?_, g2, ha2, hc2⟩
   rw [← e2, qJ]
   have d1 : decide (0 < i) = false := decide_eq_false (by omega)
   have t1 : (md (aE (cOp fEq (cOp fIx (ak 4) (cC (.int 0))) (cC (.str "try")))) (aE (cOp fGt (cCB bH (ab (ak 0) (ab (cC (.int 3)) aq))) (cC (.int 0))))) [some (.ref 1), some (.tup [.int n, .int w]), some u, some (.int at_), some (.tup [.str "try", uA, uB])] (scr ns :: pen a c :: T) = some (false, scr ns :: pen a1 c1 :: T) := by
    rwa [dt, e1, d1]
   rw [t1, Option.bind_some, pH]
  ·have d1 : decide (0 < i) = true := decide_eq_true (by omega)
   obtain ⟨j, a2, c2, e2, j0, j1, ha2, hc2⟩ := bo ns T ha1 hc1 (m := 2) (by decide) (by decide)
   have g3 : ∀ {S : Sto} {x z : U}, Gd S x → Gd S z → Gd S (.tup [.str "try", x, z]) := fun gx gz => .tup fun q hq => by
    rcases List.mem_cons.mp hq with rfl | hq
    ·exact .str _
    rcases List.mem_cons.mp hq with rfl | hq
    ·exact gx
    ·rw [List.mem_singleton.mp hq]; exact gz
   by_cases hj : j = 0
   ·have d2 : decide (j = 0) = true := decide_eq_true hj
    obtain ⟨v, a3, c3, G, e3, g, ha3, hc3⟩ := HA T a2 c2 ha2 hc2
    refine ⟨.tup [.str "try", v, uB], a3, c3, G, ?_, g3 g (gB _), ha3, hc3⟩
    rwa [dt, e1, d1, e2, d2, e3]
   ·have d2 : decide (j = 0) = false := decide_eq_false hj
    obtain ⟨v, a3, c3, G, e3, g, ha3, hc3⟩ := HB T a2 c2 ha2 hc2
    refine ⟨.tup [.str "try", uA, v], a3, c3, G, ?_, g3 (gA _) g, ha3, hc3⟩
    rwa [dt, e1, d1, e2, d2, e3]
theorem tN {ds : List (DF α)} (hg : ∀ a, k a → ∀ S, Gd S (.tup (a.map f))) (n1 : n ≤ 6) (w1 : w ≤ 1000) (ok : ∀ d ∈ ds, d.ok n w k) (S : Sto) : Gd S (.tup (ds.map (DF.u f))) := .tup fun u hu => by
 obtain ⟨d, hd, rfl⟩ := List.mem_map.mp hu
 have od := ok d hd
 cases d with
 | pl d =>
  obtain ⟨y, r, e, _, _, _, h4⟩ := wI n1 w1 od
  show Gd S d.u
  rw [e]
  exact .tup fun x hx => by
   rcases List.mem_cons.mp hx with rfl | hx
   ·exact .str _
   ·obtain ⟨i, rfl, _⟩ := h4 x hx; exact .int i
 | tr A B =>
  exact .tup fun x hx => by
   rcases List.mem_cons.mp hx with rfl | hx
   ·exact .str _
   rcases List.mem_cons.mp hx with rfl | hx
   ·exact hg A od.1 S
   ·rw [List.mem_singleton.mp hx]; exact hg B od.2 S
theorem o2 {fb : Fn} (Hb : HbT n w fb f k) (n1 : n ≤ 6) (w1 : w ≤ 1000) {K D : Nat} (hK : 13 ≤ K) (hK2 : K ≤ 2000000) (hD : D ≤ 40) (hq : ∀ a, k a → Shw (.tup (a.map f)) K D) (hg : ∀ a, k a → ∀ S, Gd S (.tup (a.map f))) : HbT n w (qE fb) (DF.u f) (fun ds => ds.length ≤ 12 ∧ ∀ d ∈ ds, DF.ok n w k d) := fun ns T a c ds ha hc ok => by
 unfold qE
 rw [oV]
 obtain ⟨us, hus⟩ : ∃ us, us = ds.map (DF.u f) := ⟨_, rfl⟩
 have lus : us.length = ds.length := by rw [hus, List.length_map]
 have gds : ∀ S, Gd S (.tup us) := fun S => by rw [hus]; exact tN hg n1 w1 ok.2 S
 rw [← hus]
 unfold eP
 have l12 : us.length ≤ 12 := by rw [lus]; exact ok.1
 by_cases h0 : us.length = 0
 ·have d0 : decide (us.length = 0) = true := decide_eq_true h0
  obtain ⟨v, a1, c1, G, e1, g1, ha1, hc1⟩ := uk (n := n) (w := w) ns T ha hc (gds _) l12
  refine ⟨v, a1, c1, G, ?_, g1, ha1, hc1⟩
  have t1 : aE (cOp vU (ak 2) (aF aq)) [some (.ref 1), some (.tup [.int n, .int w]), some (.tup us), none, none] (scr ns :: pen a c :: T) = some (true, scr ns :: pen a c :: T) := by
   show some (decide (us.length = 0), scr ns :: pen a c :: T) = _
   rw [d0]
  rw [uY, qJ, Bx, t1, Option.bind_some, ze, Option.bind_some, rO, e1]
  rfl
 ·have d0 : decide (us.length = 0) = false := decide_eq_false h0
  have t1 : aE (cOp vU (ak 2) (aF aq)) [some (.ref 1), some (.tup [.int n, .int w]), some (.tup us), none, none] (scr ns :: pen a c :: T) = some (false, scr ns :: pen a c :: T) := by
   show some (decide (us.length = 0), scr ns :: pen a c :: T) = _
   rw [d0]
  obtain ⟨i, a1, c1, e1, i0, i1, ha1, hc1⟩ := bo ns T ha hc (m := 12) (by decide) (by decide)
  by_cases hi : i = 0
  ·have d1 : decide (i = 0) = true := decide_eq_true hi
   obtain ⟨v, a2, c2, G, e2, g2, ha2, hc2⟩ := uk (n := n) (w := w) ns T ha1 hc1 (gds _) l12
   refine ⟨v, a2, c2, G, ?_, g2, ha2, hc2⟩
   have t2 : aE (cOp fEq (cCB bH (ab (ak 0) (ab (cC (.int 12)) aq))) (cC (.int 0))) [some (.ref 1), some (.tup [.int n, .int w]), some (.tup us), none, none] (scr ns :: pen a c :: T) = some (true, scr ns :: pen a1 c1 :: T) := by
    rwa [e1, d1]
   rw [uY, qJ, Bx, t1, Option.bind_some, xc, t2, Option.bind_some, rO, e2]
   rfl
  ·have d1 : decide (i = 0) = false := decide_eq_false hi
   have E1 : dq (cOr (aE (cOp vU (ak 2) (aF aq))) (aE (cOp fEq (cCB bH (ab (ak 0) (ab (cC (.int 12)) aq))) (cC (.int 0))))) (cS (cOp fIx (eD (ab (cCB dD (ab (ak 2) aq)) (ab (cOp bJ (ak 2) (aF (ab (ak 2) aq))) (ab (cOp bJ (ak 2) (aF (ab (aF (ab (cC (.str "wait")) (ab (aF aq) aq))) aq))) (ab (cC .non) aq))))) (cCB bH (ab (ak 0) (ab (cC (.int 4)) aq))))) bP [some (.ref 1), some (.tup [.int n, .int w]), some (.tup us), none, none] (scr ns :: pen a c :: T) = some (.nx, [some (.ref 1), some (.tup [.int n, .int w]), some (.tup us), none, none], scr ns :: pen a1 c1 :: T) := by
    have t2 : aE (cOp fEq (cCB bH (ab (ak 0) (ab (cC (.int 12)) aq))) (cC (.int 0))) [some (.ref 1), some (.tup [.int n, .int w]), some (.tup us), none, none] (scr ns :: pen a c :: T) = some (false, scr ns :: pen a1 c1 :: T) := by
     rwa [e1, d1]
    rw [qJ, Bx, t1, Option.bind_some, xc, t2, Option.bind_some, pH]
    rfl
   obtain ⟨g, a2, c2, e2, g0, g1, ha2, hc2⟩ := bo ns T ha1 hc1 (m := (us.length : Int)) (by omega) (by
    have := Nat.log2_le_self (us.length : Int).natAbs
    omega)
   obtain ⟨j, rfl⟩ : ∃ j : Nat, g = (j : Int) := ⟨g.toNat, by omega⟩
   have jl : j < us.length := by omega
   have jd : j < ds.length := by omega
   obtain ⟨d, hd⟩ : ∃ d, ds[j]? = some d := ⟨_, List.getElem?_eq_getElem jd⟩
   have hu : us[j]? = some (DF.u f d) := by rw [hus, List.getElem?_map, hd]; rfl
   have E2 : b8 3 (cCB bH (ab (ak 0) (ab (cCB gH (ab (ak 2) aq)) aq))) [some (.ref 1), some (.tup [.int n, .int w]), some (.tup us), none, none] (scr ns :: pen a1 c1 :: T) = some (.nx, [some (.ref 1), some (.tup [.int n, .int w]), some (.tup us), some (.int j), none], scr ns :: pen a2 c2 :: T) := by
    rwa [e2]
   have ai := fO hu
   have E3 : b8 4 (cOp fIx (ak 2) (ak 3)) [some (.ref 1), some (.tup [.int n, .int w]), some (.tup us), some (.int j), none] (scr ns :: pen a2 c2 :: T) = some (.nx, [some (.ref 1), some (.tup [.int n, .int w]), some (.tup us), some (.int j), some (DF.u f d)], scr ns :: pen a2 c2 :: T) := by
    rwa [ai]
   obtain ⟨v, a3, c3, G, E4, gv, ha3, hc3⟩ := wd Hb n1 w1 hK hK2 hD hq hg ns T ha2 hc2 (ok.2 d (List.mem_of_getElem? hd)) (.tup us) (j : Int)
   have e8 := ni (us := us) (k := j) (v := v) (ρ := [some (.ref 1), some (.tup [.int n, .int w]), some (.tup us), some (.int j), some v]) (S := scr ns :: pen a3 c3 :: (T ++ G)) (S' := scr ns :: pen a3 c3 :: (T ++ G)) (ce := ak 4) jl (by omega) rfl rfl rfl
   refine ⟨_, a3, c3, G, ?_, nj (k := j) (gds _).mem gv, ha3, hc3⟩
   rw [fE E1, fE E2, fE E3, fE E4, qH, e8]
   rfl
end
noncomputable def oh : Nat → Fn
 | 0 => qE fun _ _ => none
 | j + 1 => qE (oh j)
section
variable {n w : Int}
theorem gdJ (n1 : n ≤ 6) (w1 : w ≤ 1000) : ∀ (j : Nat) (ds : List (Dl j)), OkM n w j ds → ∀ S, Gd S (.tup (ds.map (Dl.u j)))
 | 0, ds, ok, S => tN (k := fun _ => False) (fun _ z => z.elim) n1 w1 ok.2 S
 | j + 1, ds, ok, S => tN (gdJ n1 w1 j) n1 w1 ok.2 S
theorem qw (n1 : n ≤ 6) (w1 : w ≤ 1000) : ∀ J j : Nat, j ≤ J → j ≤ 3 → HbT n w (oh J) (Dl.u j) (OkM n w j)
 | 0, 0, _, _ => fun ns T a c ds ha hc ok => o2 (k := fun _ => False) (K := 13) (D := 0) (fun _ _ _ _ _ _ _ z => z.elim) n1 w1 (by decide) (by decide) (by decide) (fun _ z => z.elim) (fun _ z => z.elim) ns T a c ds ha hc ok
 | J + 1, 0, _, _ => fun ns T a c ds ha hc ok => o2 (k := fun _ => False) (K := 13) (D := 0) (fun _ _ _ _ _ _ _ z => z.elim) n1 w1 (by decide) (by decide) (by decide) (fun _ z => z.elim) (fun _ z => z.elim) ns T a c ds ha hc ok
 | J + 1, j + 1, h, h3 => fun ns T a c ds ha hc ok => by
  have hb : 12 * (kd j + 2) + 3 ≤ 2000000 := by
   have : j = 0 ∨ j = 1 ∨ j = 2 := by omega
   rcases this with rfl | rfl | rfl <;> decide
  exact o2 (qw n1 w1 J j (by omega) (by omega)) n1 w1 (by omega) hb (by omega) (sv n1 w1 j) (gdJ n1 w1 j) ns T a c ds ha hc ok
end
end OQ
namespace OL
open PySem PySem.Spec PyProof.Rows L2 OG OP OQ
noncomputable def top (i : Nat) : Stmt := PySem.Challenge.pw_oneglance_k03_what_is_a_dealing.main.body.getD i (.Pass ⟨0, 0, 0, 0⟩)
noncomputable abbrev dE : Stmt := top 1
noncomputable abbrev cU : Stmt := top 2
noncomputable abbrev cH : Stmt := top 9
noncomputable abbrev dG : Stmt := top 10
noncomputable abbrev dF : Stmt := top 11
noncomputable abbrev fG : Stmt := top 12
noncomputable abbrev eE : Stmt := top 13
noncomputable abbrev fF : Stmt := top 14
noncomputable abbrev cV : Stmt := top 15
noncomputable abbrev dH : Stmt := top 17
noncomputable abbrev cW : Stmt := top 18
noncomputable abbrev cI : Stmt := top 19
noncomputable abbrev cX : Stmt := top 21
noncomputable abbrev bp : Stmt := top 22
noncomputable abbrev b2 : Stmt := top 23
noncomputable abbrev bY : Stmt := top 24
noncomputable abbrev bZ : Stmt := top 25
noncomputable abbrev dI : Stmt := top 26
noncomputable abbrev bq : Stmt := top 27
noncomputable abbrev bC : Stmt := top 28
noncomputable abbrev bB : Stmt := top 29
noncomputable abbrev cY : Stmt := top 30
noncomputable abbrev b3 : Stmt := top 31
noncomputable abbrev lu : Stmt := top 32
section
variable {P : Program} {w : World} {K : PySem.W.Frag} {mg : Str → Option Value} {base : Heap}
theorem iU : aY ["pen", "many", "at", "cell", "one", "two", "three", "found"] ["pen", "many"] (ax cW) := ⟨rfl, rfl, rfl, by decide +kernel, rfl, by decide +kernel, by decide +kernel⟩
theorem oP {k : Nat} (d : Def K mg "_law_take" cW ["pen", "many"]) (B : Blt mg) : bI P w K mg base "_law_take" (k + 1) ["pen", "many"] (fnU 8 2 (dS )) :=
 d.pure iU fun f cdv A outer s H E hr => by
  have hu := eJ hr
  have nd := iU.nd
  exact (aw (bX (aP fe lz (dz hu (ah (wpv 0)) (ao af) (fun _ _ => rfl) (fun _ _ => rfl)) (ao af) (aK _)) (aw (aL (i := 2) nd rfl (by first | exact Or.inl rfl | exact Or.inr rfl) (dz hu (ah (wpv 0)) (ao af) (fun _ _ => rfl) (fun _ _ => rfl)))
   (aw (jh hu (ah (wpv 0)) (ao af) (bw bA bz (ah (wpv 2)) (ao af)))
   (aw (aL (i := 3) nd rfl (by first | exact Or.inl rfl | exact Or.inr rfl) (ao af))
   (aw (bX (aP lA uL (ah (wpv 2)) (bR fV fU rfl B.len PySem.boot_len (ae (dz hu (ah (wpv 0)) (ao af) (fun _ _ => rfl) (fun _ _ => rfl)) ar)) (aK _)) (aC (aL (i := 3) nd rfl (by first | exact Or.inl rfl | exact Or.inr rfl) (dz hu (dz hu (ah (wpv 0)) (ao af) (fun _ _ => rfl) (fun _ _ => rfl)) (ah (wpv 2)) (fun _ _ => rfl) (fun _ _ => rfl)))) (aC (bX (aP lB uM (bR fV fU rfl B.len PySem.boot_len (ae (dz hu (ah (wpv 0)) (ao af) (fun _ _ => rfl) (fun _ _ => rfl)) ar)) (ao af) (aK _)) (aC (aL (i := 3) nd rfl (by first | exact Or.inl rfl | exact Or.inr rfl) (bw bA bz (bw j8 oF (dz hu (dz hu (ah (wpv 0)) (ao af) (fun _ _ => rfl) (fun _ _ => rfl)) (bw j8 oF (bw gZ nB (ah (wpv 2)) (ao af)) (bR fV fU rfl B.len PySem.boot_len (ae (dz hu (ah (wpv 0)) (ao af) (fun _ _ => rfl) (fun _ _ => rfl)) ar))) (fun _ _ => rfl) (fun _ _ => rfl)) (ao af)) (bw gZ nB (ao af) (ah (wpv 2)))))) bj)))
   (aw (aL (i := 4) nd rfl (by first | exact Or.inl rfl | exact Or.inr rfl) (bw j8 oF (bw gZ nB (bw bA bz (bw bA bz (bw j8 oF (ah (wpv 3)) (ao af)) (bw gZ nB (ao af) (ah (wpv 2)))) (ao af)) (ao af)) (ao af)))
   (aw (aL (i := 5) nd rfl (by first | exact Or.inl rfl | exact Or.inr rfl) (bw j8 oF (bw bA bz (bw bA bz (bw gZ nB (ah (wpv 4)) (ah (wpv 4))) (bw gZ nB (ao af) (ah (wpv 2)))) (ao af)) (ao af)))
   (aw (aL (i := 6) nd rfl (by first | exact Or.inl rfl | exact Or.inr rfl) (bw j8 oF (bw bA bz (bw gZ nB (ah (wpv 5)) (ah (wpv 5))) (ah (wpv 4))) (ao af)))
   (aw (jh hu (ah (wpv 0)) (ao af) (bw bA bz (bw my yk (bw bA bz (bw gZ nB (ah (wpv 5)) (ao af)) (ah (wpv 6))) (ao af)) (ao af)))
   (aC (bX (aP Dg EY (ah (wpv 3)) (bw p6 vF (ao af) (ao af)) (aK _)) (aC (jh hu (ah (wpv 0)) (ao af) (bw my yk (ah (wpv 3)) (bw p6 vF (ao af) (ao af))))) bj)))))))))) bj)
   (aw (aL (i := 7) nd rfl (by first | exact Or.inl rfl | exact Or.inr rfl) (bw j8 oF (dz hu (ah (wpv 0)) (ao af) (fun _ _ => rfl) (fun _ _ => rfl)) (ah (wpv 1))))
   (aw (jh hu (ah (wpv 0)) (ao af) (bw my yk (dz hu (ah (wpv 0)) (ao af) (fun _ _ => rfl) (fun _ _ => rfl)) (ah (wpv 1))))
   (aC (aM (ah (wpv 7)))))))
theorem gW : aY ["pen"] ["pen"] (ax cI) := ⟨rfl, rfl, rfl, by decide +kernel, rfl, by decide +kernel, by decide +kernel⟩
theorem nI {k : Nat} {ag : Fn} (d : Def K mg "_law_world" cI ["pen"]) (B : Blt mg) (av : bI P w K mg base "_law_take" (k) ["pen", "many"] ag) : bI P w K mg base "_law_world" (k + 1) ["pen"] (fnU 1 1 (eA ag)) :=
 d.pure gW fun f cdv A outer s H E hr => by
  have hu := eJ hr
  have nd := gW.nd
  exact (aC (aM (aI (ae (bw bA bz (ao af) (aD av hr rfl (ae (ah (wpv 0)) (ae (ao af) ar)))) (ae (dz hu (dJ (ae (ao af) (ae (ao af) (ae (ao af) (ae (ao af) (ae (bw bA bz (ao af) (aD av hr rfl (ae (ah (wpv 0)) (ae (ao af) ar)))) ar)))))) (aD av hr rfl (ae (ah (wpv 0)) (ae (ao af) ar))) (fun _ _ => rfl) (fun _ _ => rfl)) ar)))))
theorem iV : aY ["dealing", "many", "deed"] ["dealing"] (ax cX) := ⟨rfl, rfl, rfl, by decide +kernel, rfl, by decide +kernel, by decide +kernel⟩
theorem fJ {k : Nat} {aB : Fn} (d : Def K mg "_law_size" cX ["dealing"]) (B : Blt mg) (dg : bI P w K mg base "_law_size" (k) ["dealing"] aB) : bI P w K mg base "_law_size" (k + 1) ["dealing"] (fnU 3 1 (eO aB)) :=
 d.pure iV fun f cdv A outer s H E hr => by
  have hu := eJ hr
  have nd := iV.nd
  exact (aw (aL (i := 1) nd rfl (by first | exact Or.inl rfl | exact Or.inr rfl) (ao af))
   (aw (lU PassesOwn.never rfl (nv (ah (wpv 0))) (fc (cf (i := 2) nd rfl (by first | exact Or.inl rfl | exact Or.inr rfl))) (aw (aL (i := 1) nd rfl (by first | exact Or.inl rfl | exact Or.inr rfl) (bw bA bz (ah (wpv 1)) (ao af)))
   (aC (bX (aP fe lz (dz hu (ah (wpv 2)) (ao af) (fun _ _ => rfl) (fun _ _ => rfl)) (aQ aA) (aK _)) (aC (aL (i := 1) nd rfl (by first | exact Or.inl rfl | exact Or.inr rfl) (bw bA bz (bw bA bz (ah (wpv 1)) (aD dg hr rfl (ae (dz hu (ah (wpv 2)) (ao af) (fun _ _ => rfl) (fun _ _ => rfl)) ar))) (aD dg hr rfl (ae (dz hu (ah (wpv 2)) (ao af) (fun _ _ => rfl) (fun _ _ => rfl)) ar))))) bj))))
   (aC (aM (ah (wpv 1))))))
theorem eR : aY ["pen", "world", "way", "hand"] ["pen", "world", "way", "hand"] (ax bp) := ⟨rfl, rfl, rfl, by decide +kernel, rfl, by decide +kernel, by decide +kernel⟩
theorem ie {k : Nat} {ag : Fn} (d : Def K mg "_law_plain_deed" bp ["pen", "world", "way", "hand"]) (B : Blt mg) (av : bI P w K mg base "_law_take" (k) ["pen", "many"] ag) : bI P w K mg base "_law_plain_deed" (k + 1) ["pen", "world", "way", "hand"] (fnU 4 4 (aT ag)) :=
 d.pure eR fun f cdv A outer s H E hr => by
  have hu := eJ hr
  have nd := eR.nd
  exact (aw (bX (aP lA uL (ah (wpv 2)) (ao af) (aK _)) (aC (aM (aI (ae (aQ aA) (ae (ah (wpv 3)) (ae (aD av hr rfl (ae (ah (wpv 0)) (ae (dz hu (ah (wpv 1)) (ao af) (fun _ _ => rfl) (fun _ _ => rfl)) ar))) ar)))))) bj)
   (aw (bX (aP lA uL (ah (wpv 2)) (ao af) (aK _)) (aC (aM (aI (ae (aQ aA) (ae (aD av hr rfl (ae (ah (wpv 0)) (ae (dz hu (ah (wpv 1)) (ao af) (fun _ _ => rfl) (fun _ _ => rfl)) ar))) (ae (ah (wpv 3)) ar)))))) bj)
   (aw (bX (aP lA uL (ah (wpv 2)) (ao af) (aK _)) (aC (aM (aI (ae (aQ aA) (ae (ah (wpv 3)) (ae (aD av hr rfl (ae (ah (wpv 0)) (ae (dz hu (ah (wpv 1)) (ao af) (fun _ _ => rfl) (fun _ _ => rfl)) ar))) ar)))))) bj)
   (aw (bX (aP lA uL (ah (wpv 2)) (ao af) (aK _)) (aC (aM (aI (ae (aQ aA) (ae (ah (wpv 3)) (ae (aD av hr rfl (ae (ah (wpv 0)) (ae (ao af) ar))) ar)))))) bj)
   (aC (aM (aI (ae (aQ aA) (ae (ah (wpv 3)) (ae (bw bA bz (ao af) (aD av hr rfl (ae (ah (wpv 0)) (ae (dz hu (dJ (ae (ao af) (ae (ao af) ar))) (aD av hr rfl (ae (ah (wpv 0)) (ae (ao af) ar))) (fun _ _ => rfl) (fun _ _ => rfl)) ar)))) ar))))))))))
theorem fZ : aY ["pen", "world", "room", "tries", "deeds", "left", "k", "way", "hand", "one", "other"] ["pen", "world", "room", "tries"] (ax b2) := ⟨rfl, rfl, rfl, by decide +kernel, rfl, by decide +kernel, by decide +kernel⟩
theorem ef {k : Nat} {ag aN ay aB : Fn} (d : Def K mg "_law_dealing" b2 ["pen", "world", "room", "tries"]) (B : Blt mg) (av : bI P w K mg base "_law_take" (k) ["pen", "many"] ag) (bM : bI P w K mg base "_law_plain_deed" (k) ["pen", "world", "way", "hand"] aN) (eg : bI P w K mg base "_law_dealing" (k) ["pen", "world", "room", "tries"] ay) (dg : bI P w K mg base "_law_size" (k) ["dealing"] aB) : bI P w K mg base "_law_dealing" (k + 1) ["pen", "world", "room", "tries"] (fnU 11 4 (cQ ag aN ay aB)) :=
 d.pure fZ fun f cdv A outer s H E hr => by
  have hu := eJ hr
  have nd := fZ.nd
  exact (aw (aL (i := 4) nd rfl (by first | exact Or.inl rfl | exact Or.inr rfl) (dJ ar))
   (aw (aL (i := 5) nd rfl (by first | exact Or.inl rfl | exact Or.inr rfl) (ah (wpv 2)))
   (aw (lU PassesOwn.never rfl (gX rfl B.range (ae (aD av hr rfl (ae (ah (wpv 0)) (ae (bw bA bz (bR (ug rfl) De rfl B.min OG.wk (ae (ao af) (ae (ah (wpv 2)) ar))) (ao af)) ar))) ar)) (fc (cf (i := 6) nd rfl (by first | exact Or.inl rfl | exact Or.inr rfl))) (aw (aL (i := 7) nd rfl (by first | exact Or.inl rfl | exact Or.inr rfl) (aD av hr rfl (ae (ah (wpv 0)) (ae (ao af) ar))))
   (aw (aL (i := 8) nd rfl (by first | exact Or.inl rfl | exact Or.inr rfl) (aD av hr rfl (ae (ah (wpv 0)) (ae (ao af) ar))))
   (aC (bX (oD (nA (aP lB uM (ah (wpv 5)) (ao af) (aK _)) (nA (aP lA uL (bR fV fU rfl B.len PySem.boot_len (ae (ah (wpv 4)) ar)) (ao af) (aK _)) (nz (aP lA uL (ah (wpv 7)) (ao af) (aK _)))))) (aw (mr (ji (ah (wpv 4)) (ae (aD bM hr rfl (ae (ah (wpv 0)) (ae (ah (wpv 1)) (ae (ah (wpv 7)) (ae (ah (wpv 8)) ar))))) ar)))
   (aC (aL (i := 5) nd rfl (by first | exact Or.inl rfl | exact Or.inr rfl) (bw b9 ej (ah (wpv 5)) (ao af))))) (aC (bX (oD (nA (aP lB uM (ah (wpv 5)) (ao af) (aK _)) (nA (aP lA uL (bR fV fU rfl B.len PySem.boot_len (ae (ah (wpv 4)) ar)) (ao af) (aK _)) (nz (oD (sJ (aP fe lz (ah (wpv 7)) (ao af) (aK _)) (lx (aP fe lz (ah (wpv 3)) (ao af) (aK _))))))))) (aw (bX (oD (nA (aP lB uM (ah (wpv 5)) (ao af) (aK _)) (nA (aP lA uL (bR fV fU rfl B.len PySem.boot_len (ae (ah (wpv 4)) ar)) (ao af) (aK _)) (nz (aP lB uM (aD av hr rfl (ae (ah (wpv 0)) (ae (ao af) ar))) (ao af) (aK _)))))) (aw (mr (ji (ah (wpv 4)) (ae (aI (ae (aQ aA) (ae (ah (wpv 8)) (ae (ao af) ar)))) ar)))
   (aC (aL (i := 5) nd rfl (by first | exact Or.inl rfl | exact Or.inr rfl) (bw b9 ej (ah (wpv 5)) (ao af))))) bj)
   (aw (mr (ji (ah (wpv 4)) (ae (aI (ae (aQ aA) ar)) ar)))
   (aC (aL (i := 5) nd rfl (by first | exact Or.inl rfl | exact Or.inr rfl) (bw b9 ej (ah (wpv 5)) (ao af)))))) (aC (bX (oD (nA (aP lB uM (ah (wpv 5)) (ao af) (aK _)) (nz (aP lA uL (bR fV fU rfl B.len PySem.boot_len (ae (ah (wpv 4)) ar)) (ao af) (aK _))))) (aw (aL (i := 9) nd rfl (by first | exact Or.inl rfl | exact Or.inr rfl) (aD eg hr rfl (ae (ah (wpv 0)) (ae (ah (wpv 1)) (ae (aD av hr rfl (ae (ah (wpv 0)) (ae (ah (wpv 5)) ar))) (ae (bw b9 ej (ah (wpv 3)) (ao af)) ar))))))
   (aw (aL (i := 5) nd rfl (by first | exact Or.inl rfl | exact Or.inr rfl) (bw b9 ej (bw b9 ej (ah (wpv 5)) (ao af)) (aD dg hr rfl (ae (ah (wpv 9)) ar))))
   (aw (aL (i := 10) nd rfl (by first | exact Or.inl rfl | exact Or.inr rfl) (aD eg hr rfl (ae (ah (wpv 0)) (ae (ah (wpv 1)) (ae (aD av hr rfl (ae (ah (wpv 0)) (ae (bw bA bz (ah (wpv 5)) (ao af)) ar))) (ae (bw b9 ej (ah (wpv 3)) (ao af)) ar))))))
   (aw (aL (i := 5) nd rfl (by first | exact Or.inl rfl | exact Or.inr rfl) (bw b9 ej (ah (wpv 5)) (aD dg hr rfl (ae (ah (wpv 10)) ar))))
   (aC (mr (ji (ah (wpv 4)) (ae (aI (ae (aQ aA) (ae (ah (wpv 9)) (ae (ah (wpv 10)) ar)))) ar)))))))) bj)))))))))
   (aC (aM (fH mN yj rfl B.tuple OG.fA (ae (ah (wpv 4)) ar)))))))
theorem jW : aY ["thing"] ["thing"] (ax dE) := ⟨rfl, rfl, rfl, by decide +kernel, rfl, by decide +kernel, by decide +kernel⟩
theorem qW {k : Nat} (d : Def K mg "is_whole" dE ["thing"]) (B : Blt mg) : bI P w K mg base "is_whole" (k + 1) ["thing"] (fnU 1 1 (fw )) :=
 d.pure jW fun f cdv A outer s H E hr => by
  have hu := eJ hr
  have nd := jW.nd
  exact (aC (aM (gj (ly (T := .int) (by intro z; cases z) (ah (wpv 0)) (gL rfl B.int OG.jq) rfl B.isinstance) (mv (wN (ly (T := .bool) (by intro z; cases z) (ah (wpv 0)) (gL rfl B.bool OG.kJ) rfl B.isinstance))))))
theorem iS : aY ["thing", "least", "most"] ["thing", "least", "most"] (ax cU) := ⟨rfl, rfl, rfl, by decide +kernel, rfl, by decide +kernel, by decide +kernel⟩
theorem oN {k : Nat} {dP : Fn} (d : Def K mg "is_within" cU ["thing", "least", "most"]) (B : Blt mg) (iF : bI P w K mg base "is_whole" (k) ["thing"] dP) : bI P w K mg base "is_within" (k + 1) ["thing", "least", "most"] (fnU 3 3 (b5 dP)) :=
 d.pure iS fun f cdv A outer s H E hr => by
  have hu := eJ hr
  have nd := iS.nd
  exact (aC (aM (gj (aD iF hr rfl (ae (ah (wpv 0)) ar)) (mv (sM qQ yS qQ yS (ah (wpv 1)) (ah (wpv 0)) (ah (wpv 2)))))))
theorem iT : aY ["world", "word", "box"] ["world", "word"] (ax cV) := ⟨rfl, rfl, rfl, by decide +kernel, rfl, by decide +kernel, by decide +kernel⟩
theorem oO {k : Nat} (d : Def K mg "bounds_of" cV ["world", "word"]) (B : Blt mg) (C_HAND : Bv K mg "HAND" [0, 3]) (C_LEAP : Bv K mg "LEAP" [1, 12]) : bI P w K mg base "bounds_of" (k + 1) ["world", "word"] (fnU 3 2 (aV )) :=
 d.pure iT fun f cdv A outer s H E hr => by
  have hu := eJ hr
  have nd := iT.nd
  exact (aw (aL (i := 2) nd rfl (by first | exact Or.inl rfl | exact Or.inr rfl) (aI (ae (ao af) (ae (bw b9 ej (dz hu (ah (wpv 0)) (ao af) (fun _ _ => rfl) (fun _ _ => rfl)) (ao af)) ar))))
   (aw (bX (aP (j9 hr.units) oG (ah (wpv 1)) (aQ aA) (aK _)) (aC (aM (aI (ae (j3 rfl C_HAND) (ae (ah (wpv 2)) ar))))) bj)
   (aw (bX (aP (j9 hr.units) oG (ah (wpv 1)) (aQ aA) (aK _)) (aC (aM (aI (ae (ah (wpv 2)) (ae (j3 rfl C_HAND) ar))))) bj)
   (aw (bX (aP (j9 hr.units) oG (ah (wpv 1)) (aQ aA) (aK _)) (aC (aM (aI (ae (j3 rfl C_HAND) (ae (aI (ae (ao af) (ae (bw b9 ej (dz hu (ah (wpv 0)) (ao af) (fun _ _ => rfl) (fun _ _ => rfl)) (ao af)) ar))) ar))))) bj)
   (aw (bX (aP (j9 hr.units) oG (ah (wpv 1)) (aQ aA) (aK _)) (aC (aM (aI (ae (j3 rfl C_HAND) (ae (j3 rfl C_HAND) ar))))) bj)
   (aw (bX (aP (j9 hr.units) oG (ah (wpv 1)) (aQ aA) (aK _)) (aC (aM (aI (ae (j3 rfl C_HAND) (ae (j3 rfl C_LEAP) ar))))) bj)
   (aw (bX (aP (j9 hr.units) oG (ah (wpv 1)) (aQ aA) (aK _)) (aC (aM (aI ar))) bj)
   (aC (aM (mw fB))))))))))
theorem nr : aY ["world", "thing", "tries_left"] ["world", "thing", "tries_left"] (ax fF) := ⟨rfl, rfl, rfl, by decide +kernel, rfl, by decide +kernel, by decide +kernel⟩
theorem jk {k : Nat} {b7 : Fn} (d : Def K mg "is_try" fF ["world", "thing", "tries_left"]) (B : Blt mg) (js : bI P w K mg base "is_run" (k) ["world", "thing", "tries_left"] b7) : bI P w K mg base "is_try" (k + 1) ["world", "thing", "tries_left"] (fnU 3 3 (eY b7)) :=
 d.pure nr fun f cdv A outer s H E hr => by
  have hu := eJ hr
  have nd := nr.nd
  exact (aw (bX (oD (sJ (aP yp Dc (bR fV fU rfl B.len PySem.boot_len (ae (ah (wpv 1)) ar)) (ao af) (aK _)) (lx (aP fe lz (ah (wpv 2)) (ao af) (aK _))))) (aC (aM (lV dh))) bj)
   (aC (aM (gj (aD js hr rfl (ae (ah (wpv 0)) (ae (dz hu (ah (wpv 1)) (ao af) (fun _ _ => rfl) (fun _ _ => rfl)) (ae (bw b9 ej (ah (wpv 2)) (ao af)) ar)))) (mv (aD js hr rfl (ae (ah (wpv 0)) (ae (dz hu (ah (wpv 1)) (ao af) (fun _ _ => rfl) (fun _ _ => rfl)) (ae (bw b9 ej (ah (wpv 2)) (ao af)) ar)))))))))
theorem lT : aY ["world", "thing", "tries_left", "bounds"] ["world", "thing", "tries_left"] (ax eE) := ⟨rfl, rfl, rfl, by decide +kernel, rfl, by decide +kernel, by decide +kernel⟩
theorem hG {k : Nat} {fM da cZ : Fn} (d : Def K mg "is_deed" eE ["world", "thing", "tries_left"]) (B : Blt mg) (wz : bI P w K mg base "is_try" (k) ["world", "thing", "tries_left"] fM) (dZ : bI P w K mg base "bounds_of" (k) ["world", "word"] da) (dY : bI P w K mg base "is_within" (k) ["thing", "least", "most"] cZ) : bI P w K mg base "is_deed" (k + 1) ["world", "thing", "tries_left"] (fnU 4 3 (cP fM da cZ)) :=
 d.pure lT fun f cdv A outer s H E hr => by
  have hu := eJ hr
  have nd := lT.nd
  exact (aw (bX (oD (sJ (gh (gf (ly (T := .tuple) (by intro z; cases z) (ah (wpv 1)) (gL rfl B.tuple OG.fA) rfl B.isinstance))) (lx (aP fe lz (bR fV fU rfl B.len PySem.boot_len (ae (ah (wpv 1)) ar)) (ao af) (aK _))))) (aC (aM (lV dh))) bj)
   (aw (bX (aP (j9 hr.units) oG (dz hu (ah (wpv 1)) (ao af) (fun _ _ => rfl) (fun _ _ => rfl)) (aQ aA) (aK _)) (aC (aM (aD wz hr rfl (ae (ah (wpv 0)) (ae (ah (wpv 1)) (ae (ah (wpv 2)) ar)))))) bj)
   (aw (aL (i := 3) nd rfl (by first | exact Or.inl rfl | exact Or.inr rfl) (aD dZ hr rfl (ae (ah (wpv 0)) (ae (dz hu (ah (wpv 1)) (ao af) (fun _ _ => rfl) (fun _ _ => rfl)) ar))))
   (aw (bX (oD (sJ (aP AN Df (ah (wpv 3)) (mw fB) (aK _)) (lx (aP yp Dc (bR fV fU rfl B.len PySem.boot_len (ae (ah (wpv 1)) ar)) (bw bA bz (ao af) (bR fV fU rfl B.len PySem.boot_len (ae (ah (wpv 3)) ar))) (aK _))))) (aC (aM (lV dh))) bj)
   (aC (aM (bR (qr rfl) AL rfl B.all OG.qu (ae (ny (Nc := ["part", "bound"]) (tn := ["part", "bound"]) (capN := []) (caps := []) rfl (Af rfl B.zip (xU (ah (wpv 1)) (gP (ao af)) gQ) (ah (wpv 3))) (fun _ _ _ => (wM rfl (gY (cf (i := 0) (show (["part", "bound"] : List Str).Nodup by decide +kernel) rfl (by first | exact Or.inl rfl | exact Or.inr rfl)) (gY (cf (i := 1) (show (["part", "bound"] : List Str).Nodup by decide +kernel) rfl (by first | exact Or.inl rfl | exact Or.inr rfl)) sI)))) (fun _ _ _ => (aD dY hr rfl (ae (ah (wpv 0)) (ae (dz hu (ah (wpv 1)) (ao af) (fun _ _ => rfl) (fun _ _ => rfl)) (ae (dz hu (ah (wpv 1)) (ao af) (fun _ _ => rfl) (fun _ _ => rfl)) ar))))) rfl rfl (by decide +kernel) (by decide +kernel) trivial rfl .nil rfl rfl) ar))))))))
theorem nu : aY ["world", "thing", "tries_left"] ["world", "thing", "tries_left"] (ax fG) := ⟨rfl, rfl, rfl, by decide +kernel, rfl, by decide +kernel, by decide +kernel⟩
theorem jm {k : Nat} {eK : Fn} (d : Def K mg "is_run" fG ["world", "thing", "tries_left"]) (B : Blt mg) (C_MOST_IN_TUPLE : ∃ t, mg "MOST_IN_TUPLE" = some (.int (12) t)) (uK : bI P w K mg base "is_deed" (k) ["world", "thing", "tries_left"] eK) : bI P w K mg base "is_run" (k + 1) ["world", "thing", "tries_left"] (fnU 3 3 (fN eK)) :=
 d.pure nu fun f cdv A outer s H E hr => by
  have hu := eJ hr
  have nd := nu.nd
  exact (aw (bX (oD (sJ (gh (gf (ly (T := .tuple) (by intro z; cases z) (ah (wpv 1)) (gL rfl B.tuple OG.fA) rfl B.isinstance))) (lx (aP lB uM (bR fV fU rfl B.len PySem.boot_len (ae (ah (wpv 1)) ar)) (ao (mf rfl C_MOST_IN_TUPLE)) (aK _))))) (aC (aM (lV dh))) bj)
   (aC (aM (bR (qr rfl) AL rfl B.all OG.qu (ae (ny (Nc := ["deed", "world", "tries_left"]) (tn := ["deed"]) (capN := ["world", "tries_left"]) (caps := [0, 2]) rfl (nv (ah (wpv 1))) (fun _ _ _ => (fc (cf (i := 0) (show (["deed", "world", "tries_left"] : List Str).Nodup by decide +kernel) rfl (by first | exact Or.inl rfl | exact Or.inr rfl)))) (fun _ _ _ => (aD uK hr rfl (ae (ah (wpv 1)) (ae (ah (wpv 0)) (ae (ah (wpv 2)) ar))))) rfl rfl (by decide +kernel) (by decide +kernel) ⟨rfl, rfl, trivial⟩ rfl (.cons ⟨rfl, rfl, rfl, _, rfl⟩ (.cons ⟨rfl, rfl, rfl, _, rfl⟩ .nil)) rfl rfl) ar)))))
theorem jX : aY ["deed"] ["deed"] (ax dF) := ⟨rfl, rfl, rfl, by decide +kernel, rfl, by decide +kernel, by decide +kernel⟩
theorem gE {k : Nat} {bc : Fn} (d : Def K mg "deeds_of" dF ["deed"]) (B : Blt mg) (gJ : bI P w K mg base "deeds_in" (k) ["dealing"] bc) : bI P w K mg base "deeds_of" (k + 1) ["deed"] (fnU 1 1 (dk bc)) :=
 d.pure jX fun f cdv A outer s H E hr => by
  have hu := eJ hr
  have nd := jX.nd
  exact (aw (bX (aP fe lz (dz hu (ah (wpv 0)) (ao af) (fun _ _ => rfl) (fun _ _ => rfl)) (aQ aA) (aK _)) (aC (aM (bw bA bz (bw bA bz (ao af) (aD gJ hr rfl (ae (dz hu (ah (wpv 0)) (ao af) (fun _ _ => rfl) (fun _ _ => rfl)) ar))) (aD gJ hr rfl (ae (dz hu (ah (wpv 0)) (ao af) (fun _ _ => rfl) (fun _ _ => rfl)) ar))))) bj)
   (aC (aM (ao af))))
theorem jY : aY ["dealing"] ["dealing"] (ax dG) := ⟨rfl, rfl, rfl, by decide +kernel, rfl, by decide +kernel, by decide +kernel⟩
theorem gF {k : Nat} {dQ : Fn} (d : Def K mg "deeds_in" dG ["dealing"]) (B : Blt mg) (rz : bI P w K mg base "deeds_of" (k) ["deed"] dQ) : bI P w K mg base "deeds_in" (k + 1) ["dealing"] (fnU 1 1 (fz dQ)) :=
 d.pure jY fun f cdv A outer s H E hr => by
  have hu := eJ hr
  have nd := jY.nd
  exact (aC (aM (bR (wc rfl) C9 rfl B.sum OG.wj (ae (ny (Nc := ["deed"]) (tn := ["deed"]) (capN := []) (caps := []) rfl (nv (ah (wpv 0))) (fun _ _ _ => (fc (cf (i := 0) (show (["deed"] : List Str).Nodup by decide +kernel) rfl (by first | exact Or.inl rfl | exact Or.inr rfl)))) (fun _ _ _ => (aD rz hr rfl (ae (ah (wpv 0)) ar))) rfl rfl (by decide +kernel) (by decide +kernel) trivial rfl .nil rfl rfl) ar))))
theorem gU : aY ["world", "thing"] ["world", "thing"] (ax cH) := ⟨rfl, rfl, rfl, by decide +kernel, rfl, by decide +kernel, by decide +kernel⟩
theorem nH {k : Nat} {b7 bc : Fn} (d : Def K mg "is_dealing" cH ["world", "thing"]) (B : Blt mg) (C_MOST_TRIES : ∃ t, mg "MOST_TRIES" = some (.int (3) t)) (C_MOST_IN_ALL : ∃ t, mg "MOST_IN_ALL" = some (.int (40) t)) (js : bI P w K mg base "is_run" (k) ["world", "thing", "tries_left"] b7) (gJ : bI P w K mg base "deeds_in" (k) ["dealing"] bc) : bI P w K mg base "is_dealing" (k + 1) ["world", "thing"] (fnU 2 2 (dj b7 bc)) :=
 d.pure gU fun f cdv A outer s H E hr => by
  have hu := eJ hr
  have nd := gU.nd
  exact (aC (aM (gj (aD js hr rfl (ae (ah (wpv 0)) (ae (ah (wpv 1)) (ae (ao (mf rfl C_MOST_TRIES)) ar)))) (mv (oE qQ yS (aD gJ hr rfl (ae (ah (wpv 1)) ar)) (ao (mf rfl C_MOST_IN_ALL)) (aK _))))))
theorem fX : aY ["part", "low", "high"] ["part", "low", "high"] (ax bY) := ⟨rfl, rfl, rfl, by decide +kernel, rfl, by decide +kernel, by decide +kernel⟩
theorem lC {k : Nat} (d : Def K mg "_law_is_part" bY ["part", "low", "high"]) (B : Blt mg) : bI P w K mg base "_law_is_part" (k + 1) ["part", "low", "high"] (fnU 3 3 (b6 )) :=
 d.pure fX fun f cdv A outer s H E hr => by
  have hu := eJ hr
  have nd := fX.nd
  exact (aC (aM (gj (ly (T := .int) (by intro z; cases z) (ah (wpv 0)) (gL rfl B.int OG.jq) rfl B.isinstance) (gj (wN (ly (T := .bool) (by intro z; cases z) (ah (wpv 0)) (gL rfl B.bool OG.kJ) rfl B.isinstance)) (mv (sM qQ yS qQ yS (ah (wpv 1)) (ah (wpv 0)) (ah (wpv 2))))))))
theorem fY : aY ["world", "thing", "tries", "word", "one", "other"] ["world", "thing", "tries"] (ax bZ) := ⟨rfl, rfl, rfl, by decide +kernel, rfl, by decide +kernel, by decide +kernel⟩
theorem ed {k : Nat} {bh aS : Fn} (d : Def K mg "_law_is_deed" bZ ["world", "thing", "tries"]) (B : Blt mg) (gK : bI P w K mg base "_law_are" (k) ["world", "thing", "tries"] bh) (aW : bI P w K mg base "_law_is_part" (k) ["part", "low", "high"] aS) : bI P w K mg base "_law_is_deed" (k + 1) ["world", "thing", "tries"] (fnU 6 3 (aZ bh aS)) :=
 d.pure fY fun f cdv A outer s H E hr => by
  have hu := eJ hr
  have nd := fY.nd
  exact (aw (bX (oD (sJ (gh (gf (ly (T := .tuple) (by intro z; cases z) (ah (wpv 1)) (gL rfl B.tuple OG.fA) rfl B.isinstance))) (sJ (aP (wO hr.units) AK (ah (wpv 1)) (aI ar) (aK _)) (lx (gh (gf (ly (T := .str) (by intro z; cases z) (dz hu (ah (wpv 1)) (ao af) (fun _ _ => rfl) (fun _ _ => rfl)) (gL rfl B.str OG.qt) rfl B.isinstance))))))) (aC (aM (lV dh))) bj)
   (aw (bX (aP fe lz (dz hu (ah (wpv 1)) (ao af) (fun _ _ => rfl) (fun _ _ => rfl)) (aQ aA) (aK _)) (aC (aM (oE fe lz (bR fV fU rfl B.len PySem.boot_len (ae (ah (wpv 1)) ar)) (ao af) (aK _)))) bj)
   (aw (bX (aP yp Dc (bR fV fU rfl B.len PySem.boot_len (ae (ah (wpv 1)) ar)) (ao af) (aK _)) (aC (aM (lV dh))) bj)
   (aw (bX (aP fe lz (dz hu (ah (wpv 1)) (ao af) (fun _ _ => rfl) (fun _ _ => rfl)) (aQ aA) (aK _)) (aC (aM (gj (oE lB uM (ah (wpv 2)) (ao af) (aK _)) (gj (aD gK hr rfl (ae (ah (wpv 0)) (ae (dz hu (ah (wpv 1)) (ao af) (fun _ _ => rfl) (fun _ _ => rfl)) (ae (bw b9 ej (ah (wpv 2)) (ao af)) ar)))) (mv (aD gK hr rfl (ae (ah (wpv 0)) (ae (dz hu (ah (wpv 1)) (ao af) (fun _ _ => rfl) (fun _ _ => rfl)) (ae (bw b9 ej (ah (wpv 2)) (ao af)) ar))))))))) bj)
   (aw (Ae (ah (wpv 1)) (wM rfl (gY (cf (i := 3) nd rfl (by first | exact Or.inl rfl | exact Or.inr rfl)) (gY (cf (i := 4) nd rfl (by first | exact Or.inl rfl | exact Or.inr rfl)) (gY (cf (i := 5) nd rfl (by first | exact Or.inl rfl | exact Or.inr rfl)) sI)))))
   (aw (bX (aP fe lz (ah (wpv 3)) (aQ aA) (aK _)) (aC (aM (gj (aD aW hr rfl (ae (ah (wpv 4)) (ae (ao af) (ae (bw b9 ej (dz hu (ah (wpv 0)) (ao af) (fun _ _ => rfl) (fun _ _ => rfl)) (ao af)) ar)))) (mv (aD aW hr rfl (ae (ah (wpv 5)) (ae (ao af) (ae (ao af) ar)))))))) bj)
   (aw (bX (oD (sJ (vo hu (ah (wpv 3)) (aI (ae (aQ aA) (ae (aQ aA) (ae (aQ aA) (ae (aQ aA) ar))))) (by with_unfolding_all rfl)) (lx (gh (gf (aD aW hr rfl (ae (ah (wpv 4)) (ae (ao af) (ae (ao af) ar))))))))) (aC (aM (lV dh))) bj)
   (aw (bX (aP fe lz (ah (wpv 3)) (aQ aA) (aK _)) (aC (aM (aD aW hr rfl (ae (ah (wpv 5)) (ae (ao af) (ae (bw b9 ej (dz hu (ah (wpv 0)) (ao af) (fun _ _ => rfl) (fun _ _ => rfl)) (ao af)) ar)))))) bj)
   (aw (bX (aP fe lz (ah (wpv 3)) (aQ aA) (aK _)) (aC (aM (aD aW hr rfl (ae (ah (wpv 5)) (ae (ao af) (ae (bw b9 ej (dz hu (ah (wpv 0)) (ao af) (fun _ _ => rfl) (fun _ _ => rfl)) (ao af)) ar)))))) bj)
   (aC (aM (aD aW hr rfl (ae (ah (wpv 5)) (ae (fH nQ AJ rfl B.int OG.jq (ae (oE fe lz (ah (wpv 3)) (aQ aA) (aK _)) ar)) (ae (dz hu (dJ (ae (ao af) (ae (ao af) ar))) (fH nQ AJ rfl B.int OG.jq (ae (oE fe lz (ah (wpv 3)) (aQ aA) (aK _)) ar)) (fun _ _ => rfl) (fun _ _ => rfl)) ar)))))))))))))))
theorem j2 : aY ["world", "thing", "tries"] ["world", "thing", "tries"] (ax dI) := ⟨rfl, rfl, rfl, by decide +kernel, rfl, by decide +kernel, by decide +kernel⟩
theorem gG {k : Nat} {b4 : Fn} (d : Def K mg "_law_are" dI ["world", "thing", "tries"]) (B : Blt mg) (lK : bI P w K mg base "_law_is_deed" (k) ["world", "thing", "tries"] b4) : bI P w K mg base "_law_are" (k + 1) ["world", "thing", "tries"] (fnU 3 3 (dU b4)) :=
 d.pure j2 fun f cdv A outer s H E hr => by
  have hu := eJ hr
  have nd := j2.nd
  exact (aw (bX (oD (sJ (gh (gf (ly (T := .tuple) (by intro z; cases z) (ah (wpv 1)) (gL rfl B.tuple OG.fA) rfl B.isinstance))) (lx (aP lB uM (bR fV fU rfl B.len PySem.boot_len (ae (ah (wpv 1)) ar)) (ao af) (aK _))))) (aC (aM (lV dh))) bj)
   (aC (aM (sL hu (lV dh) (ny (Nc := ["deed", "world", "tries"]) (tn := ["deed"]) (capN := ["world", "tries"]) (caps := [0, 2]) rfl (nv (ah (wpv 1))) (fun _ _ _ => (fc (cf (i := 0) (show (["deed", "world", "tries"] : List Str).Nodup by decide +kernel) rfl (by first | exact Or.inl rfl | exact Or.inr rfl)))) (fun _ _ _ => (aD lK hr rfl (ae (ah (wpv 1)) (ae (ah (wpv 0)) (ae (ah (wpv 2)) ar))))) rfl rfl (by decide +kernel) (by decide +kernel) ⟨rfl, rfl, trivial⟩ rfl (.cons ⟨rfl, rfl, rfl, _, rfl⟩ (.cons ⟨rfl, rfl, rfl, _, rfl⟩ .nil)) rfl rfl) (by with_unfolding_all rfl)))))
theorem eS : aY ["world", "thing"] ["world", "thing"] (ax bq) := ⟨rfl, rfl, rfl, by decide +kernel, rfl, by decide +kernel, by decide +kernel⟩
theorem ig {k : Nat} {bh aB : Fn} (d : Def K mg "_law_is_dealing" bq ["world", "thing"]) (B : Blt mg) (gK : bI P w K mg base "_law_are" (k) ["world", "thing", "tries"] bh) (dg : bI P w K mg base "_law_size" (k) ["dealing"] aB) : bI P w K mg base "_law_is_dealing" (k + 1) ["world", "thing"] (fnU 2 2 (bL bh aB)) :=
 d.pure eS fun f cdv A outer s H E hr => by
  have hu := eJ hr
  have nd := eS.nd
  exact (aC (aM (gj (aD gK hr rfl (ae (ah (wpv 0)) (ae (ah (wpv 1)) (ae (ao af) ar)))) (mv (oE qQ yS (aD dg hr rfl (ae (ah (wpv 1)) ar)) (ao af) (aK _))))))
theorem fj : aY ["pen", "world", "deed", "more", "some"] ["pen", "world", "deed"] (ax bC) := ⟨rfl, rfl, rfl, by decide +kernel, rfl, by decide +kernel, by decide +kernel⟩
theorem jb {k : Nat} {ag : Fn} (d : Def K mg "_law_bent_deed" bC ["pen", "world", "deed"]) (B : Blt mg) (av : bI P w K mg base "_law_take" (k) ["pen", "many"] ag) : bI P w K mg base "_law_bent_deed" (k + 1) ["pen", "world", "deed"] (fnU 5 3 (cq ag)) :=
 d.pure fj fun f cdv A outer s H E hr => by
  have hu := eJ hr
  have nd := fj.nd
  exact (aw (aL (i := 3) nd rfl (by first | exact Or.inl rfl | exact Or.inr rfl) (aD av hr rfl (ae (ah (wpv 0)) (ae (bw p6 vF (ao af) (ao af)) ar))))
   (aw (aL (i := 4) nd rfl (by first | exact Or.inl rfl | exact Or.inr rfl) (dJ (ae (fH eX sV rfl B.list OG.hV (ae (ah (wpv 2)) ar)) (ae (dz hu (ah (wpv 2)) (ao af) (fun _ _ => rfl) (fun _ _ => rfl)) (ae (mw fB) (ae (aI ar) (ae (bw bA bz (ah (wpv 2)) (aI (ae (ao af) ar))) (ae (xU (ah (wpv 2)) gQ (gP (CZ (ao af)))) ar))))))))
   (aw (aL (i := 4) nd rfl (by first | exact Or.inl rfl | exact Or.inr rfl) (bw bA bz (ah (wpv 4)) (dJ (ae (bw bA bz (aI (ae (xT (dz hu (ah (wpv 2)) (ao af) (fun _ _ => rfl) (fun _ _ => rfl))) ar)) (xU (ah (wpv 2)) (gP (ao af)) gQ)) (ae (aI (ae (aQ aA) ar)) (ae (aI (ae (aQ aA) (ae (ao af) ar))) ar))))))
   (aw (aL (i := 4) nd rfl (by first | exact Or.inl rfl | exact Or.inr rfl) (bw bA bz (ah (wpv 4)) (dJ (ae (aI (ae (aQ aA) (ae (ao af) (ae (ao af) ar)))) (ae (aI (ae (aQ aA) (ae (ao af) (ae (dz hu (ah (wpv 1)) (ao af) (fun _ _ => rfl) (fun _ _ => rfl)) ar)))) (ae (aI (ae (aQ aA) (ae (lV dh) (ae (ao af) ar)))) ar))))))
   (aw (aL (i := 4) nd rfl (by first | exact Or.inl rfl | exact Or.inr rfl) (bw bA bz (ah (wpv 4)) (dJ (ae (aI (ae (aQ aA) (ae (ao af) (ae (bw b9 ej (ao af) (ao af)) ar)))) (ae (aI (ae (aQ aA) (ae (dz hu (ah (wpv 1)) (ao af) (fun _ _ => rfl) (fun _ _ => rfl)) (ae (ao af) ar)))) ar)))))
   (aw (aL (i := 4) nd rfl (by first | exact Or.inl rfl | exact Or.inr rfl) (bw bA bz (ah (wpv 4)) (dJ (ae (aI (ae (aQ aA) (ae (ao af) (ae (ao af) ar)))) (ae (aI (ae (aQ aA) (ae (ao af) (ae (bw b9 ej (bw b9 ej (ao af) (ao af)) (ah (wpv 3))) ar)))) ar)))))
   (aw (aL (i := 4) nd rfl (by first | exact Or.inl rfl | exact Or.inr rfl) (bw bA bz (ah (wpv 4)) (dJ (ae (aI (ae (aQ aA) (ae (ao af) (ae (bw bA bz (dz hu (ah (wpv 1)) (ao af) (fun _ _ => rfl) (fun _ _ => rfl)) (ah (wpv 3))) ar)))) (ae (aI (ae (aQ aA) (ae (ao af) (ae (aQ aA) ar)))) (ae (aI (ae (aQ aA) (ae (ao af) (ae (mw fB) ar)))) ar))))))
   (aw (aL (i := 4) nd rfl (by first | exact Or.inl rfl | exact Or.inr rfl) (bw bA bz (ah (wpv 4)) (dJ (ae (aI (ae (aQ aA) (ae (ao af) (ae (ao af) ar)))) (ae (aI (ae (aQ aA) (ae (bw b9 ej (ao af) (ao af)) (ae (ao af) ar)))) (ae (aI (ae (aQ aA) (ae (ao af) (ae (ao af) ar)))) ar))))))
   (aw (aL (i := 4) nd rfl (by first | exact Or.inl rfl | exact Or.inr rfl) (bw bA bz (ah (wpv 4)) (dJ (ae (aI (ae (aQ aA) (ae (ao af) (ae (ao af) ar)))) (ae (aI (ae (aQ aA) (ae (ao af) (ae (ao af) ar)))) (ae (aI (ae (aQ aA) (ae (ao af) (ae (lV dh) ar)))) ar))))))
   (aw (aL (i := 4) nd rfl (by first | exact Or.inl rfl | exact Or.inr rfl) (bw bA bz (ah (wpv 4)) (dJ (ae (aI (ae (aQ aA) (ae (aI ar) (ae (aI ar) ar)))) (ae (aI (ae (aQ aA) (ae (aI ar) (ae (dJ ar) ar)))) (ae (aI (ae (aQ aA) (ae (aI (ae (aI (ae (aQ aA) ar)) ar)) ar))) ar))))))
   (aw (aL (i := 4) nd rfl (by first | exact Or.inl rfl | exact Or.inr rfl) (bw bA bz (ah (wpv 4)) (dJ (ae (aI (ae (aQ aA) (ae (aI ar) (ae (aI ar) (ae (aI ar) ar))))) (ae (aI (ae (aQ aA) (ae (mw fB) (ae (aI ar) ar)))) ar)))))
   (aw (aL (i := 4) nd rfl (by first | exact Or.inl rfl | exact Or.inr rfl) (bw bA bz (ah (wpv 4)) (dJ (ae (aI (ae (aQ aA) (ae (aI (ae (ah (wpv 2)) ar)) (ae (aI (ae (fH eX sV rfl B.list OG.hV (ae (ah (wpv 2)) ar)) ar)) ar)))) (ae (aI (ae (ah (wpv 2)) ar)) (ae (aI (ae (aQ aA) (ae (ao af) ar))) ar))))))
   (aw (aL (i := 4) nd rfl (by first | exact Or.inl rfl | exact Or.inr rfl) (bw bA bz (ah (wpv 4)) (dJ (ae (aI (ae (aI (ae (aQ aA) ar)) (ae (ao af) (ae (ao af) ar)))) (ae (aI (ae (aQ aA) (ae (ao af) (ae (bw bA bz (ao af) (ah (wpv 3))) ar)))) ar)))))
   (aw (aL (i := 4) nd rfl (by first | exact Or.inl rfl | exact Or.inr rfl) (bw bA bz (ah (wpv 4)) (dJ (ae (aI (ae (aQ aA) (ae (dJ (ae (ao af) ar)) (ae (ao af) ar)))) (ae (aI (ae (aQ aA) (ae (ao af) (ae (dJ (ae (ao af) ar)) ar)))) (ae (aI (ae (dJ (ae (aQ aA) ar)) ar)) (ae (aI (ae (aQ aA) (ae (aI (ae (ao af) ar)) (ae (ao af) ar)))) ar)))))))
   (aC (aM (dz hu (ah (wpv 4)) (aD av hr rfl (ae (ah (wpv 0)) (ae (ao af) ar))) (fun _ _ => rfl) (fun _ _ => rfl))))))))))))))))))
theorem fh : aY ["pen", "world", "deed", "at", "more", "some"] ["pen", "world", "deed"] (ax bB) := ⟨rfl, rfl, rfl, by decide +kernel, rfl, by decide +kernel, by decide +kernel⟩
theorem ja {k : Nat} {ag : Fn} (d : Def K mg "_law_bent_part" bB ["pen", "world", "deed"]) (B : Blt mg) (av : bI P w K mg base "_law_take" (k) ["pen", "many"] ag) : bI P w K mg base "_law_bent_part" (k + 1) ["pen", "world", "deed"] (fnU 6 3 (bS ag)) :=
 d.pure fh fun f cdv A outer s H E hr => by
  have hu := eJ hr
  have nd := fh.nd
  exact (aw (bX (aP fe lz (bR fV fU rfl B.len PySem.boot_len (ae (ah (wpv 2)) ar)) (ao af) (aK _)) (aC (aM (bw bA bz (ah (wpv 2)) (aI (ae (ao af) ar))))) bj)
   (aw (aL (i := 3) nd rfl (by first | exact Or.inl rfl | exact Or.inr rfl) (bw bA bz (ao af) (aD av hr rfl (ae (ah (wpv 0)) (ae (bw b9 ej (bR fV fU rfl B.len PySem.boot_len (ae (ah (wpv 2)) ar)) (ao af)) ar)))))
   (aw (aL (i := 4) nd rfl (by first | exact Or.inl rfl | exact Or.inr rfl) (aD av hr rfl (ae (ah (wpv 0)) (ae (bw p6 vF (ao af) (ao af)) ar))))
   (aw (aL (i := 5) nd rfl (by first | exact Or.inl rfl | exact Or.inr rfl) (dJ (ae (bw b9 ej (ao af) (ao af)) (ae (bw b9 ej (bw b9 ej (ao af) (ao af)) (ah (wpv 4))) (ae (ao af) (ae (ao af) (ae (ao af) (ae (ao af) (ae (ao af) (ae (dz hu (ah (wpv 1)) (ao af) (fun _ _ => rfl) (fun _ _ => rfl)) (ae (dz hu (ah (wpv 1)) (ao af) (fun _ _ => rfl) (fun _ _ => rfl)) (ae (bw bA bz (dz hu (ah (wpv 1)) (ao af) (fun _ _ => rfl) (fun _ _ => rfl)) (ah (wpv 4))) (ae (lV dh) (ae (lV dh) ar))))))))))))))
   (aw (aL (i := 5) nd rfl (by first | exact Or.inl rfl | exact Or.inr rfl) (bw bA bz (ah (wpv 5)) (dJ (ae (mw fB) (ae (fH (AR hr.gd hr.units) AH rfl B.str OG.qt (ae (dz hu (ah (wpv 2)) (ah (wpv 3)) (fun _ _ => rfl) (fun _ _ => rfl)) ar)) (ae (aI (ae (dz hu (ah (wpv 2)) (ah (wpv 3)) (fun _ _ => rfl) (fun _ _ => rfl)) ar)) (ae (dJ (ae (dz hu (ah (wpv 2)) (ah (wpv 3)) (fun _ _ => rfl) (fun _ _ => rfl)) ar)) ar)))))))
   (aC (aM (bw bA bz (bw bA bz (xU (ah (wpv 2)) gQ (gP (ah (wpv 3)))) (aI (ae (dz hu (ah (wpv 5)) (aD av hr rfl (ae (ah (wpv 0)) (ae (ao af) ar))) (fun _ _ => rfl) (fun _ _ => rfl)) ar))) (xU (ah (wpv 2)) (gP (bw bA bz (ah (wpv 3)) (ao af))) gQ)))))))))
theorem iW : aY ["pen", "world", "dealing", "at", "deed"] ["pen", "world", "dealing"] (ax cY) := ⟨rfl, rfl, rfl, by decide +kernel, rfl, by decide +kernel, by decide +kernel⟩
theorem fK {k : Nat} {ag aJ bD bF : Fn} (d : Def K mg "_law_bent" cY ["pen", "world", "dealing"]) (B : Blt mg) (av : bI P w K mg base "_law_take" (k) ["pen", "many"] ag) (fP : bI P w K mg base "_law_bent" (k) ["pen", "world", "dealing"] aJ) (bV : bI P w K mg base "_law_bent_part" (k) ["pen", "world", "deed"] bD) (bW : bI P w K mg base "_law_bent_deed" (k) ["pen", "world", "deed"] bF) : bI P w K mg base "_law_bent" (k + 1) ["pen", "world", "dealing"] (fnU 5 3 (eP ag aJ bD bF)) :=
 d.pure iW fun f cdv A outer s H E hr => by
  have hu := eJ hr
  have nd := iW.nd
  exact (aw (bX (oD (sJ (aP (wO hr.units) AK (ah (wpv 2)) (aI ar) (aK _)) (lx (aP fe lz (aD av hr rfl (ae (ah (wpv 0)) (ae (ao af) ar))) (ao af) (aK _))))) (aC (aM (dz hu (dJ (ae (fH eX sV rfl B.list OG.hV (ae (ah (wpv 2)) ar)) (ae (bw bA bz (ah (wpv 2)) (aI (ae (ah (wpv 2)) ar))) (ae (bw bA bz (ah (wpv 2)) (aI (ae (aI (ae (aQ aA) (ae (aI ar) ar))) ar))) (ae (mw fB) ar))))) (aD av hr rfl (ae (ah (wpv 0)) (ae (ao af) ar))) (fun _ _ => rfl) (fun _ _ => rfl)))) bj)
   (aw (aL (i := 3) nd rfl (by first | exact Or.inl rfl | exact Or.inr rfl) (aD av hr rfl (ae (ah (wpv 0)) (ae (bR fV fU rfl B.len PySem.boot_len (ae (ah (wpv 2)) ar)) ar))))
   (aw (aL (i := 4) nd rfl (by first | exact Or.inl rfl | exact Or.inr rfl) (dz hu (ah (wpv 2)) (ah (wpv 3)) (fun _ _ => rfl) (fun _ _ => rfl)))
   (aw (bX (oD (nA (aP fe lz (dz hu (ah (wpv 4)) (ao af) (fun _ _ => rfl) (fun _ _ => rfl)) (aQ aA) (aK _)) (nz (aP lB uM (aD av hr rfl (ae (ah (wpv 0)) (ae (ao af) ar))) (ao af) (aK _))))) (aC (bX (aP fe lz (aD av hr rfl (ae (ah (wpv 0)) (ae (ao af) ar))) (ao af) (aK _)) (aC (aL (i := 4) nd rfl (by first | exact Or.inl rfl | exact Or.inr rfl) (aI (ae (aQ aA) (ae (aD fP hr rfl (ae (ah (wpv 0)) (ae (ah (wpv 1)) (ae (dz hu (ah (wpv 4)) (ao af) (fun _ _ => rfl) (fun _ _ => rfl)) ar)))) (ae (dz hu (ah (wpv 4)) (ao af) (fun _ _ => rfl) (fun _ _ => rfl)) ar)))))) (aC (aL (i := 4) nd rfl (by first | exact Or.inl rfl | exact Or.inr rfl) (aI (ae (aQ aA) (ae (dz hu (ah (wpv 4)) (ao af) (fun _ _ => rfl) (fun _ _ => rfl)) (ae (aD fP hr rfl (ae (ah (wpv 0)) (ae (ah (wpv 1)) (ae (dz hu (ah (wpv 4)) (ao af) (fun _ _ => rfl) (fun _ _ => rfl)) ar)))) ar)))))))) (aC (bX (aP fe lz (aD av hr rfl (ae (ah (wpv 0)) (ae (ao af) ar))) (ao af) (aK _)) (aC (aL (i := 4) nd rfl (by first | exact Or.inl rfl | exact Or.inr rfl) (aD bV hr rfl (ae (ah (wpv 0)) (ae (ah (wpv 1)) (ae (ah (wpv 4)) ar)))))) (aC (aL (i := 4) nd rfl (by first | exact Or.inl rfl | exact Or.inr rfl) (aD bW hr rfl (ae (ah (wpv 0)) (ae (ah (wpv 1)) (ae (ah (wpv 4)) ar)))))))))
   (aC (aM (bw bA bz (bw bA bz (xU (ah (wpv 2)) gQ (gP (ah (wpv 3)))) (aI (ae (ah (wpv 4)) ar))) (xU (ah (wpv 2)) (gP (bw bA bz (ah (wpv 3)) (ao af))) gQ))))))))
theorem gc : aY ["world", "thing", "found"] ["world", "thing"] (ax b3) := ⟨rfl, rfl, rfl, by decide +kernel, rfl, by decide +kernel, by decide +kernel⟩
theorem lD {k : Nat} {aH br : Fn} (d : Def K mg "_law_answers" b3 ["world", "thing"]) (B : Blt mg) (dn : bI P w K mg base "is_dealing" (k) ["world", "thing"] aH) (d7 : bI P w K mg base "_law_is_dealing" (k) ["world", "thing"] br) : bI P w K mg base "_law_answers" (k + 1) ["world", "thing"] (fnU 3 2 (cR aH br)) :=
 d.pure gc fun f cdv A outer s H E hr => by
  have hu := eJ hr
  have nd := gc.nd
  exact (aw (aL (i := 2) nd rfl (by first | exact Or.inl rfl | exact Or.inr rfl) (aD dn hr rfl (ae (ah (wpv 0)) (ae (ah (wpv 1)) ar))))
   (aC (aM (gj (ly (T := .bool) (by intro z; cases z) (ah (wpv 2)) (gL rfl B.bool OG.kJ) rfl B.isinstance) (mv (oE fe lz (ah (wpv 2)) (aD d7 hr rfl (ae (ah (wpv 0)) (ae (ah (wpv 1)) ar))) (aK _)))))))
theorem wK : aY ["script", "pen", "world", "turn", "dealing", "k", "plain", "nest", "many", "three"] ["script"] (ax lu) := ⟨rfl, rfl, rfl, by decide +kernel, rfl, by decide +kernel, by decide +kernel⟩
noncomputable def o3 (aX ay aH aG aJ ag : Fn) : CS :=
 (dq (oY (aE (cCB aG (ab (ak 2) (ab (cCB aJ (ab (ak 1) (ab (ak 2) (ab (ak 4) aq)))) aq))))) (cS (cC (.bl false))) bP)
noncomputable def mR (aX ay aH aG aJ ag : Fn) : CS :=
 (bx (b8 4 (cCB ay (ab (ak 1) (ab (ak 2) (ab (cC (.int 40)) (ab (cC (.int 3)) aq))))))
  (bx (dq (aE (cOp mL (cCB aH (ab (ak 2) (ab (ak 4) aq))) (cC (.bl true)))) (cS (cC (.bl false))) bP)
  (nS (eI (ab (cC (.int 5)) aq)) (gNm 5) (o3 aX ay aH aG aJ ag))))
noncomputable def mQ (aX ay aH aG aJ ag : Fn) : CS :=
 (bx (dq (oY (aE (cCB aG (ab (ak 2) (ab (ak 7) aq))))) (cS (cC (.bl false))) bP)
  (b8 7 (cOp bJ (aF (ab (aF (ab (cC (.str "try")) (ab (ak 7) (ab (aF aq) aq)))) aq)) (cOp jc (ak 6) (cCB ag (ab (ak 1) (ab (cC (.int 3)) aq)))))))
noncomputable def mP (aX ay aH aG aJ ag : Fn) : CS :=
 (bx (b8 9 (aF (ab (aF (ab (cC (.str "try")) (ab (cOp jc (ak 6) (cC (.int 12))) (ab (cOp jc (ak 6) (cC (.int 12))) aq)))) aq)))
  (bx (dq (cOr (oY (aE (cCB aG (ab (ak 2) (ab (cOp jc (ak 6) (ak 8)) aq))))) (oY (aE (cCB aG (ab (ak 2) (ab (cOp bJ (ak 9) (aF (ab (aF (ab (cC (.str "try")) (ab (aF aq) (ab (cOp jc (ak 6) (ak 8)) aq)))) aq))) aq)))))) (cS (cC (.bl false))) bP)
  (dq (oY (aE (cCB aG (ab (ak 2) (ab (cOp bJ (cOp bJ (ak 9) (aF (ab (aF (ab (cC (.str "try")) (ab (cOp jc (ak 6) (cOp eV (ak 8) (cC (.int 1)))) (ab (ak 6) aq)))) aq))) (cOp jc (ak 6) (cCB ag (ab (ak 1) (ab (cC (.int 3)) aq))))) aq))))) (cS (cC (.bl false))) bP)))
noncomputable def ui (aX ay aH aG aJ ag : Fn) : CS :=
 (bx (b8 2 (cCB aX (ab (ak 1) aq)))
  (bx (nS (eI (ab (cC (.int 3)) aq)) (gNm 3) (mR aX ay aH aG aJ ag))
  (bx (b8 6 (aF (ab (aF (ab (cC (.str "set")) (ab (cC (.int 0)) (ab (cC (.int 0)) aq)))) aq)))
  (bx (b8 7 (ak 6))
  (bx (nS (eI (ab (cC (.int 5)) aq)) (gNm 5) (mQ aX ay aH aG aJ ag))
  (bx (nS (mH (ab (cC (.int 11)) (ab (cC (.int 14)) aq))) (gNm 8) (mP aX ay aH aG aJ ag))
  (cS (cOp (fIn true) (cC (.bl false)) (fW (iTp (eD (ab (cC .non) (ab (cC (.int 0)) (ab (cC (.str "wait")) (ab (eD aq) (ab (aF aq) (ab (aF (ab (aF aq) aq)) (ab (aF (ab (cC (.str "wait")) aq)) (ab (aF (ab (cC .non) aq)) aq)))))))))) (gNm 0) (cCB aG (ab (ak 1) (ab (ak 0) aq))) 1 [2])))))))))
theorem DH {k : Nat} {aX ay aH aG aJ ag : Fn} {fa : Addr} {fd : FuncData} (F : Fun K "law" "law" lu fa fd) (B : Blt mg) (rA : Has P w K mg base "_law_pen" k ["script"] (wH K)) (gq : bI P w K mg base "_law_world" k ["pen"] aX) (eg : bI P w K mg base "_law_dealing" k ["pen", "world", "room", "tries"] ay) (dn : bI P w K mg base "is_dealing" k ["world", "thing"] aH) (bK : bI P w K mg base "_law_answers" k ["world", "thing"] aG) (fP : bI P w K mg base "_law_bent" k ["pen", "world", "dealing"] aJ) (av : bI P w K mg base "_law_take" k ["pen", "many"] ag)
  (ok : ∀ (ns : List Int) (a c : Int), 0 ≤ a → 0 ≤ c → ∃ ρ' S', ui aX ay aH aG aJ ag [none, some (.ref 1), none, none, none, none, none, none, none, none] [.lst (ns.map U.int), .lst [.ref 0, .int a, .int c]] = some (.rt (.bl true), ρ', S')) : qF P w K mg base CX0 (k + 1) fa fd ["script"] (vj K) := by
 refine Fun.okW F wK (fun vs H Q E h => (by obtain ⟨a, ns, rfl, _⟩ := h; rfl)) fun cdv A outer s H vs Q E hr h => ?_
 obtain ⟨a, ns, rfl, hS, fS, q⟩ := h
 have hu := eJ hr
 have nd := wK.nd
 refine ⟨_, mZ (u := tS K (ui aX ay aH aG aJ ag)) (rQ (i := 1) nd rfl (by first | exact Or.inl rfl | exact Or.inr rfl) (wC rA hr rfl (d8 (wpv 0) ib))) (aw (aL (i := 2) nd rfl (by first | exact Or.inl rfl | exact Or.inr rfl) (aD gq hr rfl (ae (ah (wpv 1)) ar)))
   (aw (lU PassesOwn.never rfl (gX rfl B.range (ae (ao af) ar)) (fc (cf (i := 3) nd rfl (by first | exact Or.inl rfl | exact Or.inr rfl))) (aw (aL (i := 4) nd rfl (by first | exact Or.inl rfl | exact Or.inr rfl) (aD eg hr rfl (ae (ah (wpv 1)) (ae (ah (wpv 2)) (ae (ao af) (ae (ao af) ar))))))
   (aw (bX (aP oH vH (aD dn hr rfl (ae (ah (wpv 2)) (ae (ah (wpv 4)) ar))) (lV dh) (aK _)) (aC (aM (lV dh))) bj)
   (aC (lU PassesOwn.never rfl (gX rfl B.range (ae (ao af) ar)) (fc (cf (i := 5) nd rfl (by first | exact Or.inl rfl | exact Or.inr rfl))) (aC (bX (gh (gf (aD bK hr rfl (ae (ah (wpv 2)) (ae (aD fP hr rfl (ae (ah (wpv 1)) (ae (ah (wpv 2)) (ae (ah (wpv 4)) ar)))) ar))))) (aC (aM (lV dh))) bj)))))))
   (aw (aL (i := 6) nd rfl (by first | exact Or.inl rfl | exact Or.inr rfl) (aI (ae (aI (ae (aQ aA) (ae (ao af) (ae (ao af) ar)))) ar)))
   (aw (aL (i := 7) nd rfl (by first | exact Or.inl rfl | exact Or.inr rfl) (ah (wpv 6)))
   (aw (lU PassesOwn.never rfl (gX rfl B.range (ae (ao af) ar)) (fc (cf (i := 5) nd rfl (by first | exact Or.inl rfl | exact Or.inr rfl))) (aw (bX (gh (gf (aD bK hr rfl (ae (ah (wpv 2)) (ae (ah (wpv 7)) ar))))) (aC (aM (lV dh))) bj)
   (aC (aL (i := 7) nd rfl (by first | exact Or.inl rfl | exact Or.inr rfl) (bw bA bz (aI (ae (aI (ae (aQ aA) (ae (ah (wpv 7)) (ae (aI ar) ar)))) ar)) (bw kc j7 (ah (wpv 6)) (aD av hr rfl (ae (ah (wpv 1)) (ae (ao af) ar)))))))))
   (aw (lU PassesOwn.never rfl (sH rfl B.range (ae (ao af) (ae (ao af) ar))) (fc (cf (i := 8) nd rfl (by first | exact Or.inl rfl | exact Or.inr rfl))) (aw (aL (i := 9) nd rfl (by first | exact Or.inl rfl | exact Or.inr rfl) (aI (ae (aI (ae (aQ aA) (ae (bw kc j7 (ah (wpv 6)) (ao af)) (ae (bw kc j7 (ah (wpv 6)) (ao af)) ar)))) ar)))
   (aw (bX (oD (sJ (gh (gf (aD bK hr rfl (ae (ah (wpv 2)) (ae (bw kc j7 (ah (wpv 6)) (ah (wpv 8))) ar))))) (lx (gh (gf (aD bK hr rfl (ae (ah (wpv 2)) (ae (bw bA bz (ah (wpv 9)) (aI (ae (aI (ae (aQ aA) (ae (aI ar) (ae (bw kc j7 (ah (wpv 6)) (ah (wpv 8))) ar)))) ar))) ar)))))))) (aC (aM (lV dh))) bj)
   (aC (bX (gh (gf (aD bK hr rfl (ae (ah (wpv 2)) (ae (bw bA bz (bw bA bz (ah (wpv 9)) (aI (ae (aI (ae (aQ aA) (ae (bw kc j7 (ah (wpv 6)) (bw b9 ej (ah (wpv 8)) (ao af))) (ae (ah (wpv 6)) ar)))) ar))) (bw kc j7 (ah (wpv 6)) (aD av hr rfl (ae (ah (wpv 1)) (ae (ao af) ar))))) ar))))) (aC (aM (lV dh))) bj)))))
   (aC (aM (sL hu (lV dh) (ny (Nc := ["thing", "world"]) (tn := ["thing"]) (capN := ["world"]) (caps := [2]) rfl (nv (dJ (ae (mw fB) (ae (ao af) (ae (aQ aA) (ae (dJ ar) (ae (aI ar) (ae (aI (ae (aI ar) ar)) (ae (aI (ae (aQ aA) ar)) (ae (aI (ae (mw fB) ar)) ar)))))))))) (fun _ _ _ => (fc (cf (i := 0) (show (["thing", "world"] : List Str).Nodup by decide +kernel) rfl (by first | exact Or.inl rfl | exact Or.inr rfl)))) (fun _ _ _ => (aD bK hr rfl (ae (ah (wpv 1)) (ae (ah (wpv 0)) ar)))) rfl rfl (by decide +kernel) (by decide +kernel) ⟨rfl, trivial⟩ rfl (.cons ⟨rfl, rfl, rfl, _, rfl⟩ .nil) rfl rfl) (by with_unfolding_all rfl)))))))))), ?_⟩
 refine ⟨_, rfl, a, ns, rfl, hS, fun p xs H1 s1 P1 n1 => ?_⟩
 exact yv P1 ok q
end
noncomputable abbrev fL (f : Fn → Fn → Fn → Fn → Fn → Fn → CS) : CS := f kL (og 3) de dC (oh 3) bH
section
variable {n w : Int}
theorem nX (n1 : n ≤ 6) (w1 : w ≤ 1000) (ns : List Int) {ds : List (Dl 3)} (ok : OkM n w 3 ds) : ∀ (us : List U) (T : Sto) (a c : Int) (r3 r5 r6 r7 r8 r9 : Option U), 0 ≤ a → 0 ≤ c →
  ∃ r5' a' c' G, fk (fun _ => True) (gNm 5) (fL o3) us [none, some (.ref 1), some (.tup [.int n, .int w]), r3, some (.tup (ds.map (Dl.u 3))), r5, r6, r7, r8, r9] (scr ns :: pen a c :: T) = some (.nx, [none, some (.ref 1), some (.tup [.int n, .int w]), r3, some (.tup (ds.map (Dl.u 3))), r5', r6, r7, r8, r9], scr ns :: pen a' c' :: (T ++ G)) ∧ 0 ≤ a' ∧ 0 ≤ c'
 | [], T, a, c, r3, r5, r6, r7, r8, r9, ha, hc => ⟨r5, a, c, [], by rw [List.append_nil]; exact g9 trivial, ha, hc⟩
 | u :: us, T, a, c, r3, r5, r6, r7, r8, r9, ha, hc => by
  obtain ⟨v, a1, c1, G1, e1, g1, ha1, hc1⟩ := qw n1 w1 3 3 (by omega) (by omega) ns T a c ds ha hc ok
  obtain ⟨G2, e2⟩ := iB (n := n) (w := w) g1
  have e2' : dC [.tup [.int n, .int w], v] (scr ns :: pen a1 c1 :: (T ++ G1)) = some (.bl true, scr ns :: pen a1 c1 :: (T ++ G1 ++ G2)) := e2
  obtain ⟨r5', a2, c2, G3, ih, ha2, hc2⟩ := nX n1 w1 ns ok us (T ++ G1 ++ G2) a1 c1 r3 (some u) r6 r7 r8 r9 ha1 hc1
  refine ⟨r5', a2, c2, G1 ++ G2 ++ G3, (dA trivial rfl ?_).trans (ih.trans ?_), ha2, hc2⟩
  ·generalize U.tup (ds.map (Dl.u 3)) = x at e1 ⊢
   rwa [fL, o3, e1, e2']
  ·simp only [List.append_assoc]
theorem m9 (n0 : 1 ≤ n) (n1 : n ≤ 6) (w0 : 2 ≤ w) (w1 : w ≤ 1000) (ns : List Int) : ∀ (us : List U) (T : Sto) (a c : Int) (r3 r4 r5 r6 r7 r8 r9 : Option U), 0 ≤ a → 0 ≤ c →
  ∃ r3' r4' r5' a' c' G, fk (fun _ => True) (gNm 3) (fL mR) us [none, some (.ref 1), some (.tup [.int n, .int w]), r3, r4, r5, r6, r7, r8, r9] (scr ns :: pen a c :: T) = some (.nx, [none, some (.ref 1), some (.tup [.int n, .int w]), r3', r4', r5', r6, r7, r8, r9], scr ns :: pen a' c' :: (T ++ G)) ∧ 0 ≤ a' ∧ 0 ≤ c'
 | [], T, a, c, r3, r4, r5, r6, r7, r8, r9, ha, hc => ⟨r3, r4, r5, a, c, [], by rw [List.append_nil]; exact g9 trivial, ha, hc⟩
 | u :: us, T, a, c, r3, r4, r5, r6, r7, r8, r9, ha, hc => by
  obtain ⟨ds, a1, c1, G1, e1, kd, sz, _, ha1, hc1, _⟩ := qo n0 n1 w0 w1 3 3 3 (by omega) (by omega) ns T a c 40 ha hc (by omega) (by omega)
  obtain ⟨b, ⟨G2, e2⟩, _, hb⟩ := uo (n := n) (w := w) (gdJ n1 w1 3 ds kd (scr ns :: pen a1 c1 :: (T ++ G1)))
  have bt := hb ds rfl kd sz
  subst bt
  have e2' : de [.tup [.int n, .int w], .tup (ds.map (Dl.u 3))] (scr ns :: pen a1 c1 :: (T ++ G1)) = some (.bl true, scr ns :: pen a1 c1 :: (T ++ G1 ++ G2)) := e2
  obtain ⟨r5', a2, c2, G3, e3, ha2, hc2⟩ := nX n1 w1 ns kd (eF 0 5) (T ++ G1 ++ G2) a1 c1 (some u) r5 r6 r7 r8 r9 ha1 hc1
  have r5e : eI (ab (cC (.int 5)) aq) = fun ρ S => some (eF 0 5, fun _ => True, S) := rfl
  have c3 : ((3 : Nat) : Int) = 3 := rfl
  rw [c3] at e1
  obtain ⟨r3'', r4'', r5'', a3, c3, G4, ih, ha3, hc3⟩ := m9 n0 n1 w0 w1 ns us (T ++ G1 ++ G2 ++ G3) a2 c2 (some u) (some (.tup (ds.map (Dl.u 3)))) r5' r6 r7 r8 r9 ha2 hc2
  refine ⟨r3'', r4'', r5'', a3, c3, G1 ++ G2 ++ G3 ++ G4, (dA trivial rfl ?_).trans (ih.trans ?_), ha3, hc3⟩
  ·have nb : (true != true) = false := rfl
   generalize U.tup (ds.map (Dl.u 3)) = x at e1 e2' e3 ⊢
   unfold fL mR
   rw [fE (ρ' := [none, some (.ref 1), some (.tup [.int n, .int w]), some u, some x, r5, r6, r7, r8, r9]) (S' := scr ns :: pen a1 c1 :: (T ++ G1)) (by rwa [e1])]
   rw [fE (ρ' := [none, some (.ref 1), some (.tup [.int n, .int w]), some u, some x, r5, r6, r7, r8, r9]) (S' := scr ns :: pen a1 c1 :: (T ++ G1 ++ G2)) (by rwa [e2', mL, nb])]
   unfold nS
   rw [r5e]
   exact e3
  ·simp only [List.append_assoc]
noncomputable def plU : U := .tup [.str "set", .int 0, .int 0]
theorem yE (S : Sto) : Gd S plU := .tup fun u hu => by
 rcases List.mem_cons.mp hu with rfl | hu
 ·exact .str _
 rcases List.mem_cons.mp hu with rfl | hu
 ·exact .int 0
 ·rw [List.mem_singleton.mp hu]; exact .int 0
structure Tu (u : U) (m : Nat) : Prop where
 ex : ∃ us, u = .tup us ∧ us.length ≤ m ∧ ∀ v ∈ us, ∀ S, Gd S v
theorem Tu.gd {u : U} {m : Nat} (h : Tu u m) (S : Sto) : Gd S u := by
 obtain ⟨us, rfl, _, hv⟩ := h.ex
 exact .tup fun v hm => hv v hm S
theorem CO {v : U} (h : ∀ S, Gd S v) : Tu (.tup [v]) 1 := ⟨[v], rfl, Nat.le_refl 1, fun x hx => by rw [List.mem_singleton.mp hx]; exact h⟩
theorem pQ {a b : U} {m m' : Nat} (ha : Tu a m) (hb : Tu b m') : Tu (.tup [.tup [.str "try", a, b]]) 1 := CO fun S => .tup fun x hx => by
 rcases List.mem_cons.mp hx with rfl | hx
 ·exact .str _
 rcases List.mem_cons.mp hx with rfl | hx
 ·exact ha.gd S
 ·rw [List.mem_singleton.mp hx]; exact hb.gd S
theorem wG : Tu (.tup []) 0 := ⟨[], rfl, Nat.le_refl 0, fun x hx => by cases hx⟩
theorem pR {a b : U} {m m' : Nat} (ha : Tu a m) (hb : Tu b m') (hm : m + m' ≤ 100) : ∃ v, (∀ S, bJ a b S = some (v, S)) ∧ Tu v (m + m') := by
 obtain ⟨us, rfl, hl, hu⟩ := ha.ex
 obtain ⟨vs, rfl, hl', hv⟩ := hb.ex
 refine ⟨.tup (us ++ vs), fun S => gm (by omega), us ++ vs, rfl, by rw [List.length_append]; omega, fun x hx => ?_⟩
 rcases List.mem_append.mp hx with hx | hx
 ·exact hu x hx
 ·exact hv x hx
theorem qj {p : U} : ∀ k : Nat, (List.replicate k [p]).flatten = List.replicate k p
 | 0 => rfl
 | k + 1 => by rw [List.replicate_succ, List.flatten_cons, qj k, List.replicate_succ]; rfl
theorem ng {k : Int} {m : Nat} (k0 : 0 ≤ k) (k1 : k ≤ m) (hm : m ≤ 100) : ∃ v, (∀ S, jc (.tup [plU]) (.int k) S = some (v, S)) ∧ Tu v m := by
 by_cases h : k = 0
 ·refine ⟨.tup [], fun S => ?_, [], rfl, Nat.zero_le _, fun x hx => by cases hx⟩
  simp only [jc]
  rw [if_pos h, if_pos (List.cons_ne_nil _ _)]
 ·refine ⟨.tup (List.replicate k.toNat plU), fun S => ?_, _, rfl, by rw [List.length_replicate]; omega, fun x hx => by rw [List.eq_of_mem_replicate hx]; exact yE⟩
  simp only [jc, vT]
  rw [if_neg h, if_pos ⟨List.cons_ne_nil _ _, by omega, by simp; omega⟩, qj]
theorem qx {u : U} {m : Nat} (h : Tu u m) (ns : List Int) (a c : Int) (T : Sto) : ∃ G, dC [.tup [.int n, .int w], u] (scr ns :: pen a c :: T) = some (.bl true, scr ns :: pen a c :: (T ++ G)) := iB (h.gd _)
theorem nC (ns : List Int) : ∀ (us : List U) (T : Sto) (a c : Int) (x : U) (r3 r4 r5 r8 r9 : Option U), 0 ≤ a → 0 ≤ c → Tu x 3 →
  ∃ r5' x' a' c' G, fk (fun _ => True) (gNm 5) (fL mQ) us [none, some (.ref 1), some (.tup [.int n, .int w]), r3, r4, r5, some (.tup [plU]), some x, r8, r9] (scr ns :: pen a c :: T) = some (.nx, [none, some (.ref 1), some (.tup [.int n, .int w]), r3, r4, r5', some (.tup [plU]), some x', r8, r9], scr ns :: pen a' c' :: (T ++ G)) ∧ 0 ≤ a' ∧ 0 ≤ c'
 | [], T, a, c, x, r3, r4, r5, r8, r9, ha, hc, _ => ⟨r5, x, a, c, [], by rw [List.append_nil]; exact g9 trivial, ha, hc⟩
 | u :: us, T, a, c, x, r3, r4, r5, r8, r9, ha, hc, hx => by
  obtain ⟨G1, e1⟩ := qx (n := n) (w := w) hx ns a c T
  obtain ⟨i, a1, c1, e2, i0, i1, ha1, hc1⟩ := bo ns (T ++ G1) ha hc (m := 3) (by decide) (by decide)
  obtain ⟨y, e3, hy⟩ := ng (k := i) (m := 2) i0 (by omega) (by decide)
  obtain ⟨z, e4, hz⟩ := pR (pQ hx wG) hy (by decide)
  obtain ⟨r5', x', a2, c2, G2, ih, ha2, hc2⟩ := nC ns us (T ++ G1) a1 c1 z r3 r4 (some u) r8 r9 ha1 hc1 hz
  refine ⟨r5', x', a2, c2, G1 ++ G2, (dA trivial rfl ?_).trans (ih.trans ?_), ha2, hc2⟩
  ·generalize U.tup [plU] = p at e3 ⊢
   rwa [fL, mQ, e1, e2, e3, e4]
  ·simp only [List.append_assoc]
theorem nE (ns : List Int) : ∀ (us : List U) (T : Sto) (a c : Int) (r3 r4 r5 r7 r8 r9 : Option U), 0 ≤ a → 0 ≤ c → (∀ u ∈ us, ∃ m : Int, u = .int m ∧ 1 ≤ m ∧ m ≤ 13) →
  ∃ r8' r9' a' c' G, fk (fun _ => True) (gNm 8) (fL mP) us [none, some (.ref 1), some (.tup [.int n, .int w]), r3, r4, r5, some (.tup [plU]), r7, r8, r9] (scr ns :: pen a c :: T) = some (.nx, [none, some (.ref 1), some (.tup [.int n, .int w]), r3, r4, r5, some (.tup [plU]), r7, r8', r9'], scr ns :: pen a' c' :: (T ++ G)) ∧ 0 ≤ a' ∧ 0 ≤ c'
 | [], T, a, c, r3, r4, r5, r7, r8, r9, ha, hc, _ => ⟨r8, r9, a, c, [], by rw [List.append_nil]; exact g9 trivial, ha, hc⟩
 | u :: us, T, a, c, r3, r4, r5, r7, r8, r9, ha, hc, hu => by
  obtain ⟨m, rfl, m0, m1⟩ := hu u List.mem_cons_self
  obtain ⟨y12, e1, hy12⟩ := ng (k := 12) (m := 12) (by decide) (by decide) (by decide)
  obtain ⟨ym, e2, hym⟩ := ng (k := m) (m := 13) (by omega) (by omega) (by decide)
  obtain ⟨yn, e3, hyn⟩ := ng (k := m - 1) (m := 13) (by omega) (by omega) (by decide)
  have h3 := pQ hy12 hy12
  obtain ⟨z1, e4, hz1⟩ := pR h3 (pQ wG hym) (by decide)
  obtain ⟨z2, e5, hz2⟩ := pR h3 (pQ hyn (CO yE)) (by decide)
  obtain ⟨G1, a1⟩ := qx (n := n) (w := w) hym ns a c T
  obtain ⟨G2, a2⟩ := qx (n := n) (w := w) hz1 ns a c (T ++ G1)
  obtain ⟨i, a3, c3, e6, i0, i1, ha3, hc3⟩ := bo ns (T ++ G1 ++ G2) ha hc (m := 3) (by decide) (by decide)
  obtain ⟨yi, e7, hyi⟩ := ng (k := i) (m := 2) i0 (by omega) (by decide)
  obtain ⟨z3, e8, hz3⟩ := pR hz2 hyi (by decide)
  obtain ⟨G3, a4⟩ := qx (n := n) (w := w) hz3 ns a3 c3 (T ++ G1 ++ G2)
  obtain ⟨x3, hx3⟩ : ∃ x3, x3 = U.tup [.tup [.str "try", y12, y12]] := ⟨_, rfl⟩
  obtain ⟨r8', r9', a5, c5, G4, ih, ha5, hc5⟩ := nE ns us (T ++ G1 ++ G2 ++ G3) a3 c3 r3 r4 r5 r7 (some (.int m)) (some x3) ha3 hc3 fun u hm => hu u (List.mem_cons_of_mem _ hm)
  refine ⟨r8', r9', a5, c5, G1 ++ G2 ++ G3 ++ G4, (dA trivial rfl ?_).trans (ih.trans ?_), ha5, hc5⟩
  ·unfold fL mP
   rw [← hx3] at e4 e5
   clear ih
   generalize hT1 : T ++ G1 = T1 at a1 a2 e6 a4 ⊢
   generalize hT2 : T1 ++ G2 = T2 at a2 e6 a4 ⊢
   generalize hp : U.tup [plU] = p at e1 e2 e3 e5 e7 ⊢
   rw [fE (ρ' := [none, some (.ref 1), some (.tup [.int n, .int w]), r3, r4, r5, some p, r7, some (.int m), some x3]) (S' := scr ns :: pen a c :: T) (by rw [hx3]; rwa [e1])]
   rw [fE (ρ' := [none, some (.ref 1), some (.tup [.int n, .int w]), r3, r4, r5, some p, r7, some (.int m), some x3]) (S' := scr ns :: pen a c :: T2) (by rwa [e2, e4, a1, a2])]
   rwa [e3, e5, e6, e7, e8, a4]
  ·simp only [List.append_assoc]
theorem Bf {S : Sto} {ρ : Rho} (h2 : ρ[2]? = some (some (.tup [.int n, .int w]))) : ∃ S', cOp (fIn true) (cC (.bl false)) (fW (iTp (eD (ab (cC .non) (ab (cC (.int 0)) (ab (cC (.str "wait")) (ab (eD aq) (ab (aF aq) (ab (aF (ab (aF aq) aq)) (ab (aF (ab (cC (.str "wait")) aq)) (ab (aF (ab (cC .non) aq)) aq)))))))))) (gNm 0) (cCB dC (ab (ak 1) (ab (ak 0) aq))) 1 [2]) ρ S = some (.bl true, S') := by
 obtain ⟨us, hus⟩ : ∃ us, us = [U.non, .int 0, .str "wait", .ref S.length, .tup [], .tup [.tup []], .tup [.str "wait"], .tup [.non]] := ⟨_, rfl⟩
 obtain ⟨Y, hY⟩ : ∃ Y, Y = S ++ [.lst []] ++ [.lst us] := ⟨_, rfl⟩
 have gu : ∀ u ∈ us, Gd Y u := by
  have hr : Gd Y (.ref S.length) := .lst (us := []) (by rw [hY, List.append_assoc, ga0]; rfl)
  have h0 : Gd Y (.tup []) := .tup fun u hu => by cases hu
  have h1 : ∀ {v}, Gd Y v → Gd Y (.tup [v]) := fun hv => .tup fun u hu => by rw [List.mem_singleton.mp hu]; exact hv
  intro u hu
  rw [hus] at hu
  simp only [List.mem_cons, List.not_mem_nil, or_false] at hu
  rcases hu with rfl | rfl | rfl | rfl | rfl | rfl | rfl | rfl
  ·exact .non
  ·exact .int 0
  ·exact .str _
  ·exact hr
  ·exact h0
  ·exact h1 h0
  ·exact h1 (.str _)
  ·exact h1 .non
 have el : eD (ab (cC .non) (ab (cC (.int 0)) (ab (cC (.str "wait")) (ab (eD aq) (ab (aF aq) (ab (aF (ab (aF aq) aq)) (ab (aF (ab (cC (.str "wait")) aq)) (ab (aF (ab (cC .non) aq)) aq)))))))) ρ S = some (.ref (S.length + 1), Y) := by
  rw [hY, hus]
  rwa [List.length_append, List.length_singleton]
 have gl : Y[S.length + 1]? = some (.lst us) := by rw [hY, List.append_assoc, ga (n := 1)]; rfl
 have l8 : us.length = 8 := by rw [hus]; rfl
 obtain ⟨G', ec⟩ := gI (S := Y) (ok := fun S' => S'[S.length + 1]? = some (.lst us)) (gg := gNm 0) (ce := cCB dC (ab (ak 1) (ab (ak 0) aq))) (f := fun u : U => u) (v := fun u => .bl true) (Rel := fun ρ => ∃ r0, ρ = [r0, some (.tup [.int n, .int w])]) (fun _ _ => mI gl) us [] [] [none, some (.tup [.int n, .int w])] ⟨_, rfl⟩ (by simp; omega) (fun x hx ys G ρ hρ => by
  obtain ⟨r0, rfl⟩ := hρ
  obtain ⟨G1, e⟩ := iB (n := n) (w := w) ((gu x hx).app (.lst ys :: G))
  rw [List.append_assoc, List.cons_append] at e
  refine ⟨[some x, some (.tup [.int n, .int w])], G1, ⟨_, rfl⟩, rfl, ?_⟩
  rwa [e])
 simp only [List.nil_append, List.map_id'] at ec
 obtain ⟨bs, hbs⟩ : ∃ bs : List Bool, bs = us.map fun _ => true := ⟨_, rfl⟩
 have em : (us.map fun _ => U.bl true) = bs.map U.bl := by rw [hbs, List.map_map]; rfl
 rw [em] at ec
 have hr : rG 1 [2] ρ = [none, some (.tup [.int n, .int w])] := by simp only [rG, List.replicate, List.map_cons, List.map_nil, h2, Option.getD_some, List.cons_append, List.nil_append]
 have hcomp : fW (iTp (eD (ab (cC .non) (ab (cC (.int 0)) (ab (cC (.str "wait")) (ab (eD aq) (ab (aF aq) (ab (aF (ab (aF aq) aq)) (ab (aF (ab (cC (.str "wait")) aq)) (ab (aF (ab (cC .non) aq)) aq)))))))))) (gNm 0) (cCB dC (ab (ak 1) (ab (ak 0) aq))) 1 [2] ρ S = some (.ref Y.length, Y ++ (.lst (bs.map U.bl) :: G')) := by
  have hi : iTp (eD (ab (cC .non) (ab (cC (.int 0)) (ab (cC (.str "wait")) (ab (eD aq) (ab (aF aq) (ab (aF (ab (aF aq) aq)) (ab (aF (ab (cC (.str "wait")) aq)) (ab (aF (ab (cC .non) aq)) aq))))))))) ρ S = some (us, fun S' => S'[S.length + 1]? = some (.lst us), Y) := by
   unfold iTp
   rw [el, Option.bind_some]
   simp only [gl]
  unfold fW
  rw [hi, Option.bind_some, hr]
  simp only [ec, Option.bind_some]
 have g0 : (Y ++ (O.lst (bs.map U.bl) :: G'))[Y.length]? = some (.lst (bs.map U.bl)) := by rw [ga0]; rfl
 have hf : ff (.bl false) = true ∧ (bs.map U.bl).all ff = true := ⟨rfl, by rw [hbs, hus]; rfl⟩
 have hin : inU (.bl false) (bs.map U.bl) = false := by rw [hbs, hus]; rfl
 refine ⟨Y ++ (.lst (bs.map U.bl) :: G'), ?_⟩
 rw [rD, x_c, Option.bind_some, ju, hcomp, Option.bind_some, jt]
 simp only [fIn, g0]
 rw [if_pos hf, hin]
 rfl
theorem AV (ns : List Int) (a c : Int) (ha : 0 ≤ a) (hc : 0 ≤ c) : ∃ ρ' S', (fL ui) [none, some (.ref 1), none, none, none, none, none, none, none, none] [.lst (ns.map U.int), .lst [.ref 0, .int a, .int c]] = some (.rt (.bl true), ρ', S') := by
 obtain ⟨n, w, a1, c1, G, e1, n0, n1, w0, w1, ha1, hc1⟩ := ve ns [] ha hc
 rw [List.nil_append] at e1
 obtain ⟨r3, r4, r5, a2, c2, G2, e2, ha2, hc2⟩ := m9 n0 n1 w0 w1 ns (eF 0 3) G a1 c1 none none none none none none none ha1 hc1
 obtain ⟨r5', x, a3, c3, G3, e3, ha3, hc3⟩ := nC (n := n) (w := w) ns (eF 0 5) (G ++ G2) a2 c2 (.tup [plU]) r3 r4 r5 none none ha2 hc2 (by
  have := CO yE
  obtain ⟨us, e, hl, h⟩ := this.ex
  exact ⟨us, e, by omega, h⟩)
 obtain ⟨r8, r9, a4, c4, G4, e4, ha4, hc4⟩ := nE (n := n) (w := w) ns (eF 11 3) (G ++ G2 ++ G3) a3 c3 r3 r4 r5' (some x) none none ha3 hc3 (fun u hu => by
  have e : eF 11 3 = [.int 11, .int 12, .int 13] := rfl
  rw [e] at hu
  simp only [List.mem_cons, List.not_mem_nil, or_false] at hu
  rcases hu with rfl | rfl | rfl
  ·exact ⟨11, rfl, by decide, by decide⟩
  ·exact ⟨12, rfl, by decide, by decide⟩
  ·exact ⟨13, rfl, by decide, by decide⟩)
 obtain ⟨S', e5⟩ := Bf (n := n) (w := w) (S := scr ns :: pen a4 c4 :: (G ++ G2 ++ G3 ++ G4)) (ρ := [none, some (.ref 1), some (.tup [.int n, .int w]), r3, r4, r5', some (.tup [plU]), some x, r8, r9]) rfl
 refine ⟨[none, some (.ref 1), some (.tup [.int n, .int w]), r3, r4, r5', some (.tup [plU]), some x, r8, r9], S', ?_⟩
 have q1 : eI (ab (cC (.int 3)) aq) = fun ρ S => some (eF 0 3, fun _ => True, S) := rfl
 have q2 : eI (ab (cC (.int 5)) aq) = fun ρ S => some (eF 0 5, fun _ => True, S) := rfl
 have q3 : mH (ab (cC (.int 11)) (ab (cC (.int 14)) aq)) = fun ρ S => some (eF 11 3, fun _ => True, S) := rfl
 have s0 : b8 2 (cCB kL (ab (ak 1) aq)) [none, some (.ref 1), none, none, none, none, none, none, none, none] (scr ns :: pen a c :: []) = some (.nx, [none, some (.ref 1), some (.tup [.int n, .int w]), none, none, none, none, none, none, none], scr ns :: pen a1 c1 :: G) := by
  rwa [e1]
 have s1 : nS (eI (ab (cC (.int 3)) aq)) (gNm 3) (fL mR) [none, some (.ref 1), some (.tup [.int n, .int w]), none, none, none, none, none, none, none] (scr ns :: pen a1 c1 :: G) = some (.nx, [none, some (.ref 1), some (.tup [.int n, .int w]), r3, r4, r5, none, none, none, none], scr ns :: pen a2 c2 :: (G ++ G2)) := by
  unfold nS; rw [q1]; exact e2
 have s2 : b8 6 (aF (ab (aF (ab (cC (.str "set")) (ab (cC (.int 0)) (ab (cC (.int 0)) aq)))) aq)) [none, some (.ref 1), some (.tup [.int n, .int w]), r3, r4, r5, none, none, none, none] (scr ns :: pen a2 c2 :: (G ++ G2)) = some (.nx, [none, some (.ref 1), some (.tup [.int n, .int w]), r3, r4, r5, some (.tup [plU]), none, none, none], scr ns :: pen a2 c2 :: (G ++ G2)) := rfl
 have s3 : b8 7 (ak 6) [none, some (.ref 1), some (.tup [.int n, .int w]), r3, r4, r5, some (.tup [plU]), none, none, none] (scr ns :: pen a2 c2 :: (G ++ G2)) = some (.nx, [none, some (.ref 1), some (.tup [.int n, .int w]), r3, r4, r5, some (.tup [plU]), some (.tup [plU]), none, none], scr ns :: pen a2 c2 :: (G ++ G2)) := rfl
 have s4 : nS (eI (ab (cC (.int 5)) aq)) (gNm 5) (fL mQ) [none, some (.ref 1), some (.tup [.int n, .int w]), r3, r4, r5, some (.tup [plU]), some (.tup [plU]), none, none] (scr ns :: pen a2 c2 :: (G ++ G2)) = some (.nx, [none, some (.ref 1), some (.tup [.int n, .int w]), r3, r4, r5', some (.tup [plU]), some x, none, none], scr ns :: pen a3 c3 :: (G ++ G2 ++ G3)) := by
  unfold nS; rw [q2]; exact e3
 have s5 : nS (mH (ab (cC (.int 11)) (ab (cC (.int 14)) aq))) (gNm 8) (fL mP) [none, some (.ref 1), some (.tup [.int n, .int w]), r3, r4, r5', some (.tup [plU]), some x, none, none] (scr ns :: pen a3 c3 :: (G ++ G2 ++ G3)) = some (.nx, [none, some (.ref 1), some (.tup [.int n, .int w]), r3, r4, r5', some (.tup [plU]), some x, r8, r9], scr ns :: pen a4 c4 :: (G ++ G2 ++ G3 ++ G4)) := by
  unfold nS; rw [q3]; exact e4
 show ui kL (og 3) de dC (oh 3) bH _ (scr ns :: pen a c :: []) = _
 unfold ui
 rw [fE s0, fE s1, fE s2, fE s3, fE s4, fE s5, qH, e5]
 rfl
end
section
variable {P : Program} {w : World} {K : PySem.W.Frag} {mg : Str → Option Value} {base : Heap}
theorem jZ : aY ["script"] ["script"] (ax dH) := ⟨rfl, rfl, rfl, by decide +kernel, rfl, by decide +kernel, by decide +kernel⟩
theorem yC {k : Nat} (B : Blt mg) (d : Def K mg "_law_pen" dH ["script"]) : Has P w K mg base "_law_pen" (k+1) ["script"] (wH K) := by
 refine d.has jZ (fun vs H Q E h => ?_) (fun f cdv A outer s H vs Q E hr h => ?_)
 ·obtain ⟨a, ns, rfl, _⟩ := h; rfl
 obtain ⟨a, ns, rfl, hS, q⟩ := h
 have nd := jZ.nd
 refine ⟨_, (pJ (rR (rW (d8 (lL eX rfl B.list OG.hV (d8 (m6 su (wpv 0) pL (pK af)) ib)) (d8 af (d8 af ib)))))), ?_⟩
 refine ⟨_, rfl, _, rfl, a, _, rfl, hS, fun p hp => ⟨p, _, rfl, .inl (SqL.of bQ), fun l hl => ⟨(by show 3 ≤ sizeLine; decide), fun r hr' => ?_⟩⟩⟩
 obtain ⟨ms, em⟩ : ∃ ms : List Int, t9 (ns.map V.int) none (some 63) = ms.map V.int := ⟨_, vZ _ _ _⟩
 rw [em] at hl hr' ⊢
 refine q r l _ (((dy hp _).trans (dy hl _)).trans (dy hr' _)) ⟨ms, 0, 0, bQ, ?_, cM bQ hr', by decide, by decide⟩ ?_
 ·rw [cy (cM bQ hr')]; exact bQ
 ·exact (((dy hp _).trans (dy hl _))).free hr'
end
theorem Bt {l : PySem.W.OpenLaw} {w : World} {K : PySem.W.Frag} {h : Heap} {mg : Str → Option Value} {fa : Addr} (X : K.In h) (G : h.Ns mainGlobals mg) (hfa : mg "law" = some (.ref fa))
  {f1 : Addr} {od1 an1 : Option Addr} {sl1 : Array (Option Value)} {oc1 kV1 dc1 pm1 cd1 ct1 : Value}
  {f2 : Addr} {od2 an2 : Option Addr} {sl2 : Array (Option Value)} {oc2 kV2 dc2 pm2 cd2 ct2 : Value}
  {f3 : Addr} {od3 an3 : Option Addr} {sl3 : Array (Option Value)} {oc3 kV3 dc3 pm3 cd3 ct3 : Value}
  {f4 : Addr} {od4 an4 : Option Addr} {sl4 : Array (Option Value)} {oc4 kV4 dc4 pm4 cd4 ct4 : Value}
  {f5 : Addr} {od5 an5 : Option Addr} {sl5 : Array (Option Value)} {oc5 kV5 dc5 pm5 cd5 ct5 : Value}
  {f6 : Addr} {od6 an6 : Option Addr} {sl6 : Array (Option Value)} {oc6 kV6 dc6 pm6 cd6 ct6 : Value}
  {f7 : Addr} {od7 an7 : Option Addr} {sl7 : Array (Option Value)} {oc7 kV7 dc7 pm7 cd7 ct7 : Value}
  {f8 : Addr} {od8 an8 : Option Addr} {sl8 : Array (Option Value)} {oc8 kV8 dc8 pm8 cd8 ct8 : Value}
  {f9 : Addr} {od9 an9 : Option Addr} {sl9 : Array (Option Value)} {oc9 kV9 dc9 pm9 cd9 ct9 : Value}
  {f10 : Addr} {od10 an10 : Option Addr} {sl10 : Array (Option Value)} {oc10 kV10 dc10 pm10 cd10 ct10 : Value}
  {f11 : Addr} {od11 an11 : Option Addr} {sl11 : Array (Option Value)} {oc11 kV11 dc11 pm11 cd11 ct11 : Value}
  {f12 : Addr} {od12 an12 : Option Addr} {sl12 : Array (Option Value)} {oc12 kV12 dc12 pm12 cd12 ct12 : Value}
  {f13 : Addr} {od13 an13 : Option Addr} {sl13 : Array (Option Value)} {oc13 kV13 dc13 pm13 cd13 ct13 : Value}
  {f14 : Addr} {od14 an14 : Option Addr} {sl14 : Array (Option Value)} {oc14 kV14 dc14 pm14 cd14 ct14 : Value}
  {f15 : Addr} {od15 an15 : Option Addr} {sl15 : Array (Option Value)} {oc15 kV15 dc15 pm15 cd15 ct15 : Value}
  {f16 : Addr} {od16 an16 : Option Addr} {sl16 : Array (Option Value)} {oc16 kV16 dc16 pm16 cd16 ct16 : Value}
  {f17 : Addr} {od17 an17 : Option Addr} {sl17 : Array (Option Value)} {oc17 kV17 dc17 pm17 cd17 ct17 : Value}
  {f18 : Addr} {od18 an18 : Option Addr} {sl18 : Array (Option Value)} {oc18 kV18 dc18 pm18 cd18 ct18 : Value}
  {f19 : Addr} {od19 an19 : Option Addr} {sl19 : Array (Option Value)} {oc19 kV19 dc19 pm19 cd19 ct19 : Value}
  {f20 : Addr} {od20 an20 : Option Addr} {sl20 : Array (Option Value)} {oc20 kV20 dc20 pm20 cd20 ct20 : Value}
  {f21 : Addr} {od21 an21 : Option Addr} {sl21 : Array (Option Value)} {oc21 kV21 dc21 pm21 cd21 ct21 : Value}
  {f22 : Addr} {od22 an22 : Option Addr} {sl22 : Array (Option Value)} {oc22 kV22 dc22 pm22 cd22 ct22 : Value}
  {f23 : Addr} {od23 an23 : Option Addr} {sl23 : Array (Option Value)} {oc23 kV23 dc23 pm23 cd23 ct23 : Value}
  {f24 : Addr} {od24 an24 : Option Addr} {sl24 : Array (Option Value)} {oc24 kV24 dc24 pm24 cd24 ct24 : Value}
  {tk25_0 tk25_1 : Tok} {pt25 : Addr} {pd25 : Option Addr} {pn25 : Nat} {pl25 : Array (Option Value)}
  {tk26_0 tk26_1 : Tok} {pt26 : Addr} {pd26 : Option Addr} {pn26 : Nat} {pl26 : Array (Option Value)}
  {tk27 : Tok}
  {tk28 : Tok}
  {tk29 : Tok}
  (a1 : PySem.W.nsIn K mainGlobals "_law_take" = some (some (.ref f1))) (l1 : K.lookup f1 = some ⟨oc1, od1, .func (PySem.W.fnOf "_law_take" "_law_take" (ba cW) (aU cW) (ax cW) .none kV1 dc1 pm1 an1 cd1 ct1), sl1⟩) (c1 : PySem.W.codeIn K cd1 "_law_take" = true) (k1 : PySem.W.keepIn K (.ref f1) = true)
  (a2 : PySem.W.nsIn K mainGlobals "_law_world" = some (some (.ref f2))) (l2 : K.lookup f2 = some ⟨oc2, od2, .func (PySem.W.fnOf "_law_world" "_law_world" (ba cI) (aU cI) (ax cI) .none kV2 dc2 pm2 an2 cd2 ct2), sl2⟩) (c2 : PySem.W.codeIn K cd2 "_law_world" = true) (k2 : PySem.W.keepIn K (.ref f2) = true)
  (a3 : PySem.W.nsIn K mainGlobals "_law_size" = some (some (.ref f3))) (l3 : K.lookup f3 = some ⟨oc3, od3, .func (PySem.W.fnOf "_law_size" "_law_size" (ba cX) (aU cX) (ax cX) .none kV3 dc3 pm3 an3 cd3 ct3), sl3⟩) (c3 : PySem.W.codeIn K cd3 "_law_size" = true) (k3 : PySem.W.keepIn K (.ref f3) = true)
  (a4 : PySem.W.nsIn K mainGlobals "_law_plain_deed" = some (some (.ref f4))) (l4 : K.lookup f4 = some ⟨oc4, od4, .func (PySem.W.fnOf "_law_plain_deed" "_law_plain_deed" (ba bp) (aU bp) (ax bp) .none kV4 dc4 pm4 an4 cd4 ct4), sl4⟩) (c4 : PySem.W.codeIn K cd4 "_law_plain_deed" = true) (k4 : PySem.W.keepIn K (.ref f4) = true)
  (a5 : PySem.W.nsIn K mainGlobals "_law_dealing" = some (some (.ref f5))) (l5 : K.lookup f5 = some ⟨oc5, od5, .func (PySem.W.fnOf "_law_dealing" "_law_dealing" (ba b2) (aU b2) (ax b2) .none kV5 dc5 pm5 an5 cd5 ct5), sl5⟩) (c5 : PySem.W.codeIn K cd5 "_law_dealing" = true) (k5 : PySem.W.keepIn K (.ref f5) = true)
  (a6 : PySem.W.nsIn K mainGlobals "is_whole" = some (some (.ref f6))) (l6 : K.lookup f6 = some ⟨oc6, od6, .func (PySem.W.fnOf "is_whole" "is_whole" (ba dE) (aU dE) (ax dE) .none kV6 dc6 pm6 an6 cd6 ct6), sl6⟩) (c6 : PySem.W.codeIn K cd6 "is_whole" = true) (k6 : PySem.W.keepIn K (.ref f6) = true)
  (a7 : PySem.W.nsIn K mainGlobals "is_within" = some (some (.ref f7))) (l7 : K.lookup f7 = some ⟨oc7, od7, .func (PySem.W.fnOf "is_within" "is_within" (ba cU) (aU cU) (ax cU) .none kV7 dc7 pm7 an7 cd7 ct7), sl7⟩) (c7 : PySem.W.codeIn K cd7 "is_within" = true) (k7 : PySem.W.keepIn K (.ref f7) = true)
  (a8 : PySem.W.nsIn K mainGlobals "bounds_of" = some (some (.ref f8))) (l8 : K.lookup f8 = some ⟨oc8, od8, .func (PySem.W.fnOf "bounds_of" "bounds_of" (ba cV) (aU cV) (ax cV) .none kV8 dc8 pm8 an8 cd8 ct8), sl8⟩) (c8 : PySem.W.codeIn K cd8 "bounds_of" = true) (k8 : PySem.W.keepIn K (.ref f8) = true)
  (a9 : PySem.W.nsIn K mainGlobals "is_try" = some (some (.ref f9))) (l9 : K.lookup f9 = some ⟨oc9, od9, .func (PySem.W.fnOf "is_try" "is_try" (ba fF) (aU fF) (ax fF) .none kV9 dc9 pm9 an9 cd9 ct9), sl9⟩) (c9 : PySem.W.codeIn K cd9 "is_try" = true) (k9 : PySem.W.keepIn K (.ref f9) = true)
  (a10 : PySem.W.nsIn K mainGlobals "is_deed" = some (some (.ref f10))) (l10 : K.lookup f10 = some ⟨oc10, od10, .func (PySem.W.fnOf "is_deed" "is_deed" (ba eE) (aU eE) (ax eE) .none kV10 dc10 pm10 an10 cd10 ct10), sl10⟩) (c10 : PySem.W.codeIn K cd10 "is_deed" = true) (k10 : PySem.W.keepIn K (.ref f10) = true)
  (a11 : PySem.W.nsIn K mainGlobals "is_run" = some (some (.ref f11))) (l11 : K.lookup f11 = some ⟨oc11, od11, .func (PySem.W.fnOf "is_run" "is_run" (ba fG) (aU fG) (ax fG) .none kV11 dc11 pm11 an11 cd11 ct11), sl11⟩) (c11 : PySem.W.codeIn K cd11 "is_run" = true) (k11 : PySem.W.keepIn K (.ref f11) = true)
  (a12 : PySem.W.nsIn K mainGlobals "deeds_of" = some (some (.ref f12))) (l12 : K.lookup f12 = some ⟨oc12, od12, .func (PySem.W.fnOf "deeds_of" "deeds_of" (ba dF) (aU dF) (ax dF) .none kV12 dc12 pm12 an12 cd12 ct12), sl12⟩) (c12 : PySem.W.codeIn K cd12 "deeds_of" = true) (k12 : PySem.W.keepIn K (.ref f12) = true)
  (a13 : PySem.W.nsIn K mainGlobals "deeds_in" = some (some (.ref f13))) (l13 : K.lookup f13 = some ⟨oc13, od13, .func (PySem.W.fnOf "deeds_in" "deeds_in" (ba dG) (aU dG) (ax dG) .none kV13 dc13 pm13 an13 cd13 ct13), sl13⟩) (c13 : PySem.W.codeIn K cd13 "deeds_in" = true) (k13 : PySem.W.keepIn K (.ref f13) = true)
  (a14 : PySem.W.nsIn K mainGlobals "is_dealing" = some (some (.ref f14))) (l14 : K.lookup f14 = some ⟨oc14, od14, .func (PySem.W.fnOf "is_dealing" "is_dealing" (ba cH) (aU cH) (ax cH) .none kV14 dc14 pm14 an14 cd14 ct14), sl14⟩) (c14 : PySem.W.codeIn K cd14 "is_dealing" = true) (k14 : PySem.W.keepIn K (.ref f14) = true)
  (a15 : PySem.W.nsIn K mainGlobals "_law_is_part" = some (some (.ref f15))) (l15 : K.lookup f15 = some ⟨oc15, od15, .func (PySem.W.fnOf "_law_is_part" "_law_is_part" (ba bY) (aU bY) (ax bY) .none kV15 dc15 pm15 an15 cd15 ct15), sl15⟩) (c15 : PySem.W.codeIn K cd15 "_law_is_part" = true) (k15 : PySem.W.keepIn K (.ref f15) = true)
  (a16 : PySem.W.nsIn K mainGlobals "_law_is_deed" = some (some (.ref f16))) (l16 : K.lookup f16 = some ⟨oc16, od16, .func (PySem.W.fnOf "_law_is_deed" "_law_is_deed" (ba bZ) (aU bZ) (ax bZ) .none kV16 dc16 pm16 an16 cd16 ct16), sl16⟩) (c16 : PySem.W.codeIn K cd16 "_law_is_deed" = true) (k16 : PySem.W.keepIn K (.ref f16) = true)
  (a17 : PySem.W.nsIn K mainGlobals "_law_are" = some (some (.ref f17))) (l17 : K.lookup f17 = some ⟨oc17, od17, .func (PySem.W.fnOf "_law_are" "_law_are" (ba dI) (aU dI) (ax dI) .none kV17 dc17 pm17 an17 cd17 ct17), sl17⟩) (c17 : PySem.W.codeIn K cd17 "_law_are" = true) (k17 : PySem.W.keepIn K (.ref f17) = true)
  (a18 : PySem.W.nsIn K mainGlobals "_law_is_dealing" = some (some (.ref f18))) (l18 : K.lookup f18 = some ⟨oc18, od18, .func (PySem.W.fnOf "_law_is_dealing" "_law_is_dealing" (ba bq) (aU bq) (ax bq) .none kV18 dc18 pm18 an18 cd18 ct18), sl18⟩) (c18 : PySem.W.codeIn K cd18 "_law_is_dealing" = true) (k18 : PySem.W.keepIn K (.ref f18) = true)
  (a19 : PySem.W.nsIn K mainGlobals "_law_bent_deed" = some (some (.ref f19))) (l19 : K.lookup f19 = some ⟨oc19, od19, .func (PySem.W.fnOf "_law_bent_deed" "_law_bent_deed" (ba bC) (aU bC) (ax bC) .none kV19 dc19 pm19 an19 cd19 ct19), sl19⟩) (c19 : PySem.W.codeIn K cd19 "_law_bent_deed" = true) (k19 : PySem.W.keepIn K (.ref f19) = true)
  (a20 : PySem.W.nsIn K mainGlobals "_law_bent_part" = some (some (.ref f20))) (l20 : K.lookup f20 = some ⟨oc20, od20, .func (PySem.W.fnOf "_law_bent_part" "_law_bent_part" (ba bB) (aU bB) (ax bB) .none kV20 dc20 pm20 an20 cd20 ct20), sl20⟩) (c20 : PySem.W.codeIn K cd20 "_law_bent_part" = true) (k20 : PySem.W.keepIn K (.ref f20) = true)
  (a21 : PySem.W.nsIn K mainGlobals "_law_bent" = some (some (.ref f21))) (l21 : K.lookup f21 = some ⟨oc21, od21, .func (PySem.W.fnOf "_law_bent" "_law_bent" (ba cY) (aU cY) (ax cY) .none kV21 dc21 pm21 an21 cd21 ct21), sl21⟩) (c21 : PySem.W.codeIn K cd21 "_law_bent" = true) (k21 : PySem.W.keepIn K (.ref f21) = true)
  (a22 : PySem.W.nsIn K mainGlobals "_law_answers" = some (some (.ref f22))) (l22 : K.lookup f22 = some ⟨oc22, od22, .func (PySem.W.fnOf "_law_answers" "_law_answers" (ba b3) (aU b3) (ax b3) .none kV22 dc22 pm22 an22 cd22 ct22), sl22⟩) (c22 : PySem.W.codeIn K cd22 "_law_answers" = true) (k22 : PySem.W.keepIn K (.ref f22) = true)
  (a23 : PySem.W.nsIn K mainGlobals "_law_pen" = some (some (.ref f23))) (l23 : K.lookup f23 = some ⟨oc23, od23, .func (PySem.W.fnOf "_law_pen" "_law_pen" (ba dH) (aU dH) (ax dH) .none kV23 dc23 pm23 an23 cd23 ct23), sl23⟩) (c23 : PySem.W.codeIn K cd23 "_law_pen" = true) (k23 : PySem.W.keepIn K (.ref f23) = true)
  (a24 : PySem.W.nsIn K mainGlobals "law" = some (some (.ref f24))) (l24 : K.lookup f24 = some ⟨oc24, od24, .func (PySem.W.fnOf "law" "law" (ba lu) (aU lu) (ax lu) .none kV24 dc24 pm24 an24 cd24 ct24), sl24⟩) (c24 : PySem.W.codeIn K cd24 "law" = true) (k24 : PySem.W.keepIn K (.ref f24) = true)
  (g25 : PySem.W.nsIn K mainGlobals "HAND" = some (some (.ref pt25))) (h25 : K.lookup pt25 = some ⟨.type "tuple", pd25, .seq #[.int 0 tk25_0, .int 3 tk25_1] pn25, pl25⟩)
  (g26 : PySem.W.nsIn K mainGlobals "LEAP" = some (some (.ref pt26))) (h26 : K.lookup pt26 = some ⟨.type "tuple", pd26, .seq #[.int 1 tk26_0, .int 12 tk26_1] pn26, pl26⟩)
  (g27 : PySem.W.nsIn K mainGlobals "MOST_IN_TUPLE" = some (some (.int (12) tk27)))
  (g28 : PySem.W.nsIn K mainGlobals "MOST_TRIES" = some (some (.int (3) tk28)))
  (g29 : PySem.W.nsIn K mainGlobals "MOST_IN_ALL" = some (some (.int (40) tk29)))
  (z30 : PySem.W.nsIn K mainGlobals "len" = some none)
  (z31 : PySem.W.nsIn K mainGlobals "isinstance" = some none)
  (z32 : PySem.W.nsIn K mainGlobals "int" = some none)
  (z33 : PySem.W.nsIn K mainGlobals "bool" = some none)
  (z34 : PySem.W.nsIn K mainGlobals "str" = some none)
  (z35 : PySem.W.nsIn K mainGlobals "tuple" = some none)
  (z36 : PySem.W.nsIn K mainGlobals "list" = some none)
  (z37 : PySem.W.nsIn K mainGlobals "range" = some none)
  (z38 : PySem.W.nsIn K mainGlobals "min" = some none)
  (z39 : PySem.W.nsIn K mainGlobals "sum" = some none)
  (z40 : PySem.W.nsIn K mainGlobals "all" = some none)
  (z41 : PySem.W.nsIn K mainGlobals "zip" = some none)
  (z42 : PySem.W.nsIn K mainGlobals "sorted" = some none)
  (z43 : PySem.W.nsIn K mainGlobals "dict" = some none)
  (z44 : PySem.W.nsIn K mainGlobals "enumerate" = some none)
  (z45 : PySem.W.nsIn K mainGlobals "any" = some none)
  (z46 : PySem.W.nsIn K mainGlobals "max" = some none)
  (z47 : PySem.W.nsIn K mainGlobals "set" = some none) :
  ∃ fd : FuncData, (∀ (s : Shared) (v : Value), BindsTo s fd ⟨[v], []⟩ [("script", v)]) ∧ ∀ base : Heap, K.In base → base.Ns mainGlobals mg → qF l.prog w K mg base CX0 16 fa fd ["script"] (vj K) := by
 have e := hfa.symm.trans (PySem.W.mg_of X G a24)
 cases e
 have F__law_take := cD (st := cW) l1 c1 k1
 have D__law_take : Def K mg "_law_take" cW ["pen", "many"] := ⟨_, _, F__law_take, F__law_take.binds (ps := ["pen", "many"]) fun _ _ _ _ _ _ => dW fun _ => dW fun _ => jr rfl, PySem.W.mg_of X G a1⟩
 have F__law_world := cD (st := cI) l2 c2 k2
 have D__law_world : Def K mg "_law_world" cI ["pen"] := ⟨_, _, F__law_world, F__law_world.binds (ps := ["pen"]) fun _ _ _ _ _ _ => dW fun _ => jr rfl, PySem.W.mg_of X G a2⟩
 have F__law_size := cD (st := cX) l3 c3 k3
 have D__law_size : Def K mg "_law_size" cX ["dealing"] := ⟨_, _, F__law_size, F__law_size.binds (ps := ["dealing"]) fun _ _ _ _ _ _ => dW fun _ => jr rfl, PySem.W.mg_of X G a3⟩
 have F__law_plain_deed := cD (st := bp) l4 c4 k4
 have D__law_plain_deed : Def K mg "_law_plain_deed" bp ["pen", "world", "way", "hand"] := ⟨_, _, F__law_plain_deed, F__law_plain_deed.binds (ps := ["pen", "world", "way", "hand"]) fun _ _ _ _ _ _ => dW fun _ => dW fun _ => dW fun _ => dW fun _ => jr rfl, PySem.W.mg_of X G a4⟩
 have F__law_dealing := cD (st := b2) l5 c5 k5
 have D__law_dealing : Def K mg "_law_dealing" b2 ["pen", "world", "room", "tries"] := ⟨_, _, F__law_dealing, F__law_dealing.binds (ps := ["pen", "world", "room", "tries"]) fun _ _ _ _ _ _ => dW fun _ => dW fun _ => dW fun _ => dW fun _ => jr rfl, PySem.W.mg_of X G a5⟩
 have F_is_whole := cD (st := dE) l6 c6 k6
 have D_is_whole : Def K mg "is_whole" dE ["thing"] := ⟨_, _, F_is_whole, F_is_whole.binds (ps := ["thing"]) fun _ _ _ _ _ _ => dW fun _ => jr rfl, PySem.W.mg_of X G a6⟩
 have F_is_within := cD (st := cU) l7 c7 k7
 have D_is_within : Def K mg "is_within" cU ["thing", "least", "most"] := ⟨_, _, F_is_within, F_is_within.binds (ps := ["thing", "least", "most"]) fun _ _ _ _ _ _ => dW fun _ => dW fun _ => dW fun _ => jr rfl, PySem.W.mg_of X G a7⟩
 have F_bounds_of := cD (st := cV) l8 c8 k8
 have D_bounds_of : Def K mg "bounds_of" cV ["world", "word"] := ⟨_, _, F_bounds_of, F_bounds_of.binds (ps := ["world", "word"]) fun _ _ _ _ _ _ => dW fun _ => dW fun _ => jr rfl, PySem.W.mg_of X G a8⟩
 have F_is_try := cD (st := fF) l9 c9 k9
 have D_is_try : Def K mg "is_try" fF ["world", "thing", "tries_left"] := ⟨_, _, F_is_try, F_is_try.binds (ps := ["world", "thing", "tries_left"]) fun _ _ _ _ _ _ => dW fun _ => dW fun _ => dW fun _ => jr rfl, PySem.W.mg_of X G a9⟩
 have F_is_deed := cD (st := eE) l10 c10 k10
 have D_is_deed : Def K mg "is_deed" eE ["world", "thing", "tries_left"] := ⟨_, _, F_is_deed, F_is_deed.binds (ps := ["world", "thing", "tries_left"]) fun _ _ _ _ _ _ => dW fun _ => dW fun _ => dW fun _ => jr rfl, PySem.W.mg_of X G a10⟩
 have F_is_run := cD (st := fG) l11 c11 k11
 have D_is_run : Def K mg "is_run" fG ["world", "thing", "tries_left"] := ⟨_, _, F_is_run, F_is_run.binds (ps := ["world", "thing", "tries_left"]) fun _ _ _ _ _ _ => dW fun _ => dW fun _ => dW fun _ => jr rfl, PySem.W.mg_of X G a11⟩
 have F_deeds_of := cD (st := dF) l12 c12 k12
 have D_deeds_of : Def K mg "deeds_of" dF ["deed"] := ⟨_, _, F_deeds_of, F_deeds_of.binds (ps := ["deed"]) fun _ _ _ _ _ _ => dW fun _ => jr rfl, PySem.W.mg_of X G a12⟩
 have F_deeds_in := cD (st := dG) l13 c13 k13
 have D_deeds_in : Def K mg "deeds_in" dG ["dealing"] := ⟨_, _, F_deeds_in, F_deeds_in.binds (ps := ["dealing"]) fun _ _ _ _ _ _ => dW fun _ => jr rfl, PySem.W.mg_of X G a13⟩
 have F_is_dealing := cD (st := cH) l14 c14 k14
 have D_is_dealing : Def K mg "is_dealing" cH ["world", "thing"] := ⟨_, _, F_is_dealing, F_is_dealing.binds (ps := ["world", "thing"]) fun _ _ _ _ _ _ => dW fun _ => dW fun _ => jr rfl, PySem.W.mg_of X G a14⟩
 have F__law_is_part := cD (st := bY) l15 c15 k15
 have D__law_is_part : Def K mg "_law_is_part" bY ["part", "low", "high"] := ⟨_, _, F__law_is_part, F__law_is_part.binds (ps := ["part", "low", "high"]) fun _ _ _ _ _ _ => dW fun _ => dW fun _ => dW fun _ => jr rfl, PySem.W.mg_of X G a15⟩
 have F__law_is_deed := cD (st := bZ) l16 c16 k16
 have D__law_is_deed : Def K mg "_law_is_deed" bZ ["world", "thing", "tries"] := ⟨_, _, F__law_is_deed, F__law_is_deed.binds (ps := ["world", "thing", "tries"]) fun _ _ _ _ _ _ => dW fun _ => dW fun _ => dW fun _ => jr rfl, PySem.W.mg_of X G a16⟩
 have F__law_are := cD (st := dI) l17 c17 k17
 have D__law_are : Def K mg "_law_are" dI ["world", "thing", "tries"] := ⟨_, _, F__law_are, F__law_are.binds (ps := ["world", "thing", "tries"]) fun _ _ _ _ _ _ => dW fun _ => dW fun _ => dW fun _ => jr rfl, PySem.W.mg_of X G a17⟩
 have F__law_is_dealing := cD (st := bq) l18 c18 k18
 have D__law_is_dealing : Def K mg "_law_is_dealing" bq ["world", "thing"] := ⟨_, _, F__law_is_dealing, F__law_is_dealing.binds (ps := ["world", "thing"]) fun _ _ _ _ _ _ => dW fun _ => dW fun _ => jr rfl, PySem.W.mg_of X G a18⟩
 have F__law_bent_deed := cD (st := bC) l19 c19 k19
 have D__law_bent_deed : Def K mg "_law_bent_deed" bC ["pen", "world", "deed"] := ⟨_, _, F__law_bent_deed, F__law_bent_deed.binds (ps := ["pen", "world", "deed"]) fun _ _ _ _ _ _ => dW fun _ => dW fun _ => dW fun _ => jr rfl, PySem.W.mg_of X G a19⟩
 have F__law_bent_part := cD (st := bB) l20 c20 k20
 have D__law_bent_part : Def K mg "_law_bent_part" bB ["pen", "world", "deed"] := ⟨_, _, F__law_bent_part, F__law_bent_part.binds (ps := ["pen", "world", "deed"]) fun _ _ _ _ _ _ => dW fun _ => dW fun _ => dW fun _ => jr rfl, PySem.W.mg_of X G a20⟩
 have F__law_bent := cD (st := cY) l21 c21 k21
 have D__law_bent : Def K mg "_law_bent" cY ["pen", "world", "dealing"] := ⟨_, _, F__law_bent, F__law_bent.binds (ps := ["pen", "world", "dealing"]) fun _ _ _ _ _ _ => dW fun _ => dW fun _ => dW fun _ => jr rfl, PySem.W.mg_of X G a21⟩
 have F__law_answers := cD (st := b3) l22 c22 k22
 have D__law_answers : Def K mg "_law_answers" b3 ["world", "thing"] := ⟨_, _, F__law_answers, F__law_answers.binds (ps := ["world", "thing"]) fun _ _ _ _ _ _ => dW fun _ => dW fun _ => jr rfl, PySem.W.mg_of X G a22⟩
 have F__law_pen := cD (st := dH) l23 c23 k23
 have D__law_pen : Def K mg "_law_pen" dH ["script"] := ⟨_, _, F__law_pen, F__law_pen.binds (ps := ["script"]) fun _ _ _ _ _ _ => dW fun _ => jr rfl, PySem.W.mg_of X G a23⟩
 have F_law := cD (st := lu) l24 c24 k24
 have D_law : Def K mg "law" lu ["script"] := ⟨_, _, F_law, F_law.binds (ps := ["script"]) fun _ _ _ _ _ _ => dW fun _ => jr rfl, PySem.W.mg_of X G a24⟩
 have C_HAND : Bv K mg "HAND" [0, 3] := ⟨_, _, _, _, PySem.W.mg_of X G g25, h25, rfl, rfl, (show 2 ≤ sizeLine by decide), (.cons ⟨tk25_0, rfl⟩ (.cons ⟨tk25_1, rfl⟩ .nil))⟩
 have C_LEAP : Bv K mg "LEAP" [1, 12] := ⟨_, _, _, _, PySem.W.mg_of X G g26, h26, rfl, rfl, (show 2 ≤ sizeLine by decide), (.cons ⟨tk26_0, rfl⟩ (.cons ⟨tk26_1, rfl⟩ .nil))⟩
 have C_MOST_IN_TUPLE : ∃ t, mg "MOST_IN_TUPLE" = some (.int (12) t) := ⟨_, PySem.W.mg_of X G g27⟩
 have C_MOST_TRIES : ∃ t, mg "MOST_TRIES" = some (.int (3) t) := ⟨_, PySem.W.mg_of X G g28⟩
 have C_MOST_IN_ALL : ∃ t, mg "MOST_IN_ALL" = some (.int (40) t) := ⟨_, PySem.W.mg_of X G g29⟩
 have B : Blt mg := ⟨PySem.W.mg_none_of X G z30, PySem.W.mg_none_of X G z31, PySem.W.mg_none_of X G z32, PySem.W.mg_none_of X G z33, PySem.W.mg_none_of X G z34, PySem.W.mg_none_of X G z35, PySem.W.mg_none_of X G z36, PySem.W.mg_none_of X G z37, PySem.W.mg_none_of X G z38, PySem.W.mg_none_of X G z39, PySem.W.mg_none_of X G z40, PySem.W.mg_none_of X G z41, PySem.W.mg_none_of X G z42, PySem.W.mg_none_of X G z43, PySem.W.mg_none_of X G z44, PySem.W.mg_none_of X G z45, PySem.W.mg_none_of X G z46, PySem.W.mg_none_of X G z47⟩
 refine ⟨PySem.W.fnOf "law" "law" (ba lu) (aU lu) (ax lu) .none kV24 dc24 pm24 an24 cd24 ct24, fun s v => .of_eq rfl, fun base _ _ => ?_⟩
 have Gp := yC (P := l.prog) (w := w) (base := base) (k := 0) B D__law_pen
 have av := oP (P := l.prog) (w := w) (base := base) (k := 0) D__law_take B 
 have gq := nI (P := l.prog) (w := w) (base := base) (k := 1) D__law_world B av
 have i8 : bI l.prog w K mg base "_law_size" 1 ["dealing"] (nY 0) := fJ (P := l.prog) (w := w) (base := base) (k := 0) D__law_size B (D__law_size.no)
 have i7 : bI l.prog w K mg base "_law_size" 2 ["dealing"] (nY 1) := fJ (P := l.prog) (w := w) (base := base) (k := 1) D__law_size B i8
 have i6 : bI l.prog w K mg base "_law_size" 3 ["dealing"] (nY 2) := fJ (P := l.prog) (w := w) (base := base) (k := 2) D__law_size B i7
 have nZ : bI l.prog w K mg base "_law_size" 4 ["dealing"] (nY 3) := fJ (P := l.prog) (w := w) (base := base) (k := 3) D__law_size B i6
 have bM := ie (P := l.prog) (w := w) (base := base) (k := 1) D__law_plain_deed B av
 have kZ : bI l.prog w K mg base "_law_dealing" 3 ["pen", "world", "room", "tries"] (og 0) := ef (P := l.prog) (w := w) (base := base) (k := 2) D__law_dealing B (Has.mono av (by decide)) bM (D__law_dealing.no) (D__law_size.no)
 have kY : bI l.prog w K mg base "_law_dealing" 4 ["pen", "world", "room", "tries"] (og 1) := ef (P := l.prog) (w := w) (base := base) (k := 3) D__law_dealing B (Has.mono av (by decide)) (Has.mono bM (by decide)) kZ (Has.mono i8 (by decide))
 have kX : bI l.prog w K mg base "_law_dealing" 5 ["pen", "world", "room", "tries"] (og 2) := ef (P := l.prog) (w := w) (base := base) (k := 4) D__law_dealing B (Has.mono av (by decide)) (Has.mono bM (by decide)) kY (Has.mono i7 (by decide))
 have kW : bI l.prog w K mg base "_law_dealing" 6 ["pen", "world", "room", "tries"] (og 3) := ef (P := l.prog) (w := w) (base := base) (k := 5) D__law_dealing B (Has.mono av (by decide)) (Has.mono bM (by decide)) kX (Has.mono i6 (by decide))
 have iF := qW (P := l.prog) (w := w) (base := base) (k := 0) D_is_whole B 
 have dY := oN (P := l.prog) (w := w) (base := base) (k := 1) D_is_within B iF
 have dZ := oO (P := l.prog) (w := w) (base := base) (k := 0) D_bounds_of B C_HAND C_LEAP
 have uF : bI l.prog w K mg base "is_try" 1 ["world", "thing", "tries_left"] (eB (fun _ _ => none)) := jk (P := l.prog) (w := w) (base := base) (k := 0) D_is_try B (D_is_run.no)
 have rq : bI l.prog w K mg base "is_deed" 3 ["world", "thing", "tries_left"] (eZ (eB (fun _ _ => none))) := hG (P := l.prog) (w := w) (base := base) (k := 2) D_is_deed B (Has.mono uF (by decide)) (Has.mono dZ (by decide)) dY
 have uJ : bI l.prog w K mg base "is_run" 4 ["world", "thing", "tries_left"] (rj 0) := jm (P := l.prog) (w := w) (base := base) (k := 3) D_is_run B C_MOST_IN_TUPLE rq
 have uE : bI l.prog w K mg base "is_try" 5 ["world", "thing", "tries_left"] (eB (rj 0)) := jk (P := l.prog) (w := w) (base := base) (k := 4) D_is_try B uJ
 have rp : bI l.prog w K mg base "is_deed" 6 ["world", "thing", "tries_left"] (eZ (eB (rj 0))) := hG (P := l.prog) (w := w) (base := base) (k := 5) D_is_deed B uE (Has.mono dZ (by decide)) (Has.mono dY (by decide))
 have uI : bI l.prog w K mg base "is_run" 7 ["world", "thing", "tries_left"] (rj 1) := jm (P := l.prog) (w := w) (base := base) (k := 6) D_is_run B C_MOST_IN_TUPLE rp
 have uD : bI l.prog w K mg base "is_try" 8 ["world", "thing", "tries_left"] (eB (rj 1)) := jk (P := l.prog) (w := w) (base := base) (k := 7) D_is_try B uI
 have rn : bI l.prog w K mg base "is_deed" 9 ["world", "thing", "tries_left"] (eZ (eB (rj 1))) := hG (P := l.prog) (w := w) (base := base) (k := 8) D_is_deed B uD (Has.mono dZ (by decide)) (Has.mono dY (by decide))
 have uH : bI l.prog w K mg base "is_run" 10 ["world", "thing", "tries_left"] (rj 2) := jm (P := l.prog) (w := w) (base := base) (k := 9) D_is_run B C_MOST_IN_TUPLE rn
 have uC : bI l.prog w K mg base "is_try" 11 ["world", "thing", "tries_left"] (eB (rj 2)) := jk (P := l.prog) (w := w) (base := base) (k := 10) D_is_try B uH
 have rl : bI l.prog w K mg base "is_deed" 12 ["world", "thing", "tries_left"] (eZ (eB (rj 2))) := hG (P := l.prog) (w := w) (base := base) (k := 11) D_is_deed B uC (Has.mono dZ (by decide)) (Has.mono dY (by decide))
 have uG : bI l.prog w K mg base "is_run" 13 ["world", "thing", "tries_left"] (rj 3) := jm (P := l.prog) (w := w) (base := base) (k := 12) D_is_run B C_MOST_IN_TUPLE rl
 have ph : bI l.prog w K mg base "deeds_of" 1 ["deed"] (kM (fun _ _ => none)) := gE (P := l.prog) (w := w) (base := base) (k := 0) D_deeds_of B (D_deeds_in.no)
 have px : bI l.prog w K mg base "deeds_in" 2 ["dealing"] (uR 0) := gF (P := l.prog) (w := w) (base := base) (k := 1) D_deeds_in B ph
 have pf : bI l.prog w K mg base "deeds_of" 3 ["deed"] (kM (uR 0)) := gE (P := l.prog) (w := w) (base := base) (k := 2) D_deeds_of B px
 have pw : bI l.prog w K mg base "deeds_in" 4 ["dealing"] (uR 1) := gF (P := l.prog) (w := w) (base := base) (k := 3) D_deeds_in B pf
 have pd : bI l.prog w K mg base "deeds_of" 5 ["deed"] (kM (uR 1)) := gE (P := l.prog) (w := w) (base := base) (k := 4) D_deeds_of B pw
 have pq : bI l.prog w K mg base "deeds_in" 6 ["dealing"] (uR 2) := gF (P := l.prog) (w := w) (base := base) (k := 5) D_deeds_in B pd
 have o9 : bI l.prog w K mg base "deeds_of" 7 ["deed"] (kM (uR 2)) := gE (P := l.prog) (w := w) (base := base) (k := 6) D_deeds_of B pq
 have pj : bI l.prog w K mg base "deeds_in" 8 ["dealing"] (uR 3) := gF (P := l.prog) (w := w) (base := base) (k := 7) D_deeds_in B o9
 have dn := nH (P := l.prog) (w := w) (base := base) (k := 13) D_is_dealing B C_MOST_TRIES C_MOST_IN_ALL uG (Has.mono pj (by decide))
 have aW := lC (P := l.prog) (w := w) (base := base) (k := 0) D__law_is_part B 
 have kS : bI l.prog w K mg base "_law_is_deed" 2 ["world", "thing", "tries"] (gn (fun _ _ => none)) := ed (P := l.prog) (w := w) (base := base) (k := 1) D__law_is_deed B (D__law_are.no) aW
 have pC : bI l.prog w K mg base "_law_are" 3 ["world", "thing", "tries"] (uS 0) := gG (P := l.prog) (w := w) (base := base) (k := 2) D__law_are B kS
 have kR : bI l.prog w K mg base "_law_is_deed" 4 ["world", "thing", "tries"] (gn (uS 0)) := ed (P := l.prog) (w := w) (base := base) (k := 3) D__law_is_deed B pC (Has.mono aW (by decide))
 have pB : bI l.prog w K mg base "_law_are" 5 ["world", "thing", "tries"] (uS 1) := gG (P := l.prog) (w := w) (base := base) (k := 4) D__law_are B kR
 have kQ : bI l.prog w K mg base "_law_is_deed" 6 ["world", "thing", "tries"] (gn (uS 1)) := ed (P := l.prog) (w := w) (base := base) (k := 5) D__law_is_deed B pB (Has.mono aW (by decide))
 have pA : bI l.prog w K mg base "_law_are" 7 ["world", "thing", "tries"] (uS 2) := gG (P := l.prog) (w := w) (base := base) (k := 6) D__law_are B kQ
 have kP : bI l.prog w K mg base "_law_is_deed" 8 ["world", "thing", "tries"] (gn (uS 2)) := ed (P := l.prog) (w := w) (base := base) (k := 7) D__law_is_deed B pA (Has.mono aW (by decide))
 have pz : bI l.prog w K mg base "_law_are" 9 ["world", "thing", "tries"] (uS 3) := gG (P := l.prog) (w := w) (base := base) (k := 8) D__law_are B kP
 have d7 := ig (P := l.prog) (w := w) (base := base) (k := 9) D__law_is_dealing B pz (Has.mono nZ (by decide))
 have bW := jb (P := l.prog) (w := w) (base := base) (k := 1) D__law_bent_deed B av
 have bV := ja (P := l.prog) (w := w) (base := base) (k := 1) D__law_bent_part B av
 have n9 : bI l.prog w K mg base "_law_bent" 3 ["pen", "world", "dealing"] (oh 0) := fK (P := l.prog) (w := w) (base := base) (k := 2) D__law_bent B (Has.mono av (by decide)) (D__law_bent.no) bV bW
 have n8 : bI l.prog w K mg base "_law_bent" 4 ["pen", "world", "dealing"] (oh 1) := fK (P := l.prog) (w := w) (base := base) (k := 3) D__law_bent B (Has.mono av (by decide)) n9 (Has.mono bV (by decide)) (Has.mono bW (by decide))
 have n6 : bI l.prog w K mg base "_law_bent" 5 ["pen", "world", "dealing"] (oh 2) := fK (P := l.prog) (w := w) (base := base) (k := 4) D__law_bent B (Has.mono av (by decide)) n8 (Has.mono bV (by decide)) (Has.mono bW (by decide))
 have n5 : bI l.prog w K mg base "_law_bent" 6 ["pen", "world", "dealing"] (oh 3) := fK (P := l.prog) (w := w) (base := base) (k := 5) D__law_bent B (Has.mono av (by decide)) n6 (Has.mono bV (by decide)) (Has.mono bW (by decide))
 have bK := lD (P := l.prog) (w := w) (base := base) (k := 14) D__law_answers B dn (Has.mono d7 (by decide))
 exact DH (P := l.prog) (w := w) (base := base) (k := 15) F_law B (Has.mono Gp (by decide)) (Has.mono gq (by decide)) (Has.mono kW (by decide)) (Has.mono dn (by decide)) bK (Has.mono n5 (by decide)) (Has.mono av (by decide)) fun ns a c ha hc => AV ns a c ha hc
theorem ES {l : PySem.W.OpenLaw} {q : Program} {loose : List Str} {XP : (Str → Option Value) → Heap → Prop} {YP : World → Heap → Prop} {d : DefRec} {K : Params → PySem.W.Frag} (hn : l.most = some 63) (hdf : d.params.defaults = [])
  (hY : ∀ (w : World) (h : Heap), YP w h → (K w.params).In h)
  (F : ∀ (w : World) (mg : Str → Option Value) (fa : Addr) (h : Heap), (K w.params).In h → h.Ns mainGlobals mg → mg d.name = some (.ref fa) →
   ∃ fd : FuncData, (∀ (s : Shared) (u : Value), BindsTo s fd ⟨[u], []⟩ [("script", u)]) ∧ ∀ base : Heap, (K w.params).In base → base.Ns mainGlobals mg → qF l.prog w (K w.params) mg base CX0 16 fa fd ["script"] (vj (K w.params))) :
  PySem.W.WalkO q loose XP YP l.row.toRowW d [] (fun f vs => PySem.call f vs) :=
 L2.xO (n := 63) (k := 16) (x := "script") (CX := fun _ => CX0) (sp := fun w => vj (K w.params)) hn (by decide) hdf ⟨rfl, by decide, by decide, rfl⟩ hY F (fun _ _ a ns hl _ hS => ⟨a, ns, rfl, hS, hl, fun _ => rfl⟩) fun _ _ _ _ _ z => z
end OL
open PySem PySem.W PyProof.Rows
set_option maxRecDepth 100000 in
set_option maxHeartbeats 0 in
theorem PySem.Challenge.cw_oneglance_k03_what_is_a_dealing_holds : PySem.Challenge.rw_oneglance_k03_what_is_a_dealing.Holds := by
 w_on; o_law; k_head; (case hw => w_witness2)
 k_fill
 refine OL.ES (l := PySem.Challenge.rw_oneglance_k03_what_is_a_dealing) rfl rfl (fun w h Y => PySem.W.kIn_of Y) ?F
 case F =>
  intro w mg fa h KX G hmg
  refine' OL.Bt KX G hmg ?a1 ?l1 ?c1 ?k1 ?a2 ?l2 ?c2 ?k2 ?a3 ?l3 ?c3 ?k3 ?a4 ?l4 ?c4 ?k4 ?a5 ?l5 ?c5 ?k5 ?a6 ?l6 ?c6 ?k6 ?a7 ?l7 ?c7 ?k7 ?a8 ?l8 ?c8 ?k8 ?a9 ?l9 ?c9 ?k9 ?a10 ?l10 ?c10 ?k10 ?a11 ?l11 ?c11 ?k11 ?a12 ?l12 ?c12 ?k12 ?a13 ?l13 ?c13 ?k13 ?a14 ?l14 ?c14 ?k14 ?a15 ?l15 ?c15 ?k15 ?a16 ?l16 ?c16 ?k16 ?a17 ?l17 ?c17 ?k17 ?a18 ?l18 ?c18 ?k18 ?a19 ?l19 ?c19 ?k19 ?a20 ?l20 ?c20 ?k20 ?a21 ?l21 ?c21 ?k21 ?a22 ?l22 ?c22 ?k22 ?a23 ?l23 ?c23 ?k23 ?a24 ?l24 ?c24 ?k24 ?g25 ?h25 ?g26 ?h26 ?g27 ?g28 ?g29 ?z30 ?z31 ?z32 ?z33 ?z34 ?z35 ?z36 ?z37 ?z38 ?z39 ?z40 ?z41 ?z42 ?z43 ?z44 ?z45 ?z46 ?z47
  (case a1 => k_is)
  (case l1 => k_is)
  (case c1 => k_is)
  (case k1 => k_is)
  (case a2 => k_is)
  (case l2 => k_is)
  (case c2 => k_is)
  (case k2 => k_is)
  (case a3 => k_is)
  (case l3 => k_is)
  (case c3 => k_is)
  (case k3 => k_is)
  (case a4 => k_is)
  (case l4 => k_is)
  (case c4 => k_is)
  (case k4 => k_is)
  (case a5 => k_is)
  (case l5 => k_is)
  (case c5 => k_is)
  (case k5 => k_is)
  (case a6 => k_is)
  (case l6 => k_is)
  (case c6 => k_is)
  (case k6 => k_is)
  (case a7 => k_is)
  (case l7 => k_is)
  (case c7 => k_is)
  (case k7 => k_is)
  (case a8 => k_is)
  (case l8 => k_is)
  (case c8 => k_is)
  (case k8 => k_is)
  (case a9 => k_is)
  (case l9 => k_is)
  (case c9 => k_is)
  (case k9 => k_is)
  (case a10 => k_is)
  (case l10 => k_is)
  (case c10 => k_is)
  (case k10 => k_is)
  (case a11 => k_is)
  (case l11 => k_is)
  (case c11 => k_is)
  (case k11 => k_is)
  (case a12 => k_is)
  (case l12 => k_is)
  (case c12 => k_is)
  (case k12 => k_is)
  (case a13 => k_is)
  (case l13 => k_is)
  (case c13 => k_is)
  (case k13 => k_is)
  (case a14 => k_is)
  (case l14 => k_is)
  (case c14 => k_is)
  (case k14 => k_is)
  (case a15 => k_is)
  (case l15 => k_is)
  (case c15 => k_is)
  (case k15 => k_is)
  (case a16 => k_is)
  (case l16 => k_is)
  (case c16 => k_is)
  (case k16 => k_is)
  (case a17 => k_is)
  (case l17 => k_is)
  (case c17 => k_is)
  (case k17 => k_is)
  (case a18 => k_is)
  (case l18 => k_is)
  (case c18 => k_is)
  (case k18 => k_is)
  (case a19 => k_is)
  (case l19 => k_is)
  (case c19 => k_is)
  (case k19 => k_is)
  (case a20 => k_is)
  (case l20 => k_is)
  (case c20 => k_is)
  (case k20 => k_is)
  (case a21 => k_is)
  (case l21 => k_is)
  (case c21 => k_is)
  (case k21 => k_is)
  (case a22 => k_is)
  (case l22 => k_is)
  (case c22 => k_is)
  (case k22 => k_is)
  (case a23 => k_is)
  (case l23 => k_is)
  (case c23 => k_is)
  (case k23 => k_is)
  (case a24 => k_is)
  (case l24 => k_is)
  (case c24 => k_is)
  (case k24 => k_is)
  (case g25 => k_is)
  (case h25 => k_is)
  (case g26 => k_is)
  (case h26 => k_is)
  (case g27 => k_is)
  (case g28 => k_is)
  (case g29 => k_is)
  (case z30 => k_is)
  (case z31 => k_is)
  (case z32 => k_is)
  (case z33 => k_is)
  (case z34 => k_is)
  (case z35 => k_is)
  (case z36 => k_is)
  (case z37 => k_is)
  (case z38 => k_is)
  (case z39 => k_is)
  (case z40 => k_is)
  (case z41 => k_is)
  (case z42 => k_is)
  (case z43 => k_is)
  (case z44 => k_is)
  (case z45 => k_is)
  (case z46 => k_is)
  (case z47 => k_is)
