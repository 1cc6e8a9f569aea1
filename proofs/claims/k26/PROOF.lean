import PyProof.Rows.All
import Wide.All
import OpenK.AllK
import Wide.FinOn
import Lean
import PyProof.EqAt
import PyProof.EqKinds
import PyProof.TupleCall
import PySem.Challenge.RW_oneglance_k26_what_orders_would_tell
set_option maxHeartbeats 4000000
set_option Elab.async false
set_option linter.all false
set_option maxRecDepth 100000
namespace L2
open PySem PySem.Spec PyProof.Rows
noncomputable abbrev Key := Sum Int Str
noncomputable def lq : Key → Value → Bool
 | .inl k, v => Value.isInt k v
 | .inr x, v => Value.isStrOf x v
noncomputable def Ay (w : World) : Key → Int
 | .inl k => hashInt k
 | .inr x => hashStr w x
theorem aS : ∀ {k : Key} {v : Value}, lq k v = true → (∃ i t, k = Sum.inl i ∧ v = Value.int i t) ∨ (∃ x t, k = Sum.inr x ∧ v = Value.str x t)
 | .inl i, v, h => by
  obtain ⟨t, e⟩ := Value.isInt_shape (k := i) (v := v) h
  exact .inl ⟨i, t, rfl, e⟩
 | .inr x, v, h => by
  obtain ⟨t, e⟩ := Value.isStrOf_shape (x := x) (v := v) h
  exact .inr ⟨x, t, rfl, e⟩
theorem nk (i : Int) (t : Tok) : lq (.inl i) (.int i t) = true := by simp [lq, Value.isInt]
theorem nj (x : Str) (t : Tok) : lq (.inr x) (.str x t) = true := by simp [lq, Value.isStrOf]
theorem wy (a b : Int) : decide ((Sum.inl a : Key) = Sum.inl b) = (a == b) := by
 by_cases e : a = b
 ·subst e; simp
 ·have h : ¬ (Sum.inl a : Key) = Sum.inl b := fun q => e (Sum.inl.inj q)
  rw [decide_eq_false h]
  exact (beq_eq_false_iff_ne.mpr e).symm
theorem wt (a b : Str) : decide ((Sum.inr a : Key) = Sum.inr b) = decide (a = b) := by
 by_cases e : a = b
 ·subst e; simp
 ·have h : ¬ (Sum.inr a : Key) = Sum.inr b := fun q => e (Sum.inr.inj q)
  rw [decide_eq_false h, decide_eq_false e]
theorem wx (a : Int) (b : Str) : decide ((Sum.inl a : Key) = Sum.inr b) = false := decide_eq_false (fun q => nomatch q)
theorem wu (a : Str) (b : Int) : decide ((Sum.inr a : Key) = Sum.inl b) = false := decide_eq_false (fun q => nomatch q)
noncomputable def bx (prog : Program) (w : World) : PySem.KeyKind prog w Key where
 is := lq
 hash := Ay w
 inj := fun v a b ha hb => by
  rcases aS ha with ⟨i, t, rfl, rfl⟩ | ⟨x, t, rfl, rfl⟩
  ·rcases aS hb with ⟨j, u, rfl, e⟩ | ⟨y, u, rfl, e⟩
   ·injection e with e1 _; rw [e1]
   ·exact nomatch e
  ·rcases aS hb with ⟨j, u, rfl, e⟩ | ⟨y, u, rfl, e⟩
   ·exact nomatch e
   ·injection e with e1 _; rw [e1]
 byValue := fun k v h => by
  rcases aS h with ⟨i, t, rfl, rfl⟩ | ⟨x, t, rfl, rfl⟩ <;> rfl
 pyHash := fun hv h => by
  rcases aS hv with ⟨i, t, rfl, rfl⟩ | ⟨x, t, rfl, rfl⟩
  ·exact wpAny_pyHash_int h
  ·exact wpAny_pyHash_str h
 eqBool := fun hu hv h => by
  rcases aS hu with ⟨i, t, rfl, rfl⟩ | ⟨x, t, rfl, rfl⟩
  ·rcases aS hv with ⟨j, u, rfl, rfl⟩ | ⟨y, u, rfl, rfl⟩
   ·rw [wy] at h; exact wpAny_eqBool_int h
   ·rw [wx] at h; exact SeqAt.EqAt.int_str i t y u _ _ _ _ h
  ·rcases aS hv with ⟨j, u, rfl, rfl⟩ | ⟨y, u, rfl, rfl⟩
   ·rw [wu] at h; exact SeqAt.EqAt.str_int x t j u _ _ _ _ h
   ·rw [wt] at h; exact wpAny_eqBool_str h
 «strs» := fun k x t v h => by
  rcases aS h with ⟨i, u, rfl, e⟩ | ⟨y, u, rfl, e⟩
  ·exact nomatch e
  ·injection e with e1 _
   subst e1
   cases v <;> rfl
theorem jc (prog : Program) (w : World) (i : Int) (t : Tok) : (bx prog w).is (.inl i) (.int i t) = true := nk i t
theorem jb (prog : Program) (w : World) (x : Str) (t : Tok) : (bx prog w).is (.inr x) (.str x t) = true := nj x t
inductive V where
 | non | bl (b : Bool) | int (i : Int) | str (x : Str) | byt (b : Array UInt8) | flt (b : UInt64) | ref (a : Addr) | ty (n : String)
 deriving DecidableEq
noncomputable def bq : V → Value → Prop
 | .non, u => u = Value.none
 | .bl b, u => u = Value.bool b
 | .int i, u => ∃ t, u = Value.int i t
 | .str x, u => ∃ t, u = Value.str x t
 | .byt b, u => ∃ t, u = Value.bytes b t
 | .flt b, u => ∃ t, u = Value.float b t
 | .ref a, u => u = Value.ref a
 | .ty n, u => u = Value.type n
noncomputable abbrev aQ : List V → List Value → Prop := Paired bq
theorem aQ.length {xs : List V} {us : List Value} (r : aQ xs us) : xs.length = us.length := Paired.length r
theorem aQ.get : ∀ {xs : List V} {us : List Value} {i : Nat} {x : V}, aQ xs us → xs[i]? = some x → ∃ u, us[i]? = some u ∧ bq x u
 | _, _, _, _, .nil, e => by simp at e
 | _, _, 0, _, .cons r _, e => by simp at e; subst e; exact ⟨_, rfl, r⟩
 | _, _, i + 1, x, .cons _ t, e => by
  obtain ⟨u, h1, h2⟩ := aQ.get (i := i) (x := x) t (by simpa using e)
  exact ⟨u, by simpa using h1, h2⟩
theorem aQ.set {x : V} {u : Value} (r : bq x u) : ∀ {xs : List V} {us : List Value} (i : Nat), aQ xs us → aQ (xs.set i x) (us.set i u)
 | _, _, _, .nil => .nil
 | _, _, 0, .cons _ t => .cons r t
 | _, _, i + 1, .cons q t => .cons q (aQ.set r i t)
theorem aQ.append : ∀ {xs ys : List V} {us ws : List Value}, aQ xs us → aQ ys ws → aQ (xs ++ ys) (us ++ ws)
 | _, _, _, _, .nil, s => s
 | _, _, _, _, .cons r t, s => .cons r (aQ.append t s)
theorem aQ.take : ∀ {xs : List V} {us : List Value} (n : Nat), aQ xs us → aQ (xs.take n) (us.take n)
 | _, _, 0, _ => .nil
 | _, _, _ + 1, .nil => .nil
 | _, _, n + 1, .cons r t => .cons r (aQ.take n t)
theorem aQ.drop : ∀ {xs : List V} {us : List Value} (n : Nat), aQ xs us → aQ (xs.drop n) (us.drop n)
 | _, _, 0, r => r
 | _, _, _ + 1, .nil => .nil
 | _, _, n + 1, .cons _ t => aQ.drop n t
noncomputable def lM : Option V → Option Value → Prop
 | some v, some u => bq v u
 | none, none => True
 | _, _ => False
noncomputable def KV {κ : Type} : List (κ × V) → List (κ × Value) → Prop := Paired fun (p : κ × V) (q : κ × Value) => p.1 = q.1 ∧ bq p.2 q.2
noncomputable def kV : Key → V
 | .inl i => .int i
 | .inr x => .str x
inductive HO where
 | lst (xs : List V)
 | tup (xs : List V)
 | dK (kvs : List (Key × V)) | dT (kvs : List (List Key × V))
 | set (S : Int → Bool) (n : Nat)
 | ins (C dx : Addr) (fs : List (Str × V))
 | own (x : Addr)
 | xd (fs : List (Str × V))
 | met (f x : Addr)
 | rng (lo hi : Int)
 | frz (o : Obj) (u : HO)
 | tbl (ps : Array Value)
 | ext (φ : Heap → Prop)
noncomputable abbrev Hp := Addr → Option HO
noncomputable def upd (H : Hp) (a : Addr) (o : HO) : Hp := fun b => if b = a then some o else H b
theorem aD {H : Hp} {a : Addr} {o : HO} : upd H a o a = some o := by unfold upd; rw [if_pos rfl]
theorem aF {H : Hp} {a b : Addr} {o : HO} (h : b ≠ a) : upd H a o b = H b := by unfold upd; rw [if_neg h]
theorem y3 {H : Hp} {a b : Addr} {o u : HO} (h : H a = some o) (h' : H b = some u) (d : o ≠ u) : a ≠ b := by
 intro e; subst e; rw [h] at h'; exact d (Option.some.inj h')
theorem bA {H : Hp} {a b : Addr} {o : HO} (h : H a = some o) (h' : H b = none) : a ≠ b := by
 intro e; subst e; rw [h] at h'; cases h'
section
variable (P : Program) (w : World)
noncomputable def bp (H : Hp) (h : Heap) (a : Addr) : HO → Prop
 | .lst xs => xs.length ≤ sizeLine ∧ ∃ (its : List Value) (n : Nat), aQ xs its ∧ h.get? a = some { cls := .type "list", data := .seq its.toArray n }
 | .tup xs => xs.length ≤ sizeLine ∧ ∃ its : List Value, aQ xs its ∧ IsTup h a its.toArray
 | .dK kvs => kvs.length ≤ sizeLine ∧ (a == sysModules) = false ∧ ∃ vs, KV kvs vs ∧ h.DictOf (bx P w) a vs
 | .dT kvs => kvs.length ≤ sizeLine ∧ (a == sysModules) = false ∧ ∃ xs : List (List Key × Addr × Value),
   Paired (fun (p : List Key × V) (q : List Key × Addr × Value) => p.1 = q.1 ∧ H q.2.1 = some (.tup (p.1.map kV)) ∧ bq p.2 q.2.2) kvs xs ∧
   ∃ o es ep, h.get? a = some o ∧ o.ExactDict ∧ o.data = .dict es ep ∧ es.toList = xs.map (entryOfKey (tupleKind (bx P w))) ∧ (xs.map (·.1)).Nodup
 | .set S n => h.SetOf (intKind P w) a S n
 | .ins C dx fs => H dx = some (.own a) ∧ fs.length ≤ 1000 ∧ dx ≠ a ∧ h.get? a = some (PySem.W.instObj C dx) ∧
   ∃ mA, h.Ns1 dx mA ∧ (∀ f, lM (fs.lookup f) (mA f)) ∧ PySem.Within mA (fs.map (·.1))
 | .own _ => ∃ o, h.get? a = some o
 | .xd fs => ∃ mA, h.Ns1 a mA ∧ ∀ f, lM (fs.lookup f) (mA f)
 | .rng lo hi => ∃ t u v, h.get? a = some { cls := .type "range", data := .fields #[.int lo t, .int hi u, .int 1 v] }
 | .frz o u => h.get? a = some o ∧ bp H h a u
 | .tbl ps => h.get? a = some { cls := .none, data := .fields ps }
 | .met f x => h.get? a = some (PySem.W.methodObj (.ref f) (.ref x))
 | .ext φ => φ h ∧ (∃ o, h.get? a = some o) ∧ ∀ h1 h2 : Heap, φ h1 → (∀ o, h1.get? a = some o → h2.get? a = some o) → φ h2
noncomputable def HOk (H : Hp) (h : Heap) : Prop := ∀ a o, H a = some o → bp P w H h a o
end
section
variable {P : Program} {w : World} {H H' : Hp} {h h' : Heap} {a : Addr} {o : HO}
theorem bp.lt (x : bp P w H h a o) : a < h.objs.size := by
 cases o with
 | lst xs => obtain ⟨_, _, _, _, e⟩ := x; exact Heap.lt_size e
 | tup xs => obtain ⟨_, _, _, p⟩ := x; exact p.lt
 | dK kvs => obtain ⟨_, _, _, _, o, _, _, e, _⟩ := x; exact Heap.lt_size e
 | dT kvs => obtain ⟨_, _, _, _, o, _, _, e, _⟩ := x; exact Heap.lt_size e
 | set S n => obtain ⟨o, _, _, _, e, _⟩ := x; exact Heap.lt_size e
 | ins C dx fs => obtain ⟨_, _, _, e, _⟩ := x; exact Heap.lt_size e
 | own y => obtain ⟨_, e⟩ := x; exact Heap.lt_size e
 | xd fs => obtain ⟨_, ⟨_, _, _, e, _⟩, _⟩ := x; exact Heap.lt_size e
 | rng lo hi => obtain ⟨_, _, _, e⟩ := x; exact Heap.lt_size e
 | frz ob u => obtain ⟨e, _⟩ := x; exact Heap.lt_size e
 | tbl ps => exact Heap.lt_size (show h.get? a = some _ from x)
 | met f y => exact Heap.lt_size (show h.get? a = some _ from x)
 | ext φ => obtain ⟨_, ⟨_, e⟩, _⟩ := x; exact Heap.lt_size e
theorem Paired.mapP {α β : Type} {F G : α → β → Prop} : ∀ {l₁ : List α} {l₂ : List β}, Paired F l₁ l₂ → (∀ a b, F a b → G a b) → Paired G l₁ l₂
 | _, _, .nil, _ => .nil
 | _, _, .cons r t, f => .cons (f _ _ r) (Paired.mapP t f)
theorem bp.stay (x : bp P w H h a o) (k : ∀ b u, (b = a ∨ H b = some (.own a)) → h.get? b = some u → h'.get? b = some u)
  (ho : ∀ b, H b = some (.own a) → H' b = some (.own a)) (ht : ∀ b xs, H b = some (.tup xs) → H' b = some (.tup xs)) : bp P w H' h' a o := by
 induction o with
 | lst xs => obtain ⟨z, its, n, r, e⟩ := x; exact ⟨z, its, n, r, k _ _ (.inl rfl) e⟩
 | tup xs => obtain ⟨z, its, r, ob, e, c⟩ := x; exact ⟨z, its, r, ob, k _ _ (.inl rfl) e, c⟩
 | dK kvs => obtain ⟨z, y, vs, r, ob, es, ep, e, c⟩ := x; exact ⟨z, y, vs, r, ob, es, ep, k _ _ (.inl rfl) e, c⟩
 | dT kvs =>
  obtain ⟨z, y, xs, r, ob, es, ep, e, c⟩ := x
  exact ⟨z, y, xs, Paired.mapP r fun p q z => ⟨z.1, ht _ _ z.2.1, z.2.2⟩, ob, es, ep, k _ _ (.inl rfl) e, c⟩
 | set S n => obtain ⟨ob, es, ep, t, e, c⟩ := x; exact ⟨ob, es, ep, t, k _ _ (.inl rfl) e, c⟩
 | ins C dx fs =>
  obtain ⟨d, z, ne, e, mA, ⟨od, es, ep, e2, c⟩, r⟩ := x
  exact ⟨ho _ d, z, ne, k _ _ (.inl rfl) e, mA, ⟨od, es, ep, k _ _ (.inr d) e2, c⟩, r⟩
 | own y => obtain ⟨ob, e⟩ := x; exact ⟨ob, k _ _ (.inl rfl) e⟩
 | xd fs => obtain ⟨mA, ⟨od, es, ep, e, c⟩, r⟩ := x; exact ⟨mA, ⟨od, es, ep, k _ _ (.inl rfl) e, c⟩, r⟩
 | rng lo hi => obtain ⟨t, u, v, e⟩ := x; exact ⟨t, u, v, k _ _ (.inl rfl) e⟩
 | frz ob u ih => obtain ⟨e, q⟩ := x; exact ⟨k _ _ (.inl rfl) e, ih q⟩
 | tbl ps =>
  have e : h.get? a = some { cls := .none, data := .fields ps } := x
  show h'.get? a = some { cls := .none, data := .fields ps }
  exact k a _ (.inl rfl) e
 | met f y =>
  have e : h.get? a = some (PySem.W.methodObj (.ref f) (.ref y)) := x
  show h'.get? a = some (PySem.W.methodObj (.ref f) (.ref y))
  exact k a _ (.inl rfl) e
 | ext φ => obtain ⟨p, ⟨o, e⟩, st⟩ := x; exact ⟨st _ _ p fun o q => k _ _ (.inl rfl) q, ⟨o, k _ _ (.inl rfl) e⟩, st⟩
theorem HOk.lt (x : HOk P w H h) (e : H a = some o) : a < h.objs.size := (x a o e).lt
theorem HOk.fresh (x : HOk P w H h) (e : h.objs.size ≤ a) : H a = none := by
 cases q : H a with
 | none => rfl
 | some u => exact absurd (Nat.lt_of_lt_of_le (x.lt q) e) (Nat.lt_irrefl _)
theorem HOk.kept (x : HOk P w H h) (k : ∀ b u, h.get? b = some u → h'.get? b = some u) : HOk P w H h' := fun a o e =>
 (x a o e).stay (fun b u _ q => k b u q) (fun _ q => q) fun _ _ q => q
theorem HOk.laid (x : HOk P w H h) (k : ∀ b u, h.get? b = some u → h'.get? b = some u) (hp : h.objs.size ≤ a) (new : bp P w (upd H a o) h' a o) : HOk P w (upd H a o) h' := fun b u e => by
 have hn := x.fresh hp
 by_cases hb : b = a
 ·subst hb; rw [aD] at e; cases e; exact new
 ·rw [aF hb] at e
  exact (x b u e).stay (fun c v _ q => k c v q) (fun c q => by rw [aF (bA q hn)]; exact q) fun c xs q => by rw [aF (bA q hn)]; exact q
end
noncomputable def Rd (H : Hp) (a : Addr) (u : HO) : Prop := H a = some u ∨ ∃ o, H a = some (.frz o u)
theorem Rd.ok {P : Program} {w : World} {H : Hp} {h : Heap} {a : Addr} {u : HO} (r : Rd H a u) (x : HOk P w H h) : bp P w H h a u := by
 rcases r with r | ⟨o, r⟩
 ·exact x a u r
 ·obtain ⟨_, q⟩ := x a _ r
  exact q
noncomputable def Mut : Option HO → Prop
 | some (.lst _) => True
 | some (.dK _) => True
 | some (.dT _) => True
 | some (.set _ _) => True
 | some (.ins _ _ _) => True
 | some (.ext _) => True
 | _ => False
section
variable {P : Program} {w : World} {H : Hp} {h h' : Heap} {x e : Addr} {o' : HO}
theorem HOk.write (ok : HOk P w H h) (mu : Mut (H x)) (he : e = x ∨ H e = some (.own x)) (k : ∀ b u, b ≠ e → h.get? b = some u → h'.get? b = some u) (heo : ∃ u, h'.get? e = some u)
  (new : bp P w (upd H x o') h' x o') : HOk P w (upd H x o') h' := fun b u q => by
 have nown : ∀ c y, H c = some (.own y) → c ≠ x := fun c y r z => by subst z; rw [r] at mu; exact mu
 have ntup : ∀ c xs, H c = some (.tup xs) → c ≠ x := fun c xs r z => by subst z; rw [r] at mu; exact mu
 by_cases hb : b = x
 ·subst hb; rw [aD] at q; cases q; exact new
 ·rw [aF hb] at q
  by_cases hbe : b = e
  ·have q' : H b = some (.own x) := by
    rcases he with z | z
    ·exact absurd (hbe.trans z) hb
    ·rw [hbe]; exact z
   rw [q] at q'; cases q'
   obtain ⟨v, hv⟩ := heo
   exact ⟨v, by rw [hbe]; exact hv⟩
  ·refine (ok b u q).stay (fun c v hc r => k c v ?_ r) (fun c r => by rw [aF (nown c b r)]; exact r) fun c xs r => by rw [aF (ntup c xs r)]; exact r
   rcases hc with rfl | hc
   ·exact hbe
   ·rintro rfl
    rcases he with z | z
    ·exact nown c b hc z
    ·rw [hc] at z; cases z; exact hb rfl
end
structure Un (fs ex : List Addr) (H H' : Hp) (h h' : Heap) : Prop where
 keep : ∀ b o, h.get? b = some o → H b = none → b ∉ fs → b ∉ ex → h'.get? b = some o
 slot : ∀ b o, h.get? b = some o → H b = none → b ∈ fs → b ∉ ex → ∃ sl, h'.get? b = some { o with slots := sl }
 free : ∀ b o, h.get? b = some o → H b = none → b ∉ ex → H' b = none
 there : ∀ b o, h.get? b = some o → b ∉ ex → ∃ o', h'.get? b = some o'
 tups : ∀ b xs, H b = some (.tup xs) → H' b = some (.tup xs)
 frzs : ∀ b o u, H b = some (.frz o u) → H' b = some (.frz o u)
 tbls : ∀ b ps, H b = some (.tbl ps) → ∃ more, H' b = some (.tbl (ps ++ more))
section
variable {fs fs' ex ex' : List Addr} {H H1 H2 : Hp} {h h1 h2 h' : Heap} {a x e : Addr} {o : HO}
theorem Un.any (u : Un fs ex H H1 h h1) {b : Addr} {ob : Obj} (q : h.get? b = some ob) (n : H b = none) (hx : b ∉ ex) : ∃ sl, h1.get? b = some { ob with slots := sl } := by
 by_cases hb : b ∈ fs
 ·exact u.slot b ob q n hb hx
 ·exact ⟨ob.slots, u.keep b ob q n hb hx⟩
theorem Un.kept (k : ∀ b u, h.get? b = some u → h'.get? b = some u) : Un fs ex H H h h' :=
 ⟨fun b ob q _ _ _ => k b ob q, fun b ob q _ _ _ => ⟨ob.slots, k b ob q⟩, fun _ _ _ n _ => n, fun b ob q _ => ⟨ob, k b ob q⟩, fun _ _ q => q, fun _ _ _ q => q, fun _ ps q => ⟨#[], by rw [q]; simp⟩⟩
theorem Un.refl : Un fs ex H H h h := Un.kept fun _ _ q => q
theorem Un.laid (k : ∀ b u, h.get? b = some u → h'.get? b = some u) (hp : h.objs.size ≤ a) (hn : H a = none) : Un fs ex H (upd H a o) h h' where
 keep := fun b u q _ _ _ => k b u q
 slot := fun b u q _ _ _ => ⟨u.slots, k b u q⟩
 free := fun b u q n _ => by rw [aF (Nat.ne_of_lt (Nat.lt_of_lt_of_le (Heap.lt_size q) hp))]; exact n
 there := fun b u q _ => ⟨u, k b u q⟩
 tups := fun b xs q => by rw [aF (bA q hn)]; exact q
 frzs := fun b u xs q => by rw [aF (bA q hn)]; exact q
 tbls := fun b ps q => ⟨#[], by rw [aF (bA q hn), q]; simp⟩
theorem Un.write (mu : Mut (H x)) (he : e = x ∨ H e = some (.own x)) (k : ∀ b u, b ≠ e → h.get? b = some u → h'.get? b = some u) (heo : ∃ u, h'.get? e = some u) : Un fs ex H (upd H x o) h h' := by
 have hx : ∀ b, H b = none → b ≠ x := fun b n z => by subst z; rw [n] at mu; exact mu
 have hb : ∀ b, H b = none → b ≠ e := fun b n z => by
  subst z
  rcases he with r | r
  ·exact hx b n r
  ·rw [n] at r; cases r
 have hm : ∀ b u, H b = some u → ¬ Mut (some u) → b ≠ x := fun b u q nm z => by subst z; rw [q] at mu; exact nm mu
 refine ⟨fun b u q n _ _ => k b u (hb b n) q, fun b u q n _ _ => ⟨u.slots, k b u (hb b n) q⟩, fun b u q n _ => by rw [aF (hx b n)]; exact n, fun b u q _ => ?_,
  fun b xs q => by rw [aF (hm b _ q fun z => z)]; exact q, fun b u xs q => by rw [aF (hm b _ q fun z => z)]; exact q, fun b ps q => ⟨#[], by rw [aF (hm b _ q fun z => z), q]; simp⟩⟩
 by_cases hbe : b = e
 ·subst hbe; exact heo
 ·exact ⟨u, k b u hbe q⟩
end
noncomputable def trk (h : Heap) (H : Hp) : List Addr := (List.range h.objs.size).filter fun a => (H a).isSome
noncomputable def pX (h : Heap) (H : Hp) : Heap := PySem.W.hideAll h (trk h H)
theorem nE (h : Heap) (H : Hp) : (pX h H).objs.size = h.objs.size := PySem.W.hideAll_size _ _
theorem pW {h : Heap} {H : Hp} {b : Addr} {o : Obj} (e : h.get? b = some o) (n : H b = none) : (pX h H).get? b = some o :=
 PySem.W.hideAll_get _ e fun hm => by
  have q : (H b).isSome = true := (List.mem_filter.mp hm).2
  rw [n] at q; simp at q
theorem tf {h : Heap} {H : Hp} {b : Addr} {o : Obj} (e : (pX h H).get? b = some o) : h.get? b = some o ∧ H b = none := by
 have e' : h.get? b = some o := PySem.W.of_hideAll (trk h H) e
 refine ⟨e', ?_⟩
 cases q : H b with
 | none => rfl
 | some x =>
  have hm : b ∈ trk h H := List.mem_filter.mpr ⟨List.mem_range.mpr (Heap.lt_size e'), by simp [q]⟩
  have z : (pX h H).get? b = none := PySem.W.hideAll_none (trk h H) hm
  rw [z] at e; cases e
structure Mod (K : PySem.W.Frag) (mg : Str → Option Value) (base : Heap) : Prop where
 kin : K.In base
 glob : base.Ns mainGlobals mg
 blt : ∃ mb, base.Ns builtinsNs mb ∧ ∀ x : Str, x ≠ "__name__" → mb x = bootBuiltins x
 nolimit : base.NoLimit
structure Cx where
 prog : Program
 w : World
 K : PySem.W.Frag
 mg : Str → Option Value
 base : Heap
 A : Around
 N : List Str
 s₀ : Shared
 H₀ : Hp
 env : Env
 outer : List Env
 stack : List Env
 ex : List Addr
 fn : Str → Bool
 calm : Bool
 pn : List (Addr × Obj)
 xe : Value → Shared → Prop
noncomputable def frs (l : List Env) : List Addr := l.filterMap (·.frame)
noncomputable abbrev Cx.fs (X : Cx) : List Addr := frs X.outer
noncomputable def Vis (sc : Scope) (x : Str) : Prop := sc.names.lookup x = some .local ∨ sc.names.lookup x = some .cell ∨ sc.names.lookup x = some .free
noncomputable def Loc (sc : Scope) (x : Str) : Prop := sc.names.lookup x = some .local ∨ sc.names.lookup x = some .cell
noncomputable def AF (env : Env) (h : Heap) (m : Str → Option Value) (x : Str) (u : Value) : Prop :=
 (env.kindOf x = some .local ∧ m x = some u) ∨ ((env.kindOf x = some .cell ∨ env.kindOf x = some .free) ∧ ∃ c, env.cells.lookup x = some c ∧ h.IsCell c (some u))
structure Cx.Ok (X : Cx) : Prop where
 mod : Mod X.K X.mg X.base
 kind : X.env.scope.kind = .function
 glob : X.env.globals = mainGlobals
 blt : X.env.builtins = builtinsNs
 above : X.s₀.heap.objs.size ≤ X.env.locals
 inj : ∀ x y c, X.env.cells.lookup x = some c → X.env.cells.lookup y = some c → x = y
 has : ∀ x, (X.env.kindOf x = some .cell ∨ X.env.kindOf x = some .free) → ∃ c, X.env.cells.lookup x = some c
 cab : ∀ x c, X.fn x = true → X.env.cells.lookup x = some c → X.s₀.heap.objs.size ≤ c
 hd : X.calm = true → X.A.handled = none
 frames : X.A.frames = some X.stack
 stk : X.stack = X.outer ∨ (X.stack = X.env :: X.outer ∧ X.env.frame = some X.env.locals)
 exf : ∀ b ∈ X.ex, b ≠ X.env.locals ∧ ∀ x c, X.env.cells.lookup x = some c → c ≠ b
 bs : ∀ b o, X.base.get? b = some o → X.s₀.heap.get? b = some o ∧ X.H₀ b = none
 bsz : X.base.objs.size ≤ X.s₀.heap.objs.size
 noex : ∀ b o, X.base.get? b = some o → b ∉ X.ex
 exfs : ∀ b ∈ X.ex, b ∉ X.fs
 funs : X.s₀.heap.FunFrames X.base X.outer
 frf : ∀ b ∈ X.fs, X.H₀ b = none
structure Inv (X : Cx) (pins : List (Addr × Obj)) (σ : List (Option V)) (H : Hp) (s : Shared) : Prop where
 ok : X.Ok
 os : s.os = X.s₀.os
 bare : AllBare s.gens
 base : Un X.fs X.ex X.H₀ H X.s₀.heap s.heap
 loc : ∃ m, s.heap.Ns X.env.locals m ∧ ∀ (i : Nat) (x : Str) (v : V), X.N[i]? = some x → σ[i]? = some (some v) → Vis X.env.scope x → ∃ u, bq v u ∧ AF X.env s.heap m x u
 cell : ∀ x c, X.env.cells.lookup x = some c → ∃ v, s.heap.IsCell c v
 free : H X.env.locals = none
 freeC : ∀ x c, X.env.cells.lookup x = some c → H c = none
 pin : ∀ p ∈ X.pn ++ pins, s.heap.get? p.1 = some p.2 ∧ H p.1 = none ∧ p.1 ≠ X.env.locals ∧ p.1 ∉ X.fs ∧ ∀ v, p.2.data ≠ .cell v
 hok : HOk X.prog X.w H s.heap
 len : σ.length = X.N.length
section
variable {X : Cx} {pins : List (Addr × Obj)} {σ : List (Option V)} {H H' : Hp} {s : Shared} {h' : Heap}
theorem Cx.Ok.nofr (ok : X.Ok) {b : Addr} {o : Obj} (e : X.base.get? b = some o) : b ∉ X.fs := fun hb => by
 have := (ok.funs.mem hb).1
 rw [e] at this; cases this
theorem Inv.bs (I : Inv X pins σ H s) : ∀ b o, X.base.get? b = some o → s.heap.get? b = some o ∧ H b = none := fun b o e =>
 ⟨I.base.keep b o (I.ok.bs b o e).1 (I.ok.bs b o e).2 (I.ok.nofr e) (I.ok.noex b o e), I.base.free b o (I.ok.bs b o e).1 (I.ok.bs b o e).2 (I.ok.noex b o e)⟩
theorem Inv.bk (I : Inv X pins σ H s) : ∀ b o, X.base.get? b = some o → s.heap.get? b = some o := fun b o e => (I.bs b o e).1
theorem Inv.mod (I : Inv X pins σ H s) : Mod X.K X.mg X.base := I.ok.mod
theorem Inv.kIn (I : Inv X pins σ H s) : X.K.In s.heap := I.ok.mod.kin.keeps I.bk
theorem Inv.lt (I : Inv X pins σ H s) : X.env.locals < s.heap.objs.size := let ⟨_, hn, _⟩ := I.loc; hn.lt
theorem Inv.sz (I : Inv X pins σ H s) : X.s₀.heap.objs.size ≤ s.heap.objs.size := Nat.le_trans I.ok.above (Nat.le_of_lt I.lt)
theorem Inv.nofs (I : Inv X pins σ H s) {a : Addr} (h : s.heap.objs.size ≤ a) : a ∉ X.fs := fun hb => by
 obtain ⟨_, o, ho, _⟩ := I.ok.funs.mem hb
 exact absurd (Nat.lt_of_lt_of_le (Heap.lt_size ho) (Nat.le_trans I.sz h)) (Nat.lt_irrefl _)
theorem Inv.cne (I : Inv X pins σ H s) : ∀ x c, X.env.cells.lookup x = some c → c ≠ X.env.locals := fun x c e z => by
 obtain ⟨v, o, ho, hd⟩ := I.cell x c e
 obtain ⟨m, ⟨o', es, ep, ho', hd', _⟩, _⟩ := I.loc
 rw [z, ho'] at ho; cases ho; rw [hd'] at hd; cases hd
theorem Inv.funs (I : Inv X pins σ H s) : s.heap.FunFrames X.base X.outer := by
 have all : ∀ (l : List Env), (∀ b ∈ frs l, b ∈ X.fs) → X.s₀.heap.FunFrames X.base l → s.heap.FunFrames X.base l := by
  intro l
  induction l with
  | nil => intro _ _; trivial
  | cons env r ih =>
   intro hs hl
   obtain ⟨hk, ⟨L, o, hf, hn, ho, hd⟩, hr⟩ := hl
   have hL : L ∈ X.fs := hs L (by unfold frs; rw [List.filterMap_cons, hf]; exact List.mem_cons_self)
   obtain ⟨sl, e⟩ := I.base.slot L o ho (I.ok.frf L hL) hL fun z => I.ok.exfs L z hL
   exact ⟨hk, ⟨L, _, hf, hn, e, hd⟩, ih (fun b hb => hs b (by unfold frs; rw [List.filterMap_cons, hf]; exact List.mem_cons_of_mem _ hb)) hr⟩
 exact all X.outer (fun _ hb => hb) I.ok.funs
theorem Inv.stack (I : Inv X pins σ H s) : s.heap.FunFrames X.base X.stack := by
 rcases I.ok.stk with e | ⟨e, hf⟩
 ·rw [e]; exact I.funs
 ·rw [e]
  obtain ⟨m, hn, _⟩ := I.loc
  refine .cons (by rw [I.ok.kind]; decide) hf hn ?_ I.funs
  exact Heap.get?_none_of_le (Nat.le_trans I.ok.bsz I.ok.above)
theorem Inv.stkSub (I : Inv X pins σ H s) : ∀ b ∈ frs X.stack, b ∈ X.env.locals :: X.fs := fun b hb => by
 rcases I.ok.stk with e | ⟨e, hf⟩
 ·rw [e] at hb; exact List.mem_cons_of_mem _ hb
 ·rw [e] at hb
  unfold frs at hb
  rw [List.filterMap_cons, hf] at hb
  exact hb
theorem Inv.stkFree (I : Inv X pins σ H s) : ∀ b ∈ frs X.stack, H b = none := fun b hb => by
 rcases List.mem_cons.mp (I.stkSub b hb) with e | hb
 ·rw [e]; exact I.free
 ·obtain ⟨_, o, ho, _⟩ := I.ok.funs.mem hb
  exact I.base.free b o ho (I.ok.frf b hb) fun z => I.ok.exfs b z hb
theorem Inv.step {g' : Array GenState} {t' : Nat} {d' : Drawn} {ch : List Addr} (I : Inv X pins σ H s)
  (hch : ∀ b ∈ ch, (b ∈ X.ex ∨ X.s₀.heap.objs.size ≤ b) ∧ b ≠ X.env.locals ∧ (∀ x c, X.env.cells.lookup x = some c → c ≠ b) ∧ ∀ p ∈ X.pn ++ pins, p.1 ≠ b)
  (keep : ∀ b o, b ≠ X.env.locals → b ∉ X.fs → b ∉ ch → s.heap.get? b = some o → H b = none → h'.get? b = some o)
  (slot : ∀ b o, b ≠ X.env.locals → b ∈ X.fs → b ∉ ch → s.heap.get? b = some o → H b = none → ∃ sl, h'.get? b = some { o with slots := sl }) (free : ∀ b o, b ∉ ch → s.heap.get? b = some o → H b = none → H' b = none)
  (there : ∀ b o, b ∉ ch → s.heap.get? b = some o → ∃ o', h'.get? b = some o')
  (tups : ∀ b xs, H b = some (.tup xs) → H' b = some (.tup xs)) (frzs : ∀ b o u, H b = some (.frz o u) → H' b = some (.frz o u)) (tbls : ∀ b ps, H b = some (.tbl ps) → ∃ more, H' b = some (.tbl (ps ++ more)))
  (ns : ∀ m, s.heap.Ns X.env.locals m → h'.Ns X.env.locals m) (hok : HOk X.prog X.w H' h') (hg : AllBare g') :
  Inv X pins σ H' { s with heap := h', gens := g', drawn := d', toks := t' } := by
 have neL : ∀ b o, X.s₀.heap.get? b = some o → b ≠ X.env.locals := fun b o e => Nat.ne_of_lt (Nat.lt_of_lt_of_le (Heap.lt_size e) I.ok.above)
 have neC : ∀ b o, X.s₀.heap.get? b = some o → b ∉ X.ex → b ∉ ch := fun b o e hx hb => by
  rcases (hch b hb).1 with z | z
  ·exact hx z
  ·exact absurd (Nat.lt_of_lt_of_le (Heap.lt_size e) z) (Nat.lt_irrefl _)
 have cellK : ∀ x c, X.env.cells.lookup x = some c → ∀ v, s.heap.IsCell c v → h'.IsCell c v := fun x c e v ⟨o, ho, hd⟩ => by
  have nch : c ∉ ch := fun z => (hch c z).2.2.1 x c e rfl
  by_cases hc : c ∈ X.fs
  ·obtain ⟨sl, q⟩ := slot c o (I.cne x c e) hc nch ho (I.freeC x c e)
   exact ⟨_, q, hd⟩
  ·exact ⟨o, keep c o (I.cne x c e) hc nch ho (I.freeC x c e), hd⟩
 refine ⟨I.ok, I.os, hg, ⟨fun b o e n hb hx => ?_, fun b o e n hb hx => ?_, fun b o e n hx => ?_, fun b o e hx => ?_, fun b xs e => tups b xs (I.base.tups b xs e), fun b o xs e => frzs b o xs (I.base.frzs b o xs e), fun b ps e => ?_⟩, ?_, fun x c e => ?_, ?_, fun x c e => ?_, fun p hp => ?_, hok, I.len⟩
 ·exact keep b o (neL b o e) hb (neC b o e hx) (I.base.keep b o e n hb hx) (I.base.free b o e n hx)
 ·obtain ⟨sl, e1⟩ := I.base.slot b o e n hb hx
  obtain ⟨sl', e2⟩ := slot b _ (neL b o e) hb (neC b o e hx) e1 (I.base.free b o e n hx)
  exact ⟨sl', e2⟩
 ·obtain ⟨o', e1⟩ := I.base.there b o e hx
  exact free b o' (neC b o e hx) e1 (I.base.free b o e n hx)
 ·obtain ⟨o', e1⟩ := I.base.there b o e hx
  exact there b o' (neC b o e hx) e1
 ·obtain ⟨m1, e1⟩ := I.base.tbls b ps e
  obtain ⟨m2, e2⟩ := tbls b _ e1
  exact ⟨m1 ++ m2, by rw [e2, Array.append_assoc]⟩
 ·obtain ⟨m, hn, hl⟩ := I.loc
  refine ⟨m, ns m hn, fun i x v e1 e2 e3 => ?_⟩
  obtain ⟨u, r, l⟩ := hl i x v e1 e2 e3
  refine ⟨u, r, ?_⟩
  rcases l with l | ⟨k, c, e, z⟩
  ·exact .inl l
  ·exact .inr ⟨k, c, e, cellK x c e _ z⟩
 ·obtain ⟨v, z⟩ := I.cell x c e
  exact ⟨v, cellK x c e v z⟩
 ·obtain ⟨m, ⟨o, _, _, ho, _⟩, _⟩ := I.loc
  exact free _ o (fun z => (hch _ z).2.1 rfl) ho I.free
 ·obtain ⟨v, o, ho, hd⟩ := I.cell x c e
  exact free c o (fun z => (hch c z).2.2.1 x c e rfl) ho (I.freeC x c e)
 ·obtain ⟨e, n, ne, nf, d⟩ := I.pin p hp
  have nch : p.1 ∉ ch := fun z => (hch p.1 z).2.2.2 p hp rfl
  exact ⟨keep p.1 p.2 ne nf nch e n, free p.1 p.2 nch e n, ne, nf, d⟩
theorem Inv.un {t' : Nat} (I : Inv X pins σ H s) (u : Un X.fs [] H H' s.heap h') (hok : HOk X.prog X.w H' h') : Inv X pins σ H' { s with heap := h', toks := t' } := by
 obtain ⟨m, ⟨o, es, ep, ho, r⟩, _⟩ := id I.loc
 obtain ⟨sl, hL⟩ := u.any ho I.free (by simp)
 exact I.step (g' := s.gens) (d' := s.drawn) (ch := []) (fun _ z => nomatch z) (fun b o _ hb _ e n => u.keep b o e n hb (by simp)) (fun b o _ hb _ e n => u.slot b o e n hb (by simp)) (fun b o _ e n => u.free b o e n (by simp)) (fun b o _ e => u.there b o e (by simp)) u.tups u.frzs u.tbls (fun m' hm => by
  obtain ⟨o', es', ep', ho', r'⟩ := hm
  rw [ho] at ho'; cases ho'
  exact ⟨_, es', ep', hL, r'⟩) hok I.bare
theorem Inv.call {g' : Array GenState} {t' : Nat} {d' : Drawn} {ch : List Addr} (I : Inv X pins σ H s) (u : Un (frs X.stack) ch H H' s.heap h') (hok : HOk X.prog X.w H' h') (hg : AllBare g')
  (hch : ∀ b ∈ ch, (b ∈ X.ex ∨ X.s₀.heap.objs.size ≤ b) ∧ b ≠ X.env.locals ∧ (∀ x c, X.env.cells.lookup x = some c → c ≠ b) ∧ ∀ p ∈ X.pn ++ pins, p.1 ≠ b) :
  Inv X pins σ H' { s with heap := h', gens := g', drawn := d', toks := t' } := by
 obtain ⟨m, ⟨o, es, ep, ho, r⟩, _⟩ := id I.loc
 obtain ⟨sl, hL⟩ := u.any ho I.free fun z => (hch _ z).2.1 rfl
 exact I.step (ch := ch) hch (fun b o hL hb hc e n => u.keep b o e n (fun z => (List.mem_cons.mp (I.stkSub b z)).elim hL hb) hc) (fun b o _ _ hc e n => u.any e n hc) (fun b o hc e n => u.free b o e n hc) (fun b o hc e => u.there b o e hc) u.tups u.frzs u.tbls (fun m' hm => by
  obtain ⟨o', es', ep', ho', r'⟩ := hm
  rw [ho] at ho'; cases ho'
  exact ⟨_, es', ep', hL, r'⟩) hok hg
theorem Inv.turned {t' : Nat} {it : Addr} (I : Inv X pins σ H s) (k : ∀ b o, b ≠ it → s.heap.get? b = some o → h'.get? b = some o) (hn : H it = none) (hL : it ≠ X.env.locals)
  (h1 : it ∈ X.ex ∨ X.s₀.heap.objs.size ≤ it) (h2 : ∀ x c, X.env.cells.lookup x = some c → c ≠ it) (h3 : ∀ p ∈ X.pn ++ pins, p.1 ≠ it) : Inv X pins σ H { s with heap := h', toks := t' } := by
 have nit : ∀ b u, H b = some u → b ≠ it := fun b u e z => by rw [z, hn] at e; cases e
 refine I.step (g' := s.gens) (d' := s.drawn) (ch := [it]) (fun b hb => ?_) (fun b o _ _ hc e _ => k b o (fun z => hc (by simp [z])) e) (fun b o _ _ hc e _ => ⟨o.slots, k b o (fun z => hc (by simp [z])) e⟩) (fun _ _ _ _ n => n)
  (fun b o hc e => ⟨o, k b o (fun z => hc (by simp [z])) e⟩) (fun _ _ e => e) (fun _ _ _ e => e) (fun b ps e => ⟨#[], by rw [e]; simp⟩) (fun m hm => ?_) (fun b u e => ?_) I.bare
 ·have e : b = it := by simpa using hb
  subst e
  exact ⟨h1, hL, h2, h3⟩
 ·obtain ⟨o, es, ep, ho, r⟩ := hm
  exact ⟨o, es, ep, k _ o (Ne.symm hL) ho, r⟩
 ·refine (I.hok b u e).stay (fun c v hc q => k c v ?_ q) (fun _ q => q) fun _ _ q => q
  rcases hc with z | z
  ·rw [z]; exact nit b u e
  ·exact nit c _ z
theorem Inv.tok (I : Inv X pins σ H s) (t : Nat) : Inv X pins σ H { s with toks := t } := I.un (h' := s.heap) (t' := t) Un.refl I.hok
theorem Inv.kept {t' : Nat} (I : Inv X pins σ H s) (k : ∀ b u, s.heap.get? b = some u → h'.get? b = some u) : Inv X pins σ H { s with heap := h', toks := t' } := I.un (Un.kept k) (I.hok.kept k)
theorem Inv.laid {a : Addr} {o : HO} {t' : Nat} (I : Inv X pins σ H s) (k : ∀ b u, s.heap.get? b = some u → h'.get? b = some u) (hp : s.heap.objs.size ≤ a) (new : bp X.prog X.w (upd H a o) h' a o) :
  Inv X pins σ (upd H a o) { s with heap := h', toks := t' } := I.un (Un.laid k hp (I.hok.fresh hp)) (I.hok.laid k hp new)
theorem Inv.write {x e : Addr} {o : HO} {t' : Nat} (I : Inv X pins σ H s) (mu : Mut (H x)) (he : e = x ∨ H e = some (.own x)) (k : ∀ b u, b ≠ e → s.heap.get? b = some u → h'.get? b = some u) (heo : ∃ u, h'.get? e = some u)
  (new : bp X.prog X.w (upd H x o) h' x o) : Inv X pins σ (upd H x o) { s with heap := h', toks := t' } := I.un (Un.write mu he k heo) (I.hok.write mu he k heo new)
theorem Inv.pins_of {pins' : List (Addr × Obj)} (I : Inv X pins σ H s) (h : ∀ p ∈ pins', s.heap.get? p.1 = some p.2 ∧ H p.1 = none ∧ p.1 ≠ X.env.locals ∧ p.1 ∉ X.fs ∧ ∀ v, p.2.data ≠ .cell v) : Inv X pins' σ H s :=
 ⟨I.ok, I.os, I.bare, I.base, I.loc, I.cell, I.free, I.freeC, fun p hp => (List.mem_append.mp hp).elim (fun z => I.pin p (List.mem_append_left _ z)) (h p), I.hok, I.len⟩
theorem j6 {N : List Str} (hN : N.Nodup) {i j : Nat} {x : Str} (a : N[i]? = some x) (b : N[j]? = some x) : i = j := by
 obtain ⟨h1, e1⟩ := List.getElem?_eq_some_iff.mp a
 obtain ⟨h2, e2⟩ := List.getElem?_eq_some_iff.mp b
 exact (List.getElem_inj hN).mp (e1.trans e2.symm)
theorem gU {M : Model} {A : Around} {E : Value → Shared → Prop} {i : Nat} {x : Str} {v : V} {u : Value} {Q : Unit → Shared → Prop} (I : Inv X pins σ H s) (hN : X.N.Nodup) (hi : X.N[i]? = some x) (hx : Loc X.env.scope x) (r : bq v u)
  (h : ∀ s', Inv X pins (σ.set i (some v)) H s' → (∃ a, Heap.SameBut a s.heap s'.heap ∧ (a = X.env.locals ∨ X.env.cells.lookup x = some a)) → Q () s') (hf : X.fn x = true ∨ X.env.scope.names.lookup x = some .local := by first | exact .inl rfl | exact .inr rfl | assumption) : wpAny M A (storeName X.env x u) Q E s := by
 obtain ⟨m, hn, hl⟩ := id I.loc
 have hcls : (X.env.scope.kind == .class || (X.env.scope.kind == .module && X.env.locals != X.env.globals)) = false := by rw [I.ok.kind]; rfl
 have hiσ : i < σ.length := by rw [I.len]; exact (List.getElem?_eq_some_iff.mp hi).1
 have cne := I.cne
 have tracked : ∀ {a : Addr} {h' : Heap}, (∃ o, s.heap.get? a = some o ∧ H a = none) → Heap.SameBut a s.heap h' → HOk X.prog X.w H h' := fun {a h'} ha hs b ob e => by
  obtain ⟨_, _, hfree⟩ := ha
  refine (I.hok b ob e).stay (fun c w' hc q => (hs.2 c ?_).trans q) (fun _ q => q) fun _ _ q => q
  rintro rfl
  rcases hc with rfl | hc
  ·rw [hfree] at e; cases e
  ·rw [hfree] at hc; cases hc
 rcases hx with hk | hk
 ·refine wpAny_storeName_local hk hn (fun h' hn' hs => ?_) hcls
  obtain ⟨oL, _, _, hoL, _⟩ := id hn
  refine h _ ⟨I.ok, I.os, I.bare, ⟨fun b o e n hb hx => ?_, fun b o e n hb hx => ?_, I.base.free, fun b o e hx => ?_, I.base.tups, I.base.frzs, I.base.tbls⟩, ⟨_, hn', fun j y v' e1 e2 e3 => ?_⟩, fun y c e => ?_, I.free, I.freeC, fun p hp => ?_, tracked ⟨oL, hoL, I.free⟩ hs, by simpa using I.len⟩ ⟨_, hs, .inl rfl⟩
  ·exact (hs.2 b (Nat.ne_of_lt (Nat.lt_of_lt_of_le (Heap.lt_size e) I.ok.above))).trans (I.base.keep b o e n hb hx)
  ·obtain ⟨sl, e1⟩ := I.base.slot b o e n hb hx
   exact ⟨sl, (hs.2 b (Nat.ne_of_lt (Nat.lt_of_lt_of_le (Heap.lt_size e) I.ok.above))).trans e1⟩
  ·obtain ⟨o', e1⟩ := I.base.there b o e hx
   exact ⟨o', (hs.2 b (Nat.ne_of_lt (Nat.lt_of_lt_of_le (Heap.lt_size e) I.ok.above))).trans e1⟩
  ·by_cases hj : j = i
   ·subst hj
    rw [hi] at e1; cases e1
    rw [List.getElem?_set_self hiσ] at e2
    cases e2
    exact ⟨u, r, .inl ⟨hk, by simp⟩⟩
   ·rw [List.getElem?_set_ne (Ne.symm hj)] at e2
    obtain ⟨u', r', q⟩ := hl j y v' e1 e2 e3
    refine ⟨u', r', ?_⟩
    rcases q with ⟨k, e⟩ | ⟨k, c, e, z⟩
    ·refine .inl ⟨k, ?_⟩
     have : y ≠ x := fun e => hj (j6 hN e1 (e ▸ hi))
     simp [this, e]
    ·exact .inr ⟨k, c, e, z.sameBut hs (cne y c e)⟩
  ·obtain ⟨w', z⟩ := I.cell y c e
   exact ⟨w', z.sameBut hs (cne y c e)⟩
  ·obtain ⟨e, n, ne, nf, d⟩ := I.pin p hp
   exact ⟨(hs.2 p.1 ne).trans e, n, ne, nf, d⟩
 ·have hfn : X.fn x = true := by
   rcases hf with z | z
   ·exact z
   ·rw [z] at hk; cases hk
  obtain ⟨c, hc⟩ := I.ok.has x (.inl hk)
  obtain ⟨w', z⟩ := I.cell x c hc
  refine wpAny_storeName_cell I.ok.kind hk hc z (fun h' hc' hs => ?_)
  obtain ⟨oc, hoc, hocd⟩ := id z
  refine h { s with heap := h' } ⟨I.ok, I.os, I.bare, ⟨fun b o e n hb hx => ?_, fun b o e n hb hx => ?_, I.base.free, fun b o e hx => ?_, I.base.tups, I.base.frzs, I.base.tbls⟩, ⟨m, hn.sameBut hs (Ne.symm (cne x c hc)), fun j y v' e1 e2 e3 => ?_⟩, fun y c' e => ?_, I.free, I.freeC, fun p hp => ?_, tracked ⟨oc, hoc, I.freeC x c hc⟩ hs, by simpa using I.len⟩ ⟨c, hs, .inr hc⟩
  ·exact (hs.2 b (Nat.ne_of_lt (Nat.lt_of_lt_of_le (Heap.lt_size e) (I.ok.cab x c hfn hc)))).trans (I.base.keep b o e n hb hx)
  ·obtain ⟨sl, e1⟩ := I.base.slot b o e n hb hx
   exact ⟨sl, (hs.2 b (Nat.ne_of_lt (Nat.lt_of_lt_of_le (Heap.lt_size e) (I.ok.cab x c hfn hc)))).trans e1⟩
  ·obtain ⟨o', e1⟩ := I.base.there b o e hx
   exact ⟨o', (hs.2 b (Nat.ne_of_lt (Nat.lt_of_lt_of_le (Heap.lt_size e) (I.ok.cab x c hfn hc)))).trans e1⟩
  ·by_cases hj : j = i
   ·subst hj
    rw [hi] at e1; cases e1
    rw [List.getElem?_set_self hiσ] at e2
    cases e2
    exact ⟨u, r, .inr ⟨.inl hk, c, hc, hc'⟩⟩
   ·rw [List.getElem?_set_ne (Ne.symm hj)] at e2
    obtain ⟨u', r', q⟩ := hl j y v' e1 e2 e3
    refine ⟨u', r', ?_⟩
    rcases q with q | ⟨k, c', e, z'⟩
    ·exact .inl q
    ·refine .inr ⟨k, c', e, z'.sameBut hs ?_⟩
     rintro rfl
     exact hj (j6 hN e1 (I.ok.inj _ _ _ e hc ▸ hi))
  ·by_cases hcc : c' = c
   ·subst hcc; exact ⟨_, hc'⟩
   ·obtain ⟨w2, z2⟩ := I.cell y c' e
    exact ⟨w2, z2.sameBut hs hcc⟩
  ·obtain ⟨e, n, ne, nf, d⟩ := I.pin p hp
   refine ⟨(hs.2 p.1 ?_).trans e, n, ne, nf, d⟩
   intro q
   rw [q, hoc] at e
   have q' : oc = p.2 := Option.some.inj e
   exact d w' (by rw [← q']; exact hocd)
theorem jR {M : Model} {A : Around} {E : Value → Shared → Prop} {i : Nat} {x : Str} {v : V} {u : Value} {Q : Unit → Shared → Prop} (I : Inv X pins σ H s) (hN : X.N.Nodup) (hi : X.N[i]? = some x) (hx : Loc X.env.scope x) (r : bq v u)
  (h : ∀ s', Inv X pins (σ.set i (some v)) H s' → Q () s') (hf : X.fn x = true ∨ X.env.scope.names.lookup x = some .local := by first | exact .inl rfl | exact .inr rfl | assumption) : wpAny M A (storeName X.env x u) Q E s :=
 gU I hN hi hx r (fun s' I' _ => h s' I') hf
theorem Inv.call' {s' : Shared} {ch : List Addr} (I : Inv X pins σ H s) (ho : s'.os = s.os) (u : Un (frs X.stack) ch H H' s.heap s'.heap) (hok : HOk X.prog X.w H' s'.heap) (hg : AllBare s'.gens)
  (hch : ∀ b ∈ ch, (b ∈ X.ex ∨ X.s₀.heap.objs.size ≤ b) ∧ b ≠ X.env.locals ∧ (∀ x c, X.env.cells.lookup x = some c → c ≠ b) ∧ ∀ p ∈ X.pn ++ pins, p.1 ≠ b) : Inv X pins σ H' s' := by
 obtain ⟨h', g', d', t', o'⟩ := s'
 have e : o' = s.os := ho
 subst e
 exact I.call (g' := g') (t' := t') (d' := d') u hok hg hch
end
noncomputable abbrev XK := Value → Option Addr → Hp → Prop
noncomputable abbrev St := List (Option V)
noncomputable abbrev VK := V → Hp → Prop
noncomputable abbrev TE := St → Hp → VK → Prop
noncomputable abbrev TT := St → Hp → (Bool → Hp → Prop) → Prop
noncomputable abbrev TA := St → Hp → (List V → Hp → Prop) → Prop
structure qQ where
 nx : St → Hp → Prop
 rt : VK
 bk : St → Hp → Prop := fun _ _ => False
 ct : St → Hp → Prop := fun _ _ => False
noncomputable abbrev TS := qQ → St → Hp → Prop
noncomputable def EP (X : Cx) (pins : List (Addr × Obj)) (σ : St) (Q : VK) (u : Value) (s' : Shared) : Prop := ∃ v H', Inv X pins σ H' s' ∧ bq v u ∧ Q v H'
noncomputable def TP (X : Cx) (pins : List (Addr × Obj)) (σ : St) (Q : Bool → Hp → Prop) (b : Bool) (s' : Shared) : Prop := ∃ H', Inv X pins σ H' s' ∧ Q b H'
noncomputable def AP (X : Cx) (pins : List (Addr × Obj)) (σ : St) (Q : List V → Hp → Prop) (us : List Value) (s' : Shared) : Prop := ∃ vs H', Inv X pins σ H' s' ∧ aQ vs us ∧ Q vs H'
noncomputable def SP (X : Cx) (pins : List (Addr × Obj)) (D : qQ) (f : Flow) (s' : Shared) : Prop :=
 match f with
 | .next => ∃ σ' H', Inv X pins σ' H' s' ∧ D.nx σ' H'
 | .brk => ∃ σ' H', Inv X pins σ' H' s' ∧ D.bk σ' H'
 | .cont => ∃ σ' H', Inv X pins σ' H' s' ∧ D.ct σ' H'
 | .ret u => ∃ v σ' H', Inv X pins σ' H' s' ∧ bq v u ∧ D.rt v H'
noncomputable def PE (X : Cx) (e : Expr) (t : TE) : Prop :=
 ∀ (pins : List (Addr × Obj)) (s : Shared) (σ : St) (H : Hp) (Q : VK), Inv X pins σ H s → t σ H Q → wpAny (model X.prog X.w) X.A (eval e X.env) (EP X pins σ Q) X.xe s
noncomputable def PT (X : Cx) (e : Expr) (t : TT) : Prop :=
 ∀ (pins : List (Addr × Obj)) (s : Shared) (σ : St) (H : Hp) (Q : Bool → Hp → Prop), Inv X pins σ H s → t σ H Q → wpAny (model X.prog X.w) X.A (isTrue e X.env (eval e X.env)) (TP X pins σ Q) X.xe s
noncomputable def PW (X : Cx) (e : Expr) (t : TT) : Prop :=
 ∀ (whole : Sem Value) (pins : List (Addr × Obj)) (s : Shared) (σ : St) (H : Hp) (Q : Bool → Hp → Prop), Inv X pins σ H s → t σ H Q → wpAny (model X.prog X.w) X.A (isTrue e X.env whole) (TP X pins σ Q) X.xe s
theorem PW.pt {X : Cx} {e : Expr} {t : TT} (h : PW X e t) : PT X e t := h _
noncomputable def PA (X : Cx) (es : List Expr) (t : TA) : Prop :=
 ∀ (pos : Pos) (pins : List (Addr × Obj)) (s : Shared) (σ : St) (H : Hp) (Q : List V → Hp → Prop), Inv X pins σ H s → t σ H Q → wpAny (model X.prog X.w) X.A (spliced (backTo pos (starEach es X.env))) (AP X pins σ Q) X.xe s
noncomputable def PS (X : Cx) (st : Stmt) (t : TS) : Prop :=
 ∀ (pins : List (Addr × Obj)) (s : Shared) (σ : St) (H : Hp) (D : qQ), Inv X pins σ H s → t D σ H → wpAny (model X.prog X.w) X.A (exec st X.env) (SP X pins D) X.xe s
noncomputable def PSs (X : Cx) (st : List Stmt) (t : TS) : Prop :=
 ∀ (pins : List (Addr × Obj)) (s : Shared) (σ : St) (H : Hp) (D : qQ), Inv X pins σ H s → t D σ H → wpAny (model X.prog X.w) X.A (execs st X.env) (SP X pins D) X.xe s
theorem thn {α : Type} {t : Sem α} {Q Q' : α → Shared → Prop} {M : Model} {A : Around} {E : Value → Shared → Prop} {s : Shared} (h : wpAny M A t Q E s) (hQ : ∀ a s, Q a s → Q' a s) : wpAny M A t Q' E s := wpAny_mono h hQ fun _ _ x => x
section
variable {X : Cx}
noncomputable def xg (i : Nat) : TE := fun σ H Q => ∃ v, σ[i]? = some (some v) ∧ Q v H
noncomputable def tC (v : V) : TE := fun _ H Q => Q v H
theorem vP {i : Nat} {x : Str} {pos : Pos} (hN : X.N[i]? = some x) (hv : Vis X.env.scope x) (hd : (x == ("__debug__" : Str)) = false := by decide) (hcd : (x == ("__classdict__" : Str)) = false := by decide) : PE X (.Name x pos) (xg i) := by
 intro pins s σ H Q I h
 obtain ⟨v, e, h⟩ := h
 obtain ⟨m, hn, hl⟩ := I.loc
 obtain ⟨u, r, l⟩ := hl i x v hN e hv
 have fin : EP X pins σ Q u s := ⟨v, H, I, r, h⟩
 rcases l with ⟨hk, hm⟩ | ⟨hk, c, hc, hcell⟩
 ·exact wpAny_Name (wpAny_loadName_local I.ok.kind hk hn hm fin) hd
 ·rcases hk with hk | hk
  ·exact wpAny_Name (wpAny_loadName_cell I.ok.kind hk hc hcell fin) hd
  ·exact wpAny_Name (wpAny_loadName_free I.ok.kind hk hc hcell fin hcd) hd
theorem vU {i j pos} : PE X (.Constant (.int i) j pos) (tC (.int i)) := fun _ _ _ H _ I h => wpAny_Constant_int ⟨.int i, H, I.tok _, ⟨_, rfl⟩, h⟩
theorem yV {b j pos} : PE X (.Constant (.bool b) j pos) (tC (.bl b)) := fun _ _ _ H _ I h => Constant_bool ⟨.bl b, H, I, rfl, h⟩
noncomputable def Gl (X : Cx) (x : Str) : Prop := X.env.kindOf x = some .globalImplicit
theorem ni {E : Value → Shared → Prop} {pins : List (Addr × Obj)} {s : Shared} {σ : St} {H : Hp} {x : Str} {u : Value} {pos : Pos} {Q : Value → Shared → Prop} (I : Inv X pins σ H s) (hg : Gl X x) (hm : X.mg x = some u) (h : Q u s)
  (hd : (x == ("__debug__" : Str)) = false := by decide) : wpAny (model X.prog X.w) X.A (eval (.Name x pos) X.env) Q E s :=
 Calls.Name_function_global I.ok.kind hg (Calls.loadGlobal_global (by rw [I.ok.glob]; exact I.mod.glob.keeps I.bk) hm h) hd
theorem fE {E : Value → Shared → Prop} {pins : List (Addr × Obj)} {s : Shared} {σ : St} {H : Hp} {x : Str} {u : Value} {pos : Pos} {Q : Value → Shared → Prop} (I : Inv X pins σ H s) (hg : Gl X x) (hm : X.mg x = none) (hv : bootBuiltins x = some u) (h : Q u s)
  (hn : x ≠ "__name__" := by decide) (hd : (x == ("__debug__" : Str)) = false := by decide) : wpAny (model X.prog X.w) X.A (eval (.Name x pos) X.env) Q E s := by
 obtain ⟨mb, h1, h2⟩ := I.mod.blt
 exact Calls.Name_function_global I.ok.kind hg (Calls.loadGlobal_builtin (by rw [I.ok.glob]; exact I.mod.glob.keeps I.bk) hm (by rw [I.ok.blt]; exact h1.keeps I.bk) ((h2 x hn).trans hv) h) hd
theorem sQ {x : Str} {v : V} {u : Value} {pos : Pos} (hg : Gl X x) (hm : X.mg x = some u) (r : bq v u) (hd : (x == ("__debug__" : Str)) = false := by decide) : PE X (.Name x pos) (tC v) :=
 fun _ _ _ H _ I h => ni I hg hm ⟨v, H, I, r, h⟩ hd
theorem sU {x : Str} {v : V} {u : Value} {pos : Pos} (hg : Gl X x) (hm : X.mg x = none) (hv : bootBuiltins x = some u) (r : bq v u) (hn : x ≠ "__name__" := by decide) (hd : (x == ("__debug__" : Str)) = false := by decide) : PE X (.Name x pos) (tC v) :=
 fun _ _ _ H _ I h => fE I hg hm hv ⟨v, H, I, r, h⟩ hn hd
variable {a b : Expr} {ta tb : TE} {pos : Pos}
noncomputable def PC (X : Cx) (op : CmpOp) (a b : Expr) (t : TE) : Prop :=
 ∀ (pins : List (Addr × Obj)) (s : Shared) (σ : St) (H : Hp) (Q : VK), Inv X pins σ H s → t σ H Q →
  wpAny (model X.prog X.w) X.A (eval a X.env) (fun v s₁ => wpAny (model X.prog X.w) X.A (eval b X.env) (fun u s₂ => wpAny (model X.prog X.w) X.A (compareOp op v u) (EP X pins σ Q) X.xe s₂) X.xe s₁) X.xe s
noncomputable def tB (t : TE) : TT := fun σ H Q => t σ H fun x H1 => ∃ c, x = .bl c ∧ Q c H1
theorem vH {op : CmpOp} {t : TE} (h : PC X op a b t) (h1 : behindInMarks op b = false := by first | exact nobehind _ (by decide) (by decide) | rfl) : PT X (.Compare a [op] [b] pos) (tB t) := by
 intro pins s σ H Q I hw
 refine wpAny_isTrue_Compare1 (thn (h pins s σ H _ I hw) fun v s1 h1 => thn h1 fun u s2 h2 => thn h2 fun c s3 hz => ?_) h1
 obtain ⟨x, H1, I1, r1, q1⟩ := hz
 obtain ⟨d, rfl, q⟩ := q1
 cases r1
 exact wpAny_truthy_bool ⟨H1, I1, q⟩
theorem vF {e : Expr} {t : TE} (h : PE X e t) (he : ∀ whole, isTrue e X.env whole = (do let v ← whole; standAt e.pos; holding [v] (truthy v)) := by intro _; rfl) : PT X e (tB t) := by
 intro pins s σ H Q I hw
 refine isTrue_plain (thn (h pins s σ H _ I hw) fun v s1 ⟨x, H1, I1, r1, q1⟩ => ?_) (he _)
 obtain ⟨d, rfl, q⟩ := q1
 cases r1
 exact wpAny_truthy_bool ⟨H1, I1, q⟩
variable {tA tB' : TT} {rest : List Expr}
noncomputable def zN (t u : TT) : TT := fun σ H Q => t σ H fun c H1 => if c = true then u σ H1 Q else Q false H1
noncomputable def tOr (t u : TT) : TT := fun σ H Q => t σ H fun c H1 => if c = true then Q true H1 else u σ H1 Q
noncomputable def zJ (t : TT) : TT := fun σ H Q => t σ H fun c H1 => Q (!c) H1
theorem sE (ha : PT X a tA) : PW X (.BoolOp .And [a] pos) tA := by
 intro wh pins s σ H Q I h
 refine isTrue_and (thn (ha pins s σ H Q I h) fun c s1 e => ?_)
 cases c with
 | true => exact isTrue_and_nil e
 | false => exact e
theorem vD (ha : PT X a tA) : PW X (.BoolOp .Or [a] pos) tA := by
 intro wh pins s σ H Q I h
 refine isTrue_or (thn (ha pins s σ H Q I h) fun c s1 e => ?_)
 cases c with
 | false => exact isTrue_or_nil e
 | true => exact e
theorem vE (ha : PT X a tA) (hb : PW X (.BoolOp .And (b :: rest) pos) tB') : PW X (.BoolOp .And (a :: b :: rest) pos) (zN tA tB') := by
 intro wh pins s σ H Q I h
 refine isTrue_and (thn (ha pins s σ H _ I h) fun c s1 ⟨H1, I1, q1⟩ => ?_)
 cases c with
 | true => exact hb wh pins s1 σ H1 Q I1 q1
 | false => exact ⟨H1, I1, q1⟩
theorem yP (ha : PT X a tA) (hb : PW X (.BoolOp .Or (b :: rest) pos) tB') : PW X (.BoolOp .Or (a :: b :: rest) pos) (tOr tA tB') := by
 intro wh pins s σ H Q I h
 refine isTrue_or (thn (ha pins s σ H _ I h) fun c s1 ⟨H1, I1, q1⟩ => ?_)
 cases c with
 | true => exact ⟨H1, I1, q1⟩
 | false => exact hb wh pins s1 σ H1 Q I1 q1
theorem vG (ha : PT X a tA) : PT X (.UnaryOp .Not a pos) (zJ tA) := by
 intro pins s σ H Q I h
 exact isTrue_not (ha pins s σ H (fun c H1 => Q (!c) H1) I h)
noncomputable def vj (ta tb : TE) : TE := fun σ H Q => ta σ H fun x H1 => ∃ c, x = .bl c ∧ if c = true then tb σ H1 Q else Q (.bl false) H1
noncomputable def vb (ta : TE) : TE := fun σ H Q => ta σ H fun x H1 => ∃ c, x = .bl c ∧ Q (.bl (!c)) H1
theorem vR {op} {t : TE} (h : PE X a t) : PE X (.BoolOp op [a] pos) t := fun pins s σ H Q I hw => BoolOp_one (h pins s σ H Q I hw)
theorem vV (ha : PE X a ta) (hb : PE X (.BoolOp .And (b :: rest) pos) tb) : PE X (.BoolOp .And (a :: b :: rest) pos) (vj ta tb) := by
 intro pins s σ H Q I h
 refine BoolOp_and (thn (ha pins s σ H _ I h) fun v s1 hz => ?_)
 obtain ⟨x, H1, I1, r1, q1⟩ := hz
 obtain ⟨c, rfl, q1⟩ := q1
 cases r1
 refine wpAny_truthy_bool ?_
 cases c with
 | true => exact hb pins s1 σ H1 Q I1 q1
 | false => exact ⟨.bl false, H1, I1, rfl, q1⟩
theorem vS (ha : PE X a ta) : PE X (.UnaryOp .Not a pos) (vb ta) := by
 intro pins s σ H Q I h
 refine UnaryOp_ (thn (ha pins s σ H _ I h) fun v s1 hz => ?_)
 obtain ⟨x, H1, I1, r1, q1⟩ := hz
 obtain ⟨c, rfl, q1⟩ := q1
 cases r1
 exact not_of (wpAny_truthy_bool ⟨.bl (!c), H1, I1, rfl, q1⟩)
end
noncomputable def SqL (K : PySem.W.Frag) (H : Hp) (a : Addr) (xs : List V) : Prop :=
 Rd H a (.lst xs) ∨
  ∃ (o : Obj) (its : Array Value) (n : Nat), K.lookup a = some o ∧ o.cls = .type "list" ∧ o.dict = none ∧ o.data = .seq its n ∧ its.size ≤ sizeLine ∧ aQ xs its.toList
noncomputable def SqT (K : PySem.W.Frag) (H : Hp) (a : Addr) (xs : List V) : Prop :=
 Rd H a (.tup xs) ∨
  ∃ (o : Obj) (its : Array Value) (n : Nat), K.lookup a = some o ∧ o.cls = .type "tuple" ∧ o.data = .seq its n ∧ its.size ≤ sizeLine ∧ aQ xs its.toList
noncomputable def AE : Value → Option V
 | .none => some .non
 | .bool b => some (.bl b)
 | .int i _ => some (.int i)
 | .str x _ => some (.str x)
 | .bytes b _ => some (.byt b)
 | .float b _ => some (.flt b)
 | .ref a => some (.ref a)
 | .type n => some (.ty n)
 | _ => none
theorem bq.abs {x : V} {u : Value} (r : bq x u) : AE u = some x := by
 cases x with
 | non => cases r; rfl
 | bl _ => cases r; rfl
 | int _ => obtain ⟨t, rfl⟩ := r; rfl
 | str _ => obtain ⟨t, rfl⟩ := r; rfl
 | byt _ => obtain ⟨t, rfl⟩ := r; rfl
 | flt _ => obtain ⟨t, rfl⟩ := r; rfl
 | ref _ => cases r; rfl
 | ty _ => cases r; rfl
theorem bq.inj {x y : V} {u : Value} (r : bq x u) (q : bq y u) : x = y := Option.some.inj (r.abs.symm.trans q.abs)
theorem aQ.inj : ∀ {xs ys : List V} {us : List Value}, aQ xs us → aQ ys us → xs = ys
 | _, _, _, .nil, .nil => rfl
 | _, _, _, .cons r t, .cons r' t' => by rw [r.inj r', aQ.inj t t']
section
variable {X : Cx} {pins : List (Addr × Obj)} {σ : St} {H : Hp} {s : Shared} {a : Addr} {xs ys : List V}
theorem SqL.of {K : PySem.W.Frag} (h : H a = some (.lst xs)) : SqL K H a xs := .inl (.inl h)
theorem SqT.of {K : PySem.W.Frag} (h : H a = some (.tup xs)) : SqT K H a xs := .inl (.inl h)
theorem Inv.list (I : Inv X pins σ H s) (h : SqL X.K H a xs) : ∃ its : List Value, aQ xs its ∧ PlainL s.heap a its.toArray ∧ xs.length ≤ sizeLine := by
 rcases h with h | ⟨o, its, n, hk, hc, hd, hs, hz, r⟩
 ·obtain ⟨z, its, n, r, e⟩ := h.ok I.hok
  exact ⟨its, r, ⟨_, n, e, rfl, rfl, rfl⟩, z⟩
 ·refine ⟨its.toList, r, ⟨o, n, I.kIn a o hk, hc, hd, by simpa using hs⟩, ?_⟩
  have e := r.length
  simp only [Array.length_toList] at e
  omega
theorem Inv.tuple (I : Inv X pins σ H s) (h : SqT X.K H a xs) : ∃ its : List Value, aQ xs its ∧ IsTup s.heap a its.toArray ∧ xs.length ≤ sizeLine := by
 rcases h with h | ⟨o, its, n, hk, hc, hs, hz, r⟩
 ·obtain ⟨z, its, r, p⟩ := h.ok I.hok
  exact ⟨its, r, p, z⟩
 ·refine ⟨its.toList, r, ⟨o, I.kIn a o hk, hc, n, by simpa using hs⟩, ?_⟩
  have e := r.length
  simp only [Array.length_toList] at e
  omega
theorem Inv.list_inj (I : Inv X pins σ H s) (h : SqL X.K H a xs) (h' : SqL X.K H a ys) : xs = ys := by
 obtain ⟨its, r, ⟨o, n, e, _, _, d⟩, _⟩ := I.list h
 obtain ⟨its', r', ⟨o', n', e', _, _, d'⟩, _⟩ := I.list h'
 rw [e] at e'; cases e'
 rw [d] at d'
 injection d' with d1 _
 have : its = its' := by simpa using congrArg Array.toList d1
 subst this
 exact r.inj r'
theorem Inv.tuple_inj (I : Inv X pins σ H s) (h : SqT X.K H a xs) (h' : SqT X.K H a ys) : xs = ys := by
 obtain ⟨its, r, ⟨o, e, _, n, d⟩, _⟩ := I.tuple h
 obtain ⟨its', r', ⟨o', e', _, n', d'⟩, _⟩ := I.tuple h'
 rw [e] at e'; cases e'
 rw [d] at d'
 injection d' with d1 _
 have : its = its' := by simpa using congrArg Array.toList d1
 subst this
 exact r.inj r'
end
noncomputable abbrev Cx.wish (X : Cx) (E : Value → Shared → Prop) : Cx := { X with xe := E }
noncomputable abbrev Cx.nox (X : Cx) : Cx := X.wish fun _ _ => False
theorem Cx.Ok.wish {X : Cx} (ok : X.Ok) (E : Value → Shared → Prop) : (X.wish E).Ok :=
 ⟨ok.mod, ok.kind, ok.glob, ok.blt, ok.above, ok.inj, ok.has, ok.cab, ok.hd, ok.frames, ok.stk, ok.exf, ok.bs, ok.bsz, ok.noex, ok.exfs, ok.funs, ok.frf⟩
theorem Cx.Ok.unwish {X : Cx} {E : Value → Shared → Prop} (ok : (X.wish E).Ok) : X.Ok :=
 ⟨ok.mod, ok.kind, ok.glob, ok.blt, ok.above, ok.inj, ok.has, ok.cab, ok.hd, ok.frames, ok.stk, ok.exf, ok.bs, ok.bsz, ok.noex, ok.exfs, ok.funs, ok.frf⟩
section
variable {X : Cx} {pins : List (Addr × Obj)} {σ : St} {H : Hp} {s : Shared} {E : Value → Shared → Prop}
theorem Inv.wish (I : Inv X pins σ H s) (E : Value → Shared → Prop) : Inv (X.wish E) pins σ H s := ⟨I.ok.wish E, I.os, I.bare, I.base, I.loc, I.cell, I.free, I.freeC, I.pin, I.hok, I.len⟩
theorem Inv.unwish (I : Inv (X.wish E) pins σ H s) : Inv X pins σ H s := ⟨I.ok.unwish, I.os, I.bare, I.base, I.loc, I.cell, I.free, I.freeC, I.pin, I.hok, I.len⟩
theorem SP.unwish {D : qQ} {f : Flow} {s' : Shared} (h : SP (X.wish E) pins D f s') : SP X pins D f s' := by
 cases f with
 | next => obtain ⟨σ', H', I, q⟩ := h; exact ⟨σ', H', I.unwish, q⟩
 | brk => obtain ⟨σ', H', I, q⟩ := h; exact ⟨σ', H', I.unwish, q⟩
 | cont => obtain ⟨σ', H', I, q⟩ := h; exact ⟨σ', H', I.unwish, q⟩
 | ret u => obtain ⟨v, σ', H', I, r, q⟩ := h; exact ⟨v, σ', H', I.unwish, r, q⟩
theorem PSs.nox {st : List Stmt} {t : TS} (h : PSs X.nox st t) : PSs X st t := fun pins s σ H D I hw =>
 wpAny_mono (h pins s σ H D (I.wish _) hw) (fun _ _ q => q.unwish) fun _ _ z => False.elim z
end
section
variable {X : Cx} {st : Stmt} {rest : List Stmt} {t u : TS} {e : Expr} {te : TE} {pos : Pos}
noncomputable def vc : TS := fun D σ H => D.nx σ H
noncomputable def zH (t u : TS) : TS := fun D σ H => t { D with nx := u D } σ H
theorem sH : PSs X [] vc := fun _ _ σ H _ I h => wpAny_execs_nil ⟨σ, H, I, h⟩
theorem ph (h1 : PS X st t) (h2 : PSs X rest u) : PSs X (st :: rest) (zH t u) := by
 intro pins s σ H D I h
 refine wpAny_execs_cons (thn (h1 pins s σ H { D with nx := u D } I h) fun f s1 q => ?_)
 cases f with
 | next =>
  obtain ⟨σ', H', I', q⟩ := q
  exact h2 pins s1 σ' H' D I' q
 | ret v => exact q
 | brk => exact q
 | cont => exact q
theorem sG (h1 : PS X st t) : PSs X [st] t := by
 intro pins s σ H D I h
 refine wpAny_execs_cons (thn (h1 pins s σ H D I h) fun f s1 q => ?_)
 cases f with
 | next => exact wpAny_execs_nil q
 | ret v => exact q
 | brk => exact q
 | cont => exact q
theorem Inv.quiet {pins : List (Addr × Obj)} {σ : St} {H : Hp} {s : Shared} (I : Inv X pins σ H s) : interactive X.env = false := by simp [interactive, I.ok.kind]
noncomputable def vd (te : TE) : TS := fun D σ H => te σ H fun _ H1 => D.nx σ H1
theorem sI (he : PE X e te) (hs : swapsWith e none pos.line X.env = pure false := by rfl) : PS X (.Expr e pos) (vd te) := by
 intro pins s σ H D I h
 exact wpAny_Expr_any (thn (he pins s σ H _ I h) fun v s1 ⟨x, H1, I1, r1, q1⟩ => ⟨σ, H1, I1, q1⟩) I.quiet hs
noncomputable def zI (te : TE) : TS := fun D σ H => te σ H D.rt
theorem vJ (he : PE X e te) : PS X (.Return (some e) pos) (zI te) := by
 intro pins s σ H D I h
 exact wpAny_Return_some (thn (he pins s σ H _ I h) fun v s1 ⟨x, H1, I1, r1, q1⟩ => ⟨x, σ, H1, I1, r1, q1⟩)
noncomputable def zM (c : TT) (t u : TS) : TS := fun D σ H => c σ H fun b H1 => if b = true then t D σ H1 else u D σ H1
theorem yQ {c : Expr} {a b : List Stmt} {tc : TT} (hc : PT X c tc) (ha : PSs X a t) (hb : PSs X b u) : PS X (.If c a b pos) (zM tc t u) := by
 intro pins s σ H D I h
 refine wpAny_If (thn (hc pins s σ H _ I h) fun d s1 ⟨H1, I1, q1⟩ => ?_)
 cases d with
 | true => exact ha pins s1 σ H1 D I1 q1
 | false => exact hb pins s1 σ H1 D I1 q1
end
noncomputable abbrev TG := V → St → Hp → (St → Hp → Prop) → Prop
noncomputable abbrev TGs := List V → St → Hp → (St → Hp → Prop) → Prop
noncomputable def PG (X : Cx) (target : Expr) (t : TG) : Prop :=
 ∀ (pins : List (Addr × Obj)) (s : Shared) (σ : St) (H : Hp) (v : V) (u : Value) (Q : St → Hp → Prop), Inv X pins σ H s → bq v u → t v σ H Q →
  wpAny (model X.prog X.w) X.A (assign target X.env u) (fun _ s' => ∃ σ' H', Inv X pins σ' H' s' ∧ Q σ' H') X.xe s
noncomputable def PGs (X : Cx) (ts : List Expr) (t : TGs) : Prop :=
 ∀ (pins : List (Addr × Obj)) (s : Shared) (σ : St) (H : Hp) (vs : List V) (us : List Value) (Q : St → Hp → Prop), Inv X pins σ H s → aQ vs us → t vs σ H Q →
  wpAny (model X.prog X.w) X.A (assignInOrder ((assignEach ts X.env).map (·.2)) us) (fun _ s' => ∃ σ' H', Inv X pins σ' H' s' ∧ Q σ' H') X.xe s
noncomputable abbrev xB := V → V → V → Hp → (Hp → Prop) → Prop
noncomputable def zE (X : Cx) (t : xB) : Prop :=
 ∀ (pins : List (Addr × Obj)) (s : Shared) (σ : St) (H : Hp) (o i v : V) (ov iv u : Value) (Q : Hp → Prop), Inv X pins σ H s → bq o ov → bq i iv → bq v u → t o i v H Q →
  wpAny (model X.prog X.w) X.A (setItem ov iv u) (fun _ s' => ∃ H', Inv X pins σ H' s' ∧ Q H') X.xe s
section
variable {X : Cx} {pos : Pos}
noncomputable def lz (i : Nat) : TG := fun v σ H Q => Q (σ.set i (some v)) H
theorem sP {i : Nat} {x : Str} (hN : X.N.Nodup) (hi : X.N[i]? = some x) (hx : Loc X.env.scope x) (hf : X.fn x = true ∨ X.env.scope.names.lookup x = some .local := by first | exact .inl rfl | exact .inr rfl | assumption) : PG X (.Name x pos) (lz i) := by
 intro pins s σ H v u Q I r h
 exact wpAny_assign_Name (jR I hN hi hx r (fun s' I' => ⟨_, H, I', h⟩) hf)
noncomputable def z7 : TGs := fun vs σ H Q => vs = [] ∧ Q σ H
noncomputable def wO (t : TG) (u : TGs) : TGs := fun vs σ H Q => ∃ v r, vs = v :: r ∧ t v σ H fun σ' H' => u r σ' H' Q
theorem sO : PGs X [] z7 := by
 intro pins s σ H vs us Q I r h
 obtain ⟨e, h⟩ := h
 subst e
 cases r
 exact assignInOrder_nil ⟨σ, H, I, h⟩
theorem px {e : Expr} {es : List Expr} {t : TG} {u : TGs} (h1 : PG X e t) (h2 : PGs X es u)
  (hs : (assignEach (e :: es) X.env).map (·.2) = assign e X.env :: (assignEach es X.env).map (·.2) := by rfl) : PGs X (e :: es) (wO t u) := by
 intro pins s σ H vs us Q I r h
 obtain ⟨v, vr, e1, h⟩ := h
 subst e1
 cases r with
 | cons r rr =>
  rw [hs]
  refine assignInOrder_cons (thn (h1 pins s σ H _ _ _ I r h) fun _ s1 hz => ?_)
  obtain ⟨σ1, H1, I1, q1⟩ := hz
  exact h2 pins s1 σ1 H1 _ _ Q I1 rr q1
noncomputable def z5 (K : PySem.W.Frag) (n : Nat) (t : TGs) : TG := fun v σ H Q => ∃ a xs, v = .ref a ∧ SqT K H a xs ∧ xs.length = n ∧ t xs σ H Q
theorem vN {es : List Expr} {k : Nat} {t : TGs} {n : Nat} (hc : X.calm = true) (h : PGs X es t)
  (hn : (assignEach es X.env).length = n := by rfl) (hst : (assignEach es X.env).findIdx? (·.1) = none := by rfl) : PG X (.Tuple es k pos) (z5 X.K n t) := by
 intro pins s σ H v u Q I r hw
 obtain ⟨a, xs, e1, hq, hl, hw⟩ := hw
 subst e1
 cases r
 obtain ⟨its, rv, ht, hz⟩ := I.tuple hq
 refine assign_Tuple_tuple (I.ok.hd hc) ht (by simp [hn, ← hl, rv.length]) hst fun h' hx => ?_
 have I1 : Inv X pins σ H { s with heap := h' } := I.kept (t' := s.toks) fun b o e => hx b o (Nat.ne_of_lt (Heap.lt_size e)) e
 exact h pins _ σ H xs _ Q I1 (by simpa using rv) hw
noncomputable def z6 (to ti : TE) (t : xB) : TG := fun v σ H Q => to σ H fun o H1 => ti σ H1 fun i H2 => t o i v H2 fun H3 => Q σ H3
theorem vO {o i : Expr} {to ti : TE} {t : xB} (ho : PE X o to) (hi : PE X i ti) (hs : zE X t)
  (ha : ∀ v, assign (.Subscript o i pos) X.env v = (do
   let ov ← holding [v] (eval o X.env)
   let iv ← holding [v, ov] (eval i X.env)
   standAt pos
   holding [v, ov, iv] (setItem ov iv v)
   release [v, ov, iv] []) := by intro _; rfl) : PG X (.Subscript o i pos) (z6 to ti t) := by
 intro pins s σ H v u Q I r h
 rw [ha]
 refine wpAny_bind (wpAny_holding (thn (ho pins s σ H _ I h) fun ov s1 hz => ?_))
 obtain ⟨x, H1, I1, r1, q1⟩ := hz
 refine wpAny_bind (wpAny_holding (thn (hi pins s1 σ H1 _ I1 q1) fun iv s2 hz => ?_))
 obtain ⟨y, H2, I2, r2, q2⟩ := hz
 refine wpAny_bind (wpAny_standAt (wpAny_bind (wpAny_holding (thn (hs pins s2 σ H2 x y v ov iv u _ I2 r1 r2 r q2) fun _ s3 ⟨H3, I3, q3⟩ => ?_))))
 exact wpAny_release ⟨σ, H3, I3, q3⟩
noncomputable def xh (te : TE) (g : TG) : TS := fun D σ H => te σ H fun x H1 => g x σ H1 D.nx
theorem vL {tg e : Expr} {te : TE} {g : TG} (he : PE X e te) (hg : PG X tg g) (hs : swapsWithSole [tg] e pos.line X.env = pure false := by rfl) (hw : swappedStores [tg] e X.env = pure none := by rfl)
  (h1 : (assignEach [tg] X.env).map (·.2) = [assign tg X.env] := by rfl) : PS X (.Assign [tg] e pos) (xh te g) := by
 intro pins s σ H D I h
 refine wpAny_Assign_stores (thn (he pins s σ H _ I h) fun v s1 hz => ?_) hs hw
 obtain ⟨x, H1, I1, r1, q1⟩ := hz
 rw [h1]
 exact thn (hg pins s1 σ H1 x v _ I1 r1 q1) fun _ s2 q => q
theorem vI {i : Nat} {x : Str} {e : Expr} {te : TE} {pos' : Pos} (hN : X.N.Nodup) (hi : X.N[i]? = some x) (hx : Loc X.env.scope x) (he : PE X e te) (hs : swapsWith e (some (.Name x pos')) pos.line X.env = pure false := by rfl) (hf : X.fn x = true ∨ X.env.scope.names.lookup x = some .local := by first | exact .inl rfl | exact .inr rfl | assumption) :
  PS X (.Assign [.Name x pos'] e pos) (xh te (lz i)) := by
 intro pins s σ H D I h
 refine wpAny_Assign_Name (thn (he pins s σ H _ I h) fun v s1 hz => ?_) hs
 obtain ⟨y, H1, I1, r1, q1⟩ := hz
 exact jR I1 hN hi hx r1 (fun s2 I2 => ⟨_, H1, I2, q1⟩) hf
end
section
variable {X : Cx} {pos : Pos}
noncomputable def mr (c : TT) (tb : TS) : TS := fun D σ H => ∃ W : Nat → St → Hp → Prop, (∃ m, W m σ H) ∧ ∀ m σ H, W m σ H →
 c σ H fun b H1 => if b = true then ∃ N : St → Hp → Prop, (∀ σ' H', N σ' H' → ∃ m', m' < m ∧ W m' σ' H') ∧ tb { D with nx := N, ct := N, bk := D.nx } σ H1 else D.nx σ H1
theorem pj {c : Expr} {body : List Stmt} {tc : TT} {tb : TS} (hp : PassesOwn (model X.prog X.w) X.A X.env X.xe) (hc : PT X c tc) (hb : PSs X body tb) : PS X (.While c body [] pos) (mr tc tb) := by
 intro pins s σ H D I h
 obtain ⟨W, ⟨m0, w0⟩, turn⟩ := h
 refine wpAny_While (codeAny_whileLoop (fun n s' => ∃ σ' H', Inv X pins σ' H' s' ∧ W n σ' H') ?_ m0 ⟨σ, H, I, w0⟩)
 rintro n s1 ⟨σ1, H1, I1, w1⟩
 refine wpAny_passesOwn hp (thn (hc pins s1 σ1 H1 _ I1 (turn n σ1 H1 w1)) fun b s2 ⟨H2, I2, q2⟩ => ?_)
 cases b with
 | true =>
  obtain ⟨N, hN, q2⟩ := q2
  rw [if_pos rfl]
  refine wpAny_passesOwn hp (thn (hb pins s2 σ1 H2 _ I2 q2) fun f s3 q3 => ?_)
  cases f with
  | next =>
   obtain ⟨σ3, H3, I3, n3⟩ := q3
   obtain ⟨m', hm, w3⟩ := hN σ3 H3 n3
   exact ⟨m', hm, σ3, H3, I3, w3⟩
  | cont =>
   obtain ⟨σ3, H3, I3, n3⟩ := q3
   obtain ⟨m', hm, w3⟩ := hN σ3 H3 n3
   exact ⟨m', hm, σ3, H3, I3, w3⟩
  | brk => exact q3
  | ret v => exact q3
 | false =>
  rw [if_neg Bool.false_ne_true]
  exact wpAny_execs_nil ⟨σ1, H2, I2, q2⟩
end
structure It where
 go : Nat → Hp → Prop
 yld : Nat → Hp → V → Hp → Prop
 stop : Nat → Hp → Prop
noncomputable def oA (X : Cx) (pins : List (Addr × Obj)) (H : Hp) (b : Addr) : Prop :=
 H b = none ∧ b ≠ X.env.locals ∧ b ∉ X.fs ∧ (b ∈ X.ex ∨ X.s₀.heap.objs.size ≤ b) ∧ (∀ x c, X.env.cells.lookup x = some c → c ≠ b) ∧ ∀ p ∈ X.pn ++ pins, p.1 ≠ b
theorem Inv.fpOk {X : Cx} {pins : List (Addr × Obj)} {σ : St} {H H' : Hp} {s : Shared} {b : Addr} (I : Inv X pins σ H s) (hb : s.heap.objs.size ≤ b) (hn : H' b = none) : oA X pins H' b := by
 refine ⟨hn, Nat.ne_of_gt (Nat.lt_of_lt_of_le I.lt hb), I.nofs hb, .inr (Nat.le_trans I.sz hb), fun x c e z => ?_, fun p hp z => ?_⟩
 ·obtain ⟨v, q⟩ := I.cell x c e
  exact absurd (Nat.lt_of_lt_of_le q.lt (by rw [z]; exact hb)) (Nat.lt_irrefl _)
 ·exact absurd (Nat.lt_of_lt_of_le (Heap.lt_size (I.pin p hp).1) (by rw [z]; exact hb)) (Nat.lt_irrefl _)
structure xa (P : Program) (w : World) (K : PySem.W.Frag) (tg : Expr) (J : It) (fp : List Addr) (it : Addr) (tn : Nat → Heap → Prop) : Prop where
 mem : it ∈ fp
 obj : ∀ i h, tn i h → ∀ b ∈ fp, ∃ o, h.get? b = some o ∧ ∀ v, o.data ≠ .cell v
 keep : ∀ i h h', tn i h → (∀ b ∈ fp, ∀ o, h.get? b = some o → h'.get? b = some o) → tn i h'
 item : ∀ (X : Cx), X.prog = P → X.w = w → X.K = K → X.calm = true → ∀ (i : Nat) (pins : List (Addr × Obj)) (s : Shared) (σ : St) (H : Hp) (E : Value → Shared → Prop), Inv X pins σ H s → (∀ b ∈ fp, oA X pins H b) → tn i s.heap → J.go i H →
  wpAny (model P w) X.A (pyNext (.ref it)) (fun r s1 => ∃ u, r = some u ∧
   wpAny (model P w) X.A (letOwnedTupleGo tg (.ref it) u) (fun _ s2 => ∃ x H', Inv X pins σ H' s2 ∧ bq x u ∧ J.yld i H x H' ∧ tn (i + 1) s2.heap ∧ ∀ b ∈ fp, H' b = none) E s1) E s
 done : ∀ (X : Cx), X.prog = P → X.w = w → X.K = K → X.calm = true → ∀ (i : Nat) (pins : List (Addr × Obj)) (s : Shared) (σ : St) (H : Hp) (E : Value → Shared → Prop), Inv X pins σ H s → (∀ b ∈ fp, oA X pins H b) → tn i s.heap → J.stop i H →
  wpAny (model P w) X.A (pyNext (.ref it)) (fun r s1 => r = none ∧ Inv X pins σ H s1) E s
 self : ∀ (A : Around) (i : Nat) (s : Shared) (Q : Value → Shared → Prop) (E : Value → Shared → Prop), tn i s.heap → Q (.ref it) s → wpAny (model P w) A (pyIter (.ref it)) Q E s
noncomputable abbrev TI := St → Hp → (It → Hp → Prop) → Prop
noncomputable def PIE (X : Cx) (pins : List (Addr × Obj)) (σ : St) (tg : Expr) (R : It → Hp → Prop) (itv : Value) (s2 : Shared) : Prop :=
 ∃ (it : Addr) (fp : List Addr) (tn : Nat → Heap → Prop) (J : It) (H' : Hp), itv = .ref it ∧ Inv X pins σ H' s2 ∧ xa X.prog X.w X.K tg J fp it tn ∧ tn 0 s2.heap ∧ (∀ b ∈ fp, oA X pins H' b) ∧ R J H'
noncomputable def PI (X : Cx) (tg iter : Expr) (wi : TI) : Prop :=
 ∀ (pins : List (Addr × Obj)) (s : Shared) (σ : St) (H : Hp) (R : It → Hp → Prop), Inv X pins σ H s → wi σ H R →
  wpAny (model X.prog X.w) X.A (eval iter X.env) (fun v s1 => wpAny (model X.prog X.w) X.A (pyIter v) (PIE X pins σ tg R) X.xe s1) X.xe s
theorem pY {M : Model} {A : Around} {E : Value → Shared → Prop} {s : Shared} {tg : Expr} {it : Addr} {u : Value} {o : Obj} {n : String} {vs : Array Value} {Q : Unit → Shared → Prop} (ho : s.heap.get? it = some o) (hc : o.cls = .type n) (hd : o.data = .fields vs)
    (hn : ["enumerate", "zip", "dict_itemiterator", "dict_reverseitemiterator", "odict_iterator", "itertools.zip_longest", "itertools.pairwise"].contains n = false) (hQ : Q () s) : wpAny M A (letOwnedTupleGo tg (.ref it) u) Q E s := by
  unfold letOwnedTupleGo
  cases tg <;> first
    | exact wpAny_pure hQ
    | (cases u <;> first
        | exact wpAny_pure hQ
        | (refine wpAny_bind (wpAny_load ho ?_)
           rw [hc, hd]
           show wpAny M A (if (["enumerate", "zip", "dict_itemiterator", "dict_reverseitemiterator", "odict_iterator", "itertools.zip_longest", "itertools.pairwise"].contains n && vs[0]? == some (rawInt _)) = true then _ else _) Q E s
           rw [if_neg (by intro h; rw [hn, Bool.false_and] at h; cases h)]
           exact wpAny_pure hQ))
noncomputable def Itl (K : PySem.W.Frag) (a : Addr) : It :=
 ⟨fun i H => ∃ xs x, SqL K H a xs ∧ xs[i]? = some x, fun i H x H' => H' = H ∧ ∀ xs, SqL K H a xs → xs[i]? = some x, fun i H => ∃ xs, SqL K H a xs ∧ xs.length ≤ i⟩
noncomputable def Itt (K : PySem.W.Frag) (a : Addr) : It :=
 ⟨fun i H => ∃ xs x, SqT K H a xs ∧ xs[i]? = some x, fun i H x H' => H' = H ∧ ∀ xs, SqT K H a xs → xs[i]? = some x, fun i H => ∃ xs, SqT K H a xs ∧ xs.length ≤ i⟩
noncomputable def Itr (lo : Int) (n : Nat) : It := ⟨fun i _ => i < n, fun i H x H' => H' = H ∧ x = .int (lo + i), fun i _ => n ≤ i⟩
theorem mn {P : Program} {w : World} {K : PySem.W.Frag} {tg : Expr} (a it : Addr) : xa P w K tg (Itl K a) [it] it (fun i h => h.IsListIter it a i) where
 mem := by simp
 obj := fun i h st b hb => by
  have e : b = it := by simpa using hb
  subst e
  obtain ⟨o, e, c, d⟩ := st
  exact ⟨o, e, fun v z => by rw [d] at z; cases z⟩
 keep := fun i h h' st k => st.at fun o e => k it (by simp) o e
 item := by
  intro X hP hw hK hc i pins s σ H E I hf st hg
  subst hP hw hK
  obtain ⟨xs, x, hq, hx⟩ := hg
  obtain ⟨its, rv, p, hz⟩ := I.list hq
  obtain ⟨u, hu, ru⟩ := rv.get hx
  obtain ⟨f0, f1, f2, f3, f4, f5⟩ := hf it (by simp)
  refine wpAny_pyNext_list_item st p.isList (x := u) (by simpa using hu) fun h' st' sb => ?_
  have I1 : Inv X pins σ H { s with heap := h' } := I.turned (t' := s.toks) (fun b o hb e => (sb.2 b hb).trans e) f0 f1 f3 f4 f5
  obtain ⟨o, e, c, d⟩ := id st'
  exact ⟨u, rfl, pY (s := { s with heap := h' }) e c d (by decide) ⟨x, H, I1, ru, ⟨rfl, fun ys hy => by rw [I.list_inj hy hq]; exact hx⟩, st', fun b hb => (hf b hb).1⟩⟩
 done := by
  intro X hP hw hK hc i pins s σ H E I hf st hg
  subst hP hw hK
  obtain ⟨xs, hq, hx⟩ := hg
  obtain ⟨its, rv, p, hz⟩ := I.list hq
  obtain ⟨f0, f1, f2, f3, f4, f5⟩ := hf it (by simp)
  have hl := rv.length
  exact wpAny_pyNext_list_end (I.ok.hd hc) st p.isList (by simp; omega) fun h' eb => ⟨rfl, I.turned (t' := s.toks) (fun b o hb e => eb b o hb e) f0 f1 f3 f4 f5⟩
 self := fun _ _ _ _ _ st h => wpAny_pyIter_listiter st h
theorem kJ {P : Program} {w : World} {K : PySem.W.Frag} {tg : Expr} (a it : Addr) : xa P w K tg (Itt K a) [it] it (fun i h => h.IsTupleIter it a i) where
 mem := by simp
 obj := fun i h st b hb => by
  have e : b = it := by simpa using hb
  subst e
  obtain ⟨o, e, c, d⟩ := st
  exact ⟨o, e, fun v z => by rw [d] at z; cases z⟩
 keep := fun i h h' st k => st.at fun o e => k it (by simp) o e
 item := by
  intro X hP hw hK hc i pins s σ H E I hf st hg
  subst hP hw hK
  obtain ⟨xs, x, hq, hx⟩ := hg
  obtain ⟨its, rv, p, hz⟩ := I.tuple hq
  obtain ⟨u, hu, ru⟩ := rv.get hx
  obtain ⟨f0, f1, f2, f3, f4, f5⟩ := hf it (by simp)
  refine wpAny_pyNext_tuple_item st (show s.heap.IsTuple a its.toArray from p) (x := u) (by simpa using hu) fun h' st' sb => ?_
  have I1 : Inv X pins σ H { s with heap := h' } := I.turned (t' := s.toks) (fun b o hb e => (sb.2 b hb).trans e) f0 f1 f3 f4 f5
  obtain ⟨o, e, c, d⟩ := id st'
  exact ⟨u, rfl, pY (s := { s with heap := h' }) e c d (by decide) ⟨x, H, I1, ru, ⟨rfl, fun ys hy => by rw [I.tuple_inj hy hq]; exact hx⟩, st', fun b hb => (hf b hb).1⟩⟩
 done := by
  intro X hP hw hK hc i pins s σ H E I hf st hg
  subst hP hw hK
  obtain ⟨xs, hq, hx⟩ := hg
  obtain ⟨its, rv, p, hz⟩ := I.tuple hq
  obtain ⟨f0, f1, f2, f3, f4, f5⟩ := hf it (by simp)
  have hl := rv.length
  exact wpAny_pyNext_tuple_end (I.ok.hd hc) st (show s.heap.IsTuple a its.toArray from p) (by simp; omega) fun h' eb => ⟨rfl, I.turned (t' := s.toks) (fun b o hb e => eb b o hb e) f0 f1 f3 f4 f5⟩
 self := fun _ _ _ _ _ st h => wpAny_pyIter_tupleiter st h
theorem kK {P : Program} {w : World} {K : PySem.W.Frag} {tg : Expr} (it : Addr) (lo : Int) (n : Nat) : xa P w K tg (Itr lo n) [it] it (fun i h => IsRangeIter h it (lo + (i : Nat) * 1) ((n : Int) - (i : Nat)) 1) where
 mem := by simp
 obj := fun i h st b hb => by
  have e : b = it := by simpa using hb
  subst e
  exact ⟨_, st, fun v z => by
   have z' : Data.fields _ = Data.cell v := z
   cases z'⟩
 keep := fun i h h' st k => k it (by simp) _ st
 item := by
  intro X hP hw hK hc i pins s σ H E I hf st hg
  subst hP hw hK
  obtain ⟨f0, f1, f2, f3, f4, f5⟩ := hf it (by simp)
  have W := Walks.range (prog := X.prog) (w := X.w) (I.ok.hd hc) it lo 1 n
  refine W.item i s _ _ hg st fun v h' tk hv st' kk => ?_
  obtain ⟨t, rfl⟩ := hv
  have I1 : Inv X pins σ H { s with heap := h', toks := tk } := I.turned (fun b o hb e => kk b o (by simpa using hb) e) f0 f1 f3 f4 f5
  refine ⟨_, rfl, pY (s := { s with heap := h', toks := tk }) (n := "range_iterator") st' rfl rfl (by decide) ⟨.int (lo + i), H, I1, ⟨t, ?_⟩, ⟨rfl, rfl⟩, st', fun b hb => (hf b hb).1⟩⟩
  rw [Int.mul_one]
 done := by
  intro X hP hw hK hc i pins s σ H E I hf st hg
  subst hP hw hK
  obtain ⟨f0, f1, f2, f3, f4, f5⟩ := hf it (by simp)
  exact wpAny_pyNext_range_end (I.ok.hd hc) st (by have : n ≤ i := hg; omega) fun h' eb => ⟨rfl, I.turned (t' := s.toks) (fun b o hb e => eb b o hb e) f0 f1 f3 f4 f5⟩
 self := fun _ _ _ _ _ st h => wpAny_pyIter_rangeiter st h
section
variable {X : Cx} {tg : Expr}
noncomputable def wN (K : PySem.W.Frag) (tl : TE) : TI := fun σ H R => tl σ H fun x H1 => ∃ a, x = .ref a ∧ (∃ xs, SqL K H1 a xs) ∧ R (Itl K a) H1
noncomputable def z4 (K : PySem.W.Frag) (tl : TE) : TI := fun σ H R => tl σ H fun x H1 => ∃ a, x = .ref a ∧ (∃ xs, SqT K H1 a xs) ∧ R (Itt K a) H1
theorem sN {l : Expr} {tl : TE} (hl : PE X l tl) : PI X tg l (wN X.K tl) := by
 intro pins s σ H R I h
 refine thn (hl pins s σ H _ I h) fun v s1 hz => ?_
 obtain ⟨x, H1, I1, r1, q1⟩ := hz
 obtain ⟨a, e, ⟨xs, hq⟩, q⟩ := q1
 subst e
 cases r1
 obtain ⟨its, rv, p, hz⟩ := I1.list hq
 refine wpAny_pyIter_list p.isList ?_
 refine ⟨s1.heap.objs.size, [s1.heap.objs.size], _, _, H1, rfl, I1.kept (t' := s1.toks) fun b o e => Heap.get?_push_of_some _ e, mn a _, ⟨_, Heap.get?_push_size _ rfl, rfl, rfl⟩, fun b hb => ?_, q⟩
 have e : b = s1.heap.objs.size := by simpa using hb
 subst e
 exact I1.fpOk (Nat.le_refl _) (I1.hok.fresh (Nat.le_refl _))
theorem vM {l : Expr} {tl : TE} (hl : PE X l tl) : PI X tg l (z4 X.K tl) := by
 intro pins s σ H R I h
 refine thn (hl pins s σ H _ I h) fun v s1 hz => ?_
 obtain ⟨x, H1, I1, r1, q1⟩ := hz
 obtain ⟨a, e, ⟨xs, hq⟩, q⟩ := q1
 subst e
 cases r1
 obtain ⟨its, rv, p, hz⟩ := I1.tuple hq
 refine wpAny_pyIter_tuple (show s1.heap.IsTuple a its.toArray from p) ?_
 refine ⟨s1.heap.objs.size, [s1.heap.objs.size], _, _, H1, rfl, I1.kept (t' := s1.toks) fun b o e => Heap.get?_push_of_some _ e, kJ a _, ⟨_, Heap.get?_push_size _ rfl, rfl, rfl⟩, fun b hb => ?_, q⟩
 have e : b = s1.heap.objs.size := by simpa using hb
 subst e
 exact I1.fpOk (Nat.le_refl _) (I1.hok.fresh (Nat.le_refl _))
theorem o5 {pins : List (Addr × Obj)} {σ : St} {H : Hp} {s : Shared} {R : It → Hp → Prop} {E : Value → Shared → Prop} {lo hi : Int} {t u v : Tok} {tk : Nat} (I : Inv X pins σ H s) (h1 : -(2 ^ 62) ≤ lo) (h2 : lo < 2 ^ 62) (h3 : -(2 ^ 62) ≤ hi) (h4 : hi < 2 ^ 62)
  (q : R (Itr lo (hi - lo).toNat) H) : wpAny (model X.prog X.w) X.A (pyIter (.ref s.heap.objs.size)) (PIE X pins σ tg R) E { s with heap := s.heap.push { cls := .type "range", data := .fields #[.int lo t, .int hi u, .int 1 v] }, toks := tk } := by
 refine wpAny_pyIter_range (IsRange.new ..) (small_one h1 h2 h3 h4) ?_
 have I1 : Inv X pins σ H { s with heap := s.heap.push { cls := .type "range", data := .fields #[.int lo t, .int hi u, .int 1 v] }, toks := tk } := I.kept fun b o e => Heap.get?_push_of_some _ e
 refine ⟨(s.heap.push { cls := .type "range", data := .fields #[.int lo t, .int hi u, .int 1 v] }).objs.size, [(s.heap.push { cls := .type "range", data := .fields #[.int lo t, .int hi u, .int 1 v] }).objs.size], _, _, H, rfl,
  I1.kept (t' := tk) fun b o e => Heap.get?_push_of_some _ e, kK _ lo (hi - lo).toNat, ?_, fun b hb => ?_, q⟩
 ·have e1 : lo + ((0 : Nat) : Int) * 1 = lo := by simp
  have e2 : (((hi - lo).toNat : Nat) : Int) - ((0 : Nat) : Int) = Builtin.Range.rangeSize lo hi 1 := by rw [rangeSize_one]; split <;> omega
  show IsRangeIter _ _ (lo + ((0 : Nat) : Int) * 1) ((((hi - lo).toNat : Nat) : Int) - ((0 : Nat) : Int)) 1
  rw [e1, e2]
  exact Heap.get?_push_size _ rfl
 ·have e : b = (s.heap.push { cls := .type "range", data := .fields #[.int lo t, .int hi u, .int 1 v] }).objs.size := by simpa using hb
  subst e
  exact I1.fpOk (Nat.le_refl _) (I1.hok.fresh (Nat.le_refl _))
noncomputable def wM (ta : TA) : TI := fun σ H R => ta σ H fun vs H1 => ∃ j : Int, vs = [.int j] ∧ -(2 ^ 62) ≤ j ∧ j < 2 ^ 62 ∧ R (Itr 0 j.toNat) H1
theorem mM {a : Expr} {ta : TA} {p pos : Pos} (hg : Gl X "range") (hm : X.mg "range" = none) (ha : PA X [a] ta) (hs : starEach [a] X.env = [(false, eval a X.env)] := by rfl) : PI X tg (.Call (.Name "range" p) [a] [] pos) (wM ta) := by
 intro pins s σ H R I h
 refine Call_ (fE I hg hm boot_range (PyProof.Rows.callWith_type1 (thn (ha pos pins s σ H _ I h) fun us s1 ⟨vs, H1, I1, r1, q1⟩ => ?_) hs rfl))
 obtain ⟨j, e, q1, q2, q⟩ := q1
 subst e
 cases r1 with
 | cons r rr =>
  cases rr
  obtain ⟨t, rfl⟩ := r
  exact call_range_1 (o5 I1 (by omega) (by omega) q1 q2 (by simpa using q))
noncomputable def yC (wi : TI) (g : TG) (tb : TS) : TS := fun D σ H => wi σ H fun J H1 => ∃ W : Nat → Nat → St → Hp → Prop, (∃ m, W 0 m σ H1) ∧ ∀ i m σ H, W i m σ H →
 (J.stop i H ∧ D.nx σ H) ∨ (J.go i H ∧ ∃ N : St → Hp → Prop, (∀ σ' H', N σ' H' → ∃ m', m' < m ∧ W (i + 1) m' σ' H') ∧ ∀ x H', J.yld i H x H' → g x σ H' fun σ2 H2 => tb { D with nx := N, ct := N, bk := D.nx } σ2 H2)
noncomputable def j3 (fp : List Addr) (h : Heap) : List (Addr × Obj) := fp.filterMap fun b => (h.get? b).map fun o => (b, o)
theorem bY {fp : List Addr} {h : Heap} {b : Addr} {o : Obj} (hb : b ∈ fp) (e : h.get? b = some o) : (b, o) ∈ j3 fp h := List.mem_filterMap.mpr ⟨b, hb, by rw [e]; rfl⟩
theorem mT {fp : List Addr} {h : Heap} {p : Addr × Obj} (hp : p ∈ j3 fp h) : p.1 ∈ fp ∧ h.get? p.1 = some p.2 := by
 obtain ⟨b, hb, e⟩ := List.mem_filterMap.mp hp
 cases q : h.get? b with
 | none => rw [q] at e; cases e
 | some o =>
  rw [q] at e
  have e' : (b, o) = p := Option.some.inj e
  subst e'
  exact ⟨hb, q⟩
theorem Inv.pinned {pins : List (Addr × Obj)} {σ : St} {H : Hp} {s : Shared} {fp : List Addr} (I : Inv X pins σ H s) (hf : ∀ b ∈ fp, oA X pins H b) (ho : ∀ b ∈ fp, ∃ o, s.heap.get? b = some o ∧ ∀ v, o.data ≠ .cell v) : Inv X (pins ++ j3 fp s.heap) σ H s :=
 I.pins_of fun p hp => (List.mem_append.mp hp).elim (fun z => I.pin p (List.mem_append_right _ z)) fun z => by
  obtain ⟨hb, e⟩ := mT z
  obtain ⟨f0, f1, f2, _⟩ := hf p.1 hb
  obtain ⟨o, e', d⟩ := ho p.1 hb
  rw [e] at e'; cases e'
  exact ⟨e, f0, f1, f2, d⟩
theorem Inv.unpinned {pins pl : List (Addr × Obj)} {σ : St} {H : Hp} {s : Shared} (I : Inv X (pins ++ pl) σ H s) : Inv X pins σ H s := I.pins_of fun p hp => I.pin p (List.mem_append_right _ (List.mem_append_left _ hp))
theorem vK {iter : Expr} {body : List Stmt} {wi : TI} {g : TG} {tb : TS} {pos : Pos} (hp : PassesOwn (model X.prog X.w) X.A X.env X.xe) (hc : X.calm = true) (hi : PI X tg iter wi) (hg : PG X tg g) (hb : PSs X body tb)
  (hs : ∀ x, foldedSetIterable iter X.env x = pure x := by intro _; rfl) : PS X (.For tg iter body [] pos) (yC wi g tb) := by
 intro pins s σ H D I h
 refine wpAny_For (thn (hi pins s σ H _ I h) fun v s1 h1 => thn h1 fun itv s2 h2 => ?_) hs
 obtain ⟨it, fp, tn, J, H2, e, I2, T, st2, f2, W, ⟨m0, w0⟩, turn⟩ := h2
 subst e
 have stat : ∀ {H' : Hp}, (∀ b ∈ fp, H' b = none) → ∀ b ∈ fp, oA X pins H' b := fun hn b hb => ⟨hn b hb, (f2 b hb).2⟩
 refine codeAny_forLoop_any (fun n s' => ∃ i σ' H', Inv X pins σ' H' s' ∧ tn i s'.heap ∧ (∀ b ∈ fp, H' b = none) ∧ W i n σ' H') ?_ m0 ⟨0, σ, H2, I2, st2, fun b hb => (f2 b hb).1, w0⟩
 rintro n s3 ⟨i, σ3, H3, I3, st3, fr3, w3⟩
 rcases turn i n σ3 H3 w3 with ⟨stop, qn⟩ | ⟨go, N, hN, step⟩
 ·refine wpAny_passesOwn hp (thn (T.done X rfl rfl rfl hc i pins s3 σ3 H3 X.xe I3 (stat fr3) st3 stop) fun r s4 ⟨hr, I4⟩ => ?_)
  subst hr
  exact wpAny_execs_nil ⟨σ3, H3, I4, qn⟩
 ·refine wpAny_passesOwn hp (thn (T.item X rfl rfl rfl hc i pins s3 σ3 H3 X.xe I3 (stat fr3) st3 go) fun r s4 ⟨u, hr, h4⟩ => ?_)
  subst hr
  refine wpAny_passesOwn hp (thn h4 fun _ s5 hz => ?_)
  obtain ⟨x, H5, I5, r5, y5, st5, fr5⟩ := hz
  have I5' := I5.pinned (stat fr5) (T.obj _ _ st5)
  refine wpAny_passesOwn hp (thn (hg _ s5 σ3 H5 x u _ I5' r5 (step x H5 y5)) fun _ s6 hz => ?_)
  obtain ⟨σ6, H6, I6, q6⟩ := hz
  refine wpAny_passesOwn hp (thn (hb _ s6 σ6 H6 _ I6 q6) fun f s7 q7 => ?_)
  have again : ∀ {σ7 : St} {H7 : Hp}, Inv X (pins ++ j3 fp s5.heap) σ7 H7 s7 → N σ7 H7 → ∃ m, m < n ∧ ∃ i σ' H', Inv X pins σ' H' s7 ∧ tn i s7.heap ∧ (∀ b ∈ fp, H' b = none) ∧ W i m σ' H' := fun {σ7 H7} I7 n7 => by
   obtain ⟨m', hm, w7⟩ := hN σ7 H7 n7
   refine ⟨m', hm, i + 1, σ7, H7, I7.unpinned, T.keep _ _ _ st5 fun b hb o e => (I7.pin (b, o) (List.mem_append_right _ (List.mem_append_right _ (bY hb e)))).1, fun b hb => ?_, w7⟩
   obtain ⟨o, e, d⟩ := T.obj _ _ st5 b hb
   exact (I7.pin (b, o) (List.mem_append_right _ (List.mem_append_right _ (bY hb e)))).2.1
  cases f with
  | next => obtain ⟨σ7, H7, I7, n7⟩ := q7; exact again I7 n7
  | cont => obtain ⟨σ7, H7, I7, n7⟩ := q7; exact again I7 n7
  | brk => obtain ⟨σ7, H7, I7, q7⟩ := q7; exact ⟨σ7, H7, I7.unpinned, q7⟩
  | ret v => obtain ⟨x7, σ7, H7, I7, r7, q7⟩ := q7; exact ⟨x7, σ7, H7, I7.unpinned, r7, q7⟩
end
noncomputable abbrev R2 := V → V → Hp → VK → Prop
noncomputable def OpR (X : Cx) (f : Value → Value → Sem Value) (r : R2) : Prop :=
 ∀ (pins : List (Addr × Obj)) (s : Shared) (σ : St) (H : Hp) (x y : V) (v u : Value) (Q : VK), Inv X pins σ H s → bq x v → bq y u → r x y H Q →
  wpAny (model X.prog X.w) X.A (f v u) (EP X pins σ Q) X.xe s
noncomputable def UnR (X : Cx) (f : Value → Sem Value) (r : V → Hp → VK → Prop) : Prop :=
 ∀ (pins : List (Addr × Obj)) (s : Shared) (σ : St) (H : Hp) (x : V) (v : Value) (Q : VK), Inv X pins σ H s → bq x v → r x H Q →
  wpAny (model X.prog X.w) X.A (f v) (EP X pins σ Q) X.xe s
noncomputable def bX (X : Cx) (f : Value) (r : List V → Hp → VK → Prop) : Prop :=
 ∀ (pins : List (Addr × Obj)) (s : Shared) (σ : St) (H : Hp) (xs : List V) (us : List Value) (Q : VK), Inv X pins σ H s → aQ xs us → r xs H Q →
  wpAny (model X.prog X.w) X.A (call f us) (EP X pins σ Q) X.xe s
noncomputable def tOp (r : R2) (ta tb : TE) : TE := fun σ H Q => ta σ H fun x H1 => tb σ H1 fun y H2 => r x y H2 Q
noncomputable def tUn (r : V → Hp → VK → Prop) (ta : TE) : TE := fun σ H Q => ta σ H fun x H1 => r x H1 Q
noncomputable def rI (C : Int → Int → Prop) (g : Int → Int → V) : R2 := fun x y H Q => ∃ i j, x = .int i ∧ y = .int j ∧ C i j ∧ Q (g i j) H
noncomputable def rI0 (g : Int → Int → V) : R2 := fun x y H Q => ∃ i j, x = .int i ∧ y = .int j ∧ Q (g i j) H
noncomputable def rU (g : Int → V) : V → Hp → VK → Prop := fun x H Q => ∃ i, x = .int i ∧ Q (g i) H
section
variable {X : Cx} {a b c : Expr} {ta tb tc : TE} {pos : Pos}
theorem zB (ha : PE X a ta) (hb : PE X b tb) {pins : List (Addr × Obj)} {s : Shared} {σ : St} {H : Hp} {R : V → V → Hp → Prop} (I : Inv X pins σ H s)
  (h : ta σ H fun x H1 => tb σ H1 fun y H2 => R x y H2) {Q : Value → Shared → Prop} {f : Value → Value → Sem Value}
  (hf : ∀ v u s2 x y H2, Inv X pins σ H2 s2 → bq x v → bq y u → R x y H2 → wpAny (model X.prog X.w) X.A (f v u) Q X.xe s2) :
  wpAny (model X.prog X.w) X.A (eval a X.env) (fun v s₁ => wpAny (model X.prog X.w) X.A (eval b X.env) (fun u s₂ => wpAny (model X.prog X.w) X.A (f v u) Q X.xe s₂) X.xe s₁) X.xe s := by
 refine thn (ha pins s σ H _ I h) fun v s1 hz => ?_
 obtain ⟨x, H1, I1, r1, q1⟩ := hz
 refine thn (hb pins s1 σ H1 _ I1 q1) fun u s2 hz => ?_
 obtain ⟨y, H2, I2, r2, q2⟩ := hz
 exact hf v u s2 x y H2 I2 r1 r2 q2
theorem yS {op : Operator} {r : R2} (ho : OpR X (binaryOp op) r) (ha : PE X a ta) (hb : PE X b tb) : PE X (.BinOp a op b pos) (tOp r ta tb) := by
 intro pins s σ H Q I h
 exact wpAny_BinOp (zB ha hb I h fun v u s2 x y H2 I2 rx ry q => ho pins s2 σ H2 x y v u Q I2 rx ry q)
theorem yR {op : UnaryOp} {r : V → Hp → VK → Prop} (ho : UnR X (unaryOp op) r) (ha : PE X a ta) : PE X (.UnaryOp op a pos) (tUn r ta) := by
 intro pins s σ H Q I h
 exact UnaryOp_ (thn (ha pins s σ H _ I h) fun v s1 ⟨x, H1, I1, r1, q1⟩ => ho pins s1 σ H1 x v Q I1 r1 q1)
theorem opI {f : Value → Value → Sem Value} {C : Int → Int → Prop} {g : Int → Int → Int}
  (rule : ∀ (i j : Int) (t u : Tok) (s : Shared) (Q : Value → Shared → Prop) (E : Value → Shared → Prop), C i j → Q (.int (g i j) s.toks) { s with toks := s.toks + 1 } → wpAny (model X.prog X.w) X.A (f (.int i t) (.int j u)) Q E s) :
  OpR X f (rI C fun i j => .int (g i j)) := by
 intro pins s σ H x y v u Q I rx ry h
 obtain ⟨i, j, rfl, rfl, hc, q⟩ := h
 obtain ⟨t, rfl⟩ := rx
 obtain ⟨t', rfl⟩ := ry
 exact rule i j t t' s _ _ hc ⟨.int (g i j), H, I.tok _, ⟨_, rfl⟩, q⟩
theorem zR {f : Value → Value → Sem Value} {g : Int → Int → Int}
  (rule : ∀ (i j : Int) (t u : Tok) (s : Shared) (Q : Value → Shared → Prop) (E : Value → Shared → Prop), Q (.int (g i j) s.toks) { s with toks := s.toks + 1 } → wpAny (model X.prog X.w) X.A (f (.int i t) (.int j u)) Q E s) :
  OpR X f (rI0 fun i j => .int (g i j)) := by
 intro pins s σ H x y v u Q I rx ry h
 obtain ⟨i, j, rfl, rfl, q⟩ := h
 obtain ⟨t, rfl⟩ := rx
 obtain ⟨t', rfl⟩ := ry
 exact rule i j t t' s _ _ ⟨.int (g i j), H, I.tok _, ⟨_, rfl⟩, q⟩
theorem Ax {f : Value → Value → Sem Value} {g : Int → Int → Bool}
  (rule : ∀ (i j : Int) (t u : Tok) (s : Shared) (Q : Value → Shared → Prop) (E : Value → Shared → Prop), Q (.bool (g i j)) s → wpAny (model X.prog X.w) X.A (f (.int i t) (.int j u)) Q E s) :
  OpR X f (rI0 fun i j => .bl (g i j)) := by
 intro pins s σ H x y v u Q I rx ry h
 obtain ⟨i, j, rfl, rfl, q⟩ := h
 obtain ⟨t, rfl⟩ := rx
 obtain ⟨t', rfl⟩ := ry
 exact rule i j t t' s _ _ ⟨.bl (g i j), H, I, rfl, q⟩
noncomputable def Aa (i j : Int) : Prop := 0 ≤ j ∧ j ≤ 1000000 ∧ i.natAbs < 2 ^ 64
noncomputable def qS (i j : Int) : Prop := (-(2 ^ 64) < i ∧ i < 2 ^ 64) ∨ (-(2 ^ 64) < j ∧ j < 2 ^ 64)
theorem qS.ok {i j : Int} (h : qS i j) : IntMulOk i j := by
 rcases h with ⟨h1, h2⟩ | ⟨h1, h2⟩
 ·exact .of_left (intBits_le_64 h1 h2)
 ·exact .of_right (intBits_le_64 h1 h2)
theorem wd : OpR X (binaryOp .Add) (rI0 fun i j => .int (i + j)) := zR fun _ _ _ _ _ _ _ q => add_int q
theorem wa : OpR X (binaryOp .Sub) (rI0 fun i j => .int (i - j)) := zR fun _ _ _ _ _ _ _ q => sub_int q
theorem dC : OpR X (binaryOp .Mult) (rI qS fun i j => .int (i * j)) := opI fun _ _ _ _ _ _ _ hc q => mul_int q hc.ok
theorem j4 : OpR X (binaryOp .Mod) (rI (fun _ j => 0 < j) fun i j => .int (i % j)) := opI fun i j _ _ _ _ _ hc q => by
 have h1 : (0 : Int) < j := hc
 exact mod_int' (by omega) (by rw [Int.fmod_eq_emod_of_nonneg i (by omega)]; exact q)
theorem unI {f : Value → Sem Value} {g : Int → Int}
  (rule : ∀ (i : Int) (t : Tok) (s : Shared) (Q : Value → Shared → Prop) (E : Value → Shared → Prop), Q (.int (g i) s.toks) { s with toks := s.toks + 1 } → wpAny (model X.prog X.w) X.A (f (.int i t)) Q E s) :
  UnR X f (rU fun i => .int (g i)) := by
 intro pins s σ H x v Q I rx h
 obtain ⟨i, rfl, q⟩ := h
 obtain ⟨t, rfl⟩ := rx
 exact rule i t s _ _ ⟨.int (g i), H, I.tok _, ⟨_, rfl⟩, q⟩
theorem qm : UnR X (unaryOp .USub) (rU fun i => .int (-i)) := unI fun _ _ _ _ _ q => neg_int q
end
noncomputable def yE : V → V → Bool
 | .non, .non => true | .non, .int _ => true | .int _, .non => true | .non, .bl _ => true | .bl _, .non => true | .non, .str _ => true | .str _, .non => true
 | .int _, .int _ => true | .bl _, .bl _ => true | .str _, .str _ => true | .byt _, .byt _ => true
 | .int _, .str _ => true | .str _, .int _ => true | .bl _, .str _ => true | .str _, .bl _ => true
 | _, _ => false
noncomputable def rEq : R2 := fun x y H Q => yE x y = true ∧ Q (.bl (decide (x = y))) H
noncomputable def rNe : R2 := fun x y H Q => yE x y = true ∧ Q (.bl (!decide (x = y))) H
theorem nM {i j : Int} : decide (V.int i = V.int j) = (i == j) := by
 rw [Bool.eq_iff_iff]
 simp
theorem qK {i j : Bool} : decide (V.bl i = V.bl j) = (i == j) := by
 rw [Bool.eq_iff_iff]
 simp
theorem nL {i j : Str} : decide (V.str i = V.str j) = (i == j) := by
 rw [Bool.eq_iff_iff]
 simp
theorem nN {i j : Array UInt8} : decide (V.byt i = V.byt j) = (i.toList == j.toList) := by
 rw [Bool.eq_iff_iff]
 cases i
 cases j
 simp
section
variable {X : Cx} {a b c : Expr} {ta tb tc : TE} {pos : Pos}
theorem aH {pins : List (Addr × Obj)} {σ : St} {H : Hp} {s : Shared} {Q : VK} {k k' : Bool} (I : Inv X pins σ H s) (q : Q (.bl k) H) (e : k = k') : EP X pins σ Q (.bool k') s := by
 subst e
 exact ⟨.bl k, H, I, rfl, q⟩
theorem pI : OpR X (compareOp .Eq) rEq := by
 intro pins s σ H x y v u Q I rx ry h
 obtain ⟨hs, q⟩ := h
 cases x with
 | non =>
  cases rx
  cases y with
  | non => cases ry; exact PySem.EqNone.eq_none_none (aH I q (by simp))
  | bl j => cases ry; exact PySem.EqNone.eq_none_bool (aH I q (by simp))
  | int j => obtain ⟨t', rfl⟩ := ry; exact PySem.EqNone.eq_none_int (aH I q (by simp))
  | str j => obtain ⟨t', rfl⟩ := ry; exact PySem.EqNone.eq_none_str (aH I q (by simp))
  | _ => exact absurd (show false = true from hs) Bool.false_ne_true
 | bl i =>
  cases rx
  cases y with
  | non => cases ry; exact PySem.EqNone.eq_bool_none (aH I q (by simp))
  | bl j => cases ry; exact eq_bool (aH I q qK)
  | str j => obtain ⟨t', rfl⟩ := ry; exact PySem.EqMixed.eq_bool_str (aH I q (by simp))
  | _ => exact absurd (show false = true from hs) Bool.false_ne_true
 | int i =>
  obtain ⟨t, rfl⟩ := rx
  cases y with
  | non => cases ry; exact PySem.EqNone.eq_int_none (aH I q (by simp))
  | int j => obtain ⟨t', rfl⟩ := ry; exact eq_int (aH I q nM)
  | str j => obtain ⟨t', rfl⟩ := ry; exact PySem.EqMixed.eq_int_str (aH I q (by simp))
  | _ => exact absurd (show false = true from hs) Bool.false_ne_true
 | str i =>
  obtain ⟨t, rfl⟩ := rx
  cases y with
  | non => cases ry; exact PySem.EqNone.eq_str_none (aH I q (by simp))
  | bl j => cases ry; exact PySem.EqMixed.eq_str_bool (aH I q (by simp))
  | int j => obtain ⟨t', rfl⟩ := ry; exact PySem.EqMixed.eq_str_int (aH I q (by simp))
  | str j => obtain ⟨t', rfl⟩ := ry; exact eq_str (aH I q nL)
  | _ => exact absurd (show false = true from hs) Bool.false_ne_true
 | byt i =>
  obtain ⟨t, rfl⟩ := rx
  cases y with
  | byt j => obtain ⟨t', rfl⟩ := ry; exact PySem.W.eq_bytes (aH I q nN)
  | _ => exact absurd (show false = true from hs) Bool.false_ne_true
 | _ => cases y <;> exact absurd (show false = true from hs) Bool.false_ne_true
theorem wb : OpR X (compareOp .NotEq) rNe := by
 intro pins s σ H x y v u Q I rx ry h
 obtain ⟨hs, q⟩ := h
 cases x with
 | non =>
  cases rx
  cases y with
  | non => cases ry; exact PySem.EqNone.ne_none_none (aH I q (by simp))
  | bl j => cases ry; exact PySem.EqNone.ne_none_bool (aH I q (by simp))
  | int j => obtain ⟨t', rfl⟩ := ry; exact PySem.EqNone.ne_none_int (aH I q (by simp))
  | str j => obtain ⟨t', rfl⟩ := ry; exact PySem.EqNone.ne_none_str (aH I q (by simp))
  | _ => exact absurd (show false = true from hs) Bool.false_ne_true
 | bl i =>
  cases rx
  cases y with
  | non => cases ry; exact PySem.EqNone.ne_bool_none (aH I q (by simp))
  | bl j => cases ry; exact ne_bool (aH I q (congrArg not qK))
  | str j => obtain ⟨t', rfl⟩ := ry; exact PySem.EqMixed.ne_bool_str (aH I q (by simp))
  | _ => exact absurd (show false = true from hs) Bool.false_ne_true
 | int i =>
  obtain ⟨t, rfl⟩ := rx
  cases y with
  | non => cases ry; exact PySem.EqNone.ne_int_none (aH I q (by simp))
  | int j => obtain ⟨t', rfl⟩ := ry; exact ne_int (aH I q (congrArg not nM))
  | str j => obtain ⟨t', rfl⟩ := ry; exact PySem.EqMixed.ne_int_str (aH I q (by simp))
  | _ => exact absurd (show false = true from hs) Bool.false_ne_true
 | str i =>
  obtain ⟨t, rfl⟩ := rx
  cases y with
  | non => cases ry; exact PySem.EqNone.ne_str_none (aH I q (by simp))
  | bl j => cases ry; exact PySem.EqMixed.ne_str_bool (aH I q (by simp))
  | int j => obtain ⟨t', rfl⟩ := ry; exact PySem.EqMixed.ne_str_int (aH I q (by simp))
  | str j => obtain ⟨t', rfl⟩ := ry; exact ne_str (aH I q (congrArg not nL))
  | _ => exact absurd (show false = true from hs) Bool.false_ne_true
 | byt i =>
  obtain ⟨t, rfl⟩ := rx
  cases y with
  | byt j => obtain ⟨t', rfl⟩ := ry; exact PySem.W.ne_bytes (aH I q (congrArg not nN))
  | _ => exact absurd (show false = true from hs) Bool.false_ne_true
 | _ => cases y <;> exact absurd (show false = true from hs) Bool.false_ne_true
theorem pH : OpR X (compareOp .Lt) (rI0 fun i j => .bl (decide (i < j))) := Ax fun _ _ _ _ _ _ _ q => lt_int q
theorem OpR.or {f : Value → Value → Sem Value} {r r' : R2} (h : OpR X f r) (h' : OpR X f r') : OpR X f (fun x y H Q => r x y H Q ∨ r' x y H Q) := by
 intro pins s σ H x y v u Q I rx ry q
 rcases q with q | q
 ·exact h pins s σ H x y v u Q I rx ry q
 ·exact h' pins s σ H x y v u Q I rx ry q
theorem b3 (b : Expr) {op : CmpOp} (h : op ≠ .In := by decide) (h2 : op ≠ .NotIn := by decide) : behindInMarks op b = false := by
 have e1 : (op == CmpOp.In) = false := by cases op <;> first | rfl | exact absurd rfl h
 have e2 : (op == CmpOp.NotIn) = false := by cases op <;> first | rfl | exact absurd rfl h2
 cases b <;> simp [behindInMarks, e1, e2]
theorem sS {op : CmpOp} {r : R2} (ho : OpR X (compareOp op) r) (ha : PE X a ta) (hb : PE X b tb) (hm : behindInMarks op b = false) : PE X (.Compare a [op] [b] pos) (tOp r ta tb) := by
 intro pins s σ H Q I h
 exact wpAny_Compare1 (zB ha hb I h fun v u s2 x y H2 I2 rx ry q => ho pins s2 σ H2 x y v u Q I2 rx ry q) hm
noncomputable def u7 (t : TE) : TT := fun σ H Q => t σ H fun x H' => ∃ k, x = .bl k ∧ Q k H'
theorem sF {op : CmpOp} {r : R2} (ho : OpR X (compareOp op) r) (ha : PE X a ta) (hb : PE X b tb) (hm : behindInMarks op b = false) : PT X (.Compare a [op] [b] pos) (u7 (tOp r ta tb)) := by
 intro pins s σ H Q I h
 refine wpAny_isTrue_Compare1 (thn (ha pins s σ H _ I h) fun v s1 ⟨x, H1, I1, r1, q1⟩ => thn (hb pins s1 σ H1 _ I1 q1) fun u s2 ⟨y, H2, I2, r2, q2⟩ =>
  thn (ho pins s2 σ H2 x y v u _ I2 r1 r2 q2) fun c s3 ⟨z, H3, I3, r3, k, e, q3⟩ => ?_) hm
 subst e
 cases r3
 exact wpAny_truthy_bool ⟨H3, I3, q3⟩
theorem j8 : (sizeLine : Nat) < 2 ^ 63 := by rw [sizeLine_eq]; decide
theorem kW : OpR X (binaryOp .Add) (fun x y H Q => ∃ i j, x = .str i ∧ y = .str j ∧ i.length + j.length ≤ sizeLine ∧ Q (.str (i ++ j)) H) := by
 intro pins s σ H x y v u Q I rx ry h
 obtain ⟨i, j, rfl, rfl, hz, q⟩ := h
 obtain ⟨t, rfl⟩ := rx
 obtain ⟨t', rfl⟩ := ry
 exact add_str (fun t' tk => ⟨.str (i ++ j), H, I.tok _, ⟨_, rfl⟩, q⟩) hz
theorem fT {x : V} {us : List Value} (r : aQ [x] us) : ∃ u, us = [u] ∧ bq x u := by
 cases r with
 | cons r1 r2 => cases r2; exact ⟨_, rfl, r1⟩
theorem oV {x y : V} {us : List Value} (r : aQ [x, y] us) : ∃ u w', us = [u, w'] ∧ bq x u ∧ bq y w' := by
 cases r with
 | cons r1 r2 =>
  cases r2 with
  | cons r3 r4 => cases r4; exact ⟨_, _, rfl, r1, r3⟩
theorem nU (hc : X.calm = true) : bX X (.builtin "max") (fun xs H Q => ∃ i j, xs = [.int i, .int j] ∧ Q (.int (if j > i then j else i)) H) := by
 intro pins s σ H xs us Q I r h
 obtain ⟨i, j, rfl, q⟩ := h
 obtain ⟨u, w', rfl, ⟨t, rfl⟩, ⟨t', rfl⟩⟩ := oV r
 refine max_two_ints (I.ok.hd hc) fun h' tk k => ⟨_, H, I.kept k, ?_, q⟩
 by_cases hj : j > i
 ·rw [if_pos hj, if_pos hj]; exact ⟨_, rfl⟩
 ·rw [if_neg hj, if_neg hj]; exact ⟨_, rfl⟩
theorem nT (hc : X.calm = true) : bX X (.builtin "min") (fun xs H Q => ∃ i j, xs = [.int i, .int j] ∧ Q (.int (if j < i then j else i)) H) := by
 intro pins s σ H xs us Q I r h
 obtain ⟨i, j, rfl, q⟩ := h
 obtain ⟨u, w', rfl, ⟨t, rfl⟩, ⟨t', rfl⟩⟩ := oV r
 refine min_two_ints (I.ok.hd hc) fun h' tk k => ⟨_, H, I.kept k, ?_, q⟩
 by_cases hj : j < i
 ·rw [if_pos hj, if_pos hj]; exact ⟨_, rfl⟩
 ·rw [if_neg hj, if_neg hj]; exact ⟨_, rfl⟩
theorem iH : bX X (.type "int") (fun xs H Q => (∃ i, xs = [.int i] ∧ Q (.int i) H) ∨ ∃ k, xs = [.bl k] ∧ Q (.int (if k then 1 else 0)) H) := by
 intro pins s σ H xs us Q I r h
 rcases h with ⟨i, rfl, q⟩ | ⟨k, rfl, q⟩
 ·obtain ⟨u, rfl, t, rfl⟩ := fT r
  exact call_int_int ⟨.int i, H, I, ⟨_, rfl⟩, q⟩
 ·obtain ⟨u, rfl, r1⟩ := fT r
  cases r1
  exact call_int_bool ⟨.int (if k then 1 else 0), H, I.tok _, ⟨_, rfl⟩, q⟩
end
structure zF (h : Heap) (x dx C : Addr) (mA : Str → Option Value) : Prop where
 obj : h.get? x = some (PySem.W.instObj C dx)
 ns : h.Ns1 dx mA
 ne : dx ≠ x
theorem nc {h : Heap} {dx : Addr} {mA : Str → Option Value} (n : h.Ns1 dx mA) : ∃ od, h.get? dx = some od ∧ ∀ name, PySem.W.lookIn name od = some (mA name) := by
 obtain ⟨o, es, ep, ho, hd, hk, _, hm⟩ := n
 refine ⟨o, ho, fun name => ?_⟩
 have e := hm name
 unfold nsFind findBy at e
 rw [← Array.find?_toList] at e
 unfold PySem.W.lookIn
 rw [hd]
 dsimp only
 split
 ·rename_i y q
  rw [q] at e
  exact congrArg some e
 ·rename_i q
  rw [q] at e
  have a : es.toList.any (·.refKey) = false := by
   rw [List.any_eq_false]
   intro y hy
   obtain ⟨z, t, hkey⟩ := hk y (Array.mem_toList_iff.mp hy)
   simp [DictEntry.refKey, hkey]
  have a' : ¬ es.toList.any (·.refKey) = true := by rw [a]; exact Bool.false_ne_true
  rw [if_neg a']
  exact congrArg some e
theorem zF.look {h : Heap} {x dx C : Addr} {mA : Str → Option Value} (I : zF h x dx C mA) : ∃ od, PySem.W.InstAt h x (PySem.W.instObj C dx) C (some od) ∧ ∀ name, PySem.W.lookIn name od = some (mA name) :=
 let ⟨od, ho, hl⟩ := nc I.ns
 ⟨od, ⟨I.obj, rfl, rfl, ho⟩, hl⟩
theorem lM.some_of {v : V} {o : Option Value} (r : lM (some v) o) : ∃ u, o = some u ∧ bq v u := by
 cases o with
 | none => exact (show False from r).elim
 | some u => exact ⟨u, rfl, r⟩
section
variable {P : Program} {w : World} {H H' : Hp} {h h' : Heap} {a C dx : Addr} {fs fs' : List (Str × V)}
theorem tH (hok : HOk P w H h) (e : H a = some (.ins C dx fs)) : ∃ mA, zF h a dx C mA ∧ (∀ f, lM (fs.lookup f) (mA f)) ∧ PySem.Within mA (fs.map (·.1)) ∧ fs.length ≤ 1000 ∧ H dx = some (.own a) := by
 obtain ⟨d, z, ne, ob, mA, n, r, q⟩ := (show bp P w H h a (.ins C dx fs) from hok a _ e)
 exact ⟨mA, ⟨ob, n, ne⟩, r, q, z, d⟩
end
structure Cls (K : PySem.W.Frag) (C : Addr) : Prop where
 pg : PySem.W.plainGet K C Str.empty = true
 hd : PySem.W.hasDictIn K C = true
 po : PySem.W.plainOver K C = true
 sa : PySem.W.findIn K (.ref C) "__setattr__" = some (some (.builtin "object.__setattr__"))
theorem Cls.get {K : PySem.W.Frag} {C : Addr} (c : Cls K C) (f : Str) : PySem.W.plainGet K C f = true := c.pg
section
variable {X : Cx} {pins : List (Addr × Obj)} {σ : St} {H : Hp} {s : Shared} {A : Around} {E : Value → Shared → Prop} {Q : Value → Shared → Prop} {c : Value} {b : Bool}
inductive kB (K : PySem.W.Frag) (H : Hp) : V → Value → Prop where
 | non : kB K H .non (.type "NoneType")
 | bl (x : Bool) : kB K H (.bl x) (.type "bool")
 | int (i : Int) : kB K H (.int i) (.type "int")
 | str (x : Str) : kB K H (.str x) (.type "str")
 | flt (x : UInt64) : kB K H (.flt x) (.type "float")
 | lst {a : Addr} {xs : List V} (e : H a = some (.lst xs)) : kB K H (.ref a) (.type "list")
 | frz {a : Addr} {o : Obj} {xs : List V} (e : H a = some (.frz o (.lst xs))) : kB K H (.ref a) (.type "list")
 | tup {a : Addr} {xs : List V} (e : H a = some (.tup xs)) : kB K H (.ref a) (.type "tuple")
 | dK {a : Addr} {kvs : List (Key × V)} (e : H a = some (.dK kvs)) : kB K H (.ref a) (.type "dict")
 | dT {a : Addr} {kvs : List (List Key × V)} (e : H a = some (.dT kvs)) : kB K H (.ref a) (.type "dict")
 | ins {a C dx : Addr} {fs : List (Str × V)} (e : H a = some (.ins C dx fs)) (cl : Cls K C) (ha : PySem.W.findIn K (.ref C) "__class__" = some (some (.builtin "object.__class__")))
   (hn : PySem.W.specialIn K (.builtin "object.__class__") "__get__" = some (some (.builtin "getset_descriptor.__get__"))) (htk : PySem.W.takesIn K (.builtin "object.__class__") = some true)
   (hm : PySem.W.mroIn K C (.type "object") = some true) : kB K H (.ref a) (.ref C)
theorem ny {x : V} {u t : Value} (I : Inv X pins σ H s) (rx : bq x u) (ty : kB X.K H x t) (e : PySem.W.kitOne X.K t c = some b) (h : ∀ tk, Q (.bool b) { s with toks := tk }) :
  wpAny (model X.prog X.w) A (call (.builtin "isinstance") [u, c]) Q E s := by
 cases ty with
 | non => cases (show u = Value.none from rx); exact PySem.W.kia_one PySem.W.kitx_none I.kIn True.intro e (fun z => nomatch z) h
 | bl y => cases (show u = Value.bool y from rx); exact PySem.W.kia_one PySem.W.kitx_bool I.kIn True.intro e (fun z => nomatch z) h
 | int i => obtain ⟨t, q⟩ := (show ∃ t, u = Value.int i t from rx); cases q; exact PySem.W.kia_one PySem.W.kitx_int I.kIn True.intro e (fun z => nomatch z) h
 | str y => obtain ⟨t, q⟩ := (show ∃ t, u = Value.str y t from rx); cases q; exact PySem.W.kia_one PySem.W.kitx_str I.kIn True.intro e (fun z => nomatch z) h
 | flt y => obtain ⟨t, q⟩ := (show ∃ t, u = Value.float y t from rx); cases q; exact PySem.W.kia_one PySem.W.kitx_float I.kIn True.intro e (fun z => nomatch z) h
 | @lst a xs ea =>
  cases (show u = Value.ref a from rx)
  obtain ⟨_, _, n, _, h1⟩ := (show bp X.prog X.w H s.heap a (.lst xs) from I.hok a _ ea)
  exact PySem.W.kia_one PySem.W.kitx_list I.kIn ⟨_, h1, rfl⟩ e (fun z => nomatch z) h
 | @frz a ob xs ea =>
  cases (show u = Value.ref a from rx)
  obtain ⟨_, _, _, n, _, h1⟩ := (show bp X.prog X.w H s.heap a (.frz ob (.lst xs)) from I.hok a _ ea)
  exact PySem.W.kia_one PySem.W.kitx_list I.kIn ⟨_, h1, rfl⟩ e (fun z => nomatch z) h
 | @tup a xs ea =>
  cases (show u = Value.ref a from rx)
  obtain ⟨_, _, _, p⟩ := (show bp X.prog X.w H s.heap a (.tup xs) from I.hok a _ ea)
  obtain ⟨o, h1, h2, _⟩ := p
  exact PySem.W.kia_one PySem.W.kitx_tuple I.kIn ⟨o, h1, h2⟩ e (fun z => nomatch z) h
 | @dK a kvs ea =>
  cases (show u = Value.ref a from rx)
  obtain ⟨_, _, vs, _, p⟩ := (show bp X.prog X.w H s.heap a (.dK kvs) from I.hok a _ ea)
  obtain ⟨o, es, ep, h1, h2, _⟩ := p
  exact PySem.W.kia_one PySem.W.kitx_dict I.kIn ⟨o, h1, h2.1⟩ e (fun z => nomatch z) h
 | @dT a kvs ea =>
  cases (show u = Value.ref a from rx)
  obtain ⟨_, _, xs, _, o, es, ep, h1, h2, _⟩ := (show bp X.prog X.w H s.heap a (.dT kvs) from I.hok a _ ea)
  exact PySem.W.kia_one PySem.W.kitx_dict I.kIn ⟨o, h1, h2.1⟩ e (fun z => nomatch z) h
 | @ins a C dx fs ea cl ha hn htk hm =>
  cases (show u = Value.ref a from rx)
  obtain ⟨mA, O, _⟩ := tH I.hok ea
  obtain ⟨od, J, _⟩ := O.look
  exact PySem.W.kia_one (PySem.W.kitx_own (cl.get _) cl.hd ha hn htk hm) I.kIn J e (fun z => nomatch z) h
end
structure ff (k : Nat) (A : Around) : Prop where
 hd : A.handled = none
 dp : A.depth + 3 * k + 5 < recursionLimit
 un : A.units + 16 * k + 200 < cLine
theorem ff.mono {j k : Nat} {A : Around} (r : ff k A) (h : j ≤ k) : ff j A := ⟨r.hd, by have := r.dp; omega, by have := r.un; omega⟩
theorem ff.deeper {k : Nat} {A : Around} (r : ff (k + 1) A) (env : Env) : ff k (A.deeper env) :=
 ⟨r.hd, by have := r.dp; show A.depth + 1 + 3 * k + 5 < _; omega, by have := r.un; show A.units + 3 + 16 * k + 200 < _; omega⟩
theorem ff.depth {k : Nat} {A : Around} (r : ff k A) : A.depth < recursionLimit := by have := r.dp; omega
theorem ff.units {k : Nat} {A : Around} (r : ff k A) : A.units + 64 < cLine := by have := r.un; omega
noncomputable def zK : TA := fun _ H Q => Q [] H
noncomputable def vh (ta : TE) (tr : TA) : TA := fun σ H Q => ta σ H fun x H1 => tr σ H1 fun xs H2 => Q (x :: xs) H2
section
variable {X : Cx} {e : Expr} {es : List Expr} {te : TE} {t : TA} {pos : Pos}
theorem vX : PA X [] zK := fun _ _ _ _ H Q I h => Calls.spliced_nil ⟨[], H, I, .nil, h⟩
theorem sV (ha : PE X e te) (hr : PA X es t) (hs : starEach (e :: es) X.env = (false, eval e X.env) :: starEach es X.env := by rfl) : PA X (e :: es) (vh te t) := by
 intro pos pins s σ H Q I h
 rw [hs]
 show wpAny _ _ (spliced ((false, eval e X.env) :: backTo pos (starEach es X.env))) _ _ s
 refine Calls.spliced_cons (thn (ha pins s σ H _ I h) fun u s1 hz => ?_)
 obtain ⟨x, H1, I1, r1, q1⟩ := hz
 exact thn (hr pos pins s1 σ H1 _ I1 q1) fun us s2 ⟨xs, H2, I2, r2, q2⟩ => ⟨x :: xs, H2, I2, .cons r1 r2, q2⟩
noncomputable def zG (t : TA) : TE := fun σ H Q => t σ H fun xs H1 => xs.length ≤ sizeLine ∧ ∀ p, H1 p = none → Q (.ref p) (upd H1 p (.tup xs))
noncomputable def zL (t : TA) : TE := fun σ H Q => t σ H fun xs H1 => xs.length ≤ sizeLine ∧ ∀ p, H1 p = none → Q (.ref p) (upd H1 p (.lst xs))
theorem vQ {x1} (h : PA X es t) : PE X (.Tuple es x1 pos) (zG t) := by
 intro pins s σ H Q I hq
 refine wpAny_Tuple_spliced (thn (h pos pins s σ H _ I hq) fun us s1 ⟨xs, H1, I1, r, z, q⟩ => ⟨by rw [← r.length]; exact z, ?_⟩)
 have hf : H1 s1.heap.objs.size = none := I1.hok.fresh (Nat.le_refl _)
 refine ⟨.ref s1.heap.objs.size, upd H1 s1.heap.objs.size (.tup xs), I1.laid (t' := s1.toks) (fun b u e => Heap.get?_push_of_some _ e) (Nat.le_refl _) ?_, rfl, q _ hf⟩
 exact ⟨z, us, r, ⟨_, Heap.get?_push_size _ rfl, rfl, _, rfl⟩⟩
theorem vT (h : PA X es t) : PE X (.List es pos) (zL t) := by
 intro pins s σ H Q I hq
 refine wpAny_List_spliced (thn (h pos pins s σ H _ I hq) fun us s1 ⟨xs, H1, I1, r, z, q⟩ => ⟨by rw [← r.length]; exact z, ?_⟩)
 have hf : H1 s1.heap.objs.size = none := I1.hok.fresh (Nat.le_refl _)
 refine ⟨.ref s1.heap.objs.size, upd H1 s1.heap.objs.size (.lst xs), I1.laid (t' := s1.toks) (fun b u e => Heap.get?_push_of_some _ e) (Nat.le_refl _) ?_, rfl, q _ hf⟩
 exact ⟨z, us, 0, r, Heap.get?_push_size _ rfl⟩
end
noncomputable abbrev Sp := List V → Hp → VK → XK → Prop
noncomputable abbrev CXT := List Env → Hp → Shared → XK → Value → Shared → Prop
structure xD (P : Program) (w : World) (K : PySem.W.Frag) (mg : Str → Option Value) (base : Heap) (A : Around) (outer : List Env) (s : Shared) (H : Hp) : Prop where
 frames : A.frames = some outer
 mod : Mod K mg base
 bs : ∀ b o, base.get? b = some o → s.heap.get? b = some o ∧ H b = none
 bsz : base.objs.size ≤ s.heap.objs.size
 funs : s.heap.FunFrames base outer
 frf : ∀ b ∈ frs outer, H b = none
 hok : HOk P w H s.heap
 bare : AllBare s.gens
noncomputable def CE (outer : List Env) (P : Program) (w : World) (H : Hp) (s : Shared) (Q : VK) (u : Value) (s' : Shared) : Prop :=
 ∃ v H', s'.os = s.os ∧ AllBare s'.gens ∧ Un (frs outer) [] H H' s.heap s'.heap ∧ HOk P w H' s'.heap ∧ bq v u ∧ Q v H'
noncomputable def CR (CX : CXT) (outer : List Env) (P : Program) (w : World) (H : Hp) (s : Shared) (Q : VK) (E : XK) (r : Result) (s' : Shared) : Prop :=
 match r with
 | .ok (.ret u) => CE outer P w H s Q u s'
 | .ok _ => False
 | .error e => CX outer H s E e s'
structure kC (P : Program) (w : World) (K : PySem.W.Frag) (mg : Str → Option Value) (base : Heap) (CX : CXT) (k : Nat) (f : Addr) (fd : FuncData) (ps : List Str) (sp : Sp) : Prop where
 len : ∀ vs H Q E, sp vs H Q E → vs.length = ps.length
 run : ∀ (A : Around) (outer : List Env) (s : Shared) (H : Hp) (args : Args) (us : List Value) (vs : List V) (Q : VK) (E : XK), ff k A → xD P w K mg base A outer s H → BindsTo s fd args (ps.zip us) → aQ vs us → sp vs H Q E →
  codeAny (model P w) A (.call (.ref f) args) (CR CX outer P w H s Q E) s
theorem kC.mono {P : Program} {w : World} {K : PySem.W.Frag} {mg : Str → Option Value} {base : Heap} {CX : CXT} {j k : Nat} {f : Addr} {fd : FuncData} {ps : List Str} {sp : Sp} (F : kC P w K mg base CX j f fd ps sp) (h : j ≤ k) :
  kC P w K mg base CX k f fd ps sp := ⟨F.len, fun A outer s H args us vs Q E hr => F.run A outer s H args us vs Q E (hr.mono h)⟩
section
variable {X : Cx} {pins : List (Addr × Obj)} {σ : St} {H : Hp} {s s' : Shared}
theorem Inv.env0 (I : Inv X pins σ H s) : xD X.prog X.w X.K X.mg X.base X.A X.stack s H :=
 ⟨I.ok.frames, I.ok.mod, I.bs, Nat.le_trans I.ok.bsz I.sz, I.stack, I.stkFree, I.hok, I.bare⟩
theorem Inv.after {Q : VK} {u : Value} (I : Inv X pins σ H s) (h : CE X.stack X.prog X.w H s Q u s') : EP X pins σ Q u s' := by
 obtain ⟨v, H', os, bare, un, hok, r, q⟩ := h
 obtain ⟨hh, g, d, t, os'⟩ := s'
 obtain rfl : os' = s.os := os
 exact ⟨v, H', I.call (h' := hh) (g' := g) (d' := d) (t' := t) (ch := []) un hok bare (fun b z => absurd z (by simp)), r, q⟩
end
noncomputable def vi (sp : Sp) (dvs : List V) (E : XK) (t : TA) : TE := fun σ H Q => t σ H fun vs H1 => sp (vs ++ dvs) H1 Q E
noncomputable def jH (K : PySem.W.Frag) (fd : FuncData) (ps : List Str) (ds : List Value) : Prop :=
 ∀ (s : Shared) (us : List Value), K.In s.heap → (us ++ ds).length = ps.length → BindsTo s fd ⟨us, []⟩ (ps.zip (us ++ ds))
theorem jH.all {K : PySem.W.Frag} {fd : FuncData} {ps : List Str} (h : ∀ us : List Value, us.length = ps.length → bindArgs fd ⟨us, []⟩ = pure (ps.zip us)) : jH K fd ps [] := fun s us _ hl => by
 rw [List.append_nil] at hl ⊢
 exact .of_eq (h us hl)
noncomputable def ot (CX : CXT) (X : Cx) (E : XK) : Prop := ∀ (pins : List (Addr × Obj)) (σ : St) (H : Hp) (s : Shared) (e : Value) (s' : Shared), Inv X pins σ H s → CX X.stack H s E e s' → X.xe e s'
section
variable {X : Cx} {CX : CXT} {k : Nat} {f C : Addr} {fd : FuncData} {ps : List Str} {sp : Sp} {dvs : List V} {ds : List Value} {E : XK} {x m : Str} {p pos apos : Pos} {e o : Expr} {es : List Expr} {ta : TE} {t : TA}
theorem vq {pins : List (Addr × Obj)} {σ : St} {H : Hp} {s : Shared} {Q : VK} {us : List Value} {vs : List V} (F : kC X.prog X.w X.K X.mg X.base CX k f fd ps sp) (hr : ff k X.A) (hb : jH X.K fd ps ds) (hd : aQ dvs ds) (hx : ot CX X E)
  (I : Inv X pins σ H s) (r : aQ vs us) (h : sp (vs ++ dvs) H Q E) : wpAny (model X.prog X.w) X.A (call (.ref f) us) (EP X pins σ Q) X.xe s := by
 have r2 : aQ (vs ++ dvs) (us ++ ds) := r.append hd
 have hl : (us ++ ds).length = ps.length := by rw [← r2.length]; exact F.len _ _ _ _ h
 refine wpAny_call (codeAny_mono (F.run X.A X.stack s H ⟨us, []⟩ (us ++ ds) (vs ++ dvs) Q E hr I.env0 (hb s us I.kIn hl) r2 h) fun r s' hq => ?_)
 cases r with
 | error e => exact hx pins σ H s e s' I hq
 | ok fl =>
  cases fl with
  | ret u => exact I.after hq
  | next => exact False.elim hq
  | brk => exact False.elim hq
  | cont => exact False.elim hq
theorem sT (F : kC X.prog X.w X.K X.mg X.base CX k f fd ps sp) (hr : ff k X.A) (hg : Gl X x) (hm : X.mg x = some (.ref f)) (hk : PySem.W.keepIn X.K (.ref f) = true) (hb : jH X.K fd ps ds) (hd : aQ dvs ds) (hx : ot CX X E)
  (ha : PA X (e :: es) t) (hdb : (x == ("__debug__" : Str)) = false := by decide) (he : starEach (e :: es) X.env = (false, eval e X.env) :: starEach es X.env := by rfl) (hpl : (backTo pos (starEach es X.env)).any (·.1) = false := by rfl) :
  PE X (.Call (.Name x p) (e :: es) [] pos) (vi sp dvs E t) := by
 intro pins s σ H Q I h
 refine wpAny_Call_Name_kw (ni I hg hm ?_ hdb)
 refine PySem.W.callWith_K (h₀ := X.base) I.ok.mod.kin hk (thn (ha pos pins s σ H _ I h) fun us s1 ⟨vs, H1, I1, r, q⟩ => ⟨I1.kIn, ?_⟩) he hpl
 exact vq F hr hb hd hx I1 r q
end
structure bz (N P : List Str) (sc : Scope) : Prop where
 kind : sc.kind = .function
 co : sc.isCoroutine = false
 gen : sc.isGenerator = false
 nd : N.Nodup
 pre : N.take P.length = P
 par : ∀ x ∈ P, sc.names.lookup x = some .local ∨ sc.names.lookup x = some .cell
 nofree : ∀ y ∈ sc.names, y.2 ≠ .free
theorem iL {kindOf : Str → Option NameKind} {x : Str} : ∀ {binds : List (Str × Value)} {m : Str → Option Value}, (∀ v, (x, v) ∉ binds) → bindL kindOf binds m x = m x
 | [], _, _ => rfl
 | (n, v) :: r, m, h => by
  unfold bindL
  rw [iL fun w hw => h w (List.mem_cons_of_mem _ hw)]
  split
  ·have : x ≠ n := by rintro rfl; exact h v List.mem_cons_self
   simp [this]
  ·rfl
theorem iN {kindOf : Str → Option NameKind} {x : Str} : ∀ {binds : List (Str × Value)} {m : Str → Option Value}, (∀ v, (x, v) ∉ binds) → bindC kindOf binds m x = m x
 | [], _, _ => rfl
 | (n, v) :: r, m, h => by
  unfold bindC
  rw [iN fun w hw => h w (List.mem_cons_of_mem _ hw)]
  split
  ·rfl
  ·have : x ≠ n := by rintro rfl; exact h v List.mem_cons_self
   simp [this]
theorem iM {kindOf : Str → Option NameKind} {x : Str} {v : Value} : ∀ {P : List Str} {vs : List Value} {i : Nat} {m : Str → Option Value}, P.Nodup → P[i]? = some x → vs[i]? = some v → kindOf x = some .local →
  bindL kindOf (P.zip vs) m x = some v
 | [], _, _, _, _, h, _, _ => by simp at h
 | _ :: _, [], _, _, _, _, h, _ => by simp at h
 | p :: P, w :: vs, 0, m, nd, h1, h2, hk => by
  simp at h1 h2; subst h1; subst h2
  show bindL kindOf ((p, w) :: P.zip vs) m p = _
  unfold bindL
  rw [iL fun v hv => (List.nodup_cons.mp nd).1 (List.of_mem_zip hv).1, if_pos hk]
  simp
 | p :: P, w :: vs, i + 1, m, nd, h1, h2, hk => by
  show bindL kindOf ((p, w) :: P.zip vs) m x = _
  unfold bindL
  exact iM (i := i) (List.nodup_cons.mp nd).2 (by simpa using h1) (by simpa using h2) hk
theorem iO {kindOf : Str → Option NameKind} {x : Str} {v : Value} : ∀ {P : List Str} {vs : List Value} {i : Nat} {m : Str → Option Value}, P.Nodup → P[i]? = some x → vs[i]? = some v → kindOf x ≠ some .local →
  bindC kindOf (P.zip vs) m x = some v
 | [], _, _, _, _, h, _, _ => by simp at h
 | _ :: _, [], _, _, _, _, h, _ => by simp at h
 | p :: P, w :: vs, 0, m, nd, h1, h2, hk => by
  simp at h1 h2; subst h1; subst h2
  show bindC kindOf ((p, w) :: P.zip vs) m p = _
  unfold bindC
  rw [iN fun v hv => (List.nodup_cons.mp nd).1 (List.of_mem_zip hv).1, if_neg hk]
  simp
 | p :: P, w :: vs, i + 1, m, nd, h1, h2, hk => by
  show bindC kindOf ((p, w) :: P.zip vs) m x = _
  unfold bindC
  exact iO (i := i) (List.nodup_cons.mp nd).2 (by simpa using h1) (by simpa using h2) hk
noncomputable def dq (N : List Str) (vs : List V) : St := vs.map some ++ List.replicate (N.length - vs.length) none
noncomputable def oB (CX : CXT) (P : Program) (w : World) (K : PySem.W.Frag) (mg : Str → Option Value) (base : Heap) (N : List Str) (qual : Str) (scope : Scope) (f : Addr) (cd : Value) (A : Around) (outer : List Env) (s : Shared) (H : Hp) (E : XK) : Cx where
 prog := P
 w := w
 K := K
 mg := mg
 base := base
 A := A.deeper (envOfC qual scope s.heap.objs.size f cd)
 N := N
 s₀ := s
 H₀ := H
 env := envOfC qual scope s.heap.objs.size f cd
 outer := outer
 stack := envOfC qual scope s.heap.objs.size f cd :: outer
 ex := []
 calm := true
 fn := fun _ => true
 pn := []
 xe := fun e s' => wpAny (model P w) (A.deeper (envOfC qual scope s.heap.objs.size f cd)) (leaving (envOfC qual scope s.heap.objs.size f cd) e) (fun _ s'' => CX outer H s E e s'') (fun e' s'' => CX outer H s E e' s'') s'
theorem kx {sc : Scope} {n : Nat} {x : Str} (h : sc.names.lookup x = some .cell) : ∃ c, (cellsFrom n sc.names []).lookup x = some c := by
 have q := PySem.W.cellsFrom_some sc.names n [] (.inl h)
 exact Option.isSome_iff_exists.mp q
theorem nC {CX : CXT} {P : Program} {w : World} {K : PySem.W.Frag} {mg : Str → Option Value} {base : Heap} {N ps : List Str} {qual : Str} {scope : Scope} {f : Addr} {cd : Value} {A : Around} {outer : List Env} {s s1 : Shared} {H : Hp} {E : XK} {us : List Value} {vs : List V}
  (S : bz N ps scope) (hd : A.handled = none) (e0 : xD P w K mg base A outer s H) (hl : vs.length = ps.length) (r : aQ vs us)
  (x : InCallC s s.heap.objs.size (bindL (envOfC qual scope s.heap.objs.size f cd).kindOf (ps.zip us) fun _ => none) (cellsFrom (s.heap.objs.size + 1) scope.names []) (bindC (envOfC qual scope s.heap.objs.size f cd).kindOf (ps.zip us) fun _ => none) s1) :
  Inv (oB CX P w K mg base N qual scope f cd A outer s H E) [] (dq N vs) H s1 := by
 have hpl : ps.length ≤ N.length := by have := congrArg List.length S.pre; rw [List.length_take] at this; omega
 obtain ⟨h1, tk, rfl, hk⟩ := x.done
 have noA : ∀ b : Addr, b ∉ (oB CX P w K mg base N qual scope f cd A outer s H E).ex := fun b z => absurd (show b ∈ ([] : List Addr) from z) (by simp)
 refine ⟨⟨e0.mod, S.kind, rfl, rfl, Nat.le_refl _, fun y z c h1 h2 => ?_, fun y hy => ?_, fun y c _ h => ?_, fun _ => hd, Around.frames_deeper e0.frames, .inr ⟨rfl, rfl⟩, fun b z => absurd z (noA b), e0.bs, e0.bsz, fun b _ _ => noA b, fun b z => absurd z (noA b), e0.funs, e0.frf⟩,
  rfl, e0.bare, Un.kept hk, ⟨_, x.toInCall.ns, fun i y v h1 h2 h3 => ?_⟩, fun y c h => ⟨_, x.cell y c h⟩, e0.hok.fresh (Nat.le_refl _), fun y c h => ?_, fun p hp => absurd (show p ∈ ([] : List (Addr × Obj)) from hp) (by simp), e0.hok.kept hk, ?_⟩
 ·exact name_of_addr x.apart (PySem.mem_of_lookup h1) (PySem.mem_of_lookup h2)
 ·have hy : scope.names.lookup y = some .cell ∨ scope.names.lookup y = some .free := hy
  rcases hy with hy | hy
  ·exact kx hy
  ·exact absurd rfl (S.nofree _ (PySem.mem_of_lookup hy))
 ·exact Nat.le_of_lt (x.above y c (PySem.mem_of_lookup h))
 ·have hi : i < vs.length := by
   unfold dq at h2
   by_cases hi : i < vs.length
   ·exact hi
   ·rw [List.getElem?_append_right (by simpa using hi)] at h2
    rw [List.getElem?_replicate] at h2
    split at h2 <;> cases h2
  have ha : vs[i]? = some v := by
   unfold dq at h2
   rw [List.getElem?_append_left (by simpa using hi), List.getElem?_map] at h2
   cases e : vs[i]? with
   | none => rw [e] at h2; cases h2
   | some a => rw [e] at h2; cases h2; rfl
  obtain ⟨u, hu, rv⟩ := r.get ha
  have hp : ps[i]? = some y := by
   rw [← S.pre, List.getElem?_take_of_lt (by omega)]; exact h1
  have ndP : ps.Nodup := by rw [← S.pre]; exact S.nd.sublist (List.take_sublist _ _)
  refine ⟨u, rv, ?_⟩
  rcases S.par y (List.mem_of_getElem? hp) with k | k
  ·exact .inl ⟨k, iM ndP hp hu k⟩
  ·obtain ⟨c, e⟩ := kx (n := s.heap.objs.size + 1) k
   refine .inr ⟨.inl k, c, e, ?_⟩
   have q := x.cell y c e
   rw [iO ndP hp hu (by show scope.names.lookup y ≠ _; rw [k]; decide)] at q
   exact q
 ·exact e0.hok.fresh (Nat.le_of_lt (x.above y c (PySem.mem_of_lookup h)))
 ·unfold dq
  show _ = N.length
  rw [List.length_append, List.length_map, List.length_replicate]
  omega
theorem zo {CX : CXT} {P : Program} {w : World} {K : PySem.W.Frag} {mg : Str → Option Value} {base : Heap} {k : Nat} {f : Addr} {name qual : Str} {params : Arguments} {body : List Stmt} {scope : Scope} {dV kV doc pm cdv ct oc : Value} {an od : Option Addr}
  {osl : Array (Option Value)} {N ps : List Str} {sp : Sp} (lk : K.lookup f = some ⟨oc, od, .func (PySem.W.fnOf name qual params body scope dV kV doc pm an cdv ct), osl⟩) (hcd : PySem.W.codeIn K cdv qual = true) (S : bz N ps scope)
  (len : ∀ vs H Q E, sp vs H Q E → vs.length = ps.length)
  (hbody : ∀ (A : Around) (outer : List Env) (s : Shared) (H : Hp) (vs : List V) (Q : VK) (E : XK), ff k (A.deeper (envOfC qual scope s.heap.objs.size f cdv)) → sp vs H Q E →
   ∃ t, PSs (oB CX P w K mg base N qual scope f cdv A outer s H E) body t ∧ t { nx := fun _ H' => Q .non H', rt := Q } (dq N vs) H) :
  kC P w K mg base CX (k + 1) f (PySem.W.fnOf name qual params body scope dV kV doc pm an cdv ct) ps sp := by
 refine ⟨len, fun A outer s H args us vs Q E hr e0 hb r hsp => ?_⟩
 have hl := len _ _ _ _ hsp
 have KX : K.In s.heap := e0.mod.kin.keeps fun b o e => (e0.bs b o e).1
 have lim : s.heap.NoLimit := e0.mod.nolimit.keeps fun b o e => (e0.bs b o e).1
 have hkind : ∀ y ∈ ps.zip us, scope.names.lookup y.1 = some .local ∨ (scope.names.lookup y.1 = some .cell ∧ ((cellsFrom (s.heap.objs.size + 1) scope.names []).lookup y.1).isSome = true) := fun ⟨n, v⟩ hy => by
  rcases S.par n (List.of_mem_zip hy).1 with q | q
  ·exact .inl q
  ·exact .inr ⟨q, PySem.W.cellsFrom_some _ _ _ (.inl q)⟩
 refine codeAny_call_function hr.depth (KX _ _ lk) rfl S.co S.gen rfl (PySem.W.codeRec_of KX hcd) (hb _ _ _ _ ?_)
 refine wpAny_newFunctionEnv_cells S.kind hkind fun env he s1 x => ?_
 subst he
 refine ⟨lim.keeps x.toInCall.keep, codeAny_func ?_⟩
 obtain ⟨t, ht, hq⟩ := hbody A outer s H vs Q E (hr.deeper _) hsp
 have I : Inv (oB CX P w K mg base N qual scope f cdv A outer s H E) [] (dq N vs) H s1 := nC S hr.hd e0 hl r x
 refine wpAny_mono (ht [] s1 (dq N vs) H _ I hq) (fun fl s' hs => ?_) fun e s' hs => hs
 have fin : ∀ {σ' : St} {H' : Hp} {v : V} {u : Value}, Inv (oB CX P w K mg base N qual scope f cdv A outer s H E) [] σ' H' s' → bq v u → Q v H' → CE outer P w H s Q u s' :=
  fun {σ' H' v u} J rv q => ⟨v, H', J.os, J.bare, J.base, J.hok, rv, q⟩
 cases fl with
 | ret u =>
  obtain ⟨v, σ', H', J, rv, q⟩ := hs
  exact fin J rv q
 | next =>
  obtain ⟨σ', H', J, q⟩ := hs
  exact fin (v := V.non) (u := Value.none) J rfl q
 | brk =>
  obtain ⟨_, _, _, q⟩ := hs
  exact False.elim q
 | cont =>
  obtain ⟨_, _, _, q⟩ := hs
  exact False.elim q
section
variable {X : Cx} {x : Str} {p pos : Pos} {e : Expr} {es : List Expr} {t : TA} {id T : String} {r : List V → Hp → VK → Prop}
noncomputable def tCB (r : List V → Hp → VK → Prop) (t : TA) : TE := fun σ H Q => t σ H fun vs H1 => r vs H1 Q
theorem pB (hc : bX X (.builtin id) r) (hg : Gl X x) (hm : X.mg x = none) (hv : bootBuiltins x = some (.builtin id)) (ha : PA X (e :: es) t) (hn : x ≠ "__name__" := by decide) (hdb : (x == ("__debug__" : Str)) = false := by decide)
  (he : starEach (e :: es) X.env = (false, eval e X.env) :: starEach es X.env := by rfl) (hpl : (backTo pos (starEach es X.env)).any (·.1) = false := by rfl) : PE X (.Call (.Name x p) (e :: es) [] pos) (tCB r t) := by
 intro pins s σ H Q I h
 refine wpAny_Call_Name_kw (fE I hg hm hv ?_ hn hdb)
 exact PyProof.Rows.callWith_builtin1 (thn (ha pos pins s σ H _ I h) fun us s1 ⟨vs, H1, I1, r1, q1⟩ => hc pins s1 σ H1 vs us Q I1 r1 q1) he hpl
theorem mN (hc : bX X (.type T) r) (hg : Gl X x) (hm : X.mg x = none) (hv : bootBuiltins x = some (.type T)) (ha : PA X (e :: es) t) (hn : x ≠ "__name__" := by decide) (hdb : (x == ("__debug__" : Str)) = false := by decide)
  (he : starEach (e :: es) X.env = (false, eval e X.env) :: starEach es X.env := by rfl) (hpl : (backTo pos (starEach es X.env)).any (·.1) = false := by rfl) : PE X (.Call (.Name x p) (e :: es) [] pos) (tCB r t) := by
 intro pins s σ H Q I h
 refine wpAny_Call_Name_kw (fE I hg hm hv ?_ hn hdb)
 exact PyProof.Rows.callWith_type1 (thn (ha pos pins s σ H _ I h) fun us s1 ⟨vs, H1, I1, r1, q1⟩ => hc pins s1 σ H1 vs us Q I1 r1 q1) he hpl
end
end L2
namespace HT
open PySem PyProof.Rows
section
variable {prog : Program} {w : World} {A : Around} {E : Value → Shared → Prop} {s : Shared}
theorem cat_tup {t b : Addr} {vs ws : List Value} {Q : Value → Shared → Prop} (ht : IsTup s.heap t vs.toArray) (hb : IsTup s.heap b ws.toArray) (hv : vs ≠ [])
  (h1 : ws = [] → Q (.ref t) s) (h2 : ws ≠ [] → Q (.ref s.heap.objs.size) { s with heap := s.heap.push { cls := .type "tuple", data := .seq (vs ++ ws).toArray } })
  (hsz : vs.length + ws.length ≤ sizeLine) : wpAny (model prog w) A (binaryOp .Add (.ref t) (.ref b)) Q E s := by
 obtain ⟨⟨cls, dd, data, sl⟩, ho, hc, n, hd⟩ := id ht
 obtain ⟨⟨cls2, dd2, data2, sl2⟩, ho2, hc2, n2, hd2⟩ := id hb
 simp only at hc hd hc2 hd2
 subst hc hd hc2 hd2
 have e : vs.toArray ++ ws.toArray = (vs ++ ws).toArray := by simp
 by_cases hw : ws = []
 ·exact concat_meets ⟨_, ho, rfl⟩ ⟨_, ho2, rfl⟩ noFill_tuple_add seq_tuple_add PySem.F.slot_tuple_add PySem.F.entry_tuple_add (PySem.F.args_tuple_add_2 _ _)
   (tuple_addW1 t b vs.toArray ws.toArray n n2 dd dd2 sl sl2 (by simpa using hv) (by simp [hw])) ⟨ho, ho2, h1 hw⟩
 ·refine concat_meets ⟨_, ho, rfl⟩ ⟨_, ho2, rfl⟩ noFill_tuple_add seq_tuple_add PySem.F.slot_tuple_add PySem.F.entry_tuple_add (PySem.F.args_tuple_add_2 _ _)
   (tuple_addW2 t b vs.toArray ws.toArray n n2 dd dd2 sl sl2 (by simpa using hv) (by simpa using hw) (by rw [List.size_toArray, List.size_toArray]; exact hsz)) ⟨ho, ho2, ?_⟩
  rw [e]
  exact h2 hw
noncomputable def sIx (n d : Nat) : Option Int → Nat
 | none => d
 | some v => if v < 0 then (v + (n : Int)).toNat else min v.toNat n
theorem sIx_none (n d : Nat) : sIx n d none = d := rfl
theorem sIx_nat (n d k : Nat) : sIx n d (some (k : Int)) = min k n := by
 show (if (k : Int) < 0 then ((k : Int) + (n : Int)).toNat else min (k : Int).toNat n) = min k n
 rw [if_neg (by omega), Int.toNat_natCast]
theorem vo (n d : Nat) (hd : d ≤ n) (o : Option Int) : sIx n d o ≤ n := by
 cases o with
 | none => exact hd
 | some v =>
  show (if v < 0 then (v + (n : Int)).toNat else min v.toNat n) ≤ n
  by_cases hv : v < 0
  ·rw [if_pos hv]; omega
  ·rw [if_neg hv]; exact Nat.min_le_right _ _
theorem nR (v : Int) (n d : Nat) : (if v < 0 then max (v + (n : Int)) 0 else min v (n : Int)) = ((sIx n d (some v) : Nat) : Int) := by
 show (if v < 0 then max (v + (n : Int)) 0 else min v (n : Int)) = (((if v < 0 then (v + (n : Int)).toNat else min v.toNat n) : Nat) : Int)
 by_cases hv : v < 0
 ·simp only [if_pos hv]; omega
 ·simp only [if_neg hv]; omega
theorem lI (lo hi : Option Int) (n : Nat) : Builtin.Slice.sliceAdjust lo hi 1 (n : Int) = (((sIx n 0 lo : Nat) : Int), ((sIx n n hi : Nat) : Int)) := by
 have h1 : ¬ ((1 : Int) < 0) := by omega
 unfold Builtin.Slice.sliceAdjust
 simp only [h1, if_false]
 refine Prod.ext ?_ ?_
 ·cases lo with
  | none => rfl
  | some v => exact nR v n 0
 ·cases hi with
  | none => rfl
  | some v => exact nR v n n
theorem kS (i j : Nat) : Builtin.Slice.slicePlaces (i : Int) (j : Int) 1 = j - i := by
 unfold Builtin.Slice.slicePlaces
 have h1 : (1 : Int) > 0 := by omega
 simp only [h1, if_true, Int.ediv_one]
 split <;> omega
theorem fu {v : Value} {o : Option Int} {Q : Option Int → Shared → Prop} (p : IsPart v o) (h : Q o s) : wpAny (model prog w) A (Builtin.Slice.slicePartIndex v) Q E s := by
 cases p with
 | none => exact slicePart_none h
 | int i t => exact slicePart_int h
theorem dZ {sl : Addr} {vl vu : Value} {lo hi : Option Int} {n : Nat} {Q : Int × Int × Nat → Shared → Prop} (hs : s.heap.IsSliceOf sl vl vu .none) (pl : IsPart vl lo) (pu : IsPart vu hi)
  (h : Q (((sIx n 0 lo : Nat) : Int), 1, sIx n n hi - sIx n 0 lo) s) : wpAny (model prog w) A (Builtin.Slice.sliceApplied (.ref sl) (pure (n : Int))) Q E s := by
 obtain ⟨os, hos, hcs, hds⟩ := id hs
 unfold Builtin.Slice.sliceApplied Builtin.Slice.sliceFields
 refine wpAny_bind (wpAny_bind (wpAny_field hos hds (x := vl) rfl (wpAny_bind (wpAny_field hos hds (x := vu) rfl (wpAny_bind (wpAny_field hos hds (x := .none) rfl (wpAny_pure ?_)))))))
 refine wpAny_bind (slicePart_none ?_)
 show wpAny _ _ (if ((1 : Int) == 0) = true then _ else _) _ _ s
 rw [if_neg (by decide)]
 refine wpAny_bind (fu pl (wpAny_bind (fu pu (wpAny_bind (wpAny_pure ?_)))))
 show wpAny _ _ (match Builtin.Slice.sliceAdjust lo hi 1 (n : Int) with | (lo, hi) => pure (lo, (1 : Int), Builtin.Slice.slicePlaces lo hi 1)) _ _ s
 rw [lI lo hi n]
 show wpAny _ _ (pure (((sIx n 0 lo : Nat) : Int), (1 : Int), Builtin.Slice.slicePlaces ((sIx n 0 lo : Nat) : Int) ((sIx n n hi : Nat) : Int) 1)) _ _ s
 rw [kS]
 exact wpAny_pure h
theorem pq (xs : Array Value) (i k : Nat) : ((List.range k).filterMap fun (m : Nat) => xs[((i : Int) + (m : Int) * 1).toNat]?).toArray = ((xs.toList.drop i).take k).toArray := by
 have e : (fun (m : Nat) => xs[((i : Int) + (m : Int) * 1).toNat]?) = fun m => xs[i + m]? := by
  funext m
  have : ((i : Int) + (m : Int) * 1).toNat = i + m := by omega
  rw [this]
 rw [e]
 have := pick_run xs i k
 rw [List.filterMap_map] at this
 have e2 : ((fun x => xs[x]?) ∘ fun x => i + x) = fun m => xs[i + m]? := rfl
 rw [e2] at this
 rw [this]
theorem getItem_tuple_cut {t sl : Addr} {items : Array Value} {vl vu : Value} {lo hi : Option Int} {Q : Value → Shared → Prop} (ht : IsTup s.heap t items) (hs : s.heap.IsSliceOf sl vl vu .none) (pl : IsPart vl lo) (pu : IsPart vu hi)
  (hw : ¬ (sIx items.size 0 lo = 0 ∧ sIx items.size items.size hi = items.size))
  (h : Q (.ref s.heap.objs.size) { s with heap := s.heap.push { cls := .type "tuple", data := .seq ((items.toList.drop (sIx items.size 0 lo)).take (sIx items.size items.size hi - sIx items.size 0 lo)).toArray } })
  (hsz : items.size ≤ sizeLine) : wpAny (model prog w) A (getItem (.ref t) (.ref sl)) Q E s := by
 have htake : sizeOk (.seq ((items.toList.drop (sIx items.size 0 lo)).take (sIx items.size items.size hi - sIx items.size 0 lo)).toArray) := by
  show ((items.toList.drop (sIx items.size 0 lo)).take (sIx items.size items.size hi - sIx items.size 0 lo)).toArray.size ≤ sizeLine
  rw [List.size_toArray, List.length_take, List.length_drop, Array.length_toList]
  omega
 have hj : sIx items.size items.size hi ≤ items.size := vo _ _ (Nat.le_refl _) hi
 obtain ⟨os, hos, hcs, hds⟩ := id hs
 have hTs : s.TypeIs (.ref sl) "slice" := ⟨os, hos, hcs⟩
 unfold getItem
 try with_reducible refine wpAny_holding ?_
 first | refine wpAny_bind (wpAny_pure ?_) | skip
 refine wpAny_bind (wpAny_sequenceKey ht.typeIs (by decide) ?_)
 refine wpAny_bind (wpAny_callSpecial?_slot (name := Str.ofString "__getitem__") ht.typeIs PyProof.Rows.slot_tuple_getitem
  (wpAny_call_entry PyProof.Rows.slot_tuple_getitem ht.typeIs entry_tuple_getitem ?_ (args_tuple_getitem _ _)))
 show wpAny _ _ (Builtin.Tuple.tupleItemsOf (.ref t) >>= _) _ _ s
 refine wpAny_bind (tupleItemsOf_ ht ?_)
 refine wpAny_bind (wpAny_typeOf hTs ?_)
 rw [if_pos (by decide)]
 refine wpAny_bind (dZ hs pl pu ?_)
 have hno : ¬ ((((sIx items.size 0 lo : Nat) : Int) == 0 && (1 : Int) == 1 && (sIx items.size items.size hi - sIx items.size 0 lo) == items.size) = true) := by
  intro q
  rw [Bool.and_eq_true, Bool.and_eq_true] at q
  have q1 : ((sIx items.size 0 lo : Nat) : Int) = 0 := eq_of_beq q.1.1
  have q2 : sIx items.size items.size hi - sIx items.size 0 lo = items.size := eq_of_beq q.2
  exact hw ⟨by omega, by omega⟩
 show wpAny _ _ (if (((sIx items.size 0 lo : Nat) : Int) == 0 && (1 : Int) == 1 && (sIx items.size items.size hi - sIx items.size 0 lo) == items.size) = true then _ else _) _ _ s
 rw [if_neg hno, pq]
 first
  | exact wpAny_bind (m := Builtin.Tuple.tupleExact _) (wpAny_newObj_type (wpAny_pure ⟨_, rfl, wpAny_pure h⟩) htake)
  | exact wpAny_bind (m := Builtin.Tuple.tupleExact _) (wpAny_newObj_type (wpAny_bind (wpAny_pure (wpAny_pure ⟨_, rfl, wpAny_pure h⟩))) htake)
  | exact wpAny_bind (wpAny_bind (m := Builtin.Tuple.tupleExact _) (wpAny_newObj_type (wpAny_pure (wpAny_pure ⟨_, rfl, wpAny_pure h⟩)) htake))
  | exact wpAny_bind (wpAny_bind (m := Builtin.Tuple.tupleExact _) (wpAny_newObj_type (wpAny_pure ⟨_, rfl, wpAny_pure h⟩) htake))
end
end HT
namespace L2
open PySem PySem.Spec PyProof.Rows
noncomputable abbrev TO := St → Hp → (Option Int → Hp → Prop) → Prop
noncomputable def PO (X : Cx) (e : Option Expr) (t : TO) : Prop :=
 ∀ (pins : List (Addr × Obj)) (s : Shared) (σ : St) (H : Hp) (Q : Option Int → Hp → Prop), Inv X pins σ H s → t σ H Q →
  wpAny (model X.prog X.w) X.A (evalPart e X.env) (fun u s' => ∃ o H', Inv X pins σ H' s' ∧ IsPart u o ∧ Q o H') X.xe s
noncomputable def mv : TO := fun _ H Q => Q none H
noncomputable def va (t : TE) : TO := fun σ H Q => t σ H fun x H1 => ∃ i, x = .int i ∧ Q (some i) H1
section
variable {X : Cx} {e : Expr} {te : TE} {lo hi : Option Expr} {tl th : TO} {pos p2 : Pos}
theorem sM : PO X none mv := by
 intro pins s σ H Q I h
 rw [evalPart_none]
 exact wpAny_pure ⟨none, H, I, .none, h⟩
theorem sL (h : PE X e te) : PO X (some e) (va te) := by
 intro pins s σ H Q I hw
 rw [evalPart_some]
 refine thn (h pins s σ H _ I hw) fun u s1 hz => ?_
 obtain ⟨x, H1, I1, r1, q1⟩ := hz
 obtain ⟨i, rfl, q⟩ := q1
 obtain ⟨t, rfl⟩ := r1
 exact ⟨some i, H1, I1, .int i t, q⟩
noncomputable def SlR (X : Cx) (r : V → Option Int → Option Int → Hp → VK → Prop) : Prop :=
 ∀ (pins : List (Addr × Obj)) (s : Shared) (σ : St) (H : Hp) (x : V) (v vl vu : Value) (lo hi : Option Int) (sl : Addr) (Q : VK), Inv X pins σ H s → bq x v → s.heap.IsSliceOf sl vl vu .none → IsPart vl lo → IsPart vu hi → r x lo hi H Q →
  ∃ T id, typeLookup (.type T) "__getitem__" = pure (some (.builtin id)) ∧ s.TypeIs v T ∧ wpAny (model X.prog X.w) X.A (getItem v (.ref sl)) (EP X pins σ Q) X.xe s
theorem SlR.or {r r' : V → Option Int → Option Int → Hp → VK → Prop} (h : SlR X r) (h' : SlR X r') : SlR X (fun x lo hi H Q => r x lo hi H Q ∨ r' x lo hi H Q) := by
 intro pins s σ H x v vl vu lo hi sl Q I rx hs pl pu q
 rcases q with q | q
 ·exact h pins s σ H x v vl vu lo hi sl Q I rx hs pl pu q
 ·exact h' pins s σ H x v vl vu lo hi sl Q I rx hs pl pu q
noncomputable def tSl (r : V → Option Int → Option Int → Hp → VK → Prop) (te : TE) (tl th : TO) : TE := fun σ H Q => te σ H fun x H1 => tl σ H1 fun l H2 => th σ H2 fun u H3 => r x l u H3 Q
theorem pz {r : V → Option Int → Option Int → Hp → VK → Prop} (hr : SlR X r) (he : PE X e te) (hl : PO X lo tl) (hu : PO X hi th) : PE X (.Subscript e (.Slice lo hi none p2) pos) (tSl r te tl th) := by
 intro pins s σ H Q I h
 refine Subscript_ (thn (he pins s σ H _ I h) fun v s1 hz => ?_)
 obtain ⟨x, H1, I1, r1, q1⟩ := hz
 refine wpAny_Slice (thn (hl pins s1 σ H1 _ I1 q1) fun vl s2 ⟨l, H2, I2, pl, q2⟩ => thn (hu pins s2 σ H2 _ I2 q2) fun vu s3 hz => ?_)
 obtain ⟨u, H3, I3, pu, q3⟩ := hz
 rw [evalPart_none]
 refine wpAny_pure ?_
 have I4 : Inv X pins σ H3 { s3 with heap := s3.heap.push { cls := .type "slice", data := .fields #[vl, vu, .none] } } := I3.kept (t' := s3.toks) fun b ob q => Heap.get?_push_of_some _ q
 obtain ⟨T, id, hT, ht, hg⟩ := hr pins { s3 with heap := s3.heap.push { cls := .type "slice", data := .fields #[vl, vu, .none] } } σ H3 x v vl vu l u s3.heap.objs.size Q I4 r1 (Heap.IsSliceOf.new ..) pl pu q3
 show wpAny (model X.prog X.w) X.A (subscriptTail e (.Slice lo hi none p2) v (.ref s3.heap.objs.size)) (EP X pins σ Q) X.xe { s3 with heap := s3.heap.push { cls := .type "slice", data := .fields #[vl, vu, .none] } }
 exact tail_any (ops := [.ref s3.heap.objs.size, v]) ht hT hg (by with_unfolding_all rfl)
noncomputable def qM (xs : List V) (lo hi : Option Int) : List V := (xs.drop (HT.sIx xs.length 0 lo)).take (HT.sIx xs.length xs.length hi - HT.sIx xs.length 0 lo)
theorem eY (xs : List V) (lo hi : Option Int) : (qM xs lo hi).length ≤ xs.length := by
 unfold qM
 rw [List.length_take, List.length_drop]
 omega
noncomputable def Ar (K : PySem.W.Frag) : V → Option Int → Option Int → Hp → VK → Prop := fun x lo hi H Q => ∃ a xs, x = .ref a ∧ SqT K H a xs ∧
 ¬ (HT.sIx xs.length 0 lo = 0 ∧ HT.sIx xs.length xs.length hi = xs.length) ∧ ∀ p, H p = none → Q (.ref p) (upd H p (.tup (qM xs lo hi)))
theorem vk : SlR X (Ar X.K) := by
 intro pins s σ H x v vl vu lo hi sl Q I rx hs pl pu h
 obtain ⟨a, xs, rfl, hx, hw, q⟩ := h
 cases rx
 obtain ⟨its, r, ht, hz⟩ := I.tuple hx
 have cH : its.toArray.size = xs.length := by rw [List.size_toArray]; exact r.length.symm
 refine ⟨"tuple", _, PyProof.Rows.slot_tuple_getitem.lookup, ht.typeIs, ?_⟩
 refine HT.getItem_tuple_cut ht hs pl pu (by rw [cH]; exact hw) ?_ (by rw [cH]; exact hz)
 rw [cH]
 refine ⟨.ref s.heap.objs.size, _, I.laid (t' := s.toks) (o := .tup (qM xs lo hi)) (fun b ob q => Heap.get?_push_of_some _ q) (Nat.le_refl _) ?_, rfl, q _ (I.hok.fresh (Nat.le_refl _))⟩
 exact ⟨Nat.le_trans (eY xs lo hi) hz, _, (r.drop (HT.sIx xs.length 0 lo)).take (HT.sIx xs.length xs.length hi - HT.sIx xs.length 0 lo), IsTup.new _ _⟩
noncomputable def yI (K : PySem.W.Frag) : R2 := fun x y H Q => ∃ a b xs ys, x = .ref a ∧ y = .ref b ∧ SqT K H a xs ∧ SqT K H b ys ∧ xs ≠ [] ∧ xs.length + ys.length ≤ sizeLine ∧
 (ys = [] → Q (.ref a) H) ∧ (ys ≠ [] → ∀ p, H p = none → Q (.ref p) (upd H p (.tup (xs ++ ys))))
theorem aQ.nil_iff {xs : List V} {us : List Value} (r : aQ xs us) : us = [] ↔ xs = [] := by
 cases r with
 | nil => simp
 | cons _ _ => simp
theorem sY : OpR X (binaryOp .Add) (yI X.K) := by
 intro pins s σ H x y v u Q I rx ry h
 obtain ⟨a, b, xs, ys, rfl, rfl, ha, hb, hx, hz, q1, q2⟩ := h
 cases rx
 cases ry
 obtain ⟨its, r1, p1, _⟩ := I.tuple ha
 obtain ⟨its2, r2, p2, _⟩ := I.tuple hb
 refine HT.cat_tup p1 p2 (fun z => hx (r1.nil_iff.mp z)) (fun z => ⟨.ref a, H, I, rfl, q1 (r2.nil_iff.mp z)⟩) (fun z => ?_) (by rw [← r1.length, ← r2.length]; exact hz)
 refine ⟨.ref s.heap.objs.size, _, I.laid (t' := s.toks) (o := .tup (xs ++ ys)) (fun b ob q => Heap.get?_push_of_some _ q) (Nat.le_refl _) ?_, rfl, q2 (fun w => z (r2.nil_iff.mpr w)) _ (I.hok.fresh (Nat.le_refl _))⟩
 exact ⟨by rw [List.length_append]; exact hz, _, r1.append r2, IsTup.new _ _⟩
end
noncomputable def ixN (n : Nat) (i : Int) : Option Nat := if 0 ≤ i then (if i < n then some i.toNat else none) else if -(n : Int) ≤ i then some (i + n).toNat else none
noncomputable def atI {α : Type} (xs : List α) (i : Int) : Option α := (ixN xs.length i).bind fun j => xs[j]?
theorem nv {n : Nat} {i : Int} {j : Nat} (h : ixN n i = some j) : seqIndex? i n = some j ∧ j < n ∧ -(n : Int) ≤ i ∧ i < n := by
 unfold ixN at h
 by_cases h0 : 0 ≤ i
 ·rw [if_pos h0] at h
  by_cases h1 : i < n
  ·rw [if_pos h1] at h
   have e : i.toNat = j := Option.some.inj h
   exact ⟨by rw [seqIndex_of h0 h1, e], by omega, by omega, h1⟩
  ·rw [if_neg h1] at h; cases h
 ·rw [if_neg h0] at h
  by_cases h1 : -(n : Int) ≤ i
  ·rw [if_pos h1] at h
   have e : (i + n).toNat = j := Option.some.inj h
   exact ⟨by rw [seqIndex_neg (by omega) h1, e], by omega, h1, by omega⟩
  ·rw [if_neg h1] at h; cases h
theorem og {α : Type} {xs : List α} {i : Int} {v : α} (h : atI xs i = some v) : ∃ j, seqIndex? i xs.length = some j ∧ xs[j]? = some v ∧ j < xs.length ∧ -(xs.length : Int) ≤ i ∧ i < xs.length := by
 unfold atI at h
 cases e : ixN xs.length i with
 | none => rw [e] at h; cases h
 | some j =>
  rw [e] at h
  obtain ⟨h1, h2, h3, h4⟩ := nv e
  exact ⟨j, h1, h, h2, h3, h4⟩
theorem dh {α : Type} {xs : List α} {j : Nat} {v : α} (h : xs[j]? = some v) : atI xs (j : Int) = some v := by
 have hj : j < xs.length := (List.getElem?_eq_some_iff.mp h).1
 have e : ixN xs.length (j : Int) = some j := by
  unfold ixN
  rw [if_pos (by omega), if_pos (by omega)]; simp
 unfold atI; rw [e]; exact h
noncomputable def jF (b : Expr) : Prop := ∀ o i, subscripted b false o i = operate [o, i] (getItem o i)
noncomputable def IxR (X : Cx) (r : R2) : Prop :=
 ∀ (value slice : Expr) (pins : List (Addr × Obj)) (s : Shared) (σ : St) (H : Hp) (x y : V) (v u : Value) (Q : VK), Inv X pins σ H s → bq x v → bq y u → r x y H Q →
  subscripted slice false v u = operate [v, u] (getItem v u) → wpAny (model X.prog X.w) X.A (subscriptTail value slice v u) (EP X pins σ Q) X.xe s
noncomputable def MtR (X : Cx) (id : String) (r : V → List V → Hp → VK → Prop) : Prop :=
 ∀ (pins : List (Addr × Obj)) (s : Shared) (σ : St) (H : Hp) (x : V) (xs : List V) (v : Value) (us : List Value) (Q : VK), Inv X pins σ H s → bq x v → aQ xs us → r x xs H Q →
  wpAny (model X.prog X.w) X.A (call (.builtin id) (v :: us)) (EP X pins σ Q) X.xe s
section
variable {X : Cx} {a b : Expr} {ta tb : TE} {pos : Pos}
theorem IxR.or {r r' : R2} (h : IxR X r) (h' : IxR X r') : IxR X (fun x y H Q => r x y H Q ∨ r' x y H Q) := by
 intro value slice pins s σ H x y v u Q I rx ry q hs
 rcases q with q | q
 ·exact h value slice pins s σ H x y v u Q I rx ry q hs
 ·exact h' value slice pins s σ H x y v u Q I rx ry q hs
theorem yT {r : R2} (hr : IxR X r) (ha : PE X a ta) (hb : PE X b tb) (hs : jF b) : PE X (.Subscript a b pos) (tOp r ta tb) := by
 intro pins s σ H Q I h
 exact Subscript_ (zB ha hb I h fun v u s2 x y H2 I2 rx ry q => hr a b pins s2 σ H2 x y v u Q I2 rx ry q (hs _ _))
noncomputable def Av (K : PySem.W.Frag) : R2 := fun x y H Q => ∃ p xs i v, x = .ref p ∧ y = .int i ∧ SqL K H p xs ∧ atI xs i = some v ∧ Q v H
noncomputable def Au (K : PySem.W.Frag) : R2 := fun x y H Q => ∃ p xs i v, x = .ref p ∧ y = .int i ∧ SqT K H p xs ∧ atI xs i = some v ∧ Q v H
theorem tF : IxR X (Av X.K) := by
 intro value slice pins s σ H x y v u Q I rx ry h hs
 obtain ⟨p, xs, i, z, rfl, rfl, hq, he, q⟩ := h
 cases rx
 obtain ⟨t, rfl⟩ := ry
 obtain ⟨its, r, pl, hz⟩ := I.list hq
 obtain ⟨j, h1, h2, h3, h4, h5⟩ := og he
 obtain ⟨w, ew, rw'⟩ := r.get h2
 have hl := r.length
 have hn := j8
 have fin : EP X pins σ Q w s := ⟨z, H, I, rw', q⟩
 by_cases h0 : 0 ≤ i
 ·have hj : i.toNat = j := by
   rw [seqIndex_of h0 h5] at h1
   exact Option.some.inj h1
  exact item_listR pl.isList h0 (by omega) (by rw [hj]; simpa using ew) fin hs
 ·have hj : (i + (its.toArray.size : Int)).toNat = j := by
   rw [seqIndex_neg (by omega) h4] at h1
   rw [List.size_toArray, ← hl]
   exact Option.some.inj h1
  exact subscriptTail_builtinR (x := w) pl.isList.typeIs slot_list_getitem.lookup
   (wpAny_getItem_list_neg (Q := fun r s' => r = w ∧ EP X pins σ Q r s') pl.isList (by omega) (by rw [List.size_toArray] <;> omega) (by omega) (by rw [hj]; simpa using ew) ⟨rfl, fin⟩) hs
theorem wF : IxR X (Au X.K) := by
 intro value slice pins s σ H x y v u Q I rx ry h hs
 obtain ⟨p, xs, i, z, rfl, rfl, hq, he, q⟩ := h
 cases rx
 obtain ⟨t, rfl⟩ := ry
 obtain ⟨its, r, pl, hz⟩ := I.tuple hq
 obtain ⟨j, h1, h2, h3, h4, h5⟩ := og he
 obtain ⟨w, ew, rw'⟩ := r.get h2
 have hl := r.length
 have hn := j8
 have fin : EP X pins σ Q w s := ⟨z, H, I, rw', q⟩
 exact subscriptTail_builtinR (x := w) pl.typeIs slot_tuple_getitem.lookup
  (getItem_tuple (j := j) (Q := fun r s' => r = w ∧ EP X pins σ Q r s') pl (by omega) (by omega) (by rw [List.size_toArray, ← hl]; exact h1) (by simpa using ew) ⟨rfl, fin⟩) hs
theorem kY (its : List Value) (n j : Nat) (u : Value) : Obj.mapSeq (·.setIfInBounds j u) { cls := .type "list", data := .seq its.toArray n } = { cls := .type "list", data := .seq (its.set j u).toArray n } := by
 simp [Obj.mapSeq]
theorem Inv.lst {pins : List (Addr × Obj)} {σ : St} {H : Hp} {s : Shared} {p : Addr} {xs : List V} (I : Inv X pins σ H s) (h : H p = some (.lst xs)) :
  ∃ (its : List Value) (n : Nat), aQ xs its ∧ s.heap.get? p = some { cls := .type "list", data := .seq its.toArray n } ∧ xs.length ≤ sizeLine := by
 obtain ⟨z, its, n, r, e⟩ := I.hok p _ h
 exact ⟨its, n, r, e, z⟩
theorem Inv.lstUpd {pins : List (Addr × Obj)} {σ : St} {H : Hp} {s : Shared} {p : Addr} {xs ys : List V} {its its' : List Value} {n n' : Nat} {f : Obj → Obj} (I : Inv X pins σ H s) (h : H p = some (.lst xs))
  (ho : s.heap.get? p = some { cls := .type "list", data := .seq its.toArray n }) (hf : f { cls := .type "list", data := .seq its.toArray n } = { cls := .type "list", data := .seq its'.toArray n' }) (r : aQ ys its') (hz : ys.length ≤ sizeLine) (t : Nat) :
  Inv X pins σ (upd H p (.lst ys)) { s with heap := s.heap.update p f, toks := t } := by
 have e : (s.heap.update p f).get? p = some { cls := .type "list", data := .seq its'.toArray n' } := by
  rw [Heap.get?_update_self f ho (by rw [hf] <;> rfl), hf]
 refine I.write (x := p) (e := p) (by rw [h]; trivial) (.inl rfl) (fun b u hb q => (Heap.get?_update_other _ _ (Ne.symm hb)).trans q) ⟨_, e⟩ ?_
 exact ⟨hz, its', n', r, e⟩
noncomputable def yG : V → V → V → Hp → (Hp → Prop) → Prop := fun o i v H Q => ∃ p xs k j, o = .ref p ∧ i = .int k ∧ H p = some (.lst xs) ∧ ixN xs.length k = some j ∧ Q (upd H p (.lst (xs.set j v)))
theorem o2 : zE X yG := by
 intro pins s σ H o i v ov iv u Q I ro ri rv h
 obtain ⟨p, xs, k, j, rfl, rfl, hp, hj, q⟩ := h
 cases ro
 obtain ⟨t, rfl⟩ := ri
 obtain ⟨its, n, r, ho, hz⟩ := I.lst hp
 obtain ⟨h1, h2, h3, h4⟩ := nv hj
 have hl := r.length
 have hn := j8
 have I' : Inv X pins σ (upd H p (.lst (xs.set j v))) { s with heap := s.heap.update p (Obj.mapSeq (·.setIfInBounds j u)) } :=
  I.lstUpd hp ho (kY its n j u) (r.set rv j) (by rw [List.length_set]; exact hz) s.toks
 by_cases h0 : 0 ≤ k
 ·have hk : k.toNat = j := by
   rw [seqIndex_of h0 h4] at h1
   exact Option.some.inj h1
  exact PySem.W.ki_setAt ho h0 (by omega) (by rw [List.size_toArray, ← hl]; exact h4) (by rw [hk]; exact ⟨_, I', q⟩)
 ·have hk : (k + (its.toArray.size : Int)).toNat = j := by
   rw [seqIndex_neg (by omega) h3] at h1
   rw [List.size_toArray, ← hl]
   exact Option.some.inj h1
  exact PySem.W.ki_setBack ho (by omega) (by rw [List.size_toArray, ← hl]; exact h3) (by omega) (by rw [hk]; exact ⟨_, I', q⟩)
theorem gY (lo hi : Option Int) (n : Nat) : (sliceBounds lo hi none n).1 = ((HT.sIx n 0 lo : Nat) : Int) ∧ (sliceBounds lo hi none n).2.1 = ((HT.sIx n n hi : Nat) : Int) ∧ (sliceBounds lo hi none n).2.2 = 1 := by
 refine ⟨?_, ?_, rfl⟩
 ·cases lo with
  | none => simp [sliceBounds, HT.sIx]
  | some i =>
   simp only [sliceBounds, HT.sIx, Option.getD_none, show (1 : Int) > 0 by decide, if_true]
   by_cases h : i < 0
   ·simp only [h, if_true] <;> omega
   ·simp only [h, if_false] <;> omega
 ·cases hi with
  | none => simp [sliceBounds, HT.sIx]
  | some i =>
   simp only [sliceBounds, HT.sIx, Option.getD_none, show (1 : Int) > 0 by decide, if_true]
   by_cases h : i < 0
   ·simp only [h, if_true] <;> omega
   ·simp only [h, if_false] <;> omega
theorem fY (its : List Value) (lo hi : Option Int) : slicePick its.toArray lo hi none = ((its.drop (HT.sIx its.length 0 lo)).take (HT.sIx its.length its.length hi - HT.sIx its.length 0 lo)).toArray := by
 obtain ⟨h1, h2, h3⟩ := gY lo hi its.toArray.size
 unfold slicePick
 rw [h1, h2, h3]
 simp only [sliceRange_one, pick_run, List.size_toArray] <;> rfl
noncomputable def As (K : PySem.W.Frag) : V → Option Int → Option Int → Hp → VK → Prop := fun x lo hi H Q => ∃ a xs, x = .ref a ∧ SqL K H a xs ∧ ∀ p, H p = none → Q (.ref p) (upd H p (.lst (qM xs lo hi)))
theorem sk : SlR X (As X.K) := by
 intro pins s σ H x v vl vu lo hi sl Q I rx hs pl pu h
 obtain ⟨a, xs, rfl, hx, q⟩ := h
 cases rx
 obtain ⟨its, r, ht, hz⟩ := I.list hx
 have cH := r.length
 refine ⟨"list", _, slot_list_getitem.lookup, ht.isList.typeIs, ?_⟩
 refine wpAny_getItem_list_slice ht.isList hs pl pu .none (by simp) ?_ (by rw [List.size_toArray] <;> omega)
 rw [fY, ← cH]
 refine ⟨.ref s.heap.objs.size, _, I.laid (t' := s.toks) (o := .lst (qM xs lo hi)) (fun b ob q => Heap.get?_push_of_some _ q) (Nat.le_refl _) ?_, rfl, q _ (I.hok.fresh (Nat.le_refl _))⟩
 exact ⟨Nat.le_trans (eY xs lo hi) hz, _, 0, (r.drop (HT.sIx xs.length 0 lo)).take (HT.sIx xs.length xs.length hi - HT.sIx xs.length 0 lo), Heap.get?_push_size _ rfl⟩
noncomputable def fj : V → Bool
 | .non => true
 | .bl _ => true
 | .int _ => true
 | .str _ => true
 | _ => false
noncomputable def eqV : V → V → Bool
 | .non, .non => true
 | .bl a, .bl b => a == b
 | .bl a, .int b => (if a then 1 else 0) == b
 | .int a, .bl b => a == (if b then 1 else 0)
 | .int a, .int b => a == b
 | .str a, .str b => a == b
 | _, _ => false
theorem wV {A : Around} {s : Shared} {y x : V} {u v : Value} (ry : bq y u) (rx : bq x v) (fy : fj y = true) (fx : fj x = true) : SeqAt.EqAt A s u v (eqV y x) := by
 cases y with
 | non =>
  cases ry
  cases x with
  | non => cases rx; exact SeqAt.EqAt.same _
  | bl b => cases rx; exact SeqAt.EqAt.none_bool b
  | int b => obtain ⟨t, rfl⟩ := rx; exact SeqAt.EqAt.none_int b t
  | str b => obtain ⟨t, rfl⟩ := rx; exact SeqAt.EqAt.none_str b t
  | _ => exact absurd (show false = true from fx) Bool.false_ne_true
 | bl a =>
  cases ry
  cases x with
  | non => cases rx; exact SeqAt.EqAt.bool_none a
  | bl b => cases rx; exact SeqAt.EqAt.bool_bool a b
  | int b => obtain ⟨t, rfl⟩ := rx; exact SeqAt.EqAt.bool_int a b t
  | str b => obtain ⟨t, rfl⟩ := rx; exact SeqAt.EqAt.bool_str a b t
  | _ => exact absurd (show false = true from fx) Bool.false_ne_true
 | int a =>
  obtain ⟨t', rfl⟩ := ry
  cases x with
  | non => cases rx; exact SeqAt.EqAt.int_none a t'
  | bl b => cases rx; exact SeqAt.EqAt.int_bool a t' b
  | int b => obtain ⟨t, rfl⟩ := rx; exact SeqAt.EqAt.int_int a t' b t
  | str b => obtain ⟨t, rfl⟩ := rx; exact SeqAt.EqAt.int_str a t' b t
  | _ => exact absurd (show false = true from fx) Bool.false_ne_true
 | str a =>
  obtain ⟨t', rfl⟩ := ry
  cases x with
  | non => cases rx; exact SeqAt.EqAt.str_none a t'
  | bl b => cases rx; exact SeqAt.EqAt.str_bool a t' b
  | int b => obtain ⟨t, rfl⟩ := rx; exact SeqAt.EqAt.str_int a t' b t
  | str b => obtain ⟨t, rfl⟩ := rx; exact SeqAt.EqAt.str_str a t' b t
  | _ => exact absurd (show false = true from fx) Bool.false_ne_true
 | _ => exact absurd (show false = true from fy) Bool.false_ne_true
noncomputable def eqU (x : V) (u : Value) : Bool := match u with
 | .none => eqV .non x
 | .bool b => eqV (.bl b) x
 | .int i _ => eqV (.int i) x
 | .str z _ => eqV (.str z) x
 | _ => false
theorem qI {x y : V} {u : Value} (r : bq y u) (f : fj y = true) : eqU x u = eqV y x := by
 cases y with
 | non => cases r; rfl
 | bl b => cases r; rfl
 | int i => obtain ⟨t, rfl⟩ := r; rfl
 | str z => obtain ⟨t, rfl⟩ := r; rfl
 | _ => exact absurd (show false = true from f) Bool.false_ne_true
theorem jD {x : V} : ∀ {xs : List V} {us : List Value}, aQ xs us → xs.all fj = true → us.any (eqU x) = xs.any fun y => eqV y x
 | _, _, .nil, _ => rfl
 | y :: xs, u :: us, .cons r t, f => by
  rw [List.all_cons, Bool.and_eq_true] at f
  rw [List.any_cons, List.any_cons, qI r f.1, jD t f.2]
theorem gv {A : Around} {s : Shared} {x : V} {v : Value} (rx : bq x v) (fx : fj x = true) : ∀ {xs : List V} {us : List Value}, aQ xs us → xs.all fj = true → ∀ u ∈ us, SeqAt.EqAt A s u v (eqU x u)
 | _, _, .nil, _ => fun u hu => by cases hu
 | y :: xs, u :: us, .cons r t, f => fun u' hu => by
  rw [List.all_cons, Bool.and_eq_true] at f
  rcases List.mem_cons.mp hu with rfl | hu
  ·rw [qI r f.1]; exact wV r rx f.1 fx
  ·exact gv rx fx t f.2 u' hu
noncomputable def inV (x : V) (xs : List V) : Bool := xs.any fun y => eqV y x
noncomputable def rIn (K : PySem.W.Frag) (neg : Bool) : R2 := fun x y H Q => ∃ p xs, y = .ref p ∧ (SqL K H p xs ∨ SqT K H p xs) ∧ fj x = true ∧ xs.all fj = true ∧ Q (.bl (if neg then !inV x xs else inV x xs)) H
theorem mR : OpR X (compareOp .In) (rIn X.K false) := by
 intro pins s σ H x y v u Q I rx ry h
 obtain ⟨p, xs, rfl, hq, fx, fs, q⟩ := h
 cases ry
 rcases hq with hq | hq
 ·obtain ⟨its, r, pl, hz⟩ := I.list hq
  refine SeqAt.in_listAt (eqU x) pl.isList (fun w hw => gv rx fx r fs w (by simpa using hw)) ⟨.bl _, H, I, rfl, ?_⟩
  rw [show its.toArray.any (eqU x) = its.any (eqU x) by simp, jD r fs]
  exact q
 ·obtain ⟨its, r, pl, hz⟩ := I.tuple hq
  refine SeqAt.in_tupleAt (eqU x) pl (fun w hw => gv rx fx r fs w (by simpa using hw)) ⟨.bl _, H, I, rfl, ?_⟩
  rw [show its.toArray.any (eqU x) = its.any (eqU x) by simp, jD r fs]
  exact q
theorem iG : bX X (.builtin "len") (fun xs H Q => ∃ p ys, xs = [.ref p] ∧ (SqL X.K H p ys ∨ SqT X.K H p ys) ∧ Q (.int ys.length) H) := by
 intro pins s σ H xs us Q I r h
 obtain ⟨p, ys, rfl, hq, q⟩ := h
 obtain ⟨u, rfl, rx⟩ := fT r
 cases rx
 have hn := j8
 rcases hq with hq | hq
 ·obtain ⟨its, r', pl, hz⟩ := I.list hq
  have cH := r'.length
  exact Calls.call_len_list pl.isList (by simp only [List.size_toArray] <;> omega) ⟨.int ys.length, H, I.tok _, ⟨s.toks + 1, by rw [List.size_toArray, cH]⟩, q⟩
 ·obtain ⟨its, r', pl, hz⟩ := I.tuple hq
  have cH := r'.length
  exact len_tuple pl (by simp only [List.size_toArray] <;> omega) ⟨.int ys.length, H, I.tok _, ⟨s.toks + 1, by rw [List.size_toArray, cH]⟩, q⟩
theorem bX.or {f : Value} {r r' : List V → Hp → VK → Prop} (h : bX X f r) (h' : bX X f r') : bX X f (fun xs H Q => r xs H Q ∨ r' xs H Q) := by
 intro pins s σ H xs us Q I rs q
 rcases q with q | q
 ·exact h pins s σ H xs us Q I rs q
 ·exact h' pins s σ H xs us Q I rs q
theorem iF : bX X (.type "list") (fun xs H Q => ∃ p ys, xs = [.ref p] ∧ (SqL X.K H p ys ∨ SqT X.K H p ys) ∧ ∀ l, H l = none → Q (.ref l) (upd H l (.lst ys))) := by
 intro pins s σ H xs us Q I r h
 obtain ⟨p, ys, rfl, hq, q⟩ := h
 obtain ⟨u, rfl, rx⟩ := fT r
 cases rx
 have fin : ∀ (its : List Value), aQ ys its → ys.length ≤ sizeLine → ∀ (h' : Heap) (c' : Nat), (∀ b o', s.heap.get? b = some o' → h'.get? b = some o') →
   h'.get? s.heap.objs.size = some { cls := .type "list", dict := none, data := .seq its.toArray c', slots := #[] } → EP X pins σ Q (.ref s.heap.objs.size) { s with heap := h' } := fun its r' hz h' c' kp e =>
  ⟨.ref s.heap.objs.size, _, I.laid (t' := s.toks) kp (Nat.le_refl _) (show bp X.prog X.w _ h' _ (.lst ys) from ⟨hz, its, c', r', e⟩), rfl, q _ (I.hok.fresh (Nat.le_refl _))⟩
 rcases hq with hq | hq
 ·obtain ⟨its, r', pl, hz⟩ := I.list hq
  have cH := r'.length
  obtain ⟨o, ho, hc, n, hd⟩ := pl.isList
  exact call_list_seq p (.inl rfl) ho hc hd (fun h' c' kp e => fin its r' hz h' c' kp e) (by simp only [List.size_toArray] <;> omega)
 ·obtain ⟨its, r', pl, hz⟩ := I.tuple hq
  have cH := r'.length
  obtain ⟨o, ho, hc, n, hd⟩ := pl
  exact call_list_seq p (.inr rfl) ho hc hd (fun h' c' kp e => fin its r' hz h' c' kp e) (by simp only [List.size_toArray] <;> omega)
theorem bR : bX X (.type "tuple") (fun xs H Q => ∃ p ys, xs = [.ref p] ∧ ((SqL X.K H p ys ∧ ∀ l, H l = none → Q (.ref l) (upd H l (.tup ys))) ∨ (SqT X.K H p ys ∧ Q (.ref p) H))) := by
 intro pins s σ H xs us Q I r h
 obtain ⟨p, ys, rfl, h⟩ := h
 obtain ⟨u, rfl, rx⟩ := fT r
 cases rx
 rcases h with ⟨hq, q⟩ | ⟨hq, q⟩
 ·obtain ⟨its, r', pl, hz⟩ := I.list hq
  have cH := r'.length
  refine call_tuple_list pl.isList (fun h' kp => ?_) (by simp only [List.size_toArray] <;> omega)
  have I1 : Inv X pins σ H { s with heap := h' } := I.kept (t' := s.toks) kp
  have I2 : Inv X pins σ (upd H h'.objs.size (.tup ys)) { s with heap := h'.push { cls := .type "tuple", data := .seq its.toArray } } :=
   I1.laid (t' := s.toks) (fun b o e => Heap.get?_push_of_some _ e) (Nat.le_refl _) (show bp X.prog X.w _ _ _ (.tup ys) from ⟨hz, its, r', IsTup.new _ _⟩)
  exact ⟨.ref h'.objs.size, _, I2, rfl, q _ (I1.hok.fresh (Nat.le_refl _))⟩
 ·obtain ⟨its, r', pl, hz⟩ := I.tuple hq
  exact call_tuple_same pl ⟨.ref p, H, I, rfl, q⟩
noncomputable def tyV (K : PySem.W.Frag) (T : String) (x : V) (H : Hp) : Prop := match x with
 | .str _ => T = "str"
 | .int _ => T = "int"
 | .ref p => (T = "list" ∧ ∃ xs, SqL K H p xs) ∨ (T = "tuple" ∧ ∃ o, K.lookup p = some o ∧ o.cls = .type "tuple" ∧ o.dict = none) ∨
   (T = "dict" ∧ ((∃ kvs, H p = some (.dK kvs)) ∨ ∃ kvs, H p = some (.dT kvs))) ∨ (T = "set" ∧ ∃ S n, H p = some (.set S n))
 | _ => False
theorem u6 {pins : List (Addr × Obj)} {σ : St} {H : Hp} {s : Shared} {T : String} {x : V} {v : Value} (I : Inv X pins σ H s) (r : bq x v) (ty : tyV X.K T x H) :
  s.TypeIs v T ∧ ∀ a, v = .ref a → ∃ ob, s.heap.get? a = some ob ∧ ob.dict = none := by
 cases x with
 | str z =>
  obtain ⟨t, rfl⟩ := r
  cases (show T = "str" from ty)
  exact ⟨typeIs_str s z t, fun _ e => nomatch e⟩
 | int i =>
  obtain ⟨t, rfl⟩ := r
  cases (show T = "int" from ty)
  exact ⟨typeIs_int s i t, fun _ e => nomatch e⟩
 | ref p =>
  cases r
  rcases ty with ⟨rfl, xs, hq⟩ | ⟨rfl, o, hk, hc, hd⟩ | ⟨rfl, hk⟩ | ⟨rfl, S, n, hk⟩
  ·obtain ⟨its, _, pl, _⟩ := I.list hq
   refine ⟨pl.isList.typeIs, fun a e => ?_⟩
   cases e
   obtain ⟨o, n, e, c, hd, _⟩ := pl
   exact ⟨o, e, hd⟩
  ·refine ⟨⟨o, I.kIn p o hk, hc⟩, fun a e => ?_⟩
   cases e
   exact ⟨o, I.kIn _ o hk, hd⟩
  ·have z : ∃ o, s.heap.get? p = some o ∧ o.ExactDict := by
    rcases hk with ⟨kvs, hk⟩ | ⟨kvs, hk⟩
    ·obtain ⟨_, _, _, _, o, _, _, e, ex, _⟩ := I.hok p _ hk
     exact ⟨o, e, ex⟩
    ·obtain ⟨_, _, _, _, o, _, _, e, ex, _⟩ := I.hok p _ hk
     exact ⟨o, e, ex⟩
   obtain ⟨o, e, ex⟩ := z
   refine ⟨⟨o, e, ex.1⟩, fun a e2 => ?_⟩
   cases e2
   exact ⟨o, e, ex.2.1⟩
  ·obtain ⟨o, _, _, _, e, ex, _⟩ := I.hok p _ hk
   refine ⟨⟨o, e, ex.1⟩, fun a e2 => ?_⟩
   cases e2
   exact ⟨o, e, ex.2.1⟩
 | _ => exact False.elim ty
noncomputable def tBM (K : PySem.W.Frag) (T : String) (r : V → List V → Hp → VK → Prop) (to : TE) (t : TA) : TE := fun σ H Q => to σ H fun x H1 => tyV K T x H1 ∧ t σ H1 fun xs H2 => r x xs H2 Q
variable {o e : Expr} {es : List Expr} {to : TE} {t : TA} {name : Str} {apos cpos : Pos} {T id : String} {r : V → List V → Hp → VK → Prop}
theorem yU (pa : PlainAttrs T) (slot : Slot T name id) (hty : typeOf (.builtin id) = pure (.type "method_descriptor")) (hm : MtR X id r) (ho : PE X o to) (ha : PA X (e :: es) t)
  (hbase : attributeBase o name X.env (eval o X.env) = eval o X.env := by rfl)
  (hfew : ((backTo cpos (starEach (e :: es) X.env)).all (fun x => !x.1) && (backToKw cpos (keywordEach [] X.env)).all (fun x => x.1.isSome)
   && decide ((e :: es).length + ([] : List Keyword).length + (if ([] : List Keyword).isEmpty then 0 else 1) < 30)) = true := by rfl)
  (hline : (apos.endLine == cpos.line) = true := by rfl) (hs : starEach (e :: es) X.env = (false, eval e X.env) :: starEach es X.env := by rfl) (hplain : (backTo cpos (starEach es X.env)).any (·.1) = false := by rfl) :
  PE X (.Call (.Attribute o name apos) (e :: es) [] cpos) (tBM X.K T r to t) := by
 intro pins s σ H Q I h
 refine wpAny_Call_method_late hbase hfew hline rfl (thn (ho pins s σ H _ I h) fun v s1 hz => ?_)
 obtain ⟨x, H1, I1, r1, ty, q1⟩ := hz
 obtain ⟨h1, h2⟩ := u6 I1 r1 ty
 refine ⟨T, id, pa, slot, hty, h1, h2, ?_⟩
 have hA := ha cpos pins s1 σ H1 _ I1 q1
 rw [hs] at hA ⊢
 refine Calls.callWith_builtin (by show (false || (backTo cpos (starEach es X.env)).any (·.1)) = false; rw [hplain] <;> rfl) (Calls.evalArgs_plain ?_)
 exact thn hA fun us s2 ⟨vs, H2, I2, r2, q2⟩ => hm pins s2 σ H2 x vs v us Q I2 r1 r2 q2
end
noncomputable def MtM (X : Cx) (id : String) (r : V → List V → Hp → VK → Prop) : Prop :=
 ∀ (pins : List (Addr × Obj)) (s : Shared) (σ : St) (H : Hp) (x : V) (xs : List V) (v : Value) (us : List Value) (Q : VK), Inv X pins σ H s → bq x v → aQ xs us → r x xs H Q →
  wpAny (model X.prog X.w) X.A (call (.builtin id) (v :: us)) (EP X pins σ Q) X.xe s
theorem aQ.one : ∀ {x : V} {us : List Value}, aQ [x] us → ∃ u, us = [u] ∧ bq x u
 | _, _, .cons r .nil => ⟨_, rfl, r⟩
theorem aQ.eraseIdx : ∀ {xs : List V} {us : List Value} (i : Nat), aQ xs us → aQ (xs.eraseIdx i) (us.eraseIdx i)
 | _, _, _, .nil => .nil
 | _, _, 0, .cons _ t => t
 | _, _, i + 1, .cons r t => .cons r (aQ.eraseIdx i t)
theorem hE {α : Type} : ∀ (l : List α) (i : Nat), (l.eraseIdx i).length ≤ l.length
 | [], _ => Nat.le_refl _
 | _ :: _, 0 => Nat.le_succ _
 | _ :: r, i + 1 => Nat.succ_le_succ (hE r i)
section
variable {X : Cx} {pins : List (Addr × Obj)} {σ : St} {H : Hp} {s : Shared} {l b : Addr} {xs ys zs : List V}
theorem Inv.lset {its its' : List Value} {n : Nat} {f : Array Value → Array Value} {t' : Nat} (I : Inv X pins σ H s) (hH : H l = some (.lst xs))
  (e : s.heap.get? l = some { cls := .type "list", data := .seq its.toArray n }) (hf : f its.toArray = its'.toArray) (hv : aQ ys its') (hz : ys.length ≤ sizeLine) :
  Inv X pins σ (upd H l (.lst ys)) { s with heap := s.heap.update l (Obj.mapSeq f), toks := t' } := by
 have q := PySem.IsL.update e f
 rw [hf] at q
 refine I.write (x := l) (e := l) (by rw [hH]; exact trivial) (.inl rfl) (fun b' u hb hu => (Heap.get?_update_other s.heap (Obj.mapSeq f) (Ne.symm hb)).trans hu) ⟨_, q⟩ ?_
 exact ⟨hz, its', _, hv, q⟩
theorem Inv.lnew {its : List Value} {t' : Nat} (I : Inv X pins σ H s) (hv : aQ ys its) (hz : ys.length ≤ sizeLine) :
  Inv X pins σ (upd H s.heap.objs.size (.lst ys)) { s with heap := s.heap.push { cls := .type "list", data := .seq its.toArray }, toks := t' } :=
 I.laid (fun _ _ q => Heap.get?_push_of_some _ q) (Nat.le_refl _) ⟨hz, its, 0, hv, Heap.get?_push_size _ rfl⟩
theorem Inv.fresh (I : Inv X pins σ H s) : H s.heap.objs.size = none := I.hok.fresh (Nat.le_refl _)
theorem Inv.lstM (I : Inv X pins σ H s) (hH : H l = some (.lst xs)) : xs.length ≤ sizeLine ∧ ∃ (its : List Value) (n : Nat), aQ xs its ∧ xs.length = its.length ∧ s.heap.get? l = some { cls := .type "list", data := .seq its.toArray n } := by
 obtain ⟨z, its, n, r, e⟩ := I.hok l _ hH
 exact ⟨z, its, n, r, r.length, e⟩
end
section
variable {X : Cx}
noncomputable def mH : V → List V → Hp → VK → Prop := fun x vs H Q => ∃ l xs y, x = .ref l ∧ vs = [y] ∧ H l = some (.lst xs) ∧ xs.length < sizeLine ∧ Q .non (upd H l (.lst (xs ++ [y])))
theorem eJ : MtM X "list.append" mH := by
 intro pins s σ H x vs v us Q I rx rv h
 obtain ⟨l, xs, y, rfl, rfl, hH, hz, q⟩ := h
 cases rx
 obtain ⟨u, rfl, ru⟩ := rv.one
 obtain ⟨z, its, n, r, hl, e⟩ := I.lstM hH
 refine call_meets F.slot_list_append ⟨_, e, rfl⟩ F.entry_list_append (F.args_list_append_2 _ _) (PySem.list_append l its.toArray n u (by rw [List.size_toArray]; omega)) ⟨e, ?_⟩
 refine ⟨.non, _, I.lset (its' := its ++ [u]) hH e (by simp) (r.append (.cons ru .nil)) ?_, rfl, q⟩
 rw [List.length_append, List.length_singleton]
 omega
noncomputable def qv : V → List V → Hp → VK → Prop := fun x vs H Q => ∃ l xs i k y, x = .ref l ∧ vs = [.int i] ∧ H l = some (.lst xs) ∧ -(2 ^ 63) ≤ i ∧ i < 2 ^ 63 ∧ seqIndex? i xs.length = some k ∧ xs[k]? = some y ∧ Q y (upd H l (.lst (xs.eraseIdx k)))
theorem pJ : MtM X "list.pop" qv := by
 intro pins s σ H x vs v us Q I rx rv h
 obtain ⟨l, xs, i, k, y, rfl, rfl, hH, h1, h2, hk, hy, q⟩ := h
 cases rx
 obtain ⟨u, rfl, ru⟩ := rv.one
 obtain ⟨t, rfl⟩ := ru
 obtain ⟨z, its, n, r, hl, e⟩ := I.lstM hH
 obtain ⟨w, hw, rw'⟩ := r.get hy
 refine call_meets F.slot_list_pop ⟨_, e, rfl⟩ F.entry_list_pop (F.args_list_pop_2 _ _)
  (MeetsSeq.list_pop_at l its.toArray n i t k w (fitsIndex_both h1 h2) (by rw [List.size_toArray, ← hl]; exact hk) (by rw [← Array.getElem?_toList]; exact hw) (by rw [List.size_toArray]; omega)) ⟨e, ?_⟩
 refine ⟨y, _, I.lset (its' := its.eraseIdx k) hH e ?_ (r.eraseIdx k) ?_, rw', q⟩
 ·show its.toArray.eraseIdxIfInBounds k = (its.eraseIdx k).toArray
  rw [List.eraseIdxIfInBounds_toArray]
 ·have := hE xs k
  omega
noncomputable def xj : R2 := fun x y H Q => ∃ l b xs zs, x = .ref l ∧ y = .ref b ∧ H l = some (.lst xs) ∧ H b = some (.lst zs) ∧ xs.length + zs.length ≤ sizeLine ∧ ∀ p, H p = none → Q (.ref p) (upd H p (.lst (xs ++ zs)))
theorem wc : OpR X (binaryOp .Add) xj := by
 intro pins s σ H x y v u Q I rx ry h
 obtain ⟨l, b, xs, zs, rfl, rfl, hH, hB, hz, q⟩ := h
 cases rx
 cases ry
 obtain ⟨z, its, n, r, hl, e⟩ := I.lstM hH
 obtain ⟨z2, its2, n2, r2, hl2, e2⟩ := I.lstM hB
 refine PySem.P.add_list e e2 ?_ (by rw [List.size_toArray, List.size_toArray]; omega)
 have ea : its.toArray ++ its2.toArray = (its ++ its2).toArray := by simp
 rw [ea]
 exact ⟨.ref _, _, I.lnew (t' := s.toks) (r.append r2) (by rw [List.length_append]; omega), rfl, q _ I.fresh⟩
end
section
variable {κ : Type} [DecidableEq κ]
noncomputable def fh (kvs : List (κ × V)) (k : κ) : Option V := (kvs.find? fun kv => decide (kv.1 = k)).map (·.2)
noncomputable def iS (kvs : List (κ × V)) (k : κ) (v : V) : List (κ × V) :=
 if (kvs.any fun kv => decide (kv.1 = k)) = true then kvs.map (fun kv => if kv.1 = k then (kv.1, v) else kv) else kvs ++ [(k, v)]
theorem fU {p : κ × V} {r : List (κ × V)} {k : κ} (e : p.1 = k) : fh (p :: r) k = some p.2 := by simp [fh, List.find?_cons, e]
theorem fV {p : κ × V} {r : List (κ × V)} {k : κ} (e : ¬ p.1 = k) : fh (p :: r) k = fh r k := by simp [fh, List.find?_cons, e]
theorem jQ (k : κ) : ∀ kvs : List (κ × V), (kvs.any fun kv => decide (kv.1 = k)) = (fh kvs k).isSome
 | [] => rfl
 | p :: r => by
  rw [List.any_cons]
  by_cases e : p.1 = k
  ·simp only [fU e, decide_eq_true e, Bool.true_or, Option.isSome_some]
  ·rw [fV e, decide_eq_false e, Bool.false_or]; exact jQ k r
theorem eM (kvs : List (κ × V)) (k : κ) (v : V) : (iS kvs k v).length ≤ kvs.length + 1 := by
 unfold iS
 split
 ·rw [List.length_map]; omega
 ·rw [List.length_append, List.length_cons, List.length_nil]; omega
theorem lM.isSome_eq {o : Option V} {u : Option Value} (r : lM o u) : o.isSome = u.isSome := by
 cases o with
 | none => cases u with
  | none => rfl
  | some _ => exact (show False from r).elim
 | some _ => cases u with
  | none => exact (show False from r).elim
  | some _ => rfl
theorem KV.val {kvs : List (κ × V)} {vs : List (κ × Value)} (r : KV kvs vs) (k : κ) : lM (fh kvs k) (valueAt vs k) := by
 unfold KV at r
 induction r with
 | nil => exact True.intro
 | @cons p q ps qs h t ih =>
  obtain ⟨h1, h2⟩ := h
  by_cases e : p.1 = k
  ·have e' : q.1 = k := h1.symm.trans e
   have b : valueAt (q :: qs) k = some q.2 := by simp [valueAt, List.find?_cons, e']
   rw [fU e, b]; exact h2
  ·have e' : ¬ q.1 = k := fun z => e (h1.trans z)
   have b : valueAt (q :: qs) k = valueAt qs k := by simp [valueAt, List.find?_cons, e']
   rw [fV e, b]; exact ih
theorem KV.any {kvs : List (κ × V)} {vs : List (κ × Value)} (r : KV kvs vs) (k : κ) : (kvs.any fun kv => decide (kv.1 = k)) = vs.any fun kv => decide (kv.1 = k) := by
 unfold KV at r
 induction r with
 | nil => rfl
 | cons h t ih => rw [List.any_cons, List.any_cons, ih, h.1]
theorem KV.repl {kvs : List (κ × V)} {vs : List (κ × Value)} (r : KV kvs vs) (k : κ) {y : V} {u : Value} (ry : bq y u) :
  KV (kvs.map fun kv => if kv.1 = k then (kv.1, y) else kv) (vs.map fun kv => if kv.1 = k then (kv.1, u) else kv) := by
 unfold KV at r ⊢
 induction r with
 | nil => exact .nil
 | @cons p q ps qs h t ih =>
  rw [List.map_cons, List.map_cons]
  refine .cons ?_ ih
  obtain ⟨h1, h2⟩ := h
  by_cases e : p.1 = k
  ·rw [if_pos e, if_pos (h1.symm.trans e)]; exact ⟨h1, ry⟩
  ·rw [if_neg e, if_neg (fun z => e (h1.trans z))]; exact ⟨h1, h2⟩
theorem KV.put {kvs : List (κ × V)} {vs : List (κ × Value)} (r : KV kvs vs) (k : κ) {y : V} {u : Value} (ry : bq y u) : KV (iS kvs k y) (stored vs k u) := by
 unfold iS stored
 rw [r.any k]
 by_cases e : (vs.any fun kv => decide (kv.1 = k)) = true
 ·rw [if_pos e, if_pos e]; exact r.repl k ry
 ·rw [if_neg e, if_neg e]; exact Paired.snoc r ⟨rfl, ry⟩
theorem KV.length {kvs : List (κ × V)} {vs : List (κ × Value)} (r : KV kvs vs) : kvs.length = vs.length := Paired.length r
end
theorem pQ {P : Program} {w : World} {k : Key} {u : Value} (r : bq (kV k) u) : (bx P w).is k u = true := by
 cases k with
 | inl i => obtain ⟨t, e⟩ := (show ∃ t, u = Value.int i t from r); subst e; exact jc P w i t
 | inr x => obtain ⟨t, e⟩ := (show ∃ t, u = Value.str x t from r); subst e; exact jb P w x t
theorem eP {P : Program} {w : World} : ∀ {ks : List Key} {us : List Value}, aQ (ks.map kV) us → ItemsAre (bx P w) ks us
 | [], _, r => by rw [List.map_nil] at r; cases r; exact .nil
 | k :: ks, _, r => by
  rw [List.map_cons] at r
  cases r with
  | cons h t => exact .cons (pQ h) (eP t)
noncomputable abbrev KT (H : Hp) : List (List Key × V) → List (List Key × Addr × Value) → Prop := Paired fun p q => p.1 = q.1 ∧ H q.2.1 = some (.tup (p.1.map kV)) ∧ bq p.2 q.2.2
theorem KT.val {H : Hp} {kvs : List (List Key × V)} {xs : List (List Key × Addr × Value)} (r : KT H kvs xs) (k : List Key) : lM (fh kvs k) ((atKey xs k).map (·.2)) := by
 induction r with
 | nil => exact True.intro
 | @cons p q ps qs h t ih =>
  obtain ⟨h1, _, h2⟩ := h
  by_cases e : p.1 = k
  ·have e' : q.1 = k := h1.symm.trans e
   have b : atKey (q :: qs) k = some q.2 := by simp [atKey, List.find?_cons, e']
   rw [fU e, b]; exact h2
  ·have e' : ¬ q.1 = k := fun z => e (h1.trans z)
   have b : atKey (q :: qs) k = atKey qs k := by simp [atKey, List.find?_cons, e']
   rw [fV e, b]; exact ih
theorem KT.repl {H : Hp} {kvs : List (List Key × V)} {xs : List (List Key × Addr × Value)} (r : KT H kvs xs) (k : List Key) {y : V} {u : Value} (ry : bq y u) :
  KT H (kvs.map fun kv => if kv.1 = k then (kv.1, y) else kv) (xs.map (putAt k u)) := by
 induction r with
 | nil => exact .nil
 | @cons p q ps qs h t ih =>
  rw [List.map_cons, List.map_cons]
  refine .cons ?_ ih
  obtain ⟨h1, h2, h3⟩ := h
  unfold putAt
  by_cases e : p.1 = k
  ·rw [if_pos e, if_pos (h1.symm.trans e)]; exact ⟨h1, h2, ry⟩
  ·rw [if_neg e, if_neg (fun z => e (h1.trans z))]; exact ⟨h1, h2, h3⟩
theorem KT.put {H : Hp} {kvs : List (List Key × V)} {xs : List (List Key × Addr × Value)} (r : KT H kvs xs) (k : List Key) {b : Addr} {y : V} {u : Value} (hb : H b = some (.tup (k.map kV))) (ry : bq y u) :
  KT H (iS kvs k y) (storedH xs k b u) := by
 have e : (kvs.any fun kv => decide (kv.1 = k)) = (atKey xs k).isSome := by
  rw [jQ, (r.val k).isSome_eq, Option.isSome_map]
 unfold iS storedH
 rw [e]
 by_cases q : (atKey xs k).isSome = true
 ·rw [if_pos q, if_pos q]; exact r.repl k ry
 ·rw [if_neg q, if_neg q]; exact Paired.snoc r ⟨rfl, hb, ry⟩
theorem KT.keeps {H H' : Hp} {kvs : List (List Key × V)} {xs : List (List Key × Addr × Value)} (r : KT H kvs xs) (ht : ∀ b ys, H b = some (.tup ys) → H' b = some (.tup ys)) : KT H' kvs xs :=
 Paired.mapP r fun _ _ z => ⟨z.1, ht _ _ z.2.1, z.2.2⟩
section
variable {P : Program} {w : World} {H : Hp} {h : Heap} {a : Addr}
theorem vx {u : HO} (ok : HOk P w H h) (e : Rd H a u) : bp P w H h a u := e.ok ok
theorem nJ {kvs : List (Key × V)} (ok : HOk P w H h) (e : Rd H a (.dK kvs)) : kvs.length ≤ sizeLine ∧ (a == sysModules) = false ∧ ∃ vs, KV kvs vs ∧ h.DictOf (bx P w) a vs :=
 show bp P w H h a (.dK kvs) from vx ok e
theorem zv {kvs : List (Key × V)} (ok : HOk P w H h) (e : H a = some (.dK kvs)) : kvs.length ≤ sizeLine ∧ (a == sysModules) = false ∧ ∃ vs, KV kvs vs ∧ h.DictOf (bx P w) a vs := nJ ok (.inl e)
theorem kc {ks : List Key} (ok : HOk P w H h) (e : H a = some (.tup (ks.map kV))) : (tupleKind (bx P w)).is h ks a := by
 obtain ⟨_, its, r, o, h1, h2, n, h3⟩ := (show bp P w H h a (.tup (ks.map kV)) from ok a _ e)
 exact ⟨o, its.toArray, n, h1, h2, h3, by simpa using eP r⟩
theorem lE {kvs : List (List Key × V)} (ok : HOk P w H h) (e : Rd H a (.dT kvs)) : kvs.length ≤ sizeLine ∧ (a == sysModules) = false ∧
  ∃ xs, KT H kvs xs ∧ h.DictOfH (tupleKind (bx P w)) a xs := by
 obtain ⟨z, y, xs, r, o, es, ep, h1, h2, h3, h4, h5⟩ := (show bp P w H h a (.dT kvs) from vx ok e)
 refine ⟨z, y, xs, r, o, es, ep, h1, h2, h3, h4, fun x hx => ?_, h5⟩
 have all : ∀ {l : List (List Key × V)} {m : List (List Key × Addr × Value)}, KT H l m → ∀ x ∈ m, (tupleKind (bx P w)).is h x.1 x.2.1 := by
  intro l m q
  induction q with
  | nil => intro x hx; exact nomatch hx
  | @cons p q ps qs hq t ih =>
   intro x hx
   rcases List.mem_cons.mp hx with e | hx
   ·subst e
    exact kc ok (by rw [← hq.1]; exact hq.2.1)
   ·exact ih x hx
 exact all r x hx
theorem zu {kvs : List (List Key × V)} (ok : HOk P w H h) (e : H a = some (.dT kvs)) : kvs.length ≤ sizeLine ∧ (a == sysModules) = false ∧
  ∃ xs, KT H kvs xs ∧ h.DictOfH (tupleKind (bx P w)) a xs := lE ok (.inl e)
end
noncomputable def DGet (H : Hp) (a : Addr) (y : V) (r : Option V) : Prop :=
 (∃ kvs k, Rd H a (.dK kvs) ∧ y = kV k ∧ r = fh kvs k) ∨ ∃ kvs k b, Rd H a (.dT kvs) ∧ y = .ref b ∧ H b = some (.tup (k.map kV)) ∧ r = fh kvs k
noncomputable def qR (H : Hp) (a : Addr) (y v : V) (H' : Hp) : Prop :=
 (∃ kvs k, H a = some (.dK kvs) ∧ y = kV k ∧ kvs.length < sizeLine ∧ H' = upd H a (.dK (iS kvs k v))) ∨
 ∃ kvs k b, H a = some (.dT kvs) ∧ y = .ref b ∧ H b = some (.tup (k.map kV)) ∧ kvs.length < sizeLine ∧ H' = upd H a (.dT (iS kvs k v))
theorem DGet.k {H : Hp} {a : Addr} {kvs : List (Key × V)} {k : Key} (e : H a = some (.dK kvs)) : DGet H a (kV k) (fh kvs k) := .inl ⟨kvs, k, .inl e, rfl, rfl⟩
theorem qR.k {H : Hp} {a : Addr} {kvs : List (Key × V)} {k : Key} {v : V} (e : H a = some (.dK kvs)) (hl : kvs.length < sizeLine) : qR H a (kV k) v (upd H a (.dK (iS kvs k v))) := .inl ⟨kvs, k, e, rfl, hl, rfl⟩
theorem qR.t {H : Hp} {a b : Addr} {kvs : List (List Key × V)} {k : List Key} {v : V} (e : H a = some (.dT kvs)) (eb : H b = some (.tup (k.map kV))) (hl : kvs.length < sizeLine) :
  qR H a (.ref b) v (upd H a (.dT (iS kvs k v))) := .inr ⟨kvs, k, b, e, rfl, eb, hl, rfl⟩
section
variable {X : Cx} {pins : List (Addr × Obj)} {σ : St} {H : Hp} {s : Shared} {a : Addr} {y v : V} {u r : Value} {o : Option V} {A : Around} {E : Value → Shared → Prop}
theorem Inv.big (I : Inv X pins σ H s) : sysModules < s.heap.objs.size := by
 have h : mainGlobals < s.heap.objs.size := (I.mod.glob.keeps I.bk).lt
 exact Nat.lt_trans (by decide) h
theorem nQ {Q : Value → Shared → Prop} (hu : A.units + 1 < cLine) (I : Inv X pins σ H s) (g : DGet H a y (some v)) (ry : bq y u) (h : ∀ w' s', Inv X pins σ H s' → bq v w' → Q w' s') :
  wpAny (model X.prog X.w) A (getItem (.ref a) u) Q E s := by
 rcases g with ⟨kvs, k, e, ey, l⟩ | ⟨kvs, k, b, e, ey, eb, l⟩
 ·subst ey
  obtain ⟨z, hd, vs, rel, dd⟩ := nJ I.hok e
  obtain ⟨w', hw, rw'⟩ := lM.some_of (v := v) (o := valueAt vs k) (by rw [l]; exact rel.val k)
  exact wpAny_getItem_of (pQ ry) dd.mapOf hw (h w' _ (I.tok _) rw')
 ·subst ey
  cases (show u = Value.ref b from ry)
  obtain ⟨z, hd, xs, rel, dd⟩ := lE I.hok e
  obtain ⟨w', hw, rw'⟩ := lM.some_of (v := v) (o := (atKey xs k).map (·.2)) (by rw [l]; exact rel.val k)
  obtain ⟨p, hp, hp2⟩ := Option.map_eq_some_iff.mp hw
  refine wpAny_getItem_heap (tupleKind_room_in1 hu) (kc I.hok eb) dd hp ?_
  rw [hp2]
  exact h w' _ (I.tok _) rw'
theorem Az {Q : Value → Shared → Prop} (hu : A.units + 1 < cLine) (I : Inv X pins σ H s) (g : DGet H a y o) (ry : bq y u) (h : ∀ s', Inv X pins σ H s' → Q (.bool o.isSome) s') :
  wpAny (model X.prog X.w) A (compareOp .In u (.ref a)) Q E s := by
 rcases g with ⟨kvs, k, e, ey, l⟩ | ⟨kvs, k, b, e, ey, eb, l⟩
 ·subst ey
  obtain ⟨z, hd, vs, rel, dd⟩ := nJ I.hok e
  refine wpAny_in_of (pQ ry) hd dd.mapOf ?_
  rw [← (rel.val k).isSome_eq, ← l]
  exact h _ (I.tok _)
 ·subst ey
  cases (show u = Value.ref b from ry)
  obtain ⟨z, hd, xs, rel, dd⟩ := lE I.hok e
  refine wpAny_in_heap (tupleKind_room_in1 hu) (kc I.hok eb) hd dd ?_
  have q := (rel.val k).isSome_eq
  rw [Option.isSome_map] at q
  rw [← q, ← l]
  exact h _ (I.tok _)
theorem nO {h' : Heap} {t' : Nat} {ob : HO} (I : Inv X pins σ H s) (mu : Mut (H a)) (hs : Heap.SameBut a s.heap h') (he : ∃ q, h'.get? a = some q) (new : bp X.prog X.w (upd H a ob) h' a ob) :
  Inv X pins σ (upd H a ob) { s with heap := h', toks := t' } :=
 I.write (x := a) (e := a) mu (.inl rfl) (fun b q hb z => (hs.2 b hb).trans z) he new
theorem wW {P : Program} {w : World} {H' : Hp} {h' : Heap} {kvs : List (Key × V)} {vs : List (Key × Value)} (z : kvs.length ≤ sizeLine) (hd : (a == sysModules) = false) (rel : KV kvs vs) (dd : h'.DictOf (bx P w) a vs) :
  bp P w H' h' a (.dK kvs) := ⟨z, hd, vs, rel, dd⟩
theorem nP {H' : Hp} {Q : Unit → Shared → Prop} (hu : A.units + 1 < cLine) (I : Inv X pins σ H s) (g : qR H a y v H') (ry : bq y u) (rv : bq v r) (h : ∀ s', Inv X pins σ H' s' → Q () s') :
  wpAny (model X.prog X.w) A (setItem (.ref a) u r) Q E s := by
 rcases g with ⟨kvs, k, e, ey, l, eH⟩ | ⟨kvs, k, b, e, ey, eb, l, eH⟩
 ·subst ey eH
  obtain ⟨z, hd, vs, rel, dd⟩ := zv I.hok e
  have hz : vs.length ≤ sizeLine := by rw [← rel.length]; exact z
  have hl : (iS kvs k v).length ≤ sizeLine := by have := eM kvs k v; omega
  refine wpAny_setItem_pairs (hsz := hz) (pQ ry) dd fun h' dd' hs => h _ ?_
  have he : ∃ q, h'.get? a = some q := let ⟨q, _, _, hq, _⟩ := dd'; ⟨q, hq⟩
  exact nO I (by rw [e]; exact True.intro) hs he (wW hl hd (rel.put k rv) dd')
 ·subst ey eH
  cases (show u = Value.ref b from ry)
  obtain ⟨z, hd, xs, rel, dd⟩ := zu I.hok e
  have hz : xs.length ≤ sizeLine := by rw [← Paired.length rel]; exact z
  have hl : (iS kvs k v).length ≤ sizeLine := by have := eM kvs k v; omega
  refine wpAny_setItem_heap (hsz := hz) (tupleKind_room_in1 hu) (kc I.hok eb) dd fun h' dd' hs => h _ ?_
  obtain ⟨q, es, ep, hq, h2, h3, h4, _, h5⟩ := dd'
  refine nO I (by rw [e]; exact True.intro) hs ⟨q, hq⟩ ⟨hl, hd, _, (rel.put k eb rv).keeps fun c ys ec => ?_, q, es, ep, hq, h2, h3, h4, h5⟩
  rw [aF (y3 ec e (fun z => nomatch z))]
  exact ec
end
section
variable {X : Cx} {pins : List (Addr × Obj)} {σ : St} {H : Hp} {s : Shared} {a : Addr} {kvs : List (Key × V)} {k : Key} {u : Value} {A : Around} {E : Value → Shared → Prop}
theorem zw {Q : Value → Shared → Prop} (I : Inv X pins σ H s) (e : Rd H a (.dK kvs)) (h : ∀ t s', Inv X pins σ H s' → Q (.int kvs.length t) s') : wpAny (model X.prog X.w) A (call (.builtin "len") [.ref a]) Q E s := by
 obtain ⟨z, hd, vs, rel, dd⟩ := nJ I.hok e
 refine call_len_dict hd dd (by rw [← rel.length]; rw [sizeLine_eq] at z; omega) ?_
 rw [← rel.length]
 exact h _ _ (I.tok _)
end
noncomputable def uc (i : Expr) : Prop := ∀ ov iv, subscripted i false ov iv = operate [ov, iv] (getItem ov iv)
theorem mw {prog : Program} {w : World} {A : Around} {E : Value → Shared → Prop} {s : Shared} {env : Env} {value slice : Expr} {pos : Pos} {T id : String} {Q : Value → Shared → Prop}
  (hl : typeLookup (.type T) "__getitem__" = pure (some (.builtin id))) (hs : uc slice)
  (h : wpAny (model prog w) A (eval value env) (fun o s₁ => wpAny (model prog w) A (eval slice env) (fun i s₂ => s₂.TypeIs o T ∧ wpAny (model prog w) A (getItem o i) Q E s₂) E s₁) E s) :
  wpAny (model prog w) A (eval (.Subscript value slice pos) env) Q E s := by
 refine Subscript_ (wpAny_mono h (fun o s₁ h₁ => wpAny_mono h₁ (fun i s₂ h₂ => ?_) fun _ _ x => x) fun _ _ x => x)
 obtain ⟨hT, h₂⟩ := h₂
 unfold subscriptTail
 refine wpAny_bind ?_
 rw [getitemInPython_of_ne hT.not_modules]
 refine wpAny_bind (wpAny_specialOf hT hl ?_)
 have fin : wpAny (model prog w) A (subscripted slice false o i) (fun r s₃ => wpAny (model prog w) A (letTemporaryGo value o r >>= fun _ => pure r) Q E s₃) E s₂ := by
  rw [hs o i]
  exact wpAny_operating (wpAny_mono h₂ (fun r s₃ h₃ => wpAny_bind (wpAny_letTemporaryGo (wpAny_pure h₃))) fun _ _ x => x)
 first
  | exact wpAny_pure (wpAny_bind fin)
  | exact wpAny_bind (wpAny_pure (wpAny_bind fin))
  | exact wpAny_bind fin
theorem jx {X : Cx} {pins : List (Addr × Obj)} {σ : St} {H : Hp} {s : Shared} {a : Addr} {y : V} {o : Option V} (I : Inv X pins σ H s) (g : DGet H a y o) : s.TypeIs (.ref a) "dict" := by
 rcases g with ⟨kvs, k, e, _, _⟩ | ⟨kvs, k, b, e, _, _, _⟩
 ·obtain ⟨_, _, vs, _, dd⟩ := nJ I.hok e
  exact dd.typeIs
 ·obtain ⟨_, _, xs, _, dd⟩ := lE I.hok e
  exact dd.typeIs
noncomputable def vg (td ty : TE) : TE := fun σ H Q => td σ H fun x H1 => ty σ H1 fun y H2 => ∃ a v, x = .ref a ∧ DGet H2 a y (some v) ∧ Q v H2
noncomputable def yD (ty td : TE) : TE := fun σ H Q => ty σ H fun y H1 => td σ H1 fun x H2 => ∃ a o, x = .ref a ∧ DGet H2 a y o ∧ Q (.bl o.isSome) H2
noncomputable def vp (td ty tv : TE) : TS := fun D σ H => tv σ H fun v H1 => td σ H1 fun x H2 => ty σ H2 fun y H3 => ∃ a H4, x = .ref a ∧ qR H3 a y v H4 ∧ D.nx σ H4
section
variable {X : Cx} {o i e value : Expr} {pos pos' tpos : Pos} {td ty tv : TE}
theorem sR (hu : X.A.units + 1 < cLine) (ho : PE X o td) (hi : PE X i ty) (hs : uc i) : PE X (.Subscript o i pos) (vg td ty) := by
 intro pins s σ H Q I h
 refine mw PySem.F.slot_dict_getitem.lookup hs (thn (ho pins s σ H _ I h) fun u s1 ⟨x, H1, I1, rx, q1⟩ => thn (hi pins s1 σ H1 _ I1 q1) fun iv s2 hz => ?_)
 obtain ⟨y, H2, I2, ry, a, v, ex, g, q2⟩ := hz
 subst ex
 obtain rfl : u = Value.ref a := rx
 exact ⟨jx I2 g, nQ hu I2 g ry fun w' s3 I3 rw' => ⟨v, H2, I3, rw', q2⟩⟩
theorem vW (hu : X.A.units + 1 < cLine) (hi : PE X i ty) (ho : PE X o td) : PC X .In i o (yD ty td) := by
 intro pins s σ H Q I h
 refine thn (hi pins s σ H _ I h) fun iv s1 ⟨y, H1, I1, ry, q1⟩ => thn (ho pins s1 σ H1 _ I1 q1) fun u s2 hz => ?_
 obtain ⟨x, H2, I2, rx, a, ov, ex, g, q2⟩ := hz
 subst ex
 obtain rfl : u = Value.ref a := rx
 exact Az hu I2 g ry fun s3 I3 => ⟨.bl ov.isSome, H2, I3, rfl, q2⟩
theorem sJ (hu : X.A.units + 1 < cLine) (ho : PE X o td) (hi : PE X i ty) (hv : PE X value tv) (hs : swapsWith value (some (.Subscript o i pos')) pos.line X.env = pure false) :
  PS X (.Assign [.Subscript o i pos'] value pos) (vp td ty tv) := by
 intro pins s σ H D I h
 refine wpAny_Assign_Subscript (thn (hv pins s σ H _ I h) fun r s1 ⟨v, H1, I1, rv, q1⟩ => thn (ho pins s1 σ H1 _ I1 q1) fun u s2 ⟨x, H2, I2, rx, q2⟩ => thn (hi pins s2 σ H2 _ I2 q2) fun iv s3 hz => ?_) hs
 obtain ⟨y, H3, I3, ry, a, H4, ex, g, q3⟩ := hz
 subst ex
 obtain rfl : u = Value.ref a := rx
 exact nP hu I3 g ry rv fun s4 I4 => ⟨σ, H4, I4, q3⟩
end
theorem pZ {P : Program} {w : World} {H : Hp} (h : Heap) (hb : sysModules < h.objs.size) : bp P w H (h.push { cls := .type "dict", data := .dict #[] }) h.objs.size (.dT []) :=
 ⟨Nat.zero_le _, beq_eq_false_iff_ne.mpr (Ne.symm (Nat.ne_of_lt hb)), [], .nil, _, #[], 0, Heap.get?_push_size _ rfl, ⟨rfl, rfl, rfl⟩, rfl, rfl, List.nodup_nil⟩
noncomputable def qo : TE := fun _ H Q => ∀ p, H p = none → Q (.ref p) (upd H p (.dT []))
section
variable {X : Cx} {pos : Pos}
theorem pA : PE X (.Dict [] [] pos) qo := fun pins s σ H Q I h =>
 wpAny_Dict_empty ⟨.ref s.heap.objs.size, _, I.laid (a := s.heap.objs.size) (o := .dT []) (t' := s.toks) (fun _ _ q => Heap.get?_push_of_some _ q) (Nat.le_refl _) (pZ s.heap I.big), rfl, h _ (I.hok.fresh (Nat.le_refl _))⟩
end
end L2
namespace Att
open PySem PySem.W PySem.Calls PyProof.Rows
theorem eQ {P : Params} {h : Heap} : ∀ (ns : List Int) (vs : List Value), WellAll P h vs (ns.map WData.int) → IntsAre vs ns := by
 intro ns
 induction ns with
 | nil =>
  intro vs w
  rw [List.map_nil] at w
  cases w
  exact .nil
 | cons n ns ih =>
  intro vs w
  rw [List.map_cons] at w
  cases w with
  | cons a b =>
   cases a
   exact .cons _ _ (ih _ b)
theorem mz {l : OpenLaw} {n : Nat} (hn : l.most = some n) {P : Params} {h : Heap} {args : List WData} {vals : List Value}
  (hpre : l.row.toRowW.claim.pre args = true) (hwl : WellAll P h vals args) :
  ∃ a vs ns, vals = [Value.ref a] ∧ args = [WData.list (ns.map WData.int)] ∧ h.get? a = some { cls := .type "list", data := .seq vs.toArray } ∧ IntsAre vs ns ∧ ns.length ≤ n := by
 have hsh : WShape.hasAll [] args [.list .int] = true := (pre_splitW hpre).1
 have hc : l.pre.holds [] { args := args } = true := (pre_splitW hpre).2
 obtain ⟨d, r, rfl, h1, h2⟩ := hasAllW_cons hsh
 obtain rfl := hasAllW_nil h2
 obtain ⟨xs, rfl, h3⟩ := hasW_list h1
 obtain ⟨ns, rfl⟩ := items_int h3
 have cH : ns.length ≤ n := by
  unfold OpenLaw.pre at hc
  have h4 : (WTm.not (.lt (.lit (.int (n : Int))) (.len (.arg 0)))).holds [] { args := [.list (ns.map .int)] } = true := by
   have h4 := (holds_andW hc).1
   rw [hn] at h4
   exact h4
  have h5 := condW_of h4 (w_not (w_lt w_lit (w_len_list (w_arg rfl))))
  rw [List.length_map] at h5
  refine Nat.le_of_not_lt fun q => ?_
  have q' : (n : Int) < ((ns.length : Nat) : Int) := by omega
  first
   | (rw [decide_eq_true q'] at h5; exact absurd h5 (by decide))
   | (simp at h5; omega)
 cases hwl with
 | cons w1 w2 =>
  cases w2
  cases w1 with
  | list ho hall => exact ⟨_, _, ns, rfl, rfl, ho, eQ ns _ hall, cH⟩
theorem mK (l : OpenLaw) (args : List WData) : l.row.toRowW.claim.post args (.bool true) args = true :=
 postW_of (r := l.row.toRowW) (X := (true == true))
  (show WShape.has [] (.bool true) .bool = true by first | rfl | decide | simp [WShape.has, WShape.arms, WShape.armsAll])
  (show (WTm.eq .res (.lit (.bool true))).value [] { args := args, res := some (.bool true), after := args } = some (.bool (true == true)) from w_eq_bool (w_res rfl) w_lit) rfl
theorem attach_call {l : OpenLaw} {n : Nat} {q : Program} {loose : List Str} {XP : (Str → Option Value) → Heap → Prop} {YP : World → Heap → Prop} {d : DefRec}
  (hn : l.most = some n) (hdf : d.params.defaults = [])
  (call : ∀ (w : World) (s₀ s₁ : Shared) (mg mb : Str → Option Value) (fa : Addr) (o : Obj) (pm cd doc : Value) (a : Addr) (vs : List Value) (ns : List Int),
   Ground q loose [] XP w s₀ mg mb s₁.heap → YP w s₁.heap →
   s₁.heap.get? fa = some o → o.data = .func (docDef d.name d.params d.body d.scope pm cd doc) → s₁.heap.CodeRec cd d.name → mg d.name = some (.ref fa) →
   s₁.heap.get? a = some { cls := .type "list", data := .seq vs.toArray } → IntsAre vs ns → ns.length ≤ n → s₁.gens = #[] →
   codeAny (model l.prog w) callerA (.call (.ref fa) ⟨[.ref a], []⟩) (fun r s' => r = .ok (.ret (.bool true)) ∧ OldK s₁.heap s'.heap ∧ s'.os = s₁.os ∧ AllBare s'.gens) s₁) :
  WalkO q loose XP YP l.row.toRowW d [] (fun f vs => PySem.call f vs) := by
 intro w s₀ s₁ mg mb G Y fa o pm cd doc dV kV ho hd hcd hD hmg hg args vals as hpre hlay hrd hwl hlo
 obtain rfl : dV = .none := Dflts.none hD hdf
 obtain rfl : kV = .none := Dflts.noKw hD
 obtain ⟨a, vs, ns, rfl, rfl, hobj, hints, cH⟩ := mz hn hpre hwl
 refine enter_call (codeAny_mono (call w s₀ s₁ mg mb fa o pm cd doc a vs ns G Y ho (fd_plain hd) hcd hmg hobj hints cH hg) fun r s' hq => ?_)
 obtain ⟨rfl, h2, h3, h4⟩ := hq
 exact ⟨.inl ⟨.bool true, .bool true, [], rfl, fun _ => rfl, .bool true, mK l _, fun _ => ⟨List.Pairwise.nil, fun _ hm => (nomatch hm)⟩⟩, h2, h3, h4⟩
end Att
namespace L2
open PySem PySem.Spec PyProof.Rows
theorem dn : ∀ {vs : List Value} {ns : List Int}, IntsAre vs ns → aQ (ns.map V.int) vs
 | _, _, .nil => .nil
 | _, _, .cons n t h => .cons ⟨t, rfl⟩ (dn h)
noncomputable def xC (H : Hp) : Prop := ∀ b, H b = none ∨ ∃ o xs, H b = some (.frz o (.lst xs))
theorem pO {P : Program} {w : World} {K : PySem.W.Frag} {mg mb : Str → Option Value} {CX : CXT} {k : Nat} {fa a : Addr} {fd : FuncData} {x : Str} {sp : Sp} {s₁ : Shared} {vs : List Value} {ns : List Int}
  (KX : K.In s₁.heap) (hns : s₁.heap.Ns mainGlobals mg) (hb : s₁.heap.Ns builtinsNs mb) (hbb : ∀ x : Str, x ≠ "__name__" → mb x = bootBuiltins x) (hlim : s₁.heap.NoLimit) (hg : s₁.gens = #[])
  (ha : s₁.heap.get? a = some { cls := .type "list", data := .seq vs.toArray }) (hi : IntsAre vs ns) (hl : ns.length ≤ sizeLine) (hr : ff k callerA)
  (F : ∀ base : Heap, K.In base → base.Ns mainGlobals mg → kC P w K mg base CX k fa fd [x] sp) (hbind : ∀ (s : Shared) (u : Value), BindsTo s fd ⟨[u], []⟩ [(x, u)])
  (hsp : ∀ H : Hp, xC H → SqL K H a (ns.map V.int) → sp [.ref a] H (fun v _ => v = .bl true) fun _ _ _ => False)
  (hCX : ∀ H e s', CX [] H s₁ (fun _ _ _ => False) e s' → False) :
  codeAny (model P w) callerA (.call (.ref fa) ⟨[.ref a], []⟩) (fun r s' => r = .ok (.ret (.bool true)) ∧ OldK s₁.heap s'.heap ∧ s'.os = s₁.os ∧ AllBare s'.gens) s₁ := by
 have rv := dn hi
 have lenV := hi.length
 have core : ∀ H : Hp, xC H → SqL K H a (ns.map V.int) → HOk P w H s₁.heap → (∀ b, H b ≠ none → b = a) → (H a ≠ none → K.lookup a = none) →
   codeAny (model P w) callerA (.call (.ref fa) ⟨[.ref a], []⟩) (fun r s' => r = .ok (.ret (.bool true)) ∧ OldK s₁.heap s'.heap ∧ s'.os = s₁.os ∧ AllBare s'.gens) s₁ := by
  intro H hO hS hok hA hK
  have base_of : ∀ {b : Addr} {o : Obj}, s₁.heap.get? b = some o → H b = none → (pX s₁.heap H).get? b = some o := fun e n => pW e n
  have noA : ∀ {b : Addr} {o : Obj} {es : Array DictEntry} {ep : Nat}, s₁.heap.get? b = some o → o.data = .dict es ep → H b = none := fun {b o es ep} e d => by
   cases q : H b with
   | none => rfl
   | some u =>
    have e' : b = a := hA b (by rw [q]; simp)
    subst e'
    rw [ha] at e; cases e
    have d' : Data.seq vs.toArray _ = Data.dict es ep := d
    cases d'
  have nsK : ∀ {b : Addr} {m : Str → Option Value}, s₁.heap.Ns b m → (pX s₁.heap H).Ns b m := fun {b m} ⟨o, es, ep, e, d, r⟩ => ⟨o, es, ep, base_of e (noA e d), d, r⟩
  have hKb : K.In (pX s₁.heap H) := fun b o e => base_of (KX b o e) (by
   cases q : H b with
   | none => rfl
   | some u =>
    have e' : b = a := hA b (by rw [q]; simp)
    subst e'
    rw [hK (by rw [q]; simp)] at e; cases e)
  have hM : Mod K mg (pX s₁.heap H) := ⟨hKb, nsK hns, ⟨mb, nsK hb, hbb⟩, let ⟨mc, h1, h2⟩ := hlim; ⟨mc, nsK h1, h2⟩⟩
  have e0 : xD P w K mg (pX s₁.heap H) callerA [] s₁ H := ⟨rfl, hM, fun b o e => tf e, Nat.le_of_eq (nE _ _), trivial, fun b hb => absurd (show b ∈ ([] : List Addr) from hb) (by simp), hok, .of_eq hg⟩
  refine codeAny_mono ((F _ hKb (nsK hns)).run callerA [] s₁ H ⟨[.ref a], []⟩ [.ref a] [.ref a] _ _ hr e0 (hbind s₁ (.ref a)) (.cons rfl .nil) (hsp H hO hS)) fun r s' h => ?_
  cases r with
  | error e => exact (hCX H e s' h).elim
  | ok fl =>
   cases fl with
   | next => exact False.elim h
   | brk => exact False.elim h
   | cont => exact False.elim h
   | ret u =>
    obtain ⟨v, H', os, bare, un, hok', r', q⟩ := h
    have q' : v = .bl true := q
    subst q'
    obtain rfl : u = Value.bool true := r'
    refine ⟨rfl, OldK.of_keep fun b o e => ?_, os, bare⟩
    cases q : H b with
    | none => exact un.keep b o e q (by intro z; exact absurd (show b ∈ ([] : List Addr) from z) (by simp)) (by simp)
    | some u =>
     rcases hO b with z | ⟨ob, xs, z⟩
     ·rw [q] at z; cases z
     ·have z2 := un.frzs b ob _ z
      obtain ⟨e1, _⟩ := hok b _ z
      obtain ⟨e2, _⟩ := hok' b _ z2
      rw [e] at e1; cases e1
      exact e2
 cases hk : K.lookup a with
 | some o =>
  have e := KX a o hk
  rw [ha] at e
  cases e
  refine core (fun _ => none) (fun _ => .inl rfl) (.inr ⟨_, vs.toArray, _, hk, rfl, rfl, rfl, by rw [List.size_toArray, lenV]; exact hl, by simpa using rv⟩) (fun b u z => by have z' : (none : Option HO) = some u := z; cases z') (fun b z => absurd rfl z) fun z => absurd rfl z
 | none =>
  refine core (fun b => if b = a then some (.frz { cls := .type "list", data := .seq vs.toArray } (.lst (ns.map V.int))) else none) (fun b => ?_) (.inl (.inr ⟨{ cls := .type "list", data := .seq vs.toArray }, if_pos rfl⟩)) (fun b u z => ?_) (fun b z => ?_) fun _ => hk
  ·by_cases hb : b = a
   ·exact .inr ⟨_, _, if_pos hb⟩
   ·exact .inl (if_neg hb)
  ·by_cases hb : b = a
   ·have z' := (if_pos hb).symm.trans z
    cases z'
    subst hb
    exact ⟨ha, by rw [List.length_map]; exact hl, vs, _, rv, ha⟩
   ·have z' := (if_neg hb).symm.trans z
    cases z'
  ·by_cases hb : b = a
   ·exact hb
   ·exact absurd (if_neg hb) z
theorem rY {l : PySem.W.OpenLaw} {n k : Nat} {q : Program} {loose : List Str} {XP : (Str → Option Value) → Heap → Prop} {YP : World → Heap → Prop} {d : DefRec} {K : Params → PySem.W.Frag} {CX : World → CXT} {sp : World → Sp} {x : Str}
  (hn : l.most = some n) (hn2 : n ≤ sizeLine) (hdf : d.params.defaults = []) (hr : ff k callerA)
  (hY : ∀ (w : World) (h : Heap), YP w h → (K w.params).In h)
  (F : ∀ (w : World) (mg : Str → Option Value) (fa : Addr) (h : Heap), (K w.params).In h → h.Ns mainGlobals mg → mg d.name = some (.ref fa) →
   ∃ fd : FuncData, (∀ (s : Shared) (u : Value), BindsTo s fd ⟨[u], []⟩ [(x, u)]) ∧
    ∀ base : Heap, (K w.params).In base → base.Ns mainGlobals mg → kC l.prog w (K w.params) mg base (CX w) k fa fd [x] (sp w))
  (hsp : ∀ (w : World) (H : Hp) (a : Addr) (ns : List Int), ns.length ≤ n → xC H → SqL (K w.params) H a (ns.map V.int) → sp w [.ref a] H (fun v _ => v = .bl true) fun _ _ _ => False)
  (hCX : ∀ (w : World) (H : Hp) (s : Shared) (e : Value) (s' : Shared), CX w [] H s (fun _ _ _ => False) e s' → False) :
  PySem.W.WalkO q loose XP YP l.row.toRowW d [] (fun f vs => PySem.call f vs) := by
 refine Att.attach_call hn hdf fun w s₀ s₁ mg mb fa o pm cd doc a vs ns G Y ho hd hcd hmg hobj hints cH hg => ?_
 have KX := hY w _ Y
 obtain ⟨fd, hb, hF⟩ := F w mg fa _ KX G.T.g hmg
 exact pO KX G.T.g G.T.b G.T.builtins G.T.nolimit hg hobj hints (Nat.le_trans cH hn2) hr hF hb (fun H hO hS => hsp w H a ns cH hO hS) fun H e s' => hCX w H s₁ e s'
noncomputable def bD (s : Stmt) : Arguments := match s with
 | .FunctionDef _ a _ _ _ _ _ _ _ _ => a
 | _ => { posonlyargs := [], args := [], vararg := none, kwonlyargs := [], kw_defaults := [], kwarg := none, defaults := [] }
noncomputable def aU (s : Stmt) : List Stmt := match s with
 | .FunctionDef _ _ b _ _ _ _ _ _ _ => b
 | _ => []
noncomputable def aw (s : Stmt) : Scope := match s with
 | .FunctionDef _ _ _ _ _ _ sc _ _ _ => sc
 | _ => { kind := .function, names := [], isGenerator := false, isCoroutine := false }
noncomputable abbrev CX0 : CXT := fun _ _ _ _ _ _ => False
noncomputable abbrev E0 : XK := fun _ _ _ => False
theorem yW {X : Cx} : ot CX0 X E0 := fun _ _ _ _ _ _ _ h => h.elim
structure Fun (K : PySem.W.Frag) (x qual : Str) (st : Stmt) (f : Addr) (fd : FuncData) : Prop where
 ex : ∃ (oc : Value) (od : Option Addr) (kV doc pm : Value) (an : Option Addr) (cdv ct : Value) (osl : Array (Option Value)),
  fd = PySem.W.fnOf x qual (bD st) (aU st) (aw st) .none kV doc pm an cdv ct ∧ K.lookup f = some ⟨oc, od, .func fd, osl⟩ ∧ PySem.W.codeIn K cdv qual = true
 kp : PySem.W.keepIn K (.ref f) = true
section
variable {P : Program} {w : World} {K : PySem.W.Frag} {mg : Str → Option Value} {base : Heap}
theorem Fun.ok {x qual : Str} {st : Stmt} {f : Addr} {fd : FuncData} {N ps : List Str} {k : Nat} {sp : Sp} (F : Fun K x qual st f fd) (S : bz N ps (aw st)) (len : ∀ vs H Q E, sp vs H Q E → vs.length = ps.length)
  (hbody : ∀ (cdv : Value) (A : Around) (outer : List Env) (s : Shared) (H : Hp) (vs : List V) (Q : VK) (E : XK), ff k (A.deeper (envOfC qual (aw st) s.heap.objs.size f cdv)) → sp vs H Q E →
   ∃ t, PSs (oB CX0 P w K mg base N qual (aw st) f cdv A outer s H E).nox (aU st) t ∧ t { nx := fun _ H' => Q .non H', rt := Q } (dq N vs) H) : kC P w K mg base CX0 (k + 1) f fd ps sp := by
 obtain ⟨oc, od, kV, doc, pm, an, cdv, ct, osl, rfl, lk, hcd⟩ := F.ex
 refine zo lk hcd S len fun A outer s H vs Q E hr hsp => ?_
 obtain ⟨t, h, q⟩ := hbody cdv A outer s H vs Q E hr hsp
 exact ⟨t, h.nox, q⟩
theorem Fun.binds {x qual : Str} {st : Stmt} {f : Addr} {fd : FuncData} {ps : List Str} (F : Fun K x qual st f fd)
  (h : ∀ (kV doc pm : Value) (an : Option Addr) (cdv ct : Value) (us : List Value), us.length = ps.length → bindArgs (PySem.W.fnOf x qual (bD st) (aU st) (aw st) .none kV doc pm an cdv ct) ⟨us, []⟩ = pure (ps.zip us)) : jH K fd ps [] := by
 obtain ⟨oc, od, kV, doc, pm, an, cdv, ct, osl, rfl, lk, hcd⟩ := F.ex
 exact .all (h kV doc pm an cdv ct)
theorem dE {x qual : Str} {st : Stmt} {f : Addr} {oc : Value} {od an : Option Addr} {osl : Array (Option Value)} {kV doc pm cdv ct : Value} (l : K.lookup f = some ⟨oc, od, .func (PySem.W.fnOf x qual (bD st) (aU st) (aw st) .none kV doc pm an cdv ct), osl⟩)
  (c : PySem.W.codeIn K cdv qual = true) (k : PySem.W.keepIn K (.ref f) = true) : Fun K x qual st f (PySem.W.fnOf x qual (bD st) (aU st) (aw st) .none kV doc pm an cdv ct) := ⟨⟨oc, od, kV, doc, pm, an, cdv, ct, osl, rfl, l, c⟩, k⟩
end
theorem gC {A : Around} {k : Nat} (hr : ff k A) : A.units + 1 < cLine := Nat.lt_of_le_of_lt (Nat.add_le_add_left (by decide : 1 ≤ 64) _) hr.units
theorem my {n : Nat} (h : n ≤ 1000) : n < sizeLine := Nat.lt_of_le_of_lt h (by decide)
section
variable {X : Cx}
theorem pv (i : Nat) {x : Str} {pos : Pos} (hN : X.N[i]? = some x := by rfl) (hv : Vis X.env.scope x := by first | exact Or.inl rfl | exact Or.inr (Or.inl rfl) | exact Or.inr (Or.inr rfl)) (hd : (x == ("__debug__" : Str)) = false := by decide)
  (hcd : (x == ("__classdict__" : Str)) = false := by decide) : PE X (.Name x pos) (xg i) := vP hN hv hd hcd
theorem nV : bX X (.builtin "len") (fun xs H Q => ∃ a kvs, xs = [V.ref a] ∧ H a = some (.dK kvs) ∧ Q (.int kvs.length) H) := by
 intro pins s σ H xs us Q I r h
 obtain ⟨a, kvs, rfl, ha, q⟩ := h
 obtain ⟨u, rfl, ru⟩ := fT r
 cases ru
 exact zw I (.inl ha) fun t s' I' => ⟨.int kvs.length, H, I', ⟨t, rfl⟩, q⟩
end
theorem wH {A B : Prop} (h : B) : if false = true then A else B := by
 rw [if_neg Bool.false_ne_true]
 exact h
theorem wG {A B : Prop} (h : A) : if true = true then A else B := by
 rw [if_pos rfl]
 exact h
noncomputable def tY (H H' : Hp) : Prop := ∀ b o, H b = some o → H' b = some o
theorem tY.refl (H : Hp) : tY H H := fun _ _ h => h
end L2
namespace OG
open PySem PySem.Spec PyProof.Rows L2
structure WE (X : Cx) (e : Expr) (t : TE) : Prop where
 h : PE X e t
structure WT (X : Cx) (e : Expr) (t : TT) : Prop where
 h : PT X e t
structure WW (X : Cx) (e : Expr) (t : TT) : Prop where
 h : PW X e t
structure WA (X : Cx) (es : List Expr) (t : TA) : Prop where
 h : PA X es t
structure WS (X : Cx) (st : Stmt) (t : TS) : Prop where
 h : PS X st t
structure WSs (X : Cx) (st : List Stmt) (t : TS) : Prop where
 h : PSs X st t
structure WI (X : Cx) (tg iter : Expr) (wi : TI) : Prop where
 h : PI X tg iter wi
structure WG (X : Cx) (target : Expr) (t : TG) : Prop where
 h : PG X target t
structure WGs (X : Cx) (ts : List Expr) (t : TGs) : Prop where
 h : PGs X ts t
structure WC (X : Cx) (op : CmpOp) (a b : Expr) (t : TE) : Prop where
 h : PC X op a b t
structure WO (X : Cx) (e : Option Expr) (t : TO) : Prop where
 h : PO X e t
section
variable {X : Cx}
theorem af {i j pos} : WE X (.Constant (.int i) j pos) (tC (.int i)) := ⟨vU ⟩
end
section
variable {X : Cx}
theorem mf {b j pos} : WE X (.Constant (.bool b) j pos) (tC (.bl b)) := ⟨yV ⟩
end
section
variable {X : Cx}
variable {a b : Expr} {ta tb : TE} {pos : Pos}
theorem rG {op : CmpOp} {t : TE} (h : WC X op a b t) (h1 : behindInMarks op b = false := by first | exact nobehind _ (by decide) (by decide) | rfl) : WT X (.Compare a [op] [b] pos) (tB t) := ⟨vH h.h h1⟩
end
section
variable {X : Cx}
variable {a b : Expr} {ta tb : TE} {pos : Pos}
theorem rE {e : Expr} {t : TE} (h : WE X e t) (he : ∀ whole, isTrue e X.env whole = (do let v ← whole; standAt e.pos; holding [v] (truthy v)) := by intro _; rfl) : WT X e (tB t) := ⟨vF h.h he⟩
end
section
variable {X : Cx}
variable {a b : Expr} {ta tb : TE} {pos : Pos}
variable {tA tB' : TT} {rest : List Expr}
theorem oF (ha : WT X a tA) : WW X (.BoolOp .And [a] pos) tA := ⟨sE ha.h⟩
end
section
variable {X : Cx}
variable {a b : Expr} {ta tb : TE} {pos : Pos}
variable {tA tB' : TT} {rest : List Expr}
theorem rC (ha : WT X a tA) : WW X (.BoolOp .Or [a] pos) tA := ⟨vD ha.h⟩
end
section
variable {X : Cx}
variable {a b : Expr} {ta tb : TE} {pos : Pos}
variable {tA tB' : TT} {rest : List Expr}
theorem rD (ha : WT X a tA) (hb : WW X (.BoolOp .And (b :: rest) pos) tB') : WW X (.BoolOp .And (a :: b :: rest) pos) (zN tA tB') := ⟨vE ha.h hb.h⟩
end
section
variable {X : Cx}
variable {a b : Expr} {ta tb : TE} {pos : Pos}
variable {tA tB' : TT} {rest : List Expr}
theorem uV (ha : WT X a tA) (hb : WW X (.BoolOp .Or (b :: rest) pos) tB') : WW X (.BoolOp .Or (a :: b :: rest) pos) (tOr tA tB') := ⟨yP ha.h hb.h⟩
end
section
variable {X : Cx}
variable {a b : Expr} {ta tb : TE} {pos : Pos}
variable {tA tB' : TT} {rest : List Expr}
theorem rF (ha : WT X a tA) : WT X (.UnaryOp .Not a pos) (zJ tA) := ⟨vG ha.h⟩
end
section
variable {X : Cx}
variable {a b : Expr} {ta tb : TE} {pos : Pos}
variable {tA tB' : TT} {rest : List Expr}
theorem rQ {op} {t : TE} (h : WE X a t) : WE X (.BoolOp op [a] pos) t := ⟨vR h.h⟩
end
section
variable {X : Cx}
variable {a b : Expr} {ta tb : TE} {pos : Pos}
variable {tA tB' : TT} {rest : List Expr}
theorem rV (ha : WE X a ta) (hb : WE X (.BoolOp .And (b :: rest) pos) tb) : WE X (.BoolOp .And (a :: b :: rest) pos) (vj ta tb) := ⟨vV ha.h hb.h⟩
end
section
variable {X : Cx}
variable {a b : Expr} {ta tb : TE} {pos : Pos}
variable {tA tB' : TT} {rest : List Expr}
theorem rR (ha : WE X a ta) : WE X (.UnaryOp .Not a pos) (vb ta) := ⟨vS ha.h⟩
end
section
variable {X : Cx} {st : Stmt} {rest : List Stmt} {t u : TS} {e : Expr} {te : TE} {pos : Pos}
theorem oH  : WSs X [] vc := ⟨sH ⟩
end
section
variable {X : Cx} {st : Stmt} {rest : List Stmt} {t u : TS} {e : Expr} {te : TE} {pos : Pos}
theorem lT (h1 : WS X st t) (h2 : WSs X rest u) : WSs X (st :: rest) (zH t u) := ⟨ph h1.h h2.h⟩
end
section
variable {X : Cx} {st : Stmt} {rest : List Stmt} {t u : TS} {e : Expr} {te : TE} {pos : Pos}
theorem oG (h1 : WS X st t) : WSs X [st] t := ⟨sG h1.h⟩
end
section
variable {X : Cx} {st : Stmt} {rest : List Stmt} {t u : TS} {e : Expr} {te : TE} {pos : Pos}
theorem oI (he : WE X e te) (hs : swapsWith e none pos.line X.env = pure false := by rfl) : WS X (.Expr e pos) (vd te) := ⟨sI he.h hs⟩
end
section
variable {X : Cx} {st : Stmt} {rest : List Stmt} {t u : TS} {e : Expr} {te : TE} {pos : Pos}
theorem rJ (he : WE X e te) : WS X (.Return (some e) pos) (zI te) := ⟨vJ he.h⟩
end
section
variable {X : Cx} {st : Stmt} {rest : List Stmt} {t u : TS} {e : Expr} {te : TE} {pos : Pos}
theorem uW {c : Expr} {a b : List Stmt} {tc : TT} (hc : WT X c tc) (ha : WSs X a t) (hb : WSs X b u) : WS X (.If c a b pos) (zM tc t u) := ⟨yQ hc.h ha.h hb.h⟩
end
section
variable {X : Cx} {pos : Pos}
theorem aG {i : Nat} {x : Str} (hN : X.N.Nodup) (hi : X.N[i]? = some x) (hx : Loc X.env.scope x) (hf : X.fn x = true ∨ X.env.scope.names.lookup x = some .local := by first | exact .inl rfl | exact .inr rfl | assumption) : WG X (.Name x pos) (lz i) := ⟨sP hN hi hx hf⟩
end
section
variable {X : Cx} {pos : Pos}
theorem oN  : WGs X [] z7 := ⟨sO ⟩
end
section
variable {X : Cx} {pos : Pos}
theorem lV {e : Expr} {es : List Expr} {t : TG} {u : TGs} (h1 : WG X e t) (h2 : WGs X es u) (hs : (assignEach (e :: es) X.env).map (·.2) = assign e X.env :: (assignEach es X.env).map (·.2) := by rfl) : WGs X (e :: es) (wO t u) := ⟨px h1.h h2.h hs⟩
end
section
variable {X : Cx} {pos : Pos}
theorem rN {es : List Expr} {k : Nat} {t : TGs} {n : Nat} (hc : X.calm = true) (h : WGs X es t) (hn : (assignEach es X.env).length = n := by rfl) (hst : (assignEach es X.env).findIdx? (·.1) = none := by rfl) : WG X (.Tuple es k pos) (z5 X.K n t) := ⟨vN hc h.h hn hst⟩
end
section
variable {X : Cx} {pos : Pos}
theorem rO {o i : Expr} {to ti : TE} {t : xB} (ho : WE X o to) (hi : WE X i ti) (hs : zE X t) (ha : ∀ v, assign (.Subscript o i pos) X.env v = (do
   let ov ← holding [v] (eval o X.env)
   let iv ← holding [v, ov] (eval i X.env)
   standAt pos
   holding [v, ov, iv] (setItem ov iv v)
   release [v, ov, iv] []) := by intro _; rfl) : WG X (.Subscript o i pos) (z6 to ti t) := ⟨vO ho.h hi.h hs ha⟩
end
section
variable {X : Cx} {pos : Pos}
theorem rL {tg e : Expr} {te : TE} {g : TG} (he : WE X e te) (hg : WG X tg g) (hs : swapsWithSole [tg] e pos.line X.env = pure false := by rfl) (hw : swappedStores [tg] e X.env = pure none := by rfl) (h1 : (assignEach [tg] X.env).map (·.2) = [assign tg X.env] := by rfl) : WS X (.Assign [tg] e pos) (xh te g) := ⟨vL he.h hg.h hs hw h1⟩
end
section
variable {X : Cx} {pos : Pos}
theorem rH {i : Nat} {x : Str} {e : Expr} {te : TE} {pos' : Pos} (hN : X.N.Nodup) (hi : X.N[i]? = some x) (hx : Loc X.env.scope x) (he : WE X e te) (hs : swapsWith e (some (.Name x pos')) pos.line X.env = pure false := by rfl) (hf : X.fn x = true ∨ X.env.scope.names.lookup x = some .local := by first | exact .inl rfl | exact .inr rfl | assumption) : WS X (.Assign [.Name x pos'] e pos) (xh te (lz i)) := ⟨vI hN hi hx he.h hs hf⟩
end
section
variable {X : Cx} {pos : Pos}
theorem lU {c : Expr} {body : List Stmt} {tc : TT} {tb : TS} (hp : PassesOwn (model X.prog X.w) X.A X.env X.xe) (hc : WT X c tc) (hb : WSs X body tb) : WS X (.While c body [] pos) (mr tc tb) := ⟨pj hp hc.h hb.h⟩
end
section
variable {X : Cx} {tg : Expr}
theorem oM {l : Expr} {tl : TE} (hl : WE X l tl) : WI X tg l (wN X.K tl) := ⟨sN hl.h⟩
end
section
variable {X : Cx} {tg : Expr}
theorem rM {l : Expr} {tl : TE} (hl : WE X l tl) : WI X tg l (z4 X.K tl) := ⟨vM hl.h⟩
end
section
variable {X : Cx} {tg : Expr}
theorem kG {a : Expr} {ta : TA} {p pos : Pos} (hg : Gl X "range") (hm : X.mg "range" = none) (ha : WA X [a] ta) (hs : starEach [a] X.env = [(false, eval a X.env)] := by rfl) : WI X tg (.Call (.Name "range" p) [a] [] pos) (wM ta) := ⟨mM hg hm ha.h hs⟩
end
section
variable {X : Cx} {tg : Expr}
theorem rK {iter : Expr} {body : List Stmt} {wi : TI} {g : TG} {tb : TS} {pos : Pos} (hp : PassesOwn (model X.prog X.w) X.A X.env X.xe) (hc : X.calm = true) (hi : WI X tg iter wi) (hg : WG X tg g) (hb : WSs X body tb) (hs : ∀ x, foldedSetIterable iter X.env x = pure x := by intro _; rfl) : WS X (.For tg iter body [] pos) (yC wi g tb) := ⟨vK hp hc hi.h hg.h hb.h hs⟩
end
section
variable {X : Cx} {a b c : Expr} {ta tb tc : TE} {pos : Pos}
theorem uY {op : Operator} {r : R2} (ho : OpR X (binaryOp op) r) (ha : WE X a ta) (hb : WE X b tb) : WE X (.BinOp a op b pos) (tOp r ta tb) := ⟨yS ho ha.h hb.h⟩
end
section
variable {X : Cx} {a b c : Expr} {ta tb tc : TE} {pos : Pos}
theorem uX {op : UnaryOp} {r : V → Hp → VK → Prop} (ho : UnR X (unaryOp op) r) (ha : WE X a ta) : WE X (.UnaryOp op a pos) (tUn r ta) := ⟨yR ho ha.h⟩
end
section
variable {X : Cx} {a b c : Expr} {ta tb tc : TE} {pos : Pos}
theorem oQ {op : CmpOp} {r : R2} (ho : OpR X (compareOp op) r) (ha : WE X a ta) (hb : WE X b tb) (hm : behindInMarks op b = false) : WE X (.Compare a [op] [b] pos) (tOp r ta tb) := ⟨sS ho ha.h hb.h hm⟩
end
section
variable {X : Cx} {a b c : Expr} {ta tb tc : TE} {pos : Pos}
theorem jL {op : CmpOp} {r : R2} (ho : OpR X (compareOp op) r) (ha : WE X a ta) (hb : WE X b tb) (hm : behindInMarks op b = false) : WT X (.Compare a [op] [b] pos) (u7 (tOp r ta tb)) := ⟨sF ho ha.h hb.h hm⟩
end
section
variable {X : Cx} {e : Expr} {es : List Expr} {te : TE} {t : TA} {pos : Pos}
theorem mh  : WA X [] zK := ⟨vX ⟩
end
section
variable {X : Cx} {e : Expr} {es : List Expr} {te : TE} {t : TA} {pos : Pos}
theorem fQ (ha : WE X e te) (hr : WA X es t) (hs : starEach (e :: es) X.env = (false, eval e X.env) :: starEach es X.env := by rfl) : WA X (e :: es) (vh te t) := ⟨sV ha.h hr.h hs⟩
end
section
variable {X : Cx} {e : Expr} {es : List Expr} {te : TE} {t : TA} {pos : Pos}
theorem lX {x1} (h : WA X es t) : WE X (.Tuple es x1 pos) (zG t) := ⟨vQ h.h⟩
end
section
variable {X : Cx} {e : Expr} {es : List Expr} {te : TE} {t : TA} {pos : Pos}
theorem rS (h : WA X es t) : WE X (.List es pos) (zL t) := ⟨vT h.h⟩
end
section
variable {X : Cx} {x : Str} {p pos : Pos} {e : Expr} {es : List Expr} {t : TA} {id T : String} {r : List V → Hp → VK → Prop}
theorem gO (hc : bX X (.builtin id) r) (hg : Gl X x) (hm : X.mg x = none) (hv : bootBuiltins x = some (.builtin id)) (ha : WA X (e :: es) t) (hn : x ≠ "__name__" := by decide) (hdb : (x == ("__debug__" : Str)) = false := by decide) (he : starEach (e :: es) X.env = (false, eval e X.env) :: starEach es X.env := by rfl) (hpl : (backTo pos (starEach es X.env)).any (·.1) = false := by rfl) : WE X (.Call (.Name x p) (e :: es) [] pos) (tCB r t) := ⟨pB hc hg hm hv ha.h hn hdb he hpl⟩
end
section
variable {X : Cx} {x : Str} {p pos : Pos} {e : Expr} {es : List Expr} {t : TA} {id T : String} {r : List V → Hp → VK → Prop}
theorem kI (hc : bX X (.type T) r) (hg : Gl X x) (hm : X.mg x = none) (hv : bootBuiltins x = some (.type T)) (ha : WA X (e :: es) t) (hn : x ≠ "__name__" := by decide) (hdb : (x == ("__debug__" : Str)) = false := by decide) (he : starEach (e :: es) X.env = (false, eval e X.env) :: starEach es X.env := by rfl) (hpl : (backTo pos (starEach es X.env)).any (·.1) = false := by rfl) : WE X (.Call (.Name x p) (e :: es) [] pos) (tCB r t) := ⟨mN hc hg hm hv ha.h hn hdb he hpl⟩
end
section
variable {X : Cx} {e : Expr} {te : TE} {lo hi : Option Expr} {tl th : TO} {pos p2 : Pos}
theorem oK  : WO X none mv := ⟨sM ⟩
end
section
variable {X : Cx} {e : Expr} {te : TE} {lo hi : Option Expr} {tl th : TO} {pos p2 : Pos}
theorem oJ (h : WE X e te) : WO X (some e) (va te) := ⟨sL h.h⟩
end
section
variable {X : Cx} {e : Expr} {te : TE} {lo hi : Option Expr} {tl th : TO} {pos p2 : Pos}
theorem lY {r : V → Option Int → Option Int → Hp → VK → Prop} (hr : SlR X r) (he : WE X e te) (hl : WO X lo tl) (hu : WO X hi th) : WE X (.Subscript e (.Slice lo hi none p2) pos) (tSl r te tl th) := ⟨pz hr he.h hl.h hu.h⟩
end
section
variable {X : Cx} {a b : Expr} {ta tb : TE} {pos : Pos}
theorem uZ {r : R2} (hr : IxR X r) (ha : WE X a ta) (hb : WE X b tb) (hs : jF b) : WE X (.Subscript a b pos) (tOp r ta tb) := ⟨yT hr ha.h hb.h hs⟩
end
section
variable {X : Cx} {a b : Expr} {ta tb : TE} {pos : Pos}
variable {o e : Expr} {es : List Expr} {to : TE} {t : TA} {name : Str} {apos cpos : Pos} {T id : String} {r : V → List V → Hp → VK → Prop}
theorem me (pa : PlainAttrs T) (slot : Slot T name id) (hty : typeOf (.builtin id) = pure (.type "method_descriptor")) (hm : MtR X id r) (ho : WE X o to) (ha : WA X (e :: es) t) (hbase : attributeBase o name X.env (eval o X.env) = eval o X.env := by rfl) (hfew : ((backTo cpos (starEach (e :: es) X.env)).all (fun x => !x.1) && (backToKw cpos (keywordEach [] X.env)).all (fun x => x.1.isSome)
   && decide ((e :: es).length + ([] : List Keyword).length + (if ([] : List Keyword).isEmpty then 0 else 1) < 30)) = true := by rfl) (hline : (apos.endLine == cpos.line) = true := by rfl) (hs : starEach (e :: es) X.env = (false, eval e X.env) :: starEach es X.env := by rfl) (hplain : (backTo cpos (starEach es X.env)).any (·.1) = false := by rfl) : WE X (.Call (.Attribute o name apos) (e :: es) [] cpos) (tBM X.K T r to t) := ⟨yU pa slot hty hm ho.h ha.h hbase hfew hline hs hplain⟩
end
section
variable {X : Cx} {o i e value : Expr} {pos pos' tpos : Pos} {td ty tv : TE}
theorem oP (hu : X.A.units + 1 < cLine) (ho : WE X o td) (hi : WE X i ty) (hs : uc i) : WE X (.Subscript o i pos) (vg td ty) := ⟨sR hu ho.h hi.h hs⟩
end
section
variable {X : Cx} {o i e value : Expr} {pos pos' tpos : Pos} {td ty tv : TE}
theorem rW (hu : X.A.units + 1 < cLine) (hi : WE X i ty) (ho : WE X o td) : WC X .In i o (yD ty td) := ⟨vW hu hi.h ho.h⟩
end
section
variable {X : Cx} {o i e value : Expr} {pos pos' tpos : Pos} {td ty tv : TE}
theorem jM (hu : X.A.units + 1 < cLine) (ho : WE X o td) (hi : WE X i ty) (hv : WE X value tv) (hs : swapsWith value (some (.Subscript o i pos')) pos.line X.env = pure false) : WS X (.Assign [.Subscript o i pos'] value pos) (vp td ty tv) := ⟨sJ hu ho.h hi.h hv.h hs⟩
end
section
variable {X : Cx} {pos : Pos}
theorem l0  : WE X (.Dict [] [] pos) qo := ⟨pA ⟩
end
section
variable {X : Cx}
theorem wpv (i : Nat) {x : Str} {pos : Pos} (hN : X.N[i]? = some x := by rfl) (hv : Vis X.env.scope x := by first | exact Or.inl rfl | exact Or.inr (Or.inl rfl) | exact Or.inr (Or.inr rfl)) (hd : (x == ("__debug__" : Str)) = false := by decide) (hcd : (x == ("__classdict__" : Str)) = false := by decide) : WE X (.Name x pos) (xg i) := ⟨pv i hN hv hd hcd⟩
end
theorem WW.pt {X : Cx} {e : Expr} {t : TT} (h : WW X e t) : WT X e t := ⟨h.h.pt⟩
section
variable {X : Cx} {a b c e : Expr} {ta tb tc : TE} {pos : Pos}
noncomputable def lL (i j : Int) : Prop := 0 < j ∧ j.natAbs.log2 < 9000
theorem j5 : OpR X (binaryOp .FloorDiv) (rI lL fun i j => .int (i / j)) := opI fun i j _ _ _ _ _ hc q => by
 refine PyProof.Rows.floordiv_int (by have := hc.1; omega) ?_ (.inl (PyProof.noPylong_of_log2 hc.2))
 rw [Int.fdiv_eq_ediv_of_nonneg i (Int.le_of_lt hc.1)]
 exact q
theorem jA : bX X (.builtin "isinstance") (fun xs H Q => ∃ (x : V) (T : String) (t : Value) (k : Bool), xs = [x, .ty T] ∧ kB X.K H x t ∧ PySem.W.kitOne X.K t (.type T) = some k ∧ Q (.bl k) H) := by
 rintro pins s σ H xs us Q I r ⟨x, T, t, k, rfl, ty, e, q⟩
 obtain ⟨u, w', rfl, ru, rw'⟩ := oV r
 cases rw'
 exact ny I ru ty e fun tk => ⟨.bl k, H, I.tok tk, rfl, q⟩
end
theorem d7 {H : Hp} {p : Addr} (h : H p = none) (o : HO) : tY H (upd H p o) := fun b u q => by rw [aF (bA q h)]; exact q
noncomputable def Def (K : PySem.W.Frag) (mg : Str → Option Value) (x : Str) (st : Stmt) (ps : List Str) : Prop :=
 ∃ f fd, Fun K x x st f fd ∧ jH K fd ps [] ∧ mg x = some (.ref f)
noncomputable def Has (P : Program) (w : World) (K : PySem.W.Frag) (mg : Str → Option Value) (base : Heap) (x : Str) (k : Nat) (ps : List Str) (sp : Sp) : Prop :=
 ∃ f fd, kC P w K mg base CX0 k f fd ps sp ∧ jH K fd ps [] ∧ PySem.W.keepIn K (.ref f) = true ∧ mg x = some (.ref f)
section
variable {P : Program} {w : World} {K : PySem.W.Frag} {mg : Str → Option Value} {base : Heap} {x : Str} {st : Stmt} {ps N : List Str} {k j : Nat} {sp sp' : Sp}
theorem Has.mono (h : Has P w K mg base x j ps sp) (l : j ≤ k) : Has P w K mg base x k ps sp := by
 obtain ⟨f, fd, a, b, c, d⟩ := h
 exact ⟨f, fd, a.mono l, b, c, d⟩
theorem Def.has (d : Def K mg x st ps) (S : bz N ps (aw st)) (len : ∀ vs H Q E, sp vs H Q E → vs.length = ps.length)
  (hbody : ∀ (f : Addr) (cdv : Value) (A : Around) (outer : List Env) (s : Shared) (H : Hp) (vs : List V) (Q : VK) (E : XK), ff k (A.deeper (envOfC x (aw st) s.heap.objs.size f cdv)) → sp vs H Q E →
   ∃ t, WSs (oB CX0 P w K mg base N x (aw st) f cdv A outer s H E).nox (aU st) t ∧ t { nx := fun _ H' => Q .non H', rt := Q } (dq N vs) H) : Has P w K mg base x (k + 1) ps sp := by
 obtain ⟨f, fd, F, b, m⟩ := d
 exact ⟨f, fd, F.ok S len (fun cdv A outer s H vs Q E hr h => let ⟨t, a, b⟩ := hbody f cdv A outer s H vs Q E hr h; ⟨t, a.h, b⟩), b, F.kp, m⟩
end
theorem u0 {X : Cx} {k : Nat} {ps : List Str} {sp : Sp} {x : Str} {p pos : Pos} {e : Expr} {es : List Expr} {t : TA} (F : Has X.prog X.w X.K X.mg X.base x k ps sp) (hr : ff k X.A) (hg : Gl X x)
  (ha : WA X (e :: es) t) (hdb : (x == ("__debug__" : Str)) = false := by decide) (he : starEach (e :: es) X.env = (false, eval e X.env) :: starEach es X.env := by rfl) (hpl : (backTo pos (starEach es X.env)).any (·.1) = false := by rfl) :
  WE X (.Call (.Name x p) (e :: es) [] pos) (vi sp [] E0 t) := by
 obtain ⟨f, fd, a, b, c, d⟩ := F
 exact ⟨sT a hr hg d c b .nil yW ha.h hdb he hpl⟩
structure Blt (mg : Str → Option Value) : Prop where
 len : mg "len" = none
 isinstance : mg "isinstance" = none
 int : mg "int" = none
 bool : mg "bool" = none
 str : mg "str" = none
 tuple : mg "tuple" = none
 list : mg "list" = none
 range : mg "range" = none
 min : mg "min" = none
 sum : mg "sum" = none
 all : mg "all" = none
 zip : mg "zip" = none
 sorted : mg "sorted" = none
 dict : mg "dict" = none
 enumerate : mg "enumerate" = none
 any : mg "any" = none
 max : mg "max" = none
 set : mg "set" = none
theorem qq {n : Nat} (h : n ≤ 1000) : n ≤ sizeLine := Nat.le_of_lt (my h)
theorem kZ {n : Nat} (h : n < 2 ^ 60) : n.log2 < 1920 := by
 by_cases e : n = 0
 ·subst e; decide
 ·have := (Nat.log2_lt e).mpr h; omega
theorem gI : bootBuiltins "int" = some (.type "int") := rfl
theorem n6 : bootBuiltins "bool" = some (.type "bool") := rfl
theorem cV : bootBuiltins "tuple" = some (.type "tuple") := rfl
theorem fc : bootBuiltins "list" = some (.type "list") := rfl
theorem fe : bootBuiltins "isinstance" = some (.builtin "isinstance") := rfl
theorem qc : bootBuiltins "min" = some (.builtin "min") := rfl
theorem qd : bootBuiltins "max" = some (.builtin "max") := rfl
theorem qe : bootBuiltins "all" = some (.builtin "all") := rfl
theorem fb : bootBuiltins "sorted" = some (.builtin "sorted") := rfl
theorem lW {X : Cx} {x : Str} {T : String} {pos : Pos} (hg : Gl X x) (hm : X.mg x = none) (hv : bootBuiltins x = some (.type T)) (hn : x ≠ "__name__" := by decide) (hd : (x == ("__debug__" : Str)) = false := by decide) : WE X (.Name x pos) (tC (.ty T)) :=
 ⟨sU hg hm hv rfl hn hd⟩
theorem oO {X : Cx} {x : Str} {i : Int} {pos : Pos} (hg : Gl X x) (hm : ∃ t, X.mg x = some (.int i t)) (hd : (x == ("__debug__" : Str)) = false := by decide) : WE X (.Name x pos) (tC (.int i)) := by
 obtain ⟨t, hm⟩ := hm
 exact ⟨sQ hg hm ⟨t, rfl⟩ hd⟩
theorem Fun.okW {P : Program} {w : World} {K : PySem.W.Frag} {mg : Str → Option Value} {base : Heap} {x qual : Str} {st : Stmt} {f : Addr} {fd : FuncData} {N ps : List Str} {k : Nat} {sp : Sp} (F : Fun K x qual st f fd) (S : bz N ps (aw st)) (len : ∀ vs H Q E, sp vs H Q E → vs.length = ps.length)
  (hbody : ∀ (cdv : Value) (A : Around) (outer : List Env) (s : Shared) (H : Hp) (vs : List V) (Q : VK) (E : XK), ff k (A.deeper (envOfC qual (aw st) s.heap.objs.size f cdv)) → sp vs H Q E →
   ∃ t, WSs (oB CX0 P w K mg base N qual (aw st) f cdv A outer s H E).nox (aU st) t ∧ t { nx := fun _ H' => Q .non H', rt := Q } (dq N vs) H) : kC P w K mg base CX0 (k + 1) f fd ps sp :=
 F.ok S len fun cdv A outer s H vs Q E hr h => let ⟨t, a, b⟩ := hbody cdv A outer s H vs Q E hr h; ⟨t, a.h, b⟩
noncomputable def kE (env : Env) : List (Str × Addr) → Prop
 | [] => True
 | p :: r => env.cells.lookup p.1 = some p.2 ∧ kE env r
theorem kE.look {env : Env} : ∀ {cl : List (Str × Addr)} {y : Str} {c : Addr}, kE env cl → cl.lookup y = some c → env.cells.lookup y = some c
 | [], _, _, _, h => by simp at h
 | (n, d) :: r, y, c, a, h => by
  obtain ⟨a1, a2⟩ := a
  rw [List.lookup_cons] at h
  by_cases e : (y == n) = true
  ·rw [e] at h
   have e' : y = n := by simpa using e
   subst e'
   cases h
   exact a1
  ·have e' : (y == n) = false := by simpa using e
   rw [e'] at h
   exact kE.look a2 h
noncomputable abbrev cxC (X : Cx) (Nc : List Str) (scope : Scope) (cl : List (Str × Addr)) (s3 : Shared) (H3 : Hp) (fp : List Addr) : Cx where
 prog := X.prog
 w := X.w
 K := X.K
 mg := X.mg
 base := X.base
 A := X.A
 N := Nc
 s₀ := s3
 H₀ := H3
 env := compEnvC scope cl s3.heap.objs.size X.env
 outer := X.stack
 stack := X.stack
 ex := fp
 fn := fun _ => false
 calm := X.calm
 pn := []
 xe := fun _ _ => False
noncomputable def stC (n : Nat) (caps : List Nat) (σ : L2.St) : L2.St := List.replicate n none ++ caps.map fun i => (σ[i]?).getD none
noncomputable def si (wi : TI) (g : TG) (te : TE) (n : Nat) (caps : List Nat) : TE := fun σ H Q => wi σ H fun J H1 => ∀ l, H1 l = none → ∃ W : Nat → Nat → L2.St → Hp → Prop, (∃ m, W 0 m (stC n caps σ) (upd H1 l (.lst []))) ∧
 ∀ i m σ' H2, W i m σ' H2 → (J.stop i H2 ∧ Q (.ref l) H2) ∨ (J.go i H2 ∧ ∃ N : L2.St → Hp → Prop, (∀ σ'' H', N σ'' H' → ∃ m', m' < m ∧ W (i + 1) m' σ'' H') ∧
  ∀ x H3, J.yld i H2 x H3 → g x σ' H3 fun σ2 H4 => te σ2 H4 fun v H5 => ∃ ys, H5 l = some (.lst ys) ∧ ys.length < sizeLine ∧ N σ2 (upd H5 l (.lst (ys ++ [v]))))
theorem iD {prog : Program} {w : World} {A : Around} {R : Result → Shared → Prop} {s : Shared} {elt target iter : Expr} {scope : Scope} {pos : Pos} {it acc : Value} {env : Env} (I : Nat → Shared → Prop)
  (turn : ∀ n s, I n s → wpAny (model prog w) A (pyNext it) (fun r s₁ => match r with
   | none => R (.ok .next) s₁
   | some v => wpAny (model prog w) A (letOwnedTupleGo target it v) (fun _ s₁' => wpAny (model prog w) A (assign target env v) (fun _ s₂ => wpAny (model prog w) A (eval elt env) (fun x s₃ =>
     wpAny (model prog w) A (call (.builtin "list.append") [acc, x]) (fun _ s₄ => ∃ m, m < n ∧ I m s₄) (fun _ _ => False) s₃)
     (fun _ _ => False) s₂) (fun _ _ => False) s₁') (fun _ _ => False) s₁) (fun _ _ => False) s)
  (n : Nat) (h : I n s) :
  codeAny (model prog w) A (.compLoop (.ListComp elt [⟨target, iter, [], 0⟩] scope pos) 0 it acc env) R s := by
 refine codeAny_loop rfl I (fun n s hI => ?_) n h
 show wpAny _ _ ((compTurn (.ListComp elt [⟨target, iter, [], 0⟩] scope pos) 0 it acc env).onRaise (fun x => do noteFrame x env; theTreesLotGoes x)) _ _ s
 refine wpAny_noted ?_
 rw [compTurn_list1]
 refine wpAny_bind (wpAny_standAt (wpAny_bind (wpAny_mono (turn n s hI) (fun r s₁ h₁ => ?_) fun _ _ h' => h'.elim)))
 cases r with
 | none => exact wpAny_pure h₁
 | some v =>
  refine wpAny_bind (wpAny_mono h₁ (fun _ s₁' h₁' => ?_) fun _ _ h' => h'.elim)
  exact wpAny_bind (wpAny_mono h₁' (fun _ s₂ h₂ => wpAny_bind (wpAny_bind (wpAny_mono h₂ (fun x s₃ h₃ => wpAny_bind (wpAny_mono h₃
   (fun _ s₄ h₄ => wpAny_pure (wpAny_pure ⟨rfl, h₄⟩)) fun _ _ h' => h'.elim)) fun _ _ h' => h'.elim))) fun _ _ h' => h'.elim)
section
variable {X : Cx} {pins : List (Addr × Obj)} {σ : L2.St} {H : Hp} {s : Shared} {Nc capN : List Str} {scope : Scope} {cl : List (Str × Addr)} {fp : List Addr} {n : Nat} {caps : List Nat} {tg iter elt : Expr} {pos : Pos} {wi : TI} {g : TG} {te : TE}
noncomputable def Cap (X : Cx) (scope : Scope) (cl : List (Str × Addr)) (i : Nat) (y : Str) : Prop := X.N[i]? = some y ∧ X.env.scope.names.lookup y = some .cell ∧ (relabel scope X.env).names.lookup y = some .cell ∧ ∃ c, cl.lookup y = some c
theorem Inv.comp {h1 : Heap} {t' : Nat} (I : Inv X pins σ H s) (hc : X.calm = true) (f2 : ∀ b ∈ fp, oA X pins H b) (fo : ∀ b ∈ fp, b < s.heap.objs.size) (hkind : scope.kind = .function) (hcl : kE X.env cl)
  (hhas : ((relabel scope X.env).names.all fun p => !(p.2 == .cell || p.2 == .free) || (cl.lookup p.1).isSome) = true)
  (hcap : Paired (Cap X scope cl) caps capN) (tn : List Str) (hN : Nc = tn ++ capN) (hn : tn.length = n)
  (hns : h1.Ns s.heap.objs.size (fun _ => none)) (hk : ∀ b o, s.heap.get? b = some o → h1.get? b = some o) :
  Inv (cxC X Nc scope cl s H fp) [] (stC n caps σ) H { s with heap := h1, toks := t' } := by
 have lkc : ∀ y c, cl.lookup y = some c → X.env.cells.lookup y = some c := fun y c e => hcl.look e
 refine ⟨⟨I.ok.mod, ?_, I.ok.glob, I.ok.blt, Nat.le_refl _, fun x y c a b => I.ok.inj x y c (lkc _ _ a) (lkc _ _ b), fun x hx => ?_, fun x c z => (nomatch z), I.ok.hd, I.ok.frames, .inl rfl, fun b hb => ⟨Nat.ne_of_lt (fo b hb), fun x c e => (f2 b hb).2.2.2.2.1 x c (lkc _ _ e)⟩, I.bs, Nat.le_trans I.ok.bsz I.sz,
  fun b o e hb => ?_, fun b hb z => ?_, I.stack, I.stkFree⟩, rfl, I.bare, Un.kept hk, ⟨_, hns, fun i y v h1' h2 h3 => ?_⟩, fun y c e => ?_, I.hok.fresh (Nat.le_refl _), fun y c e => I.freeC y c (lkc _ _ e), fun p hp => (by simp at hp), I.hok.kept hk, ?_⟩
 ·exact hkind
 ·have hx' : (relabel scope X.env).names.lookup x = some .cell ∨ (relabel scope X.env).names.lookup x = some .free := hx
  have mem : ∀ {k}, (relabel scope X.env).names.lookup x = some k → (x, k) ∈ (relabel scope X.env).names := fun {k} e => by
   generalize (relabel scope X.env).names = L at e
   induction L with
   | nil => simp at e
   | cons p r ih =>
    obtain ⟨a, b⟩ := p
    rw [List.lookup_cons] at e
    by_cases q : (x == a) = true
    ·rw [q] at e; cases e
     have : x = a := by simpa using q
     subst this; exact List.mem_cons_self
    ·rw [show (x == a) = false by simpa using q] at e
     exact List.mem_cons_of_mem _ (ih e)
  have fin : ∀ {k}, (k = NameKind.cell ∨ k = .free) → (relabel scope X.env).names.lookup x = some k → ∃ c, cl.lookup x = some c := fun {k} hk' e => by
   have := List.all_eq_true.mp hhas _ (mem e)
   dsimp only at this
   have q : (cl.lookup x).isSome = true := by
    rcases hk' with z | z <;> subst z <;> simpa using this
   exact Option.isSome_iff_exists.mp q
  rcases hx' with e | e
  ·exact fin (.inl rfl) e
  ·exact fin (.inr rfl) e
 ·rcases (f2 b hb).2.2.2.1 with z | z
  ·exact I.ok.noex b o e z
  ·exact absurd (Nat.lt_of_lt_of_le (Heap.lt_size e) I.ok.bsz) (Nat.not_lt.mpr z)
 ·rcases List.mem_cons.mp (I.stkSub b z) with q | q
  ·exact (f2 b hb).2.1 q
  ·exact (f2 b hb).2.2.1 q
 ·obtain ⟨m, hm, hl⟩ := I.loc
  have h2' : (stC n caps σ)[i]? = some (some v) := h2
  have h1'' : Nc[i]? = some y := h1'
  unfold stC at h2'
  by_cases hi : i < n
  ·rw [List.getElem?_append_left (by simpa using hi), List.getElem?_replicate, if_pos hi] at h2'
   cases h2'
  ·rw [List.getElem?_append_right (by simp; omega), List.length_replicate, List.getElem?_map] at h2'
   rw [hN, List.getElem?_append_right (by omega), hn] at h1''
   have key : ∀ (j : Nat) {caps : List Nat} {capN : List Str}, Paired (Cap X scope cl) caps capN → capN[j]? = some y → (Option.map (fun i => (σ[i]?).getD none) caps[j]?) = some (some v) → ∃ k, Cap X scope cl k y ∧ σ[k]? = some (some v) := by
    intro j
    induction j with
    | zero =>
     intro caps capN P e1 e2
     cases P with
     | nil => simp at e1
     | @cons a b l r p t =>
      simp at e1 e2
      subst e1
      cases q : σ[a]? with
      | none => rw [q] at e2; simp at e2
      | some w' => rw [q] at e2; simp at e2; subst e2; exact ⟨a, p, q⟩
    | succ j ih =>
     intro caps capN P e1 e2
     cases P with
     | nil => simp at e1
     | cons p t => exact ih t (by simpa using e1) (by simpa using e2)
   obtain ⟨k, ⟨c1, c2, c3, c, c4⟩, e⟩ := key _ hcap h1'' h2'
   obtain ⟨u, r, lk⟩ := hl k y v c1 e (.inr (.inl c2))
   refine ⟨u, r, .inr ⟨.inl c3, c, c4, ?_⟩⟩
   rcases lk with ⟨z, _⟩ | ⟨_, c', e', o, ho, hd⟩
   ·have z' : X.env.scope.names.lookup y = some .local := z
    rw [c2] at z'; cases z'
   ·rw [lkc _ _ c4] at e'
    cases e'
    exact ⟨o, hk _ _ ho, hd⟩
 ·obtain ⟨v, o, ho, hd⟩ := I.cell y c (lkc _ _ e)
  exact ⟨v, o, hk _ _ ho, hd⟩
 ·show (stC n caps σ).length = Nc.length
  have pl : caps.length = capN.length := Paired.length hcap
  unfold stC
  rw [List.length_append, List.length_replicate, List.length_map, hN, List.length_append, hn, pl]
end
theorem p6 {X : Cx} {Nc capN tn : List Str} {scope : Scope} {cl : List (Str × Addr)} {n : Nat} {caps : List Nat} {tg iter elt : Expr} {pos : Pos} {wi : TI} {g : TG} {te : TE}
  (hc : X.calm = true) (hi : WI X tg iter wi) (hg : ∀ s3 H3 fp, WG (cxC X Nc scope cl s3 H3 fp) tg g) (he : ∀ s3 H3 fp, WE (cxC X Nc scope cl s3 H3 fp) elt te)
  (hclos : closureFor scope X.env = pure cl) (hkind : scope.kind = .function) (hnl : ∀ x ∈ scope.names, x.2 = .local → scope.names.lookup x.1 = some .local) (hcell : ∀ x ∈ scope.names, x.2 ≠ .cell)
  (hcl : kE X.env cl) (hhas : ((relabel scope X.env).names.all fun p => !(p.2 == .cell || p.2 == .free) || (cl.lookup p.1).isSome) = true)
  (hcap : Paired (Cap X scope cl) caps capN) (hN : Nc = tn ++ capN) (hn : tn.length = n)
  {use : Option (Value → Sem Unit)} {pins : List (Addr × Obj)} {σ : L2.St} {H : Hp} {s : Shared} {Q : VK} {Qf : Value → Shared → Prop} (I : Inv X pins σ H s) (h : si wi g te n caps σ H Q)
  (hend : ∀ (D C : Addr) (s6 : Shared) (H5 : Hp) (m : Str → Option Value), Inv X pins σ H5 s6 → s6.heap.Ns C m → H5 C = none → C ≠ X.env.locals → X.s₀.heap.objs.size ≤ C → (∀ x c, X.env.cells.lookup x = some c → c ≠ C) → (∀ p ∈ X.pn ++ pins, p.1 ≠ C) → Q (.ref D) H5 → compPost (model X.prog X.w) X.A X.xe use Qf (.ref D) C (.ok .next) s6)
  (hs : ∀ x, foldedSetIterable iter X.env x = pure x) :
  wpAny (model X.prog X.w) X.A (comprehension (.ListComp elt [⟨tg, iter, [], 0⟩] scope pos) scope X.env (firstIterPos [⟨tg, iter, [], 0⟩] pos) (newList []) (firstAsync [⟨tg, iter, [], 0⟩]) (firstIter [⟨tg, iter, [], 0⟩] X.env) use) Qf X.xe s := by
 refine wpAny_comprehension_free (use := use) (g := ⟨tg, iter, [], 0⟩) (gs := []) rfl hs hclos hkind hnl (thn (hi.h pins s σ H _ I h) fun v s1 h1 => thn h1 fun itv s2 h2 => ?_)
 obtain ⟨it, fp, tnn, J, H2, rfl, I2, T, st2, f2, hW⟩ := h2
 have hD := I2.fresh
 obtain ⟨W, ⟨m0, w0⟩, turn⟩ := hW _ hD
 refine wpAny_newObj_type (wpAny_newFunctionEnv hcell (by intro y hy; simp at hy) (fun h₁ hns₁ hsb₁ => ?_) hkind)
 dsimp only at hns₁ hsb₁ ⊢
 have I3 : Inv X pins σ (upd H2 s2.heap.objs.size (.lst [])) { s2 with heap := s2.heap.push { cls := .type "list", dict := none, data := .seq ([] : List Value).toArray }, toks := s2.toks } := I2.lnew (its := []) .nil (Nat.zero_le _)
 generalize hs3 : ({ s2 with heap := s2.heap.push { cls := .type "list", dict := none, data := .seq ([] : List Value).toArray }, toks := s2.toks } : Shared) = s3 at I3
 have es3 : s3.heap = s2.heap.push { cls := .type "list", dict := none, data := .seq ([] : List Value).toArray } := by rw [← hs3]
 generalize hDD : s2.heap.objs.size = D at *
 have kept : ∀ b o, s3.heap.get? b = some o → h₁.get? b = some o := fun b o e => by
  have lt := Heap.lt_size e
  rw [es3] at lt e
  exact hsb₁.extBut b o (Nat.ne_of_lt lt) (Heap.get?_push_of_some _ e)
 have old : ∀ b o, s2.heap.get? b = some o → s3.heap.get? b = some o := fun b o e => by rw [es3]; exact Heap.get?_push_of_some _ e
 have ltD : ∀ b ∈ fp, b < D := fun b hb => by
  obtain ⟨o, e, _⟩ := T.obj 0 _ st2 b hb
  rw [← hDD]; exact Heap.lt_size e
 have fo : ∀ b ∈ fp, b < s3.heap.objs.size := fun b hb => by
  obtain ⟨o, e, _⟩ := T.obj 0 _ st2 b hb
  exact Heap.lt_size (old _ _ e)
 have f3 : ∀ b ∈ fp, oA X pins (upd H2 D (.lst [])) b := fun b hb => by
  refine ⟨?_, (f2 b hb).2⟩
  rw [aF (Nat.ne_of_lt (ltD b hb))]
  exact (f2 b hb).1
 rw [← es3] at hns₁ hsb₁ ⊢
 have Ic := fun t' => Inv.comp (h1 := h₁) (t' := t') (Nc := Nc) (n := n) I3 hc f3 fo hkind hcl hhas hcap tn hN hn hns₁ kept
 have stat : ∀ {H' : Hp}, (∀ b ∈ fp, H' b = none) → ∀ b ∈ fp, oA (cxC X Nc scope cl s3 (upd H2 D (.lst [])) fp) [] H' b := fun hn' b hb => by
  refine ⟨hn' b hb, Nat.ne_of_lt (fo b hb), fun z => ?_, .inl hb, fun x c e => (f2 b hb).2.2.2.2.1 x c (hcl.look e), fun p hp => (by simp at hp)⟩
  rcases List.mem_cons.mp (I3.stkSub b z) with q | q
  ·exact (f2 b hb).2.1 q
  ·exact (f2 b hb).2.2.1 q
 have loop : ∀ s4 : Shared, (∃ t', s4 = { s3 with heap := h₁, toks := t' }) → codeAny (model X.prog X.w) X.A (.compLoop (.ListComp elt [⟨tg, iter, [], 0⟩] scope pos) 0 (.ref it) (.ref D) (compEnvC scope cl s3.heap.objs.size X.env))
   (compPost (model X.prog X.w) X.A X.xe use Qf (.ref D) s3.heap.objs.size) s4 := by
  rintro s4 ⟨t', rfl⟩
  refine iD (fun n' s' => ∃ i σ' H', Inv (cxC X Nc scope cl s3 (upd H2 D (.lst [])) fp) [] σ' H' s' ∧ tnn i s'.heap ∧ (∀ b ∈ fp, H' b = none) ∧ W i n' σ' H') ?_ m0
   ⟨0, _, _, Ic t', T.keep 0 _ _ st2 fun b hb o e => kept _ _ (old _ _ e), fun b hb => (f3 b hb).1, w0⟩
  rintro n' s5 ⟨i, σ5, H5, I5, st5, fr5, w5⟩
  rcases turn i n' σ5 H5 w5 with ⟨stop, qn⟩ | ⟨go, N, hN', step⟩
  ·refine thn (T.done (cxC X Nc scope cl s3 (upd H2 D (.lst [])) fp) rfl rfl rfl hc i [] s5 σ5 H5 (fun _ _ => False) I5 (stat fr5) st5 stop) fun r s6 ⟨hr, I6⟩ => ?_
   subst hr
   obtain ⟨m, hm, _⟩ := I6.loc
   have I7 : Inv X pins σ H5 s6 := Inv.call' (ch := fp) I3 I6.os I6.base I6.hok I6.bare fun b hb => ⟨(f2 b hb).2.2.2.1, (f2 b hb).2.1, (f2 b hb).2.2.2.2.1, (f2 b hb).2.2.2.2.2⟩
   exact hend D _ s6 H5 m I7 hm I6.free (Ne.symm (Nat.ne_of_lt I3.lt)) I3.sz (fun x c e => by
     obtain ⟨v', o, ho, _⟩ := I3.cell x c e
     exact Nat.ne_of_lt (Heap.lt_size ho)) (fun p hp => Nat.ne_of_lt (Heap.lt_size (I3.pin p hp).1)) qn
  ·refine thn (T.item (cxC X Nc scope cl s3 (upd H2 D (.lst [])) fp) rfl rfl rfl hc i [] s5 σ5 H5 (fun _ _ => False) I5 (stat fr5) st5 go) fun r s6 ⟨u, hr, h6⟩ => ?_
   subst hr
   refine thn h6 fun _ s7 hz => ?_
   obtain ⟨x, H7, I7, r7, y7, st7, fr7⟩ := hz
   have I7' := I7.pinned (stat fr7) (T.obj _ _ st7)
   refine thn ((hg s3 (upd H2 D (.lst [])) fp).h _ s7 σ5 H7 x u _ I7' r7 (step x H7 y7)) fun _ s8 hz => ?_
   obtain ⟨σ8, H8, I8, q8⟩ := hz
   refine thn ((he s3 (upd H2 D (.lst [])) fp).h _ s8 σ8 H8 _ I8 q8) fun v9 s9 hz => ?_
   obtain ⟨x9, H9, I9, r9, ys, hy, hlt, q9⟩ := hz
   refine thn (eJ (X := cxC X Nc scope cl s3 (upd H2 D (.lst [])) fp) _ s9 σ8 H9 (.ref D) [x9] (.ref D) [v9] (fun _ H' => N σ8 H') I9 rfl (.cons r9 .nil) ⟨D, ys, x9, rfl, rfl, hy, hlt, q9⟩) fun _ s10 hz => ?_
   obtain ⟨_, H10, I10, _, q10⟩ := hz
   obtain ⟨m', hm, w10⟩ := hN' σ8 H10 q10
   refine ⟨m', hm, i + 1, σ8, H10, I10.unpinned, T.keep _ _ _ st7 fun b hb o e => (I10.pin (b, o) (List.mem_append_right _ (List.mem_append_right _ (bY hb e)))).1, fun b hb => ?_, w10⟩
   obtain ⟨o, e, d⟩ := T.obj _ _ st7 b hb
   exact (I10.pin (b, o) (List.mem_append_right _ (List.mem_append_right _ (bY hb e)))).2.1
 have e4 : ∀ t', ({ s2 with heap := h₁, toks := t' } : Shared) = { s3 with heap := h₁, toks := t' } := fun t' => by rw [← hs3]
 refine codeAny_compStart_list (loop _ ⟨_, e4 _⟩) (T.self _ 0 _ _ _ (T.keep 0 _ _ st2 fun b hb o e => kept _ _ (old _ _ e)) (loop _ ⟨_, e4 _⟩))
theorem jN {X : Cx} {Nc capN tn : List Str} {scope : Scope} {cl : List (Str × Addr)} {n : Nat} {caps : List Nat} {tg iter elt : Expr} {pos : Pos} {wi : TI} {g : TG} {te : TE}
  (hc : X.calm = true) (hi : WI X tg iter wi) (hg : ∀ s3 H3 fp, WG (cxC X Nc scope cl s3 H3 fp) tg g) (he : ∀ s3 H3 fp, WE (cxC X Nc scope cl s3 H3 fp) elt te)
  (hclos : closureFor scope X.env = pure cl) (hkind : scope.kind = .function) (hnl : ∀ x ∈ scope.names, x.2 = .local → scope.names.lookup x.1 = some .local) (hcell : ∀ x ∈ scope.names, x.2 ≠ .cell)
  (hcl : kE X.env cl) (hhas : ((relabel scope X.env).names.all fun p => !(p.2 == .cell || p.2 == .free) || (cl.lookup p.1).isSome) = true)
  (hcap : Paired (Cap X scope cl) caps capN) (hN : Nc = tn ++ capN) (hn : tn.length = n)
  (hs : ∀ x, foldedSetIterable iter X.env x = pure x := by intro _; rfl) :
  WE X (.ListComp elt [⟨tg, iter, [], 0⟩] scope pos) (si wi g te n caps) := by
 constructor
 intro pins s σ H Q I h
 rw [eval_ListComp]
 refine p6 hc hi hg he hclos hkind hnl hcell hcl hhas hcap hN hn I h (fun D C s6 H5 m I7 hm fr nl sz cn pn qn => ⟨m, hm, fun h' hs' => ?_⟩) hs
 exact ⟨.ref D, H5, I7.turned (t' := s6.toks) (it := C) (fun b o hb e => hs'.extBut b o hb e) fr nl (.inr sz) cn pn, rfl, qn⟩
section
variable {X : Cx}
theorem mm : ∀ {bs : List Bool} {us : List Value} {i : Nat} {v : Value}, aQ (bs.map V.bl) us → us[i]? = some v → ∃ b, bs[i]? = some b ∧ v = .bool b
 | [], _, _, _, r, e => by cases r; simp at e
 | b :: bs, _, 0, _, .cons r _, e => by
  have r' : _ = Value.bool b := r
  simp at e; subst e; exact ⟨b, by simp, r'⟩
 | b :: bs, _, i + 1, v, .cons _ t, e => by
  obtain ⟨b', e1, e2⟩ := mm (i := i) (v := v) t (by simpa using e)
  exact ⟨b', by simpa using e1, e2⟩
theorem qg (bs : List Bool) : (List.range bs.length).all (fun i => (bs[i]?).getD true) = bs.all id := by
 rw [Bool.eq_iff_iff, List.all_eq_true, List.all_eq_true]
 constructor
 ·intro h b hb
  obtain ⟨i, hi, e⟩ := List.mem_iff_getElem.mp hb
  have := h i (List.mem_range.mpr hi)
  rw [List.getElem?_eq_getElem hi, Option.getD_some, e] at this
  exact this
 ·intro h i hi
  have hi' := List.mem_range.mp hi
  have := h _ (List.getElem_mem hi')
  rw [List.getElem?_eq_getElem hi', Option.getD_some]
  exact this
theorem tj {h : Heap} {b : Addr} {o : Obj} (e : h.get? b = some o) : ¬ b ∈ [h.objs.size] := fun z => by
 have z' : b = h.objs.size := by simpa using z
 exact absurd (Heap.lt_size e) (by rw [z']; exact Nat.lt_irrefl _)
theorem p8 (hc : X.calm = true) : bX X (.builtin "all") (fun xs H Q => ∃ (p : Addr) (bs : List Bool), xs = [.ref p] ∧ SqL X.K H p (bs.map V.bl) ∧ Q (.bl (bs.all id)) H) := by
 intro pins s σ H xs us Q I r h
 obtain ⟨p, bs, rfl, hq, q⟩ := h
 obtain ⟨u, rfl, rx⟩ := fT r
 cases rx
 obtain ⟨its, rv, pl, hz⟩ := I.list hq
 have cH := rv.length
 rw [List.length_map] at cH
 refine call_all_walk (wpAny_pyIter_list pl.isList ?_)
 have lt : p < s.heap.objs.size := by obtain ⟨o, e, _⟩ := pl.isList; exact Heap.lt_size e
 refine ⟨s.heap.objs.size, _, _, _, _, _, fun i => (bs[i]?).getD true, rfl, Walks.list (show X.A.in1.handled = none from I.ok.hd hc) s.heap.objs.size p (Nat.ne_of_lt lt) its.toArray, ⟨⟨_, Heap.get?_push_size _ rfl, rfl, rfl⟩, pl.isList.at fun o e => Heap.get?_push_of_some _ e⟩, ?_, fun h' tk hk => ?_⟩
 ·intro i v s' Q' E' hP hQ
  have hP' : its.toArray[i]? = some v := hP
  obtain ⟨b, e1, e2⟩ := mm rv (by simpa using hP')
  subst e2
  dsimp only at hQ
  rw [e1, Option.getD_some] at hQ
  exact wpAny_truthy_bool hQ
 ·have e : (List.range its.toArray.size).all (fun i => (bs[i]?).getD true) = bs.all id := by
   rw [List.size_toArray, ← cH]; exact qg bs
  rw [e]
  exact ⟨.bl (bs.all id), H, I.kept fun b o e => hk b o (tj e) (Heap.get?_push_of_some _ e), rfl, q⟩
end
open PySem.AutoSeq1 (wpAny_loadPart')
theorem p7 {prog : Program} {w : World} {A : Around} {E : Value → Shared → Prop} {s : Shared} {t b : Addr} {vs ws : List Value} {Q : Value → Shared → Prop} (ht : IsTup s.heap t vs.toArray) (hb : IsTup s.heap b ws.toArray) (hv : vs = [])
  (h1 : Q (.ref b) s) : wpAny (model prog w) A (binaryOp .Add (.ref t) (.ref b)) Q E s := by
 obtain ⟨⟨cls, dd, data, sl⟩, ho, hc, n, hd⟩ := id ht
 obtain ⟨⟨cls2, dd2, data2, sl2⟩, ho2, hc2, n2, hd2⟩ := id hb
 simp only at hc hd hc2 hd2
 subst hc hd hc2 hd2
 exact concat_meets ⟨_, ho, rfl⟩ ⟨_, ho2, rfl⟩ noFill_tuple_add seq_tuple_add PySem.F.slot_tuple_add PySem.F.entry_tuple_add (PySem.F.args_tuple_add_2 _ _)
   (tuple_addW0 t b vs.toArray ws.toArray n n2 dd dd2 sl sl2 (by simp [hv])) ⟨ho, ho2, h1⟩
theorem ng {m : Int} (h0 : 0 ≤ m) (h : m < 2 ^ 60) : m.natAbs.log2 < 9000 := by
 have := kZ (n := m.natAbs) (by omega)
 omega
end OG
namespace OP
open PySem PySem.Spec PyProof.Rows L2 OG
inductive U where
 | non | bl (b : Bool) | int (i : Int) | str (x : Str) | tup (us : List U) | ref (l : Nat) | kl (ns : List Int)
structure Cl where
 C : Addr
 ns : List Str
inductive O where
 | lst (us : List U) | dic (kvs : List (Key × U)) | ins (c : Cl) (fs : List (Option U)) | fdc (ep : Nat) (kvs : List (Key × U)) | dit (kvs : List (List Key × U)) | fdt (ep : Nat) (kvs : List (List Key × U))
noncomputable abbrev Sto := List O
noncomputable abbrev Rho := List (Option U)
noncomputable def KL (K : PySem.W.Frag) (H : Hp) (a : Addr) (ns : List Int) : Prop :=
 (∃ o, H a = some (.frz o (.lst (ns.map V.int)))) ∨
  ∃ (o : Obj) (its : Array Value) (n : Nat), K.lookup a = some o ∧ o.cls = .type "list" ∧ o.dict = none ∧ o.data = .seq its n ∧ its.size ≤ sizeLine ∧ aQ (ns.map V.int) its.toList
theorem KL.sq {K : PySem.W.Frag} {H : Hp} {a : Addr} {ns : List Int} (h : KL K H a ns) : SqL K H a (ns.map V.int) := by
 rcases h with h | h
 ·exact .inl (.inr h)
 ·exact .inr h
mutual
noncomputable def Is (K : PySem.W.Frag) (m : List Addr) (H : Hp) : V → U → Prop
 | v, .non => v = .non
 | v, .bl b => v = .bl b
 | v, .int i => v = .int i
 | v, .str x => v = .str x
 | v, .tup us => ∃ a xs, v = .ref a ∧ SqT K H a xs ∧ IsL K m H xs us
 | v, .ref l => ∃ a, m[l]? = some a ∧ v = .ref a
 | v, .kl ns => ∃ a, v = .ref a ∧ KL K H a ns
noncomputable def IsL (K : PySem.W.Frag) (m : List Addr) (H : Hp) : List V → List U → Prop
 | xs, [] => xs = []
 | xs, u :: us => ∃ x r, xs = x :: r ∧ Is K m H x u ∧ IsL K m H r us
end
structure tZ (K : PySem.W.Frag) (H H' : Hp) : Prop where
 t : ∀ a xs, SqT K H a xs → SqT K H' a xs
 l : ∀ a ns, KL K H a ns → KL K H' a ns
structure Ext (K : PySem.W.Frag) (m : List Addr) (H : Hp) (m' : List Addr) (H' : Hp) : Prop where
 pre : ∃ t, m' = m ++ t
 keep : tZ K H H'
section
variable {K : PySem.W.Frag} {m m' m'' : List Addr} {H H' H'' : Hp} {v x : V} {u : U} {xs ys : List V} {us ws : List U} {a q : Addr} {o : HO}
theorem Ext.refl : Ext K m H m H := ⟨⟨[], by simp⟩, fun _ _ h => h, fun _ _ h => h⟩
theorem Ext.trans (a : Ext K m H m' H') (b : Ext K m' H' m'' H'') : Ext K m H m'' H'' := by
 obtain ⟨t, rfl⟩ := a.pre
 obtain ⟨t', rfl⟩ := b.pre
 exact ⟨⟨t ++ t', by simp⟩, fun c ys h => b.keep.t c ys (a.keep.t c ys h), fun c ys h => b.keep.l c ys (a.keep.l c ys h)⟩
theorem Ext.of (k : tZ K H H') : Ext K m H m H' := ⟨⟨[], by simp⟩, k⟩
theorem Ext.new (k : tZ K H H') : Ext K m H (m ++ [q]) H' := ⟨⟨[q], rfl⟩, k⟩
theorem Ext.get {l : Nat} (e : Ext K m H m' H') (h : m[l]? = some a) : m'[l]? = some a := by
 obtain ⟨t, rfl⟩ := e.pre
 rw [List.getElem?_append_left (List.getElem?_eq_some_iff.mp h).1]
 exact h
mutual
theorem Is.mono (e : Ext K m H m' H') : ∀ {v : V} {u : U}, Is K m H v u → Is K m' H' v u
 | v, .non, h => by unfold Is at h ⊢; exact h
 | v, .bl b, h => by unfold Is at h ⊢; exact h
 | v, .int i, h => by unfold Is at h ⊢; exact h
 | v, .str x, h => by unfold Is at h ⊢; exact h
 | v, .tup us, h => by
  unfold Is at h ⊢
  obtain ⟨a, xs, e1, k, l⟩ := h
  exact ⟨a, xs, e1, e.keep.t _ _ k, IsL.mono e l⟩
 | v, .ref l, h => by
  unfold Is at h ⊢
  obtain ⟨a, k, e1⟩ := h
  exact ⟨a, e.get k, e1⟩
 | v, .kl ns, h => by
  unfold Is at h ⊢
  obtain ⟨a, e1, k⟩ := h
  exact ⟨a, e1, e.keep.l _ _ k⟩
theorem IsL.mono (e : Ext K m H m' H') : ∀ {xs : List V} {us : List U}, IsL K m H xs us → IsL K m' H' xs us
 | xs, [], h => by unfold IsL at h ⊢; exact h
 | xs, u :: us, h => by
  unfold IsL at h ⊢
  obtain ⟨x, r, e1, k, l⟩ := h
  exact ⟨x, r, e1, Is.mono e k, IsL.mono e l⟩
end
theorem Is.int_ {i : Int} : Is K m H (.int i) (.int i) := by unfold Is; rfl
theorem Is.bl_ {b : Bool} : Is K m H (.bl b) (.bl b) := by unfold Is; rfl
theorem Is.non_ : Is K m H .non .non := by unfold Is; rfl
theorem Is.str_ {x : Str} : Is K m H (.str x) (.str x) := by unfold Is; rfl
theorem Is.of_int {i : Int} (h : Is K m H v (.int i)) : v = .int i := by unfold Is at h; exact h
theorem Is.of_bl {b : Bool} (h : Is K m H v (.bl b)) : v = .bl b := by unfold Is at h; exact h
theorem Is.of_non (h : Is K m H v .non) : v = .non := by unfold Is at h; exact h
theorem Is.of_str {x : Str} (h : Is K m H v (.str x)) : v = .str x := by unfold Is at h; exact h
theorem Is.of_tup (h : Is K m H v (.tup us)) : ∃ a xs, v = .ref a ∧ SqT K H a xs ∧ IsL K m H xs us := by unfold Is at h; exact h
theorem Is.of_ref {l : Nat} (h : Is K m H v (.ref l)) : ∃ a, m[l]? = some a ∧ v = .ref a := by unfold Is at h; exact h
theorem Is.of_kl {ns : List Int} (h : Is K m H v (.kl ns)) : ∃ a, v = .ref a ∧ KL K H a ns := by unfold Is at h; exact h
theorem Is.kl_ {ns : List Int} (e : KL K H a ns) : Is K m H (.ref a) (.kl ns) := by unfold Is; exact ⟨a, rfl, e⟩
theorem Is.tup_ (e : SqT K H a xs) (h : IsL K m H xs us) : Is K m H (.ref a) (.tup us) := by unfold Is; exact ⟨a, xs, rfl, e, h⟩
theorem Is.ref_ {l : Nat} (e : m[l]? = some a) : Is K m H (.ref a) (.ref l) := by unfold Is; exact ⟨a, e, rfl⟩
theorem IsL.nil_ : IsL K m H [] [] := by unfold IsL; rfl
theorem IsL.cons_ (h : Is K m H x u) (t : IsL K m H xs us) : IsL K m H (x :: xs) (u :: us) := by unfold IsL; exact ⟨x, xs, rfl, h, t⟩
theorem IsL.of_nil (h : IsL K m H xs []) : xs = [] := by unfold IsL at h; exact h
theorem IsL.of_cons (h : IsL K m H xs (u :: us)) : ∃ x r, xs = x :: r ∧ Is K m H x u ∧ IsL K m H r us := by unfold IsL at h; exact h
theorem IsL.length : ∀ {xs : List V} {us : List U}, IsL K m H xs us → xs.length = us.length
 | xs, [], h => by rw [h.of_nil]; rfl
 | xs, d :: ds, h => by
  obtain ⟨x, r, rfl, _, t⟩ := h.of_cons
  rw [List.length_cons, List.length_cons, IsL.length t]
theorem IsL.getD : ∀ {xs : List V} {us : List U} {i : Nat} {u : U}, IsL K m H xs us → us[i]? = some u → ∃ x, xs[i]? = some x ∧ Is K m H x u
 | xs, [], i, x, h, e => by simp at e
 | xs, d :: ds, 0, x, h, e => by
  obtain ⟨y, r, rfl, k, t⟩ := h.of_cons
  simp at e; subst e; exact ⟨y, by simp, k⟩
 | xs, d :: ds, i + 1, x, h, e => by
  obtain ⟨y, r, rfl, k, t⟩ := h.of_cons
  obtain ⟨d', e1, e2⟩ := IsL.getD (i := i) (u := x) t (by simpa using e)
  exact ⟨d', by simpa using e1, e2⟩
theorem IsL.append : ∀ {xs : List V} {us : List U}, IsL K m H xs us → IsL K m H ys ws → IsL K m H (xs ++ ys) (us ++ ws)
 | xs, [], h, k => by rw [h.of_nil]; exact k
 | xs, d :: ds, h, k => by
  obtain ⟨y, r, rfl, z, t⟩ := h.of_cons
  exact .cons_ z (IsL.append t k)
theorem IsL.set : ∀ {xs : List V} {us : List U} {j : Nat}, IsL K m H xs us → Is K m H x u → IsL K m H (xs.set j x) (us.set j u)
 | xs, [], j, h, k => by rw [h.of_nil]; exact .nil_
 | xs, d :: ds, 0, h, k => by
  obtain ⟨y, r, rfl, z, t⟩ := h.of_cons
  exact .cons_ k t
 | xs, d :: ds, j + 1, h, k => by
  obtain ⟨y, r, rfl, z, t⟩ := h.of_cons
  exact .cons_ z (IsL.set t k)
theorem IsL.drop : ∀ {xs : List V} {us : List U} (n : Nat), IsL K m H xs us → IsL K m H (xs.drop n) (us.drop n)
 | xs, us, 0, h => h
 | xs, [], n + 1, h => by rw [h.of_nil]; exact .nil_
 | xs, d :: ds, n + 1, h => by
  obtain ⟨y, r, rfl, z, t⟩ := h.of_cons
  exact IsL.drop n t
theorem IsL.take : ∀ {xs : List V} {us : List U} (n : Nat), IsL K m H xs us → IsL K m H (xs.take n) (us.take n)
 | xs, us, 0, h => .nil_
 | xs, [], n + 1, h => by rw [h.of_nil]; exact .nil_
 | xs, d :: ds, n + 1, h => by
  obtain ⟨y, r, rfl, z, t⟩ := h.of_cons
  exact .cons_ z (IsL.take n t)
theorem IsL.erase : ∀ {xs : List V} {us : List U} (n : Nat), IsL K m H xs us → IsL K m H (xs.eraseIdx n) (us.eraseIdx n)
 | xs, [], n, h => by rw [h.of_nil]; exact .nil_
 | xs, d :: ds, 0, h => by
  obtain ⟨y, r, rfl, z, t⟩ := h.of_cons
  exact t
 | xs, d :: ds, n + 1, h => by
  obtain ⟨y, r, rfl, z, t⟩ := h.of_cons
  exact .cons_ z (IsL.erase n t)
theorem IsL.rev : ∀ {xs : List V} {us : List U}, IsL K m H xs us → IsL K m H xs.reverse us.reverse
 | xs, [], h => by rw [h.of_nil]; exact .nil_
 | xs, d :: ds, h => by
  obtain ⟨y, r, rfl, z, t⟩ := h.of_cons
  rw [List.reverse_cons, List.reverse_cons]
  exact IsL.append (IsL.rev t) (.cons_ z .nil_)
theorem ke (h : H a = some o) (nt : ∀ xs, o ≠ .tup xs) (nf : ∀ ob xs, o ≠ .frz ob (.tup xs)) (nl : ∀ ob xs, o ≠ .frz ob (.lst xs)) (o' : HO) : tZ K H (upd H a o') := by
 refine ⟨fun b xs q => ?_, fun b ns q => ?_⟩
 ·rcases q with (q | ⟨ob, q⟩) | q
  ·have n : b ≠ a := fun z => by subst z; rw [q] at h; cases h; exact nt _ rfl
   exact .inl (.inl (by rw [aF n]; exact q))
  ·have n : b ≠ a := fun z => by subst z; rw [q] at h; cases h; exact nf _ _ rfl
   exact .inl (.inr ⟨ob, by rw [aF n]; exact q⟩)
  ·exact .inr q
 ·rcases q with ⟨ob, q⟩ | q
  ·have n : b ≠ a := fun z => by subst z; rw [q] at h; cases h; exact nl _ _ rfl
   exact .inl ⟨ob, by rw [aF n]; exact q⟩
  ·exact .inr q
theorem dD (s : tY H H') : tZ K H H' := by
 refine ⟨fun b xs q => ?_, fun b ns q => ?_⟩
 ·rcases q with (q | ⟨ob, q⟩) | q
  ·exact .inl (.inl (s _ _ q))
  ·exact .inl (.inr ⟨ob, s _ _ q⟩)
  ·exact .inr q
 ·rcases q with ⟨ob, q⟩ | q
  ·exact .inl ⟨ob, s _ _ q⟩
  ·exact .inr q
theorem aW (h : H q = none) (o' : HO) : tZ K H (upd H q o') := dD (d7 h o')
end
noncomputable def IsP {κ : Type} (K : PySem.W.Frag) (m : List Addr) (H : Hp) (kvs : List (κ × V)) (kus : List (κ × U)) : Prop := kvs.map (·.1) = kus.map (·.1) ∧ IsL K m H (kvs.map (·.2)) (kus.map (·.2))
noncomputable def Rf (K : PySem.W.Frag) (m : List Addr) (H : Hp) : Option V → Option U → Prop
 | some v, some u => Is K m H v u
 | none, none => True
 | _, _ => False
structure InF (K : PySem.W.Frag) (m : List Addr) (H : Hp) (c : Cl) (fs : List (Str × V)) (fus : List (Option U)) : Prop where
 nd : c.ns.Nodup
 few : c.ns.length < 1000
 knd : (fs.map (·.1)).Nodup
 sub : ∀ x ∈ fs.map (·.1), x ∈ c.ns
 len : fus.length = c.ns.length
 at_ : ∀ (i : Nat) (x : Str), c.ns[i]? = some x → Rf K m H (fs.lookup x) ((fus[i]?).join)
theorem Rf.mono {K : PySem.W.Frag} {m m' : List Addr} {H H' : Hp} {v : Option V} {u : Option U} (e : Ext K m H m' H') (h : Rf K m H v u) : Rf K m' H' v u := by
 cases v with
 | none => cases u with
  | none => trivial
  | some u => exact h.elim
 | some v => cases u with
  | none => exact h.elim
  | some u => exact Is.mono e h
theorem InF.mono {K : PySem.W.Frag} {m m' : List Addr} {H H' : Hp} {c : Cl} {fs : List (Str × V)} {fus : List (Option U)} (e : Ext K m H m' H') (h : InF K m H c fs fus) : InF K m' H' c fs fus := ⟨h.nd, h.few, h.knd, h.sub, h.len, fun i x q => (h.at_ i x q).mono e⟩
noncomputable def Ob (K : PySem.W.Frag) (m : List Addr) (H : Hp) (a : Addr) : O → Prop
 | .lst us => ∃ xs, H a = some (.lst xs) ∧ IsL K m H xs us
 | .dic kus => ∃ kvs, H a = some (.dK kvs) ∧ IsP K m H kvs kus
 | .ins c fus => ∃ dx fs, H a = some (.ins c.C dx fs) ∧ InF K m H c fs fus
 | .fdc ep kus => ∃ ob es kvs, H a = some (.frz ob (.dK kvs)) ∧ ob.data = .dict es ep ∧ IsP K m H kvs kus
 | .dit kus => ∃ kvs, H a = some (.dT kvs) ∧ IsP K m H kvs kus
 | .fdt ep kus => ∃ ob es kvs, H a = some (.frz ob (.dT kvs)) ∧ ob.data = .dict es ep ∧ IsP K m H kvs kus
structure Sr (K : PySem.W.Frag) (m : List Addr) (S : Sto) (H : Hp) : Prop where
 len : m.length = S.length
 nd : m.Nodup
 ob : ∀ (l : Nat) (a : Addr) (o : O), m[l]? = some a → S[l]? = some o → Ob K m H a o
structure Lr (K : PySem.W.Frag) (m : List Addr) (H : Hp) (ρ : Rho) (σ : L2.St) : Prop where
 len : ρ.length = σ.length
 at_ : ∀ (i : Nat) (u : U), ρ[i]? = some (some u) → ∃ v, σ[i]? = some (some v) ∧ Is K m H v u
section
variable {κ : Type} {K : PySem.W.Frag} {m m' : List Addr} {H H' : Hp} {S S' : Sto} {ρ : Rho} {σ : L2.St} {a q : Addr} {l : Nat} {o : O} {ho : HO} {us : List U} {v : V} {u : U} {kvs : List (κ × V)} {kus : List (κ × U)}
theorem IsP.mono (e : Ext K m H m' H') (h : IsP K m H kvs kus) : IsP K m' H' kvs kus := ⟨h.1, h.2.mono e⟩
theorem IsP.length (h : IsP K m H kvs kus) : kvs.length = kus.length := by have := h.2.length; simpa using this
theorem IsP.nil_ : IsP (κ := κ) K m H [] [] := ⟨rfl, .nil_⟩
theorem IsP.cons_ {k : κ} (h : Is K m H v u) (t : IsP K m H kvs kus) : IsP K m H ((k, v) :: kvs) ((k, u) :: kus) := ⟨by simp [t.1], .cons_ h t.2⟩
theorem IsP.ind {P : List (κ × V) → List (κ × U) → Prop} (h0 : P [] []) (h1 : ∀ k v u kvs kus, Is K m H v u → IsP K m H kvs kus → P kvs kus → P ((k, v) :: kvs) ((k, u) :: kus)) : ∀ {kvs : List (κ × V)} {kus : List (κ × U)}, IsP K m H kvs kus → P kvs kus
 | [], [], _ => h0
 | [], p :: r, h => by have := h.length; simp at this
 | p :: r, [], h => by have := h.length; simp at this
 | (k, v) :: r, (k', u) :: r', h => by
  obtain ⟨e, i⟩ := h
  simp only [List.map_cons, List.cons.injEq] at e
  obtain ⟨e1, e2⟩ := e
  subst e1
  obtain ⟨x, t, e3, iu, it⟩ := i.of_cons
  cases e3
  exact h1 k v u r r' iu ⟨e2, it⟩ (IsP.ind h0 h1 (⟨e2, it⟩ : IsP K m H r r'))
theorem Ob.mono (e : Ext K m H m' H') (h1 : H' a = H a) (h : Ob K m H a o) : Ob K m' H' a o := by
 cases o with
 | lst us => obtain ⟨xs, k, i⟩ := h; exact ⟨xs, h1.trans k, i.mono e⟩
 | dic kus => obtain ⟨xs, k, i⟩ := h; exact ⟨xs, h1.trans k, i.mono e⟩
 | ins C fus => obtain ⟨dx, fs, k, i⟩ := h; exact ⟨dx, fs, h1.trans k, i.mono e⟩
 | fdc ep kus => obtain ⟨ob, es, kvs, k, d, i⟩ := h; exact ⟨ob, es, kvs, h1.trans k, d, i.mono e⟩
 | dit kus => obtain ⟨xs, k, i⟩ := h; exact ⟨xs, h1.trans k, i.mono e⟩
 | fdt ep kus => obtain ⟨ob, es, kvs, k, d, i⟩ := h; exact ⟨ob, es, kvs, h1.trans k, d, i.mono e⟩
theorem Ob.some (h : Ob K m H a o) : ∃ ho, H a = some ho ∧ (∀ xs, ho ≠ .tup xs) ∧ (∀ ob xs, ho ≠ .frz ob (.tup xs)) ∧ (∀ ob xs, ho ≠ .frz ob (.lst xs)) := by
 cases o with
 | lst us => obtain ⟨xs, k, i⟩ := h; exact ⟨_, k, by simp, by simp, by simp⟩
 | dic kus => obtain ⟨xs, k, i⟩ := h; exact ⟨_, k, by simp, by simp, by simp⟩
 | ins C fus => obtain ⟨dx, fs, k, i⟩ := h; exact ⟨_, k, by simp, by simp, by simp⟩
 | fdc ep kus => obtain ⟨ob, es, kvs, k, d, i⟩ := h; exact ⟨_, k, by simp, by simp, by simp⟩
 | dit kus => obtain ⟨xs, k, i⟩ := h; exact ⟨_, k, by simp, by simp, by simp⟩
 | fdt ep kus => obtain ⟨ob, es, kvs, k, d, i⟩ := h; exact ⟨_, k, by simp, by simp, by simp⟩
theorem Lr.mono (e : Ext K m H m' H') (h : Lr K m H ρ σ) : Lr K m' H' ρ σ := ⟨h.len, fun i u e1 => let ⟨v, e2, e3⟩ := h.at_ i u e1; ⟨v, e2, e3.mono e⟩⟩
theorem Lr.set (h : Lr K m H ρ σ) (i : Nat) (hv : Is K m H v u) : Lr K m H (ρ.set i (some u)) (σ.set i (some v)) := by
 refine ⟨by simp [h.len], fun j w e => ?_⟩
 by_cases c : i = j
 ·subst c
  rw [List.getElem?_set_self' ] at e
  rw [List.getElem?_set_self']
  have hl := h.len
  cases e1 : ρ[i]? with
  | none => rw [e1] at e; simp at e
  | some z =>
   rw [e1] at e
   simp at e
   subst e
   have : i < σ.length := by rw [← hl]; exact (List.getElem?_eq_some_iff.mp e1).1
   rw [List.getElem?_eq_getElem this]
   exact ⟨v, rfl, hv⟩
 ·rw [List.getElem?_set_ne c] at e
  rw [List.getElem?_set_ne c]
  exact h.at_ j w e
theorem Sr.get (r : Sr K m S H) (h : S[l]? = some o) : ∃ a, m[l]? = some a ∧ Ob K m H a o := by
 have hl : l < m.length := by rw [r.len]; exact (List.getElem?_eq_some_iff.mp h).1
 exact ⟨_, List.getElem?_eq_getElem hl, r.ob _ _ _ (List.getElem?_eq_getElem hl) h⟩
theorem Sr.at_ (r : Sr K m S H) (h : m[l]? = some a) : ∃ o, S[l]? = some o ∧ Ob K m H a o := by
 have hl : l < S.length := by rw [← r.len]; exact (List.getElem?_eq_some_iff.mp h).1
 exact ⟨_, List.getElem?_eq_getElem hl, r.ob _ _ _ h (List.getElem?_eq_getElem hl)⟩
theorem Sr.same (r : Sr K m S H) (s : tY H H') : Sr K m S H' := ⟨r.len, r.nd, fun l a o h1 h2 => by
 have q := r.ob l a o h1 h2
 obtain ⟨ho, e, _⟩ := q.some
 exact q.mono (.of (dD s)) (by rw [s _ _ e, e])⟩
theorem Sr.new (r : Sr K m S H) (h : H q = none) (n : Ob K (m ++ [q]) (upd H q ho) q o) : Sr K (m ++ [q]) (S ++ [o]) (upd H q ho) := by
 have hq : q ∉ m := fun z => by
  obtain ⟨l, e⟩ := List.getElem?_of_mem z
  obtain ⟨o, _, k⟩ := r.at_ e
  obtain ⟨ho, e2, _⟩ := k.some
  rw [h] at e2; cases e2
 refine ⟨by simp [r.len], ?_, fun l a o' h1 h2 => ?_⟩
 ·rw [List.nodup_append]
  exact ⟨r.nd, by simp, fun x hx y hy z => by simp at hy; subst hy; subst z; exact hq hx⟩
 ·by_cases c : l < m.length
  ·rw [List.getElem?_append_left c] at h1
   rw [List.getElem?_append_left (by rw [← r.len]; exact c)] at h2
   have q' := r.ob l a o' h1 h2
   obtain ⟨ho', e, _⟩ := q'.some
   exact q'.mono (.new (aW h _)) (by rw [aF (bA e h)])
  ·have e : l = m.length := by
    have := (List.getElem?_eq_some_iff.mp h1).1
    simp at this; omega
   subst e
   rw [List.getElem?_append_right (Nat.le_refl _)] at h1
   rw [List.getElem?_append_right (by rw [r.len]; exact Nat.le_refl _)] at h2
   simp [r.len] at h1 h2
   subst h1; subst h2
   exact n
theorem Sr.put (r : Sr K m S H) (h : m[l]? = some a) (n : Ob K m (upd H a ho) a o) : Sr K m (S.set l o) (upd H a ho) := by
 obtain ⟨o0, h0, k0⟩ := r.at_ h
 obtain ⟨ho', e, nt, nf, nl⟩ := k0.some
 refine ⟨by simp [r.len], r.nd, fun l' a' o' h1 h2 => ?_⟩
 by_cases c : l = l'
 ·subst c
  rw [h] at h1; cases h1
  rw [List.getElem?_set_self (List.getElem?_eq_some_iff.mp h0).1] at h2
  cases h2
  exact n
 ·rw [List.getElem?_set_ne c] at h2
  have na : a' ≠ a := fun z => by
   subst z
   obtain ⟨p1, e1⟩ := List.getElem?_eq_some_iff.mp h
   obtain ⟨p2, e2⟩ := List.getElem?_eq_some_iff.mp h1
   exact c ((List.getElem_inj r.nd).mp (e1.trans e2.symm))
  exact (r.ob l' a' o' h1 h2).mono (.of (ke e nt nf nl _)) (by rw [aF na])
theorem Sr.keep (r : Sr K m S H) (h : m[l]? = some a) (ho : HO) : tZ K H (upd H a ho) := by
 obtain ⟨o0, h0, k0⟩ := r.at_ h
 obtain ⟨ho', e, nt, nf, nl⟩ := k0.some
 exact ke e nt nf nl _
end
noncomputable def dG (K : PySem.W.Frag) (m : List Addr) (H : Hp) (Q : VK) (u : U) (S' : Sto) : Prop := ∀ m' v H', Ext K m H m' H' → Sr K m' S' H' → Is K m' H' v u → Q v H'
noncomputable abbrev CE := Rho → Sto → Option (U × Sto)
noncomputable abbrev CT := Rho → Sto → Option (Bool × Sto)
noncomputable abbrev CA := Rho → Sto → Option (List U × Sto)
inductive Out where
 | nx | rt (u : U) | bk | ct
noncomputable abbrev CS := Rho → Sto → Option (Out × Rho × Sto)
noncomputable def qh (K : PySem.W.Frag) (m : List Addr) (H : Hp) (Q : Bool → Hp → Prop) (b : Bool) (S' : Sto) : Prop := ∀ m' H', Ext K m H m' H' → Sr K m' S' H' → Q b H'
noncomputable def zD (K : PySem.W.Frag) (m : List Addr) (H : Hp) (Q : List V → Hp → Prop) (us : List U) (S' : Sto) : Prop := ∀ m' vs H', Ext K m H m' H' → Sr K m' S' H' → IsL K m' H' vs us → Q vs H'
noncomputable def di (K : PySem.W.Frag) (m : List Addr) (H : Hp) (Q : L2.St → Hp → Prop) (ρ' : Rho) (S' : Sto) : Prop := ∀ m' σ' H', Ext K m H m' H' → Sr K m' S' H' → Lr K m' H' ρ' σ' → Q σ' H'
noncomputable def lK (K : PySem.W.Frag) (m : List Addr) (H : Hp) (D : qQ) : Out → Rho → Sto → Prop
 | .nx, ρ', S' => di K m H D.nx ρ' S'
 | .bk, ρ', S' => di K m H D.bk ρ' S'
 | .ct, ρ', S' => di K m H D.ct ρ' S'
 | .rt u, _, S' => dG K m H D.rt u S'
theorem eV {α β γ δ ε : Type} {A B C D : α → β → γ → δ → ε → Prop} {p : Prop} (h : ∃ a b c d e, A a b c d e ∧ B a b c d e ∧ C a b c d e ∧ D a b c d e) (f : ∀ a b c d e, A a b c d e → B a b c d e → C a b c d e → D a b c d e → p) : p := by
 obtain ⟨a, b, c, d, e, h1, h2, h3, h4⟩ := h
 exact f a b c d e h1 h2 h3 h4
theorem nI {α β γ δ ε ζ : Type} {A B C D : α → β → γ → δ → ε → ζ → Prop} {p : Prop} (h : ∃ a b c d e g, A a b c d e g ∧ B a b c d e g ∧ C a b c d e g ∧ D a b c d e g) (f : ∀ a b c d e g, A a b c d e g → B a b c d e g → C a b c d e g → D a b c d e g → p) : p := by
 obtain ⟨a, b, c, d, e, g, h1, h2, h3, h4⟩ := h
 exact f a b c d e g h1 h2 h3 h4
theorem z8 {α β γ δ ε ζ : Type} {A B C D E : α → β → γ → δ → ε → ζ → Prop} {p : Prop} (h : ∃ a b c d e g, A a b c d e g ∧ B a b c d e g ∧ C a b c d e g ∧ D a b c d e g ∧ E a b c d e g) (f : ∀ a b c d e g, A a b c d e g → B a b c d e g → C a b c d e g → D a b c d e g → E a b c d e g → p) : p := by
 obtain ⟨a, b, c, d, e, g, h1, h2, h3, h4, h5⟩ := h
 exact f a b c d e g h1 h2 h3 h4 h5
noncomputable def tE (K : PySem.W.Frag) (c : CE) : TE := fun σ H Q => ∃ m ρ S u S', Sr K m S H ∧ Lr K m H ρ σ ∧ c ρ S = some (u, S') ∧ dG K m H Q u S'
noncomputable def tT (K : PySem.W.Frag) (c : CT) : TT := fun σ H Q => ∃ m ρ S u S', Sr K m S H ∧ Lr K m H ρ σ ∧ c ρ S = some (u, S') ∧ qh K m H Q u S'
noncomputable def tA (K : PySem.W.Frag) (c : CA) : TA := fun σ H Q => ∃ m ρ S u S', Sr K m S H ∧ Lr K m H ρ σ ∧ c ρ S = some (u, S') ∧ zD K m H Q u S'
noncomputable def tS (K : PySem.W.Frag) (c : CS) : TS := fun D σ H => ∃ m ρ S o ρ' S', Sr K m S H ∧ Lr K m H ρ σ ∧ c ρ S = some (o, ρ', S') ∧ lK K m H D o ρ' S'
noncomputable abbrev QE (X : Cx) (e : Expr) (c : CE) : Prop := WE X e (tE X.K c)
noncomputable abbrev QT (X : Cx) (e : Expr) (c : CT) : Prop := WT X e (tT X.K c)
noncomputable abbrev QW (X : Cx) (e : Expr) (c : CT) : Prop := WW X e (tT X.K c)
noncomputable abbrev QS (X : Cx) (e : Stmt) (c : CS) : Prop := WS X e (tS X.K c)
noncomputable abbrev QSs (X : Cx) (e : List Stmt) (c : CS) : Prop := WSs X e (tS X.K c)
structure QA (X : Cx) (es : List Expr) (c : CA) : Prop where
 h : WA X es (tA X.K c)
 len : ∀ ρ S us S', c ρ S = some (us, S') → us.length = es.length
section
variable {X : Cx} {e : Expr} {es : List Expr} {st : Stmt} {sts : List Stmt}
theorem _root_.OG.WE.imp {t t' : TE} (h : WE X e t) (i : ∀ σ H Q, t' σ H Q → t σ H Q) : WE X e t' := ⟨fun pins s σ H Q I k => h.h pins s σ H Q I (i σ H Q k)⟩
theorem _root_.OG.WT.imp {t t' : TT} (h : WT X e t) (i : ∀ σ H Q, t' σ H Q → t σ H Q) : WT X e t' := ⟨fun pins s σ H Q I k => h.h pins s σ H Q I (i σ H Q k)⟩
theorem _root_.OG.WW.imp {t t' : TT} (h : WW X e t) (i : ∀ σ H Q, t' σ H Q → t σ H Q) : WW X e t' := ⟨fun wh pins s σ H Q I k => h.h wh pins s σ H Q I (i σ H Q k)⟩
theorem _root_.OG.WA.imp {t t' : TA} (h : WA X es t) (i : ∀ σ H Q, t' σ H Q → t σ H Q) : WA X es t' := ⟨fun pos pins s σ H Q I k => h.h pos pins s σ H Q I (i σ H Q k)⟩
theorem _root_.OG.WS.imp {t t' : TS} (h : WS X st t) (i : ∀ D σ H, t' D σ H → t D σ H) : WS X st t' := ⟨fun pins s σ H D I k => h.h pins s σ H D I (i D σ H k)⟩
theorem _root_.OG.WSs.imp {t t' : TS} (h : WSs X sts t) (i : ∀ D σ H, t' D σ H → t D σ H) : WSs X sts t' := ⟨fun pins s σ H D I k => h.h pins s σ H D I (i D σ H k)⟩
theorem _root_.OG.WI.imp {tg : Expr} {t t' : TI} (h : WI X tg e t) (i : ∀ σ H R, t' σ H R → t σ H R) : WI X tg e t' := ⟨fun pins s σ H R I k => h.h pins s σ H R I (i σ H R k)⟩
theorem _root_.OG.WG.imp {t t' : TG} (h : WG X e t) (i : ∀ v σ H Q, t' v σ H Q → t v σ H Q) : WG X e t' := ⟨fun pins s σ H v u Q I r k => h.h pins s σ H v u Q I r (i v σ H Q k)⟩
theorem _root_.OG.WGs.imp {t t' : TGs} (h : WGs X es t) (i : ∀ v σ H Q, t' v σ H Q → t v σ H Q) : WGs X es t' := ⟨fun pins s σ H v u Q I r k => h.h pins s σ H v u Q I r (i v σ H Q k)⟩
theorem _root_.OG.WE.or {t t' : TE} (h : WE X e t) (h' : WE X e t') : WE X e (fun σ H Q => t σ H Q ∨ t' σ H Q) := ⟨fun pins s σ H Q I k => k.elim (h.h pins s σ H Q I) (h'.h pins s σ H Q I)⟩
theorem _root_.OG.WT.or {t t' : TT} (h : WT X e t) (h' : WT X e t') : WT X e (fun σ H Q => t σ H Q ∨ t' σ H Q) := ⟨fun pins s σ H Q I k => k.elim (h.h pins s σ H Q I) (h'.h pins s σ H Q I)⟩
theorem _root_.OG.WS.or {t t' : TS} (h : WS X st t) (h' : WS X st t') : WS X st (fun D σ H => t D σ H ∨ t' D σ H) := ⟨fun pins s σ H D I k => k.elim (h.h pins s σ H D I) (h'.h pins s σ H D I)⟩
theorem _root_.OG.WI.or {tg : Expr} {t t' : TI} (h : WI X tg e t) (h' : WI X tg e t') : WI X tg e (fun σ H D => t σ H D ∨ t' σ H D) := ⟨fun pins s σ H D I k => k.elim (h.h pins s σ H D I) (h'.h pins s σ H D I)⟩
end
section
variable {K : PySem.W.Frag} {m m' : List Addr} {H H' : Hp} {Q : VK} {R : L2.St → Hp → Prop} {D : qQ} {u : U} {o : Out} {S' : Sto} {ρ' : Rho}
theorem dG.mono (e : Ext K m H m' H') (p : dG K m H Q u S') : dG K m' H' Q u S' := fun m2 v H2 e2 r i => p m2 v H2 (e.trans e2) r i
theorem qh.mono {Q : Bool → Hp → Prop} {b : Bool} (e : Ext K m H m' H') (p : qh K m H Q b S') : qh K m' H' Q b S' := fun m2 H2 e2 r => p m2 H2 (e.trans e2) r
theorem di.mono (e : Ext K m H m' H') (p : di K m H R ρ' S') : di K m' H' R ρ' S' := fun m2 v H2 e2 r i => p m2 v H2 (e.trans e2) r i
theorem lK.mono (e : Ext K m H m' H') (p : lK K m H D o ρ' S') : lK K m' H' D o ρ' S' := by
 cases o with
 | nx => exact di.mono e p
 | rt u => exact dG.mono e p
 | bk => exact di.mono e p
 | ct => exact di.mono e p
end
noncomputable def LIM : Nat := 100000
theorem lim {n : Nat} (h : n ≤ LIM) : n ≤ sizeLine := Nat.le_trans h (by unfold LIM sizeLine; decide)
theorem wm {n : Nat} (h : n < LIM) : n < sizeLine := Nat.lt_of_lt_of_le h (by unfold LIM sizeLine; decide)
noncomputable def ag (i : Nat) : CE := fun ρ S => match ρ[i]? with
 | some (some u) => some (u, S)
 | _ => none
noncomputable def cC (u : U) : CE := fun _ S => some (u, S)
section
variable {X : Cx} {e a b c : Expr} {ca cb cc : CE} {pos : Pos}
theorem ah {i : Nat} (h : WE X e (xg i)) : QE X e (ag i) := h.imp fun σ H Q hz => eV hz fun m ρ S u S' sr lr hc post => by
 unfold ag at hc
 split at hc
 ·rename_i u' e
  cases hc
  obtain ⟨v, e1, e2⟩ := lr.at_ i u e
  exact ⟨v, e1, post m v H .refl sr e2⟩
 ·cases hc
theorem q_c {v : V} {u : U} (h : WE X e (tC v)) (hi : ∀ m H, Is X.K m H v u) : QE X e (cC u) := h.imp fun σ H Q hz => eV hz fun m ρ S u' S' sr lr hc post => by
 cases hc
 exact post m v H .refl sr (hi m H)
theorem aB {i : Int} (h : WE X e (tC (.int i))) : QE X e (cC (.int i)) := q_c h fun _ _ => .int_
theorem yN {i : Bool} (h : WE X e (tC (.bl i))) : QE X e (cC (.bl i)) := q_c h fun _ _ => .bl_
noncomputable def cOp (f : U → U → Sto → Option (U × Sto)) (ca cb : CE) : CE := fun ρ S => (ca ρ S).bind fun p => (cb ρ p.2).bind fun q => f p.1 q.1 q.2
noncomputable def OpP (K : PySem.W.Frag) (r : R2) (f : U → U → Sto → Option (U × Sto)) : Prop :=
 ∀ m S H x y v w u S' Q, Sr K m S H → Is K m H v x → Is K m H w y → f x y S = some (u, S') → dG K m H Q u S' → r v w H Q
theorem mS {K : PySem.W.Frag} {r : R2} {f : U → U → Sto → Option (U × Sto)} (hp : OpP K r f) : ∀ σ H Q, tE K (cOp f ca cb) σ H Q → tOp r (tE K ca) (tE K cb) σ H Q := by
 rintro σ H Q ⟨m, ρ, S, u, S', sr, lr, hc, post⟩
 obtain ⟨⟨x, S1⟩, h1, h⟩ := Option.bind_eq_some_iff.mp hc
 obtain ⟨⟨y, S2⟩, h2, h3⟩ := Option.bind_eq_some_iff.mp h
 exact ⟨m, ρ, S, x, S1, sr, lr, h1, fun m1 v1 H1 e1 sr1 i1 => ⟨m1, ρ, S1, y, S2, sr1, lr.mono e1, h2, fun m2 v2 H2 e2 sr2 i2 => hp m2 S2 H2 x y v1 v2 u S' Q sr2 (i1.mono e2) i2 h3 (post.mono (e1.trans e2))⟩⟩
theorem c0 {op : Operator} {r : R2} {f : U → U → Sto → Option (U × Sto)} (ho : OpR X (binaryOp op) r) (hp : OpP X.K r f) (ha : QE X a ca) (hb : QE X b cb) : QE X (.BinOp a op b pos) (cOp f ca cb) := (uY ho ha hb).imp (mS hp)
theorem o9 {op : CmpOp} {r : R2} {f : U → U → Sto → Option (U × Sto)} (ho : OpR X (compareOp op) r) (hp : OpP X.K r f) (ha : QE X a ca) (hb : QE X b cb) (hm : behindInMarks op b = false) : QE X (.Compare a [op] [b] pos) (cOp f ca cb) := (oQ ho ha hb hm).imp (mS hp)
noncomputable def bj (c : CE) : CT := fun ρ S => (c ρ S).bind fun p => match p.1 with
 | .bl b => some (b, p.2)
 | _ => none
theorem fW {K : PySem.W.Frag} {c : CE} {t : TE} (h : ∀ σ H Q, tE K c σ H Q → t σ H Q) : ∀ σ H Q, tT K (bj c) σ H Q → t σ H fun x H' => ∃ k, x = .bl k ∧ Q k H' := by
 rintro σ H Q ⟨m, ρ, S, u, S', sr, lr, hc, post⟩
 obtain ⟨⟨x, S1⟩, h1, h2⟩ := Option.bind_eq_some_iff.mp hc
 refine h σ H _ ⟨m, ρ, S, x, S1, sr, lr, h1, fun m1 v1 H1 e1 sr1 i1 => ?_⟩
 cases x <;> simp at h2
 obtain ⟨rfl, rfl⟩ := h2
 exact ⟨_, i1.of_bl, post m1 H1 e1 sr1⟩
theorem cQ {op : CmpOp} {r : R2} {f : U → U → Sto → Option (U × Sto)} (ho : OpR X (compareOp op) r) (hp : OpP X.K r f) (ha : QE X a ca) (hb : QE X b cb) (hm : behindInMarks op b = false) : QT X (.Compare a [op] [b] pos) (bj (cOp f ca cb)) := (jL ho ha hb hm).imp (fW (mS hp))
theorem qx (h : QE X e ca) (he : ∀ whole, isTrue e X.env whole = (do let v ← whole; standAt e.pos; holding [v] (truthy v)) := by intro _; rfl) : QT X e (bj ca) := (rE h he).imp (fW fun _ _ _ z => z)
variable {ta tb : CT} {rest : List Expr}
noncomputable def xA (ta tb : CT) : CT := fun ρ S => (ta ρ S).bind fun p => if p.1 = true then tb ρ p.2 else some (false, p.2)
noncomputable def cOr (ta tb : CT) : CT := fun ρ S => (ta ρ S).bind fun p => if p.1 = true then some (true, p.2) else tb ρ p.2
noncomputable def xy (ta : CT) : CT := fun ρ S => (ta ρ S).bind fun p => some (!p.1, p.2)
theorem xk (h : QW X e ta) : QT X e ta := WW.pt h
theorem vC (ha : QT X a ta) : QW X (.BoolOp .And [a] pos) ta := oF ha
theorem sA (ha : QT X a ta) : QW X (.BoolOp .Or [a] pos) ta := rC ha
theorem yO (ha : QT X a ta) (hb : QW X (.BoolOp .And (b :: rest) pos) tb) : QW X (.BoolOp .And (a :: b :: rest) pos) (xA ta tb) := (rD ha hb).imp fun σ H Q hz => eV hz fun m ρ S u S' sr lr hc post => by
 obtain ⟨⟨x, S1⟩, h1, h2⟩ := Option.bind_eq_some_iff.mp hc
 refine ⟨m, ρ, S, x, S1, sr, lr, h1, fun m1 H1 e1 sr1 => ?_⟩
 cases x with
 | true => exact wG ⟨m1, ρ, S1, u, S', sr1, lr.mono e1, h2, post.mono e1⟩
 | false => cases h2; exact wH (post m1 H1 e1 sr1)
theorem yL (ha : QT X a ta) (hb : QW X (.BoolOp .Or (b :: rest) pos) tb) : QW X (.BoolOp .Or (a :: b :: rest) pos) (cOr ta tb) := (uV ha hb).imp fun σ H Q hz => eV hz fun m ρ S u S' sr lr hc post => by
 obtain ⟨⟨x, S1⟩, h1, h2⟩ := Option.bind_eq_some_iff.mp hc
 refine ⟨m, ρ, S, x, S1, sr, lr, h1, fun m1 H1 e1 sr1 => ?_⟩
 cases x with
 | true => cases h2; exact wG (post m1 H1 e1 sr1)
 | false => exact wH ⟨m1, ρ, S1, u, S', sr1, lr.mono e1, h2, post.mono e1⟩
theorem qy (ha : QT X a ta) : QT X (.UnaryOp .Not a pos) (xy ta) := (rF ha).imp fun σ H Q hz => eV hz fun m ρ S u S' sr lr hc post => by
 obtain ⟨⟨x, S1⟩, h1, h2⟩ := Option.bind_eq_some_iff.mp hc
 cases h2
 exact ⟨m, ρ, S, x, _, sr, lr, h1, fun m1 H1 e1 sr1 => post m1 H1 e1 sr1⟩
noncomputable def nZ (ca cb : CE) : CE := fun ρ S => (ca ρ S).bind fun p => match p.1 with
 | .bl true => cb ρ p.2
 | .bl false => some (.bl false, p.2)
 | _ => none
noncomputable def z9 (ca cb : CE) : CE := fun ρ S => (ca ρ S).bind fun p => match p.1 with
 | .bl false => cb ρ p.2
 | .bl true => some (.bl true, p.2)
 | _ => none
noncomputable def p9 (ca : CE) : CE := fun ρ S => (ca ρ S).bind fun p => match p.1 with
 | .bl b => some (.bl (!b), p.2)
 | _ => none
theorem vA {op} (h : QE X a ca) : QE X (.BoolOp op [a] pos) ca := rQ h
theorem qA (ha : QE X a ca) (hb : QE X (.BoolOp .And (b :: rest) pos) cb) : QE X (.BoolOp .And (a :: b :: rest) pos) (nZ ca cb) := (rV ha hb).imp fun σ H Q hz => eV hz fun m ρ S u S' sr lr hc post => by
 obtain ⟨⟨x, S1⟩, h1, h2⟩ := Option.bind_eq_some_iff.mp hc
 refine ⟨m, ρ, S, x, S1, sr, lr, h1, fun m1 v1 H1 e1 sr1 i1 => ?_⟩
 cases x with
 | bl k =>
  refine ⟨k, i1.of_bl, ?_⟩
  cases k with
  | true => exact wG ⟨m1, ρ, S1, u, S', sr1, lr.mono e1, h2, post.mono e1⟩
  | false => cases h2; exact wH (post m1 _ H1 e1 sr1 .bl_)
 | _ => simp at h2
theorem vB (ha : QE X a ca) : QE X (.UnaryOp .Not a pos) (p9 ca) := (rR ha).imp fun σ H Q hz => eV hz fun m ρ S u S' sr lr hc post => by
 obtain ⟨⟨x, S1⟩, h1, h2⟩ := Option.bind_eq_some_iff.mp hc
 refine ⟨m, ρ, S, x, S1, sr, lr, h1, fun m1 v1 H1 e1 sr1 i1 => ?_⟩
 cases x with
 | bl k => cases h2; exact ⟨k, i1.of_bl, post m1 _ H1 e1 sr1 .bl_⟩
 | _ => simp at h2
noncomputable def cIf (t : CT) (ca cb : CE) : CE := fun ρ S => (t ρ S).bind fun p => if p.1 = true then ca ρ p.2 else cb ρ p.2
variable {es : List Expr} {cr : CA}
noncomputable def aA : CA := fun _ S => some ([], S)
noncomputable def aa (ca : CE) (cr : CA) : CA := fun ρ S => (ca ρ S).bind fun p => (cr ρ p.2).bind fun q => some (p.1 :: q.1, q.2)
theorem av : QA X [] aA := ⟨mh.imp fun σ H Q hz => eV hz fun m ρ S u S' sr lr hc post => by cases hc; exact post m [] H .refl sr .nil_, fun ρ S us S' h => by cases h; rfl⟩
theorem ab (ha : QE X e ca) (hr : QA X es cr) (hs : starEach (e :: es) X.env = (false, eval e X.env) :: starEach es X.env := by rfl) : QA X (e :: es) (aa ca cr) := ⟨(fQ ha hr.h hs).imp fun σ H Q hz => eV hz fun m ρ S u S' sr lr hc post => by
 obtain ⟨⟨x, S1⟩, h1, h⟩ := Option.bind_eq_some_iff.mp hc
 obtain ⟨⟨y, S2⟩, h2, h3⟩ := Option.bind_eq_some_iff.mp h
 cases h3
 exact ⟨m, ρ, S, x, S1, sr, lr, h1, fun m1 v1 H1 e1 sr1 i1 => ⟨m1, ρ, S1, y, S2, sr1, lr.mono e1, h2, fun m2 v2 H2 e2 sr2 i2 => post m2 _ H2 (e1.trans e2) sr2 (.cons_ (i1.mono e2) i2)⟩⟩,
 fun ρ S us S' h => by
 obtain ⟨⟨x, S1⟩, h1, h⟩ := Option.bind_eq_some_iff.mp h
 obtain ⟨⟨y, S2⟩, h2, h3⟩ := Option.bind_eq_some_iff.mp h
 cases h3
 simp [hr.len ρ S1 y S2 h2]⟩
noncomputable def gK (cr : CA) : CE := fun ρ S => (cr ρ S).bind fun p => some (.tup p.1, p.2)
noncomputable def dY (cr : CA) : CE := fun ρ S => (cr ρ S).bind fun p => some (.ref p.2.length, p.2 ++ [.lst p.1])
theorem bQ {m : List Addr} {S : Sto} {q : Addr} (h : m.length = S.length) : (m ++ [q])[S.length]? = some q := by rw [List.getElem?_append_right (by omega)]; simp [h]
theorem gm {K : PySem.W.Frag} {m : List Addr} {H : Hp} {S : Sto} {us : List U} {xs : List V} {Q : VK} {p : Addr} (sr : Sr K m S H) (i : IsL K m H xs us) (post : dG K m H Q (.tup us) S) (hp : H p = none) : Q (.ref p) (upd H p (.tup xs)) :=
 post m _ _ (.of (aW hp _)) (sr.same (d7 hp _)) (.tup_ (SqT.of aD) (i.mono (.of (aW hp _))))
theorem cq {K : PySem.W.Frag} {m : List Addr} {H : Hp} {S : Sto} {us : List U} {xs : List V} {Q : VK} {p : Addr} (sr : Sr K m S H) (i : IsL K m H xs us) (post : dG K m H Q (.ref S.length) (S ++ [.lst us])) (hp : H p = none) : Q (.ref p) (upd H p (.lst xs)) :=
 post (m ++ [p]) _ _ (.new (aW hp _)) (sr.new hp ⟨xs, aD, i.mono (.new (aW hp _))⟩) (.ref_ (bQ sr.len))
theorem dJ {x1} (h : QA X es cr) (hl : es.length ≤ 1000 := by exact Nat.le_of_ble_eq_true rfl) : QE X (.Tuple es x1 pos) (gK cr) := (lX h.h).imp fun σ H Q hz => eV hz fun m ρ S u S' sr lr hc post => by
 obtain ⟨⟨us, S1⟩, h1, h2⟩ := Option.bind_eq_some_iff.mp hc
 cases h2
 refine ⟨m, ρ, S, us, _, sr, lr, h1, fun m1 v1 H1 e1 sr1 i1 => ⟨qq ?_, fun p hp => gm sr1 i1 (post.mono e1) hp⟩⟩
 rw [i1.length, h.len _ _ _ _ h1]; exact hl
theorem cX (h : QA X es cr) (hl : es.length ≤ 1000 := by exact Nat.le_of_ble_eq_true rfl) : QE X (.List es pos) (dY cr) := (rS h.h).imp fun σ H Q hz => eV hz fun m ρ S u S' sr lr hc post => by
 obtain ⟨⟨us, S1⟩, h1, h2⟩ := Option.bind_eq_some_iff.mp hc
 cases h2
 refine ⟨m, ρ, S, us, _, sr, lr, h1, fun m1 v1 H1 e1 sr1 i1 => ⟨qq ?_, fun p hp => cq sr1 i1 (post.mono e1) hp⟩⟩
 rw [i1.length, h.len _ _ _ _ h1]; exact hl
noncomputable def cCB (f : List U → Sto → Option (U × Sto)) (cr : CA) : CE := fun ρ S => (cr ρ S).bind fun p => f p.1 p.2
noncomputable def fg (K : PySem.W.Frag) (r : List V → Hp → VK → Prop) (f : List U → Sto → Option (U × Sto)) : Prop :=
 ∀ m S H us vs u S' Q, Sr K m S H → IsL K m H vs us → f us S = some (u, S') → dG K m H Q u S' → r vs H Q
theorem qN {K : PySem.W.Frag} {r : List V → Hp → VK → Prop} {f : List U → Sto → Option (U × Sto)} (hp : fg K r f) : ∀ σ H Q, tE K (cCB f cr) σ H Q → tCB r (tA K cr) σ H Q := by
 rintro σ H Q ⟨m, ρ, S, u, S', sr, lr, hc, post⟩
 obtain ⟨⟨us, S1⟩, h1, h2⟩ := Option.bind_eq_some_iff.mp hc
 exact ⟨m, ρ, S, us, S1, sr, lr, h1, fun m1 v1 H1 e1 sr1 i1 => hp m1 S1 H1 us v1 u S' Q sr1 i1 h2 (post.mono e1)⟩
theorem cw {id : String} {x : Str} {p : Pos} {r : List V → Hp → VK → Prop} {f : List U → Sto → Option (U × Sto)} (hc : bX X (.builtin id) r) (hp : fg X.K r f) (hg : Gl X x) (hm : X.mg x = none) (hv : bootBuiltins x = some (.builtin id)) (ha : QA X (e :: es) cr) (hn : x ≠ "__name__" := by decide) (hdb : (x == ("__debug__" : Str)) = false := by decide) (he : starEach (e :: es) X.env = (false, eval e X.env) :: starEach es X.env := by rfl) (hpl : (backTo pos (starEach es X.env)).any (·.1) = false := by rfl) :
  QE X (.Call (.Name x p) (e :: es) [] pos) (cCB f cr) := (gO hc hg hm hv ha.h hn hdb he hpl).imp (qN hp)
theorem cK {id : String} {x : Str} {p : Pos} {r : List V → Hp → VK → Prop} {f : List U → Sto → Option (U × Sto)} (hc : bX X (.type id) r) (hp : fg X.K r f) (hg : Gl X x) (hm : X.mg x = none) (hv : bootBuiltins x = some (.type id)) (ha : QA X (e :: es) cr) (hn : x ≠ "__name__" := by decide) (hdb : (x == ("__debug__" : Str)) = false := by decide) (he : starEach (e :: es) X.env = (false, eval e X.env) :: starEach es X.env := by rfl) (hpl : (backTo pos (starEach es X.env)).any (·.1) = false := by rfl) :
  QE X (.Call (.Name x p) (e :: es) [] pos) (cCB f cr) := (kI hc hg hm hv ha.h hn hdb he hpl).imp (qN hp)
end
noncomputable def xi (K : PySem.W.Frag) (f : List U → Sto → Option (U × Sto)) : Sp := fun vs H Q _ => ∃ m us S u S', IsL K m H vs us ∧ Sr K m S H ∧ f us S = some (u, S') ∧ dG K m H Q u S'
noncomputable abbrev Fn := List U → Sto → Option (U × Sto)
noncomputable abbrev fO (P : Program) (w : World) (K : PySem.W.Frag) (mg : Str → Option Value) (base : Heap) (x : Str) (k : Nat) (ps : List Str) (f : Fn) : Prop := Has P w K mg base x k ps (xi K f)
noncomputable def gW (n : Nat) (us : List U) : Rho := us.map some ++ List.replicate (n - us.length) none
noncomputable def fnU (n k : Nat) (c : CS) : Fn := fun us S => if us.length = k then (c (gW n us) S).bind fun r => match r.1 with
 | .rt u => some (u, r.2.2)
 | .nx => some (.non, r.2.2)
 | _ => none else none
section
variable {P : Program} {w : World} {K : PySem.W.Frag} {mg : Str → Option Value} {base : Heap} {x : Str} {st : Stmt} {ps N : List Str} {k : Nat} {c : CS} {f : Fn}
theorem pL {m : List Addr} {H : Hp} {vs : List V} {us : List U} (i : IsL K m H vs us) : Lr K m H (gW N.length us) (L2.dq N vs) := by
 have hl := i.length
 refine ⟨by simp [gW, L2.dq, hl], fun j u e => ?_⟩
 unfold gW at e
 unfold L2.dq
 by_cases c : j < us.length
 ·rw [List.getElem?_append_left (by simpa using c), List.getElem?_map] at e
  rw [List.getElem?_append_left (by simpa [hl] using c), List.getElem?_map]
  rw [List.getElem?_eq_getElem c] at e
  simp at e
  obtain ⟨v, e1, e2⟩ := i.getD (List.getElem?_eq_getElem c)
  rw [e1]
  subst e
  exact ⟨v, rfl, e2⟩
 ·rw [List.getElem?_append_right (by simpa using c), List.getElem?_replicate] at e
  split at e <;> cases e
theorem tL {X : Cx} {body : List Stmt} {Q : VK} {E : XK} {vs : List V} {H : Hp} (hK : X.K = K) (h : xi K (fnU N.length ps.length c) vs H Q E) : tS X.K c { nx := fun _ H' => Q .non H', rt := Q } (L2.dq N vs) H := by
 subst hK
 obtain ⟨m, us, S, u, S', i, sr, hf, post⟩ := h
 unfold fnU at hf
 split at hf
 ·obtain ⟨⟨o, ρ', S2⟩, h1, h2⟩ := Option.bind_eq_some_iff.mp hf
  refine ⟨m, _, S, o, ρ', S2, sr, pL i, h1, ?_⟩
  cases o with
  | rt v => cases h2; exact post
  | nx => cases h2; exact fun m1 σ1 H1 e1 sr1 _ => post m1 _ H1 e1 sr1 .non_
  | bk => simp at h2
  | ct => simp at h2
 ·cases hf
theorem oY {vs : List V} {H : Hp} {Q : VK} {E : XK} {n k : Nat} (h : xi K (fnU n k c) vs H Q E) : vs.length = k := by
 obtain ⟨m, us, S, u, S', i, sr, hf, post⟩ := h
 unfold fnU at hf
 split at hf
 ·rename_i e
  rw [i.length, e]
 ·cases hf
theorem _root_.OG.Def.pure (d : Def K mg x st ps) (S : bz N ps (aw st))
  (hb : ∀ (f : Addr) (cdv : Value) (A : Around) (outer : List Env) (s : Shared) (H : Hp) (E : XK), ff k (A.deeper (envOfC x (aw st) s.heap.objs.size f cdv)) →
   WSs (oB CX0 P w K mg base N x (aw st) f cdv A outer s H E).nox (aU st) (tS K c)) : fO P w K mg base x (k + 1) ps (fnU N.length ps.length c) :=
 d.has S (fun vs H Q E h => oY h) fun f cdv A outer s H vs Q E hr h => ⟨_, hb f cdv A outer s H E hr, tL (X := (oB CX0 P w K mg base N x (aw st) f cdv A outer s H E).nox) (body := []) (ps := ps) rfl h⟩
theorem aR {X : Cx} {e : Expr} {es : List Expr} {cr : CA} {p pos : Pos} (F : Has X.prog X.w X.K X.mg X.base x k ps (xi X.K f)) (hr : ff k X.A) (hg : Gl X x) (ha : QA X (e :: es) cr)
  (hdb : (x == ("__debug__" : Str)) = false := by decide) (he : starEach (e :: es) X.env = (false, eval e X.env) :: starEach es X.env := by rfl) (hpl : (backTo pos (starEach es X.env)).any (·.1) = false := by rfl) :
  QE X (.Call (.Name x p) (e :: es) [] pos) (cCB f cr) := (u0 F hr hg ha.h hdb he hpl).imp fun σ H Q hz => eV hz fun m ρ S u S' sr lr hc post => by
 obtain ⟨⟨us, S1⟩, h1, h2⟩ := Option.bind_eq_some_iff.mp hc
 exact ⟨m, ρ, S, us, S1, sr, lr, h1, fun m1 v1 H1 e1 sr1 i1 => ⟨m1, us, S1, u, S', by simpa using i1, sr1, h2, post.mono e1⟩⟩
end
section
variable {X : Cx} {e a b c : Expr} {ca cb cc : CE} {pos : Pos} {st : Stmt} {sts : List Stmt} {c1 c2 : CS}
noncomputable def gH : CS := fun ρ S => some (.nx, ρ, S)
noncomputable def bS (c1 c2 : CS) : CS := fun ρ S => (c1 ρ S).bind fun r => match r.1 with
 | .nx => c2 r.2.1 r.2.2
 | o => some (o, r.2.1, r.2.2)
theorem fA : QSs X [] gH := oH.imp fun D σ H hz => nI hz fun m ρ S o ρ' S' sr lr hc post => by cases hc; exact post m σ H .refl sr lr
theorem ax (h1 : QS X st c1) (h2 : QSs X sts c2) : QSs X (st :: sts) (bS c1 c2) := (lT h1 h2).imp fun D σ H hz => nI hz fun m ρ S o ρ' S' sr lr hc post => by
 obtain ⟨⟨o1, ρ1, S1⟩, h1, h2⟩ := Option.bind_eq_some_iff.mp hc
 refine ⟨m, ρ, S, o1, ρ1, S1, sr, lr, h1, ?_⟩
 cases o1 with
 | nx => exact fun m1 σ1 H1 e1 sr1 lr1 => ⟨m1, ρ1, S1, o, ρ', S', sr1, lr1, h2, post.mono e1⟩
 | rt u => cases h2; exact post
 | bk => cases h2; exact post
 | ct => cases h2; exact post
theorem aT (h1 : QS X st c1) : QSs X [st] c1 := oG h1
noncomputable def lG (ca : CE) : CS := fun ρ S => (ca ρ S).bind fun p => some (.nx, ρ, p.2)
theorem gi (he : QE X e ca) (hs : swapsWith e none pos.line X.env = pure false := by rfl) : QS X (.Expr e pos) (lG ca) := (oI he hs).imp fun D σ H hz => nI hz fun m ρ S o ρ' S' sr lr hc post => by
 obtain ⟨⟨u, S1⟩, h1, h2⟩ := Option.bind_eq_some_iff.mp hc
 cases h2
 exact ⟨m, ρ, S, u, _, sr, lr, h1, fun m1 v1 H1 e1 sr1 i1 => post m1 σ H1 e1 sr1 (lr.mono e1)⟩
noncomputable def iI (ca : CE) : CS := fun ρ S => (ca ρ S).bind fun p => some (.rt p.1, ρ, p.2)
theorem cN (he : QE X e ca) : QS X (.Return (some e) pos) (iI ca) := (rJ he).imp fun D σ H hz => nI hz fun m ρ S o ρ' S' sr lr hc post => by
 obtain ⟨⟨u, S1⟩, h1, h2⟩ := Option.bind_eq_some_iff.mp hc
 cases h2
 exact ⟨m, ρ, S, u, _, sr, lr, h1, post⟩
noncomputable def qb (t : CT) (c1 c2 : CS) : CS := fun ρ S => (t ρ S).bind fun p => if p.1 = true then c1 ρ p.2 else c2 ρ p.2
theorem kR {t : CT} {s1 s2 : List Stmt} (hc : QT X c t) (h1 : QSs X s1 c1) (h2 : QSs X s2 c2) : QS X (.If c s1 s2 pos) (qb t c1 c2) := (uW hc h1 h2).imp fun D σ H hz => nI hz fun m ρ S o ρ' S' sr lr hc post => by
 obtain ⟨⟨x, S1⟩, h1, h2⟩ := Option.bind_eq_some_iff.mp hc
 refine ⟨m, ρ, S, x, S1, sr, lr, h1, fun m1 H1 e1 sr1 => ?_⟩
 cases x with
 | true => exact wG ⟨m1, ρ, S1, o, ρ', S', sr1, lr.mono e1, h2, post.mono e1⟩
 | false => exact wH ⟨m1, ρ, S1, o, ρ', S', sr1, lr.mono e1, h2, post.mono e1⟩
noncomputable abbrev CG := U → Rho → Sto → Option (Rho × Sto)
noncomputable def tG (K : PySem.W.Frag) (g : CG) : TG := fun v σ H Q => ∃ m ρ S u ρ' S', Sr K m S H ∧ Lr K m H ρ σ ∧ Is K m H v u ∧ g u ρ S = some (ρ', S') ∧ di K m H Q ρ' S'
noncomputable abbrev QG (X : Cx) (e : Expr) (g : CG) : Prop := WG X e (tG X.K g)
noncomputable def gNm (i : Nat) : CG := fun u ρ S => some (ρ.set i (some u), S)
theorem bw {i : Nat} (h : WG X e (lz i)) : QG X e (gNm i) := h.imp fun v σ H Q hz => z8 hz fun m ρ S u ρ' S' sr lr iu hc post => by
 cases hc
 exact post m _ H .refl sr (lr.set i iu)
noncomputable def cM : List Nat → List U → Rho → Option Rho
 | [], [], ρ => some ρ
 | i :: is, u :: us, ρ => cM is us (ρ.set i (some u))
 | _, _, _ => none
noncomputable def tGs (K : PySem.W.Frag) (is : List Nat) : TGs := fun vs σ H Q => ∃ m ρ S us ρ', Sr K m S H ∧ Lr K m H ρ σ ∧ IsL K m H vs us ∧ cM is us ρ = some ρ' ∧ di K m H Q ρ' S
noncomputable abbrev QGs (X : Cx) (es : List Expr) (is : List Nat) : Prop := WGs X es (tGs X.K is)
theorem sx : QGs X [] [] := oN.imp fun v σ H Q ⟨m, ρ, S, us, ρ', sr, lr, iu, hc, post⟩ => by
 cases us with
 | nil => cases hc; exact ⟨iu.of_nil, post m σ H .refl sr lr⟩
 | cons a r => simp [cM] at hc
theorem gj {i : Nat} {is : List Nat} {es : List Expr} (h : WG X e (lz i)) (h2 : QGs X es is) (hs : (assignEach (e :: es) X.env).map (·.2) = assign e X.env :: (assignEach es X.env).map (·.2) := by rfl) : QGs X (e :: es) (i :: is) := (lV h h2 hs).imp fun v σ H Q ⟨m, ρ, S, us, ρ', sr, lr, iu, hc, post⟩ => by
 cases us with
 | nil => simp [cM] at hc
 | cons u r =>
  obtain ⟨x, xr, rfl, i1, i2⟩ := iu.of_cons
  exact ⟨x, xr, rfl, m, ρ.set i (some u), S, r, ρ', sr, lr.set i i1, i2, hc, post⟩
noncomputable def gTp (is : List Nat) : CG := fun u ρ S => match u with
 | .tup us => (cM is us ρ).bind fun ρ' => some (ρ', S)
 | _ => none
theorem fv : ∀ {is : List Nat} {us : List U} {ρ ρ' : Rho}, cM is us ρ = some ρ' → us.length = is.length
 | [], [], _, _, _ => rfl
 | [], _ :: _, _, _, h => by simp [cM] at h
 | _ :: _, [], _, _, h => by simp [cM] at h
 | i :: is, u :: us, ρ, ρ', h => by
  have := fv (is := is) (us := us) h
  simp [this]
theorem vy {is : List Nat} {es : List Expr} {k : Nat} (hc : X.calm = true) (h : QGs X es is) (hn : (assignEach es X.env).length = is.length := by rfl) (hst : (assignEach es X.env).findIdx? (·.1) = none := by rfl) : QG X (.Tuple es k pos) (gTp is) := (rN hc h hn hst).imp fun v σ H Q hz => z8 hz fun m ρ S u ρ' S' sr lr iu hc post => by
 cases u with
 | tup us =>
  obtain ⟨ρ2, h1, h2⟩ := Option.bind_eq_some_iff.mp hc
  cases h2
  obtain ⟨a, xs, rfl, sq, il⟩ := iu.of_tup
  refine ⟨a, xs, rfl, sq, ?_, m, ρ, S, us, ρ', sr, lr, il, h1, post⟩
  rw [il.length]; exact fv h1
 | _ => simp [gTp] at hc
noncomputable def AB (ca : CE) (g : CG) : CS := fun ρ S => (ca ρ S).bind fun p => (g p.1 ρ p.2).bind fun q => some (.nx, q.1, q.2)
noncomputable def cI (i : Nat) (ca : CE) : CS := fun ρ S => (ca ρ S).bind fun p => some (.nx, ρ.set i (some p.1), p.2)
theorem aJ {i : Nat} {x : Str} {pos' : Pos} (hN : X.N.Nodup) (hi : X.N[i]? = some x) (hx : Loc X.env.scope x) (he : QE X e ca) (hs : swapsWith e (some (.Name x pos')) pos.line X.env = pure false := by rfl) (hf : X.fn x = true ∨ X.env.scope.names.lookup x = some .local := by first | exact .inl rfl | exact .inr rfl | assumption) :
  QS X (.Assign [.Name x pos'] e pos) (cI i ca) := (rH hN hi hx he hs hf).imp fun D σ H hz => nI hz fun m ρ S o ρ' S' sr lr hc post => by
 obtain ⟨⟨u, S1⟩, h1, h2⟩ := Option.bind_eq_some_iff.mp hc
 cases h2
 exact ⟨m, ρ, S, u, _, sr, lr, h1, fun m1 v1 H1 e1 sr1 i1 => post m1 _ H1 e1 sr1 ((lr.mono e1).set i i1)⟩
noncomputable abbrev CI := Rho → Sto → Option (List U × (Sto → Prop) × Sto)
noncomputable def qj (K : PySem.W.Frag) (J : It) (m : List Addr) (H : Hp) (us : List U) (ok : Sto → Prop) : Prop := ∀ m2 S2 H2 i, Ext K m H m2 H2 → Sr K m2 S2 H2 → ok S2 →
 (∀ u, us[i]? = some u → J.go i H2 ∧ ∀ x H3, J.yld i H2 x H3 → Ext K m2 H2 m2 H3 ∧ Sr K m2 S2 H3 ∧ Is K m2 H3 x u) ∧ (us.length ≤ i → J.stop i H2)
noncomputable def tI (K : PySem.W.Frag) (ci : CI) : TI := fun σ H R => ∃ m ρ S us ok S', Sr K m S H ∧ Lr K m H ρ σ ∧ ci ρ S = some (us, ok, S') ∧ ∀ m' H' J, Ext K m H m' H' → Sr K m' S' H' → qj K J m' H' us ok → R J H'
noncomputable abbrev QI (X : Cx) (tg iter : Expr) (ci : CI) : Prop := WI X tg iter (tI X.K ci)
open Classical in
noncomputable def b5 (ok : Sto → Prop) (g : CG) (cb : CS) : List U → CS
 | [] => fun ρ S => if ok S then some (.nx, ρ, S) else none
 | u :: us => fun ρ S => if ok S then (g u ρ S).bind fun p => (cb p.1 p.2).bind fun r => match r.1 with
  | .nx => b5 ok g cb us r.2.1 r.2.2
  | .ct => b5 ok g cb us r.2.1 r.2.2
  | .bk => some (.nx, r.2.1, r.2.2)
  | .rt v => some (.rt v, r.2.1, r.2.2) else none
noncomputable def fq (ci : CI) (g : CG) (cb : CS) : CS := fun ρ S => (ci ρ S).bind fun p => b5 p.2.1 g cb p.1 ρ p.2.2
theorem eX {α : Type} {us : List α} {i : Nat} {u : α} (h : us[i]? = some u) : us.drop i = u :: us.drop (i + 1) := by
 obtain ⟨hl, e⟩ := List.getElem?_eq_some_iff.mp h
 rw [List.drop_eq_getElem_cons hl, e]
theorem pM {K : PySem.W.Frag} {g : CG} {cb : CS} {J : It} {us : List U} {ok : Sto → Prop} {D : qQ} {m1 : List Addr} {H1 : Hp} {ρ ρ' : Rho} {σ : L2.St} {S1 S' : Sto} {o : Out} (sr1 : Sr K m1 S1 H1) (lr1 : Lr K m1 H1 ρ σ) (ito : qj K J m1 H1 us ok) (h2 : b5 ok g cb us ρ S1 = some (o, ρ', S')) (post : lK K m1 H1 D o ρ' S') :
  ∃ W : Nat → Nat → L2.St → Hp → Prop, (∃ n, W 0 n σ H1) ∧ ∀ i n σ H, W i n σ H →
   (J.stop i H ∧ D.nx σ H) ∨ (J.go i H ∧ ∃ N : L2.St → Hp → Prop, (∀ σ' H', N σ' H' → ∃ n', n' < n ∧ W (i + 1) n' σ' H') ∧ ∀ x H', J.yld i H x H' → tG K g x σ H' fun σ2 H2 => tS K cb { D with nx := N, ct := N, bk := D.nx } σ2 H2) := by
 let W : Nat → Nat → L2.St → Hp → Prop := fun i n σ2 H2 => n = us.length - i ∧ i ≤ us.length ∧ ∃ m2 ρ2 S2, Ext K m1 H1 m2 H2 ∧ Sr K m2 S2 H2 ∧ Lr K m2 H2 ρ2 σ2 ∧ b5 ok g cb (us.drop i) ρ2 S2 = some (o, ρ', S')
 refine ⟨W, ⟨us.length, by simp, Nat.zero_le _, m1, ρ, S1, .refl, sr1, lr1, by simpa using h2⟩, ?_⟩
 rintro i n σ2 H2 ⟨rfl, hi, m2, ρ2, S2, e2, sr2, lr2, hl⟩
 by_cases hlt : i < us.length
 ·have hu := List.getElem?_eq_getElem hlt
  rw [eX hu] at hl
  unfold b5 at hl
  split at hl
  ·rename_i hok
   obtain ⟨⟨ρ3, S3⟩, h3, hl⟩ := Option.bind_eq_some_iff.mp hl
   obtain ⟨⟨o4, ρ4, S4⟩, h4, hl⟩ := Option.bind_eq_some_iff.mp hl
   obtain ⟨hgo, hy⟩ := (ito m2 S2 H2 i e2 sr2 hok).1 _ hu
   refine .inr ⟨hgo, W (i + 1) (us.length - (i + 1)), fun σ' H' w' => ⟨_, by omega, w'⟩, fun x H3 y => ?_⟩
   obtain ⟨e3, sr3, ix⟩ := hy x H3 y
   refine ⟨m2, ρ2, S2, _, ρ3, S3, sr3, lr2.mono e3, ix, h3, fun m4 σ4 H4 e4 sr4 lr4 => ⟨m4, ρ3, S3, o4, ρ4, S4, sr4, lr4, h4, ?_⟩⟩
   have e14 := (e2.trans e3).trans e4
   have nxt : b5 ok g cb (us.drop (i + 1)) ρ4 S4 = some (o, ρ', S') → di K m4 H4 (W (i + 1) (us.length - (i + 1))) ρ4 S4 := fun hn m5 σ5 H5 e5 sr5 lr5 => ⟨rfl, hlt, m5, ρ4, S4, e14.trans e5, sr5, lr5, hn⟩
   cases o4 with
   | nx => exact nxt hl
   | ct => exact nxt hl
   | bk => cases hl; exact di.mono e14 post
   | rt v => cases hl; exact dG.mono e14 post
  ·cases hl
 ·have e : i = us.length := by omega
  subst e
  rw [List.drop_length] at hl
  unfold b5 at hl
  split at hl
  ·rename_i hok
   cases hl
   exact .inl ⟨(ito m2 _ H2 _ e2 sr2 hok).2 (Nat.le_refl _), post m2 σ2 H2 e2 sr2 lr2⟩
  ·cases hl
theorem tK {K : PySem.W.Frag} {ci : CI} {g : CG} {cb : CS} : ∀ D σ H, tS K (fq ci g cb) D σ H → yC (tI K ci) (tG K g) (tS K cb) D σ H := by
 rintro D σ H ⟨m, ρ, S, o, ρ', S', sr, lr, hc, post⟩
 obtain ⟨⟨us, ok, S1⟩, h1, h2⟩ := Option.bind_eq_some_iff.mp hc
 exact ⟨m, ρ, S, us, ok, S1, sr, lr, h1, fun m1 H1 J e1 sr1 ito => pM sr1 (lr.mono e1) ito h2 (lK.mono e1 post)⟩
theorem dB {tg iter : Expr} {body : List Stmt} {ci : CI} {g : CG} {cb : CS} (hp : PassesOwn (model X.prog X.w) X.A X.env X.xe) (hc : X.calm = true) (hi : QI X tg iter ci) (hg : QG X tg g) (hb : QSs X body cb) (hs : ∀ x, foldedSetIterable iter X.env x = pure x := by intro _; rfl) : QS X (.For tg iter body [] pos) (fq ci g cb) := (rK hp hc hi hg hb hs).imp tK
noncomputable def cm (t : CT) (cb : CS) : Nat → CS
 | 0 => fun _ _ => none
 | n + 1 => fun ρ S => (t ρ S).bind fun p => if p.1 = true then (cb ρ p.2).bind fun r => match r.1 with
  | .nx => cm t cb n r.2.1 r.2.2
  | .ct => cm t cb n r.2.1 r.2.2
  | .bk => some (.nx, r.2.1, r.2.2)
  | .rt v => some (.rt v, r.2.1, r.2.2) else some (.nx, ρ, p.2)
theorem mi {K : PySem.W.Frag} {t : CT} {cb : CS} {n : Nat} : ∀ D σ H, tS K (cm t cb n) D σ H → mr (tT K t) (tS K cb) D σ H := by
 rintro D σ H ⟨m, ρ, S, o, ρ', S', sr, lr, hc, post⟩
 let W : Nat → L2.St → Hp → Prop := fun n σ2 H2 => ∃ m2 ρ2 S2, Ext K m H m2 H2 ∧ Sr K m2 S2 H2 ∧ Lr K m2 H2 ρ2 σ2 ∧ cm t cb n ρ2 S2 = some (o, ρ', S')
 refine ⟨W, ⟨n, m, ρ, S, .refl, sr, lr, hc⟩, ?_⟩
 rintro k σ2 H2 ⟨m2, ρ2, S2, e2, sr2, lr2, hl⟩
 cases k with
 | zero => cases hl
 | succ k =>
  unfold cm at hl
  obtain ⟨⟨x, S3⟩, h3, hl⟩ := Option.bind_eq_some_iff.mp hl
  refine ⟨m2, ρ2, S2, x, S3, sr2, lr2, h3, fun m3 H3 e3 sr3 => ?_⟩
  have e13 := e2.trans e3
  cases x with
  | true =>
   rw [if_pos rfl] at hl
   refine wG ?_
   obtain ⟨⟨o4, ρ4, S4⟩, h4, hl⟩ := Option.bind_eq_some_iff.mp hl
   refine ⟨W k, fun σ' H' w' => ⟨k, Nat.lt_succ_self _, w'⟩, m3, ρ2, S3, o4, ρ4, S4, sr3, lr2.mono e3, h4, ?_⟩
   have nxt : cm t cb k ρ4 S4 = some (o, ρ', S') → di K m3 H3 (W k) ρ4 S4 := fun hn m5 σ5 H5 e5 sr5 lr5 => ⟨m5, ρ4, S4, e13.trans e5, sr5, lr5, hn⟩
   cases o4 with
   | nx => exact nxt hl
   | ct => exact nxt hl
   | bk => cases hl; exact di.mono e13 post
   | rt v => cases hl; exact dG.mono e13 post
  | false =>
   rw [if_neg Bool.false_ne_true] at hl
   refine wH ?_
   cases hl
   exact post m3 σ2 H3 e13 sr3 (lr2.mono e3)
theorem o7 {body : List Stmt} {t : CT} {cb : CS} (n : Nat) (hp : PassesOwn (model X.prog X.w) X.A X.env X.xe) (hc : QT X c t) (hb : QSs X body cb) : QS X (.While c body [] pos) (cm t cb n) := (lU hp hc hb).imp mi
noncomputable def iTp (ca : CE) : CI := fun ρ S => (ca ρ S).bind fun p => match p.1 with
 | .tup us => some (us, fun _ => True, p.2)
 | .ref l => match p.2[l]? with
  | some (.lst us) => some (us, fun S => S[l]? = some (.lst us), p.2)
  | _ => none
 | _ => none
theorem wI {K : PySem.W.Frag} {m : List Addr} {H : Hp} {us : List U} {a : Addr} {xs : List V} (sq : SqT K H a xs) (il : IsL K m H xs us) : qj K (Itt K a) m H us (fun _ => True) := by
 intro m2 S2 H2 i e2 sr2 _
 have sq2 := e2.keep.t _ _ sq
 have il2 := il.mono e2
 refine ⟨fun u hu => ?_, fun hi => ⟨xs, sq2, by rw [il2.length]; exact hi⟩⟩
 obtain ⟨x, hx, ix⟩ := il2.getD hu
 refine ⟨⟨xs, x, sq2, hx⟩, fun y H3 hy => ?_⟩
 obtain ⟨rfl, hy⟩ := hy
 have := hy xs sq2
 rw [hx] at this; cases this
 exact ⟨.refl, sr2, ix⟩
theorem wJ {K : PySem.W.Frag} {m : List Addr} {H : Hp} {us : List U} {a : Addr} {l : Nat} (hl : m[l]? = some a) : qj K (Itl K a) m H us (fun S => S[l]? = some (.lst us)) := by
 intro m2 S2 H2 i e2 sr2 hok
 obtain ⟨a', ha', xs, hx, il⟩ := sr2.get hok
 rw [e2.get hl] at ha'
 cases ha'
 refine ⟨fun u hu => ?_, fun hi => ⟨xs, SqL.of hx, by rw [il.length]; exact hi⟩⟩
 obtain ⟨x, hx', ix⟩ := il.getD hu
 refine ⟨⟨xs, x, SqL.of hx, hx'⟩, fun y H3 hy => ?_⟩
 obtain ⟨rfl, hy⟩ := hy
 have := hy xs (SqL.of hx)
 rw [hx'] at this; cases this
 exact ⟨.refl, sr2, ix⟩
theorem dX {tg : Expr} (h : QE X e ca) : QI X tg e (iTp ca) := ((rM h).or (oM h)).imp fun σ H R hz => nI hz fun m ρ S us ok S' sr lr hc post => by
 obtain ⟨⟨u, S1⟩, h1, h2⟩ := Option.bind_eq_some_iff.mp hc
 cases u with
 | tup ws =>
  cases h2
  refine .inl ⟨m, ρ, S, .tup us, _, sr, lr, h1, fun m1 v1 H1 e1 sr1 i1 => ?_⟩
  obtain ⟨a, xs, rfl, sq, il⟩ := i1.of_tup
  exact ⟨a, rfl, ⟨xs, sq⟩, post m1 H1 _ e1 sr1 (wI sq il)⟩
 | ref l =>
  simp only at h2
  split at h2
  ·rename_i us' hS
   cases h2
   refine .inr ⟨m, ρ, S, .ref l, _, sr, lr, h1, fun m1 v1 H1 e1 sr1 i1 => ?_⟩
   obtain ⟨a, hl, rfl⟩ := i1.of_ref
   obtain ⟨a', ha', xs, hx, il⟩ := sr1.get hS
   rw [hl] at ha'; cases ha'
   exact ⟨a, rfl, ⟨xs, SqL.of hx⟩, post m1 H1 _ e1 sr1 (wJ hl)⟩
  ·cases h2
 | _ => simp at h2
noncomputable def aP (lo : Int) (n : Nat) : List U := (List.range n).map fun i => .int (lo + (i : Nat))
theorem pS {K : PySem.W.Frag} {m : List Addr} {H : Hp} {lo : Int} {n : Nat} : qj K (Itr lo n) m H (aP lo n) (fun _ => True) := by
 intro m2 S2 H2 i e2 sr2 _
 refine ⟨fun u hu => ?_, fun hi => by show n ≤ i; simpa [aP] using hi⟩
 unfold aP at hu
 rw [List.getElem?_map] at hu
 by_cases c : i < n
 ·rw [List.getElem?_range c] at hu
  simp at hu
  subst hu
  refine ⟨c, fun y H3 hy => ?_⟩
  obtain ⟨rfl, rfl⟩ := hy
  exact ⟨.refl, sr2, .int_⟩
 ·rw [List.getElem?_eq_none (by simpa using c)] at hu
  cases hu
noncomputable def bC (cr : CA) : CI := fun ρ S => (cr ρ S).bind fun p => match p.1 with
 | [.int j] => if -(2 ^ 62) ≤ j ∧ j < 2 ^ 62 then some (aP 0 j.toNat, fun _ => True, p.2) else none
 | _ => none
theorem bZ {tg : Expr} {cr : CA} {p : Pos} (hg : Gl X "range") (hm : X.mg "range" = none) (ha : QA X [a] cr) (hs : starEach [a] X.env = [(false, eval a X.env)] := by rfl) : QI X tg (.Call (.Name "range" p) [a] [] pos) (bC cr) := (kG hg hm ha.h hs).imp fun σ H R hz => nI hz fun m ρ S us ok S' sr lr hc post => by
 obtain ⟨⟨ws, S1⟩, h1, h2⟩ := Option.bind_eq_some_iff.mp hc
 simp only at h2
 split at h2
 ·rename_i j
  split at h2
  ·rename_i hj
   cases h2
   refine ⟨m, ρ, S, _, S', sr, lr, h1, fun m1 v1 H1 e1 sr1 i1 => ?_⟩
   obtain ⟨x, r, rfl, ix, ir⟩ := i1.of_cons
   rw [ir.of_nil, ix.of_int]
   exact ⟨j, rfl, hj.1, hj.2, post m1 H1 _ e1 sr1 pS⟩
  ·cases h2
 ·cases h2
end
noncomputable def fI (g : Int → Int → Option U) : U → U → Sto → Option (U × Sto)
 | .int i, .int j, S => (g i j).bind fun u => some (u, S)
 | _, _, _ => none
section
variable {X : Cx} {K : PySem.W.Frag}
theorem yY {C : Int → Int → Prop} {gV : Int → Int → V} {g : Int → Int → Option U} (h : ∀ i j u, g i j = some u → C i j ∧ ∀ m H, Is K m H (gV i j) u) : OpP K (rI C gV) (fI g) := by
 intro m S H x y v w u S' Q sr ix iy hf post
 cases x <;> cases y <;> simp only [fI] at hf <;> try cases hf
 rename_i i j
 obtain ⟨u1, h1, h2⟩ := Option.bind_eq_some_iff.mp hf
 cases h2
 obtain ⟨hc, hi⟩ := h i j u h1
 exact ⟨i, j, ix.of_int, iy.of_int, hc, post m _ H .refl sr (hi m H)⟩
theorem vY {gV : Int → Int → V} {g : Int → Int → Option U} (h : ∀ i j u, g i j = some u → ∀ m H, Is K m H (gV i j) u) : OpP K (rI0 gV) (fI g) := by
 intro m S H x y v w u S' Q sr ix iy hf post
 cases x <;> cases y <;> simp only [fI] at hf <;> try cases hf
 rename_i i j
 obtain ⟨u1, h1, h2⟩ := Option.bind_eq_some_iff.mp hf
 cases h2
 exact ⟨i, j, ix.of_int, iy.of_int, post m _ H .refl sr (h i j u h1 m H)⟩
noncomputable def o6 (K : PySem.W.Frag) : R2 := fun x y H Q => ∃ a b xs ys, x = .ref a ∧ y = .ref b ∧ SqT K H a xs ∧ SqT K H b ys ∧ xs.length + ys.length ≤ sizeLine ∧ ∀ q H', tY H H' → SqT K H' q (xs ++ ys) → Q (.ref q) H'
theorem sZ : OpR X (binaryOp .Add) (o6 X.K) := by
 intro pins s σ H x y v u Q I rx ry h
 obtain ⟨a, b, xs, ys, rfl, rfl, ha, hb, hz, q⟩ := h
 by_cases e : xs = []
 ·cases rx
  cases ry
  obtain ⟨its, r1, p1, _⟩ := I.tuple ha
  obtain ⟨its2, r2, p2, _⟩ := I.tuple hb
  refine p7 p1 p2 (r1.nil_iff.mpr e) ⟨.ref b, H, I, rfl, q b H (.refl _) (by rw [e]; exact hb)⟩
 ·refine sY pins s σ H _ _ v u Q I rx ry ⟨a, b, xs, ys, rfl, rfl, ha, hb, e, hz, fun z => q a H (.refl _) (by rw [z, List.append_nil]; exact ha), fun _ p hp => q p _ (d7 hp _) (SqT.of aD)⟩
noncomputable def nG : U → U → Sto → Option (U × Sto)
 | .tup a, .tup b, S => if a.length + b.length ≤ LIM then some (.tup (a ++ b), S) else none
 | _, _, _ => none
theorem pC : OpP K (o6 K) nG := by
 intro m S H x y v w u S' Q sr ix iy hf post
 cases x <;> cases y <;> simp only [nG] at hf <;> try cases hf
 split at hf <;> try cases hf
 rename_i hl
 obtain ⟨a, xs, rfl, sa, la⟩ := ix.of_tup
 obtain ⟨b, ys, rfl, sb, lb⟩ := iy.of_tup
 refine ⟨a, b, xs, ys, rfl, rfl, sa, sb, lim (by rw [la.length, lb.length]; exact hl), fun q H' s sq => ?_⟩
 exact post m _ H' (.of (dD s)) (sr.same s) (.tup_ sq ((la.append lb).mono (.of (dD s))))
noncomputable def gE : U → U → Sto → Option (U × Sto)
 | .ref l, .ref k, S => match S[l]?, S[k]? with
  | some (.lst a), some (.lst b) => if a.length + b.length ≤ LIM then some (.ref S.length, S ++ [.lst (a ++ b)]) else none
  | _, _ => none
 | _, _, _ => none
theorem pF : OpP K xj gE := by
 intro m S H x y v w u S' Q sr ix iy hf post
 cases x <;> cases y <;> simp only [gE] at hf <;> try cases hf
 rename_i l k
 split at hf <;> try cases hf
 rename_i a b h1 h2
 split at hf <;> try cases hf
 rename_i hl
 obtain ⟨p, hp, rfl⟩ := ix.of_ref
 obtain ⟨q, hq, rfl⟩ := iy.of_ref
 obtain ⟨p', hp', xs, hx, il⟩ := sr.get h1
 obtain ⟨q', hq', ys, hy, il'⟩ := sr.get h2
 rw [hp] at hp'; cases hp'
 rw [hq] at hq'; cases hq'
 exact ⟨p, q, xs, ys, rfl, rfl, hx, hy, lim (by rw [il.length, il'.length]; exact hl), fun r hr => cq sr (il.append il') post hr⟩
noncomputable def nH : U → U → Sto → Option (U × Sto)
 | .str a, .str b, S => if a.length + b.length ≤ LIM then some (.str (a ++ b), S) else none
 | _, _, _ => none
theorem pD : OpP K (fun x y H Q => ∃ i j, x = .str i ∧ y = .str j ∧ i.length + j.length ≤ sizeLine ∧ Q (.str (i ++ j)) H) nH := by
 intro m S H x y v w u S' Q sr ix iy hf post
 cases x <;> cases y <;> simp only [nH] at hf <;> try cases hf
 split at hf <;> try cases hf
 rename_i hl
 exact ⟨_, _, ix.of_str, iy.of_str, lim hl, post m _ H .refl sr .str_⟩
noncomputable def cR : U → U → Sto → Option (U × Sto)
 | .int i, .int j, S => some (.int (i + j), S)
 | .tup a, .tup b, S => if a.length + b.length ≤ LIM then some (.tup (a ++ b), S) else none
 | .str a, .str b, S => if a.length + b.length ≤ LIM then some (.str (a ++ b), S) else none
 | .ref l, .ref k, S => gE (.ref l) (.ref k) S
 | _, _, _ => none
theorem dc : OpR X (binaryOp .Add) (fun x y H Q => rI0 (fun i j => .int (i + j)) x y H Q ∨ (xj x y H Q ∨ (o6 X.K x y H Q ∨ ∃ i j, x = .str i ∧ y = .str j ∧ i.length + j.length ≤ sizeLine ∧ Q (.str (i ++ j)) H))) := wd.or (wc.or (sZ.or kW))
theorem da : OpP K (fun x y H Q => rI0 (fun i j => .int (i + j)) x y H Q ∨ (xj x y H Q ∨ (o6 K x y H Q ∨ ∃ i j, x = .str i ∧ y = .str j ∧ i.length + j.length ≤ sizeLine ∧ Q (.str (i ++ j)) H))) cR := by
 intro m S H x y v w u S' Q sr ix iy hf post
 cases x <;> cases y <;> simp only [cR] at hf <;> try cases hf
 ·exact .inl ⟨_, _, ix.of_int, iy.of_int, post m _ H .refl sr .int_⟩
 ·exact .inr (.inr (.inr (pD m S H _ _ v w u S' Q sr ix iy hf post)))
 ·exact .inr (.inr (.inl (pC m S H _ _ v w u S' Q sr ix iy hf post)))
 ·exact .inr (.inl (pF m S H _ _ v w u S' Q sr ix iy hf post))
noncomputable def zq := fI fun i j => some (.int (i - j))
theorem yX : OpP K (rI0 fun i j => .int (i - j)) zq := vY fun i j u h m H => by cases h; exact .int_
instance {i j : Int} : Decidable (qS i j) := by unfold qS; exact inferInstance
noncomputable def eA := fI fun i j => if qS i j then some (.int (i * j)) else none
theorem gu : OpP K (rI qS fun i j => .int (i * j)) eA := yY fun i j u h => by
 split at h
 ·rename_i c; cases h; exact ⟨c, fun m H => .int_⟩
 ·cases h
instance {i j : Int} : Decidable (lL i j) := by unfold lL; exact inferInstance
noncomputable def qH := fI fun i j => if lL i j then some (.int (i / j)) else none
theorem v8 : OpP K (rI lL fun i j => .int (i / j)) qH := yY fun i j u h => by
 split at h
 ·rename_i c; cases h; exact ⟨c, fun m H => .int_⟩
 ·cases h
noncomputable def lA := fI fun i j => if 0 < j then some (.int (i % j)) else none
theorem pE : OpP K (rI (fun _ j => 0 < j) fun i j => .int (i % j)) lA := yY fun i j u h => by
 split at h
 ·rename_i c; cases h; exact ⟨c, fun m H => .int_⟩
 ·cases h
instance {i j : Int} : Decidable (Aa i j) := by unfold Aa; exact inferInstance
noncomputable def fLt := fI fun i j => some (.bl (decide (i < j)))
noncomputable def fLe := fI fun i j => some (.bl (decide (i ≤ j)))
noncomputable def fGt := fI fun i j => some (.bl (decide (j < i)))
noncomputable def fGe := fI fun i j => some (.bl (decide (j ≤ i)))
theorem xl : OpP K (rI0 fun i j => .bl (decide (i < j))) fLt := vY fun i j u h m H => by cases h; exact .bl_
noncomputable def eqS : U → U → Option Bool
 | .int i, .int j => some (decide (i = j))
 | .bl i, .bl j => some (decide (i = j))
 | .str i, .str j => some (decide (i = j))
 | .non, .non => some true
 | .non, .int _ => some false | .int _, .non => some false
 | .non, .bl _ => some false | .bl _, .non => some false
 | .non, .str _ => some false | .str _, .non => some false
 | .int _, .str _ => some false | .str _, .int _ => some false
 | .bl _, .str _ => some false | .str _, .bl _ => some false
 | _, _ => none
noncomputable def fEq : U → U → Sto → Option (U × Sto) := fun x y S => (eqS x y).bind fun b => some (.bl b, S)
noncomputable def fNe : U → U → Sto → Option (U × Sto) := fun x y S => (eqS x y).bind fun b => some (.bl (!b), S)
theorem qJ {m : List Addr} {H : Hp} {x y : U} {v w : V} {b : Bool} (ix : Is K m H v x) (iy : Is K m H w y) (h : eqS x y = some b) : yE v w = true ∧ decide (v = w) = b := by
 cases x <;> cases y <;> simp only [eqS] at h <;> (first | cases h | skip)
 all_goals
  (first | (have e1 := ix.of_int) | (have e1 := ix.of_bl) | (have e1 := ix.of_str) | (have e1 := ix.of_non))
  (first | (have e2 := iy.of_int) | (have e2 := iy.of_bl) | (have e2 := iy.of_str) | (have e2 := iy.of_non))
  subst e1 e2
  exact ⟨rfl, by simp⟩
theorem xm : OpP K rEq fEq := by
 intro m S H x y v w u S' Q sr ix iy hf post
 obtain ⟨b, h1, h2⟩ := Option.bind_eq_some_iff.mp hf
 cases h2
 obtain ⟨e1, e2⟩ := qJ ix iy h1
 exact ⟨e1, by rw [e2]; exact post m _ H .refl sr .bl_⟩
theorem zQ : OpP K rNe fNe := by
 intro m S H x y v w u S' Q sr ix iy hf post
 obtain ⟨b, h1, h2⟩ := Option.bind_eq_some_iff.mp hf
 cases h2
 obtain ⟨e1, e2⟩ := qJ ix iy h1
 exact ⟨e1, by rw [e2]; exact post m _ H .refl sr .bl_⟩
section
variable {κ : Type} [DecidableEq κ]
noncomputable def dI {α : Type} (kvs : List (κ × α)) (k : κ) : Option α := (kvs.find? fun kv => decide (kv.1 = k)).map (·.2)
noncomputable def ed {α : Type} (kvs : List (κ × α)) (k : κ) (v : α) : List (κ × α) :=
 if (kvs.any fun kv => decide (kv.1 = k)) = true then kvs.map (fun kv => if kv.1 = k then (kv.1, v) else kv) else kvs ++ [(k, v)]
variable {m : List Addr} {H : Hp} {kvs : List (κ × V)} {kus : List (κ × U)} {k : κ} {v : V} {u : U}
theorem IsP.val (h : IsP K m H kvs kus) : Rf K m H (fh kvs k) (dI kus k) := by
 refine IsP.ind (P := fun kvs kus => Rf K m H (fh kvs k) (dI kus k)) trivial (fun k' v u kvs kus i _ ih => ?_) h
 by_cases e : k' = k
 ·subst e
  simp [fh, dI, List.find?_cons, Rf, i]
 ·simp only [fh, dI, List.find?_cons, decide_eq_false e] at ih ⊢
  exact ih
theorem IsP.any_ (h : IsP K m H kvs kus) : (kvs.any fun kv => decide (kv.1 = k)) = (kus.any fun kv => decide (kv.1 = k)) :=
 IsP.ind (P := fun kvs kus => (kvs.any fun kv => decide (kv.1 = k)) = (kus.any fun kv => decide (kv.1 = k))) rfl (fun k' v u kvs kus i _ ih => by simp only [List.any_cons, ih]) h
theorem IsP.append {kvs' : List (κ × V)} {kus' : List (κ × U)} (h : IsP K m H kvs kus) (h' : IsP K m H kvs' kus') : IsP K m H (kvs ++ kvs') (kus ++ kus') := ⟨by simp [h.1, h'.1], by simpa using h.2.append h'.2⟩
theorem IsP.put (h : IsP K m H kvs kus) (i : Is K m H v u) : IsP K m H (iS kvs k v) (ed kus k u) := by
 unfold iS ed
 rw [h.any_]
 split
 ·refine IsP.ind (P := fun kvs kus => IsP K m H (kvs.map fun kv => if kv.1 = k then (kv.1, v) else kv) (kus.map fun kv => if kv.1 = k then (kv.1, u) else kv)) .nil_ (fun k' v' u' kvs kus i' _ ih => ?_) h
  simp only [List.map_cons]
  by_cases e : k' = k
  ·simp only [e, if_true]; exact .cons_ i ih
  ·simp only [e, if_false]; exact .cons_ i' ih
 ·exact h.append (.cons_ i .nil_)
end
noncomputable def eg : U → Option Key
 | .int i => some (.inl i)
 | .str x => some (.inr x)
 | _ => none
theorem dN {m : List Addr} {H : Hp} {x : U} {v : V} {k : Key} (ix : Is K m H v x) (h : eg x = some k) : v = kV k := by
 cases x <;> simp only [eg] at h <;> cases h
 ·exact ix.of_int
 ·exact ix.of_str
noncomputable def de : U → Bool
 | .non => true | .bl _ => true | .int _ => true | .str _ => true | _ => false
noncomputable def eqF : U → U → Bool
 | .non, .non => true
 | .bl a, .bl b => a == b
 | .bl a, .int b => (if a then 1 else 0) == b
 | .int a, .bl b => a == (if b then 1 else 0)
 | .int a, .int b => a == b
 | .str a, .str b => a == b
 | _, _ => false
noncomputable def inU (x : U) (us : List U) : Bool := us.any fun y => eqF y x
theorem jn {m : List Addr} {H : Hp} {x : U} {v : V} (ix : Is K m H v x) (h : de x = true) : fj v = true := by
 cases x with
 | non => rw [ix.of_non]; rfl
 | bl b => rw [ix.of_bl]; rfl
 | int i => rw [ix.of_int]; rfl
 | str i => rw [ix.of_str]; rfl
 | tup us => cases h
 | ref l => cases h
 | kl l => cases h
theorem wU {m : List Addr} {H : Hp} {x y : U} {v w : V} (ix : Is K m H v x) (iy : Is K m H w y) (hx : de x = true) (hy : de y = true) : eqV v w = eqF x y := by
 cases x <;> (first | cases hx | skip) <;> cases y <;> (first | cases hy | skip)
 all_goals
  (first | (have e1 := ix.of_int) | (have e1 := ix.of_bl) | (have e1 := ix.of_str) | (have e1 := ix.of_non))
  (first | (have e2 := iy.of_int) | (have e2 := iy.of_bl) | (have e2 := iy.of_str) | (have e2 := iy.of_non))
  subst e1 e2
  rfl
theorem gD {m : List Addr} {H : Hp} : ∀ {xs : List V} {us : List U}, IsL K m H xs us → us.all de = true → xs.all fj = true
 | xs, [], h, _ => by rw [h.of_nil]; rfl
 | xs, u :: us, h, k => by
  obtain ⟨x, r, rfl, i, t⟩ := h.of_cons
  rw [List.all_cons, Bool.and_eq_true] at k ⊢
  exact ⟨jn i k.1, gD t k.2⟩
theorem nD {m : List Addr} {H : Hp} {x : U} {v : V} (ix : Is K m H v x) (hx : de x = true) : ∀ {xs : List V} {us : List U}, IsL K m H xs us → us.all de = true → inV v xs = inU x us
 | xs, [], h, _ => by rw [h.of_nil]; rfl
 | xs, u :: us, h, k => by
  obtain ⟨y, r, rfl, i, t⟩ := h.of_cons
  rw [List.all_cons, Bool.and_eq_true] at k
  have ih := nD ix hx t k.2
  unfold inV inU at ih ⊢
  rw [List.any_cons, List.any_cons, ih, wU i ix k.1 hx]
theorem _root_.L2.DGet.kz {H : Hp} {a : Addr} {ob : Obj} {kvs : List (Key × V)} {k : Key} (e : H a = some (.frz ob (.dK kvs))) : DGet H a (kV k) (fh kvs k) := .inl ⟨kvs, k, .inr ⟨ob, e⟩, rfl, rfl⟩
noncomputable def fIn (neg : Bool) : U → U → Sto → Option (U × Sto) := fun x y S => match y with
 | .tup us => if de x = true ∧ us.all de = true then some (.bl (if neg then !inU x us else inU x us), S) else none
 | .ref l => match S[l]? with
  | some (.lst us) => if de x = true ∧ us.all de = true then some (.bl (if neg then !inU x us else inU x us), S) else none
  | some (.dic kus) => (eg x).bind fun k => some (.bl (if neg then !(dI kus k).isSome else (dI kus k).isSome), S)
  | some (.fdc ep kus) => (eg x).bind fun k => some (.bl (if neg then !(dI kus k).isSome else (dI kus k).isSome), S)
  | _ => none
 | _ => none
theorem Rf.isSome {m : List Addr} {H : Hp} {v : Option V} {u : Option U} (h : Rf K m H v u) : v.isSome = u.isSome := by
 cases v <;> cases u <;> first | rfl | exact h.elim
theorem wL {ca cb : CE} {neg : Bool} (t2 : TE → TE → TE) (h2 : ∀ ta tb σ H Q, (ta σ H fun y H1 => tb σ H1 fun x H2 => ∃ a o, x = .ref a ∧ DGet H2 a y o ∧ Q (.bl (if neg then !o.isSome else o.isSome)) H2) → t2 ta tb σ H Q) : ∀ σ H Q, tE K (cOp (fIn neg) ca cb) σ H Q → tOp (rIn K neg) (tE K ca) (tE K cb) σ H Q ∨ t2 (tE K ca) (tE K cb) σ H Q := by
 rintro σ H Q ⟨m, ρ, S, u, S', sr, lr, hc, post⟩
 obtain ⟨⟨x, S1⟩, h1, h⟩ := Option.bind_eq_some_iff.mp hc
 obtain ⟨⟨y, S2⟩, h3, h4⟩ := Option.bind_eq_some_iff.mp h
 cases y with
 | tup us =>
  simp only [fIn] at h4
  split at h4 <;> try cases h4
  rename_i hf
  refine .inl ⟨m, ρ, S, x, S1, sr, lr, h1, fun m1 v1 H1 e1 sr1 i1 => ⟨m1, ρ, S1, .tup us, S', sr1, lr.mono e1, h3, fun m2 v2 H2 e2 sr2 i2 => ?_⟩⟩
  obtain ⟨a, xs, rfl, sa, la⟩ := i2.of_tup
  refine ⟨a, xs, rfl, .inr sa, jn (i1.mono e2) hf.1, gD la hf.2, ?_⟩
  rw [nD (i1.mono e2) hf.1 la hf.2]
  exact post m2 _ H2 (e1.trans e2) sr2 .bl_
 | ref l =>
  simp only [fIn] at h4
  split at h4 <;> try cases h4
  ·rename_i us hS
   split at h4 <;> try cases h4
   rename_i hf
   refine .inl ⟨m, ρ, S, x, S1, sr, lr, h1, fun m1 v1 H1 e1 sr1 i1 => ⟨m1, ρ, S1, .ref l, S', sr1, lr.mono e1, h3, fun m2 v2 H2 e2 sr2 i2 => ?_⟩⟩
   obtain ⟨a, ha, rfl⟩ := i2.of_ref
   obtain ⟨a', ha', xs, hx, la⟩ := sr2.get hS
   rw [ha] at ha'; cases ha'
   refine ⟨a, xs, rfl, .inl (SqL.of hx), jn (i1.mono e2) hf.1, gD la hf.2, ?_⟩
   rw [nD (i1.mono e2) hf.1 la hf.2]
   exact post m2 _ H2 (e1.trans e2) sr2 .bl_
  ·rename_i kus hS
   obtain ⟨k, hk, h5⟩ := Option.bind_eq_some_iff.mp h4
   cases h5
   refine .inr (h2 _ _ _ _ _ ⟨m, ρ, S, x, S1, sr, lr, h1, fun m1 v1 H1 e1 sr1 i1 => ⟨m1, ρ, S1, .ref l, S', sr1, lr.mono e1, h3, fun m2 v2 H2 e2 sr2 i2 => ?_⟩⟩)
   obtain ⟨a, ha, rfl⟩ := i2.of_ref
   obtain ⟨a', ha', kvs, hx, ip⟩ := sr2.get hS
   rw [ha] at ha'; cases ha'
   have ek := dN (i1.mono e2) hk
   subst ek
   refine ⟨a, _, rfl, DGet.k hx, ?_⟩
   rw [(IsP.val ip).isSome]
   exact post m2 _ H2 (e1.trans e2) sr2 .bl_
  ·rename_i ep kus hS
   obtain ⟨k, hk, h5⟩ := Option.bind_eq_some_iff.mp h4
   cases h5
   refine .inr (h2 _ _ _ _ _ ⟨m, ρ, S, x, S1, sr, lr, h1, fun m1 v1 H1 e1 sr1 i1 => ⟨m1, ρ, S1, .ref l, S', sr1, lr.mono e1, h3, fun m2 v2 H2 e2 sr2 i2 => ?_⟩⟩)
   obtain ⟨a, ha, rfl⟩ := i2.of_ref
   obtain ⟨a', ha', ob, es, kvs, hx, hd, ip⟩ := sr2.get hS
   rw [ha] at ha'; cases ha'
   have ek := dN (i1.mono e2) hk
   subst ek
   refine ⟨a, _, rfl, DGet.kz hx, ?_⟩
   rw [(IsP.val ip).isSome]
   exact post m2 _ H2 (e1.trans e2) sr2 .bl_
 | _ => simp [fIn] at h4
variable {e a b c : Expr} {ca cb cc : CE} {pos : Pos}
theorem vz (hu : X.A.units + 1 < cLine) (ha : QE X a ca) (hb : QE X b cb) (hm : behindInMarks .In b = false) : QT X (.Compare a [.In] [b] pos) (bj (cOp (fIn false) ca cb)) :=
 ((jL mR ha hb hm).or (rG (rW hu ha hb) hm)).imp (fW (wL (neg := false) yD fun _ _ _ _ _ h => h))
noncomputable def fIx : U → U → Sto → Option (U × Sto) := fun x y S => match x with
 | .tup us => match y with
  | .int i => (atI us i).bind fun u => some (u, S)
  | _ => none
 | .ref l => match S[l]? with
  | some (.lst us) => (match y with
   | .int i => (atI us i).bind fun u => some (u, S)
   | _ => none)
  | some (.dic kus) => (eg y).bind fun k => (dI kus k).bind fun u => some (u, S)
  | some (.fdc ep kus) => (eg y).bind fun k => (dI kus k).bind fun u => some (u, S)
  | _ => none
 | .kl ns => match y with
  | .int i => (atI (ns.map U.int) i).bind fun u => some (u, S)
  | _ => none
 | _ => none
theorem kj {K : PySem.W.Frag} {m : List Addr} {H : Hp} : ∀ ns : List Int, IsL K m H (ns.map V.int) (ns.map U.int)
 | [] => .nil_
 | n :: ns => .cons_ .int_ (kj ns)
theorem oe {m : List Addr} {H : Hp} {xs : List V} {us : List U} {i : Int} {u : U} (l : IsL K m H xs us) (h : atI us i = some u) : ∃ v, atI xs i = some v ∧ Is K m H v u := by
 unfold atI at h ⊢
 rw [l.length]
 obtain ⟨j, e1, e2⟩ := Option.bind_eq_some_iff.mp h
 rw [e1]
 obtain ⟨v, e3, e4⟩ := l.getD e2
 exact ⟨v, e3, e4⟩
theorem gk (hu : X.A.units + 1 < cLine) (ha : QE X a ca) (hb : QE X b cb) (hs : jF b) (hs2 : uc b) : QE X (.Subscript a b pos) (cOp fIx ca cb) :=
 ((uZ (tF.or wF) ha hb hs).or (oP hu ha hb hs2)).imp fun σ H Q hz => eV hz fun m ρ S u S' sr lr hc post => by
 obtain ⟨⟨x, S1⟩, h1, h⟩ := Option.bind_eq_some_iff.mp hc
 obtain ⟨⟨y, S2⟩, h3, h4⟩ := Option.bind_eq_some_iff.mp h
 cases x with
 | tup us =>
  simp only [fIx] at h4
  split at h4 <;> try cases h4
  rename_i i
  obtain ⟨w, hw, h5⟩ := Option.bind_eq_some_iff.mp h4
  cases h5
  refine .inl ⟨m, ρ, S, _, S1, sr, lr, h1, fun m1 v1 H1 e1 sr1 i1 => ⟨m1, ρ, S1, _, S', sr1, lr.mono e1, h3, fun m2 v2 H2 e2 sr2 i2 => .inr ?_⟩⟩
  obtain ⟨a, xs, rfl, sa, la⟩ := (i1.mono e2).of_tup
  obtain ⟨z, ez, iz⟩ := oe la hw
  exact ⟨a, xs, i, z, rfl, i2.of_int, sa, ez, post m2 _ H2 (e1.trans e2) sr2 iz⟩
 | ref l =>
  simp only [fIx] at h4
  split at h4 <;> try cases h4
  ·rename_i us hS
   split at h4 <;> try cases h4
   rename_i i
   obtain ⟨w, hw, h5⟩ := Option.bind_eq_some_iff.mp h4
   cases h5
   refine .inl ⟨m, ρ, S, _, S1, sr, lr, h1, fun m1 v1 H1 e1 sr1 i1 => ⟨m1, ρ, S1, _, S', sr1, lr.mono e1, h3, fun m2 v2 H2 e2 sr2 i2 => .inl ?_⟩⟩
   obtain ⟨a, ha, rfl⟩ := (i1.mono e2).of_ref
   obtain ⟨a', ha', xs, hx, la⟩ := sr2.get hS
   rw [ha] at ha'; cases ha'
   obtain ⟨z, ez, iz⟩ := oe la hw
   exact ⟨a, xs, i, z, rfl, i2.of_int, SqL.of hx, ez, post m2 _ H2 (e1.trans e2) sr2 iz⟩
  ·rename_i kus hS
   obtain ⟨k, hk, h5⟩ := Option.bind_eq_some_iff.mp h4
   obtain ⟨w, hw, h6⟩ := Option.bind_eq_some_iff.mp h5
   cases h6
   refine .inr ⟨m, ρ, S, _, S1, sr, lr, h1, fun m1 v1 H1 e1 sr1 i1 => ⟨m1, ρ, S1, _, S', sr1, lr.mono e1, h3, fun m2 v2 H2 e2 sr2 i2 => ?_⟩⟩
   obtain ⟨a, ha, rfl⟩ := (i1.mono e2).of_ref
   obtain ⟨a', ha', kvs, hx, ip⟩ := sr2.get hS
   rw [ha] at ha'; cases ha'
   have ek := dN i2 hk
   subst ek
   have rf := IsP.val (k := k) ip
   rw [hw] at rf
   cases hv : fh kvs k with
   | none => rw [hv] at rf; exact rf.elim
   | some z =>
    rw [hv] at rf
    exact ⟨a, z, rfl, by have := DGet.k (k := k) hx; rw [hv] at this; exact this, post m2 _ H2 (e1.trans e2) sr2 rf⟩
  ·rename_i ep kus hS
   obtain ⟨k, hk, h5⟩ := Option.bind_eq_some_iff.mp h4
   obtain ⟨w, hw, h6⟩ := Option.bind_eq_some_iff.mp h5
   cases h6
   refine .inr ⟨m, ρ, S, _, S1, sr, lr, h1, fun m1 v1 H1 e1 sr1 i1 => ⟨m1, ρ, S1, _, S', sr1, lr.mono e1, h3, fun m2 v2 H2 e2 sr2 i2 => ?_⟩⟩
   obtain ⟨a, ha, rfl⟩ := (i1.mono e2).of_ref
   obtain ⟨a', ha', ob, es, kvs, hx, hd, ip⟩ := sr2.get hS
   rw [ha] at ha'; cases ha'
   have ek := dN i2 hk
   subst ek
   have rf := IsP.val (k := k) ip
   rw [hw] at rf
   cases hv : fh kvs k with
   | none => rw [hv] at rf; exact rf.elim
   | some z =>
    rw [hv] at rf
    exact ⟨a, z, rfl, by have := DGet.kz (k := k) hx; rw [hv] at this; exact this, post m2 _ H2 (e1.trans e2) sr2 rf⟩
 | kl ns =>
  simp only [fIx] at h4
  split at h4 <;> try cases h4
  rename_i i
  obtain ⟨w, hw, h5⟩ := Option.bind_eq_some_iff.mp h4
  cases h5
  refine .inl ⟨m, ρ, S, _, S1, sr, lr, h1, fun m1 v1 H1 e1 sr1 i1 => ⟨m1, ρ, S1, _, S', sr1, lr.mono e1, h3, fun m2 v2 H2 e2 sr2 i2 => .inl ?_⟩⟩
  obtain ⟨a, rfl, ka⟩ := (i1.mono e2).of_kl
  obtain ⟨z, ez, iz⟩ := oe (kj (K := X.K) (m := m2) (H := H2) ns) hw
  exact ⟨a, _, i, z, rfl, i2.of_int, ka.sq, ez, post m2 _ H2 (e1.trans e2) sr2 iz⟩
 | _ => simp [fIx] at h4
noncomputable def eU : U → U → U → Sto → Option Sto := fun o i v S => match o with
 | .ref l => match S[l]? with
  | some (.lst us) => (match i with
   | .int k => (ixN us.length k).bind fun j => some (S.set l (.lst (us.set j v)))
   | _ => none)
  | some (.dic kus) => (eg i).bind fun k => if kus.length < LIM then some (S.set l (.dic (ed kus k v))) else none
  | _ => none
 | _ => none
noncomputable def nX (co ci cv : CE) : CS := fun ρ S => (cv ρ S).bind fun p => (co ρ p.2).bind fun q => (ci ρ q.2).bind fun r => (eU q.1 r.1 p.1 r.2).bind fun S' => some (.nx, ρ, S')
theorem o8 {o i : Expr} {co ci cv : CE} {pos' : Pos} (hu : X.A.units + 1 < cLine) (ho : QE X o co) (hi : QE X i ci) (hv : QE X e cv)
  (hs0 : swapsWithSole [.Subscript o i pos'] e pos.line X.env = pure false := by rfl) (hw : swappedStores [.Subscript o i pos'] e X.env = pure none := by rfl)
  (h1 : (assignEach [.Subscript o i pos'] X.env).map (·.2) = [assign (.Subscript o i pos') X.env] := by rfl)
  (hs : swapsWith e (some (.Subscript o i pos')) pos.line X.env = pure false := by rfl)
  (ha : ∀ v, assign (.Subscript o i pos') X.env v = (do
   let ov ← holding [v] (eval o X.env)
   let iv ← holding [v, ov] (eval i X.env)
   standAt pos'
   holding [v, ov, iv] (setItem ov iv v)
   release [v, ov, iv] []) := by intro _; rfl) : QS X (.Assign [.Subscript o i pos'] e pos) (nX co ci cv) :=
 ((rL hv (rO ho hi o2 ha) hs0 hw h1).or (jM hu ho hi hv hs)).imp fun D σ H hz => nI hz fun m ρ S o ρ' S' sr lr hc post => by
 obtain ⟨⟨v, S1⟩, h1, h⟩ := Option.bind_eq_some_iff.mp hc
 obtain ⟨⟨ou, S2⟩, h2, h⟩ := Option.bind_eq_some_iff.mp h
 obtain ⟨⟨iu, S3⟩, h3, h⟩ := Option.bind_eq_some_iff.mp h
 obtain ⟨S4, h4, h⟩ := Option.bind_eq_some_iff.mp h
 cases h
 cases ou with
 | ref l =>
  simp only [eU] at h4
  split at h4 <;> try cases h4
  ·rename_i us hS
   split at h4 <;> try cases h4
   rename_i k
   obtain ⟨j, hj, h5⟩ := Option.bind_eq_some_iff.mp h4
   cases h5
   refine .inl ⟨m, ρ, S, v, S1, sr, lr, h1, fun m1 v1 H1 e1 sr1 i1 => ⟨m1, ρ, S1, _, S2, sr1, lr.mono e1, h2, fun m2 v2 H2 e2 sr2 i2 => ⟨m2, ρ, S2, _, S3, sr2, lr.mono (e1.trans e2), h3, fun m3 v3 H3 e3 sr3 i3 => ?_⟩⟩⟩
   obtain ⟨a, ha, rfl⟩ := (i2.mono e3).of_ref
   obtain ⟨a', ha', xs, hx, la⟩ := sr3.get hS
   rw [ha] at ha'; cases ha'
   have e13 := (e1.trans e2).trans e3
   have ek : Ext X.K m3 H3 m3 (upd H3 a (.lst (xs.set j v1))) := .of (sr3.keep ha _)
   refine ⟨a, xs, k, j, rfl, i3.of_int, hx, by rw [la.length]; exact hj, post m3 σ _ (e13.trans ek) (sr3.put ha ⟨_, aD, ((la.set (i1.mono (e2.trans e3)))).mono ek⟩) (lr.mono (e13.trans ek))⟩
  ·rename_i kus hS
   obtain ⟨k, hk, h5⟩ := Option.bind_eq_some_iff.mp h4
   split at h5 <;> try cases h5
   have cH : kus.length < LIM := by assumption
   refine .inr ⟨m, ρ, S, v, S1, sr, lr, h1, fun m1 v1 H1 e1 sr1 i1 => ⟨m1, ρ, S1, _, S2, sr1, lr.mono e1, h2, fun m2 v2 H2 e2 sr2 i2 => ⟨m2, ρ, S2, _, S3, sr2, lr.mono (e1.trans e2), h3, fun m3 v3 H3 e3 sr3 i3 => ?_⟩⟩⟩
   obtain ⟨a, ha, rfl⟩ := (i2.mono e3).of_ref
   obtain ⟨a', ha', kvs, hx, ip⟩ := sr3.get hS
   rw [ha] at ha'; cases ha'
   have ek := dN i3 hk
   subst ek
   have e13 := (e1.trans e2).trans e3
   have ee : Ext X.K m3 H3 m3 (upd H3 a (.dK (iS kvs k v1))) := .of (sr3.keep ha _)
   exact ⟨a, _, rfl, qR.k hx (wm (by rw [IsP.length ip]; exact cH)), post m3 σ _ (e13.trans ee) (sr3.put ha ⟨_, aD, (IsP.put ip (i1.mono (e2.trans e3))).mono ee⟩) (lr.mono (e13.trans ee))⟩
 | _ => simp [eU] at h4
end
section
variable {X : Cx} {K : PySem.W.Frag} {m : List Addr} {H : Hp} {c : Cl} {fs : List (Str × V)} {fus : List (Option U)}
open Classical in
noncomputable def zr (c : Cl) (i : Nat) (x : U) (S : Sto) : Option (U × Sto) := match x with
 | .ref l => match S[l]? with
  | some (.ins c' fus) => if c' = c then (fus[i]?).join.bind fun u => some (u, S) else none
  | _ => none
 | _ => none
noncomputable def AA (c : Cl) (i : Nat) (ca : CE) : CE := fun ρ S => (ca ρ S).bind fun p => zr c i p.1 p.2
open Classical in
noncomputable def tM (c : Cl) (i : Nat) (x v : U) (S : Sto) : Option Sto := match x with
 | .ref l => match S[l]? with
  | some (.ins c' fus) => if c' = c then some (S.set l (.ins c (fus.set i (some v)))) else none
  | _ => none
 | _ => none
noncomputable def zx (c : Cl) (i : Nat) (ca cv : CE) : CS := fun ρ S => (cv ρ S).bind fun p => (ca ρ p.2).bind fun q => (tM c i q.1 p.1 q.2).bind fun S' => some (.nx, ρ, S')
variable {e : Expr} {ca cv : CE} {pos : Pos} {f : Str} {i : Nat}
open Classical in
noncomputable def tN (c : Cl) (f : Fn) (x : U) (S : Sto) (args : Sto → Option (List U × Sto)) : Option (U × Sto) := match x with
 | .ref l => match S[l]? with
  | some (.ins c' _) => if c' = c then (args S).bind fun q => f (.ref l :: q.1) q.2 else none
  | _ => none
 | _ => none
noncomputable def zy (c : Cl) (f : Fn) (ca : CE) (cr : CA) : CE := fun ρ S => (ca ρ S).bind fun p => tN c f p.1 p.2 (cr ρ)
noncomputable def zA : CE := fun _ S => some (.ref S.length, S ++ [.dic []])
noncomputable def wZ (cd ck cx : CE) : CE := fun ρ S => (cd ρ S).bind fun p => match p.1 with
 | .ref l => match p.2[l]? with
  | some (.dic _) => (ck ρ p.2).bind fun q => (cx ρ q.2).bind fun r => match r.2[l]? with
   | some (.dic kus) => (eg q.1).bind fun k => some ((dI kus k).getD r.1, r.2)
   | _ => none
  | _ => none
 | _ => none
end
noncomputable def gc (n : Nat) (caps : List Nat) (ρ : Rho) : Rho := List.replicate n none ++ caps.map fun i => (ρ[i]?).getD none
open Classical in
noncomputable def dF (ok : Sto → Prop) (g : CG) (ce : CE) (l : Nat) : List U → Rho → Sto → Option Sto
 | [], _, S => if ok S then some S else none
 | u :: us, ρ, S => if ok S then (g u ρ S).bind fun p => (ce p.1 p.2).bind fun r => match r.2[l]? with
  | some (.lst ys) => if ys.length < LIM then dF ok g ce l us p.1 (r.2.set l (.lst (ys ++ [r.1]))) else none
  | _ => none else none
noncomputable def iJ (ci : CI) (g : CG) (ce : CE) (n : Nat) (caps : List Nat) : CE := fun ρ S => (ci ρ S).bind fun p => (dF p.2.1 g ce p.2.2.length p.1 (gc n caps ρ) (p.2.2 ++ [.lst []])).bind fun S' => some (.ref p.2.2.length, S')
section
variable {X : Cx} {K : PySem.W.Frag}
theorem m9 {m : List Addr} {H : Hp} {ρ : Rho} {σ : L2.St} {n : Nat} {caps : List Nat} (lr : Lr K m H ρ σ) : Lr K m H (gc n caps ρ) (OG.stC n caps σ) := by
 refine ⟨by simp [gc, OG.stC], fun j u e => ?_⟩
 unfold gc at e
 unfold OG.stC
 by_cases c : j < n
 ·rw [List.getElem?_append_left (by simpa using c), List.getElem?_replicate] at e
  split at e <;> cases e
 ·rw [List.getElem?_append_right (by simp; omega), List.getElem?_map] at e ⊢
  simp only [List.length_replicate] at e ⊢
  cases q : caps[j - n]? with
  | none => rw [q] at e; simp at e
  | some i =>
   rw [q] at e
   simp only [Option.map_some, Option.some.injEq] at e ⊢
   have e2 : ρ[i]? = some (some u) := by
    cases z : ρ[i]? with
    | none => rw [z] at e; simp at e
    | some y => rw [z] at e; simp at e; rw [e]
   obtain ⟨v, h1, h2⟩ := lr.at_ i u e2
   exact ⟨v, by rw [h1]; rfl, h2⟩
theorem iB {g : CG} {ce : CE} {n : Nat} {caps : List Nat} {J : It} {us : List U} {ok : Sto → Prop} {Q : VK} {m1 : List Addr} {H1 : Hp} {S1 S' : Sto} {ρ : Rho} {σ : L2.St} {l : Addr} (sr1 : Sr K m1 S1 H1) (lr : Lr K m1 H1 ρ σ) (ito : qj K J m1 H1 us ok) (hl : H1 l = none) (h2 : dF ok g ce S1.length us (gc n caps ρ) (S1 ++ [.lst []]) = some S')
  (post : ∀ m2 H2, Ext K (m1 ++ [l]) (upd H1 l (.lst [])) m2 H2 → Sr K m2 S' H2 → Q (.ref l) H2) :
  ∃ W : Nat → Nat → L2.St → Hp → Prop, (∃ m, W 0 m (OG.stC n caps σ) (upd H1 l (.lst []))) ∧
 ∀ i m σ' H2, W i m σ' H2 → (J.stop i H2 ∧ Q (.ref l) H2) ∨ (J.go i H2 ∧ ∃ N : L2.St → Hp → Prop, (∀ σ'' H', N σ'' H' → ∃ m', m' < m ∧ W (i + 1) m' σ'' H') ∧
  ∀ x H3, J.yld i H2 x H3 → tG K g x σ' H3 fun σ2 H4 => tE K ce σ2 H4 fun v H5 => ∃ ys, H5 l = some (.lst ys) ∧ ys.length < sizeLine ∧ N σ2 (upd H5 l (.lst (ys ++ [v])))) := by
 have ee : Ext K m1 H1 (m1 ++ [l]) (upd H1 l (.lst [])) := .new (aW hl _)
 let W : Nat → Nat → L2.St → Hp → Prop := fun i k σ2 H2 => k = us.length - i ∧ i ≤ us.length ∧ ∃ m2 ρ2 S2, Ext K (m1 ++ [l]) (upd H1 l (.lst [])) m2 H2 ∧ Sr K m2 S2 H2 ∧ Lr K m2 H2 ρ2 σ2 ∧ dF ok g ce S1.length (us.drop i) ρ2 S2 = some S'
 refine ⟨W, ⟨us.length, by simp, Nat.zero_le _, m1 ++ [l], gc n caps ρ, S1 ++ [.lst []], .refl, sr1.new (o := .lst []) hl ⟨[], aD, .nil_⟩, m9 (lr.mono ee), by simpa using h2⟩, ?_⟩
 rintro i k σ2 H2 ⟨rfl, hi, m2, ρ2, S2, e2, sr2, lr2, hl2⟩
 by_cases hlt : i < us.length
 ·have hu := List.getElem?_eq_getElem hlt
  rw [eX hu] at hl2
  unfold dF at hl2
  split at hl2
  ·rename_i hok
   obtain ⟨⟨ρ3, S3⟩, h3, hl2⟩ := Option.bind_eq_some_iff.mp hl2
   obtain ⟨⟨u4, S4⟩, h4, hl2⟩ := Option.bind_eq_some_iff.mp hl2
   simp only at hl2
   split at hl2 <;> try cases hl2
   rename_i ys hys
   split at hl2 <;> try cases hl2
   rename_i cH
   obtain ⟨hgo, hy⟩ := (ito m2 S2 H2 i (ee.trans e2) sr2 hok).1 _ hu
   refine .inr ⟨hgo, W (i + 1) (us.length - (i + 1)), fun σ' H' w' => ⟨_, by omega, w'⟩, fun x H3 y => ?_⟩
   obtain ⟨e3, sr3, ix⟩ := hy x H3 y
   refine ⟨m2, ρ2, S2, _, ρ3, S3, sr3, lr2.mono e3, ix, h3, fun m4 σ4 H4 e4 sr4 lr4 => ⟨m4, ρ3, S3, u4, S4, sr4, lr4, h4, fun m5 v5 H5 e5 sr5 i5 => ?_⟩⟩
   obtain ⟨a', ha', xs, hx, il⟩ := sr5.get hys
   have ha : m5[S1.length]? = some l := (((e2.trans e3).trans e4).trans e5).get (bQ sr1.len)
   rw [ha] at ha'; cases ha'
   have eu : Ext K m5 H5 m5 (upd H5 l (.lst (xs ++ [v5]))) := .of (sr5.keep ha _)
   refine ⟨xs, hx, wm (by rw [il.length]; exact cH), rfl, hlt, m5, ρ3, _, ((((e2.trans e3).trans e4).trans e5).trans eu), sr5.put (o := .lst (ys ++ [u4])) ha ⟨_, aD, (il.append (.cons_ i5 .nil_)).mono eu⟩, (lr4.mono (e5.trans eu)), hl2⟩
  ·cases hl2
 ·have e : i = us.length := by omega
  subst e
  rw [List.drop_length] at hl2
  unfold dF at hl2
  split at hl2
  ·rename_i hok
   cases hl2
   exact .inl ⟨(ito m2 _ H2 _ (ee.trans e2) sr2 hok).2 (Nat.le_refl _), post m2 H2 e2 sr2⟩
  ·cases hl2
theorem p5 {ci : CI} {g : CG} {ce : CE} {n : Nat} {caps : List Nat} : ∀ σ H Q, tE K (iJ ci g ce n caps) σ H Q → si (tI K ci) (tG K g) (tE K ce) n caps σ H Q := by
 rintro σ H Q ⟨m, ρ, S, u, S', sr, lr, hc, post⟩
 obtain ⟨⟨us, ok, S1⟩, h1, h2⟩ := Option.bind_eq_some_iff.mp hc
 obtain ⟨S2, h2, h3⟩ := Option.bind_eq_some_iff.mp h2
 cases h3
 refine ⟨m, ρ, S, us, ok, S1, sr, lr, h1, fun m1 H1 J e1 sr1 ito l hl => ?_⟩
 have ee : Ext K m1 H1 (m1 ++ [l]) (upd H1 l (.lst [])) := .new (aW hl _)
 exact iB sr1 (lr.mono e1) ito hl h2 fun m2 H2 e2 sr2 => post m2 _ H2 ((e1.trans ee).trans e2) sr2 (.ref_ (e2.get (bQ sr1.len)))
theorem qz {Nc capN tn : List Str} {scope : Scope} {cl : List (Str × Addr)} {n : Nat} {caps : List Nat} {tg iter elt : Expr} {pos : Pos} {ci : CI} {g : CG} {ce : CE}
  (hc : X.calm = true) (hi : QI X tg iter ci) (hg : ∀ s3 H3 fp, WG (cxC X Nc scope cl s3 H3 fp) tg (tG X.K g)) (he : ∀ s3 H3 fp, WE (cxC X Nc scope cl s3 H3 fp) elt (tE X.K ce))
  (hclos : closureFor scope X.env = pure cl) (hkind : scope.kind = .function) (hnl : ∀ x ∈ scope.names, x.2 = .local → scope.names.lookup x.1 = some .local) (hcell : ∀ x ∈ scope.names, x.2 ≠ .cell)
  (hcl : kE X.env cl) (hhas : ((relabel scope X.env).names.all fun p => !(p.2 == .cell || p.2 == .free) || (cl.lookup p.1).isSome) = true)
  (hcap : Paired (Cap X scope cl) caps capN) (hN : Nc = tn ++ capN) (hn : tn.length = n)
  (hs : ∀ x, foldedSetIterable iter X.env x = pure x := by intro _; rfl) :
  QE X (.ListComp elt [⟨tg, iter, [], 0⟩] scope pos) (iJ ci g ce n caps) := (jN hc hi hg he hclos hkind hnl hcell hcl hhas hcap hN hn hs).imp p5
noncomputable def lC : Fn
 | [.tup us], S => some (.int us.length, S)
 | [.ref l], S => match S[l]? with
  | some (.lst us) => some (.int us.length, S)
  | some (.dic us) => some (.int us.length, S)
  | _ => none
 | [.kl ns], S => some (.int ns.length, S)
 | _, _ => none
noncomputable abbrev zP (K : PySem.W.Frag) : List V → Hp → VK → Prop := fun xs H Q => (∃ p ys, xs = [.ref p] ∧ (SqL K H p ys ∨ SqT K H p ys) ∧ Q (.int ys.length) H) ∨ ∃ a kvs, xs = [V.ref a] ∧ H a = some (.dK kvs) ∧ Q (.int kvs.length) H
theorem mW : bX X (.builtin "len") (zP X.K) := iG.or nV
theorem IsL.one {m : List Addr} {H : Hp} {vs : List V} {u : U} (h : IsL K m H vs [u]) : ∃ v, vs = [v] ∧ Is K m H v u := by
 obtain ⟨x, r, rfl, i, t⟩ := h.of_cons
 rw [t.of_nil]; exact ⟨x, rfl, i⟩
theorem IsL.two {m : List Addr} {H : Hp} {vs : List V} {u w : U} (h : IsL K m H vs [u, w]) : ∃ v x, vs = [v, x] ∧ Is K m H v u ∧ Is K m H x w := by
 obtain ⟨x, r, rfl, i, t⟩ := h.of_cons
 obtain ⟨y, rfl, j⟩ := t.one
 exact ⟨x, y, rfl, i, j⟩
theorem mO : fg K (zP K) lC := by
 intro m S H us vs u S' Q sr i hf post
 match us, hf with
 | [.tup ws], hf =>
  cases hf
  obtain ⟨v, rfl, iv⟩ := i.one
  obtain ⟨a, xs, rfl, sa, la⟩ := iv.of_tup
  exact .inl ⟨a, xs, rfl, .inr sa, by rw [la.length]; exact post m _ H .refl sr .int_⟩
 | [.ref l], hf =>
  obtain ⟨v, rfl, iv⟩ := i.one
  obtain ⟨a, ha, rfl⟩ := iv.of_ref
  simp only [lC] at hf
  split at hf <;> try cases hf
  ·rename_i ws hS
   obtain ⟨a', ha', xs, hx, la⟩ := sr.get hS
   rw [ha] at ha'; cases ha'
   exact .inl ⟨a, xs, rfl, .inl (SqL.of hx), by rw [la.length]; exact post m _ H .refl sr .int_⟩
  ·rename_i ws hS
   obtain ⟨a', ha', xs, hx, la⟩ := sr.get hS
   rw [ha] at ha'; cases ha'
   exact .inr ⟨a, xs, rfl, hx, by rw [IsP.length la]; exact post m _ H .refl sr .int_⟩
 | [.kl ns], hf =>
  cases hf
  obtain ⟨v, rfl, iv⟩ := i.one
  obtain ⟨a, rfl, ka⟩ := iv.of_kl
  exact .inl ⟨a, _, rfl, .inl ka.sq, by rw [List.length_map]; exact post m _ H .refl sr .int_⟩
noncomputable def lB : Fn
 | [.tup us], S => some (.ref S.length, S ++ [.lst us])
 | [.ref l], S => match S[l]? with
  | some (.lst us) => some (.ref S.length, S ++ [.lst us])
  | _ => none
 | _, _ => none
theorem vZ : fg K (fun xs H Q => ∃ p ys, xs = [.ref p] ∧ (SqL K H p ys ∨ SqT K H p ys) ∧ ∀ l, H l = none → Q (.ref l) (upd H l (.lst ys))) lB := by
 intro m S H us vs u S' Q sr i hf post
 match us, hf with
 | [.tup ws], hf =>
  cases hf
  obtain ⟨v, rfl, iv⟩ := i.one
  obtain ⟨a, xs, rfl, sa, la⟩ := iv.of_tup
  exact ⟨a, xs, rfl, .inr sa, fun l hl => cq sr la post hl⟩
 | [.ref l], hf =>
  obtain ⟨v, rfl, iv⟩ := i.one
  obtain ⟨a, ha, rfl⟩ := iv.of_ref
  simp only [lB] at hf
  split at hf <;> try cases hf
  rename_i ws hS
  obtain ⟨a', ha', xs, hx, la⟩ := sr.get hS
  rw [ha] at ha'; cases ha'
  exact ⟨a, xs, rfl, .inl (SqL.of hx), fun l hl => cq sr la post hl⟩
noncomputable def cP : Fn
 | [.tup us], S => some (.tup us, S)
 | [.ref l], S => match S[l]? with
  | some (.lst us) => some (.tup us, S)
  | _ => none
 | _, _ => none
theorem gq : fg K (fun xs H Q => ∃ p ys, xs = [.ref p] ∧ ((SqL K H p ys ∧ ∀ l, H l = none → Q (.ref l) (upd H l (.tup ys))) ∨ (SqT K H p ys ∧ Q (.ref p) H))) cP := by
 intro m S H us vs u S' Q sr i hf post
 match us, hf with
 | [.tup ws], hf =>
  cases hf
  obtain ⟨v, rfl, iv⟩ := i.one
  obtain ⟨a, xs, rfl, sa, la⟩ := iv.of_tup
  exact ⟨a, xs, rfl, .inr ⟨sa, post m _ H .refl sr iv⟩⟩
 | [.ref l], hf =>
  obtain ⟨v, rfl, iv⟩ := i.one
  obtain ⟨a, ha, rfl⟩ := iv.of_ref
  simp only [cP] at hf
  split at hf <;> try cases hf
  rename_i ws hS
  obtain ⟨a', ha', xs, hx, la⟩ := sr.get hS
  rw [ha] at ha'; cases ha'
  exact ⟨a, xs, rfl, .inl ⟨SqL.of hx, fun l hl => gm sr la post hl⟩⟩
noncomputable def wQ : Fn
 | [.int i], S => some (.int i, S)
 | [.bl b], S => some (.int (if b then 1 else 0), S)
 | _, _ => none
theorem v7 : fg K (fun xs H Q => (∃ i, xs = [.int i] ∧ Q (.int i) H) ∨ ∃ k, xs = [.bl k] ∧ Q (.int (if k then 1 else 0)) H) wQ := by
 intro m S H us vs u S' Q sr i hf post
 match us, hf with
 | [.int j], hf =>
  cases hf
  obtain ⟨v, rfl, iv⟩ := i.one
  exact .inl ⟨j, by rw [iv.of_int], post m _ H .refl sr .int_⟩
 | [.bl j], hf =>
  cases hf
  obtain ⟨v, rfl, iv⟩ := i.one
  exact .inr ⟨j, by rw [iv.of_bl], post m _ H .refl sr .int_⟩
noncomputable def xw : Fn
 | [.int i, .int j], S => some (.int (if j < i then j else i), S)
 | _, _ => none
theorem yZ : fg K (fun xs H Q => ∃ i j, xs = [.int i, .int j] ∧ Q (.int (if j < i then j else i)) H) xw := by
 intro m S H us vs u S' Q sr i hf post
 match us, hf with
 | [.int j, .int k], hf =>
  cases hf
  obtain ⟨v, w, rfl, iv, iw⟩ := i.two
  exact ⟨j, k, by rw [iv.of_int, iw.of_int], post m _ H .refl sr .int_⟩
noncomputable def xx : Fn
 | [.int i, .int j], S => some (.int (if j > i then j else i), S)
 | _, _ => none
theorem y0 : fg K (fun xs H Q => ∃ i j, xs = [.int i, .int j] ∧ Q (.int (if j > i then j else i)) H) xx := by
 intro m S H us vs u S' Q sr i hf post
 match us, hf with
 | [.int j, .int k], hf =>
  cases hf
  obtain ⟨v, w, rfl, iv, iw⟩ := i.two
  exact ⟨j, k, by rw [iv.of_int, iw.of_int], post m _ H .refl sr .int_⟩
noncomputable def jg : List U → Option (List Int)
 | [] => some []
 | .int i :: r => (jg r).map (i :: ·)
 | _ => none
noncomputable def ub : List U → Option (List Bool)
 | [] => some []
 | .bl i :: r => (ub r).map (i :: ·)
 | _ => none
theorem gB : ∀ {us : List U} {ns : List Int}, jg us = some ns → us = ns.map U.int
 | [], ns, h => by cases h; rfl
 | u :: r, ns, h => by
  cases u <;> simp only [jg] at h <;> try cases h
  obtain ⟨ms, e, h⟩ := Option.map_eq_some_iff.mp h
  subst h
  rw [gB e]; rfl
theorem eR : ∀ (ns : List Int), jg (ns.map U.int) = some ns
 | [] => rfl
 | n :: r => by simp [jg, eR r]
theorem n9 : ∀ {us : List U} {ns : List Bool}, ub us = some ns → us = ns.map U.bl
 | [], ns, h => by cases h; rfl
 | u :: r, ns, h => by
  cases u <;> simp only [ub] at h <;> try cases h
  obtain ⟨ms, e, h⟩ := Option.map_eq_some_iff.mp h
  subst h
  rw [n9 e]; rfl
theorem kA : ∀ (ns : List Bool), ub (ns.map U.bl) = some ns
 | [] => rfl
 | n :: r => by simp [ub, kA r]
theorem IsL.ints {m : List Addr} {H : Hp} : ∀ {xs : List V} {ns : List Int}, IsL K m H xs (ns.map U.int) → xs = ns.map V.int
 | xs, [], h => h.of_nil
 | xs, n :: ns, h => by
  obtain ⟨x, r, rfl, i, t⟩ := h.of_cons
  rw [IsL.ints t, i.of_int]; rfl
theorem IsL.bls {m : List Addr} {H : Hp} : ∀ {xs : List V} {ns : List Bool}, IsL K m H xs (ns.map U.bl) → xs = ns.map V.bl
 | xs, [], h => h.of_nil
 | xs, n :: ns, h => by
  obtain ⟨x, r, rfl, i, t⟩ := h.of_cons
  rw [IsL.bls t, i.of_bl]; rfl
theorem gy {m : List Addr} {H : Hp} : ∀ (ns : List Int), IsL K m H (ns.map V.int) (ns.map U.int)
 | [] => .nil_
 | n :: ns => .cons_ .int_ (gy ns)
noncomputable def wR : Fn
 | [.ref l], S => match S[l]? with
  | some (.lst us) => (ub us).bind fun bs => some (.bl (bs.all id), S)
  | _ => none
 | _, _ => none
theorem y1 : fg K (fun xs H Q => ∃ (p : Addr) (bs : List Bool), xs = [.ref p] ∧ SqL K H p (bs.map V.bl) ∧ Q (.bl (bs.all id)) H) wR := by
 intro m S H us vs u S' Q sr i hf post
 match us, hf with
 | [.ref l], hf =>
  obtain ⟨v, rfl, iv⟩ := i.one
  obtain ⟨a, ha, rfl⟩ := iv.of_ref
  simp only [wR] at hf
  split at hf <;> try cases hf
  rename_i ws hS
  obtain ⟨bs, hb, h⟩ := Option.bind_eq_some_iff.mp hf
  cases h
  obtain ⟨a', ha', xs, hx, la⟩ := sr.get hS
  rw [ha] at ha'; cases ha'
  rw [n9 hb] at la
  rw [la.bls] at hx
  exact ⟨a, bs, rfl, SqL.of hx, post m _ H .refl sr .bl_⟩
inductive Ty where
 | non | bool | int | str | tuple | list | dict
noncomputable def Ty.nm : Ty → String
 | .non => "NoneType" | .bool => "bool" | .int => "int" | .str => "str" | .tuple => "tuple" | .list => "list" | .dict => "dict"
noncomputable def tyU : U → Sto → Option Ty
 | .non, _ => some .non | .bl _, _ => some .bool | .int _, _ => some .int | .str _, _ => some .str | .tup _, _ => some .tuple
 | .ref l, S => match S[l]? with
  | some (.lst _) => some .list
  | some (.dic _) => some .dict
  | _ => none
 | .kl _, _ => none
noncomputable def qp : Ty → Ty → Bool
 | .non, .non => true | .bool, .bool => true | .bool, .int => true | .int, .int => true | .str, .str => true | .tuple, .tuple => true | .list, .list => true | .dict, .dict => true
 | _, _ => false
theorem eO (a b : Ty) (hb : b ≠ .non) : PySem.W.kitOne K (.type a.nm) (.type b.nm) = some (qp a b) := by
 cases b <;> first | exact absurd rfl hb | (cases a <;> rfl)
noncomputable abbrev Aw (K : PySem.W.Frag) : List V → Hp → VK → Prop := fun xs H Q => (∃ (x : V) (T : String) (t : Value) (k : Bool), xs = [x, .ty T] ∧ kB K H x t ∧ PySem.W.kitOne K t (.type T) = some k ∧ Q (.bl k) H) ∨
 ∃ (a : Addr) (ys : List V) (T : String) (k : Bool), xs = [.ref a, .ty T] ∧ SqT K H a ys ∧ PySem.W.kitOne K (.type "tuple") (.type T) = some k ∧ Q (.bl k) H
theorem y2 : bX X (.builtin "isinstance") (Aw X.K) := by
 refine jA.or ?_
 rintro pins s σ H xs us Q I r ⟨a, ys, T, k, rfl, sq, e, q⟩
 obtain ⟨u, w', rfl, ru, rw'⟩ := oV r
 cases rw'
 cases ru
 obtain ⟨its, rv, ht, hz⟩ := I.tuple sq
 obtain ⟨o, h1, h2, _⟩ := ht
 exact PySem.W.kia_one PySem.W.kitx_tuple I.kIn ⟨o, h1, h2⟩ e (fun z => nomatch z) fun tk => ⟨.bl k, H, I.tok tk, rfl, q⟩
noncomputable def wX (T : Ty) (ca : CE) : CE := fun ρ S => (ca ρ S).bind fun p => (tyU p.1 p.2).bind fun t => some (.bl (qp t T), p.2)
theorem sC {T : Ty} {e eT : Expr} {ca : CE} {p pos : Pos} (hT0 : T ≠ .non) (he : QE X e ca) (hT : WE X eT (tC (.ty T.nm))) (hg : Gl X "isinstance") (hm : X.mg "isinstance" = none)
  (h1 : starEach [e, eT] X.env = (false, eval e X.env) :: starEach [eT] X.env := by rfl) (h2 : starEach [eT] X.env = (false, eval eT X.env) :: starEach [] X.env := by rfl) (hpl : (backTo pos (starEach [eT] X.env)).any (·.1) = false := by rfl) :
  QE X (.Call (.Name "isinstance" p) [e, eT] [] pos) (wX T ca) := (gO y2 hg hm OG.fe (fQ he (fQ hT mh h2) h1) (by decide) (by decide) h1 hpl).imp fun σ H Q hz => eV hz fun m ρ S u S' sr lr hc post => by
 obtain ⟨⟨x, S1⟩, h1, h2⟩ := Option.bind_eq_some_iff.mp hc
 obtain ⟨t, ht, h3⟩ := Option.bind_eq_some_iff.mp h2
 cases h3
 refine ⟨m, ρ, S, x, _, sr, lr, h1, fun m1 v1 H1 e1 sr1 i1 => ?_⟩
 have fin := post m1 _ H1 e1 sr1 (Is.bl_ (b := qp t T))
 cases x with
 | non => cases ht; rw [i1.of_non]; exact .inl ⟨_, _, _, _, rfl, .non, eO .non T hT0, fin⟩
 | bl b => cases ht; rw [i1.of_bl]; exact .inl ⟨_, _, _, _, rfl, .bl b, eO .bool T hT0, fin⟩
 | int i => cases ht; rw [i1.of_int]; exact .inl ⟨_, _, _, _, rfl, .int i, eO .int T hT0, fin⟩
 | str i => cases ht; rw [i1.of_str]; exact .inl ⟨_, _, _, _, rfl, .str i, eO .str T hT0, fin⟩
 | tup us =>
  cases ht
  obtain ⟨a, xs, rfl, sa, la⟩ := i1.of_tup
  exact .inr ⟨a, xs, _, _, rfl, sa, eO .tuple T hT0, fin⟩
 | ref l =>
  obtain ⟨a, ha, rfl⟩ := i1.of_ref
  simp only [tyU] at ht
  split at ht <;> try cases ht
  ·rename_i ws hS
   obtain ⟨a', ha', xs, hx, la⟩ := sr1.get hS
   rw [ha] at ha'; cases ha'
   exact .inl ⟨_, _, _, _, rfl, .lst hx, eO .list T hT0, fin⟩
  ·rename_i ws hS
   obtain ⟨a', ha', xs, hx, la⟩ := sr1.get hS
   rw [ha] at ha'; cases ha'
   exact .inl ⟨_, _, _, _, rfl, .dK hx, eO .dict T hT0, fin⟩
 | kl ns => cases ht
noncomputable def cBM (f : U → List U → Sto → Option (U × Sto)) (co : CE) (cr : CA) : CE := fun ρ S => (co ρ S).bind fun p => match p.1 with
 | .ref l => match p.2[l]? with
  | some (.lst _) => (cr ρ p.2).bind fun q => f p.1 q.1 q.2
  | _ => none
 | _ => none
noncomputable def MtP (K : PySem.W.Frag) (r : V → List V → Hp → VK → Prop) (f : U → List U → Sto → Option (U × Sto)) : Prop :=
 ∀ m S H x v us vs u S' Q, Sr K m S H → Is K m H v x → IsL K m H vs us → f x us S = some (u, S') → dG K m H Q u S' → r v vs H Q
theorem n8 {r : V → List V → Hp → VK → Prop} {f : U → List U → Sto → Option (U × Sto)} {co : CE} {cr : CA} (hp : MtP K r f) : ∀ σ H Q, tE K (cBM f co cr) σ H Q → tBM K "list" r (tE K co) (tA K cr) σ H Q := by
 rintro σ H Q ⟨m, ρ, S, u, S', sr, lr, hc, post⟩
 obtain ⟨⟨x, S1⟩, h1, h2⟩ := Option.bind_eq_some_iff.mp hc
 refine ⟨m, ρ, S, x, S1, sr, lr, h1, fun m1 v1 H1 e1 sr1 i1 => ?_⟩
 cases x with
 | ref l =>
  simp only at h2
  split at h2 <;> try cases h2
  rename_i ws hS
  obtain ⟨⟨us, S2⟩, h3, h4⟩ := Option.bind_eq_some_iff.mp h2
  obtain ⟨a, ha, rfl⟩ := id i1.of_ref
  obtain ⟨a', ha', xs, hx, la⟩ := sr1.get hS
  rw [ha] at ha'; cases ha'
  exact ⟨.inl ⟨rfl, xs, SqL.of hx⟩, m1, ρ, S1, us, S2, sr1, lr.mono e1, h3, fun m2 vs H2 e2 sr2 i2 => hp m2 S2 H2 _ _ us vs u S' Q sr2 (i1.mono e2) i2 h4 (post.mono (e1.trans e2))⟩
 | _ => simp at h2
noncomputable def cL : U → List U → Sto → Option (U × Sto)
 | .ref l, [u], S => match S[l]? with
  | some (.lst us) => if us.length < LIM then some (.non, S.set l (.lst (us ++ [u]))) else none
  | _ => none
 | _, _, _ => none
theorem pG : MtP K mH cL := by
 intro m S H x v us vs u S' Q sr ix i hf post
 match x, us, hf with
 | .ref l, [w], hf =>
  simp only [cL] at hf
  split at hf <;> try cases hf
  rename_i ws hS
  split at hf <;> try cases hf
  rename_i hl
  obtain ⟨a, ha, rfl⟩ := ix.of_ref
  obtain ⟨a', ha', xs, hx, la⟩ := sr.get hS
  rw [ha] at ha'; cases ha'
  obtain ⟨y, rfl, iy⟩ := i.one
  have eu : Ext K m H m (upd H a (.lst (xs ++ [y]))) := .of (sr.keep ha _)
  exact ⟨a, xs, y, rfl, rfl, hx, wm (by rw [la.length]; exact hl), post m _ _ eu (sr.put ha ⟨_, aD, (la.append (.cons_ iy .nil_)).mono eu⟩) .non_⟩
variable {e : Expr} {es : List Expr} {co : CE} {cr : CA} {o : Expr} {apos cpos : Pos}
theorem d9 (ho : QE X o co) (ha : QA X (e :: es) cr) (hbase : attributeBase o "append" X.env (eval o X.env) = eval o X.env := by rfl) (hfew : ((backTo cpos (starEach (e :: es) X.env)).all (fun x => !x.1) && (backToKw cpos (keywordEach [] X.env)).all (fun x => x.1.isSome)
   && decide ((e :: es).length + ([] : List Keyword).length + (if ([] : List Keyword).isEmpty then 0 else 1) < 30)) = true := by rfl) (hline : (apos.endLine == cpos.line) = true := by rfl) (hs : starEach (e :: es) X.env = (false, eval e X.env) :: starEach es X.env := by rfl) (hplain : (backTo cpos (starEach es X.env)).any (·.1) = false := by rfl) :
  QE X (.Call (.Attribute o "append" apos) (e :: es) [] cpos) (cBM cL co cr) := (me PySem.F.plainAttrs_list PySem.F.slot_list_append PySem.F.type_list_append eJ ho ha.h hbase hfew hline hs hplain).imp (n8 pG)
end
section
variable {X : Cx} {pos : Pos}
noncomputable def eI : List (CE × CE) → Rho → Sto → Option (List (Key × U) × Sto)
 | [], _, S => some ([], S)
 | (ck, cv) :: r, ρ, S => (ck ρ S).bind fun p => (cv ρ p.2).bind fun q => (eg p.1).bind fun k => (eI r ρ q.2).bind fun z => some ((k, q.1) :: z.1, z.2)
noncomputable def wj (kus : List (Key × U)) (au : List (Key × U)) : List (Key × U) := kus.foldl (fun acc kv => ed acc kv.1 kv.2) au
noncomputable def mX (kus : List (Key × U)) : List (Key × U) := wj kus []
noncomputable def wY (prs : List (CE × CE)) : CE := fun ρ S => (eI prs ρ (S ++ [.dic []])).bind fun q => match q.2[S.length]? with
 | some (.dic []) => some (.ref S.length, q.2.set S.length (.dic (mX q.1)))
 | _ => none
end
theorem dn : ∀ {ns : List Int} {vs : List Value}, aQ (ns.map V.int) vs → IntsAre vs ns
 | [], _, h => by cases h; exact .nil
 | n :: ns, _, .cons r t => by
  obtain ⟨k, rfl⟩ := r
  exact .cons n k (dn t)
section
variable {ρ : Rho} {S : Sto} {c1 c2 : CS} {t ta tb : CT} {ca cb cc : CE} {cr : CA} {u x y : U} {us : List U} {i l : Nat} {f g : U → U → Sto → Option (U × Sto)} {b : Bool}
noncomputable def zS (S : Sto) : Option (Option U) → Option (U × Sto)
 | some (some u) => some (u, S)
 | _ => none
theorem qT : ag i ρ S = zS S (ρ[i]?) := rfl
theorem lN : zS S (some (some u)) = some (u, S) := rfl
theorem x_c : cC u ρ S = some (u, S) := rfl
noncomputable def zb (f : U → U → Sto → Option (U × Sto)) (x : U) (q : U × Sto) := f x q.1 q.2
noncomputable def zX (f : U → U → Sto → Option (U × Sto)) (cb : CE) (ρ : Rho) (p : U × Sto) := (cb ρ p.2).bind (zb f p.1)
theorem xT : cOp f ca cb ρ S = (ca ρ S).bind (zX f cb ρ) := rfl
theorem qW : zX f cb ρ (x, S) = (cb ρ S).bind (zb f x) := rfl
theorem qV : zb f x (y, S) = f x y S := rfl
noncomputable def wz : U × Sto → Option (Bool × Sto)
 | (.bl b, S) => some (b, S)
 | _ => none
theorem lO : bj ca ρ S = (ca ρ S).bind wz := by
 unfold bj; congr 1; funext p; obtain ⟨u, S⟩ := p; cases u <;> rfl
theorem iV : wz (.bl b, S) = some (b, S) := rfl
noncomputable def zl (tb : CT) (ρ : Rho) (p : Bool × Sto) := if p.1 = true then tb ρ p.2 else some (false, p.2)
noncomputable def kOr (tb : CT) (ρ : Rho) (p : Bool × Sto) := if p.1 = true then some (true, p.2) else tb ρ p.2
noncomputable def zY (p : Bool × Sto) : Option (Bool × Sto) := some (!p.1, p.2)
theorem yA : xA ta tb ρ S = (ta ρ S).bind (zl tb ρ) := rfl
theorem uS : zl tb ρ (true, S) = tb ρ S := rfl
theorem uR : zl tb ρ (false, S) = some (false, S) := rfl
theorem Ah : cOr ta tb ρ S = (ta ρ S).bind (kOr tb ρ) := rfl
theorem xS : kOr tb ρ (true, S) = some (true, S) := rfl
theorem xR : kOr tb ρ (false, S) = tb ρ S := rfl
theorem xU : xy ta ρ S = (ta ρ S).bind zY := rfl
theorem uw : zY (b, S) = some (!b, S) := rfl
noncomputable def tD (cb : CE) (ρ : Rho) : U × Sto → Option (U × Sto)
 | (.bl true, S) => cb ρ S
 | (.bl false, S) => some (.bl false, S)
 | _ => none
noncomputable def za (cb : CE) (ρ : Rho) : U × Sto → Option (U × Sto)
 | (.bl false, S) => cb ρ S
 | (.bl true, S) => some (.bl true, S)
 | _ => none
noncomputable def wC : U × Sto → Option (U × Sto)
 | (.bl b, S) => some (.bl (!b), S)
 | _ => none
theorem uQ : nZ ca cb ρ S = (ca ρ S).bind (tD cb ρ) := by
 unfold nZ; congr 1; funext p; obtain ⟨u, S⟩ := p; cases u with
 | bl b => cases b <;> rfl
 | _ => rfl
theorem rz : tD cb ρ (.bl true, S) = cb ρ S := rfl
theorem rq : tD cb ρ (.bl false, S) = some (.bl false, S) := rfl
theorem xQ : z9 ca cb ρ S = (ca ρ S).bind (za cb ρ) := by
 unfold z9; congr 1; funext p; obtain ⟨u, S⟩ := p; cases u with
 | bl b => cases b <;> rfl
 | _ => rfl
theorem uu : za cb ρ (.bl false, S) = cb ρ S := rfl
theorem ur : za cb ρ (.bl true, S) = some (.bl true, S) := rfl
theorem uv : p9 ca ρ S = (ca ρ S).bind wC := by
 unfold p9; congr 1; funext p; obtain ⟨u, S⟩ := p; cases u <;> rfl
theorem qX : wC (.bl b, S) = some (.bl (!b), S) := rfl
noncomputable def nu (u : U) (q : List U × Sto) : Option (List U × Sto) := some (u :: q.1, q.2)
noncomputable def qE (cr : CA) (ρ : Rho) (p : U × Sto) := (cr ρ p.2).bind (nu p.1)
theorem qY : aA ρ S = some ([], S) := rfl
theorem lR : aa ca cr ρ S = (ca ρ S).bind (qE cr ρ) := rfl
theorem iZ : qE cr ρ (u, S) = (cr ρ S).bind (nu u) := rfl
theorem iY : nu u (us, S) = some (u :: us, S) := rfl
noncomputable def zT (p : List U × Sto) : Option (U × Sto) := some (.tup p.1, p.2)
noncomputable def zZ (p : List U × Sto) : Option (U × Sto) := some (.ref p.2.length, p.2 ++ [.lst p.1])
theorem xE : gK cr ρ S = (cr ρ S).bind zT := rfl
theorem uh : zT (us, S) = some (.tup us, S) := rfl
theorem xZ : dY cr ρ S = (cr ρ S).bind zZ := rfl
theorem uy : zZ (us, S) = some (.ref S.length, S ++ [.lst us]) := rfl
noncomputable def kCB (f : Fn) (p : List U × Sto) := f p.1 p.2
theorem yu {f : Fn} : cCB f cr ρ S = (cr ρ S).bind (kCB f) := rfl
theorem rp {f : Fn} : kCB f (us, S) = f us S := rfl
noncomputable def z0 (T : Ty) (p : U × Sto) : Option (U × Sto) := (tyU p.1 p.2).bind fun t => some (.bl (qp t T), p.2)
theorem ya {T : Ty} : wX T ca ρ S = (ca ρ S).bind (z0 T) := rfl
theorem uG {T : Ty} : z0 T (u, S) = (tyU u S).bind fun t => some (.bl (qp t T), S) := rfl
noncomputable def wA (c2 : CS) : Out × Rho × Sto → Option (Out × Rho × Sto)
 | (.nx, ρ, S) => c2 ρ S
 | (o, ρ, S) => some (o, ρ, S)
theorem qk : gH ρ S = some (.nx, ρ, S) := rfl
theorem kF : bS c1 c2 ρ S = (c1 ρ S).bind (wA c2) := by
 unfold bS; congr 1; funext p; obtain ⟨o, ρ, S⟩ := p; cases o <;> rfl
theorem ft : wA c2 (.nx, ρ, S) = c2 ρ S := rfl
theorem uo : wA c2 (.rt u, ρ, S) = some (.rt u, ρ, S) := rfl
theorem um : wA c2 (.bk, ρ, S) = some (.bk, ρ, S) := rfl
theorem uk : wA c2 (.ct, ρ, S) = some (.ct, ρ, S) := rfl
noncomputable def wD (ρ : Rho) (p : U × Sto) : Option (Out × Rho × Sto) := some (.nx, ρ, p.2)
noncomputable def zW (ρ : Rho) (p : U × Sto) : Option (Out × Rho × Sto) := some (.rt p.1, ρ, p.2)
theorem uK : lG ca ρ S = (ca ρ S).bind (wD ρ) := rfl
theorem rl : wD ρ (u, S) = some (.nx, ρ, S) := rfl
theorem xP : iI ca ρ S = (ca ρ S).bind (zW ρ) := rfl
theorem uq : zW ρ (u, S) = some (.rt u, ρ, S) := rfl
noncomputable def zd (c1 c2 : CS) (ρ : Rho) (p : Bool × Sto) := if p.1 = true then c1 ρ p.2 else c2 ρ p.2
theorem lQ : qb t c1 c2 ρ S = (t ρ S).bind (zd c1 c2 ρ) := rfl
theorem jJ : zd c1 c2 ρ (true, S) = c1 ρ S := rfl
theorem jI : zd c1 c2 ρ (false, S) = c2 ρ S := rfl
noncomputable def kIf (ca cb : CE) (ρ : Rho) (p : Bool × Sto) := if p.1 = true then ca ρ p.2 else cb ρ p.2
theorem Aj : cIf t ca cb ρ S = (t ρ S).bind (kIf ca cb ρ) := rfl
theorem ye : kIf ca cb ρ (true, S) = ca ρ S := rfl
theorem yd : kIf ca cb ρ (false, S) = cb ρ S := rfl
noncomputable def zU (i : Nat) (ρ : Rho) (p : U × Sto) : Option (Out × Rho × Sto) := some (.nx, ρ.set i (some p.1), p.2)
theorem iW : cI i ca ρ S = (ca ρ S).bind (zU i ρ) := rfl
theorem eB : zU i ρ (u, S) = some (.nx, ρ.set i (some u), S) := rfl
noncomputable def tx (q : Rho × Sto) : Option (Out × Rho × Sto) := some (.nx, q.1, q.2)
noncomputable def z3 (g : CG) (ρ : Rho) (p : U × Sto) := (g p.1 ρ p.2).bind tx
theorem yy {g : CG} : AB ca g ρ S = (ca ρ S).bind (z3 g ρ) := rfl
theorem uP {g : CG} : z3 g ρ (u, S) = (g u ρ S).bind tx := rfl
theorem uO : tx (ρ, S) = some (.nx, ρ, S) := rfl
theorem yg : gNm i u ρ S = some (ρ.set i (some u), S) := rfl
theorem yf {is : List Nat} : gTp is (.tup us) ρ S = (cM is us ρ).bind fun ρ' => some (ρ', S) := rfl
theorem uU : cM [] [] ρ = some ρ := rfl
theorem uT {is : List Nat} : cM (i :: is) (u :: us) ρ = cM is us (ρ.set i (some u)) := rfl
noncomputable def wB (ρ : Rho) (S' : Sto) : Option (Out × Rho × Sto) := some (.nx, ρ, S')
noncomputable def y8 (o v : U) (ρ : Rho) (r : U × Sto) := (eU o r.1 v r.2).bind (wB ρ)
noncomputable def y9 (ci : CE) (v : U) (ρ : Rho) (q : U × Sto) := (ci ρ q.2).bind (y8 q.1 v ρ)
noncomputable def kSI (co ci : CE) (ρ : Rho) (p : U × Sto) := (co ρ p.2).bind (y9 ci p.1 ρ)
theorem Ab : nX ca cb cc ρ S = (cc ρ S).bind (kSI ca cb ρ) := rfl
theorem xK : kSI ca cb ρ (u, S) = (ca ρ S).bind (y9 cb u ρ) := rfl
theorem xJ : y9 cb y ρ (u, S) = (cb ρ S).bind (y8 u y ρ) := rfl
theorem xI : y8 x y ρ (u, S) = (eU x u y S).bind (wB ρ) := rfl
theorem xH : wB ρ S = some (.nx, ρ, S) := rfl
noncomputable def kIx (y : U) (S : Sto) : Option O → Option (U × Sto)
 | some (.lst us) => (match y with
   | .int i => (atI us i).bind fun u => some (u, S)
   | _ => none)
 | some (.dic kus) => (eg y).bind fun k => (dI kus k).bind fun u => some (u, S)
 | some (.fdc _ kus) => (eg y).bind fun k => (dI kus k).bind fun u => some (u, S)
 | _ => none
theorem x5 {j : Int} : fIx (.tup us) (.int j) S = (atI us j).bind fun u => some (u, S) := rfl
theorem uE : fIx (.ref l) y S = kIx y S S[l]? := by
 unfold fIx kIx; dsimp only <;> (generalize S[l]? = q; rcases q with _ | o <;> first | rfl | (cases o <;> rfl))
theorem uF {j : Int} : kIx (.int j) S (some (.lst us)) = (atI us j).bind fun u => some (u, S) := rfl
theorem x8 {kus : List (Key × U)} : kIx y S (some (.dic kus)) = (eg y).bind fun k => (dI kus k).bind fun u => some (u, S) := rfl
noncomputable def xn (l : Nat) (i v : U) (S : Sto) : Option O → Option Sto
 | some (.lst us) => (match i with
   | .int k => (ixN us.length k).bind fun j => some (S.set l (.lst (us.set j v)))
   | _ => none)
 | some (.dic kus) => (eg i).bind fun k => if kus.length < LIM then some (S.set l (.dic (ed kus k v))) else none
 | _ => none
theorem xG : eU (.ref l) x y S = xn l x y S S[l]? := by
 unfold eU xn; dsimp only <;> (generalize S[l]? = q; rcases q with _ | o <;> first | rfl | (cases o <;> rfl))
theorem ui {j : Int} : xn l (.int j) y S (some (.lst us)) = (ixN us.length j).bind fun j => some (S.set l (.lst (us.set j y))) := rfl
theorem uj {kus : List (Key × U)} : xn l x y S (some (.dic kus)) = (eg x).bind fun k => if kus.length < LIM then some (S.set l (.dic (ed kus k y))) else none := rfl
theorem at0 {α : Type} {a : α} {r : List α} : atI (a :: r) 0 = some a := by show atI _ ((0 : Nat) : Int) = _; exact dh rfl
theorem at1 {α : Type} {a b : α} {r : List α} : atI (a :: b :: r) 1 = some b := by show atI _ ((1 : Nat) : Int) = _; exact dh rfl
theorem at2 {α : Type} {a b c : α} {r : List α} : atI (a :: b :: c :: r) 2 = some c := by show atI _ ((2 : Nat) : Int) = _; exact dh rfl
theorem at3 {α : Type} {a b c d : α} {r : List α} : atI (a :: b :: c :: d :: r) 3 = some d := by show atI _ ((3 : Nat) : Int) = _; exact dh rfl
theorem ix0 {n : Nat} : ixN (n + 1) 0 = some 0 := by simp [ixN]
theorem ix1 {n : Nat} : ixN (n + 1 + 1) 1 = some 1 := by simp [ixN]; omega
theorem ix2 {n : Nat} : ixN (n + 1 + 1 + 1) 2 = some 2 := by simp [ixN]; omega
noncomputable def xq (S : Sto) : Option O → Option (U × Sto)
 | some (.lst us) => some (.int us.length, S)
 | some (.dic us) => some (.int us.length, S)
 | _ => none
theorem uA : lC [.ref l] S = xq S S[l]? := by
 unfold lC xq; dsimp only <;> (generalize S[l]? = q; rcases q with _ | o <;> first | rfl | (cases o <;> rfl))
theorem uB : xq S (some (.lst us)) = some (.int us.length, S) := rfl
theorem uC {kus : List (Key × U)} : xq S (some (.dic kus)) = some (.int kus.length, S) := rfl
theorem uz : lC [.tup us] S = some (.int us.length, S) := rfl
variable {j k : Int}
theorem rA : cR (.int j) (.int k) S = some (.int (j + k), S) := rfl
theorem xF : zq (.int j) (.int k) S = some (.int (j - k), S) := rfl
theorem fP (h : qS j k) : eA (.int j) (.int k) S = some (.int (j * k), S) := by simp [eA, fI, h]
theorem uM (h : lL j k) : qH (.int j) (.int k) S = some (.int (j / k), S) := by simp [qH, fI, h]
theorem oE (h : 0 < k) : lA (.int j) (.int k) S = some (.int (j % k), S) := by simp [lA, fI, h]
theorem xY : fLt (.int j) (.int k) S = some (.bl (decide (j < k)), S) := rfl
theorem Ai : fLe (.int j) (.int k) S = some (.bl (decide (j ≤ k)), S) := rfl
theorem Ak : fGt (.int j) (.int k) S = some (.bl (decide (k < j)), S) := rfl
theorem Am : fGe (.int j) (.int k) S = some (.bl (decide (k ≤ j)), S) := rfl
theorem ym : fEq (.int j) (.int k) S = some (.bl (decide (j = k)), S) := rfl
theorem xW : fNe (.int j) (.int k) S = some (.bl (!decide (j = k)), S) := rfl
theorem yk {a c : Str} : fEq (.str a) (.str c) S = some (.bl (decide (a = c)), S) := rfl
theorem xV {a c : Str} : fNe (.str a) (.str c) S = some (.bl (!decide (a = c)), S) := rfl
theorem yn {a c : Bool} : fEq (.bl a) (.bl c) S = some (.bl (decide (a = c)), S) := rfl
theorem xX {a c : Bool} : fNe (.bl a) (.bl c) S = some (.bl (!decide (a = c)), S) := rfl
noncomputable def kFn : Out × Rho × Sto → Option (U × Sto)
 | (.rt u, _, S) => some (u, S)
 | (.nx, _, S) => some (.non, S)
 | _ => none
theorem ql {n k : Nat} (h : us.length = k) : fnU n k c1 us S = (c1 (gW n us) S).bind kFn := by
 unfold fnU; rw [if_pos h]; congr 1; funext p; obtain ⟨o, ρ, S⟩ := p; cases o <;> rfl
theorem yi : kFn (.rt u, ρ, S) = some (u, S) := rfl
theorem yh : kFn (.nx, ρ, S) = some (.non, S) := rfl
end
section
variable {ρ : Rho} {S : Sto} {c1 c2 : CS} {t ta tb : CT} {ca cb cc : CE} {cr : CA} {u x y : U} {us : List U} {i l : Nat} {b : Bool} {c : Cl} {fus : List (Option U)} {g : Fn}
open Classical in
noncomputable def pR (c : Cl) (i : Nat) (S : Sto) : Option O → Option (U × Sto)
 | some (.ins c' fus) => if c' = c then (fus[i]?).join.bind fun u => some (u, S) else none
 | _ => none
noncomputable def ze (c : Cl) (i : Nat) (p : U × Sto) := zr c i p.1 p.2
theorem yj : AA c i ca ρ S = (ca ρ S).bind (ze c i) := rfl
theorem uJ : ze c i (.ref l, S) = pR c i S S[l]? := by
 unfold ze zr pR; dsimp only <;> (generalize S[l]? = q; rcases q with _ | o <;> first | rfl | (cases o <;> rfl))
theorem uI : pR c i S (some (.ins c fus)) = ((fus[i]?).join).bind fun u => some (u, S) := by
 unfold pR; dsimp only; rw [if_pos rfl]
open Classical in
noncomputable def xo (c : Cl) (i l : Nat) (v : U) (S : Sto) : Option O → Option Sto
 | some (.ins c' fus) => if c' = c then some (S.set l (.ins c (fus.set i (some v)))) else none
 | _ => none
noncomputable def xp (c : Cl) (i : Nat) (v : U) (ρ : Rho) (q : U × Sto) := (tM c i q.1 v q.2).bind (wB ρ)
noncomputable def zV (c : Cl) (i : Nat) (ca : CE) (ρ : Rho) (p : U × Sto) := (ca ρ p.2).bind (xp c i p.1 ρ)
theorem Ac : zx c i ca cb ρ S = (cb ρ S).bind (zV c i ca ρ) := rfl
theorem xO : zV c i ca ρ (u, S) = (ca ρ S).bind (xp c i u ρ) := rfl
theorem xN : xp c i u ρ (.ref l, S) = (xo c i l u S S[l]?).bind (wB ρ) := by
 unfold xp tM xo; dsimp only <;> (generalize S[l]? = q; rcases q with _ | o <;> first | rfl | (cases o <;> rfl))
theorem xM : xo c i l u S (some (.ins c fus)) = some (S.set l (.ins c (fus.set i (some u)))) := by
 unfold xo; dsimp only; rw [if_pos rfl]
noncomputable def nr (g : Fn) (l : Nat) (q : List U × Sto) := g (.ref l :: q.1) q.2
open Classical in
noncomputable def kh (c : Cl) (g : Fn) (cr : CA) (ρ : Rho) (l : Nat) (S : Sto) : Option O → Option (U × Sto)
 | some (.ins c' _) => if c' = c then (cr ρ S).bind (nr g l) else none
 | _ => none
noncomputable def tw (c : Cl) (g : Fn) (cr : CA) (ρ : Rho) (p : U × Sto) := tN c g p.1 p.2 (cr ρ)
theorem ux : zy c g ca cr ρ S = (ca ρ S).bind (tw c g cr ρ) := rfl
theorem ra : tw c g cr ρ (.ref l, S) = kh c g cr ρ l S S[l]? := by
 unfold tw tN kh; dsimp only <;> (generalize S[l]? = q; rcases q with _ | o <;> first | rfl | (cases o <;> rfl))
theorem q0 : kh c g cr ρ l S (some (.ins c fus)) = (cr ρ S).bind (nr g l) := by
 unfold kh; dsimp only; rw [if_pos rfl]
theorem qZ : nr g l (us, S) = g (.ref l :: us) S := rfl
noncomputable def zc (n : Nat) : U × Sto → Option (U × Sto)
 | (.non, S) => some (.ref n, S)
 | _ => none
theorem rb : zc i (.non, S) = some (.ref i, S) := rfl
noncomputable def kIn (neg : Bool) (x : U) (S : Sto) : Option O → Option (U × Sto)
 | some (.lst us) => if de x = true ∧ us.all de = true then some (.bl (if neg then !inU x us else inU x us), S) else none
 | some (.dic kus) => (eg x).bind fun k => some (.bl (if neg then !(dI kus k).isSome else (dI kus k).isSome), S)
 | some (.fdc _ kus) => (eg x).bind fun k => some (.bl (if neg then !(dI kus k).isSome else (dI kus k).isSome), S)
 | _ => none
theorem yb {neg : Bool} : fIn neg x (.ref l) S = kIn neg x S S[l]? := by
 unfold fIn kIn; dsimp only <;> (generalize S[l]? = q; rcases q with _ | o <;> first | rfl | (cases o <;> rfl))
theorem yc {neg : Bool} {kus : List (Key × U)} : kIn neg x S (some (.dic kus)) = (eg x).bind fun k => some (.bl (if neg then !(dI kus k).isSome else (dI kus k).isSome), S) := rfl
theorem x4 {j : Int} : eg (.int j) = some (.inl j) := rfl
theorem uD {z : Str} : eg (.str z) = some (.inr z) := rfl
noncomputable def zj (f : U → List U → Sto → Option (U × Sto)) (x : U) (q : List U × Sto) := f x q.1 q.2
noncomputable def zk (f : U → List U → Sto → Option (U × Sto)) (cr : CA) (ρ : Rho) (x : U) (S : Sto) : Option O → Option (U × Sto)
 | some (.lst _) => (cr ρ S).bind (zj f x)
 | _ => none
noncomputable def kBM (f : U → List U → Sto → Option (U × Sto)) (cr : CA) (ρ : Rho) : U × Sto → Option (U × Sto)
 | (.ref l, S) => zk f cr ρ (.ref l) S S[l]?
 | _ => none
variable {fm : U → List U → Sto → Option (U × Sto)}
theorem Ao : cBM fm ca cr ρ S = (ca ρ S).bind (kBM fm cr ρ) := by
 unfold cBM; congr 1; funext p; obtain ⟨u, S⟩ := p
 cases u <;> try rfl
theorem yx : kBM fm cr ρ (.ref l, S) = zk fm cr ρ (.ref l) S S[l]? := rfl
theorem yw : zk fm cr ρ x S (some (.lst us)) = (cr ρ S).bind (zj fm x) := rfl
theorem yv : zj fm x (us, S) = fm x us S := rfl
noncomputable def xt (l : Nat) (u : U) (S : Sto) : Option O → Option (U × Sto)
 | some (.lst us) => if us.length < LIM then some (.non, S.set l (.lst (us ++ [u]))) else none
 | _ => none
theorem yz : cL (.ref l) [u] S = xt l u S S[l]? := by
 unfold cL xt; dsimp only <;> (generalize S[l]? = q; rcases q with _ | o <;> first | rfl | (cases o <;> rfl))
theorem jK (h : us.length < LIM) : xt l u S (some (.lst us)) = some (.non, S.set l (.lst (us ++ [u]))) := by
 unfold xt; dsimp only; rw [if_pos h]
noncomputable def zf (ku xu : U) (S : Sto) : Option O → Option (U × Sto)
 | some (.dic kus) => (eg ku).bind fun k => some ((dI kus k).getD xu, S)
 | _ => none
noncomputable def zg (l : Nat) (ku : U) (r : U × Sto) := zf ku r.1 r.2 r.2[l]?
noncomputable def zh (l : Nat) (cx : CE) (ρ : Rho) (q : U × Sto) := (cx ρ q.2).bind (zg l q.1)
noncomputable def zi (l : Nat) (ck cx : CE) (ρ : Rho) (S : Sto) : Option O → Option (U × Sto)
 | some (.dic _) => (ck ρ S).bind (zh l cx ρ)
 | _ => none
noncomputable def kDG (ck cx : CE) (ρ : Rho) : U × Sto → Option (U × Sto)
 | (.ref l, S) => zi l ck cx ρ S S[l]?
 | _ => none
theorem An : wZ ca cb cc ρ S = (ca ρ S).bind (kDG cb cc ρ) := by
 unfold wZ; congr 1; funext p; obtain ⟨u, S⟩ := p
 cases u <;> try rfl
theorem yt : kDG cb cc ρ (.ref l, S) = zi l cb cc ρ S S[l]? := rfl
theorem yr {kus : List (Key × U)} : zi l cb cc ρ S (some (.dic kus)) = (cb ρ S).bind (zh l cc ρ) := rfl
theorem yq : zh l cc ρ (u, S) = (cc ρ S).bind (zg l u) := rfl
theorem yp : zg l u (x, S) = zf u x S S[l]? := rfl
theorem yo {kus : List (Key × U)} : zf u x S (some (.dic kus)) = (eg u).bind fun k => some ((dI kus k).getD x, S) := rfl
theorem uL : zA ρ S = some (.ref S.length, S ++ [.dic []]) := rfl
noncomputable def kP3 (k : Key) (u : U) (z : List (Key × U) × Sto) : Option (List (Key × U) × Sto) := some ((k, u) :: z.1, z.2)
noncomputable def kP2 (r : List (CE × CE)) (ρ : Rho) (x : U) (q : U × Sto) := (eg x).bind fun k => (eI r ρ q.2).bind (kP3 k q.1)
noncomputable def kP1 (cv : CE) (r : List (CE × CE)) (ρ : Rho) (p : U × Sto) := (cv ρ p.2).bind (kP2 r ρ p.1)
variable {pr : List (CE × CE)}
theorem Ag : eI [] ρ S = some ([], S) := rfl
theorem x_p : eI ((ca, cb) :: pr) ρ S = (ca ρ S).bind (kP1 cb pr ρ) := rfl
theorem Af : kP1 cb pr ρ (u, S) = (cb ρ S).bind (kP2 pr ρ u) := rfl
theorem Ae : kP2 pr ρ x (u, S) = (eg x).bind fun k => (eI pr ρ S).bind (kP3 k u) := rfl
theorem Ad {k : Key} {z : List (Key × U)} : kP3 k u (z, S) = some ((k, u) :: z, S) := rfl
noncomputable def kD1 (n : Nat) (kus : List (Key × U)) (S : Sto) : Option O → Option (U × Sto)
 | some (.dic []) => some (.ref n, S.set n (.dic (mX kus)))
 | _ => none
noncomputable def kD (n : Nat) (q : List (Key × U) × Sto) := kD1 n q.1 q.2 q.2[n]?
theorem uN : wY pr ρ S = (eI pr ρ (S ++ [.dic []])).bind (kD S.length) := by
 unfold wY; congr 1
theorem rn {z : List (Key × U)} : kD i (z, S) = kD1 i z S S[i]? := rfl
theorem rm {z : List (Key × U)} : kD1 i z S (some (.dic [])) = some (.ref i, S.set i (.dic (mX z))) := rfl
theorem ue : cP [.tup us] S = some (.tup us, S) := rfl
noncomputable def y6 (S : Sto) : Option O → Option (U × Sto)
 | some (.lst us) => some (.tup us, S)
 | _ => none
theorem uf : cP [.ref l] S = y6 S S[l]? := by
 unfold cP y6; dsimp only <;> (generalize S[l]? = q; rcases q with _ | o <;> first | rfl | (cases o <;> rfl))
theorem ug : y6 S (some (.lst us)) = some (.tup us, S) := rfl
theorem rg : lB [.tup us] S = some (.ref S.length, S ++ [.lst us]) := rfl
noncomputable def kLs (S : Sto) : Option O → Option (U × Sto)
 | some (.lst us) => some (.ref S.length, S ++ [.lst us])
 | _ => none
theorem rj : lB [.ref l] S = kLs S S[l]? := by
 unfold lB kLs; dsimp only <;> (generalize S[l]? = q; rcases q with _ | o <;> first | rfl | (cases o <;> rfl))
theorem rk : kLs S (some (.lst us)) = some (.ref S.length, S ++ [.lst us]) := rfl
theorem uH : wQ [.bl b] S = some (.int (if b then 1 else 0), S) := rfl
theorem ga {X : Sto} {n : Nat} : (S ++ X)[S.length + n]? = X[n]? := by rw [List.getElem?_append_right (Nat.le_add_right _ _), Nat.add_sub_cancel_left]
theorem ga0 {X : Sto} : (S ++ X)[S.length]? = X[0]? := ga (n := 0)
theorem gs {X : Sto} {n : Nat} {o : O} : (S ++ X).set (S.length + n) o = S ++ X.set n o := by rw [List.set_append_right _ _ (Nat.le_add_right _ _), Nat.add_sub_cancel_left]
theorem gs0 {X : Sto} {o : O} : (S ++ X).set S.length o = S ++ X.set 0 o := gs (n := 0)
section
variable {ok : Sto → Prop} {gg : CG} {cbd : CS} {ρ0 ρ1 : Rho} {S0 S1 : Sto}
theorem bP (h : ok S) : b5 ok gg cbd [] ρ S = some (.nx, ρ, S) := by unfold b5; rw [if_pos h]
theorem cy (h : ok S) (hg : gg u ρ S = some (ρ0, S0)) (hb : cbd ρ0 S0 = some (.nx, ρ1, S1)) : b5 ok gg cbd (u :: us) ρ S = b5 ok gg cbd us ρ1 S1 := by
 rw [b5]; dsimp only; rw [if_pos h, hg, Option.bind_some]; dsimp only; rw [hb, Option.bind_some]
theorem oS {n : Nat} (ht : t ρ S = some (true, S0)) (hb : cbd ρ S0 = some (.nx, ρ1, S1)) : cm t cbd (n + 1) ρ S = cm t cbd n ρ1 S1 := by
 rw [cm]; dsimp only; rw [ht, Option.bind_some]; dsimp only; rw [if_pos rfl, hb, Option.bind_some]
theorem mj {n : Nat} (ht : t ρ S = some (false, S0)) : cm t cbd (n + 1) ρ S = some (.nx, ρ, S0) := by
 rw [cm]; dsimp only; rw [ht, Option.bind_some]; dsimp only; rw [if_neg (by decide)]
theorem iC {ce : CE} {ys : List U} (h : ok S) (hg : gg u ρ S = some (ρ0, S0)) (he : ce ρ0 S0 = some (x, S1)) (hl : S1[l]? = some (.lst ys)) (hn : ys.length < LIM) : dF ok gg ce l (u :: us) ρ S = dF ok gg ce l us ρ0 (S1.set l (.lst (ys ++ [x]))) := by
 rw [dF, if_pos h, hg, Option.bind_some]; dsimp only; rw [he, Option.bind_some]; dsimp only; rw [hl]; dsimp only; rw [if_pos hn]
theorem kr {ce : CE} (h : ok S) : dF ok gg ce l [] ρ S = some S := by rw [dF, if_pos h]
end
end
theorem qf {p : List Value → Prop} (h : p []) (us : List Value) (e : us.length = 0) : p us := by rw [List.length_eq_zero_iff.mp e]; exact h
theorem iK {n : Nat} {p : List Value → Prop} (h : ∀ a us, us.length = n → p (a :: us)) (us : List Value) (e : us.length = n + 1) : p us := by
 cases us with
 | nil => cases e
 | cons a us => exact h a us (Nat.succ.inj e)
theorem km {X : Cx} {pins : List (Addr × Obj)} {σ : L2.St} {H : Hp} {s : Shared} {a : Addr} {o u : HO} (I : Inv X pins σ H s) (e : H a = some o) (nt : ∀ xs, o ≠ .tup xs) (no : ∀ x, o ≠ .own x) (nb : ∀ ps, o ≠ .tbl ps)
  (nf : ∀ ob u, X.H₀ a ≠ some (.frz ob u)) (new : bp X.prog X.w (upd H a u) s.heap a u) : Inv X pins σ (upd H a u) s := by
 have nn : ∀ b, H b = none → upd H a u b = none := fun b q => by rw [aF (Ne.symm (bA e q))]; exact q
 have ho : ∀ b x, H b = some (.own x) → upd H a u b = some (.own x) := fun b x q => by
  rw [aF]; exact q
  intro z; subst z; rw [e] at q; cases q; exact no _ rfl
 have ht : ∀ b xs, H b = some (.tup xs) → upd H a u b = some (.tup xs) := fun b x q => by
  rw [aF]; exact q
  intro z; subst z; rw [e] at q; cases q; exact nt _ rfl
 refine ⟨I.ok, I.os, I.bare, ⟨I.base.keep, I.base.slot, fun b ob q1 q2 q3 => nn _ (I.base.free b ob q1 q2 q3), I.base.there, fun b xs q => ht _ _ (I.base.tups b xs q), fun b ob v q => ?_, fun b ps q => ?_⟩, I.loc, I.cell, nn _ I.free, fun x c q => nn _ (I.freeC x c q), fun p hp => ?_, fun b v q => ?_, I.len⟩
 ·rw [aF]; exact I.base.frzs b ob v q
  intro z; subst z; exact nf _ _ q
 ·obtain ⟨more, q'⟩ := I.base.tbls b ps q
  refine ⟨more, ?_⟩
  rw [aF]; exact q'
  intro z; subst z; rw [e] at q'; cases q'; exact nb _ rfl
 ·obtain ⟨p1, p2, p3⟩ := I.pin p hp
  exact ⟨p1, nn _ p2, p3⟩
 ·by_cases hb : b = a
  ·subst hb; rw [aD] at q; cases q; exact new
  ·rw [aF hb] at q
   exact (I.hok b v q).stay (fun _ _ _ g => g) (fun c g => ho c b g) fun c xs g => ht c xs g
noncomputable def xb (X : Cx) (a : Addr) : Prop := ∀ ob u, X.H₀ a ≠ some (.frz ob u)
noncomputable def kU : Key → U
 | .inl i => .int i
 | .inr x => .str x
theorem wK {K : PySem.W.Frag} {m : List Addr} {H : Hp} (k : Key) : Is K m H (kV k) (kU k) := by
 cases k with
 | inl i => exact .int_
 | inr x => exact .str_
open Classical in
noncomputable def uni {α : Type} (F : Nat → Option α) : Option α := if h : ∃ r, ∀ n, F n = some r then some h.choose else none
theorem u3 {α : Type} {F : Nat → Option α} {r : α} (h : ∀ n, F n = some r) : uni F = some r := by
 have hx : ∃ r, ∀ n, F n = some r := ⟨r, h⟩
 unfold uni
 rw [dif_pos hx]
 have := hx.choose_spec 0
 rw [h 0] at this
 exact this.symm
theorem oX {α : Type} {F : Nat → Option α} {r : α} (h : uni F = some r) (n : Nat) : F n = some r := by
 unfold uni at h
 split at h
 ·rename_i hx
  cases h
  exact hx.choose_spec n
 ·cases h
end OP
namespace OG
open PySem PySem.Spec PyProof.Rows L2
noncomputable def fX (wi : TI) (g : TG) (tt : TT) (te : TE) (n : Nat) (caps : List Nat) : TE := fun σ H Q => wi σ H fun J H1 => ∀ l, H1 l = none → ∃ W : Nat → Nat → L2.St → Hp → Prop, (∃ m, W 0 m (stC n caps σ) (upd H1 l (.lst []))) ∧
 ∀ i m σ' H2, W i m σ' H2 → (J.stop i H2 ∧ Q (.ref l) H2) ∨ (J.go i H2 ∧ ∃ N : L2.St → Hp → Prop, (∀ σ'' H', N σ'' H' → ∃ m', m' < m ∧ W (i + 1) m' σ'' H') ∧
  ∀ x H3, J.yld i H2 x H3 → g x σ' H3 fun σ2 H4 => tt σ2 H4 fun b H5 => match b with
   | true => te σ2 H5 fun v H6 => ∃ ys, H6 l = some (.lst ys) ∧ ys.length < sizeLine ∧ N σ2 (upd H6 l (.lst (ys ++ [v])))
   | false => N σ2 H5)
theorem fk {prog : Program} {w : World} {A : Around} {R : Result → Shared → Prop} {s : Shared} {elt target iter c : Expr} {scope : Scope} {pos : Pos} {it acc : Value} {env : Env} (I : Nat → Shared → Prop)
  (turn : ∀ n s, I n s → wpAny (model prog w) A (pyNext it) (fun r s₁ => match r with
   | none => R (.ok .next) s₁
   | some v => wpAny (model prog w) A (letOwnedTupleGo target it v) (fun _ s₁' => wpAny (model prog w) A (assign target env v) (fun _ s₂ => wpAny (model prog w) A (PySem.isTrue c env (eval c env)) (fun b s₂' => match b with
    | true => wpAny (model prog w) A (eval elt env) (fun x s₃ =>
     wpAny (model prog w) A (call (.builtin "list.append") [acc, x]) (fun _ s₄ => ∃ m, m < n ∧ I m s₄) (fun _ _ => False) s₃)
     (fun _ _ => False) s₂'
    | false => ∃ m, m < n ∧ I m s₂') (fun _ _ => False) s₂) (fun _ _ => False) s₁') (fun _ _ => False) s₁) (fun _ _ => False) s)
  (n : Nat) (h : I n s) :
  codeAny (model prog w) A (.compLoop (.ListComp elt [⟨target, iter, [c], 0⟩] scope pos) 0 it acc env) R s := by
 refine codeAny_loop rfl I (fun n s hI => ?_) n h
 show wpAny _ _ ((compTurn (.ListComp elt [⟨target, iter, [c], 0⟩] scope pos) 0 it acc env).onRaise (fun x => do noteFrame x env; theTreesLotGoes x)) _ _ s
 refine wpAny_noted ?_
 rw [compTurn_list]
 refine wpAny_bind (wpAny_standAt (wpAny_bind (wpAny_mono (turn n s hI) (fun r s₁ h₁ => ?_) fun _ _ h' => h'.elim)))
 cases r with
 | none => exact wpAny_pure h₁
 | some v =>
  refine wpAny_bind (wpAny_mono h₁ (fun _ s₁' h₁' => ?_) fun _ _ h' => h'.elim)
  refine wpAny_bind (wpAny_mono h₁' (fun _ s₂ h₂ => ?_) fun _ _ h' => h'.elim)
  dsimp only
  simp only [List.forIn_cons, List.forIn_nil, if_true, bind_assoc, pure_bind]
  refine wpAny_bind (wpAny_mono h₂ (fun b s₂' h₂' => ?_) fun _ _ h' => h'.elim)
  cases b with
  | true =>
   rw [if_pos rfl]
   exact wpAny_bind (wpAny_mono h₂' (fun x s₃ h₃ => wpAny_bind (wpAny_mono h₃
    (fun _ s₄ h₄ => wpAny_pure ⟨rfl, h₄⟩) fun _ _ h' => h'.elim)) fun _ _ h' => h'.elim)
  | false =>
   rw [if_neg Bool.false_ne_true]
   exact wpAny_pure ⟨rfl, h₂'⟩
theorem fM {X : Cx} {Nc capN tn : List Str} {scope : Scope} {cl : List (Str × Addr)} {n : Nat} {caps : List Nat} {tg iter elt : Expr} {pos : Pos} {wi : TI} {g : TG} {te : TE} {tt : TT} {c : Expr}
  (hc : X.calm = true) (hi : WI X tg iter wi) (hg : ∀ s3 H3 fp, WG (cxC X Nc scope cl s3 H3 fp) tg g) (he : ∀ s3 H3 fp, WE (cxC X Nc scope cl s3 H3 fp) elt te)
  (ht : ∀ s3 H3 fp, WT (cxC X Nc scope cl s3 H3 fp) c tt)
  (hclos : closureFor scope X.env = pure cl) (hkind : scope.kind = .function) (hnl : ∀ x ∈ scope.names, x.2 = .local → scope.names.lookup x.1 = some .local) (hcell : ∀ x ∈ scope.names, x.2 ≠ .cell)
  (hcl : kE X.env cl) (hhas : ((relabel scope X.env).names.all fun p => !(p.2 == .cell || p.2 == .free) || (cl.lookup p.1).isSome) = true)
  (hcap : Paired (Cap X scope cl) caps capN) (hN : Nc = tn ++ capN) (hn : tn.length = n)
  {use : Option (Value → Sem Unit)} {pins : List (Addr × Obj)} {σ : L2.St} {H : Hp} {s : Shared} {Q : VK} {Qf : Value → Shared → Prop} (I : Inv X pins σ H s) (h : fX wi g tt te n caps σ H Q)
  (hend : ∀ (D C : Addr) (s6 : Shared) (H5 : Hp) (m : Str → Option Value), Inv X pins σ H5 s6 → s6.heap.Ns C m → H5 C = none → C ≠ X.env.locals → X.s₀.heap.objs.size ≤ C → (∀ x c, X.env.cells.lookup x = some c → c ≠ C) → (∀ p ∈ X.pn ++ pins, p.1 ≠ C) → Q (.ref D) H5 → compPost (model X.prog X.w) X.A X.xe use Qf (.ref D) C (.ok .next) s6)
  (hs : ∀ x, foldedSetIterable iter X.env x = pure x) :
  wpAny (model X.prog X.w) X.A (comprehension (.ListComp elt [⟨tg, iter, [c], 0⟩] scope pos) scope X.env (firstIterPos [⟨tg, iter, [c], 0⟩] pos) (newList []) (firstAsync [⟨tg, iter, [c], 0⟩]) (firstIter [⟨tg, iter, [c], 0⟩] X.env) use) Qf X.xe s := by
 refine wpAny_comprehension_free (use := use) (g := ⟨tg, iter, [c], 0⟩) (gs := []) rfl hs hclos hkind hnl (thn (hi.h pins s σ H _ I h) fun v s1 h1 => thn h1 fun itv s2 h2 => ?_)
 obtain ⟨it, fp, tnn, J, H2, rfl, I2, T, st2, f2, hW⟩ := h2
 have hD := I2.fresh
 obtain ⟨W, ⟨m0, w0⟩, turn⟩ := hW _ hD
 refine wpAny_newObj_type (wpAny_newFunctionEnv hcell (by intro y hy; simp at hy) (fun h₁ hns₁ hsb₁ => ?_) hkind)
 dsimp only at hns₁ hsb₁ ⊢
 have I3 : Inv X pins σ (upd H2 s2.heap.objs.size (.lst [])) { s2 with heap := s2.heap.push { cls := .type "list", dict := none, data := .seq ([] : List Value).toArray }, toks := s2.toks } := I2.lnew (its := []) .nil (Nat.zero_le _)
 generalize hs3 : ({ s2 with heap := s2.heap.push { cls := .type "list", dict := none, data := .seq ([] : List Value).toArray }, toks := s2.toks } : Shared) = s3 at I3
 have es3 : s3.heap = s2.heap.push { cls := .type "list", dict := none, data := .seq ([] : List Value).toArray } := by rw [← hs3]
 generalize hDD : s2.heap.objs.size = D at *
 have kept : ∀ b o, s3.heap.get? b = some o → h₁.get? b = some o := fun b o e => by
  have lt := Heap.lt_size e
  rw [es3] at lt e
  exact hsb₁.extBut b o (Nat.ne_of_lt lt) (Heap.get?_push_of_some _ e)
 have old : ∀ b o, s2.heap.get? b = some o → s3.heap.get? b = some o := fun b o e => by rw [es3]; exact Heap.get?_push_of_some _ e
 have ltD : ∀ b ∈ fp, b < D := fun b hb => by
  obtain ⟨o, e, _⟩ := T.obj 0 _ st2 b hb
  rw [← hDD]; exact Heap.lt_size e
 have fo : ∀ b ∈ fp, b < s3.heap.objs.size := fun b hb => by
  obtain ⟨o, e, _⟩ := T.obj 0 _ st2 b hb
  exact Heap.lt_size (old _ _ e)
 have f3 : ∀ b ∈ fp, oA X pins (upd H2 D (.lst [])) b := fun b hb => by
  refine ⟨?_, (f2 b hb).2⟩
  rw [aF (Nat.ne_of_lt (ltD b hb))]
  exact (f2 b hb).1
 rw [← es3] at hns₁ hsb₁ ⊢
 have Ic := fun t' => Inv.comp (h1 := h₁) (t' := t') (Nc := Nc) (n := n) I3 hc f3 fo hkind hcl hhas hcap tn hN hn hns₁ kept
 have stat : ∀ {H' : Hp}, (∀ b ∈ fp, H' b = none) → ∀ b ∈ fp, oA (cxC X Nc scope cl s3 (upd H2 D (.lst [])) fp) [] H' b := fun hn' b hb => by
  refine ⟨hn' b hb, Nat.ne_of_lt (fo b hb), fun z => ?_, .inl hb, fun x c e => (f2 b hb).2.2.2.2.1 x c (hcl.look e), fun p hp => (by simp at hp)⟩
  rcases List.mem_cons.mp (I3.stkSub b z) with q | q
  ·exact (f2 b hb).2.1 q
  ·exact (f2 b hb).2.2.1 q
 have loop : ∀ s4 : Shared, (∃ t', s4 = { s3 with heap := h₁, toks := t' }) → codeAny (model X.prog X.w) X.A (.compLoop (.ListComp elt [⟨tg, iter, [c], 0⟩] scope pos) 0 (.ref it) (.ref D) (compEnvC scope cl s3.heap.objs.size X.env))
   (compPost (model X.prog X.w) X.A X.xe use Qf (.ref D) s3.heap.objs.size) s4 := by
  rintro s4 ⟨t', rfl⟩
  refine fk (fun n' s' => ∃ i σ' H', Inv (cxC X Nc scope cl s3 (upd H2 D (.lst [])) fp) [] σ' H' s' ∧ tnn i s'.heap ∧ (∀ b ∈ fp, H' b = none) ∧ W i n' σ' H') ?_ m0
   ⟨0, _, _, Ic t', T.keep 0 _ _ st2 fun b hb o e => kept _ _ (old _ _ e), fun b hb => (f3 b hb).1, w0⟩
  rintro n' s5 ⟨i, σ5, H5, I5, st5, fr5, w5⟩
  rcases turn i n' σ5 H5 w5 with ⟨stop, qn⟩ | ⟨go, N, hN', step⟩
  ·refine thn (T.done (cxC X Nc scope cl s3 (upd H2 D (.lst [])) fp) rfl rfl rfl hc i [] s5 σ5 H5 (fun _ _ => False) I5 (stat fr5) st5 stop) fun r s6 ⟨hr, I6⟩ => ?_
   subst hr
   obtain ⟨m, hm, _⟩ := I6.loc
   have I7 : Inv X pins σ H5 s6 := Inv.call' (ch := fp) I3 I6.os I6.base I6.hok I6.bare fun b hb => ⟨(f2 b hb).2.2.2.1, (f2 b hb).2.1, (f2 b hb).2.2.2.2.1, (f2 b hb).2.2.2.2.2⟩
   exact hend D _ s6 H5 m I7 hm I6.free (Ne.symm (Nat.ne_of_lt I3.lt)) I3.sz (fun x c e => by
     obtain ⟨v', o, ho, _⟩ := I3.cell x c e
     exact Nat.ne_of_lt (Heap.lt_size ho)) (fun p hp => Nat.ne_of_lt (Heap.lt_size (I3.pin p hp).1)) qn
  ·refine thn (T.item (cxC X Nc scope cl s3 (upd H2 D (.lst [])) fp) rfl rfl rfl hc i [] s5 σ5 H5 (fun _ _ => False) I5 (stat fr5) st5 go) fun r s6 ⟨u, hr, h6⟩ => ?_
   subst hr
   refine thn h6 fun _ s7 hz => ?_
   obtain ⟨x, H7, I7, r7, y7, st7, fr7⟩ := hz
   have I7' := I7.pinned (stat fr7) (T.obj _ _ st7)
   refine thn ((hg s3 (upd H2 D (.lst [])) fp).h _ s7 σ5 H7 x u _ I7' r7 (step x H7 y7)) fun _ s8 hz => ?_
   obtain ⟨σ8, H8, I8, q8⟩ := hz
   have fin : ∀ {s10 : Shared} {H10 : Hp}, Inv (cxC X Nc scope cl s3 (upd H2 D (.lst [])) fp) _ σ8 H10 s10 → N σ8 H10 → ∃ m', m' < n' ∧ ∃ i' σ' H', Inv (cxC X Nc scope cl s3 (upd H2 D (.lst [])) fp) [] σ' H' s10 ∧ tnn i' s10.heap ∧ (∀ b ∈ fp, H' b = none) ∧ W i' m' σ' H' := fun {s10 H10} I10 q10 => by
    obtain ⟨m', hm, w10⟩ := hN' σ8 H10 q10
    refine ⟨m', hm, i + 1, σ8, H10, Inv.unpinned I10, T.keep _ _ _ st7 fun b hb o e => (Inv.pin I10 (b, o) (List.mem_append_right _ (List.mem_append_right _ (bY hb e)))).1, fun b hb => ?_, w10⟩
    obtain ⟨o, e, d⟩ := T.obj _ _ st7 b hb
    exact (Inv.pin I10 (b, o) (List.mem_append_right _ (List.mem_append_right _ (bY hb e)))).2.1
   refine thn ((ht s3 (upd H2 D (.lst [])) fp).h _ s8 σ8 H8 _ I8 q8) fun b9 s9' h9 => ?_
   obtain ⟨H9', I9', q9'⟩ := h9
   cases b9 with
   | false => exact fin I9' q9'
   | true =>
    refine thn ((he s3 (upd H2 D (.lst [])) fp).h _ s9' σ8 H9' _ I9' q9') fun v9 s9 hz => ?_
    obtain ⟨x9, H9, I9, r9, ys, hy, hlt, q9⟩ := hz
    exact thn (eJ (X := cxC X Nc scope cl s3 (upd H2 D (.lst [])) fp) _ s9 σ8 H9 (.ref D) [x9] (.ref D) [v9] (fun _ H' => N σ8 H') I9 rfl (.cons r9 .nil) ⟨D, ys, x9, rfl, rfl, hy, hlt, q9⟩) fun _ s10 ⟨_, H10, I10, _, q10⟩ => fin I10 q10
 have e4 : ∀ t', ({ s2 with heap := h₁, toks := t' } : Shared) = { s3 with heap := h₁, toks := t' } := fun t' => by rw [← hs3]
 refine codeAny_compStart_list (loop _ ⟨_, e4 _⟩) (T.self _ 0 _ _ _ (T.keep 0 _ _ st2 fun b hb o e => kept _ _ (old _ _ e)) (loop _ ⟨_, e4 _⟩))
theorem kH {X : Cx} {Nc capN tn : List Str} {scope : Scope} {cl : List (Str × Addr)} {n : Nat} {caps : List Nat} {tg iter elt : Expr} {pos : Pos} {wi : TI} {g : TG} {te : TE} {tt : TT} {c : Expr}
  (hc : X.calm = true) (hi : WI X tg iter wi) (hg : ∀ s3 H3 fp, WG (cxC X Nc scope cl s3 H3 fp) tg g) (he : ∀ s3 H3 fp, WE (cxC X Nc scope cl s3 H3 fp) elt te)
  (ht : ∀ s3 H3 fp, WT (cxC X Nc scope cl s3 H3 fp) c tt)
  (hclos : closureFor scope X.env = pure cl) (hkind : scope.kind = .function) (hnl : ∀ x ∈ scope.names, x.2 = .local → scope.names.lookup x.1 = some .local) (hcell : ∀ x ∈ scope.names, x.2 ≠ .cell)
  (hcl : kE X.env cl) (hhas : ((relabel scope X.env).names.all fun p => !(p.2 == .cell || p.2 == .free) || (cl.lookup p.1).isSome) = true)
  (hcap : Paired (Cap X scope cl) caps capN) (hN : Nc = tn ++ capN) (hn : tn.length = n)
  (hs : ∀ x, foldedSetIterable iter X.env x = pure x := by intro _; rfl) :
  WE X (.ListComp elt [⟨tg, iter, [c], 0⟩] scope pos) (fX wi g tt te n caps) := by
 constructor
 intro pins s σ H Q I h
 rw [eval_ListComp]
 refine fM hc hi hg he ht hclos hkind hnl hcell hcl hhas hcap hN hn I h (fun D C s6 H5 m I7 hm fr nl sz cn pn qn => ⟨m, hm, fun h' hs' => ?_⟩) hs
 exact ⟨.ref D, H5, I7.turned (t' := s6.toks) (it := C) (fun b o hb e => hs'.extBut b o hb e) fr nl (.inr sz) cn pn, rfl, qn⟩
end OG
namespace OP
open PySem PySem.Spec PyProof.Rows L2 OG
open Classical in
noncomputable def bh (ok : Sto → Prop) (g : CG) (ct : CT) (ce : CE) (l : Nat) : List U → Rho → Sto → Option Sto
 | [], _, S => if ok S then some S else none
 | u :: us, ρ, S => if ok S then (g u ρ S).bind fun p => (ct p.1 p.2).bind fun q => if q.1 = true then (ce p.1 q.2).bind fun r => match r.2[l]? with
  | some (.lst ys) => if ys.length < LIM then bh ok g ct ce l us p.1 (r.2.set l (.lst (ys ++ [r.1]))) else none
  | _ => none else bh ok g ct ce l us p.1 q.2 else none
noncomputable def aV (ci : CI) (g : CG) (ct : CT) (ce : CE) (n : Nat) (caps : List Nat) : CE := fun ρ S => (ci ρ S).bind fun p => (bh p.2.1 g ct ce p.2.2.length p.1 (gc n caps ρ) (p.2.2 ++ [.lst []])).bind fun S' => some (.ref p.2.2.length, S')
section
variable {X : Cx} {K : PySem.W.Frag}
theorem jy {g : CG} {ct : CT} {ce : CE} {n : Nat} {caps : List Nat} {J : It} {us : List U} {ok : Sto → Prop} {Q : VK} {m1 : List Addr} {H1 : Hp} {S1 S' : Sto} {ρ : Rho} {σ : L2.St} {l : Addr} (sr1 : Sr K m1 S1 H1) (lr : Lr K m1 H1 ρ σ) (ito : qj K J m1 H1 us ok) (hl : H1 l = none) (h2 : bh ok g ct ce S1.length us (gc n caps ρ) (S1 ++ [.lst []]) = some S')
  (post : ∀ m2 H2, Ext K (m1 ++ [l]) (upd H1 l (.lst [])) m2 H2 → Sr K m2 S' H2 → Q (.ref l) H2) :
  ∃ W : Nat → Nat → L2.St → Hp → Prop, (∃ m, W 0 m (OG.stC n caps σ) (upd H1 l (.lst []))) ∧
 ∀ i m σ' H2, W i m σ' H2 → (J.stop i H2 ∧ Q (.ref l) H2) ∨ (J.go i H2 ∧ ∃ N : L2.St → Hp → Prop, (∀ σ'' H', N σ'' H' → ∃ m', m' < m ∧ W (i + 1) m' σ'' H') ∧
  ∀ x H3, J.yld i H2 x H3 → tG K g x σ' H3 fun σ2 H4 => tT K ct σ2 H4 fun b H5 => match b with
   | true => tE K ce σ2 H5 fun v H6 => ∃ ys, H6 l = some (.lst ys) ∧ ys.length < sizeLine ∧ N σ2 (upd H6 l (.lst (ys ++ [v])))
   | false => N σ2 H5) := by
 have ee : Ext K m1 H1 (m1 ++ [l]) (upd H1 l (.lst [])) := .new (aW hl _)
 let W : Nat → Nat → L2.St → Hp → Prop := fun i k σ2 H2 => k = us.length - i ∧ i ≤ us.length ∧ ∃ m2 ρ2 S2, Ext K (m1 ++ [l]) (upd H1 l (.lst [])) m2 H2 ∧ Sr K m2 S2 H2 ∧ Lr K m2 H2 ρ2 σ2 ∧ bh ok g ct ce S1.length (us.drop i) ρ2 S2 = some S'
 refine ⟨W, ⟨us.length, by simp, Nat.zero_le _, m1 ++ [l], gc n caps ρ, S1 ++ [.lst []], .refl, sr1.new (o := .lst []) hl ⟨[], aD, .nil_⟩, m9 (lr.mono ee), by simpa using h2⟩, ?_⟩
 rintro i k σ2 H2 ⟨rfl, hi, m2, ρ2, S2, e2, sr2, lr2, hl2⟩
 by_cases hlt : i < us.length
 ·have hu := List.getElem?_eq_getElem hlt
  rw [eX hu] at hl2
  unfold bh at hl2
  split at hl2
  ·rename_i hok
   obtain ⟨⟨ρ3, S3⟩, h3, hl2⟩ := Option.bind_eq_some_iff.mp hl2
   obtain ⟨⟨b4, S4⟩, h4, hl2⟩ := Option.bind_eq_some_iff.mp hl2
   obtain ⟨hgo, hy⟩ := (ito m2 S2 H2 i (ee.trans e2) sr2 hok).1 _ hu
   refine .inr ⟨hgo, W (i + 1) (us.length - (i + 1)), fun σ' H' w' => ⟨_, by omega, w'⟩, fun x H3 y => ?_⟩
   obtain ⟨e3, sr3, ix⟩ := hy x H3 y
   refine ⟨m2, ρ2, S2, _, ρ3, S3, sr3, lr2.mono e3, ix, h3, fun m4 σ4 H4 e4 sr4 lr4 => ⟨m4, ρ3, S3, b4, S4, sr4, lr4, h4, fun m4' H4' e4' sr4' => ?_⟩⟩
   cases b4 with
   | false =>
    rw [if_neg Bool.false_ne_true] at hl2
    exact ⟨rfl, hlt, m4', ρ3, _, (((e2.trans e3).trans e4).trans e4'), sr4', lr4.mono e4', hl2⟩
   | true =>
    rw [if_pos rfl] at hl2
    obtain ⟨⟨u5, S5⟩, h5, hl2⟩ := Option.bind_eq_some_iff.mp hl2
    simp only at hl2
    split at hl2 <;> try cases hl2
    rename_i ys hys
    split at hl2 <;> try cases hl2
    rename_i cH
    refine ⟨m4', ρ3, S4, u5, S5, sr4', lr4.mono e4', h5, fun m5 v5 H5 e5 sr5 i5 => ?_⟩
    obtain ⟨a', ha', xs, hx, il⟩ := sr5.get hys
    have ha : m5[S1.length]? = some l := ((((e2.trans e3).trans e4).trans e4').trans e5).get (bQ sr1.len)
    rw [ha] at ha'; cases ha'
    have eu : Ext K m5 H5 m5 (upd H5 l (.lst (xs ++ [v5]))) := .of (sr5.keep ha _)
    exact ⟨xs, hx, wm (by rw [il.length]; exact cH), rfl, hlt, m5, ρ3, _, (((((e2.trans e3).trans e4).trans e4').trans e5).trans eu), sr5.put (o := .lst (ys ++ [u5])) ha ⟨_, aD, (il.append (.cons_ i5 .nil_)).mono eu⟩, (lr4.mono ((e4'.trans e5).trans eu)), hl2⟩
  ·cases hl2
 ·have e : i = us.length := by omega
  subst e
  rw [List.drop_length] at hl2
  unfold bh at hl2
  split at hl2
  ·rename_i hok
   cases hl2
   exact .inl ⟨(ito m2 _ H2 _ (ee.trans e2) sr2 hok).2 (Nat.le_refl _), post m2 H2 e2 sr2⟩
  ·cases hl2
theorem fK {ci : CI} {g : CG} {ct : CT} {ce : CE} {n : Nat} {caps : List Nat} : ∀ σ H Q, tE K (aV ci g ct ce n caps) σ H Q → fX (tI K ci) (tG K g) (tT K ct) (tE K ce) n caps σ H Q := by
 rintro σ H Q ⟨m, ρ, S, u, S', sr, lr, hc, post⟩
 obtain ⟨⟨us, ok, S1⟩, h1, h2⟩ := Option.bind_eq_some_iff.mp hc
 obtain ⟨S2, h2, h3⟩ := Option.bind_eq_some_iff.mp h2
 cases h3
 refine ⟨m, ρ, S, us, ok, S1, sr, lr, h1, fun m1 H1 J e1 sr1 ito l hl => ?_⟩
 have ee : Ext K m1 H1 (m1 ++ [l]) (upd H1 l (.lst [])) := .new (aW hl _)
 exact jy sr1 (lr.mono e1) ito hl h2 fun m2 H2 e2 sr2 => post m2 _ H2 ((e1.trans ee).trans e2) sr2 (.ref_ (e2.get (bQ sr1.len)))
theorem jX {Nc capN tn : List Str} {scope : Scope} {cl : List (Str × Addr)} {n : Nat} {caps : List Nat} {tg iter elt : Expr} {pos : Pos} {ci : CI} {g : CG} {ct : CT} {ce : CE} {c : Expr}
  (hc : X.calm = true) (hi : QI X tg iter ci) (hg : ∀ s3 H3 fp, WG (cxC X Nc scope cl s3 H3 fp) tg (tG X.K g)) (ht : ∀ s3 H3 fp, WT (cxC X Nc scope cl s3 H3 fp) c (tT X.K ct)) (he : ∀ s3 H3 fp, WE (cxC X Nc scope cl s3 H3 fp) elt (tE X.K ce))
  (hclos : closureFor scope X.env = pure cl) (hkind : scope.kind = .function) (hnl : ∀ x ∈ scope.names, x.2 = .local → scope.names.lookup x.1 = some .local) (hcell : ∀ x ∈ scope.names, x.2 ≠ .cell)
  (hcl : kE X.env cl) (hhas : ((relabel scope X.env).names.all fun p => !(p.2 == .cell || p.2 == .free) || (cl.lookup p.1).isSome) = true)
  (hcap : Paired (Cap X scope cl) caps capN) (hN : Nc = tn ++ capN) (hn : tn.length = n)
  (hs : ∀ x, foldedSetIterable iter X.env x = pure x := by intro _; rfl) :
  QE X (.ListComp elt [⟨tg, iter, [c], 0⟩] scope pos) (aV ci g ct ce n caps) := (kH hc hi hg he ht hclos hkind hnl hcell hcl hhas hcap hN hn hs).imp fK
end
end OP
namespace OP
open PySem PySem.Spec PyProof PyProof.Rows L2 OG
mutual
inductive RdV (K : PySem.W.Frag) (H : Hp) : V → PyData → Prop
 | non : RdV K H .non .none
 | bl (b : Bool) : RdV K H (.bl b) (.bool b)
 | int (i : Int) : RdV K H (.int i) (.int i)
 | str (x : Str) : RdV K H (.str x) (.str x)
 | lst {a : Addr} {xs : List V} {ds : List PyData} : SqL K H a xs → om K H xs ds → RdV K H (.ref a) (.list ds)
 | tup {a : Addr} {xs : List V} {ds : List PyData} : SqT K H a xs → om K H xs ds → RdV K H (.ref a) (.tuple ds)
inductive om (K : PySem.W.Frag) (H : Hp) : List V → List PyData → Prop
 | nil : om K H [] []
 | cons {x : V} {xs : List V} {d : PyData} {ds : List PyData} : RdV K H x d → om K H xs ds → om K H (x :: xs) (d :: ds)
end
mutual
inductive Dt (S : Sto) : U → PyData → Prop
 | non : Dt S .non .none
 | bl (b : Bool) : Dt S (.bl b) (.bool b)
 | int (i : Int) : Dt S (.int i) (.int i)
 | str (x : Str) : Dt S (.str x) (.str x)
 | lst {l : Nat} {us : List U} {ds : List PyData} : S[l]? = some (.lst us) → DtL S us ds → Dt S (.ref l) (.list ds)
 | tup {us : List U} {ds : List PyData} : DtL S us ds → Dt S (.tup us) (.tuple ds)
inductive DtL (S : Sto) : List U → List PyData → Prop
 | nil : DtL S [] []
 | cons {x : U} {xs : List U} {d : PyData} {ds : List PyData} : Dt S x d → DtL S xs ds → DtL S (x :: xs) (d :: ds)
end
section
variable {X : Cx} {K : PySem.W.Frag} {pins : List (Addr × Obj)} {σ : L2.St} {H : Hp} {s : Shared}
mutual
theorem RdV.reads (I : Inv X pins σ H s) : ∀ {x : V} {d : PyData} {v : Value}, RdV X.K H x d → bq x v → ∃ as, Reads s.heap v d as
 | _, _, _, .non, r => by cases r; exact ⟨_, .none⟩
 | _, _, _, .bl b, r => by cases r; exact ⟨_, .bool b⟩
 | _, _, _, .int i, r => by obtain ⟨t, rfl⟩ := r; exact ⟨_, .int i t⟩
 | _, _, _, .str i, r => by obtain ⟨t, rfl⟩ := r; exact ⟨_, .str i t⟩
 | _, _, _, .lst (a := a) h t, r => by
  cases r
  obtain ⟨its, rv, pl, _⟩ := I.list h
  obtain ⟨as, k⟩ := om.reads I t rv
  obtain ⟨o, h1, h2, n, h3⟩ := pl.isList
  exact ⟨_, .list h1 h2 h3 (by simpa using k)⟩
 | _, _, _, .tup (a := a) h t, r => by
  cases r
  obtain ⟨its, rv, pl, _⟩ := I.tuple h
  obtain ⟨as, k⟩ := om.reads I t rv
  obtain ⟨o, h1, h2, n, h3⟩ := pl
  exact ⟨_, .tuple h1 h2 h3 (by simpa using k)⟩
theorem om.reads (I : Inv X pins σ H s) : ∀ {xs : List V} {ds : List PyData} {vs : List Value}, om X.K H xs ds → aQ xs vs → ∃ as, ReadsAll s.heap vs ds as
 | _, _, _, .nil, r => by cases r; exact ⟨_, .nil⟩
 | _, _, _, .cons h t, .cons r rs => by
  obtain ⟨as, a⟩ := RdV.reads I h r
  obtain ⟨bs, b⟩ := om.reads I t rs
  exact ⟨_, .cons a b⟩
end
mutual
theorem Dt.rd {m : List Addr} {S : Sto} (sr : Sr K m S H) : ∀ {u : U} {d : PyData} {v : V}, Dt S u d → Is K m H v u → RdV K H v d
 | _, _, _, .non, i => by rw [i.of_non]; exact .non
 | _, _, _, .bl b, i => by rw [i.of_bl]; exact .bl b
 | _, _, _, .int b, i => by rw [i.of_int]; exact .int b
 | _, _, _, .str b, i => by rw [i.of_str]; exact .str b
 | _, _, _, .lst h t, i => by
  obtain ⟨a, ha, rfl⟩ := i.of_ref
  obtain ⟨a', ha', xs, hx, il⟩ := sr.get h
  rw [ha] at ha'; cases ha'
  exact .lst (SqL.of hx) (DtL.rd sr t il)
 | _, _, _, .tup t, i => by
  obtain ⟨a, xs, rfl, sa, la⟩ := i.of_tup
  exact .tup sa (DtL.rd sr t la)
theorem DtL.rd {m : List Addr} {S : Sto} (sr : Sr K m S H) : ∀ {us : List U} {ds : List PyData} {vs : List V}, DtL S us ds → IsL K m H vs us → om K H vs ds
 | _, _, _, .nil, i => by rw [i.of_nil]; exact .nil
 | _, _, _, .cons h t, i => by
  obtain ⟨x, r, rfl, i1, i2⟩ := i.of_cons
  exact .cons (Dt.rd sr h i1) (DtL.rd sr t i2)
end
mutual
theorem Dt.uniq {S : Sto} : ∀ {u : U} {d e : PyData}, Dt S u d → Dt S u e → d = e
 | _, _, _, .non, .non => rfl
 | _, _, _, .bl _, .bl _ => rfl
 | _, _, _, .int _, .int _ => rfl
 | _, _, _, .str _, .str _ => rfl
 | _, _, _, .lst h t, .lst h' t' => by
  rw [h] at h'; cases h'
  rw [DtL.uniq t t']
 | _, _, _, .tup t, .tup t' => by rw [DtL.uniq t t']
theorem DtL.uniq {S : Sto} : ∀ {us : List U} {ds es : List PyData}, DtL S us ds → DtL S us es → ds = es
 | _, _, _, .nil, .nil => rfl
 | _, _, _, .cons h t, .cons h' t' => by rw [Dt.uniq h h', DtL.uniq t t']
end
noncomputable def oz (d : PyData) : Prop := d.canLay0 = true ∧ d.depth ≤ 60
noncomputable def yH (K : PySem.W.Frag) (neg : Bool) : R2 := fun x y H Q => (∃ dx dy, RdV K H x dx ∧ RdV K H y dy ∧ oz dx ∧ oz dy ∧ Q (.bl (if neg then !dx.eqv dy else dx.eqv dy)) H) ∨
 ∃ a b xs ys, x = .ref a ∧ y = .ref b ∧ SqL K H a xs ∧ SqL K H b ys ∧ xs.length ≠ ys.length ∧ Q (.bl neg) H
theorem qB (hu : X.A.units + 64 < cLine) : OpR X (compareOp .Eq) (yH X.K false) := by
 rintro pins s σ H x y v u Q I rx ry (⟨dx, dy, hx, hy, lx, ly, q⟩ | ⟨a, b, xs, ys, rfl, rfl, ha, hb, ne, q⟩)
 ·obtain ⟨as, hx⟩ := hx.reads I rx
  obtain ⟨bs, hy⟩ := hy.reads I ry
  exact SeqAt.compareEq_reads hx hy lx.1 ly.1 (by have := lx.2; omega) ⟨.bl _, H, I, rfl, q⟩
 ·cases rx
  cases ry
  obtain ⟨i1, r1, p1, _⟩ := I.list ha
  obtain ⟨i2, r2, p2, _⟩ := I.list hb
  have l1 := r1.length
  have l2 := r2.length
  exact SeqAt.RcAt.lists_lengths p1.isList p2.isList (by simp; omega) (by omega) X.prog X.w X.xe _ ⟨.bl false, H, I, rfl, q⟩
theorem mQ (hu : X.A.units + 64 < cLine) : OpR X (compareOp .NotEq) (yH X.K true) := by
 rintro pins s σ H x y v u Q I rx ry (⟨dx, dy, hx, hy, lx, ly, q⟩ | ⟨a, b, xs, ys, rfl, rfl, ha, hb, ne, q⟩)
 ·obtain ⟨as, hx⟩ := hx.reads I rx
  obtain ⟨bs, hy⟩ := hy.reads I ry
  exact SeqAt.compareNe_reads hx hy lx.1 ly.1 (by have := lx.2; omega) ⟨.bl _, H, I, rfl, q⟩
 ·cases rx
  cases ry
  obtain ⟨i1, r1, p1, _⟩ := I.list ha
  obtain ⟨i2, r2, p2, _⟩ := I.list hb
  have l1 := r1.length
  have l2 := r2.length
  exact SeqAt.RcNeAt.lists_lengths p1.isList p2.isList (by simp; omega) (by omega) X.prog X.w X.xe _ ⟨.bl true, H, I, rfl, q⟩
noncomputable def oC (x y : U) (S : Sto) (b : Bool) : Prop := (∃ dx dy, Dt S x dx ∧ Dt S y dy ∧ oz dx ∧ oz dy ∧ b = dx.eqv dy) ∨ ∃ l l' us vs, x = .ref l ∧ y = .ref l' ∧ S[l]? = some (.lst us) ∧ S[l']? = some (.lst vs) ∧ us.length ≠ vs.length ∧ b = false
theorem DtL.length {S : Sto} : ∀ {us : List U} {ds : List PyData}, DtL S us ds → us.length = ds.length
 | _, _, .nil => rfl
 | _, _, .cons _ t => by rw [List.length_cons, List.length_cons, DtL.length t]
theorem oC.mix {l l' : Nat} {us vs : List U} {S : Sto} {dx dy : PyData} (h1 : Dt S (.ref l) dx) (h2 : Dt S (.ref l') dy) (k1 : S[l]? = some (.lst us)) (k2 : S[l']? = some (.lst vs)) (ne : us.length ≠ vs.length) : dx.eqv dy = false := by
 cases h1 with
 | lst a1 t1 =>
  cases h2 with
  | lst a2 t2 =>
   rw [k1] at a1; cases a1
   rw [k2] at a2; cases a2
   show PyData.eqvAll _ _ = false
   exact SeqAt.eqvAll_other_length (by rw [← t1.length, ← t2.length]; exact ne)
theorem oC.uniq {x y : U} {S : Sto} {b c : Bool} (h : oC x y S b) (k : oC x y S c) : b = c := by
 rcases h with ⟨dx, dy, h1, h2, _, _, rfl⟩ | ⟨l, l', us, vs, rfl, rfl, h1, h2, ne, rfl⟩
 ·rcases k with ⟨ex, ey, k1, k2, _, _, rfl⟩ | ⟨l, l', us, vs, rfl, rfl, k1, k2, ne, rfl⟩
  ·rw [h1.uniq k1, h2.uniq k2]
  ·exact oC.mix h1 h2 k1 k2 ne
 ·rcases k with ⟨ex, ey, k1, k2, _, _, rfl⟩ | ⟨_, _, _, _, _, _, _, _, _, rfl⟩
  ·exact (oC.mix k1 k2 h1 h2 ne).symm
  ·rfl
open Classical in
noncomputable def ko (neg : Bool) : U → U → Sto → Option (U × Sto) := fun x y S => if h : ∃ b, oC x y S b then some (.bl (if neg then !h.choose else h.choose), S) else none
theorem jq {x y : U} {S : Sto} {b : Bool} (neg : Bool) (h : oC x y S b) : ko neg x y S = some (.bl (if neg then !b else b), S) := by
 unfold ko
 rw [dif_pos ⟨b, h⟩]
 have e : (⟨b, h⟩ : ∃ b, oC x y S b).choose = b := (Exists.choose_spec (⟨b, h⟩ : ∃ b, oC x y S b)).uniq h
 rw [e]
theorem mP {neg : Bool} : OpP K (yH K neg) (ko neg) := by
 intro m S H x y v w u S' Q sr ix iy hf post
 unfold ko at hf
 split at hf <;> try cases hf
 rename_i h
 have hb := h.choose_spec
 generalize h.choose = b at hb post
 rcases hb with ⟨dx, dy, h1, h2, l1, l2, rfl⟩ | ⟨l, l', us, vs, rfl, rfl, h1, h2, ne, rfl⟩
 ·exact .inl ⟨dx, dy, h1.rd sr ix, h2.rd sr iy, l1, l2, post m _ H .refl sr .bl_⟩
 ·obtain ⟨a, ha, rfl⟩ := ix.of_ref
  obtain ⟨a', ha', xs, hx, la⟩ := sr.get h1
  rw [ha] at ha'; cases ha'
  obtain ⟨c, hc, rfl⟩ := iy.of_ref
  obtain ⟨c', hc', ys, hy, lc⟩ := sr.get h2
  rw [hc] at hc'; cases hc'
  refine .inr ⟨a, c, xs, ys, rfl, rfl, SqL.of hx, SqL.of hy, by rw [la.length, lc.length]; exact ne, ?_⟩
  have e : (if neg = true then !false else false) = neg := by cases neg <;> rfl
  have := post m _ H .refl sr (Is.bl_ (b := if neg = true then !false else false))
  rw [e] at this
  exact this
noncomputable def ua (us : List U) (lo hi : Option Int) : List U := (us.drop (HT.sIx us.length 0 lo)).take (HT.sIx us.length us.length hi - HT.sIx us.length 0 lo)
theorem qL {m : List Addr} {xs : List V} {us : List U} {lo hi : Option Int} (i : IsL K m H xs us) : IsL K m H (qM xs lo hi) (ua us lo hi) := by
 unfold qM ua
 rw [i.length]
 exact (i.drop _).take _
noncomputable def fSl (x : U) (lo hi : Option Int) (S : Sto) : Option (U × Sto) := match x with
 | .tup us => if HT.sIx us.length 0 lo = 0 ∧ HT.sIx us.length us.length hi = us.length then none else some (.tup (ua us lo hi), S)
 | .ref l => match S[l]? with
  | some (.lst us) => some (.ref S.length, S ++ [.lst (ua us lo hi)])
  | _ => none
 | _ => none
noncomputable def lF : Option CE → Rho → Sto → Option (Option Int × Sto)
 | none, _, S => some (none, S)
 | some c, ρ, S => (c ρ S).bind fun p => match p.1 with
  | .int i => some (some i, p.2)
  | _ => none
noncomputable def cSl (ca : CE) (cl ch : Option CE) : CE := fun ρ S => (ca ρ S).bind fun p => (lF cl ρ p.2).bind fun q => (lF ch ρ q.2).bind fun r => fSl p.1 q.1 r.1 r.2
noncomputable def zC (K : PySem.W.Frag) (m : List Addr) (H : Hp) (Q : Option Int → Hp → Prop) (o : Option Int) (S' : Sto) : Prop := ∀ m' H', Ext K m H m' H' → Sr K m' S' H' → Q o H'
noncomputable def tO (K : PySem.W.Frag) (c : Option CE) : TO := fun σ H Q => ∃ m ρ S o S', Sr K m S H ∧ Lr K m H ρ σ ∧ lF c ρ S = some (o, S') ∧ zC K m H Q o S'
noncomputable abbrev QO (X : Cx) (e : Option Expr) (c : Option CE) : Prop := WO X e (tO X.K c)
theorem i9 : QO X none none := ⟨fun pins s σ H Q I hz => eV hz fun m ρ S o S' sr lr hc post => oK.h pins s σ H Q I (by cases hc; exact post m H .refl sr)⟩
theorem i8 {e : Expr} {ca : CE} (h : QE X e ca) : QO X (some e) (some ca) := ⟨fun pins s σ H Q I hz => eV hz fun m ρ S o S' sr lr hc post => (oJ h).h pins s σ H Q I (by
 obtain ⟨⟨x, S1⟩, h1, h2⟩ := Option.bind_eq_some_iff.mp hc
 refine ⟨m, ρ, S, x, S1, sr, lr, h1, fun m1 v1 H1 e1 sr1 i1 => ?_⟩
 cases x <;> simp at h2
 obtain ⟨rfl, rfl⟩ := h2
 exact ⟨_, i1.of_int, post m1 H1 e1 sr1⟩)⟩
theorem yK {e : Expr} {lo hi : Option Expr} {ca : CE} {cl ch : Option CE} {pos p2 : Pos} (ha : QE X e ca) (hl : QO X lo cl) (hh : QO X hi ch) : QE X (.Subscript e (.Slice lo hi none p2) pos) (cSl ca cl ch) := (lY (sk.or vk) ha hl hh).imp fun σ H Q hz => eV hz fun m ρ S u S' sr lr hc post => by
 obtain ⟨⟨x, S1⟩, h1, ha⟩ := Option.bind_eq_some_iff.mp hc
 obtain ⟨⟨l, S2⟩, h2, hb⟩ := Option.bind_eq_some_iff.mp ha
 obtain ⟨⟨k, S3⟩, h3, h⟩ := Option.bind_eq_some_iff.mp hb
 clear ha hb hc
 refine ⟨m, ρ, S, x, S1, sr, lr, h1, fun m1 v1 H1 e1 sr1 i1 => ⟨m1, ρ, S1, l, S2, sr1, lr.mono e1, h2, fun m2 H2 e2 sr2 => ⟨m2, ρ, S2, k, S3, sr2, lr.mono (e1.trans e2), h3, fun m3 H3 e3 sr3 => ?_⟩⟩⟩
 have i3 := i1.mono (e2.trans e3)
 have e03 := (e1.trans e2).trans e3
 cases x with
 | tup us =>
  simp only [fSl] at h
  split at h <;> try cases h
  rename_i hw
  obtain ⟨a, xs, rfl, sa, la⟩ := i3.of_tup
  exact .inr ⟨a, xs, rfl, sa, by rw [la.length]; exact hw, fun p hp => gm sr3 (qL la) (post.mono e03) hp⟩
 | ref r =>
  simp only [fSl] at h
  split at h <;> try cases h
  rename_i us hS
  obtain ⟨a, ha, rfl⟩ := i3.of_ref
  obtain ⟨a', ha', xs, hx, la⟩ := sr3.get hS
  rw [ha] at ha'; cases ha'
  exact .inl ⟨a, xs, rfl, SqL.of hx, fun p hp => cq sr3 (qL la) (post.mono e03) hp⟩
 | _ => simp [fSl] at h
end
section
variable {X : Cx} {K : PySem.W.Frag}
instance {us : List U} : Decidable (us ≠ []) := match us with
 | [] => .isFalse fun h => h rfl
 | _ :: _ => .isTrue fun h => by cases h
end
end OP
namespace OG
open PySem PySem.Spec PyProof.Rows L2
theorem we {C a : Addr} {m : Str → Option Value} {h h' : Heap} (n : h.Ns C m) (s : Heap.SameBut a h h') (ne : C ≠ a) : h'.Ns C m := by
 obtain ⟨o, es, ep, e, r⟩ := n
 exact ⟨o, es, ep, (s.2 C ne).trans e, r⟩
theorem gM {X : Cx} {Nc capN tn : List Str} {scope : Scope} {cl : List (Str × Addr)} {n : Nat} {caps : List Nat} {tg iter elt : Expr} {pos : Pos} {wi : TI} {g : TG} {te : TE} {tt : TT} {c : Expr}
  (hc : X.calm = true) (hi : WI X tg iter wi) (hg : ∀ s3 H3 fp, WG (cxC X Nc scope cl s3 H3 fp) tg g) (he : ∀ s3 H3 fp, WE (cxC X Nc scope cl s3 H3 fp) elt te)
  (ht : ∀ s3 H3 fp, WT (cxC X Nc scope cl s3 H3 fp) c tt)
  (hclos : closureFor scope X.env = pure cl) (hkind : scope.kind = .function) (hnl : ∀ x ∈ scope.names, x.2 = .local → scope.names.lookup x.1 = some .local) (hcell : ∀ x ∈ scope.names, x.2 ≠ .cell)
  (hcl : kE X.env cl) (hhas : ((relabel scope X.env).names.all fun p => !(p.2 == .cell || p.2 == .free) || (cl.lookup p.1).isSome) = true)
  (hcap : Paired (Cap X scope cl) caps capN) (hN : Nc = tn ++ capN) (hn : tn.length = n)
  {i₀ : Nat} {x₀ : Str} {pos₀ pos' : Pos} (hN0 : X.N.Nodup) (hi0 : X.N[i₀]? = some x₀) (hx0 : X.env.scope.names.lookup x₀ = some .local)
  (hsw : swapsWith (.ListComp elt [⟨tg, iter, [c], 0⟩] scope pos) (some (.Name x₀ pos')) pos₀.line X.env = pure true)
  (hs : ∀ x, foldedSetIterable iter X.env x = pure x := by intro _; rfl) :
  WS X (.Assign [.Name x₀ pos'] (.ListComp elt [⟨tg, iter, [c], 0⟩] scope pos) pos₀) (fun D σ H => fX wi g tt te n caps σ H fun v H' => D.nx (σ.set i₀ (some v)) H') := by
 constructor
 intro pins s σ H Dn I h
 rw [exec_Assign_arm]
 refine wpAny_bind (wpAny_standAt ?_)
 have hsw' : swapsWithSole [.Name x₀ pos'] (.ListComp elt [⟨tg, iter, [c], 0⟩] scope pos) pos₀.line X.env = pure true := hsw
 rw [hsw']
 refine wpAny_bind (wpAny_pure ?_)
 rw [if_pos rfl, arm_evalThenUse_ListComp]
 refine wpAny_bind (wpAny_bind (fM (Qf := fun _ s' => wpAny (model X.prog X.w) X.A (pure ()) (fun _ s' => wpAny (model X.prog X.w) X.A (pure Flow.next) (SP X pins Dn) X.xe s') X.xe s') hc hi hg he ht hclos hkind hnl hcell hcl hhas hcap hN hn I h (fun D C s6 H5 m I7 hm fr nl sz cn pn qn => ?_) hs))
 show wpAny _ _ (assign (.Name x₀ pos') X.env (.ref D)) _ _ s6
 rw [arm_assign_Name]
 refine wpAny_bind (wpAny_standAt (wpAny_bindName (gU (v := .ref D) I7 hN0 hi0 (.inl hx0) rfl (fun s7 I7' hsb => ?_) (.inr hx0))))
 obtain ⟨a7, hsb, ha7⟩ := hsb
 have cNe : C ≠ a7 := by
  rcases ha7 with z | z
  ·rw [z]; exact nl
  ·exact Ne.symm (cn _ _ z)
 refine ⟨m, we hm hsb cNe, fun h' hs' => wpAny_pure (wpAny_pure ⟨_, H5, ?_, qn⟩)⟩
 exact I7'.turned (t' := s7.toks) (it := C) (fun b o hb e => hs'.extBut b o hb e) fr nl (.inr sz) cn pn
end OG
namespace OP
open PySem PySem.Spec PyProof.Rows L2 OG
section
variable {X : Cx} {K : PySem.W.Frag}
theorem dW {i₀ : Nat} {x₀ : Str} {pos₀ pos' : Pos} {Nc capN tn : List Str} {scope : Scope} {cl : List (Str × Addr)} {n : Nat} {caps : List Nat} {tg iter elt : Expr} {pos : Pos} {ci : CI} {g : CG} {ct : CT} {ce : CE} {c : Expr}
  (hc : X.calm = true) (hi : QI X tg iter ci) (hg : ∀ s3 H3 fp, WG (cxC X Nc scope cl s3 H3 fp) tg (tG X.K g)) (ht : ∀ s3 H3 fp, WT (cxC X Nc scope cl s3 H3 fp) c (tT X.K ct)) (he : ∀ s3 H3 fp, WE (cxC X Nc scope cl s3 H3 fp) elt (tE X.K ce))
  (hclos : closureFor scope X.env = pure cl) (hkind : scope.kind = .function) (hnl : ∀ x ∈ scope.names, x.2 = .local → scope.names.lookup x.1 = some .local) (hcell : ∀ x ∈ scope.names, x.2 ≠ .cell)
  (hcl : kE X.env cl) (hhas : ((relabel scope X.env).names.all fun p => !(p.2 == .cell || p.2 == .free) || (cl.lookup p.1).isSome) = true)
  (hcap : Paired (Cap X scope cl) caps capN) (hN : Nc = tn ++ capN) (hn : tn.length = n)
  (hN0 : X.N.Nodup) (hi0 : X.N[i₀]? = some x₀) (hx0 : X.env.scope.names.lookup x₀ = some .local)
  (hsw : swapsWith (.ListComp elt [⟨tg, iter, [c], 0⟩] scope pos) (some (.Name x₀ pos')) pos₀.line X.env = pure true)
  (hs : ∀ x, foldedSetIterable iter X.env x = pure x := by intro _; rfl) :
  QS X (.Assign [.Name x₀ pos'] (.ListComp elt [⟨tg, iter, [c], 0⟩] scope pos) pos₀) (cI i₀ (aV ci g ct ce n caps)) := (gM hc hi hg he ht hclos hkind hnl hcell hcl hhas hcap hN hn hN0 hi0 hx0 hsw hs).imp fun D σ H hz => nI hz fun m ρ S o ρ' S' sr lr hc post => by
 obtain ⟨⟨u, S1⟩, h1, h2⟩ := Option.bind_eq_some_iff.mp hc
 cases h2
 exact fK _ _ _ ⟨m, ρ, S, u, _, sr, lr, h1, fun m1 v1 H1 e1 sr1 i1 => post m1 _ H1 e1 sr1 ((lr.mono e1).set i₀ i1)⟩
end
end OP
namespace OP
open PySem PySem.Spec PyProof PyProof.Rows L2 OG
section
variable {X : Cx} {K : PySem.W.Frag}
noncomputable def iU (ca : CE) : CE := fun ρ S => (ca ρ S).bind fun p => match p.1 with
 | .int i => some (.int (-i), p.2)
 | _ => none
theorem qm : UnR X (unaryOp .USub) (fun x H Q => ∃ i, x = .int i ∧ Q (.int (-i)) H) := by
 rintro pins s σ H x v Q I rx ⟨i, rfl, q⟩
 obtain ⟨t, rfl⟩ := rx
 exact PyProof.Rows.neg_int ⟨.int (-i), H, I.tok _, ⟨_, rfl⟩, q⟩
theorem g7 {a : Expr} {ca : CE} {pos : Pos} (ha : QE X a ca) : QE X (.UnaryOp .USub a pos) (iU ca) := (uX qm ha).imp fun σ H Q hz => eV hz fun m ρ S u S' sr lr hc post => by
 obtain ⟨⟨x, S1⟩, h1, h2⟩ := Option.bind_eq_some_iff.mp hc
 refine ⟨m, ρ, S, x, S1, sr, lr, h1, fun m1 v1 H1 e1 sr1 i1 => ?_⟩
 cases x <;> simp at h2
 obtain ⟨rfl, rfl⟩ := h2
 exact ⟨_, i1.of_int, post m1 _ H1 e1 sr1 .int_⟩
noncomputable def fG : U → List U → Sto → Option (U × Sto)
 | .ref l, [.int i], S => match S[l]? with
  | some (.lst us) => if 0 ≤ i ∧ i < us.length ∧ us.length ≤ LIM then (us[i.toNat]?).bind fun u => some (u, S.set l (.lst (us.eraseIdx i.toNat))) else none
  | _ => none
 | _, _, _ => none
theorem sW : MtP K qv fG := by
 intro m S H x v us vs u S' Q sr ix i hf post
 match x, us, hf with
 | .ref l, [.int k], hf =>
  simp only [fG] at hf
  split at hf <;> try cases hf
  rename_i ws hS
  split at hf <;> try cases hf
  rename_i hk
  obtain ⟨w, hw, h⟩ := Option.bind_eq_some_iff.mp hf
  cases h
  obtain ⟨a, ha, rfl⟩ := ix.of_ref
  obtain ⟨a', ha', xs, hx, la⟩ := sr.get hS
  rw [ha] at ha'; cases ha'
  obtain ⟨y, hy, iy⟩ := la.getD hw
  obtain ⟨z, rfl, iz⟩ := i.one
  have eu : Ext K m H m (upd H a (.lst (xs.eraseIdx k.toNat))) := .of (sr.keep ha _)
  have hL : ws.length ≤ 100000 := hk.2.2
  exact ⟨a, xs, k, k.toNat, y, rfl, by rw [iz.of_int], hx, by omega, by omega, seqIndex_of hk.1 (by rw [la.length]; exact hk.2.1), hy, post m _ _ eu (sr.put ha ⟨_, aD, (la.erase _).mono eu⟩) (iy.mono eu)⟩
variable {e : Expr} {es : List Expr} {co : CE} {cr : CA} {o : Expr} {apos cpos : Pos}
theorem sy (ho : QE X o co) (ha : QA X (e :: es) cr) (hbase : attributeBase o "pop" X.env (eval o X.env) = eval o X.env := by rfl) (hfew : ((backTo cpos (starEach (e :: es) X.env)).all (fun x => !x.1) && (backToKw cpos (keywordEach [] X.env)).all (fun x => x.1.isSome)
   && decide ((e :: es).length + ([] : List Keyword).length + (if ([] : List Keyword).isEmpty then 0 else 1) < 30)) = true := by rfl) (hline : (apos.endLine == cpos.line) = true := by rfl) (hs : starEach (e :: es) X.env = (false, eval e X.env) :: starEach es X.env := by rfl) (hplain : (backTo cpos (starEach es X.env)).any (·.1) = false := by rfl) :
  QE X (.Call (.Attribute o "pop" apos) (e :: es) [] cpos) (cBM fG co cr) := (me PySem.F.plainAttrs_list PySem.F.slot_list_pop PySem.F.type_list_pop pJ ho ha.h hbase hfew hline hs hplain).imp (n8 sW)
noncomputable def dQ (cr : CA) : CE := fun ρ S => (cr ρ S).bind fun p => match p.1 with
 | [.int j] => if 0 ≤ j ∧ j ≤ 1000 then some (.ref p.2.length, p.2 ++ [.lst (aP 0 j.toNat)]) else none
 | _ => none
theorem fF : ∀ (n : Nat) (a : Int) (vs : List Value), vs.length = n → (∀ (j : Nat) (v : Value), vs[j]? = some v → ∃ t, v = Value.int (a + (j : Int)) t) → aQ ((List.range n).map fun i : Nat => V.int (a + (i : Nat))) vs
 | 0, a, vs, hl, h => by
  rw [List.length_eq_zero_iff.mp hl]; exact .nil
 | n + 1, a, [], hl, h => by simp at hl
 | n + 1, a, v :: vs, hl, h => by
  rw [List.range_succ_eq_map, List.map_cons, List.map_map]
  refine .cons ?_ ?_
  ·obtain ⟨t, e⟩ := h 0 v rfl
   exact ⟨t, by simpa using e⟩
  ·have := fF n (a + 1) vs (by simpa using hl) fun j x hx => by
    obtain ⟨t, e⟩ := h (j + 1) x (by simpa using hx)
    exact ⟨t, by rw [e]; congr 1; omega⟩
   have e : (List.range n).map (fun i : Nat => V.int (a + 1 + (i : Nat))) = (List.range n).map ((fun i : Nat => V.int (a + (i : Nat))) ∘ Nat.succ) := List.map_congr_left fun i _ => by
    simp only [Function.comp]; congr 1; omega
   rw [← e]; exact this
theorem gQ {a : Expr} {ta : TA} {p1 p2 pos1 pos2 : Pos} (hc : X.calm = true) (hgl : Gl X "list") (hml : X.mg "list" = none) (hg : Gl X "range") (hm : X.mg "range" = none) (ha : WA X [a] ta) (hs : starEach [a] X.env = [(false, eval a X.env)])
  (hs1 : starEach [Expr.Call (.Name "range" p2) [a] [] pos2] X.env = [(false, eval (.Call (.Name "range" p2) [a] [] pos2) X.env)]) :
  WE X (.Call (.Name "list" p1) [.Call (.Name "range" p2) [a] [] pos2] [] pos1) (fun σ H Q => ta σ H fun vs H1 => ∃ j : Int, vs = [.int j] ∧ 0 ≤ j ∧ j ≤ 1000 ∧ ∀ p, H1 p = none → Q (.ref p) (upd H1 p (.lst ((List.range j.toNat).map fun i : Nat => V.int (0 + (i : Nat)))))) := by
 constructor
 intro pins s σ H Q I h
 refine wpAny_Call_Name_kw (fE I hgl hml OG.fc ?_ (by decide) (by decide))
 refine PyProof.Rows.callWith_type1 ?_ hs1 rfl
 rw [hs1]
 show wpAny _ _ (spliced [(false, eval (.Call (.Name "range" p2) [a] [] pos2) X.env)]) _ _ s
 refine Calls.spliced_cons ?_
 refine Call_ (fE I hg hm boot_range (PyProof.Rows.callWith_type1 (thn (ha.h pos2 pins s σ H _ I h) fun us s1 ⟨vs, H1, I1, r1, q1⟩ => ?_) hs rfl))
 obtain ⟨j, e, j0, j1, q⟩ := q1
 subst e
 cases r1 with
 | cons r rr =>
  cases rr
  obtain ⟨t, rfl⟩ := r
  refine call_range_1 ?_
  refine Calls.spliced_nil ?_
  have hsz : Builtin.Range.rangeSize 0 j 1 = ((j.toNat : Nat) : Int) := by
   unfold Builtin.Range.rangeSize
   simp
   omega
  refine call_list_range (n := j.toNat) (I1.ok.hd hc) (Heap.get?_push_size _ rfl) ?_ hsz (by omega) fun h' tk acc c' hk hg' hi => ?_
  ·unfold Builtin.Range.small
   rw [hsz]
   unfold Builtin.Range.rangeFitsLong
   simp
   omega
  ·have hv : aQ ((List.range j.toNat).map fun i : Nat => V.int (0 + (i : Nat))) acc.toList := fF j.toNat 0 acc.toList (by simpa using hi.1) fun k v hv => by
    obtain ⟨t, e⟩ := hi.2 k v (by simpa using hv)
    exact ⟨t, by rw [e]; congr 1; omega⟩
   refine ⟨.ref _, _, I1.laid (t' := tk) (o := .lst ((List.range j.toNat).map fun i : Nat => V.int (0 + (i : Nat)))) (fun b ob q => hk b ob (Heap.get?_push_of_some _ q)) (by rw [Heap.size_push]; omega) ?_, rfl, q _ (I1.hok.fresh (by rw [Heap.size_push]; omega))⟩
   exact ⟨by rw [List.length_map, List.length_range]; exact Nat.le_trans (by omega) (show 1000 ≤ sizeLine by decide), _, _, hv, by simpa using hg'⟩
theorem nz {m : List Addr} {H : Hp} (n : Nat) : IsL K m H ((List.range n).map fun i : Nat => V.int (0 + (i : Nat))) (aP 0 n) := by
 unfold aP
 generalize List.range n = l
 induction l with
 | nil => exact .nil_
 | cons a r ih => exact .cons_ .int_ ih
theorem ja {a : Expr} {cr : CA} {p1 p2 pos1 pos2 : Pos} (hc : X.calm = true) (hgl : Gl X "list") (hml : X.mg "list" = none) (hg : Gl X "range") (hm : X.mg "range" = none) (ha : QA X [a] cr) (hs : starEach [a] X.env = [(false, eval a X.env)])
  (hs1 : starEach [Expr.Call (.Name "range" p2) [a] [] pos2] X.env = [(false, eval (.Call (.Name "range" p2) [a] [] pos2) X.env)]) :
  QE X (.Call (.Name "list" p1) [.Call (.Name "range" p2) [a] [] pos2] [] pos1) (dQ cr) := (gQ hc hgl hml hg hm ha.h hs hs1).imp fun σ H Q hz => eV hz fun m ρ S u S' sr lr hc post => by
 obtain ⟨⟨ws, S1⟩, h1, h2⟩ := Option.bind_eq_some_iff.mp hc
 simp only at h2
 split at h2 <;> try cases h2
 rename_i j
 split at h2 <;> try cases h2
 rename_i hj
 refine ⟨m, ρ, S, _, S1, sr, lr, h1, fun m1 v1 H1 e1 sr1 i1 => ?_⟩
 obtain ⟨x, rfl, ix⟩ := i1.one
 rw [ix.of_int]
 exact ⟨j, rfl, hj.1, hj.2, fun p hp => cq sr1 (nz _) (post.mono e1) hp⟩
end
section
variable {X : Cx} {K : PySem.W.Frag}
variable {Nc capN tn : List Str} {scope : Scope} {cl : List (Str × Addr)} {n : Nat} {caps : List Nat} {tg iter elt c : Expr} {pos : Pos} {ci : CE} {g : CG} {ct : CT} {ce : CE}
noncomputable def sg : List U → Option (List Key)
 | [] => some []
 | u :: r => (eg u).bind fun k => (sg r).map (k :: ·)
theorem i0 {m : List Addr} {H : Hp} : ∀ {us : List U} {xs : List V} {ks : List Key}, IsL K m H xs us → sg us = some ks → xs = ks.map kV
 | [], xs, ks, i, h => by cases h; exact i.of_nil
 | u :: r, xs, ks, i, h => by
  obtain ⟨x, t, rfl, ix, it⟩ := i.of_cons
  obtain ⟨k, hk, h⟩ := Option.bind_eq_some_iff.mp h
  obtain ⟨ks', h', rfl⟩ := Option.map_eq_some_iff.mp h
  rw [dN ix hk, i0 it h']; rfl
noncomputable def nY : CE := fun _ S => some (.ref S.length, S ++ [.dit []])
theorem mI {pos : Pos} : QE X (.Dict [] [] pos) nY := l0.imp fun σ H Q hz => eV hz fun m ρ S u S' sr lr hc post => by
 cases hc
 exact fun p hp => post (m ++ [p]) _ _ (.new (aW hp _)) (sr.new hp ⟨[], aD, .nil_⟩) (.ref_ (bQ sr.len))
noncomputable def dg (co : CE) (cr : CA) (cv : CE) : CS := fun ρ S => (cv ρ S).bind fun p => (co ρ p.2).bind fun q => (cr ρ q.2).bind fun r => match q.1 with
 | .ref l => match r.2[l]? with
  | some (.dit kus) => (sg r.1).bind fun k => if kus.length < LIM ∧ r.1.length ≤ LIM then some (.nx, ρ, r.2.set l (.dit (ed kus k p.1))) else none
  | _ => none
 | _ => none
theorem g6 {o : Expr} {es : List Expr} {e : Expr} {co cv : CE} {cr : CA} {k2 : Nat} {p2 pos pos' : Pos} (hu : X.A.units + 1 < cLine) (ho : QE X o co) (hi : QA X es cr) (hv : QE X e cv)
  (hs : swapsWith e (some (.Subscript o (.Tuple es k2 p2) pos')) pos.line X.env = pure false := by rfl) : QS X (.Assign [.Subscript o (.Tuple es k2 p2) pos'] e pos) (dg co cr cv) :=
 (jM hu ho (lX hi.h) hv hs).imp fun D σ H hz => nI hz fun m ρ S oo ρ' S' sr lr hc post => by
 obtain ⟨⟨v, S1⟩, h1, ha⟩ := Option.bind_eq_some_iff.mp hc
 obtain ⟨⟨ou, S2⟩, h2, hb⟩ := Option.bind_eq_some_iff.mp ha
 obtain ⟨⟨ius, S3⟩, h3, h⟩ := Option.bind_eq_some_iff.mp hb
 clear ha hb hc
 cases ou with
 | ref l =>
  simp only at h
  split at h <;> try cases h
  rename_i kus hS
  obtain ⟨k, hk, h4⟩ := Option.bind_eq_some_iff.mp h
  split at h4 <;> try cases h4
  rename_i cH
  refine ⟨m, ρ, S, v, S1, sr, lr, h1, fun m1 v1 H1 e1 sr1 i1 => ⟨m1, ρ, S1, _, S2, sr1, lr.mono e1, h2, fun m2 v2 H2 e2 sr2 i2 => ⟨m2, ρ, S2, ius, S3, sr2, lr.mono (e1.trans e2), h3, fun m3 vs H3 e3 sr3 i3 => ?_⟩⟩⟩
  refine ⟨lim (by rw [i3.length]; exact cH.2), fun p hp => ?_⟩
  obtain ⟨a, ha, rfl⟩ := (i2.mono e3).of_ref
  obtain ⟨a', ha', kvs, hx, ip⟩ := sr3.get hS
  rw [ha] at ha'; cases ha'
  have hvs := i0 i3 hk
  subst hvs
  have s3 : tY H3 (upd H3 p (.tup (k.map kV))) := d7 hp _
  have en : Ext X.K m3 H3 m3 (upd H3 p (.tup (k.map kV))) := .of (aW hp _)
  have srn := sr3.same s3
  have hxn : (upd H3 p (.tup (k.map kV))) a = some (.dT kvs) := s3 _ _ hx
  have e13 := ((e1.trans e2).trans e3).trans en
  have ee : Ext X.K m3 (upd H3 p (.tup (k.map kV))) m3 (upd (upd H3 p (.tup (k.map kV))) a (.dT (iS kvs k v1))) := .of (srn.keep ha _)
  exact ⟨a, _, rfl, qR.t hxn aD (wm (by rw [IsP.length ip]; exact cH.1)), post m3 σ _ (e13.trans ee) (srn.put ha ⟨_, aD, (IsP.put (ip.mono en) (i1.mono ((e2.trans e3).trans en))).mono ee⟩) (lr.mono (e13.trans ee))⟩
 | _ => cases h
end
end OP
namespace OP
open PySem PySem.Spec PyProof PyProof.Rows L2 OG PySem.W
section
variable {cmp : Nat → Nat → (Bool → Shared → Prop) → Shared → Prop} {s : Shared} {n : Nat} {lt : Nat → Nat → Bool}
structure qi (n : Nat) (lt : Nat → Nat → Bool) : Prop where
 tr : ∀ {i j k}, i < n → j < n → k < n → lt i j = true → lt j k = true → lt i k = true
 tot : ∀ {i j}, i < n → j < n → i ≠ j → lt i j = false → lt j i = true
 asym : ∀ {i j}, i < n → j < n → lt i j = true → lt j i = false
noncomputable def ud (cmp : Nat → Nat → (Bool → Shared → Prop) → Shared → Prop) (n : Nat) (lt : Nat → Nat → Bool) (s : Shared) : Prop := ∀ i j C, i < n → j < n → C (lt i j) s → cmp i j C s
structure Pm (n : Nat) (p : Array Nat) : Prop where
 sz : p.size = n
 bd : ∀ i, i < n → p.getD i 0 < n
 ne : ∀ i j, i < j → j < n → p.getD i 0 ≠ p.getD j 0
noncomputable def Asc (lt : Nat → Nat → Bool) (p : Array Nat) (k : Nat) : Prop := ∀ i j, i < j → j < k → lt (p.getD i 0) (p.getD j 0) = true
noncomputable def Dsc (lt : Nat → Nat → Bool) (p : Array Nat) (k : Nat) : Prop := ∀ i j, i < j → j < k → lt (p.getD j 0) (p.getD i 0) = true
variable {p : Array Nat}
theorem Pm.ne' (P : Pm n p) {i j : Nat} (hi : i < n) (hj : j < n) (h : i ≠ j) : p.getD i 0 ≠ p.getD j 0 := by
 rcases Nat.lt_or_gt_of_ne h with z | z
 ·exact P.ne i j z hj
 ·exact Ne.symm (P.ne j i z hi)
theorem Asc.snoc (O : qi n lt) (P : Pm n p) {m : Nat} (h1 : 1 ≤ m) (hm : m < n) (h : Asc lt p m) (h2 : lt (p.getD (m - 1) 0) (p.getD m 0) = true) : Asc lt p (m + 1) := fun i j hij hj => by
 by_cases e : j = m
 ·subst e
  by_cases e2 : i = j - 1
  ·subst e2; exact h2
  ·exact O.tr (P.bd _ (by omega)) (P.bd _ (by omega)) (P.bd _ (by omega)) (h i (j - 1) (by omega) (by omega)) h2
 ·exact h i j hij (by omega)
theorem Dsc.snoc (O : qi n lt) (P : Pm n p) {m : Nat} (h1 : 1 ≤ m) (hm : m < n) (h : Dsc lt p m) (h2 : lt (p.getD m 0) (p.getD (m - 1) 0) = true) : Dsc lt p (m + 1) := fun i j hij hj => by
 by_cases e : j = m
 ·subst e
  by_cases e2 : i = j - 1
  ·subst e2; exact h2
  ·exact O.tr (P.bd _ (by omega)) (P.bd _ (by omega)) (P.bd _ (by omega)) h2 (h i (j - 1) (by omega) (by omega))
 ·exact h i j hij (by omega)
theorem oh (O : qi n lt) (A : ud cmp n lt s) (P : Pm n p) : ∀ (f m : Nat) {Q : Nat → Shared → Prop}, 1 ≤ m → m + f ≤ n → Asc lt p m → (∀ m', m ≤ m' → m' ≤ m + f → Asc lt p m' → (m' = m + f ∨ lt (p.getD m' 0) (p.getD (m' - 1) 0) = true) → Q m' s) → (kas_asc p f m).kasWp cmp Q s
 | 0, m, Q, h1, h2, h3, q => q m (Nat.le_refl _) (by omega) h3 (.inl rfl)
 | f + 1, m, Q, h1, h2, h3, q => by
  refine A _ _ _ (P.bd _ (by omega)) (P.bd _ (by omega)) ?_
  cases hc : lt (p.getD m 0) (p.getD (m - 1) 0) with
  | true => exact q m (Nat.le_refl _) (by omega) h3 (.inr hc)
  | false =>
   have h4 := h3.snoc O P h1 (by omega) (O.tot (P.bd _ (by omega)) (P.bd _ (by omega)) (P.ne' (by omega) (by omega) (by omega)) hc)
   exact oh O A P f (m + 1) (by omega) (by omega) h4 fun m' a b c d => q m' (by omega) (by omega) c (by rcases d with d | d; exact .inl (by omega); exact .inr d)
theorem nK (O : qi n lt) (A : ud cmp n lt s) (P : Pm n p) : ∀ (f m : Nat) {Q : Array Nat × Nat × Nat → Shared → Prop}, 1 ≤ m → m + f ≤ n → Dsc lt p m → (∀ m', m ≤ m' → m' ≤ m + f → Dsc lt p m' → Q (p, m', 0) s) → (kas_desc f p m 0).kasWp cmp Q s
 | 0, m, Q, h1, h2, h3, q => q m (Nat.le_refl _) (by omega) h3
 | f + 1, m, Q, h1, h2, h3, q => by
  refine A _ _ _ (P.bd _ (by omega)) (P.bd _ (by omega)) ?_
  cases hc : lt (p.getD m 0) (p.getD (m - 1) 0) with
  | true => exact nK O A P f (m + 1) (by omega) (by omega) (h3.snoc O P h1 (by omega) hc) fun m' a b c => q m' (by omega) (by omega) c
  | false =>
   refine A _ _ _ (P.bd _ (by omega)) (P.bd _ (by omega)) ?_
   rw [O.tot (P.bd _ (by omega)) (P.bd _ (by omega)) (P.ne' (by omega) (by omega) (by omega)) hc]
   exact q m (Nat.le_refl _) (by omega) h3
theorem eS {p q : Array Nat} {i j : Nat} (h : p[i]? = q[j]?) : p.getD i 0 = q.getD j 0 := by
 rw [Array.getD_eq_getD_getElem?, Array.getD_eq_getD_getElem?, h]
theorem eF {m k : Nat} (hm : m ≤ p.size) : (kas_rev p 0 m).getD k 0 = if k < m then p.getD (m - 1 - k) 0 else p.getD k 0 := by
 unfold kas_rev
 have h := getElem?_mirror_all (i := 0) hm k
 split
 ·rename_i c
  rw [if_pos ⟨Nat.zero_le _, c⟩] at h
  exact eS (by rw [h]; congr 1; omega)
 ·rename_i c
  rw [if_neg (by omega)] at h
  exact eS h
theorem Pm.rev (P : Pm n p) {m : Nat} (hm : m ≤ n) : Pm n (kas_rev p 0 m) where
 sz := by rw [kas_rev_size]; exact P.sz
 bd := fun i hi => by
  rw [eF (by rw [P.sz]; exact hm)]
  split <;> exact P.bd _ (by omega)
 ne := fun i j hij hj => by
  rw [eF (by rw [P.sz]; exact hm), eF (by rw [P.sz]; exact hm)]
  split <;> split <;> exact P.ne' (by omega) (by omega) (by omega)
theorem Dsc.rev {m : Nat} (P : Pm n p) (hm : m ≤ n) (h : Dsc lt p m) : Asc lt (kas_rev p 0 m) m := fun i j hij hj => by
 rw [eF (by rw [P.sz]; exact hm), eF (by rw [P.sz]; exact hm), if_pos (by omega), if_pos hj]
 exact h _ _ (by omega) (by omega)
theorem p4 (O : qi n lt) (A : ud cmp n lt s) (P : Pm n p) {Q : Nat × Array Nat → Shared → Prop} (h1 : 1 ≤ n) (q : ∀ m p', 1 ≤ m → m ≤ n → Pm n p' → Asc lt p' m → Q (m, p') s) : (kas_count n p).kasWp cmp Q s := by
 unfold kas_count
 rw [KasT.kasWp_bind]
 refine oh O A P (n - 1) 1 (Nat.le_refl _) (by omega) (fun i j a b => by omega) fun m a b c d => ?_
 by_cases e : m = n
 ·rw [if_pos (by rw [e]; exact beq_self_eq_true n)]
  exact q m p a (by omega) P c
 rw [if_neg (by simpa using e)]
 have d' : lt (p.getD m 0) (p.getD (m - 1) 0) = true := by
  rcases d with d | d
  ·omega
  ·exact d
 by_cases g : m > 1
 ·rw [if_pos g]
  refine A _ _ _ (P.bd _ (by omega)) (P.bd _ (by omega)) ?_
  rw [c 0 (m - 1) (by omega) (by omega)]
  exact q m p a (by omega) P c
 ·rw [if_neg g]
  have m1 : m = 1 := by omega
  subst m1
  unfold kas_descPart
  rw [KasT.kasWp_bind]
  have d2 : Dsc lt p 2 := fun i j a b => by
   have e1 : i = 0 := by omega
   have e2 : j = 1 := by omega
   subst e1; subst e2; exact d'
  refine nK O A P (n - (1 + 1)) (1 + 1) (by omega) (by omega) d2 fun m' a' b' c' => ?_
  rw [if_neg (by simp)]
  unfold kas_tail3
  rw [KasT.kasWp_bind]
  have hm' : m' ≤ n := by omega
  exact oh O A (P.rev hm') (n - m') m' (by omega) (by omega) (c'.rev P hm') fun m2 a2 b2 c2 _ => q m2 _ (by omega) (by omega) (P.rev hm') c2
theorem gp (O : qi n lt) (A : ud cmp n lt s) (P : Pm n p) {k : Nat} (hk : k < n) (hs : Asc lt p k) : ∀ (f l r : Nat) {Q : Nat → Shared → Prop}, l ≤ r → r ≤ k → r - l ≤ f → (∀ i, i < l → lt (p.getD i 0) (p.getD k 0) = true) → (∀ i, r ≤ i → i < k → lt (p.getD k 0) (p.getD i 0) = true) →
  (∀ l', l' ≤ k → (∀ i, i < l' → lt (p.getD i 0) (p.getD k 0) = true) → (∀ i, l' ≤ i → i < k → lt (p.getD k 0) (p.getD i 0) = true) → Q l' s) → (kas_place p k f l r).kasWp cmp Q s
 | 0, l, r, Q, h1, h2, h3, h4, h5, q => q l (by omega) h4 fun i a b => h5 i (by omega) b
 | f + 1, l, r, Q, h1, h2, h3, h4, h5, q => by
  unfold kas_place
  by_cases e : l ≥ r
  ·rw [if_pos e]
   exact q l (by omega) h4 fun i a b => h5 i (by omega) b
  ·rw [if_neg e]
   have hM : (l + r) / 2 < k := by omega
   refine A _ _ _ (P.bd _ hk) (P.bd _ (by omega)) ?_
   cases hc : lt (p.getD k 0) (p.getD ((l + r) / 2) 0) with
   | true =>
    refine gp O A P hk hs f l ((l + r) / 2) (by omega) (by omega) (by omega) h4 (fun i a b => ?_) q
    by_cases e2 : i = (l + r) / 2
    ·subst e2; exact hc
    ·exact O.tr (P.bd _ hk) (P.bd _ (by omega)) (P.bd _ (by omega)) hc (hs _ i (by omega) b)
   | false =>
    have hc' := O.tot (P.bd _ hk) (P.bd _ (show (l + r) / 2 < n by omega)) (P.ne' hk (by omega) (by omega)) hc
    refine gp O A P hk hs f ((l + r) / 2 + 1) r (by omega) (by omega) (by omega) (fun i a => ?_) h5 q
    by_cases e2 : i = (l + r) / 2
    ·subst e2; exact hc'
    ·exact O.tr (P.bd _ (by omega)) (P.bd _ (by omega)) (P.bd _ hk) (hs i ((l + r) / 2) (by omega) hM) hc'
theorem eZ {k l i : Nat} (hk : k < p.size) (hl : l ≤ k) : (bubble p k (k - l)).getD i 0 = if i = l then p.getD k 0 else if l < i ∧ i ≤ k then p.getD (i - 1) 0 else p.getD i 0 := by
 have h := getElem?_bubble hk (k - l) (by omega) i
 rw [show k - (k - l) = l by omega] at h
 by_cases c : i = l
 ·rw [if_pos c] at h ⊢; exact eS h
 ·rw [if_neg c] at h ⊢
  by_cases d : l < i ∧ i ≤ k
  ·rw [if_pos d] at h ⊢; exact eS h
  ·rw [if_neg d] at h ⊢; exact eS h
theorem Pm.bub (P : Pm n p) {k l : Nat} (hk : k < n) (hl : l ≤ k) : Pm n (bubble p k (k - l)) where
 sz := by rw [bubble_size]; exact P.sz
 bd := fun i hi => by
  rw [eZ (by rw [P.sz]; exact hk) hl]
  repeat' split
  all_goals exact P.bd _ (by omega)
 ne := fun i j hij hj => by
  rw [eZ (by rw [P.sz]; exact hk) hl, eZ (by rw [P.sz]; exact hk) hl]
  repeat' split
  all_goals first | (exfalso; omega) | exact P.ne' (by omega) (by omega) (by omega)
theorem Asc.bub (P : Pm n p) {k l : Nat} (hk : k < n) (hl : l ≤ k) (h : Asc lt p k) (h1 : ∀ i, i < l → lt (p.getD i 0) (p.getD k 0) = true) (h2 : ∀ i, l ≤ i → i < k → lt (p.getD k 0) (p.getD i 0) = true) : Asc lt (bubble p k (k - l)) (k + 1) := fun i j hij hj => by
 rw [eZ (by rw [P.sz]; exact hk) hl, eZ (by rw [P.sz]; exact hk) hl]
 repeat' split
 all_goals first | (exfalso; omega) | exact h1 _ (by omega) | exact h2 _ (by omega) (by omega) | exact h _ _ (by omega) (by omega)
theorem qO (O : qi n lt) (A : ud cmp n lt s) : ∀ (f : Nat) (p : Array Nat) (k : Nat) {Q : Array Nat → Shared → Prop}, Pm n p → k + f = n → Asc lt p k → (∀ p', Pm n p' → Asc lt p' n → Q p' s) → (kas_bin f p k).kasWp cmp Q s
 | 0, p, k, Q, P, h1, h2, q => q p P (by rw [← h1]; exact h2)
 | f + 1, p, k, Q, P, h1, h2, q => by
  unfold kas_bin
  rw [KasT.kasWp_bind]
  refine gp O A P (k := k) (by omega) h2 k 0 k (Nat.zero_le _) (Nat.le_refl _) (by omega) (fun i a => by omega) (fun i a b => by omega) fun l a b c => ?_
  exact qO O A f _ (k + 1) (P.bub (by omega) a) (by omega) (h2.bub P (by omega) a b c) q
theorem jZ : Pm n (List.toArray (List.range n)) := by
 have g : ∀ i, i < n → (List.toArray (List.range n)).getD i 0 = i := fun i hi => by simp [Array.getD, hi]
 exact ⟨by simp, fun i hi => by rw [g i hi]; exact hi, fun i j hij hj => by rw [g i (by omega), g j hj]; omega⟩
theorem sj (O : qi n lt) (A : ud cmp n lt s) {Q : Array Nat → Shared → Prop} (h1 : 1 ≤ n) (q : ∀ p', Pm n p' → Asc lt p' n → Q p' s) : (kas_sort n).kasWp cmp Q s := by
 unfold kas_sort
 rw [KasT.kasWp_bind]
 refine p4 O A jZ h1 fun m p' a b P c => ?_
 by_cases e : m < n
 ·rw [if_pos e]
  rw [show max m 1 = m by omega]
  exact qO O A _ _ _ P (by omega) c q
 ·rw [if_neg e]
  exact q p' P (by rw [show n = m by omega]; exact c)
end
end OP
namespace OP
open PySem PySem.Spec PyProof PyProof.Rows L2 OG
section
variable {prog : Program} {w : World} {A : Around} {E : Value → Shared → Prop} {s : Shared} {d it : Addr} {o : Obj} {es : Array DictEntry} {ep i : Nat}
theorem jV {Q : Value → Shared → Prop} (hd : (d == sysModules) = false) (ho : s.heap.get? d = some o) (hc : o.ExactDict) (he : o.data = .dict es ep)
  (q : Q (.ref s.heap.objs.size) { s with heap := s.heap.push { cls := .type "dict_keyiterator", data := .fields #[.ref d, .int 0 0, .int es.size 0, .int ep 0] } }) : wpAny (model prog w) A (pyIter (.ref d)) Q E s := by
 have T : s.TypeIs (.ref d) "dict" := ⟨o, ho, hc.1⟩
 refine wpAny_pyIter_slot T F.slot_dict_iter (wpAny_call_entry F.slot_dict_iter T F.entry_dict_iter ?_ (F.args_dict_iter_1 _))
 unfold Builtin.«dict.__iter__»; refine wpAny_bind ?_
 unfold Builtin.Dict.dictSlotNone; refine wpAny_bind (wpAny_notOrdered_dict T ?_)
 refine wpAny_pure (show wpAny _ _ (Builtin.Dict.showsAll d >>= _) _ _ s from ?_)
 unfold Builtin.Dict.showsAll; rw [if_neg (by rw [hd]; exact Bool.false_ne_true)]
 refine wpAny_bind (wpAny_pure (wpAny_bind (wpAny_dictEntries ho he (wpAny_bind (wpAny_dictEpoch ho he ?_)))))
 refine wpAny_bind (wpAny_newObj_type (wpAny_pure ⟨_, rfl, "dict_keyiterator", _, ⟨_, Heap.get?_push_size _ rfl, rfl⟩, F.slot_dict_keyiterator_next.lookup, q⟩))
theorem jW {Q : Option Value → Shared → Prop} (hit : s.heap.IsKeyIter it d i es.size ep) (ho : s.heap.get? d = some o) (he : o.data = .dict es ep) (hi : i < es.size)
  (q : ∀ h', h'.IsKeyIter it d (i + 1) es.size ep → Heap.SameBut it s.heap h' → Q (some es[i].key) { s with heap := h' }) : wpAny (model prog w) A (pyNext (.ref it)) Q E s := by
 obtain ⟨io, hio, ic, id'⟩ := id hit
 unfold pyNext; refine wpAny_bind (wpAny_attempt (wpAny_callSpecial?_slot (name := Str.ofString "__next__") hit.typeIs F.slot_dict_keyiterator_next (wpAny_call_entry F.slot_dict_keyiterator_next hit.typeIs F.entry_dict_keyiterator_next ?_ (F.args_dict_keyiterator_next_1 _))))
 refine wpAny_bind (wpAny_pure (wpAny_bind (wpAny_bind ?_)))
 first | refine wpAny_bind (wpAny_typeNameOfWhole_keyiter hit.typeIs (wpAny_pure (wpAny_bind (wpAny_fieldsOf hio id' ?_)))) | refine wpAny_bind (wpAny_typeNameOf_keyiter hit.typeIs (wpAny_pure (wpAny_bind (wpAny_fieldsOf hio id' ?_))))
 simp only [show Builtin.Dict_items.ownsTuple "dict_keyiterator" = false by decide, Bool.false_eq_true, if_false]
 refine (show wpAny _ _ (if (Value.ref d == Value.none) = true then _ else _) _ _ s from ?_)
 rw [if_neg (show ¬ ((Value.ref d == Value.none) = true) from Bool.false_ne_true)]; refine wpAny_bind (wpAny_pure (wpAny_bind (wpAny_dictEntries ho he ?_)))
 rw [if_neg (by simp)]; refine wpAny_bind (wpAny_pure (wpAny_bind (wpAny_dictEpoch ho he ?_)))
 rw [if_neg (by simp)]; refine wpAny_pure ?_
 simp only [show ¬ ((i : Int) < 0) by omega, if_false, Int.toNat_natCast, Array.getElem?_eq_getElem hi]; refine wpAny_bind ?_
 first | refine wpAny_bind (wpAny_typeNameOfWhole_keyiter hit.typeIs (wpAny_pure (wpAny_bind (wpAny_isOneOf_keyiter hit.typeIs ?_)))) | refine wpAny_bind (wpAny_typeNameOf_keyiter hit.typeIs (wpAny_pure (wpAny_bind (wpAny_isOneOf_keyiter hit.typeIs ?_))))
 refine (show wpAny _ _ (setField (.ref it) 1 (rawInt ((i : Int) + 1)) >>= _) _ _ s from wpAny_bind (wpAny_setField hio id' (by simp) ?_))
 have hit2 : (s.heap.update it (Obj.mapFields (·.setIfInBounds 1 (rawInt ((i : Int) + 1))))).IsKeyIter it d (i + 1) es.size ep := ⟨_, Heap.get?_update_self _ hio (Obj.isFreed_of_fields (Obj.data_mapFields id' _)), (Obj.cls_mapFields ..).trans ic, by rw [Obj.data_mapFields id']; simp [rawInt]⟩
 refine wpAny_bind (wpAny_holding (wpAny_bind (wpAny_isOneOf_keyiter (s := { s with heap := s.heap.update it (Obj.mapFields (·.setIfInBounds 1 (rawInt ((i : Int) + 1)))) }) hit2.typeIs ?_)))
 exact (show wpAny _ _ (pure es[i].key) _ _ _ from wpAny_pure (wpAny_pure ⟨_, rfl, wpAny_pure (q _ hit2 (Heap.SameBut.update ..))⟩))
theorem mG {Q : Option Value → Shared → Prop} (hh : A.handled = none) (hit : s.heap.IsKeyIter it d i es.size ep) (ho : s.heap.get? d = some o) (he : o.data = .dict es ep) (hi : es.size ≤ i)
  (q : ∀ h', Heap.ExtBut it s.heap h' → Q none { s with heap := h' }) : wpAny (model prog w) A (pyNext (.ref it)) Q E s := by
 obtain ⟨io, hio, ic, id'⟩ := id hit
 unfold pyNext; refine wpAny_bind (wpAny_attempt (wpAny_callSpecial?_slot (name := Str.ofString "__next__") hit.typeIs F.slot_dict_keyiterator_next (wpAny_call_entry F.slot_dict_keyiterator_next hit.typeIs F.entry_dict_keyiterator_next ?_ (F.args_dict_keyiterator_next_1 _))))
 refine wpAny_bind (wpAny_pure (wpAny_bind (wpAny_bind ?_)))
 first | refine wpAny_bind (wpAny_typeNameOfWhole_keyiter hit.typeIs (wpAny_pure (wpAny_bind (wpAny_fieldsOf hio id' ?_)))) | refine wpAny_bind (wpAny_typeNameOf_keyiter hit.typeIs (wpAny_pure (wpAny_bind (wpAny_fieldsOf hio id' ?_))))
 simp only [show Builtin.Dict_items.ownsTuple "dict_keyiterator" = false by decide, Bool.false_eq_true, if_false]
 refine (show wpAny _ _ (if (Value.ref d == Value.none) = true then _ else _) _ _ s from ?_)
 rw [if_neg (show ¬ ((Value.ref d == Value.none) = true) from Bool.false_ne_true)]; refine wpAny_bind (wpAny_pure (wpAny_bind (wpAny_dictEntries ho he ?_)))
 rw [if_neg (by simp)]; refine wpAny_bind (wpAny_pure (wpAny_bind (wpAny_dictEpoch ho he ?_)))
 rw [if_neg (by simp)]; refine wpAny_pure ?_
 simp only [show ¬ ((i : Int) < 0) by omega, if_false, Int.toNat_natCast, Array.getElem?_eq_none hi]; refine wpAny_bind ?_
 first | refine wpAny_bind (wpAny_typeNameOfWhole_keyiter hit.typeIs (wpAny_pure ?_)); skip | refine wpAny_bind (wpAny_typeNameOf_keyiter hit.typeIs (wpAny_pure ?_)); skip
 refine (show wpAny _ _ (setField (.ref it) 0 .none >>= _) _ _ s from wpAny_bind (wpAny_setField hio id' (by simp) ?_))
 refine (show wpAny _ _ (newExc (.type "StopIteration") [] >>= _) _ _ _ from wpAny_bind ?_)
 simp only [newExc, newTuple]; refine wpAny_bind (wpAny_newObj_type ?_ (by size_fits)); refine wpAny_bind (m := firstArgMember _ _) (wpAny_of_eq (a := Value.none) (by first | rfl | (simp only [firstArgMember]; rfl)) (wpAny_newObj_type ?_ (by size_fits)))
 simp only [raiseNew]; refine wpAny_bind (wpAny_handled ?_); rw [show A.in1.handled = none from hh]
 refine wpAny_bind (wpAny_pure (wpAny_throw ?_)); refine wpAny_bind (wpAny_isInstance (T := "StopIteration") (b := true) ⟨_, Heap.get?_push_size _ rfl, rfl⟩ isSubtype_stop ?_); exact wpAny_pure (q _ (((Heap.SameBut.update ..).extBut.push _).push _))
end
noncomputable def FzT (H : Hp) (a : Addr) (ep : Nat) (ks : List (List Key)) : Prop := ∃ ob es kvs, H a = some (.frz ob (.dT kvs)) ∧ ob.data = .dict es ep ∧ kvs.map (·.1) = ks
noncomputable def Itt (a : Addr) (ep : Nat) (ks : List (List Key)) : It :=
 ⟨fun i H => i < ks.length ∧ FzT H a ep ks, fun i H x H' => H' = H ∧ ∃ k p, ks[i]? = some k ∧ x = .ref p ∧ H p = some (.tup (k.map kV)), fun i H => ks.length ≤ i ∧ FzT H a ep ks⟩
theorem nF {P : Program} {w : World} {H : Hp} {h : Heap} {a : Addr} {ob : Obj} {kvs : List (List Key × V)} {es : Array DictEntry} {ep : Nat} (ok : HOk P w H h) (e : H a = some (.frz ob (.dT kvs))) (d : ob.data = .dict es ep) :
  h.get? a = some ob ∧ es.size = kvs.length ∧ ∀ (i : Nat) (hi : i < es.size), ∃ k p, (kvs.map (·.1))[i]? = some k ∧ es[i].key = .ref p ∧ H p = some (.tup (k.map kV)) := by
 obtain ⟨e1, _, _, xs, r, o, es', ep', e2, e3, e4, e5, _⟩ := (show bp P w H h a (.frz ob (.dT kvs)) from ok a _ e)
 rw [e1] at e2; cases e2
 rw [d] at e4; cases e4
 have hl : kvs.length = xs.length := Paired.length r
 have hs : es.size = xs.length := size_of_entries e5
 refine ⟨e1, by omega, fun i hi => ?_⟩
 have key : ∀ {l : List (List Key × V)} {m : List (List Key × Addr × Value)} {i : Nat} {x : List Key × Addr × Value}, Paired (fun (p : List Key × V) (q : List Key × Addr × Value) => p.1 = q.1 ∧ H q.2.1 = some (.tup (p.1.map kV)) ∧ bq p.2 q.2.2) l m → m[i]? = some x → ∃ k, (l.map (·.1))[i]? = some k ∧ H x.2.1 = some (.tup (k.map kV)) := by
  intro l m i x q
  induction q generalizing i with
  | nil => intro z; simp at z
  | @cons p q ps qs hq t ih =>
   intro z
   cases i with
   | zero => simp at z; subst z; exact ⟨p.1, by simp, hq.2.1⟩
   | succ i => obtain ⟨k, k1, k2⟩ := ih (by simpa using z); exact ⟨k, by simpa using k1, k2⟩
 have hx : xs[i]? = some xs[i] := List.getElem?_eq_getElem (by omega)
 obtain ⟨k, k1, k2⟩ := key r hx
 refine ⟨k, (xs[i]).2.1, k1, ?_, k2⟩
 have h1 := entry_at e5 i
 rw [hx, Array.getElem?_eq_getElem hi] at h1
 have h2 := Option.some.inj h1
 rw [h2]; rfl
theorem kL {P : Program} {w : World} {K : PySem.W.Frag} {tg : Expr} (a it : Addr) {ks : List (List Key)} {ep : Nat} :
  xa P w K tg (Itt a ep ks) [it] it (fun n h => h.IsKeyIter it a n ks.length ep) where
 mem := by simp
 obj := fun n h st c hc => by
  simp only [List.mem_cons, List.not_mem_nil, or_false] at hc
  subst hc
  obtain ⟨o, e, _, q⟩ := st
  exact ⟨o, e, fun v z => by rw [q] at z; cases z⟩
 keep := fun n h h' st kp => Heap.IsKeyIter.at st fun o q => kp it (by simp) o q
 item := by
  intro X hP hw hK hc n pins s σ H E Iv hf st hg
  subst hP hw hK
  obtain ⟨hi, ob, es, kvs, hq, d, ek⟩ := hg
  obtain ⟨g1, g2, g3⟩ := nF Iv.hok hq d
  have hl : ks.length = es.size := by rw [← ek, List.length_map, g2]
  have hi' : n < es.size := by omega
  obtain ⟨k, p, k1, k2, k3⟩ := g3 n hi'
  obtain ⟨f0, f1, f2, f3⟩ := hf it (by simp)
  refine jW (by rw [← hl]; exact st) g1 d hi' fun h1 st1 sb => ⟨_, rfl, ?_⟩
  have I1 : Inv X pins σ H { s with heap := h1 } := Iv.turned (t' := s.toks) (fun b o hb e => (sb.2 b hb).trans e) f0 f1 f3.1 f3.2.1 f3.2.2
  have st2 : h1.IsKeyIter it a (n + 1) ks.length ep := by rw [hl]; exact st1
  obtain ⟨o, e, c, q⟩ := id st2
  exact pY (s := { s with heap := h1 }) e c q (by decide) ⟨.ref p, H, I1, by rw [k2]; rfl, ⟨rfl, k, p, by rw [← ek]; exact k1, rfl, k3⟩, st2, fun b hb => (hf b hb).1⟩
 done := by
  intro X hP hw hK hc n pins s σ H E Iv hf st hg
  subst hP hw hK
  obtain ⟨hi, ob, es, kvs, hq, d, ek⟩ := hg
  obtain ⟨g1, g2, g3⟩ := nF Iv.hok hq d
  have hl : ks.length = es.size := by rw [← ek, List.length_map, g2]
  obtain ⟨f0, f1, f2, f3⟩ := hf it (by simp)
  exact mG (Iv.ok.hd hc) (by rw [← hl]; exact st) g1 d (by omega) fun h1 eb => ⟨rfl, Iv.turned (t' := s.toks) (fun b o hb e => eb b o hb e) f0 f1 f3.1 f3.2.1 f3.2.2⟩
 self := fun _ _ _ _ _ st h => wpAny_pyIter_keyiter st h
noncomputable def qG (X : Cx) (tl : TE) : TI := fun σ H R => tl σ H fun x H1 => ∃ a kvs, x = .ref a ∧ H1 a = some (.dT kvs) ∧ ∀ ob es ep, xb X a → ob.data = .dict es ep → R (Itt a ep (kvs.map (·.1))) (upd H1 a (.frz ob (.dT kvs)))
theorem oR {X : Cx} {tg l : Expr} {tl : TE} (hl : WE X l tl) : WI X tg l (qG X tl) := by
 constructor
 intro pins s σ H R I h
 refine thn (hl.h pins s σ H _ I h) fun v s1 hz => ?_
 obtain ⟨x, H1, I1, r1, q1⟩ := hz
 obtain ⟨a, kvs, rfl, hq, q⟩ := q1
 have hq0 := hq
 cases r1
 obtain ⟨hz, hs, xs, rv, ob, es, ep, e1, e2, e3, e4, e5⟩ := (show bp X.prog X.w H1 s1.heap a (.dT kvs) from I1.hok a _ hq)
 have hl : kvs.length = es.size := by rw [size_of_entries e4]; exact Paired.length rv
 have nf : xb X a := fun ob' u' z => by have := I1.base.frzs a ob' u' z; rw [hq] at this; cases this
 have mono : ∀ {l : List (List Key × V)} {m : List (List Key × Addr × Value)} (fz : HO), Paired (fun (p : List Key × V) (q : List Key × Addr × Value) => p.1 = q.1 ∧ H1 q.2.1 = some (.tup (p.1.map kV)) ∧ bq p.2 q.2.2) l m → Paired (fun (p : List Key × V) (q : List Key × Addr × Value) => p.1 = q.1 ∧ (upd H1 a fz) q.2.1 = some (.tup (p.1.map kV)) ∧ bq p.2 q.2.2) l m := by
  intro l m fz z
  induction z with
  | nil => exact .nil
  | cons hq t ih => exact .cons ⟨hq.1, by rw [aF (fun e => by rw [e, hq0] at hq; cases hq.2.1)]; exact hq.2.1, hq.2.2⟩ ih
 have rv2 := mono (.frz ob (.dT kvs)) rv
 have I2 : Inv X pins σ (upd H1 a (.frz ob (.dT kvs))) s1 := km I1 hq (by simp) (by simp) (by simp) nf ⟨e1, hz, hs, xs, rv2, ob, es, ep, e1, e2, e3, e4, e5⟩
 refine jV hs e1 e2 e3 ?_
 refine ⟨s1.heap.objs.size, [s1.heap.objs.size], _, _, _, rfl, I2.kept (t' := s1.toks) fun b o g => Heap.get?_push_of_some _ g, kL a _, ⟨_, Heap.get?_push_size _ rfl, rfl, by rw [List.length_map, hl]; rfl⟩, fun b hb => ?_, q ob es ep nf e3⟩
 simp only [List.mem_cons, List.not_mem_nil, or_false] at hb
 subst hb
 exact I2.fpOk (Nat.le_refl _) (I2.hok.fresh (Nat.le_refl _))
theorem nB {X : Cx} {pins : List (Addr × Obj)} {σ : L2.St} {H : Hp} {s : Shared} {a : Addr} {ob : Obj} {kvs : List (List Key × V)} (I : Inv X pins σ H s) (nf : xb X a) (e : H a = some (.frz ob (.dT kvs))) : Inv X pins σ (upd H a (.dT kvs)) s := by
 obtain ⟨_, hz, hs, xs, rv, rest⟩ := (show bp X.prog X.w H s.heap a (.frz ob (.dT kvs)) from I.hok a _ e)
 have mono : ∀ {l : List (List Key × V)} {m : List (List Key × Addr × Value)} (fz : HO), Paired (fun (p : List Key × V) (q : List Key × Addr × Value) => p.1 = q.1 ∧ H q.2.1 = some (.tup (p.1.map kV)) ∧ bq p.2 q.2.2) l m → Paired (fun (p : List Key × V) (q : List Key × Addr × Value) => p.1 = q.1 ∧ (upd H a fz) q.2.1 = some (.tup (p.1.map kV)) ∧ bq p.2 q.2.2) l m := by
  intro l m fz z
  induction z with
  | nil => exact .nil
  | cons hq t ih => exact .cons ⟨hq.1, by rw [aF (fun q => by rw [q, e] at hq; cases hq.2.1)]; exact hq.2.1, hq.2.2⟩ ih
 exact km I e (by simp) (by simp) (by simp) nf ⟨hz, hs, xs, mono _ rv, rest⟩
theorem ki {K : PySem.W.Frag} {m : List Addr} {H : Hp} : ∀ ks : List Key, IsL K m H (ks.map kV) (ks.map kU)
 | [] => .nil_
 | k :: r => .cons_ (wK k) (ki r)
theorem pT {K : PySem.W.Frag} {m : List Addr} {H : Hp} {a : Addr} {l ep : Nat} {kus : List (List Key × U)} (ha : m[l]? = some a) : qj K (Itt a ep (kus.map (·.1))) m H (kus.map fun q => .tup (q.1.map kU)) (fun S' => S'[l]? = some (.fdt ep kus)) := by
 intro m2 S2 H2 i e sr hok
 obtain ⟨a', ha', ob, es, kvs, hx, hd, ip⟩ := sr.get hok
 have ha2 := e.get ha
 rw [ha2] at ha'; cases ha'
 have hz : FzT H2 a ep (kus.map (·.1)) := ⟨ob, es, kvs, hx, hd, ip.1⟩
 refine ⟨fun u hu => ?_, fun hu => ⟨by simpa using hu, hz⟩⟩
 have hi : i < kus.length := by have := (List.getElem?_eq_some_iff.mp hu).1; simpa using this
 refine ⟨⟨by simpa using hi, hz⟩, ?_⟩
 rintro x H3 ⟨rfl, k, p, hk, rfl, hp⟩
 refine ⟨.refl, sr, ?_⟩
 rw [List.getElem?_map] at hk hu
 rw [List.getElem?_eq_getElem hi] at hk hu
 cases hk; cases hu
 exact .tup_ (.inl (.inl hp)) (ki _)
end OP
namespace OP
open PySem PySem.Spec PyProof PyProof.Rows L2 OG PySem.W
theorem gx {prog : Program} {w : World} {A : Around} {E : Value → Shared → Prop} {s : Shared} {a : Addr} {vs : List Value} {n : Nat} {P : PySem.Fin → Shared → Prop}
  (g : s.heap.get? a = some (seqObj "list" vs.toArray n)) (h2 : 2 ≤ vs.length) (h64 : vs.length < 64)
  (ask : ∀ h' : Heap, (∀ b o, b ≠ a → s.heap.get? b = some o → h'.get? b = some o) → wpAny (model prog w) A (keyKind' vs.toArray) (fun κ s' => s' = { s with heap := h' } ∧ KasT.kasWp (kas_ask prog w A κ vs) (kas_sort vs.length)
   (fun p s'' => s'' = { s with heap := h' } ∧ P (Fin.done (Flow.ret Value.none)) { s with heap := sortedHeap s.heap a vs (p.toList.map fun i => vs.getD i Value.none).toArray }) { s with heap := h' }) E { s with heap := h' }) :
  wpAny (model prog w) A (Builtin.«list.sort» { pos := [Value.ref a] }) P E s := by
 rw [list_sort_plain]
 have hS : vs.toArray.size = vs.length := by simp
 have hz : vs.length ≤ sizeLine := by unfold sizeLine; omega
 have lt := Heap.lt_size g
 refine wpAny_bind (listItems_at g rfl (wpAny_bind (listUpdate_at g rfl ?_ (by rw [hS]; exact hz) (by simp))))
 obtain ⟨e1, g1⟩ : ∃ e1, (s.heap.update a (Obj.mapSeq fun _ => #[])).get? a = some (seqObj "list" #[] e1) := ⟨_, get?_update_seq g fun _ => #[]⟩
 refine wpAny_bind (seqEpoch_at g1 rfl (wpAny_bind (wpAny_newTuple (wpAny_bind (wpAny_newList (wpAny_holding ?_) (by simp))) (by simpa using hz))))
 have hu : (s.heap.update a (Obj.mapSeq fun _ => #[])).objs.size = s.heap.objs.size := Heap.size_update ..
 have g2 : (((s.heap.update a (Obj.mapSeq fun _ => #[])).push (seqObj "tuple" vs.toArray 0)).push (seqObj "list" #[] 0)).get? a = some (seqObj "list" #[] e1) :=
  Heap.get?_push_of_some _ (Heap.get?_push_of_some _ g1)
 have n2 : ¬ vs.toArray.size < 2 := by rw [hS]; omega
 dsimp only
 rw [if_neg n2]
 have hk : ∀ b o, b ≠ a → s.heap.get? b = some o → (((s.heap.update a (Obj.mapSeq fun _ => #[])).push (seqObj "tuple" vs.toArray 0)).push (seqObj "list" #[] 0)).get? b = some o := fun b o hb ho => by
  refine Heap.get?_push_of_some _ (Heap.get?_push_of_some _ ?_)
  rw [Heap.get?_update_ne _ _ _ _ hb]; exact ho
 refine wpAny_bind (wpAny_mono (ask _ hk) (fun κ s' hs' => ?_) fun _ _ h' => h')
 obtain ⟨rfl, hrun⟩ := hs'
 rw [if_neg n2]
 refine wpAny_bind (wpAny_mono (kat_run (ks := vs) (Q := fun st' s' => ∃ p : Array Nat, p.size = vs.length ∧ arrOf st' = Array.map (kas_item (vs.toArray.zip vs.toArray)) p ∧ failedOf st' = none ∧ s' = _ ∧ P (Fin.done (Flow.ret Value.none)) { s with heap := sortedHeap s.heap a vs (p.toList.map fun i => vs.getD i Value.none).toArray }) rfl h2 h64 (fun p st' s' hp harr hfail hG => ⟨p, hp, harr, hfail, hG⟩) hrun) (fun r s' hr => ?_) fun _ _ h' => h')
 obtain ⟨u, st'⟩ := r
 obtain ⟨p, hp, harr, hfail, rfl, hP⟩ := hr
 have hout : Array.map (fun x => x.snd) (arrOf st') = (p.toList.map fun i => vs.getD i Value.none).toArray := kat_snds rfl harr
 refine wpAny_bind (seqEpoch_at g2 rfl (wpAny_bind (listUpdate_at g2 rfl ?_ (by simp) ?_)))
 ·dsimp only at hfail ⊢
  rw [hfail]
  simp only [bne_self_eq_false, Bool.false_eq_true, if_false]
  have hP' := hP
  rw [← hout] at hP'
  exact wpAny_pure hP'
 ·dsimp only
  rw [hout]
  simp
  unfold sizeLine
  omega
section
variable {prog : Program} {w : World} {A : Around} {E : Value → Shared → Prop} {s : Shared}
theorem kX {b : Bool} {x y : Int} {t u : Tok} {Q : Bool → Shared → Prop} (h : Q (decide (x < y)) s) : wpAny (model prog w) A (oneLt' b (Value.int x t) (Value.int y u)) Q E s := by
 cases b with
 | true => exact oneLt_int h
 | false =>
  rw [oneLt'_eq]
  dsimp only
  rw [if_neg Bool.false_ne_true]
  exact wpAny_bind (wpAny_lt_int (wpAny_truthy_bool h))
end
theorem eL {prog : Program} {w : World} {A : Around} {E : Value → Shared → Prop} {s : Shared} {a : Addr} {vs : List Value} {n : Nat} {P : PySem.Fin → Shared → Prop}
  (g : s.heap.get? a = some (seqObj "list" vs.toArray n)) (h2 : vs.length < 2) (hP : P (Fin.done (Flow.ret Value.none)) { s with heap := sortedHeap s.heap a vs vs.toArray }) :
  wpAny (model prog w) A (Builtin.«list.sort» { pos := [Value.ref a] }) P E s := by
 rw [list_sort_plain]
 have hS : vs.toArray.size = vs.length := by simp
 have hz : vs.length ≤ sizeLine := by unfold sizeLine; omega
 refine wpAny_bind (listItems_at g rfl (wpAny_bind (listUpdate_at g rfl ?_ (by rw [hS]; exact hz) (by simp))))
 obtain ⟨e1, g1⟩ : ∃ e1, (s.heap.update a (Obj.mapSeq fun _ => #[])).get? a = some (seqObj "list" #[] e1) := ⟨_, get?_update_seq g fun _ => #[]⟩
 refine wpAny_bind (seqEpoch_at g1 rfl (wpAny_bind (wpAny_newTuple (wpAny_bind (wpAny_newList (wpAny_holding ?_) (by simp))) (by simpa using hz))))
 have g2 : (((s.heap.update a (Obj.mapSeq fun _ => #[])).push (seqObj "tuple" vs.toArray 0)).push (seqObj "list" #[] 0)).get? a = some (seqObj "list" #[] e1) :=
  Heap.get?_push_of_some _ (Heap.get?_push_of_some _ g1)
 have n2 : vs.toArray.size < 2 := by rw [hS]; omega
 dsimp only
 rw [if_pos n2]
 refine wpAny_bind (wpAny_pure ?_)
 rw [if_pos n2]
 refine wpAny_bind (wpAny_pure ?_)
 have hout : Array.map (fun x => x.snd) (arrOf (SortSt.mk' general' (vs.toArray.zip vs.toArray) #[] 7 none)) = vs.toArray := by
  show Array.map (fun x => x.snd) (vs.toArray.zip vs.toArray) = vs.toArray
  simp [List.map_snd_zip]
 refine wpAny_bind (seqEpoch_at g2 rfl (wpAny_bind (listUpdate_at g2 rfl ?_ (by simp) ?_)))
 ·have hfail : failedOf (SortSt.mk' general' (vs.toArray.zip vs.toArray) #[] 7 none) = none := rfl
  dsimp only at hfail ⊢
  simp only [hfail, bne_self_eq_false, Bool.false_eq_true, if_false]
  have hP' := hP
  rw [← hout] at hP'
  exact wpAny_pure hP'
 ·dsimp only
  rw [hout]
  rw [hS]
  omega
theorem oU {ys : List V} {vs : List Value} (r : aQ ys vs) {i : Nat} (hi : i < ys.length) : bq (ys.getD i .non) (vs.getD i Value.none) := by
 induction r generalizing i with
 | nil => simp at hi
 | cons r1 r2 ih =>
  cases i with
  | zero => exact r1
  | succ i => exact ih (by simpa using hi)
theorem fS {ys : List V} {vs : List Value} (r : aQ ys vs) : ∀ (is : List Nat), (∀ i ∈ is, i < ys.length) → aQ (is.map fun i => ys.getD i .non) (is.map fun i => vs.getD i Value.none)
 | [], _ => .nil
 | i :: is, h => .cons (oU r (h i List.mem_cons_self)) (fS r is fun j hj => h j (List.mem_cons_of_mem _ hj))
theorem fB {n : Nat} {q : Array Nat} (P : Pm n q) : ∀ i ∈ q.toList, i < n := fun i hi => by
 obtain ⟨j, hj, e⟩ := List.mem_iff_getElem.mp hi
 have hj' : j < q.size := by simpa using hj
 have := P.bd j (by rw [← P.sz]; exact hj')
 rw [Array.getD_eq_getD_getElem?, Array.getElem?_eq_getElem hj'] at this
 rw [Array.getElem_toList] at e
 rw [← e]; exact this
theorem jP : ∀ as : List Addr, aQ (as.map V.ref) (as.map Value.ref)
 | [] => .nil
 | a :: r => .cons rfl (jP r)
noncomputable def pP (p : Int × Int) : U := .tup [.int p.1, .int p.2]
section
variable {X : Cx} {K : PySem.W.Frag}
noncomputable def qw : V → List V → Hp → VK → Prop := fun x vs H Q => ∃ (l : Addr) (ns : List Int) (z : Int) (j : Nat), x = .ref l ∧ vs = [.int z] ∧ H l = some (.lst (ns.map V.int)) ∧ ns[j]? = some z ∧ (∀ m, m < j → ns[m]? ≠ some z) ∧ j < 1000000 ∧ Q (.int (j : Nat)) H
noncomputable def nA (z : Int) : Value → Bool
 | .int i _ => i == z
 | _ => false
theorem gR {ns : List Int} {its : List Value} (r : aQ (ns.map V.int) its) {i : Nat} {v : Value} (h : its[i]? = some v) : ∃ n t, ns[i]? = some n ∧ v = Value.int n t := by
 have hi : i < its.length := (List.getElem?_eq_some_iff.mp h).1
 have hl := r.length
 rw [List.length_map] at hl
 have hn : i < ns.length := by omega
 obtain ⟨u, e1, e2⟩ := r.get (i := i) (x := .int ns[i]) (by rw [List.getElem?_map, List.getElem?_eq_getElem hn]; rfl)
 rw [h] at e1; cases e1
 obtain ⟨t, e⟩ := e2
 exact ⟨_, t, List.getElem?_eq_getElem hn, e⟩
theorem pK : MtM X "list.index" qw := by
 intro pins s σ H x vs v us Q I rx rv h
 obtain ⟨l, ns, z, j, rfl, rfl, hH, hj, hm, hb, q⟩ := h
 cases rx
 obtain ⟨u, rfl, ru⟩ := rv.one
 obtain ⟨tz, rfl⟩ := ru
 obtain ⟨_, its, n, r, hl, e⟩ := I.lstM hH
 have cH := r.length
 rw [List.length_map] at cH
 have hj' : j < its.toArray.size := by have := (List.getElem?_eq_some_iff.mp hj).1; simp; omega
 have at_ : ∀ (m : Nat) (hm : m < its.toArray.size), ∃ k t, ns[m]? = some k ∧ its.toArray[m] = Value.int k t := fun m hm => by
  have hm' : m < its.length := by simpa using hm
  obtain ⟨k, t, e1, e2⟩ := gR r (List.getElem?_eq_getElem hm')
  exact ⟨k, t, e1, by simpa using e2⟩
 refine call_meets PySem.F.slot_list_index ⟨_, e, rfl⟩ PySem.F.entry_list_index (PySem.F.args_list_index_2 _ _) (PySem.MeetsSeq.list_index l its.toArray n (Value.int z tz) (nA z) (fun y hy => ?_) j hj' (by omega) ?_ fun m hm1 hm2 => ?_) ⟨e, ?_⟩
 ·obtain ⟨m, hm1, rfl⟩ := Array.mem_iff_getElem.mp hy
  obtain ⟨k, t, _, e2⟩ := at_ m hm1
  rw [e2]
  exact PySem.MeetsSeq.EqGives.int _ _ _ _
 ·obtain ⟨k, t, e1, e2⟩ := at_ j hj'
  rw [e2]
  rw [hj] at e1; cases e1
  simp [nA]
 ·obtain ⟨k, t, e1, e2⟩ := at_ m hm1
  rw [e2]
  simp only [nA, beq_eq_false_iff_ne]
  intro e3
  exact hm m hm2 (by rw [e1, e3])
 ·exact ⟨.int (j : Nat), _, I.kept (fun b o g => g), ⟨_, rfl⟩, q⟩
theorem qF : ∀ {ns : List Int} {z : Int} {k : Nat} (h : k < ns.length), ns[k] = z → ns.idxOf z ≤ k
 | [], _, _, h, _ => absurd h (Nat.not_lt_zero _)
 | n :: ns, z, 0, _, e => by
  have : n = z := e
  subst this
  simp
 | n :: ns, z, k + 1, h, e => by
  rw [List.idxOf_cons]
  have := qF (ns := ns) (z := z) (k := k) (by simpa using h) (by simpa using e)
  cases (n == z) <;> simp <;> omega
noncomputable def aK : U → List U → Sto → Option (U × Sto)
 | .ref l, [.int z], S => match S[l]? with
  | some (.lst us) => (jg us).bind fun ns => if z ∈ ns ∧ ns.length ≤ LIM then some (.int (ns.idxOf z : Nat), S) else none
  | _ => none
 | _, _, _ => none
theorem sX : MtP K qw aK := by
 intro m S H x v us vs u S' Q sr ix i hf post
 match x, us, hf with
 | .ref l, [.int z], hf =>
  simp only [aK] at hf
  split at hf <;> try cases hf
  rename_i ws hS
  obtain ⟨ns, hn, h⟩ := Option.bind_eq_some_iff.mp hf
  split at h <;> try cases h
  have hk : z ∈ ns ∧ ns.length ≤ LIM := by assumption
  obtain ⟨a, ha, rfl⟩ := ix.of_ref
  obtain ⟨a', ha', xs, hx, la⟩ := sr.get hS
  rw [ha] at ha'; cases ha'
  obtain ⟨y, rfl, iy⟩ := i.one
  rw [gB hn] at la
  rw [la.ints] at hx
  have hlt : ns.idxOf z < ns.length := List.idxOf_lt_length_of_mem hk.1
  have hL : ns.length ≤ 100000 := hk.2
  refine ⟨a, ns, z, ns.idxOf z, rfl, by rw [iy.of_int], hx, ?_, fun k hk e => ?_, by omega, post m _ _ .refl sr .int_⟩
  ·rw [List.getElem?_eq_getElem hlt, List.getElem_idxOf]
  ·obtain ⟨h1, h2⟩ := List.getElem?_eq_some_iff.mp e
   exact absurd (qF h1 h2) (Nat.not_le.mpr hk)
variable {e : Expr} {es : List Expr} {co : CE} {cr : CA} {o : Expr} {apos cpos : Pos}
theorem dM (ho : QE X o co) (ha : QA X (e :: es) cr) (hbase : attributeBase o "index" X.env (eval o X.env) = eval o X.env := by rfl) (hfew : ((backTo cpos (starEach (e :: es) X.env)).all (fun x => !x.1) && (backToKw cpos (keywordEach [] X.env)).all (fun x => x.1.isSome)
   && decide ((e :: es).length + ([] : List Keyword).length + (if ([] : List Keyword).isEmpty then 0 else 1) < 30)) = true := by rfl) (hline : (apos.endLine == cpos.line) = true := by rfl) (hs : starEach (e :: es) X.env = (false, eval e X.env) :: starEach es X.env := by rfl) (hplain : (backTo cpos (starEach es X.env)).any (·.1) = false := by rfl) :
  QE X (.Call (.Attribute o "index" apos) (e :: es) [] cpos) (cBM aK co cr) := (me PySem.F.plainAttrs_list PySem.F.slot_list_index PySem.F.type_list_index pK ho ha.h hbase hfew hline hs hplain).imp (n8 sX)
end
section
variable {X : Cx} {K : PySem.W.Frag}
theorem tu {pins : List (Addr × Obj)} {σ : L2.St} {H : Hp} {s : Shared} {b : Addr} {ks : List Key} (I : Inv X pins σ H s) (sq : SqT X.K H b (ks.map kV)) : (tupleKind (bx X.prog X.w)).is s.heap ks b := by
 obtain ⟨its, r, ⟨o, h1, h2, n, h3⟩, _⟩ := I.tuple sq
 exact ⟨o, its.toArray, n, h1, h2, h3, by simpa using eP r⟩
noncomputable def ve (K : PySem.W.Frag) (td ty : TE) : TE := fun σ H Q => td σ H fun x H1 => ty σ H1 fun y H2 => ∃ (a b : Addr) (kvs : List (List Key × V)) (k : List Key) (v : V), x = .ref a ∧ y = .ref b ∧ Rd H2 a (.dT kvs) ∧ SqT K H2 b (k.map kV) ∧ fh kvs k = some v ∧ Q v H2
theorem ma {o i : Expr} {td ty : TE} {pos : Pos} (hu : X.A.units + 1 < cLine) (ho : WE X o td) (hi : WE X i ty) (hs : uc i) : WE X (.Subscript o i pos) (ve X.K td ty) := by
 constructor
 intro pins s σ H Q I h
 refine mw PySem.F.slot_dict_getitem.lookup hs (thn (ho.h pins s σ H _ I h) fun u s1 hz => ?_)
 obtain ⟨x, H1, I1, rx, q1⟩ := hz
 refine thn (hi.h pins s1 σ H1 _ I1 q1) fun iv s2 hz => ?_
 obtain ⟨y, H2, I2, ry, a, b, kvs, k, v, ex, ey, e, sq, l, q2⟩ := hz
 subst ex
 subst ey
 cases (show u = Value.ref a from rx)
 cases (show iv = Value.ref b from ry)
 obtain ⟨z, hd, xs, rel, dd⟩ := lE I2.hok e
 refine ⟨dd.typeIs, ?_⟩
 obtain ⟨w', hw, rw'⟩ := lM.some_of (v := v) (o := (atKey xs k).map (·.2)) (by rw [← l]; exact rel.val k)
 obtain ⟨p, hp, hp2⟩ := Option.map_eq_some_iff.mp hw
 refine wpAny_getItem_heap (tupleKind_room_in1 hu) (tu I2 sq) dd hp ?_
 rw [hp2]
 exact ⟨v, H2, I2.tok _, rw', q2⟩
noncomputable def tP : U → U → Sto → Option (U × Sto) := fun x y S => match x with
 | .ref l => match y with
  | .tup us => (sg us).bind fun ks => match S[l]? with
   | some (.dit kus) => (dI kus ks).bind fun u => some (u, S)
   | some (.fdt _ kus) => (dI kus ks).bind fun u => some (u, S)
   | _ => none
  | _ => none
 | _ => none
theorem yM {a b : Expr} {ca cb : CE} {pos : Pos} (hu : X.A.units + 1 < cLine) (ha : QE X a ca) (hb : QE X b cb) (hs : uc b) : QE X (.Subscript a b pos) (cOp tP ca cb) :=
 (ma hu ha hb hs).imp fun σ H Q hz => eV hz fun m ρ S u S' sr lr hc post => by
 obtain ⟨⟨x, S1⟩, h1, h⟩ := Option.bind_eq_some_iff.mp hc
 obtain ⟨⟨y, S2⟩, h3, h4⟩ := Option.bind_eq_some_iff.mp h
 refine ⟨m, ρ, S, _, S1, sr, lr, h1, fun m1 v1 H1 e1 sr1 i1 => ⟨m1, ρ, S1, _, S2, sr1, lr.mono e1, h3, fun m2 v2 H2 e2 sr2 i2 => ?_⟩⟩
 cases x with
 | ref l =>
  cases y with
  | tup us =>
   simp only [tP] at h4
   obtain ⟨ks, hk, h5⟩ := Option.bind_eq_some_iff.mp h4
   obtain ⟨a, ha, rfl⟩ := (i1.mono e2).of_ref
   obtain ⟨b, xs, rfl, sb, lb⟩ := i2.of_tup
   have hx := i0 lb hk
   subst hx
   split at h5 <;> try cases h5
   ·rename_i kus hS
    obtain ⟨w, hw, h6⟩ := Option.bind_eq_some_iff.mp h5
    cases h6
    obtain ⟨a', ha', kvs, hx, ip⟩ := sr2.get hS
    rw [ha] at ha'; cases ha'
    have rf := IsP.val (k := ks) ip
    rw [hw] at rf
    cases hv : fh kvs ks with
    | none => rw [hv] at rf; exact rf.elim
    | some z =>
     rw [hv] at rf
     exact ⟨a, b, kvs, ks, z, rfl, rfl, .inl hx, sb, hv, post m2 _ H2 (e1.trans e2) sr2 rf⟩
   ·rename_i ep kus hS
    obtain ⟨w, hw, h6⟩ := Option.bind_eq_some_iff.mp h5
    cases h6
    obtain ⟨a', ha', ob, es, kvs, hx, hd, ip⟩ := sr2.get hS
    rw [ha] at ha'; cases ha'
    have rf := IsP.val (k := ks) ip
    rw [hw] at rf
    cases hv : fh kvs ks with
    | none => rw [hv] at rf; exact rf.elim
    | some z =>
     rw [hv] at rf
     exact ⟨a, b, kvs, ks, z, rfl, rfl, .inr ⟨ob, hx⟩, sb, hv, post m2 _ H2 (e1.trans e2) sr2 rf⟩
  | _ => cases h4
 | _ => cases h4
theorem oT {e : Expr} {t : TE} (h : WE X e t) : WE X e (fun σ H Q => t σ H fun v H' => ∃ a ob kvs, xb X a ∧ H' a = some (.frz ob (.dT kvs)) ∧ Q v (upd H' a (.dT kvs))) := by
 constructor
 intro pins s σ H Q I k
 refine thn (h.h pins s σ H _ I k) fun u s1 hz => ?_
 obtain ⟨v, H1, I1, r1, a, ob, kvs, nf, e, q⟩ := hz
 exact ⟨v, _, nB I1 nf e, r1, q⟩
noncomputable def nW (ce : CE) (f : (Sto → Prop) → Nat → List U → Rho → Sto → Option Sto) (n : Nat) (caps : List Nat) : CE := fun ρ S => (ce ρ S).bind fun p => match p.1 with
 | .ref l => match p.2[l]? with
  | some (.dit kus) => uni fun ep => (f (fun S' => S'[l]? = some (.fdt ep kus)) p.2.length (kus.map fun q => .tup (q.1.map kU)) (gc n caps ρ) (p.2.set l (.fdt ep kus) ++ [.lst []])).bind fun S' => match S'[l]? with
   | some (.fdt _ kus') => some (.ref p.2.length, S'.set l (.dit kus'))
   | _ => none
  | _ => none
 | _ => none
noncomputable def ky (ce : CE) (g : CG) (el : CE) (n : Nat) (caps : List Nat) : CE := nW ce (fun ok l => dF ok g el l) n caps
theorem ml {ce : CE} {f : (Sto → Prop) → Nat → List U → Rho → Sto → Option Sto} {n : Nat} {caps : List Nat} {G : It → Hp → L2.St → VK → Prop}
  (core : ∀ {J : It} {us : List U} {ok : Sto → Prop} {Q : VK} {m1 : List Addr} {H1 : Hp} {S1 S' : Sto} {ρ : Rho} {σ : L2.St}, Sr X.K m1 S1 H1 → Lr X.K m1 H1 ρ σ → qj X.K J m1 H1 us ok → f ok S1.length us (gc n caps ρ) (S1 ++ [.lst []]) = some S' →
   (∀ l, H1 l = none → ∀ m2 H2, Ext X.K (m1 ++ [l]) (upd H1 l (.lst [])) m2 H2 → Sr X.K m2 S' H2 → Q (.ref l) H2) → G J H1 σ Q) :
  ∀ σ H Q, tE X.K (nW ce f n caps) σ H Q → qG X (tE X.K ce) σ H fun J H1 => G J H1 σ fun v H' => ∃ a ob kvs, xb X a ∧ H' a = some (.frz ob (.dT kvs)) ∧ Q v (upd H' a (.dT kvs)) := by
 intro σ H Q hz
 refine eV hz fun m ρ S u S' sr lr hc post => ?_
 obtain ⟨⟨x, S1⟩, h1, h⟩ := Option.bind_eq_some_iff.mp hc
 refine ⟨m, ρ, S, x, S1, sr, lr, h1, fun m1 v1 H1 e1 sr1 i1 => ?_⟩
 cases x with
 | ref l =>
  simp only at h
  split at h <;> try cases h
  rename_i kus hS
  obtain ⟨a, ha, rfl⟩ := i1.of_ref
  obtain ⟨a', ha', kvs, hx, ip⟩ := sr1.get hS
  rw [ha] at ha'; cases ha'
  refine ⟨a, kvs, rfl, hx, fun ob es ep nf hd => ?_⟩
  obtain ⟨S2, h2, h3⟩ := Option.bind_eq_some_iff.mp (oX h ep)
  try simp only at h3
  split at h3 <;> try cases h3
  rename_i ep' kus' hS2
  have ee : Ext X.K m1 H1 m1 (upd H1 a (.frz ob (.dT kvs))) := .of (sr1.keep ha _)
  have sr2 : Sr X.K m1 (S1.set l (.fdt ep kus)) (upd H1 a (.frz ob (.dT kvs))) := sr1.put ha ⟨ob, es, kvs, aD, hd, ip.mono ee⟩
  rw [ip.1]
  have hln : (S1.set l (.fdt ep kus)).length = S1.length := by simp
  refine core sr2 (lr.mono (e1.trans ee)) (pT ha) (by rw [hln]; exact h2) fun p hp m3 H3 e3 sr3 => ?_
  have en : Ext X.K m1 (upd H1 a (.frz ob (.dT kvs))) (m1 ++ [p]) (upd (upd H1 a (.frz ob (.dT kvs))) p (.lst [])) := .new (aW hp _)
  have e03 := en.trans e3
  obtain ⟨a3, ha3, ob3, es3, kvs3, hx3, hd3, ip3⟩ := sr3.get hS2
  rw [e03.get ha] at ha3; cases ha3
  have e4 : Ext X.K m3 H3 m3 (upd H3 a (.dT kvs3)) := .of (sr3.keep (e03.get ha) _)
  refine ⟨a, ob3, kvs3, nf, hx3, post m3 _ _ (((e1.trans ee).trans e03).trans e4) (sr3.put (e03.get ha) ⟨kvs3, aD, ip3.mono e4⟩) ?_⟩
  have lg : (m1 ++ [p])[S1.length]? = some p := bQ sr1.len
  exact .ref_ (e3.get lg)
 | _ => cases h
variable {Nc capN tn : List Str} {scope : Scope} {cl : List (Str × Addr)} {n : Nat} {caps : List Nat} {tg iter elt c : Expr} {pos : Pos} {ci : CE} {g : CG} {ct : CT} {ce : CE}
theorem sD (hc : X.calm = true) (hi : QE X iter ci) (hg : ∀ s3 H3 fp, WG (cxC X Nc scope cl s3 H3 fp) tg (tG X.K g)) (he : ∀ s3 H3 fp, WE (cxC X Nc scope cl s3 H3 fp) elt (tE X.K ce))
  (hclos : closureFor scope X.env = pure cl) (hkind : scope.kind = .function) (hnl : ∀ x ∈ scope.names, x.2 = .local → scope.names.lookup x.1 = some .local) (hcell : ∀ x ∈ scope.names, x.2 ≠ .cell)
  (hcl : kE X.env cl) (hhas : ((relabel scope X.env).names.all fun p => !(p.2 == .cell || p.2 == .free) || (cl.lookup p.1).isSome) = true)
  (hcap : Paired (Cap X scope cl) caps capN) (hN : Nc = tn ++ capN) (hn : tn.length = n)
  (hs : ∀ x, foldedSetIterable iter X.env x = pure x := by intro _; rfl) :
  QE X (.ListComp elt [⟨tg, iter, [], 0⟩] scope pos) (ky ci g ce n caps) :=
 (oT (jN hc (oR hi) hg he hclos hkind hnl hcell hcl hhas hcap hN hn hs)).imp (ml (G := fun J H1 σ Q => ∀ l, H1 l = none → ∃ W : Nat → Nat → L2.St → Hp → Prop, (∃ m, W 0 m (OG.stC n caps σ) (upd H1 l (.lst []))) ∧
  ∀ i m σ' H2, W i m σ' H2 → (J.stop i H2 ∧ Q (.ref l) H2) ∨ (J.go i H2 ∧ ∃ N : L2.St → Hp → Prop, (∀ σ'' H', N σ'' H' → ∃ m', m' < m ∧ W (i + 1) m' σ'' H') ∧
  ∀ x H3, J.yld i H2 x H3 → tG X.K g x σ' H3 fun σ2 H4 => tE X.K ce σ2 H4 fun v H5 => ∃ ys, H5 l = some (.lst ys) ∧ ys.length < sizeLine ∧ N σ2 (upd H5 l (.lst (ys ++ [v]))))) fun sr lr ito h2 post l hl => iB sr lr ito hl h2 (post l hl))
end
theorem kQ (n : Nat) : (List.range n).map (fun k => n - 1 - k) = (List.range n).reverse := by
 refine List.ext_getElem (by simp) fun i h1 h2 => ?_
 simp at h1
 simp [List.getElem_reverse]
theorem mL (its : List Value) : slicePick its.toArray none none (some (-1)) = its.reverse.toArray := by
 have hr : sliceRange ((its.length : Int) - 1) (-1) (-1) = (List.range its.length).reverse := by
  rw [← kQ]
  unfold sliceRange
  have h0 : ¬ ((-1 : Int) > 0) := by decide
  simp only [h0, if_false]
  have hc : (if (its.length : Int) - 1 > -1 then ((its.length : Int) - 1 - -1 - -1 - 1) / - -1 else 0).toNat = its.length := by
   by_cases h : (its.length : Int) - 1 > -1
   ·rw [if_pos h]
    have : ((its.length : Int) - 1 - -1 - -1 - 1) / - -1 = its.length := by
     rw [Int.neg_neg, Int.ediv_one]; omega
    rw [this]; exact Int.toNat_natCast _
   ·rw [if_neg h]; simp; omega
  rw [hc]
  refine List.map_congr_left fun k hk => ?_
  have := List.mem_range.mp hk
  omega
 unfold slicePick sliceBounds
 have h0 : ¬ ((-1 : Int) > 0) := by decide
 simp only [Option.getD_some, h0, if_false, List.size_toArray, hr]
 rw [List.filterMap_reverse]
 have := pick_run its.toArray 0 its.length
 simp only [Nat.zero_add, List.map_id', List.drop_zero] at this
 rw [this, List.take_of_length_le (by simp)]
theorem pw (its : List Value) : slicePick its.toArray none none (some 1) = its.toArray := by
 unfold slicePick sliceBounds
 have h0 : (1 : Int) > 0 := by decide
 simp only [Option.getD_some, h0, if_true, List.size_toArray]
 have := sliceRange_one 0 its.length
 simp only [Nat.sub_zero] at this
 rw [show ((0 : Int)) = ((0 : Nat) : Int) from rfl, this]
 have := pick_run its.toArray 0 its.length
 rw [this, List.drop_zero, List.take_of_length_le (by simp)]
theorem jO : ∀ {xs : List V} {us : List Value}, aQ xs us → aQ xs.reverse us.reverse
 | [], us, r => by cases r; exact .nil
 | x :: xs, us, r => by
  cases r with
  | cons r1 r2 =>
   rw [List.reverse_cons, List.reverse_cons]
   exact aQ.append (jO r2) (.cons r1 .nil)
section
variable {X : Cx} {K : PySem.W.Frag}
noncomputable def Aq (K : PySem.W.Frag) (te ts : TE) : TE := fun σ H Q => te σ H fun x H1 => ts σ H1 fun y H2 => ∃ (a : Addr) (xs : List V) (b : Bool), x = .ref a ∧ SqL K H2 a xs ∧ y = .int (if b then 1 else -1) ∧ ∀ p, H2 p = none → Q (.ref p) (upd H2 p (.lst (if b then xs else xs.reverse)))
theorem rP {e st : Expr} {te ts : TE} {pos p2 : Pos} (he : WE X e te) (hst : WE X st ts) : WE X (.Subscript e (.Slice none none (some st) p2) pos) (Aq X.K te ts) := by
 constructor
 intro pins s σ H Q I h
 refine Subscript_ (thn (he.h pins s σ H _ I h) fun v s1 hz => ?_)
 obtain ⟨x, H1, I1, r1, q1⟩ := hz
 refine wpAny_Slice ?_
 rw [evalPart_none]
 refine wpAny_pure (wpAny_pure ?_)
 show wpAny _ _ (eval st X.env) _ _ s1
 refine thn (hst.h pins s1 σ H1 _ I1 q1) fun vs s3 hz => ?_
 obtain ⟨y, H3, I3, ry, a, xs, b, rfl, hx, rfl, q⟩ := hz
 cases r1
 obtain ⟨t, rfl⟩ := (show ∃ t, vs = Value.int (if b then 1 else -1) t from ry)
 have I4 : Inv X pins σ H3 { s3 with heap := s3.heap.push { cls := .type "slice", data := .fields #[.none, .none, .int (if b then 1 else -1) t] } } := I3.kept (t' := s3.toks) fun b ob q => Heap.get?_push_of_some _ q
 obtain ⟨its, r, ht, hz⟩ := I4.list hx
 have cH := r.length
 show wpAny (model X.prog X.w) X.A (subscriptTail e (.Slice none none (some st) p2) (.ref a) (.ref s3.heap.objs.size)) (EP X pins σ Q) X.xe { s3 with heap := s3.heap.push { cls := .type "slice", data := .fields #[.none, .none, .int (if b then 1 else -1) t] } }
 refine tail_any (ops := [.ref a, .ref s3.heap.objs.size]) ht.isList.typeIs slot_list_getitem.lookup ?_ (by with_unfolding_all rfl)
 refine wpAny_getItem_list_slice ht.isList (Heap.IsSliceOf.new ..) .none .none (.int _ t) (by cases b <;> simp) ?_ (by rw [List.size_toArray] <;> omega)
 have hp : slicePick its.toArray none none (some (if b then 1 else -1)) = (if b then its else its.reverse).toArray := by
  cases b
  ·exact mL its
  ·exact pw its
 rw [hp]
 refine ⟨.ref _, _, I4.laid (t' := s3.toks) (o := .lst (if b then xs else xs.reverse)) (fun b ob q => Heap.get?_push_of_some _ q) (Nat.le_refl _) ?_, rfl, q _ (I4.hok.fresh (Nat.le_refl _))⟩
 cases b
 ·exact ⟨by simpa using hz, _, 0, jO r, Heap.get?_push_size _ rfl⟩
 ·exact ⟨hz, _, 0, r, Heap.get?_push_size _ rfl⟩
noncomputable def t4 (x y : U) (S : Sto) : Option (U × Sto) := match x with
 | .ref l => match y with
  | .int i => match S[l]? with
   | some (.lst us) => if i = 1 then some (.ref S.length, S ++ [.lst us]) else if i = -1 then some (.ref S.length, S ++ [.lst us.reverse]) else none
   | _ => none
  | _ => none
 | _ => none
theorem yJ {e st : Expr} {ca cs : CE} {pos p2 : Pos} (ha : QE X e ca) (hs : QE X st cs) : QE X (.Subscript e (.Slice none none (some st) p2) pos) (cOp t4 ca cs) :=
 (rP ha hs).imp fun σ H Q hz => eV hz fun m ρ S u S' sr lr hc post => by
 obtain ⟨⟨x, S1⟩, h1, h⟩ := Option.bind_eq_some_iff.mp hc
 obtain ⟨⟨y, S2⟩, h3, h4⟩ := Option.bind_eq_some_iff.mp h
 refine ⟨m, ρ, S, _, S1, sr, lr, h1, fun m1 v1 H1 e1 sr1 i1 => ⟨m1, ρ, S1, _, S2, sr1, lr.mono e1, h3, fun m2 v2 H2 e2 sr2 i2 => ?_⟩⟩
 cases x with
 | ref l =>
  cases y with
  | int i =>
   simp only [t4] at h4
   split at h4 <;> try cases h4
   rename_i us hS
   obtain ⟨a, ha, rfl⟩ := (i1.mono e2).of_ref
   obtain ⟨a', ha', xs, hx, la⟩ := sr2.get hS
   rw [ha] at ha'; cases ha'
   split at h4
   ·rename_i hi
    subst hi
    cases h4
    refine ⟨a, xs, true, rfl, SqL.of hx, i2.of_int, fun p hp => ?_⟩
    have en : Ext X.K m2 H2 (m2 ++ [p]) (upd H2 p (.lst xs)) := .new (aW hp _)
    exact post (m2 ++ [p]) _ _ ((e1.trans e2).trans en) (sr2.new hp ⟨xs, aD, la.mono en⟩) (.ref_ (bQ sr2.len))
   ·split at h4 <;> try cases h4
    rename_i hi
    subst hi
    refine ⟨a, xs, false, rfl, SqL.of hx, i2.of_int, fun p hp => ?_⟩
    have en : Ext X.K m2 H2 (m2 ++ [p]) (upd H2 p (.lst xs.reverse)) := .new (aW hp _)
    exact post (m2 ++ [p]) _ _ ((e1.trans e2).trans en) (sr2.new hp ⟨xs.reverse, aD, la.rev.mono en⟩) (.ref_ (bQ sr2.len))
  | _ => cases h4
 | _ => cases h4
end
noncomputable def ltR : List Int → List Int → Bool
 | [], [] => false
 | [], _ :: _ => true
 | _ :: _, [] => false
 | a :: r, b :: t => if a = b then ltR r t else decide (a < b)
theorem eK : ∀ r : List Int, ltR r r = false
 | [] => rfl
 | a :: r => by rw [ltR, if_pos rfl]; exact eK r
theorem gw : ∀ {r t : List Int}, ltR r t = true → ltR t r = false
 | [], [], h => by cases h
 | [], _ :: _, _ => rfl
 | _ :: _, [], h => by cases h
 | a :: r, b :: t, h => by
  rw [ltR] at h ⊢
  by_cases e : a = b
  ·rw [if_pos e] at h; rw [if_pos e.symm]; exact gw h
  ·rw [if_neg e, decide_eq_true_eq] at h; rw [if_neg (Ne.symm e), decide_eq_false_iff_not]; omega
theorem m8 : ∀ {r t : List Int}, r ≠ t → ltR r t = false → ltR t r = true
 | [], [], n, _ => absurd rfl n
 | [], _ :: _, _, h => by cases h
 | _ :: _, [], _, _ => rfl
 | a :: r, b :: t, n, h => by
  rw [ltR] at h ⊢
  by_cases e : a = b
  ·subst e
   rw [if_pos rfl] at h ⊢
   exact m8 (fun z => n (by rw [z])) h
  ·rw [if_neg e, decide_eq_false_iff_not] at h; rw [if_neg (Ne.symm e), decide_eq_true_eq]; omega
theorem hC : ∀ {r t u : List Int}, ltR r t = true → ltR t u = true → ltR r u = true
 | [], [], _, h, _ => by cases h
 | _ :: _, [], _, h, _ => by cases h
 | _, _ :: _, [], _, k => by cases k
 | [], _ :: _, _ :: _, _, _ => rfl
 | a :: r, b :: t, c :: u, h, k => by
  rw [ltR] at h k ⊢
  by_cases e : a = b
  ·subst e
   rw [if_pos rfl] at h
   by_cases e2 : a = c
   ·rw [if_pos e2] at k ⊢; exact hC h k
   ·rw [if_neg e2] at k ⊢; exact k
  ·rw [if_neg e, decide_eq_true_eq] at h
   by_cases e2 : b = c
   ·subst e2; rw [if_neg e, decide_eq_true_eq]; exact h
   ·rw [if_neg e2, decide_eq_true_eq] at k
    have : a ≠ c := by omega
    rw [if_neg this, decide_eq_true_eq]; omega
noncomputable def jE (h : Heap) (v : Value) (ns : List Int) : Prop := ∃ b o its e, v = Value.ref b ∧ h.get? b = some o ∧ o.cls = Value.type "tuple" ∧ o.data = Data.seq its e ∧ aQ (ns.map V.int) its.toList
section
variable {prog : Program} {w : World} {A : Around} {E : Value → Shared → Prop} {s : Shared}
theorem qC {C : Bool → Shared → Prop} {fin : Bool} : ∀ {ns ms : List Int} {vs us : List Value} {i : Nat}, aQ (ns.map V.int) vs → aQ (ms.map V.int) us → fin = decide (ns.length < ms.length) → C (ltR ns ms) s → KatLex prog w A true fin C (vs.zip us) i s
 | [], ms, vs, us, i, r1, r2, e, c => by
  cases r1
  rw [List.zip_nil_left]
  refine kat_nil ?_
  cases ms with
  | nil => subst e; exact c
  | cons m ms => subst e; exact c
 | n :: ns, [], vs, us, i, r1, r2, e, c => by
  cases r2
  rw [List.zip_nil_right]
  refine kat_nil ?_
  subst e; exact c
 | n :: ns, m :: ms, vs, us, i, r1, r2, e, c => by
  cases r1 with
  | cons u1 t1 =>
   cases r2 with
   | cons u2 t2 =>
    obtain ⟨k1, rfl⟩ := u1
    obtain ⟨k2, rfl⟩ := u2
    rw [List.zip_cons_cons]
    refine kat_cons (wpAny_eqBool_int ?_)
    by_cases en : n = m
    ·subst en
     rw [beq_self_eq_true]
     rw [ltR, if_pos rfl] at c
     exact kat_yes (qC t1 t2 (by rw [e]; simp) c)
    ·rw [beq_eq_false_iff_ne.mpr en]
     rw [ltR, if_neg en] at c
     exact kat_no (kX c)
theorem vt {v v' : Value} {ns ms : List Int} {C : Bool → Shared → Prop} (h : jE s.heap v ns) (h' : jE s.heap v' ms) (c : C (ltR ns ms) s) : wpAny (model prog w) A (keyLt' (tuples' true) v v') C E s := by
 obtain ⟨b, o, its, e, rfl, g, _, d, r⟩ := h
 obtain ⟨b', o', its', e', rfl, g', _, d', r'⟩ := h'
 refine kat_lt g d g' d' (qC r r' ?_ c)
 have l1 : its.size = ns.length := by have := r.length; rw [List.length_map] at this; rw [this]; exact Array.length_toList.symm
 have l2 : its'.size = ms.length := by have := r'.length; rw [List.length_map] at this; rw [this]; exact Array.length_toList.symm
 rw [l1, l2]
noncomputable def cu (h : Heap) : List Value → List (List Int) → Prop
 | [], [] => True
 | v :: vs, p :: ps => jE h v p ∧ cu h vs ps
 | _, _ => False
theorem fZ {h : Heap} : ∀ {vs : List Value} {ps : List (List Int)}, cu h vs ps → vs.length = ps.length
 | [], [], _ => rfl
 | _ :: _, _ :: _, k => by rw [List.length_cons, List.length_cons, fZ k.2]
 | [], _ :: _, k => k.elim
 | _ :: _, [], k => k.elim
theorem gb {h : Heap} : ∀ {vs : List Value} {ps : List (List Int)} {i : Nat}, cu h vs ps → i < ps.length → jE h (vs.getD i Value.none) (ps.getD i [])
 | [], [], _, _, k => absurd k (Nat.not_lt_zero _)
 | _ :: _, _ :: _, 0, k, _ => k.1
 | _ :: vs, _ :: ps, i + 1, k, l => by
  show jE h (vs.getD i Value.none) (ps.getD i [])
  exact gb k.2 (by rw [List.length_cons] at l; omega)
 | [], _ :: _, _, k, _ => k.elim
 | _ :: _, [], _, k, _ => k.elim
theorem dz {h h' : Heap} {a : Addr} (m : ∀ b o, b ≠ a → h.get? b = some o → h'.get? b = some o) : ∀ {vs : List Value} {ps : List (List Int)}, cu h vs ps → (∀ v ∈ vs, v ≠ .ref a) → cu h' vs ps
 | [], [], _, _ => trivial
 | v :: vs, _ :: _, k, hv => by
  refine ⟨?_, dz m k.2 fun x hx => hv x (List.mem_cons_of_mem _ hx)⟩
  obtain ⟨b, o, its, e, rfl, g, c, d⟩ := k.1
  exact ⟨b, o, its, e, rfl, m b o (fun e => hv _ List.mem_cons_self (by rw [e])) g, c, d⟩
 | [], _ :: _, k, _ => k.elim
 | _ :: _, [], k, _ => k.elim
theorem gZ {h : Heap} : ∀ {vs : List Value} {ps : List (List Int)}, cu h vs ps → (∀ p ∈ ps, p ≠ []) → ∃ fs, KatTups h vs fs ∧ fs.length = vs.length ∧ ∀ f ∈ fs, ∃ i t, f = Value.int i t
 | [], [], _, _ => ⟨[], trivial, rfl, fun f hf => by cases hf⟩
 | v :: vs, p :: ps, k, ne => by
  obtain ⟨fs, h1, h2, h3⟩ := gZ k.2 fun q hq => ne q (List.mem_cons_of_mem _ hq)
  obtain ⟨b, o, its, e, hv, g, c, d, r⟩ := k.1
  cases p with
  | nil => exact absurd rfl (ne [] List.mem_cons_self)
  | cons n ns =>
   obtain ⟨x, t, hx⟩ : ∃ x t, its.toList = x :: t := by
    cases hl : its.toList with
    | nil => rw [hl] at r; have := r.length; simp at this
    | cons x t => exact ⟨x, t, rfl⟩
   have hi : ∃ i t', x = Value.int i t' := by
    rw [hx] at r
    cases r with
    | cons u1 t1 => obtain ⟨k1, rfl⟩ := u1; exact ⟨_, _, rfl⟩
   refine ⟨x :: fs, ⟨⟨b, o, its, e, hv, g, c, d, ?_⟩, h1⟩, by rw [List.length_cons, List.length_cons, h2], fun f hf => ?_⟩
   ·rw [← Array.getElem?_toList, hx]; rfl
   ·rcases List.mem_cons.mp hf with z | z
    ·rw [z]; exact hi
    ·exact h3 f z
 | [], _ :: _, k, _ => k.elim
 | _ :: _, [], k, _ => k.elim
theorem mF {vs : List Value} {ps : List (List Int)} {Q : SortKind → Shared → Prop} (h : cu s.heap vs ps) (ne : ∀ p ∈ ps, p ≠ []) (hn : 0 < vs.length) (q : Q (tuples' true) s) : wpAny (model prog w) A (keyKind' vs.toArray) Q E s := by
 obtain ⟨fs, h1, h2, h3⟩ := gZ h ne
 refine kat_kind (T := Value.type "int") h1 (by omega) (fun v hv A Q E s' _ q => ?_) (by decide +kernel) (by exact q)
 obtain ⟨i, t, rfl⟩ := h3 v hv
 exact wpAny_typeOf (typeIs_int s' i t) q
theorem dA {h : Heap} : ∀ {vs : List Value} {ps : List (List Int)}, cu h vs ps → ∀ v ∈ vs, ∀ a, h.objs.size ≤ a → v ≠ .ref a
 | [], [], _, v, hv, _, _ => by cases hv
 | _ :: _, _ :: _, k, v, hv, a, ha => by
  rcases List.mem_cons.mp hv with z | z
  ·obtain ⟨b, o, its, e, e1, g, _⟩ := k.1
   rw [z, e1]
   intro e2
   cases e2
   exact absurd (Heap.lt_size g) (Nat.not_lt.mpr ha)
  ·exact dA k.2 v z a ha
 | [], _ :: _, k, _, _, _, _ => k.elim
 | _ :: _, [], k, _, _, _, _ => k.elim
end
theorem wk {ps : List (List Int)} (nd : ps.Nodup) : qi ps.length fun i j => ltR (ps.getD i []) (ps.getD j []) where
 tr := fun {i j k} hi hj hk h1 h2 => hC h1 h2
 asym := fun {i j} hi hj h => gw h
 tot := fun {i j} hi hj hne h => by
  refine m8 (fun e => hne ?_) h
  rw [List.getD_eq_getElem?_getD, List.getD_eq_getElem?_getD, List.getElem?_eq_getElem hi, List.getElem?_eq_getElem hj] at e
  simp only [Option.getD_some] at e
  exact (List.getElem_inj nd).mp e
noncomputable def xc (ps : List (List Int)) (q : Array Nat) : Prop := Pm ps.length q ∧ Asc (fun i j => ltR (ps.getD i []) (ps.getD j [])) q ps.length
theorem cY {prog : Program} {w : World} {A : Around} {E : Value → Shared → Prop} {s : Shared} {a : Addr} {vs : List Value} {ps : List (List Int)} {n : Nat} {P : PySem.Fin → Shared → Prop}
  (g : s.heap.get? a = some (seqObj "list" vs.toArray n)) (hp : cu s.heap vs ps) (hv : ∀ v ∈ vs, v ≠ .ref a) (ne : ∀ p ∈ ps, p ≠ []) (nd : ps.Nodup) (h64 : ps.length < 64)
  (k : ∀ q : Array Nat, xc ps q → P (Fin.done (Flow.ret Value.none)) { s with heap := sortedHeap s.heap a vs (q.toList.map fun i => vs.getD i Value.none).toArray }) :
  wpAny (model prog w) A (Builtin.«list.sort» { pos := [Value.ref a] }) P E s := by
 have hl := fZ hp
 by_cases h2 : vs.length < 2
 ·have hr : ((List.range ps.length).toArray.toList.map fun i => vs.getD i Value.none) = vs := by
   rw [← hl]
   refine List.ext_getElem? fun i => ?_
   by_cases hi : i < vs.length
   ·simp [List.getElem?_range hi, List.getElem?_eq_getElem hi]
   ·simp [List.getElem?_eq_none (Nat.le_of_not_lt hi), hi]
  have := k (List.range ps.length).toArray ⟨jZ, fun i j hij hj => by omega⟩
  rw [hr] at this
  exact eL g h2 this
 ·refine gx g (by omega) (by omega) fun h' m => ?_
  have hp' : cu ({ s with heap := h' } : Shared).heap vs ps := dz m hp hv
  refine mF hp' ne (by omega) ⟨rfl, ?_⟩
  have hl' : vs.length = ps.length := hl
  rw [hl']
  refine sj (wk nd) (fun i j C hi hj c => ?_) (by omega) fun q P1 P2 => ⟨rfl, k q ⟨P1, P2⟩⟩
  exact vt (gb hp' hi) (gb hp' hj) c
theorem i6 {prog : Program} {w : World} {A : Around} {E : Value → Shared → Prop} {s : Shared} {l : Addr} {vs : List Value} {ps : List (List Int)} {Q : Value → Shared → Prop}
  (hL : s.heap.IsList l vs.toArray) (hp : cu s.heap vs ps) (ne : ∀ p ∈ ps, p ≠ []) (nd : ps.Nodup) (h64 : ps.length < 64)
  (k : ∀ q : Array Nat, xc ps q → Q (Value.ref (s.heap.objs.size + 1)) { s with heap := sortedAll s.heap vs (q.toList.map fun i => vs.getD i Value.none).toArray }) :
  wpAny (model prog w) A (call (Value.builtin "sorted") [Value.ref l]) Q E s := by
 have hl := fZ hp
 have hz : vs.length ≤ sizeLine := by unfold sizeLine; omega
 refine Calls.call_function_entry kind_sorted plain_sorted entry_sorted (args_sorted1 _) ?_
 unfold Builtin.«sorted»
 refine wpAny_bind (m := checkCount "sorted" 1 1 _) (wpAny_pure (wpAny_bind (collect_list hL (wpAny_bind (wpAny_newList ?_ hz)) hz)))
 have hsz : ((s.heap.push (seqObj "list" #[] 0)).update s.heap.objs.size (Obj.mapSeq fun x => x ++ vs.toArray)).objs.size = s.heap.objs.size + 1 := by
  rw [Heap.size_update, size_push']
 have gL : (((s.heap.push (seqObj "list" #[] 0)).update s.heap.objs.size (Obj.mapSeq fun x => x ++ vs.toArray)).push (seqObj "list" vs.toArray 0)).get? (s.heap.objs.size + 1) = some (seqObj "list" vs.toArray 0) := by
  rw [← hsz]; exact Heap.get?_push_size _ rfl
 have old : ∀ b o, s.heap.get? b = some o → (((s.heap.push (seqObj "list" #[] 0)).update s.heap.objs.size (Obj.mapSeq fun x => x ++ vs.toArray)).push (seqObj "list" vs.toArray 0)).get? b = some o := fun b o g => by
  refine Heap.get?_push_of_some _ ?_
  rw [Heap.get?_update_ne _ _ _ _ (Nat.ne_of_lt (Heap.lt_size g))]
  exact Heap.get?_push_of_some _ g
 show wpAny _ _ _ _ _ { s with heap := ((s.heap.push (seqObj "list" #[] 0)).update s.heap.objs.size (Obj.mapSeq fun x => x ++ vs.toArray)).push (seqObj "list" vs.toArray 0) }
 rw [show Value.ref ((s.heap.push (seqObj "list" #[] 0)).update s.heap.objs.size (Obj.mapSeq fun x => x ++ vs.toArray)).objs.size = Value.ref (s.heap.objs.size + 1) from by rw [hsz]]
 refine wpAny_bind (wpAny_holding (wpAny_call_entry slot_list_sort ⟨_, gL, rfl⟩ entry_list_sort (cY (n := 0) gL (dz (a := s.heap.objs.size + 1) (fun b o _ g => old b o g) hp fun v hv => dA hp v hv _ (by omega)) (fun v hv => dA hp v hv _ (by omega)) ne nd h64 fun q hq => ⟨_, rfl, ?_⟩) (args_list_sort _)))
 exact wpAny_pure ⟨_, rfl, k q hq⟩
noncomputable def RwL (K : PySem.W.Frag) (H : Hp) : List V → List (List Int) → Prop
 | [], [] => True
 | x :: xs, p :: ps => (∃ a, x = .ref a ∧ SqT K H a (p.map V.int)) ∧ RwL K H xs ps
 | _, _ => False
theorem mC {K : PySem.W.Frag} {H : Hp} : ∀ {ys : List V} {ps : List (List Int)}, RwL K H ys ps → ys.length = ps.length
 | [], [], _ => rfl
 | _ :: _, _ :: _, k => by rw [List.length_cons, List.length_cons, mC k.2]
 | [], _ :: _, k => k.elim
 | _ :: _, [], k => k.elim
theorem qu {X : Cx} {pins : List (Addr × Obj)} {σ : L2.St} {H : Hp} {s : Shared} (I : Inv X pins σ H s) : ∀ {ys : List V} {ps : List (List Int)} {vs : List Value}, RwL X.K H ys ps → aQ ys vs → cu s.heap vs ps
 | [], [], _, _, r => by cases r; trivial
 | _ :: _, p :: ps, _, k, r => by
  cases r with
  | cons r1 r2 =>
   refine ⟨?_, qu I k.2 r2⟩
   obtain ⟨a, rfl, hs⟩ := k.1
   obtain ⟨its, rv, ⟨o, g, c, n, d⟩, _⟩ := I.tuple hs
   cases r1
   exact ⟨a, o, _, n, rfl, g, c, d, by simpa using rv⟩
 | [], _ :: _, _, k, _ => k.elim
 | _ :: _, [], _, k, _ => k.elim
noncomputable def gh (K : PySem.W.Frag) : List V → Hp → VK → Prop := fun xs H Q => ∃ (p : Addr) (ys : List V) (ps : List (List Int)), xs = [.ref p] ∧ SqL K H p ys ∧ RwL K H ys ps ∧ (∀ p ∈ ps, p ≠ []) ∧ ps.Nodup ∧ ps.length < 64 ∧
 ∀ (l : Addr) (q : Array Nat), H l = none → xc ps q → Q (.ref l) (upd H l (.lst (q.toList.map fun i => ys.getD i .non)))
theorem mV {X : Cx} : bX X (.builtin "sorted") (gh X.K) := by
 rintro pins s σ H xs us Q I r ⟨p, ys, ps, rfl, hL, hp, ne, nd, h64, q⟩
 obtain ⟨u, rfl, ru⟩ := fT r
 cases ru
 obtain ⟨its, rv, pl, hz⟩ := I.list hL
 have cH := mC hp
 refine i6 pl.isList (qu I hp rv) ne nd h64 fun qa a1 => ?_
 obtain ⟨e, ge⟩ := sortedAll_at s.heap its (qa.toList.map fun i => its.getD i Value.none).toArray
 have hf := I.hok.fresh (Nat.le_succ s.heap.objs.size)
 have hq : qa.toList.length = ps.length := by rw [Array.length_toList, a1.1.sz]
 refine ⟨.ref (s.heap.objs.size + 1), _, I.laid (o := .lst (qa.toList.map fun i => ys.getD i .non)) (t' := s.toks) (fun b o e => sortedAll_old e) (Nat.le_succ _) ⟨by rw [List.length_map, hq]; unfold sizeLine; omega, _, e, fS rv qa.toList (by rw [cH]; exact fB a1.1), ge⟩, rfl, q _ qa hf a1⟩
theorem sv {prog : Program} {w : World} {d : Addr} {o : Obj} {es : Array DictEntry} {ep : Nat} (hd : (d == sysModules) = false) (hc : o.ExactDict) (he : o.data = .dict es ep) :
  KdlSrc prog w "dict" d d es.size (fun i v => ∃ h : i < es.size, v = es[i].key) (fun h => h.get? d = some o) where
 type := fun s g => ⟨o, g, hc.1⟩
 there := fun h g => ⟨Heap.lt_size g, Heap.lt_size g⟩
 keep := fun h h' g m => m d (.inl rfl) o g
 notList := by decide
 notTuple := by decide
 hint := fun A E s Q g q => kdl_hint_dict ⟨o, g, hc.1⟩ q
 iter := fun A s hh g => by
  refine ⟨_, fun i h => h.IsKeyIter s.heap.objs.size d i es.size ep ∧ h.get? d = some o, fun E Q q => jV hd g hc he q, ?_, ⟨⟨_, Heap.get?_push_size _ rfl, rfl, rfl⟩, Heap.get?_push_of_some _ g⟩⟩
  refine ⟨fun b hb => by simp at hb; simp [hb], fun i h h' st m => ?_, fun i s' Q E hi st k => ?_, fun s' Q E st k => ?_, fun i s' Q E st q => ?_⟩
  ·obtain ⟨⟨o1, g1, c1, d1⟩, g2⟩ := st
   exact ⟨⟨o1, m _ (by simp) o1 g1, c1, d1⟩, m _ (by simp) o g2⟩
  ·refine jW st.1 st.2 he hi fun h' it' sb => k _ h' _ ⟨hi, rfl⟩ ⟨it', ?_⟩ fun b o' hb g' => ?_
   ·have : d ≠ s.heap.objs.size := Nat.ne_of_lt (Heap.lt_size g)
    rw [sb.2 d this]; exact st.2
   ·rw [sb.2 b (by simpa using hb)]; exact g'
  ·exact mG hh st.1 st.2 he (Nat.le_refl _) fun h' eb => k h' _ fun b o' hb g' => eb b o' (by simpa using hb) g'
  ·exact wpAny_pyIter_keyiter st.1 q
noncomputable def gf : List V → Hp → VK → Prop := fun xs H Q => ∃ (d : Addr) (kvs : List (List Key × V)) (ps : List (List Int)), xs = [.ref d] ∧ H d = some (.dT kvs) ∧ kvs.map (·.1) = ps.map (fun p => p.map Sum.inl) ∧ (∀ p ∈ ps, p ≠ []) ∧ ps.Nodup ∧ ps.length < 64 ∧
 ∀ (as : List Addr) (l : Addr) (q : Array Nat), H l = none → as.length = ps.length → (∀ (i : Nat) (a : Addr) (p : List Int), as[i]? = some a → ps[i]? = some p → H a = some (.tup (p.map V.int))) → xc ps q →
  Q (.ref l) (upd H l (.lst (q.toList.map fun i => .ref (as.getD i 0))))
theorem wq {H : Hp} : ∀ {kvs : List (List Key × V)} {xs : List (List Key × Addr × Value)} {ps : List (List Int)}, KT H kvs xs → kvs.map (·.1) = ps.map (fun p => p.map Sum.inl) → ∀ (i : Nat) (a : Addr) (p : List Int), (xs.map fun x => x.2.1)[i]? = some a → ps[i]? = some p → H a = some (.tup (p.map V.int))
 | _, _, ps, .nil, _, i, a, p, h, _ => by simp at h
 | (k, v) :: kvs, (k', b, u) :: xs, [], .cons r t, e, i, a, p, _, hp => by simp at hp
 | (k, v) :: kvs, (k', b, u) :: xs, p0 :: ps, .cons r t, e, i, a, p, h, hp => by
  simp only [List.map_cons, List.cons.injEq] at e
  obtain ⟨e1, e2⟩ := e
  cases i with
  | zero =>
   simp at h hp
   subst h; subst hp
   obtain ⟨r1, r2, r3⟩ := r
   dsimp only at r1 r2
   rw [r2, e1, List.map_map]; rfl
  | succ i =>
   simp only [List.map_cons, List.getElem?_cons_succ] at h hp
   exact wq t e2 i a p h hp
theorem mE {h : Heap} : ∀ {as : List Addr} {ps : List (List Int)}, as.length = ps.length → (∀ (i : Nat) (a : Addr) (p : List Int), as[i]? = some a → ps[i]? = some p → jE h (.ref a) p) → cu h (as.map Value.ref) ps
 | [], [], _, _ => trivial
 | a :: as, p :: ps, l, k => ⟨k 0 a p rfl rfl, mE (by simpa using l) fun i a p h1 h2 => k (i + 1) a p (by simpa using h1) (by simpa using h2)⟩
 | [], _ :: _, l, _ => by simp at l
 | _ :: _, [], l, _ => by simp at l
theorem mU {X : Cx} (hc : X.calm = true) : bX X (.builtin "sorted") gf := by
 rintro pins s σ H xs us Q I r ⟨d, kvs, ps, rfl, hD, hk, ne, nd, h64, q⟩
 obtain ⟨u, rfl, ru⟩ := fT r
 cases ru
 obtain ⟨z, hd, ks, rel, o, es, ep, h1, h2, h3, h4, h5⟩ := lE I.hok (.inl hD)
 have lkv : kvs.length = ps.length := by have := congrArg List.length hk; simpa using this
 have lks : ks.length = ps.length := by rw [← Paired.length rel]; exact lkv
 have les : es.size = ps.length := by rw [← lks, ← Array.length_toList, h4, List.length_map]
 obtain ⟨as, has⟩ : ∃ as, as = ks.map fun x => x.2.1 := ⟨_, rfl⟩
 have las : as.length = ps.length := by rw [has, List.length_map, lks]
 have hH : ∀ (i : Nat) (a : Addr) (p : List Int), as[i]? = some a → ps[i]? = some p → H a = some (.tup (p.map V.int)) := by rw [has]; exact wq rel hk
 refine Calls.call_function_entry kind_sorted plain_sorted entry_sorted (args_sorted1 _) ?_
 unfold Builtin.«sorted»
 refine wpAny_bind (m := checkCount "sorted" 1 1 _) (wpAny_pure (wpAny_bind (kdu_collect (sv hd h2 h3) (show X.A.in1.handled = none from I.ok.hd hc) h1 (by rw [les]; unfold sizeLine; omega) fun h' tk acc up hac => ?_)))
 have hacc : acc.toList = as.map Value.ref := by
  refine List.ext_getElem? fun i => ?_
  by_cases hi : i < es.size
  ·have hi' : i < acc.size := by rw [hac.1]; exact hi
   obtain ⟨_, e2⟩ := hac.2 i acc[i] (Array.getElem?_eq_getElem hi')
   have e3 : acc.toList[i]? = some acc[i] := by rw [Array.getElem?_toList, Array.getElem?_eq_getElem hi']
   have hk2 : i < ks.length := by rw [lks, ← les]; exact hi
   have e4 : es.toList[i]? = some (entryOfKey (tupleKind (bx X.prog X.w)) ks[i]) := by rw [h4, List.getElem?_map, List.getElem?_eq_getElem hk2]; rfl
   rw [Array.getElem?_toList, Array.getElem?_eq_getElem hi] at e4
   rw [e3, e2, Option.some.inj e4, has, List.map_map, List.getElem?_map, List.getElem?_eq_getElem hk2]
   rfl
  ·rw [List.getElem?_eq_none (by rw [Array.length_toList, hac.1]; omega), List.getElem?_eq_none (by rw [List.length_map, las, ← les]; omega)]
 have hrow : ∀ (i : Nat) (a : Addr) (p : List Int), as[i]? = some a → ps[i]? = some p → jE h' (.ref a) p := fun i a p ha hp => by
  obtain ⟨_, its, r, o1, g1, c1, n1, d1⟩ := (show bp X.prog X.w H s.heap a (.tup (p.map V.int)) from I.hok a _ (hH i a p ha hp))
  exact ⟨a, o1, _, n1, rfl, up a o1 g1, c1, d1, by simpa using r⟩
 have hrows : cu h' (as.map Value.ref) ps := mE las hrow
 rw [hacc]
 refine wpAny_bind (wpAny_newList ?_ (by rw [List.length_map, las]; unfold sizeLine; omega))
 have gL : (h'.push { cls := .type "list", data := .seq (as.map Value.ref).toArray }).get? h'.objs.size = some (seqObj "list" (as.map Value.ref).toArray 0) := Heap.get?_push_size _ rfl
 have hv' : ∀ v ∈ as.map Value.ref, v ≠ .ref h'.objs.size := fun v hv => dA hrows v hv _ (Nat.le_refl _)
 refine wpAny_bind (wpAny_holding (wpAny_call_entry slot_list_sort ⟨_, gL, rfl⟩ entry_list_sort (cY (s := { s with heap := h'.push { cls := .type "list", data := .seq (as.map Value.ref).toArray }, toks := tk }) gL (dz (a := h'.objs.size) (fun b o _ g => Heap.get?_push_of_some _ g) hrows hv') hv' ne nd h64 fun qa a1 => ⟨_, rfl, ?_⟩) (args_list_sort _)))
 obtain ⟨e, ge⟩ := sortedHeap_at (out := (qa.toList.map fun i => (as.map Value.ref).getD i Value.none).toArray) gL
 have I2 : Inv X pins σ H { s with heap := h', toks := tk } := I.kept (t' := tk) up
 have old : ∀ b o, h'.get? b = some o → (sortedHeap (h'.push { cls := .type "list", data := .seq (as.map Value.ref).toArray }) h'.objs.size (as.map Value.ref) (qa.toList.map fun i => (as.map Value.ref).getD i Value.none).toArray).get? b = some o := fun b o g1 => by
  have lt1 := Heap.lt_size g1
  rw [sortedHeap_old (Nat.ne_of_lt lt1) (by rw [Heap.size_push]; exact Nat.lt_succ_of_lt lt1)]
  exact Heap.get?_push_of_some _ g1
 have hq : qa.toList.length = ps.length := by rw [Array.length_toList, a1.1.sz]
 have rv := jP as
 have gd : ∀ i, i < as.length → (as.map V.ref).getD i .non = .ref (as.getD i 0) := fun i hi => by
  simp [List.getD_eq_getElem?_getD, List.getElem?_eq_getElem hi]
 have el : (qa.toList.map fun i => (as.map V.ref).getD i .non) = qa.toList.map fun i => V.ref (as.getD i 0) := List.map_congr_left fun i hi => gd i (by rw [las]; exact fB a1.1 i hi)
 refine wpAny_pure ⟨_, rfl, .ref h'.objs.size, _, Inv.laid (s := { s with heap := h', toks := tk }) (o := .lst (qa.toList.map fun i => .ref (as.getD i 0))) (t' := tk) I2 old (Nat.le_refl _) ⟨by rw [List.length_map, hq]; unfold sizeLine; omega, _, e, ?_, ge⟩, rfl, q as _ qa (I2.hok.fresh (Nat.le_refl _)) las hH a1⟩
 rw [← el]
 exact fS rv qa.toList (by rw [List.length_map, las]; exact fB a1.1)
open Classical in
noncomputable def cW (ps : List (List Int)) : List (List Int) := if h : ∃ L : List (List Int), L.Pairwise (fun a b => ltR a b = true) ∧ ∀ x, x ∈ L ↔ x ∈ ps then h.choose else []
theorem iP : ∀ {L M : List (List Int)}, L.Pairwise (fun a b => ltR a b = true) → M.Pairwise (fun a b => ltR a b = true) → (∀ x, x ∈ L ↔ x ∈ M) → L = M
 | [], [], _, _, _ => rfl
 | [], m :: M, _, _, h => by have := (h m).mpr List.mem_cons_self; cases this
 | l :: L, [], _, _, h => by have := (h l).mp List.mem_cons_self; cases this
 | l :: L, m :: M, h1, h2, h => by
  obtain ⟨a1, b1⟩ := List.pairwise_cons.mp h1
  obtain ⟨a2, b2⟩ := List.pairwise_cons.mp h2
  have e : l = m := by
   rcases List.mem_cons.mp ((h l).mp List.mem_cons_self) with z | z
   ·exact z
   ·rcases List.mem_cons.mp ((h m).mpr List.mem_cons_self) with y | y
    ·exact y.symm
    ·have p1 := a2 l z
     rw [gw (a1 m y)] at p1; cases p1
  subst e
  congr 1
  refine iP b1 b2 fun x => ⟨fun hx => ?_, fun hx => ?_⟩
  ·rcases List.mem_cons.mp ((h x).mp (List.mem_cons_of_mem _ hx)) with z | z
   ·subst z; have := a1 x hx; rw [eK] at this; cases this
   ·exact z
  ·rcases List.mem_cons.mp ((h x).mpr (List.mem_cons_of_mem _ hx)) with z | z
   ·subst z; have := a2 x hx; rw [eK] at this; cases this
   ·exact z
theorem oZ {L ps : List (List Int)} (h1 : L.Pairwise (fun a b => ltR a b = true)) (h2 : ∀ x, x ∈ L ↔ x ∈ ps) : cW ps = L := by
 have h : ∃ L : List (List Int), L.Pairwise (fun a b => ltR a b = true) ∧ ∀ x, x ∈ L ↔ x ∈ ps := ⟨L, h1, h2⟩
 unfold cW
 rw [dif_pos h]
 obtain ⟨k1, k2⟩ := h.choose_spec
 exact iP k1 h1 fun x => (k2 x).trans (h2 x).symm
theorem iQ {ps : List (List Int)} {q : Array Nat} (h : xc ps q) : cW ps = q.toList.map fun i => ps.getD i [] := by
 obtain ⟨P, A⟩ := h
 have hl : q.toList.length = ps.length := by rw [Array.length_toList, P.sz]
 have gd : ∀ i (hi : i < q.toList.length), q.getD i 0 = q.toList[i] := fun i hi => by
  have hi' : i < q.size := by simpa using hi
  rw [Array.getD_eq_getD_getElem?, Array.getElem?_eq_getElem hi', Array.getElem_toList]; rfl
 have h1 : (q.toList.map fun i => ps.getD i []).Pairwise (fun a b => ltR a b = true) := by
  rw [List.pairwise_iff_getElem]
  intro i j hi hj hij
  rw [List.length_map] at hi hj
  rw [List.getElem_map, List.getElem_map, ← gd i hi, ← gd j hj]
  exact A i j hij (by omega)
 have nd : (q.toList.map fun i => ps.getD i []).Nodup := h1.imp fun {a b} h e => by subst e; rw [eK] at h; cases h
 have sub : ∀ x ∈ q.toList.map fun i => ps.getD i [], x ∈ ps := fun x hx => by
  obtain ⟨i, hi, rfl⟩ := List.mem_map.mp hx
  have := fB P i hi
  rw [List.getD_eq_getElem?_getD, List.getElem?_eq_getElem this]
  exact List.getElem_mem this
 refine oZ h1 fun x => ⟨sub x, fun hx => ?_⟩
 refine Classical.byContradiction fun hn => ?_
 have := List.Nodup.length_le_of_subset (List.nodup_cons.mpr ⟨hn, nd⟩) (l₂ := ps) fun y hy => by
  rcases List.mem_cons.mp hy with z | z
  ·rw [z]; exact hx
  ·exact sub y z
 rw [List.length_cons, List.length_map, hl] at this
 omega
noncomputable def rwU (p : List Int) : U := .tup (p.map U.int)
noncomputable def kO : List U → Option (List (List Int))
 | [] => some []
 | .tup us :: r => (jg us).bind fun p => (kO r).map (p :: ·)
 | _ => none
theorem g5 : ∀ ps : List (List Int), kO (ps.map rwU) = some ps
 | [] => rfl
 | p :: ps => by rw [List.map_cons, rwU, kO, eR, Option.bind_some, g5 ps]; rfl
theorem jT : ∀ {us : List U} {ps : List (List Int)}, kO us = some ps → us = ps.map rwU
 | [], ps, h => by cases h; rfl
 | u :: us, ps, h => by
  cases u with
  | tup ws =>
   rw [kO] at h
   obtain ⟨p, e1, h⟩ := Option.bind_eq_some_iff.mp h
   obtain ⟨qs, e2, h⟩ := Option.map_eq_some_iff.mp h
   subst h
   rw [List.map_cons, ← jT e2, gB e1]; rfl
  | _ => cases h
noncomputable def pV : List Key → Option (List Int)
 | [] => some []
 | .inl i :: r => (pV r).map (i :: ·)
 | _ => none
theorem kn : ∀ {ks : List Key} {ns : List Int}, pV ks = some ns → ks = ns.map Sum.inl
 | [], ns, h => by cases h; rfl
 | .inl i :: r, ns, h => by
  rw [pV] at h
  obtain ⟨qs, e2, h⟩ := Option.map_eq_some_iff.mp h
  subst h
  rw [List.map_cons, ← kn e2]
 | .inr x :: r, ns, h => by cases h
noncomputable def kP : List (List Key × U) → Option (List (List Int))
 | [] => some []
 | (ks, _) :: r => (pV ks).bind fun p => (kP r).map (p :: ·)
theorem jU : ∀ {kus : List (List Key × U)} {ps : List (List Int)}, kP kus = some ps → kus.map (·.1) = ps.map fun p => p.map Sum.inl
 | [], ps, h => by cases h; rfl
 | (ks, u) :: us, ps, h => by
  rw [kP] at h
  obtain ⟨p, e1, h⟩ := Option.bind_eq_some_iff.mp h
  obtain ⟨qs, e2, h⟩ := Option.map_eq_some_iff.mp h
  subst h
  rw [List.map_cons, List.map_cons, ← jU e2, kn e1]
open Classical in
noncomputable def bI : Fn
 | [.ref l], S => match S[l]? with
  | some (.lst us) => (kO us).bind fun ps => if (∀ p ∈ ps, p ≠ []) ∧ ps.Nodup ∧ ps.length < 64 then some (.ref S.length, S ++ [.lst ((cW ps).map rwU)]) else none
  | some (.dit kus) => (kP kus).bind fun ps => if (∀ p ∈ ps, p ≠ []) ∧ ps.Nodup ∧ ps.length < 64 then some (.ref S.length, S ++ [.lst ((cW ps).map rwU)]) else none
  | _ => none
 | _, _ => none
section
variable {K : PySem.W.Frag} {m : List Addr} {H : Hp}
theorem qt : ∀ {ys : List V} {ps : List (List Int)}, IsL K m H ys (ps.map rwU) → RwL K H ys ps
 | ys, [], h => by rw [h.of_nil]; trivial
 | ys, p :: ps, h => by
  obtain ⟨y, r, rfl, i, t⟩ := h.of_cons
  obtain ⟨a, xs, rfl, hs, il⟩ := i.of_tup
  have e : xs = p.map V.int := IsL.ints il
  subst e
  exact ⟨⟨a, rfl, hs⟩, qt t⟩
theorem mD : ∀ {ys : List V} {ps : List (List Int)} {i : Nat}, RwL K H ys ps → i < ps.length → Is K m H (ys.getD i .non) (rwU (ps.getD i []))
 | [], [], i, _, h => by simp at h
 | y :: ys, p :: ps, 0, k, _ => by
  obtain ⟨a, e, hs⟩ := k.1
  show Is K m H y (rwU p)
  rw [e]
  exact .tup_ hs (gy p)
 | y :: ys, p :: ps, i + 1, k, h => by
  show Is K m H (ys.getD i .non) (rwU (ps.getD i []))
  exact mD k.2 (by simpa using h)
 | [], _ :: _, _, k, _ => k.elim
 | _ :: _, [], _, k, _ => k.elim
theorem mB {ys : List V} {ps : List (List Int)} (k : RwL K H ys ps) : ∀ is : List Nat, (∀ i ∈ is, i < ps.length) → IsL K m H (is.map fun i => ys.getD i .non) (is.map fun i => rwU (ps.getD i []))
 | [], _ => .nil_
 | i :: is, h => .cons_ (mD k (h i List.mem_cons_self)) (mB k is fun j hj => h j (List.mem_cons_of_mem _ hj))
theorem oi {as : List Addr} {ps : List (List Int)} (la : as.length = ps.length) (hH : ∀ (i : Nat) (a : Addr) (p : List Int), as[i]? = some a → ps[i]? = some p → H a = some (.tup (p.map V.int))) : ∀ is : List Nat, (∀ i ∈ is, i < ps.length) → IsL K m H (is.map fun i => V.ref (as.getD i 0)) (is.map fun i => rwU (ps.getD i []))
 | [], _ => .nil_
 | i :: is, h => by
  have hi := h i List.mem_cons_self
  have hi' : i < as.length := by rw [la]; exact hi
  refine .cons_ ?_ (oi la hH is fun j hj => h j (List.mem_cons_of_mem _ hj))
  have e1 : as.getD i 0 = as[i] := by rw [List.getD_eq_getElem?_getD, List.getElem?_eq_getElem hi']; rfl
  have e2 : ps.getD i [] = ps[i] := by rw [List.getD_eq_getElem?_getD, List.getElem?_eq_getElem hi]; rfl
  show Is K m H (V.ref (as.getD i 0)) (rwU (ps.getD i []))
  rw [e1, e2]
  exact .tup_ (SqT.of (hH i _ _ (List.getElem?_eq_getElem hi') (List.getElem?_eq_getElem hi))) (gy _)
end
theorem fC {X : Cx} (hc : X.calm = true) : bX X (.builtin "sorted") (fun xs H Q => gh X.K xs H Q ∨ gf xs H Q) := mV.or (mU hc)
theorem g8 {K : PySem.W.Frag} : fg K (fun xs H Q => gh K xs H Q ∨ gf xs H Q) bI := by
 intro m S H us vs u S' Q sr i hf post
 match us, hf with
 | [.ref l], hf =>
  obtain ⟨v, rfl, iv⟩ := i.one
  obtain ⟨a, ha, rfl⟩ := iv.of_ref
  simp only [bI] at hf
  split at hf <;> try cases hf
  ·rename_i ws hS
   obtain ⟨ps, hn, h⟩ := Option.bind_eq_some_iff.mp hf
   split at h <;> try cases h
   have hc : (∀ p ∈ ps, p ≠ []) ∧ ps.Nodup ∧ ps.length < 64 := by assumption
   obtain ⟨a', ha', xs, hx, la⟩ := sr.get hS
   rw [ha] at ha'; cases ha'
   rw [jT hn] at la
   have pr := qt la
   refine .inl ⟨a, xs, ps, rfl, SqL.of hx, pr, hc.1, hc.2.1, hc.2.2, fun p q hp aq => ?_⟩
   have il := mB (m := m) pr q.toList (fB aq.1)
   have e : (q.toList.map fun i => rwU (ps.getD i [])) = (cW ps).map rwU := by rw [iQ aq, List.map_map]; rfl
   rw [e] at il
   exact cq sr il post hp
  ·rename_i ws hS
   obtain ⟨ps, hn, h⟩ := Option.bind_eq_some_iff.mp hf
   split at h <;> try cases h
   have hc : (∀ p ∈ ps, p ≠ []) ∧ ps.Nodup ∧ ps.length < 64 := by assumption
   obtain ⟨a', ha', kvs, hx, ip⟩ := sr.get hS
   rw [ha] at ha'; cases ha'
   refine .inr ⟨a, kvs, ps, rfl, hx, ip.1.trans (jU hn), hc.1, hc.2.1, hc.2.2, fun as p q hp las hH aq => ?_⟩
   have il := oi (m := m) (K := K) las hH q.toList (fB aq.1)
   have e : (q.toList.map fun i => rwU (ps.getD i [])) = (cW ps).map rwU := by rw [iQ aq, List.map_map]; rfl
   rw [e] at il
   exact cq sr il post hp
noncomputable def jS (K : PySem.W.Frag) : Sp := fun vs H Q _ => ∃ (a : Addr) (ns : List Int), vs = [.ref a] ∧ KL K H a ns ∧ ns.length ≤ 63 ∧ ∀ H', Q (.bl true) H'
theorem y4 {K : PySem.W.Frag} {H : Hp} {a : Addr} {ns : List Int} (hO : xC H) (h : SqL K H a (ns.map V.int)) : KL K H a ns := by
 rcases h with (h | h) | h
 ·rcases hO a with e | ⟨o, xs, e⟩
  ·rw [e] at h; cases h
  ·rw [e] at h; cases h
 ·exact .inl h
 ·exact .inr h
theorem pN {K : PySem.W.Frag} {H : Hp} {a : Addr} {ns : List Int} {c : CS} {r : Rho} {σ : L2.St} {Q : VK} {nx bk ct : L2.St → Hp → Prop} (h : KL K H a ns)
  (ok : ∃ ρ' S', c (some (.kl ns) :: r) [] = some (.rt (.bl true), ρ', S')) (q : ∀ H', Q (.bl true) H')
  (hr : r = List.replicate r.length none := by rfl) (hl : σ.length = r.length := by rfl) : tS K c { nx := nx, rt := Q, bk := bk, ct := ct } (some (.ref a) :: σ) H := by
 obtain ⟨ρ', S', e⟩ := ok
 refine ⟨[], _, _, _, ρ', S', ⟨rfl, List.nodup_nil, fun l ad o e1 e2 => by simp at e1⟩, ⟨by simp [hl], fun i u e1 => ?_⟩, e, fun m' v H' _ _ iv => by rw [iv.of_bl]; exact q H'⟩
 cases i with
 | zero =>
  simp at e1
  subst e1
  exact ⟨.ref a, rfl, .kl_ h⟩
 | succ i =>
  simp only [List.getElem?_cons_succ] at e1
  rw [hr, List.getElem?_replicate] at e1
  split at e1 <;> cases e1
theorem x6 {ns : List Int} {i : Int} {S : Sto} : fIx (.kl ns) (.int i) S = (atI (ns.map U.int) i).bind fun u => some (u, S) := rfl
theorem lP {ns : List Int} {S : Sto} : lC [.kl ns] S = some (.int ns.length, S) := rfl
end OP
namespace OQ
open PySem PySem.Spec PyProof.Rows L2 OG OP
noncomputable def bo : CS :=
 (qb (bj (cOp (fIn false) (ag 4) (ag 0))) (cI 3 (ag 4)) gH)
noncomputable def bK : CS :=
 (bS (cI 3 (cC (.int (-1))))
  (bS (fq (iTp (cSl (ag 1) none (some (cBM aK (ag 1) (aa (ag 2) aA))))) (gNm 4) (bo ))
  (iI (ag 3))))
theorem ig {a0 a1 a2 : U} {S : Sto} : fnU 5 3 (bK ) [a0, a1, a2] S = ((bK ) [some a0, some a1, some a2, none, none] S).bind kFn := ql rfl
noncomputable def bJ (bc : Fn) : CS :=
 (iI (iJ (iTp (cOp fIx (ag 0) (cC (.int 3)))) (gNm 0) (cCB bc (aa (cOp fIx (cOp fIx (ag 2) (cC (.int 2))) (cOp fIx (ag 0) (cC (.int 1)))) (aa (ag 1) (aa (cOp fIx (ag 0) (cC (.int 0))) aA)))) 1 [1, 0]))
theorem ie {bc : Fn} {a0 a1 : U} {S : Sto} : fnU 2 2 (bJ bc) [a0, a1] S = ((bJ bc) [some a0, some a1] S).bind kFn := ql rfl
noncomputable def bT : CS :=
 (bS (cI 3 (cOp lA (cOp cR (cOp cR (cOp cR (cOp eA (ag 3) (ag 3)) (cOp eA (cC (.int 50021)) (ag 3))) (cOp eA (cC (.int 19)) (ag 5))) (cC (.int 7))) (cC (.int 2147483563))))
  (cI 4 (cOp cR (cOp eA (ag 4) (cC (.int 2147483563))) (ag 3))))
noncomputable def bH : CS :=
 (bS (cI 2 (cOp cR (cOp eA (cC (.int 5)) (ag 1)) (cC (.int 3))))
  (bS (qb (bj (cOp fLt (ag 1) (cCB lC (aa (ag 0) aA)))) (cI 2 (cOp fIx (ag 0) (ag 1))) gH)
  (bS (qb (bj (cOp fEq (cOp lA (ag 2) (cC (.int 2))) (cC (.int 0)))) (iI (dY (aa (cOp qH (ag 2) (cC (.int 2))) aA))) gH)
  (bS (cI 3 (cOp lA (cOp cR (cOp cR (cOp eA (ag 2) (cC (.int 30011))) (cOp eA (cC (.int 977)) (ag 1))) (cC (.int 41))) (cC (.int 2147483563))))
  (bS (cI 4 (cC (.int 0)))
  (bS (fq (bC (aa (cC (.int 60)) aA)) (gNm 5) (bT ))
  (iI (dY (aa (ag 4) aA)))))))))
theorem js {a0 a1 : U} {S : Sto} : fnU 6 2 (bH ) [a0, a1] S = ((bH ) [some a0, some a1, none, none, none, none] S).bind kFn := ql rfl
noncomputable def cG : CS :=
 (bS (cI 2 (cOp lA (cOp fIx (ag 0) (cC (.int 0))) (ag 1)))
  (bS (nX (ag 0) (cC (.int 0)) (cOp qH (cOp fIx (ag 0) (cC (.int 0))) (ag 1)))
  (iI (ag 2))))
theorem lD {a0 a1 : U} {S : Sto} : fnU 3 2 (cG ) [a0, a1] S = ((cG ) [some a0, some a1, none] S).bind kFn := ql rfl
noncomputable def bL : CS :=
 (iI (nZ (wX .int (ag 0)) (p9 (wX .bool (ag 0)))))
theorem ik {a0 : U} {S : Sto} : fnU 1 1 (bL ) [a0] S = ((bL ) [some a0] S).bind kFn := ql rfl
noncomputable def cD (ae : Fn) (fuel : Nat) : CS :=
 (bS (cI 4 (cCB ae (aa (ag 0) (aa (cCB lC (aa (ag 2) aA)) aA))))
  (lG (cBM cL (ag 3) (aa (cBM fG (ag 2) (aa (ag 4) aA)) aA))))
noncomputable def bM (ae : Fn) (fuel : Nat) : CS :=
 (bS (cI 2 (dQ (aa (ag 1) aA)))
  (bS (cI 3 (dY aA))
  (bS (cm (bj (cOp (ko true) (ag 2) (dY aA))) (cD ae fuel) fuel)
  (iI (ag 3)))))
theorem iq {ae : Fn} {fuel : Nat} {a0 a1 : U} {S : Sto} : fnU 5 2 (bM ae fuel) [a0, a1] S = ((bM ae fuel) [some a0, some a1, none, none, none] S).bind kFn := ql rfl
noncomputable def bW (ae ak : Fn) : CS :=
 (bS (cI 6 (aV (iTp (ag 3)) (gNm 0) (bj (cOp fLt (cCB ae (aa (ag 1) (aa (cC (.int 5)) aA))) (cC (.int 2)))) (ag 0) 1 [0]))
  (lG (cBM cL (ag 4) (aa (cCB cP (aa (cOp t4 (ag 6) (cOp zq (cC (.int 1)) (cOp eA (cC (.int 2)) (cCB wQ (aa (cOp fEq (cCB ae (aa (ag 0) (aa (cC (.int 7)) aA))) (cC (.int 0))) aA))))) aA)) aA))))
noncomputable def bV (ae ak : Fn) : CS :=
 (bS (cI 9 (cCB ae (aa (ag 0) (aa (ag 2) aA))))
  (bS (cI 5 (cCB ae (aa (ag 0) (aa (cCB lC (aa (ag 4) aA)) aA))))
  (bS (cI 6 (cOp cR (dY (aa (iU (cC (.int 1))) aA)) (aV (iTp (cOp fIx (ag 4) (ag 5))) (gNm 0) (bj (cOp fNe (ag 0) (ag 1))) (ag 0) 1 [9])))
  (bS (cI 10 (cOp cR (dY (aa (iU (cC (.int 1))) aA)) (aV (iTp (cSl (ag 6) (some (cC (.int 1))) none)) (gNm 0) (bj (cOp fLt (cBM aK (ag 2) (aa (ag 0) aA)) (cBM aK (ag 2) (aa (ag 1) aA)))) (ag 0) 1 [9, 3])))
  (dg (ag 7) (aa (ag 9) (aa (ag 5) aA)) (cOp fIx (dY (aa (cOp fIx (ag 10) (iU (cC (.int 1)))) (aa (cOp fIx (ag 6) (cCB ae (aa (ag 0) (aa (cCB lC (aa (ag 6) aA)) aA)))) aA))) (cCB wQ (aa (cOp fEq (cCB ae (aa (ag 0) (aa (cC (.int 5)) aA))) (cC (.int 0))) aA))))))))
noncomputable def bE (ae ak : Fn) : CS :=
 (bS (cI 9 (cCB ae (aa (ag 0) (aa (ag 2) aA))))
  (bS (cI 12 (cCB ae (aa (ag 0) (aa (ag 2) aA))))
  (qb (xA (bj (cOp fNe (ag 9) (ag 12))) (cOr (bj (cOp fLt (cBM aK (ag 3) (aa (ag 9) aA)) (cBM aK (ag 3) (aa (ag 12) aA)))) (bj (cOp fEq (cCB ae (aa (ag 0) (aa (cC (.int 6)) aA))) (cC (.int 0)))))) (dg (ag 11) (aa (ag 9) (aa (ag 12) aA)) (cC (.bl true))) gH)))
noncomputable def b8 (ae ak : Fn) : CS :=
 (bS (cI 2 (cOp cR (cC (.int 1)) (cCB ae (aa (ag 0) (aa (ag 1) aA)))))
  (bS (cI 3 (cCB ak (aa (ag 0) (aa (ag 2) aA))))
  (bS (cI 4 (dY aA))
  (bS (fq (bC (aa (cOp cR (cC (.int 1)) (cCB ae (aa (ag 0) (aa (cOp fIx (dY (aa (cC (.int 3)) (aa (cC (.int 3)) (aa (cC (.int 6)) aA)))) (cCB ae (aa (ag 0) (aa (cC (.int 3)) aA)))) aA)))) aA)) (gNm 5) (bW ae ak))
  (bS (cI 7 nY)
  (bS (fq (bC (aa (cCB ae (aa (ag 0) (aa (cOp cR (cOp eA (cC (.int 2)) (ag 2)) (cC (.int 1))) aA))) aA)) (gNm 8) (bV ae ak))
  (bS (cI 11 nY)
  (bS (fq (bC (aa (cCB ae (aa (ag 0) (aa (cOp cR (ag 2) (cC (.int 1))) aA))) aA)) (gNm 8) (bE ae ak))
  (iI (gK (aa (ag 2) (aa (cCB cP (aa (cCB bI (aa (ag 11) aA)) aA)) (aa (cCB cP (aa (ag 4) aA)) (aa (cCB cP (aa (cCB bI (aa (ky (ag 7) (gNm 0) (cOp cR (ag 0) (gK (aa (cOp tP (ag 1) (ag 0)) aA))) 1 [7]) aA)) aA)) aA))))))))))))))
theorem jv {ae ak : Fn} {a0 a1 : U} {S : Sto} : fnU 13 2 (b8 ae ak) [a0, a1] S = ((b8 ae ak) [some a0, some a1, none, none, none, none, none, none, none, none, none, none, none] S).bind kFn := ql rfl
noncomputable def bU : CS :=
 (bS (cI 6 (aV (iTp (cSl (ag 1) none (some (cBM aK (ag 1) (aa (ag 3) aA))))) (gNm 0) (bj (cOp (fIn false) (ag 0) (cOp fIx (cOp fIx (ag 2) (cC (.int 2))) (ag 1)))) (ag 0) 1 [4, 0]))
  (lG (cBM cL (ag 2) (aa (cOp fIx (cOp cR (dY (aa (iU (cC (.int 1))) aA)) (ag 6)) (iU (cC (.int 1)))) aA))))
noncomputable def b6 : CS :=
 (bS (cI 2 (dY aA))
  (bS (fq (iTp (cOp fIx (ag 0) (cC (.int 3)))) (gTp [3, 4, 5]) (bU ))
  (iI (ag 2))))
theorem ju {a0 a1 : U} {S : Sto} : fnU 7 2 (b6 ) [a0, a1] S = ((b6 ) [some a0, some a1, none, none, none, none, none] S).bind kFn := ql rfl
end OQ
local macro_rules
 | `(tactic| rwa $s:rwRuleSeq) => do
  let ts : Array (Lean.TSyntax `term) := s.raw[1].getSepArgs.map fun r => ⟨r[1]⟩
  let us : Array (Lean.TSyntax `term) := (("qT lN x_c xT qW qV lO iV yA uS uR Ah xS xR xU uw uQ rz rq xQ uu ur uv qX qY lR iZ iY xE uh xZ uy yu rp ya uG qk kF ft uo um uk uK rl xP uq lQ jJ jI Aj ye yd iW eB yy uP uO yg yf uU uT Ab xK xJ xI xH x5 uE uF x8 xG ui uj uA uB uC uz rA xF xY Ai Ak Am ym xW yk xV yn xX yi yh at0 at1 at2 at3 ix0 ix1 ix2 Option.bind_some List.getElem?_cons_zero List.getElem?_cons_succ List.set_cons_zero List.set_cons_succ List.length_cons List.length_nil List.map_cons List.map_nil decide_true decide_false Bool.not_true Bool.not_false yj uJ uI Ac xO xN xM ux ra q0 qZ rb yb yc x4 uD Ao yx yw yv yz An yt yr yq yp yo uL Ag x_p Af Ae Ad uN rn rm ue uf ug rg rj rk uH ga ga0 gs gs0 Option.join_some Nat.add_zero List.cons_append List.nil_append List.append_assoc" : String).splitOn " ").toArray.map fun x => ⟨(Lean.mkIdent ((x.splitOn ".").foldl Lean.Name.str Lean.Name.anonymous)).raw⟩
  let vs := ts ++ us
  `(tactic| simp only [$[$vs:term],*])
namespace OQ
open PySem PySem.Spec PyProof.Rows L2 OG OP
theorem l9 {m : Int} (h0 : 0 ≤ m) (h : m < 2 ^ 60) : m.natAbs.log2 < 9000 := ng h0 h
theorem j9 {κ α : Type} [DecidableEq κ] (ps : List (κ × α)) (b : κ) (v : α) : (ed ps b v).length ≤ ps.length + 1 := by
 unfold ed; split <;> simp
theorem m7 {α : Type} {l : List α} {k : Nat} {x : α} (h : l[k]? = some x) : k < l.length := (List.getElem?_eq_some_iff.mp h).1
theorem ao {α : Type} {l r : List α} {k : Nat} {x : α} (h : l[k]? = some x) : (l ++ r)[k]? = some x := by rw [List.getElem?_append_left (m7 h)]; exact h
theorem inI (b : Int) : ∀ l : List Int, inU (.int b) (l.map U.int) = decide (b ∈ l)
 | [] => by simp [inU]
 | x :: r => by
  have ih := inI b r
  unfold inU at ih ⊢
  rw [List.map_cons, List.any_cons, ih, show eqF (.int x) (.int b) = (x == b) from rfl]
  by_cases e : x = b
  ·subst e; simp
  ·have : (x == b) = false := by simpa using e
   rw [this]; simp [Ne.symm e]
theorem zp (l : List Int) : (l.map U.int).all de = true := by
 induction l with
 | nil => rfl
 | cons x r ih => rw [List.map_cons, List.all_cons, ih]; rfl
theorem fJ {ok : Sto → Prop} {g : CG} {ct : CT} {ce : CE} {l : Nat} {ρ : Rho} {S : Sto} (h : ok S) : bh ok g ct ce l [] ρ S = some S := by rw [bh, if_pos h]
theorem iE {ok : Sto → Prop} {g : CG} {ct : CT} {ce : CE} {l : Nat} {ρ ρ0 : Rho} {S S0 S1 : Sto} {u : U} {us : List U} (h : ok S) (hg : g u ρ S = some (ρ0, S0)) (ht : ct ρ0 S0 = some (false, S1)) : bh ok g ct ce l (u :: us) ρ S = bh ok g ct ce l us ρ0 S1 := by
 rw [bh, if_pos h, hg, Option.bind_some, ht, Option.bind_some, if_neg Bool.false_ne_true]
theorem fH {ok : Sto → Prop} {g : CG} {ct : CT} {ce : CE} {l : Nat} {ρ ρ0 : Rho} {S S0 S1 S2 : Sto} {u x : U} {us ys : List U} (h : ok S) (hg : g u ρ S = some (ρ0, S0)) (ht : ct ρ0 S0 = some (true, S1)) (he : ce ρ0 S1 = some (x, S2)) (hl : S2[l]? = some (.lst ys)) (hn : ys.length < LIM) :
  bh ok g ct ce l (u :: us) ρ S = bh ok g ct ce l us ρ0 (S2.set l (.lst (ys ++ [x]))) := by
 rw [bh, if_pos h, hg, Option.bind_some, ht, Option.bind_some, if_pos rfl, he, Option.bind_some]
 simp only [hl, hn, if_true]
noncomputable def tX (k : Nat) (S : Sto) (u v : U) : Prop := ∃ d, Dt S u d ∧ Dt S v d ∧ d.canLay0 = true ∧ d.depth ≤ k
noncomputable def oj (k : Nat) (S : Sto) (us vs : List U) : Prop := ∃ ds, DtL S us ds ∧ DtL S vs ds ∧ PyData.canLayAll0 ds = true ∧ PyData.depthAll ds ≤ k
section
variable {k j : Nat} {S : Sto} {u v : U} {us vs : List U}
theorem oj.nil : oj k S [] [] := ⟨[], .nil, .nil, rfl, Nat.zero_le _⟩
theorem tX.lst {l l' : Nat} (h1 : S[l]? = some (.lst us)) (h2 : S[l']? = some (.lst vs)) (h : oj k S us vs) : tX (k + 1) S (.ref l) (.ref l') := by
 obtain ⟨ds, a, b, c, e⟩ := h
 refine ⟨.list ds, .lst h1 a, .lst h2 b, by unfold PyData.canLay0; exact c, ?_⟩
 unfold PyData.depth
 omega
end
section
variable {S : Sto} {l l' : Nat} {us : List U} {u : U} {i : Int}
noncomputable def kg (l : Nat) (i : Int) (S : Sto) : Option O → Option (U × Sto)
 | some (.lst us) => if 0 ≤ i ∧ i < us.length ∧ us.length ≤ LIM then (us[i.toNat]?).bind fun u => some (u, S.set l (.lst (us.eraseIdx i.toNat))) else none
 | _ => none
theorem qU : fG (.ref l) [.int i] S = kg l i S S[l]? := by
 unfold fG kg; rfl
theorem oD (h0 : 0 ≤ i) (h1 : i < us.length) (hL : us.length ≤ LIM) (hu : us[i.toNat]? = some u) : kg l i S (some (.lst us)) = some (u, S.set l (.lst (us.eraseIdx i.toNat))) := by
 simp only [kg]
 rw [if_pos ⟨h0, h1, hL⟩, hu, Option.bind_some]
noncomputable def kNg : U × Sto → Option (U × Sto)
 | (.int i, S) => some (.int (-i), S)
 | _ => none
theorem iX {ca : CE} {ρ : Rho} : iU ca ρ S = (ca ρ S).bind kNg := by
 unfold iU
 congr 1
 funext p
 obtain ⟨x, S⟩ := p
 cases x <;> rfl
theorem eC : kNg (.int i, S) = some (.int (-i), S) := rfl
theorem tW {vs : List U} : atI (vs ++ [u]) (-1) = some u := by
 unfold atI ixN
 rw [if_neg (by omega), if_pos (by rw [List.length_append, List.length_singleton]; omega)]
 simp only [Option.bind_some]
 have e : ((-1 : Int) + ((vs ++ [u]).length : Int)).toNat = vs.length := by rw [List.length_append, List.length_singleton]; omega
 rw [e]
 simp
theorem wg (neg : Bool) (h : S[l]? = some (.lst us)) (h' : S[l']? = some (.lst [])) : ko neg (.ref l) (.ref l') S = some (.bl (if neg then !decide (us = []) else decide (us = [])), S) := by
 by_cases e : us = []
 ·subst e
  have k := (tX.lst (k := 0) h h' .nil)
  obtain ⟨d, a, b, c, e⟩ := k
  rw [decide_eq_true rfl]
  exact jq neg (.inl ⟨d, d, a, b, ⟨c, Nat.le_trans e (by omega)⟩, ⟨c, Nat.le_trans e (by omega)⟩, (SeqAt.eqv_refl d c).symm⟩)
 ·rw [decide_eq_false e]
  exact jq neg (.inr ⟨l, l', us, [], rfl, rfl, h, h', by simpa using e, rfl⟩)
end
theorem mY {α β : Type} (f : α → β) (l : List α) (k : Nat) : (l.eraseIdx k).map f = (l.map f).eraseIdx k := by
 rw [List.eraseIdx_eq_take_drop_succ, List.eraseIdx_eq_take_drop_succ, List.map_append, List.map_take, List.map_drop]
theorem eG (n : Nat) : aP 0 n = ((List.range n).map fun i : Nat => (i : Int)).map U.int := by
 unfold aP
 rw [List.map_map]
 refine List.map_congr_left fun i _ => ?_
 simp
inductive Ev where
 | beg (a : Int) | look (a b x : Int) | put (a b x : Int) | fin (d : Bool) (a : Int)
structure Att where
 en : Option Bool
 lk : List (Int × Int)
 nd : List (Int × Int)
 ps : List (Int × Int)
 bf : List Int
noncomputable abbrev St := List (Int × Att)
structure Go where
 a : Int
 seen : List Int
 r : Nat
section
variable {c : Cl} {B : Nat} {E L N P F E' : List (Key × U)} {X Y S : Sto} {k : Nat} {o : O}
noncomputable def hd (c : Cl) (B : Nat) (E L N P F : List (Key × U)) : Sto := [.ins c [some (.ref (B + 1)), some (.ref (B + 2)), some (.ref (B + 3)), some (.ref (B + 4)), some (.ref (B + 5))], .dic E, .dic L, .dic N, .dic P, .dic F]
theorem hd0 : (S ++ (hd c B E L N P F ++ X))[S.length]? = some (.ins c [some (.ref (B + 1)), some (.ref (B + 2)), some (.ref (B + 3)), some (.ref (B + 4)), some (.ref (B + 5))]) := by rw [ga0]; rfl
theorem hd2 : (S ++ (hd c B E L N P F ++ X))[S.length + 2]? = some (.dic L) := by rw [ga]; rfl
theorem hd3 : (S ++ (hd c B E L N P F ++ X))[S.length + 3]? = some (.dic N) := by rw [ga]; rfl
theorem hs1 : (S ++ (hd c B E L N P F ++ X)).set (S.length + 1) (.dic E') = S ++ (hd c B E' L N P F ++ X) := by rw [gs]; rfl
theorem hs2 : (S ++ (hd c B E L N P F ++ X)).set (S.length + 2) (.dic E') = S ++ (hd c B E E' N P F ++ X) := by rw [gs]; rfl
theorem hs3 : (S ++ (hd c B E L N P F ++ X)).set (S.length + 3) (.dic E') = S ++ (hd c B E L E' P F ++ X) := by rw [gs]; rfl
theorem cH : (S ++ (hd c B E L N P F ++ X)).length = S.length + (6 + X.length) := by simp [hd]; omega
end
section
variable {c : Cl} {S : Sto} {s1 s2 st : St} {a : Int} {t t' : Att}
noncomputable def hc (c : Cl) (S : Sto) (E L N P F : List (Key × U)) (X : Sto) : Sto := S ++ (hd c S.length E L N P F ++ X)
section
variable {E L N P F E' : List (Key × U)} {X Y : Sto}
theorem hc2 : (hc c S E L N P F X)[S.length + 2]? = some (.dic L) := hd2
theorem hcl : (hc c S E L N P F X).length = S.length + (6 + X.length) := cH
end
end
theorem cE {α : Type} {ok : Sto → Prop} {gg : CG} {ct : CT} {ce : CE} {S : Sto} {f : α → U} {p : α → Bool} {v : α → U} {Rel : Rho → Prop} (hok : ∀ ys G, ok (S ++ (.lst ys :: G))) :
  ∀ (xs : List α) (ys : List U) (G : Sto) (ρ : Rho), Rel ρ → ys.length + xs.length ≤ 9999 →
  (∀ x ∈ xs, ∀ ys G ρ, Rel ρ → ∃ ρ0 G1, Rel ρ0 ∧ gg (f x) ρ (S ++ (.lst ys :: G)) = some (ρ0, S ++ (.lst ys :: G)) ∧ ct ρ0 (S ++ (.lst ys :: G)) = some (p x, S ++ (.lst ys :: (G ++ G1))) ∧
   (p x = true → ∃ G2, ce ρ0 (S ++ (.lst ys :: (G ++ G1))) = some (v x, S ++ (.lst ys :: (G ++ G1 ++ G2))))) →
  ∃ G', bh ok gg ct ce S.length (xs.map f) ρ (S ++ (.lst ys :: G)) = some (S ++ (.lst (ys ++ (xs.filter p).map v) :: (G ++ G')))
 | [], ys, G, ρ, _, _, _ => ⟨[], by simp only [List.map_nil, List.filter_nil, List.append_nil]; exact fJ (hok ys G)⟩
 | x :: xs, ys, G, ρ, hr, hl, hb => by
  rw [List.length_cons] at hl
  obtain ⟨ρ0, G1, r0, h1, h2, h3⟩ := hb x List.mem_cons_self ys G ρ hr
  have hb' := fun x (hx : x ∈ xs) => hb x (List.mem_cons_of_mem _ hx)
  cases hp : p x with
  | false =>
   rw [hp] at h2
   obtain ⟨G', h⟩ := cE hok xs ys (G ++ G1) ρ0 r0 (by omega) hb'
   refine ⟨G1 ++ G', ?_⟩
   rw [List.map_cons, List.filter_cons_of_neg (by simp [hp])]
   refine (iE (hok ys G) h1 h2).trans ?_
   rw [h, List.append_assoc]
  | true =>
   rw [hp] at h2
   obtain ⟨G2, h4⟩ := h3 hp
   obtain ⟨G', h⟩ := cE hok xs (ys ++ [v x]) (G ++ G1 ++ G2) ρ0 r0 (by simp; omega) hb'
   refine ⟨G1 ++ (G2 ++ G'), ?_⟩
   rw [List.map_cons, List.filter_cons_of_pos hp]
   refine (fH (hok ys G) h1 h2 h4 (by rw [ga0]; rfl) (by unfold LIM; omega)).trans ?_
   rw [gs0]
   simp only [List.set_cons_zero]
   rw [h]
   simp only [List.map_cons, List.append_assoc, List.cons_append, List.nil_append]
theorem gG {α : Type} {ok : Sto → Prop} {gg : CG} {ce : CE} {S : Sto} {f : α → U} {v : α → U} {Rel : Rho → Prop} (hok : ∀ ys G, ok (S ++ (.lst ys :: G))) :
  ∀ (xs : List α) (ys : List U) (G : Sto) (ρ : Rho), Rel ρ → ys.length + xs.length ≤ 9999 →
  (∀ x ∈ xs, ∀ ys G ρ, Rel ρ → ∃ ρ0 G1, Rel ρ0 ∧ gg (f x) ρ (S ++ (.lst ys :: G)) = some (ρ0, S ++ (.lst ys :: G)) ∧ ce ρ0 (S ++ (.lst ys :: G)) = some (v x, S ++ (.lst ys :: (G ++ G1)))) →
  ∃ G', dF ok gg ce S.length (xs.map f) ρ (S ++ (.lst ys :: G)) = some (S ++ (.lst (ys ++ xs.map v) :: (G ++ G')))
 | [], ys, G, ρ, _, _, _ => ⟨[], by simp only [List.map_nil, List.append_nil]; exact kr (hok ys G)⟩
 | x :: xs, ys, G, ρ, hr, hl, hb => by
  rw [List.length_cons] at hl
  obtain ⟨ρ0, G1, r0, h1, h2⟩ := hb x List.mem_cons_self ys G ρ hr
  obtain ⟨G', h⟩ := gG hok xs (ys ++ [v x]) (G ++ G1) ρ0 r0 (by simp; omega) (fun x hx => hb x (List.mem_cons_of_mem _ hx))
  refine ⟨G1 ++ G', ?_⟩
  rw [List.map_cons]
  refine (iC (hok ys G) h1 h2 (by rw [ga0]; rfl) (by unfold LIM; omega)).trans ?_
  rw [gs0]
  simp only [List.set_cons_zero]
  rw [h]
  simp only [List.map_cons, List.append_assoc, List.cons_append, List.nil_append]
section
variable {c : Cl} {n w : Int} {S G : Sto} {st : St} {a : Int} {t : Att} {x : List Int}
theorem o3 {Z : Sto} {r : Nat} {o o' : O} (h : Z[r]? = some o) : (Z.set r o').set r o = Z := by
 rw [List.set_set]
 refine List.ext_getElem? fun i => ?_
 rw [List.getElem?_set]
 split
 ·subst i
  obtain ⟨h1, h2⟩ := List.getElem?_eq_some_iff.mp h
  simp [h1, h2]
 ·rfl
end
theorem kq : ∀ ns ms : List Int, PyData.eqv (.list (ns.map PyData.int)) (.list (ms.map PyData.int)) = decide (ns = ms)
 | [], [] => rfl
 | [], _ :: _ => rfl
 | _ :: _, [] => rfl
 | n :: ns, m :: ms => by
  have e : PyData.eqv (.list ((n :: ns).map PyData.int)) (.list ((m :: ms).map PyData.int)) = ((n == m) && PyData.eqv (.list (ns.map PyData.int)) (.list (ms.map PyData.int))) := rfl
  rw [e, kq ns ms, Bool.eq_iff_iff]
  simp
theorem gF {S : Sto} : ∀ ns : List Int, DtL S (ns.map U.int) (ns.map PyData.int)
 | [] => .nil
 | n :: ns => .cons (.int n) (gF ns)
theorem kb (ns : List Int) : oz (.list (ns.map PyData.int)) := by
 have h : ∀ ns : List Int, PyData.canLayAll0 (ns.map PyData.int) = true ∧ PyData.depthAll (ns.map PyData.int) ≤ 0 := fun ns => by
  induction ns with
  | nil => exact ⟨rfl, Nat.le_refl _⟩
  | cons n r ih =>
   refine ⟨by unfold PyData.canLayAll0; rw [List.map_cons]; exact ih.1, ?_⟩
   rw [List.map_cons]
   unfold PyData.depthAll
   exact Nat.max_le.mpr ⟨Nat.le_refl _, ih.2⟩
 refine ⟨by unfold PyData.canLay0; exact (h ns).1, ?_⟩
 unfold PyData.depth
 have := (h ns).2
 omega
theorem ej (neg : Bool) {S : Sto} {l l' : Nat} {ns ms : List Int} (h : S[l]? = some (.lst (ns.map U.int))) (h' : S[l']? = some (.lst (ms.map U.int))) : ko neg (.ref l) (.ref l') S = some (.bl (if neg then !decide (ns = ms) else decide (ns = ms)), S) :=
 jq neg (.inl ⟨_, _, .lst h (gF ns), .lst h' (gF ms), kb ns, kb ms, (kq ns ms).symm⟩)
section
variable {c cA : Cl} {n w : Int} {S G C : Sto} {st : St} {a : Int} {t : Att} {x : List Int} {every : Bool} {L : Nat}
noncomputable def AD (st : St) (a : Int) : List Int := match dI st a with
 | some t => t.bf
 | none => []
noncomputable def prA (a : Int) (b : Int) : Int × Int := (b, a)
theorem iA {α : Type} {ok : Sto → Prop} {gg : CG} {ce : CE} {S : Sto} {f : α → U} {v : α → U} {Rel : Rho → Prop} (hok : ∀ ys G, ok (S ++ (.lst ys :: G))) :
  ∀ (xs : List α) (ys : List U) (G : Sto) (ρ : Rho), Rel ρ → ys.length + xs.length ≤ 9999 →
  (∀ x ∈ xs, ∀ ys G ρ, Rel ρ → ∃ ρ0, Rel ρ0 ∧ gg (f x) ρ (S ++ (.lst ys :: G)) = some (ρ0, S ++ (.lst ys :: G)) ∧ ce ρ0 (S ++ (.lst ys :: G)) = some (v x, S ++ (.lst ys :: G))) →
  dF ok gg ce S.length (xs.map f) ρ (S ++ (.lst ys :: G)) = some (S ++ (.lst (ys ++ xs.map v) :: G))
 | [], ys, G, ρ, _, _, _ => by simp only [List.map_nil, List.append_nil]; exact kr (hok ys G)
 | x :: xs, ys, G, ρ, hr, hl, hb => by
  rw [List.length_cons] at hl
  obtain ⟨ρ0, r0, h1, h2⟩ := hb x List.mem_cons_self ys G ρ hr
  have h := iA hok xs (ys ++ [v x]) G ρ0 r0 (by simp; omega) (fun x hx => hb x (List.mem_cons_of_mem _ hx))
  rw [List.map_cons]
  refine (iC (hok ys G) h1 h2 (by rw [ga0]; rfl) (by unfold LIM; omega)).trans ?_
  rw [gs0]
  simp only [List.set_cons_zero]
  rw [h]
  simp only [List.map_cons, List.append_assoc, List.cons_append, List.nil_append]
noncomputable def gA (st : St) (as : List Int) : Sto := as.map fun a => .lst ((AD st a).map fun b => pP (prA a b))
end
theorem eW {α : Type} : ∀ {l : List α} {i : Nat} (h : i < l.length), (l[i] :: l.eraseIdx i).Perm l
 | [], _, h => absurd h (Nat.not_lt_zero _)
 | a :: l, 0, _ => List.Perm.refl _
 | a :: l, i + 1, h => (List.Perm.swap a _ _).trans (List.Perm.cons a (eW (l := l) (i := i) (by simpa using h)))
structure Wl (lw : Nat) (T T' : Sto) : Prop where
 len : T.length ≤ T'.length
 keep : ∀ j, j < T.length → j ≠ lw → T'[j]? = T[j]?
 well : ∃ z, T'[lw]? = some (.lst [.int z])
section
variable {lw j : Nat} {T T1 T2 S : Sto} {o : O} {m : Int}
theorem Wl.get (w : Wl lw T T1) (h : T[j]? = some o) (n : j ≠ lw) : T1[j]? = some o := by rw [w.keep j (List.getElem?_eq_some_iff.mp h).1 n]; exact h
theorem Wl.trans (a : Wl lw T T1) (b : Wl lw T1 T2) : Wl lw T T2 := ⟨Nat.le_trans a.len b.len, fun j hj n => by rw [b.keep j (Nat.lt_of_lt_of_le hj a.len) n, a.keep j hj n], b.well⟩
theorem Wl.refl (h : ∃ z, T[lw]? = some (.lst [.int z])) : Wl lw T T := ⟨Nat.le_refl _, fun _ _ _ => rfl, h⟩
theorem Wl.app (h : ∃ z, T[lw]? = some (.lst [.int z])) (X : Sto) : Wl lw T (T ++ X) := ⟨by simp, fun j hj _ => List.getElem?_append_left hj, by obtain ⟨z, h⟩ := h; exact ⟨z, ao h⟩⟩
noncomputable def cf : Fn := fnU 3 2 cG
theorem bO (h : ∃ z, T[lw]? = some (.lst [.int z])) (hm : 0 < m) (hb : m < 2 ^ 60) : ∃ d T1, cf [.ref lw, .int m] T = some (.int d, T1) ∧ Wl lw T T1 ∧ T1.length = T.length ∧ 0 ≤ d ∧ d < m := by
 obtain ⟨z, h⟩ := h
 have hl := (List.getElem?_eq_some_iff.mp h).1
 refine ⟨z % m, T.set lw (.lst [.int (z / m)]), ?_, ⟨by simp, fun j hj n => List.getElem?_set_ne n.symm, ⟨_, by rw [List.getElem?_set, if_pos rfl, if_pos hl]⟩⟩, by simp, Int.emod_nonneg _ (by omega), Int.emod_lt_of_pos _ hm⟩
 unfold cf
 rw [lD]
 have dv : ∀ (j : Int) (S : Sto), qH (.int j) (.int m) S = some (.int (j / m), S) := fun j S => uM ⟨hm, l9 (by omega) hb⟩
 have md : ∀ (j : Int) (S : Sto), lA (.int j) (.int m) S = some (.int (j % m), S) := fun j S => oE hm
 rwa [cG, h, dv, md]
noncomputable def ow : Fn := fnU 6 2 bH
theorem gP {r0 r1 r2 : Option U} : ∀ (ts : List Int) (a f : Int) (r5 : Option U), 0 ≤ a → a < 2147483563 → ∃ a' f' r5', b5 (fun _ => True) (gNm 5) bT (ts.map U.int) [r0, r1, r2, some (.int a), some (.int f), r5] S = some (.nx, [r0, r1, r2, some (.int a'), some (.int f'), r5'], S)
 | [], a, f, r5, _, _ => ⟨a, f, r5, bP trivial⟩
 | t :: ts, a, f, r5, h0, h1 => by
  obtain ⟨a', f', r5', ih⟩ := gP (r0 := r0) (r1 := r1) (r2 := r2) ts ((a * a + 50021 * a + 19 * t + 7) % 2147483563) (f * 2147483563 + (a * a + 50021 * a + 19 * t + 7) % 2147483563) (some (.int t)) (Int.emod_nonneg _ (by decide)) (Int.emod_lt_of_pos _ (by decide))
  refine ⟨a', f', r5', (cy trivial rfl ?_).trans ih⟩
  have m1 : eA (.int a) (.int a) S = some (.int (a * a), S) := fP (.inl ⟨by omega, by omega⟩)
  have m2 : eA (.int 50021) (.int a) S = some (.int (50021 * a), S) := fP (.inl (by decide))
  have m3 : eA (.int 19) (.int t) S = some (.int (19 * t), S) := fP (.inl (by decide))
  have m4 : eA (.int f) (.int 2147483563) S = some (.int (f * 2147483563), S) := fP (.inr (by decide))
  have m5 : ∀ j : Int, lA (.int j) (.int 2147483563) S = some (.int (j % 2147483563), S) := fun j => oE (by decide)
  rwa [bT, m1, m2, m3, m4, m5]
theorem rX (ns : List Int) {k : Int} (k0 : 0 ≤ k) : ∃ z, ow [.kl ns, .int k] S = some (.ref S.length, S ++ [.lst [.int z]]) := by
 unfold ow
 rw [js]
 have m1 : eA (.int 5) (.int k) S = some (.int (5 * k), S) := fP (.inl (by decide))
 have m2 : ∀ j : Int, lA (.int j) (.int 2) S = some (.int (j % 2), S) := fun j => oE (by decide)
 have m3 : ∀ j : Int, qH (.int j) (.int 2) S = some (.int (j / 2), S) := fun j => uM ⟨by decide, by decide +kernel⟩
 have m4 : ∀ j : Int, eA (.int j) (.int 30011) S = some (.int (j * 30011), S) := fun j => fP (.inr (by decide))
 have m5 : eA (.int 977) (.int k) S = some (.int (977 * k), S) := fP (.inl (by decide))
 have m6 : ∀ j : Int, lA (.int j) (.int 2147483563) S = some (.int (j % 2147483563), S) := fun j => oE (by decide)
 have r60 : bC (aa (cC (.int 60)) aA) = fun ρ S => some (aP 0 60, fun _ => True, S) := rfl
 have er : aP 0 60 = ((List.range 60).map fun i : Nat => (i : Int)).map U.int := by rw [eG, List.map_map]
 have key : ∀ num : Int, ∃ z, ((bS (qb (bj (cOp fEq (cOp lA (ag 2) (cC (.int 2))) (cC (.int 0)))) (iI (dY (aa (cOp qH (ag 2) (cC (.int 2))) aA))) gH)
  (bS (cI 3 (cOp lA (cOp cR (cOp cR (cOp eA (ag 2) (cC (.int 30011))) (cOp eA (cC (.int 977)) (ag 1))) (cC (.int 41))) (cC (.int 2147483563))))
  (bS (cI 4 (cC (.int 0)))
  (bS (fq (bC (aa (cC (.int 60)) aA)) (gNm 5) bT)
  (iI (dY (aa (ag 4) aA))))))) [some (.kl ns), some (.int k), some (.int num), none, none, none] S).bind kFn = some (.ref S.length, S ++ [.lst [.int z]]) := fun num => by
  by_cases e : num % 2 = 0
  ·refine ⟨num / 2, ?_⟩
   have e' : decide (num % 2 = 0) = true := decide_eq_true e
   rwa [m2, m3, e']
  ·have e' : decide (num % 2 = 0) = false := decide_eq_false e
   obtain ⟨a', f', r5', h⟩ := gP (S := S) (r0 := some (.kl ns)) (r1 := some (.int k)) (r2 := some (.int num)) ((List.range 60).map fun i : Nat => (i : Int)) ((num * 30011 + 977 * k + 41) % 2147483563) 0 none (Int.emod_nonneg _ (by decide)) (Int.emod_lt_of_pos _ (by decide))
   rw [← er] at h
   refine ⟨f', ?_⟩
   rwa [m2, e', m4, m5, m6, fq, r60, h]
 by_cases hk : k < (ns.length : Int)
 ·have hk' : decide (k < (ns.length : Int)) = true := decide_eq_true hk
  have hi : k.toNat < ns.length := by omega
  have ha : atI (ns.map U.int) k = some (.int ns[k.toNat]) := by
   have := dh (xs := ns.map U.int) (j := k.toNat) (v := .int ns[k.toNat]) (by rw [List.getElem?_map, List.getElem?_eq_getElem hi]; rfl)
   rw [show ((k.toNat : Nat) : Int) = k from by omega] at this
   exact this
  obtain ⟨z, h⟩ := key ns[k.toNat]
  refine ⟨z, ?_⟩
  rw [← h]
  simp only [bH, m1, lP, x6, hk', ha, kF, ft, iW, eB, xT, qW, qV, qT, lN, x_c, rA, lQ, jJ, jI, lO, iV, xY, yu, rp, lR, iZ, iY, qY, Option.bind_some, List.getElem?_cons_zero, List.getElem?_cons_succ, List.set_cons_zero, List.set_cons_succ, Option.join_some]
 ·have hk' : decide (k < (ns.length : Int)) = false := decide_eq_false hk
  obtain ⟨z, h⟩ := key (5 * k + 3)
  refine ⟨z, ?_⟩
  rw [← h]
  simp only [bH, m1, lP, hk', kF, ft, iW, eB, xT, qW, qV, qT, lN, x_c, rA, lQ, jJ, jI, lO, iV, xY, yu, rp, lR, iZ, iY, qY, qk, Option.bind_some, List.getElem?_cons_zero, List.getElem?_cons_succ, List.set_cons_zero, List.set_cons_succ, Option.join_some]
noncomputable def cg : Fn := fnU 5 2 (bM cf 100)
theorem fD {r1 : Option U} {jl jf : Nat} (n1 : jl ≠ lw) (n2 : jf ≠ lw) (n3 : jl ≠ jf) : ∀ (fuel : Nat) (left found : List Int) (T : Sto) (r4 : Option U), left.length < fuel → T[jl]? = some (.lst (left.map U.int)) → T[jf]? = some (.lst (found.map U.int)) → (∃ z, T[lw]? = some (.lst [.int z])) → left.length + found.length ≤ 900 →
  ∃ (os : List Int) (T' : Sto) (r4' : Option U), cm (bj (cOp (ko true) (ag 2) (dY aA))) (cD cf 100) fuel [some (.ref lw), r1, some (.ref jl), some (.ref jf), r4] T = some (.nx, [some (.ref lw), r1, some (.ref jl), some (.ref jf), r4'], T')
   ∧ T'[jf]? = some (.lst (os.map U.int)) ∧ os.Perm (found ++ left) ∧ T.length ≤ T'.length ∧ (∀ j, j < T.length → j ≠ lw → j ≠ jl → j ≠ jf → T'[j]? = T[j]?) ∧ ∃ z, T'[lw]? = some (.lst [.int z])
 | 0, left, found, T, r4, hf, _, _, _, _ => absurd hf (by omega)
 | fuel + 1, left, found, T, r4, hf, h1, h2, h3, hl => by
  have q := wg true (S := T ++ [.lst []]) (l := jl) (l' := T.length) (us := left.map U.int) (ao h1) (by rw [ga0]; rfl)
  have ww : ∃ z, (T ++ [O.lst []])[lw]? = some (.lst [.int z]) := by obtain ⟨z, h⟩ := h3; exact ⟨z, ao h⟩
  by_cases e : left = []
  ·subst e
   have q' : ko true (.ref jl) (.ref T.length) (T ++ [.lst []]) = some (.bl false, T ++ [.lst []]) := by rw [q]; rfl
   refine ⟨found, T ++ [.lst []], r4, mj ?_, ao h2, by rw [List.append_nil], by simp, fun j hj _ _ _ => List.getElem?_append_left hj, ww⟩
   rwa [q']
  ·have q' : ko true (.ref jl) (.ref T.length) (T ++ [.lst []]) = some (.bl true, T ++ [.lst []]) := by rw [q]; simp [e]
   have lp := List.length_pos_iff.mpr e
   obtain ⟨d, T2, e2, w2, l2, d0, d1⟩ := bO (T := T ++ [.lst []]) (lw := lw) (m := left.length) ww (by omega) (by omega)
   have hin : d.toNat < left.length := by omega
   obtain ⟨z, hz⟩ : ∃ z, left[d.toNat]? = some z := ⟨_, List.getElem?_eq_getElem hin⟩
   have hz' : (left.map U.int)[d.toNat]? = some (.int z) := by rw [List.getElem?_map, hz]; rfl
   have hL1 : (left.map U.int).length ≤ LIM := by unfold LIM; rw [List.length_map]; omega
   have hL2 : (found.map U.int).length < LIM := by unfold LIM; rw [List.length_map]; omega
   have k1 : ((left.map U.int).length : Int) = left.length := by rw [List.length_map]
   have g1 : T2[jl]? = some (.lst (left.map U.int)) := w2.get (ao h1) n1
   have g2 : T2[jf]? = some (.lst (found.map U.int)) := w2.get (ao h2) n2
   have g0 : (T ++ [O.lst []])[jl]? = some (.lst (left.map U.int)) := ao h1
   have lj : jl < T2.length := (List.getElem?_eq_some_iff.mp g1).1
   have lf : jf < T2.length := (List.getElem?_eq_some_iff.mp g2).1
   have em : (left.map U.int).eraseIdx d.toNat = (left.eraseIdx d.toNat).map U.int := (mY ..).symm
   have g3 : (T2.set jl (.lst ((left.eraseIdx d.toNat).map U.int)))[jf]? = some (.lst (found.map U.int)) := by rw [List.getElem?_set_ne n3]; exact g2
   have ef : found.map U.int ++ [.int z] = (found ++ [z]).map U.int := by rw [List.map_append]; rfl
   obtain ⟨T4, hT4⟩ : ∃ T4, T4 = (T2.set jl (.lst ((left.eraseIdx d.toNat).map U.int))).set jf (.lst ((found ++ [z]).map U.int)) := ⟨_, rfl⟩
   obtain ⟨zz, hzz⟩ := w2.well
   obtain ⟨os, T', r4', ih, k2, k3, k4, k5, k6⟩ := fD (r1 := r1) n1 n2 n3 fuel (left.eraseIdx d.toNat) (found ++ [z]) T4 (some (.int d)) (by rw [List.length_eraseIdx, if_pos hin]; omega)
    (by rw [hT4, List.getElem?_set_ne n3.symm, List.getElem?_set, if_pos rfl, if_pos lj])
    (by rw [hT4, List.getElem?_set, if_pos rfl, if_pos (by rw [List.length_set]; exact lf)])
    ⟨zz, by rw [hT4, List.getElem?_set_ne n2, List.getElem?_set_ne n1]; exact hzz⟩
    (by rw [List.length_eraseIdx, if_pos hin, List.length_append, List.length_singleton]; omega)
   have l4 : T4.length = T.length + 1 := by rw [hT4, List.length_set, List.length_set, l2, List.length_append]; rfl
   refine ⟨os, T', r4', (oS (S0 := T ++ [.lst []]) ?_ ?_).trans ih, k2, ?_, by omega, fun j hj a1 a2 a3 => ?_, k6⟩
   ·rwa [q']
   ·rw [hT4]
    rwa [cD, g0, List.length_map, e2, g1, g2, g3, qU, oD d0 (by rw [k1]; exact d1) hL1 hz', em, jK hL2, ef]
   ·refine k3.trans ?_
    rw [List.append_assoc]
    refine List.Perm.append_left found ?_
    have hz2 : left[d.toNat] = z := by rw [List.getElem?_eq_getElem hin] at hz; exact Option.some.inj hz
    have := eW hin
    rw [hz2] at this
    exact this
   ·rw [k5 j (by omega) a1 a2 a3, hT4, List.getElem?_set_ne (Ne.symm a3), List.getElem?_set_ne (Ne.symm a2), w2.keep j (by simp; omega) a1, List.getElem?_append_left hj]
theorem j7 {many : Int} (h : ∃ z, T[lw]? = some (.lst [.int z])) (m0 : 0 ≤ many) (m1 : many ≤ 90) : ∃ (os : List Int) (T' : Sto) (l : Nat), cg [.ref lw, .int many] T = some (.ref l, T') ∧ T'[l]? = some (.lst (os.map U.int)) ∧ T.length ≤ l ∧ Wl lw T T' ∧ os.length = many.toNat ∧ os.Nodup ∧ ∀ a, a ∈ os ↔ 0 ≤ a ∧ a < many := by
 have hl : lw < T.length := by obtain ⟨z, h⟩ := h; exact (List.getElem?_eq_some_iff.mp h).1
 obtain ⟨rs, hrs⟩ : ∃ rs, rs = (List.range many.toNat).map fun i : Nat => (i : Int) := ⟨_, rfl⟩
 have er : aP 0 many.toNat = rs.map U.int := by rw [hrs, eG, List.map_map]
 have lr : rs.length = many.toNat := by rw [hrs]; simp
 obtain ⟨os, T', r4', e, k2, k3, k4, k5, k6⟩ := fD (lw := lw) (r1 := some (.int many)) (jl := T.length) (jf := T.length + 1) (by omega) (by omega) (by omega) 100 rs [] (T ++ [.lst (rs.map U.int), .lst []]) none (by omega) (by rw [ga0]; rfl) (by rw [ga]; rfl) (by obtain ⟨z, h⟩ := h; exact ⟨z, ao h⟩) (by simp; omega)
 rw [List.nil_append] at k3
 have nd : rs.Nodup := by
  rw [hrs]
  exact List.Pairwise.map _ (fun a b h e => h (by omega)) List.nodup_range
 refine ⟨os, T', T.length + 1, ?_, k2, by omega, ⟨by simp at k4; omega, fun j hj n => ?_, k6⟩, by rw [k3.length_eq, lr], k3.nodup_iff.mpr nd, fun a => ?_⟩
 ·unfold cg
  rw [iq]
  have hc : 0 ≤ many ∧ many ≤ 1000 := ⟨m0, by omega⟩
  have ln : (T ++ [O.lst (rs.map U.int)]).length = T.length + 1 := by rw [List.length_append]; rfl
  rwa [bM, dQ, hc, and_self, if_true, er, ln, e]
 ·rw [k5 j (by simp; omega) n (by omega) (by omega), List.getElem?_append_left hj]
 ·rw [k3.mem_iff, hrs, List.mem_map]
  constructor
  ·rintro ⟨i, hi, rfl⟩
   have := List.mem_range.mp hi
   omega
  ·rintro ⟨a0, a1⟩
   exact ⟨a.toNat, List.mem_range.mpr (by omega), by omega⟩
end
noncomputable def inR (row : List Int) (b : Int) : Bool := decide (b ∈ row)
noncomputable def hJ (row os : List Int) (a : Int) : Int := (((os.take (os.idxOf a)).filter (inR row)).getLast?).getD (-1)
theorem flI {b : Int} {l : List Int} : de (.int b) = true ∧ (l.map U.int).all de = true := ⟨rfl, zp l⟩
theorem tJ {b : Int} {row : List Int} {S : Sto} : fIn false (.int b) (.tup (row.map U.int)) S = some (.bl (inR row b), S) := by
 unfold fIn
 dsimp only
 rw [if_pos flI, if_neg Bool.false_ne_true, inI]; rfl
section
variable {S : Sto} {jo : Nat} {os row : List Int} {a : Int}
theorem cU (h : S[jo]? = some (.lst (os.map U.int))) (ha : a ∈ os) (hl : os.length ≤ 900) : aK (.ref jo) [.int a] S = some (.int (os.idxOf a : Nat), S) := by
 have hL : os.length ≤ LIM := by unfold LIM; omega
 simp only [aK, h, eR, Option.bind_some, ha, hL, and_self, if_true]
theorem zO {us : List U} {k l : Nat} {S : Sto} (hl : S[l]? = some (.lst us)) (h : k ≤ us.length) : fSl (.ref l) none (some (k : Int)) S = some (.ref S.length, S ++ [.lst (us.take k)]) := by
 have e : HT.sIx us.length us.length (some (k : Int)) = k := by rw [HT.sIx_nat]; omega
 simp only [fSl, hl, HT.sIx_none, e, ua, List.drop_zero, Nat.sub_zero]
noncomputable def iR : Fn := fnU 5 3 bK
theorem eN {r1 r2 : Option U} {jt : Nat} {us : List U} (ht : S[jt]? = some (.lst us)) : ∀ (bs : List Int) (l : Int) (r4 : Option U),
  ∃ r4', b5 (fun Y => Y[jt]? = some (.lst us)) (gNm 4) bo (bs.map U.int) [some (.tup (row.map U.int)), r1, r2, some (.int l), r4] S = some (.nx, [some (.tup (row.map U.int)), r1, r2, some (.int (((bs.filter (inR row)).getLast?).getD l)), r4'], S)
 | [], l, r4 => ⟨r4, bP ht⟩
 | b :: bs, l, r4 => by
  cases hb : inR row b with
  | true =>
   obtain ⟨r4', ih⟩ := eN (r1 := r1) (r2 := r2) ht bs b (some (.int b))
   refine ⟨r4', ?_⟩
   have e : ((b :: bs).filter (inR row)).getLast?.getD l = (bs.filter (inR row)).getLast?.getD b := by
    rw [List.filter_cons_of_pos hb, List.getLast?_cons]
    cases (bs.filter (inR row)).getLast? <;> rfl
   rw [e]
   refine (cy ht rfl ?_).trans ih
   rwa [bo, tJ, hb]
  | false =>
   obtain ⟨r4', ih⟩ := eN (r1 := r1) (r2 := r2) ht bs l (some (.int b))
   refine ⟨r4', ?_⟩
   have e : (b :: bs).filter (inR row) = bs.filter (inR row) := List.filter_cons_of_neg (by simp [hb])
   rw [e]
   refine (cy ht rfl ?_).trans ih
   rwa [bo, tJ, hb]
theorem tq (h : S[jo]? = some (.lst (os.map U.int))) (ha : a ∈ os) (hl : os.length ≤ 900) : iR [.tup (row.map U.int), .ref jo, .int a] S = some (.int (hJ row os a), S ++ [.lst ((os.take (os.idxOf a)).map U.int)]) := by
 unfold iR
 rw [ig]
 have hi : os.idxOf a ≤ (os.map U.int).length := by rw [List.length_map]; exact Nat.le_of_lt (List.idxOf_lt_length_of_mem ha)
 obtain ⟨r4, e⟩ := eN (S := S ++ [.lst ((os.take (os.idxOf a)).map U.int)]) (row := row) (r1 := some (.ref jo)) (r2 := some (.int a)) (jt := S.length) (us := (os.take (os.idxOf a)).map U.int) (by rw [ga0]; rfl) (os.take (os.idxOf a)) (-1) none
 have et : (os.map U.int).take (os.idxOf a) = (os.take (os.idxOf a)).map U.int := by rw [List.map_take]
 have hsl : cSl (ag 1) none (some (cBM aK (ag 1) (aa (ag 2) aA))) [some (.tup (row.map U.int)), some (.ref jo), some (.int a), some (.int (-1)), none] S = some (.ref S.length, S ++ [.lst ((os.take (os.idxOf a)).map U.int)]) := by
  have hx : cBM aK (ag 1) (aa (ag 2) aA) [some (.tup (row.map U.int)), some (.ref jo), some (.int a), some (.int (-1)), none] S = some (.int (os.idxOf a : Nat), S) := by
   rwa [h, cU h ha hl]
  have hv : ag 1 [some (.tup (row.map U.int)), some (.ref jo), some (.int a), some (.int (-1)), none] S = some (.ref jo, S) := rfl
  simp only [cSl, lF, hv, hx, Option.bind_some, zO h hi, et]
 have g0 : (S ++ [O.lst ((os.take (os.idxOf a)).map U.int)])[S.length]? = some (.lst ((os.take (os.idxOf a)).map U.int)) := by rw [ga0]; rfl
 have hfor : fq (iTp (cSl (ag 1) none (some (cBM aK (ag 1) (aa (ag 2) aA))))) (gNm 4) bo [some (.tup (row.map U.int)), some (.ref jo), some (.int a), some (.int (-1)), none] S = some (.nx, [some (.tup (row.map U.int)), some (.ref jo), some (.int a), some (.int (hJ row os a)), r4], S ++ [.lst ((os.take (os.idxOf a)).map U.int)]) := by
  unfold fq iTp
  rw [hsl, Option.bind_some]
  simp only [g0, Option.bind_some]
  exact e
 rwa [bK, hfor]
structure lJ (many : Int) (wr lk : List (List Int)) : Prop where
 at_ : ∀ r ∈ lk, ∃ a b v, r = [a, b, v] ∧ (0 ≤ a ∧ a < many) ∧ 0 ≤ b ∧ b < wr.length
noncomputable def aI (many : Int) (tm : U) (wr lk : List (List Int)) : U := .tup [.int many, tm, .tup (wr.map rwU), .tup (lk.map rwU)]
noncomputable def cZ (wr lk : List (List Int)) (os : List Int) : List Int := lk.map fun r => hJ (wr.getD (r.getD 1 0).toNat []) os (r.getD 0 0)
noncomputable def jG : Fn := fnU 2 2 (bJ iR)
variable {many : Int} {wr lk : List (List Int)} {tm : U}
theorem oa {b : Int} (b0 : 0 ≤ b) (b1 : b < wr.length) : atI (wr.map rwU) b = some (.tup ((wr.getD b.toNat []).map U.int)) := by
 have hi : b.toNat < wr.length := by omega
 have := dh (xs := wr.map rwU) (j := b.toNat) (v := rwU wr[b.toNat]) (by rw [List.getElem?_map, List.getElem?_eq_getElem hi]; rfl)
 rw [show ((b.toNat : Nat) : Int) = b from by omega] at this
 rw [this, List.getD_eq_getElem?_getD, List.getElem?_eq_getElem hi]; rfl
theorem fR (h : S[jo]? = some (.lst (os.map U.int))) (hl : os.length ≤ 900) (hk : lk.length ≤ 900) (ti : lJ many wr lk) (hm : ∀ a, 0 ≤ a → a < many → a ∈ os) :
  ∃ G, jG [aI many tm wr lk, .ref jo] S = some (.ref S.length, S ++ (.lst ((cZ wr lk os).map U.int) :: G)) := by
 unfold jG
 rw [ie]
 obtain ⟨G, e⟩ := gG (S := S) (ok := fun _ => True) (gg := gNm 0) (ce := cCB iR (aa (cOp fIx (cOp fIx (ag 2) (cC (.int 2))) (cOp fIx (ag 0) (cC (.int 1)))) (aa (ag 1) (aa (cOp fIx (ag 0) (cC (.int 0))) aA)))) (f := rwU) (v := fun r => .int (hJ (wr.getD (r.getD 1 0).toNat []) os (r.getD 0 0))) (Rel := fun ρ => ∃ r0, ρ = [r0, some (.ref jo), some (aI many tm wr lk)]) (fun _ _ => trivial) lk [] [] [none, some (.ref jo), some (aI many tm wr lk)] ⟨_, rfl⟩ (by simp; omega) (fun r hr ys G ρ hρ => by
  obtain ⟨r0, rfl⟩ := hρ
  obtain ⟨a, b, v, rfl, ha, b0, b1⟩ := ti.at_ r hr
  have e1 := tq (S := S ++ (.lst ys :: G)) (row := wr.getD b.toNat []) (a := a) (ao h) (hm a ha.1 ha.2) hl
  refine ⟨[some (rwU [a, b, v]), some (.ref jo), some (aI many tm wr lk)], [.lst ((os.take (os.idxOf a)).map U.int)], ⟨_, rfl⟩, rfl, ?_⟩
  have er : rwU [a, b, v] = .tup [.int a, .int b, .int v] := rfl
  have e0 : [a, b, v].getD 0 0 = a := rfl
  have e2 : [a, b, v].getD 1 0 = b := rfl
  simp only [List.append_assoc, List.cons_append] at e1
  rwa [er, e0, e2, aI, oa b0 b1, e1])
 simp only [List.nil_append] at e
 have em : (lk.map fun r => U.int (hJ (wr.getD (r.getD 1 0).toNat []) os (r.getD 0 0))) = (cZ wr lk os).map U.int := by unfold cZ; rw [List.map_map]; rfl
 rw [em] at e
 refine ⟨G, ?_⟩
 have hi : cOp fIx (ag 0) (cC (.int 3)) [some (aI many tm wr lk), some (.ref jo)] S = some (.tup (lk.map rwU), S) := by
  rwa [aI]
 have hc : iJ (iTp (cOp fIx (ag 0) (cC (.int 3)))) (gNm 0) (cCB iR (aa (cOp fIx (cOp fIx (ag 2) (cC (.int 2))) (cOp fIx (ag 0) (cC (.int 1)))) (aa (ag 1) (aa (cOp fIx (ag 0) (cC (.int 0))) aA)))) 1 [1, 0] [some (aI many tm wr lk), some (.ref jo)] S = some (.ref S.length, S ++ (.lst ((cZ wr lk os).map U.int) :: G)) := by
  unfold iJ iTp
  rw [hi, Option.bind_some]
  simp only [Option.bind_some, gc, List.replicate, List.map_cons, List.map_nil, List.getElem?_cons_zero, List.getElem?_cons_succ, Option.getD_some, List.cons_append, List.nil_append, e]
 rwa [bJ, hc]
theorem nS {l k : Nat} {us vs : List U} (h1 : S[l]? = some (.lst us)) (h2 : S[k]? = some (.lst vs)) (hz : us.length + vs.length ≤ LIM) : cR (.ref l) (.ref k) S = some (.ref S.length, S ++ [.lst (us ++ vs)]) := by
 simp only [cR, gE, h1, h2, hz, if_true]
noncomputable def ox : Fn := fnU 7 2 b6
theorem qP (e : List Int) : atI ((-1 :: e).map U.int) (-1) = some (.int (e.getLast?.getD (-1))) := by
 rcases List.eq_nil_or_concat e with rfl | ⟨r, x, rfl⟩
 ·rfl
 ·rw [List.concat_eq_append, ← List.cons_append, List.map_append, List.getLast?_append]
  exact tW
theorem gT {Z : Sto} (h : Z[jo]? = some (.lst (os.map U.int))) (hl : os.length ≤ 900) (hm : ∀ a, 0 ≤ a → a < many → a ∈ os) : ∀ (ls : List (List Int)) (acc : List Int) (G : Sto) (r3 r4 r5 r6 : Option U), (∀ r ∈ ls, ∃ a b v, r = [a, b, v] ∧ (0 ≤ a ∧ a < many) ∧ 0 ≤ b ∧ b < wr.length) → acc.length + ls.length ≤ 900 →
  ∃ G' r3' r4' r5' r6', b5 (fun _ => True) (gTp [3, 4, 5]) bU (ls.map rwU) [some (aI many tm wr lk), some (.ref jo), some (.ref Z.length), r3, r4, r5, r6] (Z ++ (.lst (acc.map U.int) :: G)) = some (.nx, [some (aI many tm wr lk), some (.ref jo), some (.ref Z.length), r3', r4', r5', r6'], Z ++ (.lst ((acc ++ cZ wr ls os).map U.int) :: G'))
 | [], acc, G, r3, r4, r5, r6, _, _ => ⟨G, r3, r4, r5, r6, by have : acc ++ cZ wr [] os = acc := List.append_nil _; rw [this]; exact bP trivial⟩
 | r :: ls, acc, G, r3, r4, r5, r6, hr, hn => by
  rw [List.length_cons] at hn
  obtain ⟨a, b, v, rfl, ha, b0, b1⟩ := hr r List.mem_cons_self
  obtain ⟨Y, hY⟩ : ∃ Y, Y = Z ++ (.lst (acc.map U.int) :: G) := ⟨_, rfl⟩
  have hYo : ∀ X, (Y ++ X)[jo]? = some (.lst (os.map U.int)) := fun X => by rw [hY, List.append_assoc]; exact ao h
  have hYo0 : Y[jo]? = some (.lst (os.map U.int)) := by rw [hY]; exact ao h
  have hao := hm a ha.1 ha.2
  have hi : os.idxOf a ≤ (os.map U.int).length := by rw [List.length_map]; exact Nat.le_of_lt (List.idxOf_lt_length_of_mem hao)
  obtain ⟨pre, hpre⟩ : ∃ pre, pre = os.take (os.idxOf a) := ⟨_, rfl⟩
  have et : (os.map U.int).take (os.idxOf a) = pre.map U.int := by rw [hpre, List.map_take]
  have lp : pre.length ≤ 900 := by rw [hpre, List.length_take]; omega
  obtain ⟨row, hrow⟩ : ∃ row, row = wr.getD b.toNat [] := ⟨_, rfl⟩
  have ar := oa (wr := wr) b0 b1
  rw [← hrow] at ar
  have hsl : cSl (ag 1) none (some (cBM aK (ag 1) (aa (ag 3) aA))) [some (aI many tm wr lk), some (.ref jo), some (.ref Z.length), some (.int a), some (.int b), some (.int v), r6] Y = some (.ref Y.length, Y ++ [.lst (pre.map U.int)]) := by
   have hx : cBM aK (ag 1) (aa (ag 3) aA) [some (aI many tm wr lk), some (.ref jo), some (.ref Z.length), some (.int a), some (.int b), some (.int v), r6] Y = some (.int (os.idxOf a : Nat), Y) := by
    rwa [hYo0, cU hYo0 hao hl]
   have hv : ag 1 [some (aI many tm wr lk), some (.ref jo), some (.ref Z.length), some (.int a), some (.int b), some (.int v), r6] Y = some (.ref jo, Y) := rfl
   simp only [cSl, lF, hv, hx, Option.bind_some, zO hYo0 hi, et]
  obtain ⟨G1, e1⟩ := cE (S := Y ++ [.lst (pre.map U.int)]) (ok := fun S => S[Y.length]? = some (.lst (pre.map U.int))) (gg := gNm 0) (ct := bj (cOp (fIn false) (ag 0) (cOp fIx (cOp fIx (ag 2) (cC (.int 2))) (ag 1)))) (ce := ag 0) (f := U.int) (p := inR row) (v := U.int) (Rel := fun ρ => ∃ r0, ρ = [r0, some (.int b), some (aI many tm wr lk)]) (fun ys G => by rw [List.append_assoc, ga0]; rfl) pre [] [] [none, some (.int b), some (aI many tm wr lk)] ⟨_, rfl⟩ (by simp; omega) (fun c hc ys G ρ hρ => by
   obtain ⟨r0, rfl⟩ := hρ
   refine ⟨[some (.int c), some (.int b), some (aI many tm wr lk)], [], ⟨_, rfl⟩, rfl, ?_, fun _ => ⟨[], ?_⟩⟩
   ·rwa [aI, ar, tJ, List.append_nil]
   ·rwa [List.append_nil])
  simp only [List.nil_append] at e1
  have ln : (Y ++ [O.lst (pre.map U.int)]).length = Y.length + 1 := by rw [List.length_append]; rfl
  have gz : (Y ++ [O.lst (pre.map U.int)])[Y.length]? = some (.lst (pre.map U.int)) := by rw [ga0]; rfl
  rw [ln] at e1
  simp only [List.append_assoc, List.cons_append, List.nil_append] at e1
  have hc : aV (iTp (cSl (ag 1) none (some (cBM aK (ag 1) (aa (ag 3) aA))))) (gNm 0) (bj (cOp (fIn false) (ag 0) (cOp fIx (cOp fIx (ag 2) (cC (.int 2))) (ag 1)))) (ag 0) 1 [4, 0] [some (aI many tm wr lk), some (.ref jo), some (.ref Z.length), some (.int a), some (.int b), some (.int v), r6] Y = some (.ref (Y.length + 1), Y ++ (.lst (pre.map U.int) :: .lst ((pre.filter (inR row)).map U.int) :: G1)) := by
   unfold aV iTp
   rw [hsl, Option.bind_some]
   simp only [gz, Option.bind_some, gc, List.replicate, List.map_cons, List.map_nil, List.getElem?_cons_zero, List.getElem?_cons_succ, Option.getD_some, List.cons_append, List.nil_append, ln, e1, List.append_assoc]
  obtain ⟨ea, hea⟩ : ∃ ea, ea = pre.filter (inR row) := ⟨_, rfl⟩
  rw [← hea] at hc
  have lea : ea.length ≤ 900 := by rw [hea]; exact Nat.le_trans (List.length_filter_le ..) lp
  obtain ⟨X, hX⟩ : ∃ X, X = Y ++ (.lst (pre.map U.int) :: .lst (ea.map U.int) :: G1) := ⟨_, rfl⟩
  rw [← hX] at hc
  have gX : (X ++ [O.lst [.int (-1)]])[Y.length + 1]? = some (.lst (ea.map U.int)) := by rw [hX, List.append_assoc, ga]; rfl
  have gN : (X ++ [O.lst [.int (-1)]])[X.length]? = some (.lst [.int (-1)]) := by rw [ga0]; rfl
  obtain ⟨ev, hev⟩ : ∃ ev, ev = (-1 :: ea).map U.int := ⟨_, rfl⟩
  have hcat : cR (.ref X.length) (.ref (Y.length + 1)) (X ++ [.lst [.int (-1)]]) = some (.ref (X.length + 1), X ++ [.lst [.int (-1)], .lst ev]) := by
   have hz : [U.int (-1)].length + (ea.map U.int).length ≤ LIM := by unfold LIM; simp; omega
   rw [nS gN gX hz, List.length_append, List.append_assoc, hev]; rfl
  have hlast : hJ (wr.getD b.toNat []) os a = ea.getLast?.getD (-1) := by unfold hJ; rw [hea, hrow, hpre]
  have etl : acc ++ cZ wr ([a, b, v] :: ls) os = acc ++ [ea.getLast?.getD (-1)] ++ cZ wr ls os := by
   unfold cZ; rw [List.map_cons, List.append_assoc]
   show acc ++ hJ (wr.getD b.toNat []) os a :: _ = _
   rw [hlast]; rfl
  obtain ⟨G', q3, q4, q5, q6, ih⟩ := gT h hl hm ls (acc ++ [ea.getLast?.getD (-1)]) (G ++ (.lst (pre.map U.int) :: .lst (ea.map U.int) :: (G1 ++ [.lst [.int (-1)], .lst ev]))) (some (.int a)) (some (.int b)) (some (.int v)) (some (.ref (Y.length + 1))) (fun r h => hr r (List.mem_cons_of_mem _ h)) (by simp; omega)
  refine ⟨G', q3, q4, q5, q6, ?_⟩
  rw [etl, ← hY]
  refine (cy (ρ0 := [some (aI many tm wr lk), some (.ref jo), some (.ref Z.length), some (.int a), some (.int b), some (.int v), r6]) (S0 := Y) trivial rfl ?_).trans ih
  have hA : (acc.map U.int).length < LIM := by unfold LIM; rw [List.length_map]; omega
  have ge : (X ++ [O.lst [.int (-1)], .lst ev])[X.length + 1]? = some (.lst ev) := by rw [ga]; rfl
  have eXY : ∀ V, X ++ V = Z ++ (.lst (acc.map U.int) :: (G ++ (.lst (pre.map U.int) :: .lst (ea.map U.int) :: (G1 ++ V)))) := fun V => by rw [hX, hY]; simp only [List.append_assoc, List.cons_append]
  have gA : (X ++ [O.lst [.int (-1)], .lst ev])[Z.length]? = some (.lst (acc.map U.int)) := by rw [eXY, ga0]; rfl
  have hv : fIx (.ref (X.length + 1)) (.int (-1)) (X ++ [.lst [.int (-1)], .lst ev]) = some (.int (ea.getLast?.getD (-1)), X ++ [.lst [.int (-1)], .lst ev]) := by
   rw [uE, ge, uF, hev, qP]; rfl
  have hset : (X ++ [O.lst [.int (-1)], .lst ev]).set Z.length (.lst (acc.map U.int ++ [.int (ea.getLast?.getD (-1))])) = Z ++ (.lst ((acc ++ [ea.getLast?.getD (-1)]).map U.int) :: (G ++ (.lst (pre.map U.int) :: .lst (ea.map U.int) :: (G1 ++ [.lst [.int (-1)], .lst ev])))) := by
   rw [eXY, gs0, List.map_append]; rfl
  unfold bU
  rw [kF, iW, hc, Option.bind_some, eB, Option.bind_some, ft]
  simp only [List.set_cons_succ, List.set_cons_zero]
  have hdrop : cOp fIx (cOp cR (dY (aa (iU (cC (.int 1))) aA)) (ag 6)) (iU (cC (.int 1))) [some (aI many tm wr lk), some (.ref jo), some (.ref Z.length), some (.int a), some (.int b), some (.int v), some (.ref (Y.length + 1))] X = some (.int (ea.getLast?.getD (-1)), X ++ [.lst [.int (-1)], .lst ev]) := by
   rwa [iX, eC, hcat, hv]
  have gA0 : X[Z.length]? = some (.lst (acc.map U.int)) := by have := eXY []; rw [List.append_nil] at this; rw [this, ga0]; rfl
  rwa [gA0, hdrop, gA, jK hA, hset]
theorem se (h : S[jo]? = some (.lst (os.map U.int))) (hl : os.length ≤ 900) (hk : lk.length ≤ 900) (ti : lJ many wr lk) (hm : ∀ a, 0 ≤ a → a < many → a ∈ os) :
  ∃ G, ox [aI many tm wr lk, .ref jo] S = some (.ref S.length, S ++ (.lst ((cZ wr lk os).map U.int) :: G)) := by
 unfold ox
 rw [ju]
 obtain ⟨G, q3, q4, q5, q6, e⟩ := gT (tm := tm) (wr := wr) (lk := lk) h hl hm lk [] [] none none none none ti.at_ (by simp; omega)
 refine ⟨G, ?_⟩
 simp only [List.map_nil, List.nil_append] at e
 have hi : ∀ X : Sto, cOp fIx (ag 0) (cC (.int 3)) [some (aI many tm wr lk), some (.ref jo), some (.ref S.length), none, none, none, none] X = some (.tup (lk.map rwU), X) := fun X => by
  rwa [aI]
 have hf : fq (iTp (cOp fIx (ag 0) (cC (.int 3)))) (gTp [3, 4, 5]) bU [some (aI many tm wr lk), some (.ref jo), some (.ref S.length), none, none, none, none] (S ++ [.lst []]) = some (.nx, [some (aI many tm wr lk), some (.ref jo), some (.ref S.length), q3, q4, q5, q6], S ++ (.lst ((cZ wr lk os).map U.int) :: G)) := by
  unfold fq iTp
  rw [hi, Option.bind_some]
  simp only [Option.bind_some]
  exact e
 rwa [b6, hf]
end
structure Fw (lw jw : Nat) (T T' : Sto) : Prop where
 len : T.length ≤ T'.length
 keep : ∀ j, j < T.length → j ≠ lw → j ≠ jw → T'[j]? = T[j]?
 well : ∃ z, T'[lw]? = some (.lst [.int z])
section
variable {lw jw jh j : Nat} {T T1 T2 S : Sto} {o : O} {m : Int}
theorem Fw.of (w : Wl lw T T1) : Fw lw jw T T1 := ⟨w.len, fun j h n _ => w.keep j h n, w.well⟩
theorem Fw.trans (a : Fw lw jw T T1) (b : Fw lw jw T1 T2) : Fw lw jw T T2 := ⟨Nat.le_trans a.len b.len, fun j hj n n' => by rw [b.keep j (Nat.lt_of_lt_of_le hj a.len) n n', a.keep j hj n n'], b.well⟩
theorem Fw.get (w : Fw lw jw T T1) (h : T[j]? = some o) (n : j ≠ lw) (n' : j ≠ jw) : T1[j]? = some o := by rw [w.keep j (List.getElem?_eq_some_iff.mp h).1 n n']; exact h
theorem Fw.set (h : ∃ z, T[lw]? = some (.lst [.int z])) (n : jw ≠ lw) (o : O) : Fw lw jw T (T.set jw o) := ⟨by simp, fun j _ _ n' => List.getElem?_set_ne n'.symm, by obtain ⟨z, h⟩ := h; exact ⟨z, by rw [List.getElem?_set_ne n]; exact h⟩⟩
noncomputable def vv : CT := bj (cOp fLt (cCB cf (aa (ag 1) (aa (cC (.int 5)) aA))) (cC (.int 2)))
theorem eE {us : List U} {n : Nat} (n1 : n ≠ lw) (n2 : jh ≠ lw) (n3 : jh ≠ n) : ∀ (as ys : List Int) (Y : Sto) (r0 : Option U), Y[jh]? = some (.lst us) → Y[n]? = some (.lst (ys.map U.int)) → (∃ z, Y[lw]? = some (.lst [.int z])) → ys.length + as.length ≤ 900 →
  ∃ (ys' : List Int) (Y' : Sto), bh (fun S => S[jh]? = some (.lst us)) (gNm 0) vv (ag 0) n (as.map U.int) [r0, some (.ref lw)] Y = some Y' ∧ Y'[n]? = some (.lst (ys'.map U.int)) ∧ Fw lw n Y Y' ∧ (∀ z ∈ ys', z ∈ ys ∨ z ∈ as) ∧ ys'.length ≤ ys.length + as.length
 | [], ys, Y, r0, h1, h2, h3, _ => ⟨ys, Y, fJ h1, h2, .of (.refl h3), fun z h => .inl h, by simp⟩
 | a :: as, ys, Y, r0, h1, h2, h3, hl => by
  rw [List.length_cons] at hl
  obtain ⟨d, Y1, e1, w1, l1, d0, d1⟩ := bO (m := 5) h3 (by omega) (by omega)
  have g1 : Y1[jh]? = some (.lst us) := w1.get h1 n2
  have g2 : Y1[n]? = some (.lst (ys.map U.int)) := w1.get h2 n1
  by_cases hd : d < 2
  ·have hd' : decide (d < 2) = true := decide_eq_true hd
   have lt : n < Y1.length := (List.getElem?_eq_some_iff.mp g2).1
   have ey : ys.map U.int ++ [.int a] = (ys ++ [a]).map U.int := by rw [List.map_append]; rfl
   obtain ⟨ys', Y', e, k1, k2, k3, k4⟩ := eE (us := us) n1 n2 n3 as (ys ++ [a]) (Y1.set n (.lst ((ys ++ [a]).map U.int))) (some (.int a)) (by rw [List.getElem?_set_ne n3.symm]; exact g1) (by rw [List.getElem?_set, if_pos rfl, if_pos lt]) (by obtain ⟨z, h⟩ := w1.well; exact ⟨z, by rw [List.getElem?_set_ne n1]; exact h⟩) (by simp; omega)
   refine ⟨ys', Y', ?_, k1, ((Fw.of w1).trans (.set w1.well n1 _)).trans k2, fun z hz => ?_, by simp at k4 ⊢; omega⟩
   ·refine (fH (S0 := Y) (ρ0 := [some (.int a), some (.ref lw)]) (S1 := Y1) (S2 := Y1) (x := .int a) (ys := ys.map U.int) h1 rfl ?_ rfl g2 (by unfold LIM; rw [List.length_map]; omega)).trans ?_
    ·rwa [vv, e1, hd']
    ·rw [ey]; exact e
   ·rcases k3 z hz with h | h
    ·rcases List.mem_append.mp h with h | h
     ·exact .inl h
     ·rw [List.mem_singleton.mp h]; exact .inr List.mem_cons_self
    ·exact .inr (List.mem_cons_of_mem _ h)
  ·have hd' : decide (d < 2) = false := decide_eq_false hd
   obtain ⟨ys', Y', e, k1, k2, k3, k4⟩ := eE (us := us) n1 n2 n3 as ys Y1 (some (.int a)) g1 g2 w1.well (by omega)
   refine ⟨ys', Y', ?_, k1, (Fw.of w1).trans k2, fun z hz => ?_, by simp; omega⟩
   ·refine (iE (S0 := Y) (ρ0 := [some (.int a), some (.ref lw)]) (S1 := Y1) h1 rfl ?_).trans e
    rwa [vv, e1, hd']
   ·rcases k3 z hz with h | h
    ·exact .inl h
    ·exact .inr (List.mem_cons_of_mem _ h)
noncomputable abbrev rT (lw : Nat) (most many : Int) (jh jw : Nat) (r5 r6 r7 r8 r9 r10 r11 r12 : Option U) : Rho := [some (.ref lw), some (.int most), some (.int many), some (.ref jh), some (.ref jw), r5, r6, r7, r8, r9, r10, r11, r12]
variable {most many : Int} {os : List Int} {r5 r6 r7 r8 r9 r10 r11 r12 : Option U}
theorem vm {n : Nat} {ys : List Int} (h : S[n]? = some (.lst (ys.map U.int))) (b : Bool) : ∃ zs : List Int, t4 (.ref n) (.int (1 - 2 * (if b then 1 else 0))) S = some (.ref S.length, S ++ [.lst (zs.map U.int)]) ∧ (∀ z, z ∈ zs → z ∈ ys) ∧ zs.length = ys.length := by
 cases b with
 | true =>
  refine ⟨ys.reverse, ?_, fun z hz => List.mem_reverse.mp hz, List.length_reverse⟩
  have e : (1 - 2 * (if true then 1 else 0) : Int) = -1 := rfl
  have n1 : ¬ ((-1 : Int) = 1) := by decide
  rw [e]
  simp only [t4, h, n1, if_false, if_true, List.map_reverse]
 | false =>
  refine ⟨ys, ?_, fun z hz => hz, rfl⟩
  have e : (1 - 2 * (if false then 1 else 0) : Int) = 1 := rfl
  rw [e]
  simp only [t4, h, if_true]
theorem rB {Y : Sto} {wr : List (List Int)} (n1 : jw ≠ lw) (n2 : jh ≠ lw) (n3 : jh ≠ jw) (hh : Y[jh]? = some (.lst (os.map U.int))) (hw : Y[jw]? = some (.lst (wr.map rwU))) (wl : ∃ z, Y[lw]? = some (.lst [.int z])) (ho : os.length ≤ 90) (hl : wr.length ≤ 90) :
  ∃ (zs : List Int) (Y' : Sto) (r6' : Option U), bW cf cg (rT lw most many jh jw r5 r6 r7 r8 r9 r10 r11 r12) Y = some (.nx, rT lw most many jh jw r5 r6' r7 r8 r9 r10 r11 r12, Y') ∧ Y'[jw]? = some (.lst ((wr ++ [zs]).map rwU)) ∧ Fw lw jw Y Y' ∧ (∀ z ∈ zs, z ∈ os) ∧ zs.length ≤ 90 := by
 have lj : jw < Y.length := (List.getElem?_eq_some_iff.mp hw).1
 have lh : jh < Y.length := (List.getElem?_eq_some_iff.mp hh).1
 have ll : lw < Y.length := by obtain ⟨z, h⟩ := wl; exact (List.getElem?_eq_some_iff.mp h).1
 obtain ⟨ys, Y1, e1, k1, k2, k3, k4⟩ := eE (lw := lw) (jh := jh) (n := Y.length) (us := os.map U.int) (by omega) n2 (by omega) os [] (Y ++ [.lst []]) none (ao hh) (by rw [ga0]; rfl) (by obtain ⟨z, h⟩ := wl; exact ⟨z, ao h⟩) (by simp; omega)
 have hc : aV (iTp (ag 3)) (gNm 0) vv (ag 0) 1 [0] (rT lw most many jh jw r5 r6 r7 r8 r9 r10 r11 r12) Y = some (.ref Y.length, Y1) := by
  have hv : ag 3 (rT lw most many jh jw r5 r6 r7 r8 r9 r10 r11 r12) Y = some (.ref jh, Y) := rfl
  unfold aV iTp
  rw [hv, Option.bind_some]
  simp only [hh, Option.bind_some, gc, rT, List.replicate, List.map_cons, List.map_nil, List.getElem?_cons_zero, Option.getD_some, List.cons_append, List.nil_append, e1]
 have l1 := k2.len
 rw [List.length_append] at l1
 have w1 : Y1[jw]? = some (.lst (wr.map rwU)) := k2.get (ao hw) n1 (by omega)
 obtain ⟨d, Y2, e2, q2, l2, d0, d1⟩ := bO (m := 7) k2.well (by omega) (by omega)
 have g2 : Y2[Y.length]? = some (.lst (ys.map U.int)) := q2.get k1 (by omega)
 obtain ⟨zs, e3, z1, z2⟩ := vm g2 (decide (d = 0))
 have w2 : (Y2 ++ [O.lst (zs.map U.int)])[jw]? = some (.lst (wr.map rwU)) := ao (q2.get w1 n1)
 have lj2 : jw < (Y2 ++ [O.lst (zs.map U.int)]).length := (List.getElem?_eq_some_iff.mp w2).1
 have gn : (Y2 ++ [O.lst (zs.map U.int)])[Y2.length]? = some (.lst (zs.map U.int)) := by rw [ga0]; rfl
 have wl2 : ∃ z, (Y2 ++ [O.lst (zs.map U.int)])[lw]? = some (.lst [.int z]) := by obtain ⟨z, h⟩ := q2.well; exact ⟨z, ao h⟩
 have m2 : ∀ k : Int, eA (.int 2) (.int k) Y2 = some (.int (2 * k), Y2) := fun k => fP (.inl (by decide))
 have hA : (wr.map rwU).length < LIM := by unfold LIM; rw [List.length_map]; omega
 have em : wr.map rwU ++ [.tup (zs.map U.int)] = (wr ++ [zs]).map rwU := by rw [List.map_append]; rfl
 have yl : ys.length ≤ 90 := by simp at k4; omega
 refine ⟨zs, (Y2 ++ [O.lst (zs.map U.int)]).set jw (.lst ((wr ++ [zs]).map rwU)), some (.ref Y.length), ?_, by rw [List.getElem?_set, if_pos rfl, if_pos lj2], ?_, fun z hz => ?_, by omega⟩
 ·unfold bW
  rw [kF, iW]
  show ((aV (iTp (ag 3)) (gNm 0) vv (ag 0) 1 [0] (rT lw most many jh jw r5 r6 r7 r8 r9 r10 r11 r12) Y).bind _).bind _ = _
  rw [hc, Option.bind_some, eB, Option.bind_some, ft]
  rwa [rT, w1, e2, m2, e3, gn, w2, jK hA, em]
 ·refine Fw.trans ?_ (.set wl2 n1 _)
  refine Fw.trans ?_ (.of (.app q2.well _))
  refine Fw.trans ?_ (.of q2)
  exact ⟨by omega, fun j hj a1 a2 => by rw [k2.keep j (by simp; omega) a1 (by omega), List.getElem?_append_left hj], k2.well⟩
 ·rcases k3 z (z1 z hz) with h | h
  ·cases h
  ·exact h
theorem lS (n1 : jw ≠ lw) (n2 : jh ≠ lw) (n3 : jh ≠ jw) (ho : os.length ≤ 90) : ∀ (us : List U) (wr : List (List Int)) (Y : Sto) (r5 r6 : Option U), Y[jh]? = some (.lst (os.map U.int)) → Y[jw]? = some (.lst (wr.map rwU)) → (∃ z, Y[lw]? = some (.lst [.int z])) → wr.length + us.length ≤ 90 → (∀ r ∈ wr, (∀ z ∈ r, z ∈ os) ∧ r.length ≤ 90) →
  ∃ (wr' : List (List Int)) (Y' : Sto) (r5' r6' : Option U), b5 (fun _ => True) (gNm 5) (bW cf cg) us (rT lw most many jh jw r5 r6 r7 r8 r9 r10 r11 r12) Y = some (.nx, rT lw most many jh jw r5' r6' r7 r8 r9 r10 r11 r12, Y') ∧ Y'[jw]? = some (.lst (wr'.map rwU)) ∧ Fw lw jw Y Y' ∧ (∀ r ∈ wr', (∀ z ∈ r, z ∈ os) ∧ r.length ≤ 90) ∧ wr'.length = wr.length + us.length
 | [], wr, Y, r5, r6, h1, h2, h3, _, h5 => ⟨wr, Y, r5, r6, bP trivial, h2, .of (.refl h3), h5, rfl⟩
 | u :: us, wr, Y, r5, r6, h1, h2, h3, h4, h5 => by
  rw [List.length_cons] at h4
  obtain ⟨zs, Y1, r6', e, k1, k2, k3, k4⟩ := rB (most := most) (many := many) (r5 := some u) (r6 := r6) (r7 := r7) (r8 := r8) (r9 := r9) (r10 := r10) (r11 := r11) (r12 := r12) n1 n2 n3 h1 h2 h3 ho (by omega)
  obtain ⟨wr', Y', r5'', r6'', ih, i1, i2, i3, i4⟩ := lS n1 n2 n3 ho us (wr ++ [zs]) Y1 (some u) r6' (k2.get h1 n2 n3) k1 k2.well (by simp; omega) (fun r hr => by
   rcases List.mem_append.mp hr with h | h
   ·exact h5 r h
   ·rw [List.mem_singleton.mp h]; exact ⟨k3, k4⟩)
  exact ⟨wr', Y', r5'', r6'', (cy trivial rfl e).trans ih, i1, k2.trans i2, i3, by rw [i4]; simp; omega⟩
end
section
variable {lw jw jh jk jr je : Nat} {Y S : Sto} {most many a b : Int} {os rf ef : List Int} {wr : List (List Int)} {r5 r6 r7 r8 r9 r10 r11 r12 : Option U}
theorem vn {us : List U} {l : Nat} (hl : S[l]? = some (.lst us)) (h : 1 ≤ us.length) : fSl (.ref l) (some 1) none S = some (.ref S.length, S ++ [.lst (us.drop 1)]) := by
 have e : HT.sIx us.length 0 (some (1 : Int)) = 1 := by
  have := HT.sIx_nat (n := us.length) (d := 0) (k := 1)
  rw [show ((1 : Nat) : Int) = 1 from rfl] at this
  rw [this]; omega
 simp only [fSl, hl, HT.sIx_none, e, ua]
 rw [List.take_of_length_le (by simp)]
noncomputable def yF : CE := cOp cR (dY (aa (iU (cC (.int 1))) aA)) (aV (iTp (cOp fIx (ag 4) (ag 5))) (gNm 0) (bj (cOp fNe (ag 0) (ag 1))) (ag 0) 1 [9])
noncomputable def zt : CE := cOp cR (dY (aa (iU (cC (.int 1))) aA)) (aV (iTp (cSl (ag 6) (some (cC (.int 1))) none)) (gNm 0) (bj (cOp fLt (cBM aK (ag 2) (aa (ag 0) aA)) (cBM aK (ag 2) (aa (ag 1) aA)))) (ag 0) 1 [9, 3])
noncomputable def xf : CE := cOp fIx (dY (aa (cOp fIx (ag 10) (iU (cC (.int 1)))) (aa (cOp fIx (ag 6) (cCB cf (aa (ag 0) (aa (cCB lC (aa (ag 6) aA)) aA)))) aA))) (cCB wQ (aa (cOp fEq (cCB cf (aa (ag 0) (aa (cC (.int 5)) aA))) (cC (.int 0))) aA))
theorem tR {G : Sto} {vs : List Int} (hl : vs.length ≤ 900) : cR (.ref Y.length) (.ref (Y.length + 1)) (Y ++ (.lst [.int (-1)] :: .lst (vs.map U.int) :: G)) = some (.ref (Y.length + (2 + G.length)), Y ++ (.lst [.int (-1)] :: .lst (vs.map U.int) :: (G ++ [.lst ((-1 :: vs).map U.int)]))) := by
 rw [nS (us := [.int (-1)]) (vs := vs.map U.int) (by rw [ga0]; rfl) (by rw [ga]; rfl) (by unfold LIM; simp; omega)]
 have ln : (Y ++ (O.lst [.int (-1)] :: .lst (vs.map U.int) :: G)).length = Y.length + (2 + G.length) := by simp; omega
 rw [ln, List.append_assoc]; rfl
theorem sm (hw : Y[jw]? = some (.lst (wr.map rwU))) (b0 : 0 ≤ b) (b1 : b < wr.length) (hl : (wr.getD b.toNat []).length ≤ 900) :
  ∃ G n, yF (rT lw most many jh jw (some (.int b)) r6 r7 r8 (some (.int a)) r10 r11 r12) Y = some (.ref (Y.length + n), Y ++ G) ∧ G[n]? = some (.lst ((-1 :: (wr.getD b.toNat []).filter (fun c => !decide (c = a))).map U.int)) := by
 obtain ⟨row, hrow⟩ : ∃ row, row = wr.getD b.toNat [] := ⟨_, rfl⟩
 have ar := oa (wr := wr) b0 b1
 rw [← hrow] at ar hl ⊢
 obtain ⟨G, e⟩ := cE (S := Y ++ [.lst [.int (-1)]]) (ok := fun _ => True) (gg := gNm 0) (ct := bj (cOp fNe (ag 0) (ag 1))) (ce := ag 0) (f := U.int) (p := fun c => !decide (c = a)) (v := U.int) (Rel := fun ρ => ∃ r0, ρ = [r0, some (.int a)]) (fun _ _ => trivial) row [] [] [none, some (.int a)] ⟨_, rfl⟩ (by simp; omega) (fun c hc ys G ρ hρ => by
  obtain ⟨r0, rfl⟩ := hρ
  refine ⟨[some (.int c), some (.int a)], [], ⟨_, rfl⟩, rfl, ?_, fun _ => ⟨[], ?_⟩⟩
  ·rwa [List.append_nil]
  ·rwa [List.append_nil])
 simp only [List.nil_append] at e
 have ln : (Y ++ [O.lst [.int (-1)]]).length = Y.length + 1 := by rw [List.length_append]; rfl
 rw [ln] at e
 simp only [List.append_assoc, List.cons_append, List.nil_append] at e
 obtain ⟨vs, hvs⟩ : ∃ vs, vs = row.filter (fun c => !decide (c = a)) := ⟨_, rfl⟩
 rw [← hvs] at e ⊢
 have hv : vs.length ≤ 900 := by rw [hvs]; exact Nat.le_trans (List.length_filter_le ..) hl
 have hw1 : (Y ++ [O.lst [.int (-1)]])[jw]? = some (.lst (wr.map rwU)) := ao hw
 have hi : cOp fIx (ag 4) (ag 5) (rT lw most many jh jw (some (.int b)) r6 r7 r8 (some (.int a)) r10 r11 r12) (Y ++ [.lst [.int (-1)]]) = some (.tup (row.map U.int), Y ++ [.lst [.int (-1)]]) := by
  rwa [rT, hw1, ar]
 have hc : aV (iTp (cOp fIx (ag 4) (ag 5))) (gNm 0) (bj (cOp fNe (ag 0) (ag 1))) (ag 0) 1 [9] (rT lw most many jh jw (some (.int b)) r6 r7 r8 (some (.int a)) r10 r11 r12) (Y ++ [.lst [.int (-1)]]) = some (.ref (Y.length + 1), Y ++ (.lst [.int (-1)] :: .lst (vs.map U.int) :: G)) := by
  unfold aV iTp
  rw [hi, Option.bind_some]
  simp only [Option.bind_some, gc, rT, List.replicate, List.map_cons, List.map_nil, List.getElem?_cons_zero, List.getElem?_cons_succ, Option.getD_some, List.cons_append, List.nil_append, ln, e, List.append_assoc]
 refine ⟨.lst [.int (-1)] :: .lst (vs.map U.int) :: (G ++ [.lst ((-1 :: vs).map U.int)]), 2 + G.length, ?_, ?_⟩
 ·have hcat := tR (Y := Y) (G := G) hv
  obtain ⟨ev, hev⟩ : ∃ ev, ev = (-1 :: vs).map U.int := ⟨_, rfl⟩
  rw [← hev] at hcat ⊢
  unfold yF
  rwa [iX, eC, hc, hcat]
 ·rw [show 2 + G.length = G.length + 1 + 1 from by omega, List.getElem?_cons_succ, List.getElem?_cons_succ, ga0]; rfl
theorem tQ (hr : Y[jr]? = some (.lst ((-1 :: rf).map U.int))) (hh : Y[jh]? = some (.lst (os.map U.int))) (ha : a ∈ os) (hm : ∀ c ∈ rf, c ∈ os) (hl : rf.length ≤ 900) (ho : os.length ≤ 900) :
  ∃ G n ef, zt (rT lw most many jh jw r5 (some (.ref jr)) r7 r8 (some (.int a)) r10 r11 r12) Y = some (.ref (Y.length + n), Y ++ G) ∧ G[n]? = some (.lst ((-1 :: ef).map U.int)) := by
 have hsl : cSl (ag 6) (some (cC (.int 1))) none (rT lw most many jh jw r5 (some (.ref jr)) r7 r8 (some (.int a)) r10 r11 r12) (Y ++ [.lst [.int (-1)]]) = some (.ref (Y.length + 1), Y ++ [.lst [.int (-1)], .lst (rf.map U.int)]) := by
  have hv : ag 6 (rT lw most many jh jw r5 (some (.ref jr)) r7 r8 (some (.int a)) r10 r11 r12) (Y ++ [.lst [.int (-1)]]) = some (.ref jr, Y ++ [.lst [.int (-1)]]) := rfl
  have h1 : cC (.int 1) (rT lw most many jh jw r5 (some (.ref jr)) r7 r8 (some (.int a)) r10 r11 r12) (Y ++ [.lst [.int (-1)]]) = some (.int 1, Y ++ [.lst [.int (-1)]]) := rfl
  have ln : (Y ++ [O.lst [.int (-1)]]).length = Y.length + 1 := by rw [List.length_append]; rfl
  have hs := vn (S := Y ++ [.lst [.int (-1)]]) (us := (-1 :: rf).map U.int) (ao hr) (by simp)
  rw [ln, List.append_assoc] at hs
  simp only [cSl, lF, hv, h1, Option.bind_some]
  exact hs
 obtain ⟨G, e⟩ := cE (S := Y ++ [.lst [.int (-1)], .lst (rf.map U.int)]) (ok := fun S => S[Y.length + 1]? = some (.lst (rf.map U.int))) (gg := gNm 0) (ct := bj (cOp fLt (cBM aK (ag 2) (aa (ag 0) aA)) (cBM aK (ag 2) (aa (ag 1) aA)))) (ce := ag 0) (f := U.int) (p := fun c => decide (((os.idxOf c : Nat) : Int) < ((os.idxOf a : Nat) : Int))) (v := U.int) (Rel := fun ρ => ∃ r0, ρ = [r0, some (.int a), some (.ref jh)]) (fun ys G => by rw [List.append_assoc, ga]; rfl) rf [] [] [none, some (.int a), some (.ref jh)] ⟨_, rfl⟩ (by simp; omega) (fun c hc ys G ρ hρ => by
  obtain ⟨r0, rfl⟩ := hρ
  have hh' : ∀ X, (Y ++ X)[jh]? = some (.lst (os.map U.int)) := fun X => ao hh
  have i1 : ∀ X, aK (.ref jh) [.int c] (Y ++ X) = some (.int (os.idxOf c : Nat), Y ++ X) := fun X => cU (hh' X) (hm c hc) ho
  have i2 : ∀ X, aK (.ref jh) [.int a] (Y ++ X) = some (.int (os.idxOf a : Nat), Y ++ X) := fun X => cU (hh' X) ha ho
  refine ⟨[some (.int c), some (.int a), some (.ref jh)], [], ⟨_, rfl⟩, rfl, ?_, fun _ => ⟨[], ?_⟩⟩
  ·rwa [hh', i1, i2, List.append_nil]
  ·rwa [List.append_nil])
 simp only [List.nil_append] at e
 have ln : (Y ++ [O.lst [.int (-1)], .lst (rf.map U.int)]).length = Y.length + 2 := by rw [List.length_append]; rfl
 have gz : (Y ++ [O.lst [.int (-1)], .lst (rf.map U.int)])[Y.length + 1]? = some (.lst (rf.map U.int)) := by rw [ga]; rfl
 rw [ln] at e
 simp only [List.append_assoc, List.cons_append, List.nil_append] at e
 obtain ⟨vs, hvs⟩ : ∃ vs, vs = rf.filter (fun c => decide (((os.idxOf c : Nat) : Int) < ((os.idxOf a : Nat) : Int))) := ⟨_, rfl⟩
 rw [← hvs] at e
 have hv : vs.length ≤ 900 := by rw [hvs]; exact Nat.le_trans (List.length_filter_le ..) hl
 have hc : aV (iTp (cSl (ag 6) (some (cC (.int 1))) none)) (gNm 0) (bj (cOp fLt (cBM aK (ag 2) (aa (ag 0) aA)) (cBM aK (ag 2) (aa (ag 1) aA)))) (ag 0) 1 [9, 3] (rT lw most many jh jw r5 (some (.ref jr)) r7 r8 (some (.int a)) r10 r11 r12) (Y ++ [.lst [.int (-1)]]) = some (.ref (Y.length + 2), Y ++ (.lst [.int (-1)] :: .lst (rf.map U.int) :: .lst (vs.map U.int) :: G)) := by
  unfold aV iTp
  rw [hsl, Option.bind_some]
  simp only [gz, Option.bind_some, gc, rT, List.replicate, List.map_cons, List.map_nil, List.getElem?_cons_zero, List.getElem?_cons_succ, Option.getD_some, List.cons_append, List.nil_append, ln, e, List.append_assoc]
 have hcat : cR (.ref Y.length) (.ref (Y.length + 2)) (Y ++ (.lst [.int (-1)] :: .lst (rf.map U.int) :: .lst (vs.map U.int) :: G)) = some (.ref (Y.length + (3 + G.length)), Y ++ (.lst [.int (-1)] :: .lst (rf.map U.int) :: .lst (vs.map U.int) :: (G ++ [.lst ((-1 :: vs).map U.int)]))) := by
  rw [nS (us := [.int (-1)]) (vs := vs.map U.int) (by rw [ga0]; rfl) (by rw [ga]; rfl) (by unfold LIM; simp; omega)]
  have ln : (Y ++ (O.lst [.int (-1)] :: .lst (rf.map U.int) :: .lst (vs.map U.int) :: G)).length = Y.length + (3 + G.length) := by simp; omega
  rw [ln, List.append_assoc]; rfl
 refine ⟨.lst [.int (-1)] :: .lst (rf.map U.int) :: .lst (vs.map U.int) :: (G ++ [.lst ((-1 :: vs).map U.int)]), 3 + G.length, vs, ?_, ?_⟩
 ·obtain ⟨ev, hev⟩ : ∃ ev, ev = (-1 :: vs).map U.int := ⟨_, rfl⟩
  rw [← hev] at hcat ⊢
  unfold zt
  rwa [iX, eC, hc, hcat]
 ·rw [show 3 + G.length = G.length + 1 + 1 + 1 from by omega, List.getElem?_cons_succ, List.getElem?_cons_succ, List.getElem?_cons_succ, ga0]; rfl
theorem rZ (he : Y[je]? = some (.lst ((-1 :: ef).map U.int))) (hr : Y[jr]? = some (.lst ((-1 :: rf).map U.int))) (wl : ∃ z, Y[lw]? = some (.lst [.int z])) (n1 : jr ≠ lw) (hl : rf.length ≤ 900) :
  ∃ v Y', xf (rT lw most many jh jw r5 (some (.ref jr)) r7 r8 r9 (some (.ref je)) r11 r12) Y = some (.int v, Y') ∧ Wl lw Y Y' := by
 obtain ⟨v1, hv1⟩ : ∃ v1, v1 = ef.getLast?.getD (-1) := ⟨_, rfl⟩
 have a1 : atI ((-1 :: ef).map U.int) (-1) = some (.int v1) := by rw [hv1]; exact qP ef
 obtain ⟨eu, heu⟩ : ∃ eu, eu = (-1 :: ef).map U.int := ⟨_, rfl⟩
 obtain ⟨ru, hru⟩ : ∃ ru, ru = (-1 :: rf).map U.int := ⟨_, rfl⟩
 have lru : ru.length = rf.length + 1 := by rw [hru]; simp
 rw [← heu] at he a1
 rw [← hru] at hr
 obtain ⟨d, Y1, e1, w1, l1, d0, d1⟩ := bO (m := ((ru.length : Nat) : Int)) wl (by omega) (by omega)
 have hr1 : Y1[jr]? = some (.lst ru) := w1.get hr n1
 obtain ⟨v2, a2⟩ : ∃ v2, atI ru d = some (.int v2) := by
  have hi : d.toNat < (-1 :: rf).length := by simp; omega
  have := dh (xs := ru) (j := d.toNat) (v := .int (-1 :: rf)[d.toNat]) (by rw [hru, List.getElem?_map, List.getElem?_eq_getElem hi]; rfl)
  rw [show ((d.toNat : Nat) : Int) = d from by omega] at this
  exact ⟨_, this⟩
 obtain ⟨d2, Y2, e2, w2, l2, _, _⟩ := bO (T := Y1 ++ [.lst [.int v1, .int v2]]) (lw := lw) (m := 5) (by obtain ⟨z, h⟩ := w1.well; exact ⟨z, ao h⟩) (by omega) (by omega)
 have ll : lw < Y1.length := by obtain ⟨z, h⟩ := w1.well; exact (List.getElem?_eq_some_iff.mp h).1
 have g2 : Y2[Y1.length]? = some (.lst [.int v1, .int v2]) := w2.get (by rw [ga0]; rfl) (by omega)
 have W : Wl lw Y Y2 := (w1.trans (.app w1.well _)).trans w2
 by_cases h0 : d2 = 0
 ·have h0' : decide (d2 = 0) = true := decide_eq_true h0
  refine ⟨v2, Y2, ?_, W⟩
  unfold xf
  rwa [rT, iX, eC, he, a1, hr, e1, hr1, a2, e2, h0', if_true, g2]
 ·have h0' : decide (d2 = 0) = false := decide_eq_false h0
  refine ⟨v1, Y2, ?_, W⟩
  unfold xf
  rwa [rT, iX, eC, he, a1, hr, e1, hr1, a2, e2, h0', Bool.false_eq_true, if_false, g2]
end
section
variable {κ κ' α β : Type} [DecidableEq κ] [DecidableEq κ']
theorem jY (kf : κ → κ') (vf : α → β) (inj : ∀ a b, kf a = kf b → a = b) (ps : List (κ × α)) (k : κ) (v : α) : ed (ps.map fun p => (kf p.1, vf p.2)) (kf k) (vf v) = (ed ps k v).map fun p => (kf p.1, vf p.2) := by
 have hd : ∀ a, decide (kf a = kf k) = decide (a = k) := fun a => by
  rw [Bool.eq_iff_iff, decide_eq_true_eq, decide_eq_true_eq]
  exact ⟨inj a k, fun h => by rw [h]⟩
 have ha : ((ps.map fun p => (kf p.1, vf p.2)).any fun kv => decide (kv.1 = kf k)) = ps.any fun kv => decide (kv.1 = k) := by
  rw [List.any_map]
  congr 1
  funext p
  exact hd p.1
 unfold ed
 rw [ha]
 by_cases h : (ps.any fun kv => decide (kv.1 = k)) = true
 ·rw [if_pos h, if_pos h, List.map_map, List.map_map]
  refine List.map_congr_left fun p _ => ?_
  show (if kf p.1 = kf k then (kf p.1, vf v) else (kf p.1, vf p.2)) = _
  by_cases e : p.1 = k
  ·simp [e]
  ·have e' : ¬ kf p.1 = kf k := fun z => e (inj _ _ z)
   simp [e, e']
 ·rw [if_neg h, if_neg h, List.map_append]; rfl
theorem mJ {ps : List (κ × α)} {k : κ} {v : α} (h : (ps.map (·.1)).Nodup) : ((ed ps k v).map (·.1)).Nodup := by
 unfold ed
 by_cases e : (ps.any fun kv => decide (kv.1 = k)) = true
 ·rw [if_pos e, List.map_map]
  have : ((fun x : κ × α => x.1) ∘ fun kv => if kv.1 = k then (kv.1, v) else kv) = fun x => x.1 := by
   funext p
   show (if p.1 = k then (p.1, v) else p).1 = p.1
   split <;> rfl
  rw [this]; exact h
 ·rw [if_neg e, List.map_append, List.nodup_append]
  refine ⟨h, by simp, fun a ha b hb z => ?_⟩
  rw [List.map_singleton, List.mem_singleton] at hb
  obtain ⟨p, hp, hp2⟩ := List.mem_map.mp ha
  exact e (List.any_eq_true.mpr ⟨p, hp, decide_eq_true (by rw [hp2, z, hb])⟩)
theorem pf {ps : List (κ × α)} {k : κ} {v : α} {q : κ × α} (h : q ∈ ed ps k v) : q.1 = k ∨ ∃ p ∈ ps, p.1 = q.1 := by
 unfold ed at h
 split at h
 ·obtain ⟨p, hp, e⟩ := List.mem_map.mp h
  by_cases z : p.1 = k
  ·rw [if_pos z] at e; rw [← e]; exact .inl z
  ·rw [if_neg z] at e; rw [← e]; exact .inr ⟨p, hp, rfl⟩
 ·rcases List.mem_append.mp h with z | z
  ·exact .inr ⟨q, z, rfl⟩
  ·rw [List.mem_singleton.mp z]; exact .inl rfl
theorem oW {ps : List (κ × α)} {p : κ × α} (nd : (ps.map (·.1)).Nodup) (h : p ∈ ps) : dI ps p.1 = some p.2 := by
 unfold dI
 induction ps with
 | nil => cases h
 | cons q r ih =>
  rw [List.map_cons, List.nodup_cons] at nd
  rcases List.mem_cons.mp h with z | z
  ·subst z; simp
  ·have : q.1 ≠ p.1 := fun e => nd.1 (List.mem_map.mpr ⟨p, z, e.symm⟩)
   rw [List.find?_cons, decide_eq_false this]
   exact ih nd.2 z
end
noncomputable def kT (p : Int × Int) : List Key := [.inl p.1, .inl p.2]
theorem nq : ∀ a b : Int × Int, kT a = kT b → a = b := fun a b h => by
 unfold kT at h
 injection h with h1 h2
 injection h2 with h3 _
 exact Prod.ext (Sum.inl.inj h1) (Sum.inl.inj h3)
noncomputable def dP (ps : List ((Int × Int) × Int)) : List (List Key × U) := ps.map fun p => (kT p.1, .int p.2)
noncomputable def iT (ps : List ((Int × Int) × Unit)) : List (List Key × U) := ps.map fun p => (kT p.1, .bl true)
theorem pe (ps : List ((Int × Int) × Int)) (k : Int × Int) (v : Int) : ed (dP ps) (kT k) (.int v) = dP (ed ps k v) := jY kT U.int nq ps k v
theorem pd (ps : List ((Int × Int) × Unit)) (k : Int × Int) : ed (iT ps) (kT k) (.bl true) = iT (ed ps k ()) := jY kT (fun _ => U.bl true) nq ps k ()
theorem d5 {ca cb : CS} {ρ ρ' : Rho} {S S' : Sto} (h : ca ρ S = some (.nx, ρ', S')) : bS ca cb ρ S = cb ρ' S' := by rw [kF, h, Option.bind_some, ft]
section
variable {lw jw jh jk jr je jt : Nat} {Y S : Sto} {most many a b : Int} {os rf ef : List Int} {wr : List (List Int)} {r5 r6 r7 r8 r9 r10 r11 r12 : Option U}
noncomputable def InB (many : Int) (n : Nat) (ps : List ((Int × Int) × Int)) : Prop := ∀ p ∈ ps, (0 ≤ p.1.1 ∧ p.1.1 < many) ∧ 0 ≤ p.1.2 ∧ p.1.2 < n
theorem tp {ps : List ((Int × Int) × Int)} (n1 : jw ≠ lw) (n2 : jh ≠ lw) (n3 : jk ≠ lw) (n4 : jw ≠ jk) (n5 : jh ≠ jk) (m0 : 1 ≤ many) (m1 : many ≤ 90) (w0 : 1 ≤ wr.length) (wl1 : wr.length ≤ 90)
  (hh : Y[jh]? = some (.lst (os.map U.int))) (hw : Y[jw]? = some (.lst (wr.map rwU))) (hk : Y[jk]? = some (.dit (dP ps))) (wl : ∃ z, Y[lw]? = some (.lst [.int z])) (ho : os.length ≤ 90) (hm : ∀ a, 0 ≤ a → a < many → a ∈ os) (hr : ∀ r ∈ wr, (∀ z ∈ r, z ∈ os) ∧ r.length ≤ 90) (hp : ps.length ≤ 90) (ib : InB many wr.length ps) (nd : (ps.map (·.1)).Nodup) :
  ∃ (ps' : List ((Int × Int) × Int)) (Y' : Sto) (r5' r6' r9' r10' : Option U), bV cf cg (rT lw most many jh jw r5 r6 (some (.ref jk)) r8 r9 r10 r11 r12) Y = some (.nx, rT lw most many jh jw r5' r6' (some (.ref jk)) r8 r9' r10' r11 r12, Y') ∧ Y'[jk]? = some (.dit (dP ps')) ∧ Fw lw jk Y Y' ∧ InB many wr.length ps' ∧ (ps'.map (·.1)).Nodup ∧ ps'.length ≤ ps.length + 1 := by
 obtain ⟨a, Y1, e1, w1, l1, a0, a1⟩ := bO (m := many) wl (by omega) (by omega)
 have hw1 : Y1[jw]? = some (.lst (wr.map rwU)) := w1.get hw n1
 obtain ⟨b, Y2, e2, w2, l2, b0, b1⟩ := bO (m := (wr.length : Int)) w1.well (by omega) (by omega)
 have hw2 : Y2[jw]? = some (.lst (wr.map rwU)) := w2.get hw1 n1
 have hb : b.toNat < wr.length := by omega
 have hrow : wr.getD b.toNat [] ∈ wr := by rw [List.getD_eq_getElem?_getD, List.getElem?_eq_getElem hb]; exact List.getElem_mem hb
 obtain ⟨q1, q2⟩ := hr _ hrow
 obtain ⟨G3, k3, e3, g3⟩ := sm (lw := lw) (most := most) (many := many) (jh := jh) (r6 := r6) (r7 := some (.ref jk)) (r8 := r8) (a := a) (r10 := r10) (r11 := r11) (r12 := r12) hw2 b0 b1 (by omega)
 obtain ⟨rf, hrf⟩ : ∃ rf, rf = (wr.getD b.toNat []).filter (fun c => !decide (c = a)) := ⟨_, rfl⟩
 rw [← hrf] at g3
 have lrf : rf.length ≤ 90 := by rw [hrf]; exact Nat.le_trans (List.length_filter_le ..) q2
 have hrm : ∀ c ∈ rf, c ∈ os := fun c hc => by rw [hrf] at hc; exact q1 c (List.mem_filter.mp hc).1
 have gr : (Y2 ++ G3)[Y2.length + k3]? = some (.lst ((-1 :: rf).map U.int)) := by rw [ga]; exact g3
 have hh2 : (Y2 ++ G3)[jh]? = some (.lst (os.map U.int)) := ao (w2.get (w1.get hh n2) n2)
 obtain ⟨G4, k4, ef, e4, g4⟩ := tQ (lw := lw) (most := most) (many := many) (jw := jw) (r5 := some (.int b)) (r7 := some (.ref jk)) (r8 := r8) (a := a) (r10 := r10) (r11 := r11) (r12 := r12) gr hh2 (hm a a0 a1) hrm (by omega) (by omega)
 have ge : (Y2 ++ G3 ++ G4)[(Y2 ++ G3).length + k4]? = some (.lst ((-1 :: ef).map U.int)) := by rw [ga]; exact g4
 have ll : lw < Y2.length := by obtain ⟨z, h⟩ := w2.well; exact (List.getElem?_eq_some_iff.mp h).1
 have wl4 : ∃ z, (Y2 ++ G3 ++ G4)[lw]? = some (.lst [.int z]) := by obtain ⟨z, h⟩ := w2.well; exact ⟨z, ao (ao h)⟩
 obtain ⟨v, Y5, e5, w5⟩ := rZ (most := most) (many := many) (jh := jh) (jw := jw) (r5 := some (.int b)) (r7 := some (.ref jk)) (r8 := r8) (r9 := some (.int a)) (r11 := r11) (r12 := r12) ge (ao gr) wl4 (by omega) (by omega)
 have W : Wl lw Y Y5 := ((w1.trans w2).trans ((Wl.app w2.well G3).trans (.app (by obtain ⟨z, h⟩ := w2.well; exact ⟨z, ao h⟩) G4))).trans w5
 have hk5 : Y5[jk]? = some (.dit (dP ps)) := W.get hk n3
 have lk5 : jk < Y5.length := (List.getElem?_eq_some_iff.mp hk5).1
 have hlim : (dP ps).length < LIM ∧ [U.int a, U.int b].length ≤ LIM := by unfold LIM dP; rw [List.length_map]; exact ⟨by omega, by simp⟩
 have htk : sg [U.int a, U.int b] = some (kT (a, b)) := rfl
 refine ⟨ed ps (a, b) v, Y5.set jk (.dit (dP (ed ps (a, b) v))), some (.int b), some (.ref (Y2.length + k3)), some (.int a), some (.ref ((Y2 ++ G3).length + k4)), ?_, by rw [List.getElem?_set, if_pos rfl, if_pos lk5], (Fw.of W).trans (.set W.well n3 _), fun p hp => ?_, mJ nd, j9 ..⟩
 ·unfold bV
  refine (d5 (ρ' := rT lw most many jh jw r5 r6 (some (.ref jk)) r8 (some (.int a)) r10 r11 r12) (S' := Y1) ?_).trans ?_
  ·rwa [rT, e1]
  refine (d5 (ρ' := rT lw most many jh jw (some (.int b)) r6 (some (.ref jk)) r8 (some (.int a)) r10 r11 r12) (S' := Y2) ?_).trans ?_
  ·rwa [rT, hw1, List.length_map, e2]
  refine (d5 (ρ' := rT lw most many jh jw (some (.int b)) (some (.ref (Y2.length + k3))) (some (.ref jk)) r8 (some (.int a)) r10 r11 r12) (S' := Y2 ++ G3) ?_).trans ?_
  ·show cI 6 yF _ _ = _
   rw [iW, e3, Option.bind_some, eB]; rfl
  refine (d5 (ρ' := rT lw most many jh jw (some (.int b)) (some (.ref (Y2.length + k3))) (some (.ref jk)) r8 (some (.int a)) (some (.ref ((Y2 ++ G3).length + k4))) r11 r12) (S' := Y2 ++ G3 ++ G4) ?_).trans ?_
  ·show cI 10 zt _ _ = _
   rw [iW, e4, Option.bind_some, eB]; rfl
  ·show dg (ag 7) (aa (ag 9) (aa (ag 5) aA)) xf _ _ = _
   unfold dg
   rw [e5, Option.bind_some]
   have hc7 : ag 7 (rT lw most many jh jw (some (.int b)) (some (.ref (Y2.length + k3))) (some (.ref jk)) r8 (some (.int a)) (some (.ref ((Y2 ++ G3).length + k4))) r11 r12) Y5 = some (.ref jk, Y5) := rfl
   have hca : aa (ag 9) (aa (ag 5) aA) (rT lw most many jh jw (some (.int b)) (some (.ref (Y2.length + k3))) (some (.ref jk)) r8 (some (.int a)) (some (.ref ((Y2 ++ G3).length + k4))) r11 r12) Y5 = some ([.int a, .int b], Y5) := rfl
   dsimp only
   rw [hc7, Option.bind_some]
   dsimp only
   rw [hca, Option.bind_some]
   dsimp only
   rw [hk5]
   dsimp only
   rw [htk, Option.bind_some, if_pos hlim, pe]
 ·rcases pf hp with h | ⟨q, hq, h⟩
  ·rw [h]; exact ⟨⟨a0, a1⟩, b0, b1⟩
  ·rw [← h]; exact ib q hq
theorem nh (n1 : jw ≠ lw) (n2 : jh ≠ lw) (n3 : jk ≠ lw) (n4 : jw ≠ jk) (n5 : jh ≠ jk) (m0 : 1 ≤ many) (m1 : many ≤ 90) (w0 : 1 ≤ wr.length) (wl1 : wr.length ≤ 90) (ho : os.length ≤ 90) (hm : ∀ a, 0 ≤ a → a < many → a ∈ os) (hr : ∀ r ∈ wr, (∀ z ∈ r, z ∈ os) ∧ r.length ≤ 90) :
  ∀ (us : List U) (ps : List ((Int × Int) × Int)) (Y : Sto) (r5 r6 r8 r9 r10 : Option U), Y[jh]? = some (.lst (os.map U.int)) → Y[jw]? = some (.lst (wr.map rwU)) → Y[jk]? = some (.dit (dP ps)) → (∃ z, Y[lw]? = some (.lst [.int z])) → ps.length + us.length ≤ 90 → InB many wr.length ps → (ps.map (·.1)).Nodup →
  ∃ (ps' : List ((Int × Int) × Int)) (Y' : Sto) (r5' r6' r8' r9' r10' : Option U), b5 (fun _ => True) (gNm 8) (bV cf cg) us (rT lw most many jh jw r5 r6 (some (.ref jk)) r8 r9 r10 r11 r12) Y = some (.nx, rT lw most many jh jw r5' r6' (some (.ref jk)) r8' r9' r10' r11 r12, Y') ∧ Y'[jk]? = some (.dit (dP ps')) ∧ Fw lw jk Y Y' ∧ InB many wr.length ps' ∧ (ps'.map (·.1)).Nodup ∧ ps'.length ≤ ps.length + us.length
 | [], ps, Y, r5, r6, r8, r9, r10, h1, h2, h3, h4, _, h6, h7 => ⟨ps, Y, r5, r6, r8, r9, r10, bP trivial, h3, .of (.refl h4), h6, h7, by simp⟩
 | u :: us, ps, Y, r5, r6, r8, r9, r10, h1, h2, h3, h4, h5, h6, h7 => by
  rw [List.length_cons] at h5
  obtain ⟨ps1, Y1, s5, s6, s9, s10, e, k1, k2, k3, k4, k5⟩ := tp (most := most) (r5 := r5) (r6 := r6) (r8 := some u) (r9 := r9) (r10 := r10) (r11 := r11) (r12 := r12) n1 n2 n3 n4 n5 m0 m1 w0 wl1 h1 h2 h3 h4 ho hm hr (by omega) h6 h7
  obtain ⟨ps', Y', t5, t6, t8, t9, t10, ih, i1, i2, i3, i4, i5⟩ := nh n1 n2 n3 n4 n5 m0 m1 w0 wl1 ho hm hr us ps1 Y1 s5 s6 (some u) s9 s10 (k2.get h1 n2 n5) (k2.get h2 n1 n4) k1 k2.well (by omega) k3 k4
  exact ⟨ps', Y', t5, t6, t8, t9, t10, (cy trivial rfl e).trans ih, i1, k2.trans i2, i3, i4, by rw [List.length_cons]; omega⟩
end
section
variable {lw jw jh jk jt : Nat} {Y S : Sto} {most many a b : Int} {os : List Int} {wr : List (List Int)} {r5 r6 r7 r8 r9 r10 r11 r12 : Option U}
theorem sf {ts : List ((Int × Int) × Unit)} (n2 : jh ≠ lw) (n3 : jt ≠ lw) (m0 : 1 ≤ many) (m1 : many ≤ 90)
  (hh : Y[jh]? = some (.lst (os.map U.int))) (hk : Y[jt]? = some (.dit (iT ts))) (wl : ∃ z, Y[lw]? = some (.lst [.int z])) (ho : os.length ≤ 90) (hm : ∀ a, 0 ≤ a → a < many → a ∈ os) (hp : ts.length ≤ 90) (nd : (ts.map (·.1)).Nodup) :
  ∃ (ts' : List ((Int × Int) × Unit)) (Y' : Sto) (r9' r12' : Option U), bE cf cg (rT lw most many jh jw r5 r6 r7 r8 r9 r10 (some (.ref jt)) r12) Y = some (.nx, rT lw most many jh jw r5 r6 r7 r8 r9' r10 (some (.ref jt)) r12', Y') ∧ Y'[jt]? = some (.dit (iT ts')) ∧ Fw lw jt Y Y' ∧ (ts'.map (·.1)).Nodup ∧ ts'.length ≤ ts.length + 1 := by
 obtain ⟨a, Y1, e1, w1, l1, a0, a1⟩ := bO (m := many) wl (by omega) (by omega)
 obtain ⟨b, Y2, e2, w2, l2, b0, b1⟩ := bO (m := many) w1.well (by omega) (by omega)
 have W := w1.trans w2
 have hh2 : Y2[jh]? = some (.lst (os.map U.int)) := W.get hh n2
 have hk2 : Y2[jt]? = some (.dit (iT ts)) := W.get hk n3
 have i1 : aK (.ref jh) [.int a] Y2 = some (.int (os.idxOf a : Nat), Y2) := cU hh2 (hm a a0 a1) (by omega)
 have i2 : aK (.ref jh) [.int b] Y2 = some (.int (os.idxOf b : Nat), Y2) := cU hh2 (hm b b0 b1) (by omega)
 have hput : ∀ Y3, Wl lw Y Y3 → ∃ (ts' : List ((Int × Int) × Unit)) (Y' : Sto), dg (ag 11) (aa (ag 9) (aa (ag 12) aA)) (cC (.bl true)) (rT lw most many jh jw r5 r6 r7 r8 (some (.int a)) r10 (some (.ref jt)) (some (.int b))) Y3 = some (.nx, rT lw most many jh jw r5 r6 r7 r8 (some (.int a)) r10 (some (.ref jt)) (some (.int b)), Y') ∧ Y'[jt]? = some (.dit (iT ts')) ∧ Fw lw jt Y Y' ∧ (ts'.map (·.1)).Nodup ∧ ts'.length ≤ ts.length + 1 := fun Y3 W3 => by
  have hk3 : Y3[jt]? = some (.dit (iT ts)) := W3.get hk n3
  have lk3 : jt < Y3.length := (List.getElem?_eq_some_iff.mp hk3).1
  have hlim : (iT ts).length < LIM ∧ [U.int a, U.int b].length ≤ LIM := by unfold LIM iT; rw [List.length_map]; exact ⟨by omega, by simp⟩
  have htk : sg [U.int a, U.int b] = some (kT (a, b)) := rfl
  refine ⟨ed ts (a, b) (), Y3.set jt (.dit (iT (ed ts (a, b) ()))), ?_, by rw [List.getElem?_set, if_pos rfl, if_pos lk3], (Fw.of W3).trans (.set W3.well n3 _), mJ nd, j9 ..⟩
  unfold dg
  have hcv : cC (.bl true) (rT lw most many jh jw r5 r6 r7 r8 (some (.int a)) r10 (some (.ref jt)) (some (.int b))) Y3 = some (.bl true, Y3) := rfl
  have hco : ag 11 (rT lw most many jh jw r5 r6 r7 r8 (some (.int a)) r10 (some (.ref jt)) (some (.int b))) Y3 = some (.ref jt, Y3) := rfl
  have hca : aa (ag 9) (aa (ag 12) aA) (rT lw most many jh jw r5 r6 r7 r8 (some (.int a)) r10 (some (.ref jt)) (some (.int b))) Y3 = some ([.int a, .int b], Y3) := rfl
  rw [hcv, Option.bind_some]
  dsimp only
  rw [hco, Option.bind_some]
  dsimp only
  rw [hca, Option.bind_some]
  dsimp only
  rw [hk3]
  dsimp only
  rw [htk, Option.bind_some, if_pos hlim, pd]
 have s1 : cI 9 (cCB cf (aa (ag 0) (aa (ag 2) aA))) (rT lw most many jh jw r5 r6 r7 r8 r9 r10 (some (.ref jt)) r12) Y = some (.nx, rT lw most many jh jw r5 r6 r7 r8 (some (.int a)) r10 (some (.ref jt)) r12, Y1) := by
  rwa [rT, e1]
 have s2 : cI 12 (cCB cf (aa (ag 0) (aa (ag 2) aA))) (rT lw most many jh jw r5 r6 r7 r8 (some (.int a)) r10 (some (.ref jt)) r12) Y1 = some (.nx, rT lw most many jh jw r5 r6 r7 r8 (some (.int a)) r10 (some (.ref jt)) (some (.int b)), Y2) := by
  rwa [rT, e2]
 have fin : ∀ (bb : Bool) (Y3 : Sto), Wl lw Y Y3 → xA (bj (cOp fNe (ag 9) (ag 12))) (cOr (bj (cOp fLt (cBM aK (ag 3) (aa (ag 9) aA)) (cBM aK (ag 3) (aa (ag 12) aA)))) (bj (cOp fEq (cCB cf (aa (ag 0) (aa (cC (.int 6)) aA))) (cC (.int 0))))) (rT lw most many jh jw r5 r6 r7 r8 (some (.int a)) r10 (some (.ref jt)) (some (.int b))) Y2 = some (bb, Y3) →
   ∃ (ts' : List ((Int × Int) × Unit)) (Y' : Sto) (r9' r12' : Option U), bE cf cg (rT lw most many jh jw r5 r6 r7 r8 r9 r10 (some (.ref jt)) r12) Y = some (.nx, rT lw most many jh jw r5 r6 r7 r8 r9' r10 (some (.ref jt)) r12', Y') ∧ Y'[jt]? = some (.dit (iT ts')) ∧ Fw lw jt Y Y' ∧ (ts'.map (·.1)).Nodup ∧ ts'.length ≤ ts.length + 1 := fun bb Y3 W3 ht => by
  unfold bE
  cases bb with
  | true =>
   obtain ⟨ts', Y', e, k⟩ := hput Y3 W3
   refine ⟨ts', Y', some (.int a), some (.int b), ?_, k⟩
   rw [d5 s1, d5 s2, lQ, ht, Option.bind_some, jJ]
   exact e
  | false =>
   refine ⟨ts, Y3, some (.int a), some (.int b), ?_, W3.get hk n3, .of W3, nd, by omega⟩
   rw [d5 s1, d5 s2, lQ, ht, Option.bind_some, jI]
   rfl
 by_cases h1 : a = b
 ·have h1' : decide (a = b) = true := decide_eq_true h1
  refine fin false Y2 W ?_
  rwa [rT, h1']
 ·have h1' : decide (a = b) = false := decide_eq_false h1
  cases h2 : decide (((os.idxOf a : Nat) : Int) < ((os.idxOf b : Nat) : Int)) with
  | true =>
   refine fin true Y2 W ?_
   rwa [rT, h1', hh2, i1, i2, h2]
  | false =>
   obtain ⟨d, Y3, e3, w3, l3, _, _⟩ := bO (m := 6) w2.well (by omega) (by omega)
   refine fin (decide (d = 0)) Y3 (W.trans w3) ?_
   rwa [rT, h1', hh2, i1, i2, h2, e3]
theorem mq (n2 : jh ≠ lw) (n3 : jt ≠ lw) (n5 : jh ≠ jt) (m0 : 1 ≤ many) (m1 : many ≤ 90) (ho : os.length ≤ 90) (hm : ∀ a, 0 ≤ a → a < many → a ∈ os) :
  ∀ (us : List U) (ts : List ((Int × Int) × Unit)) (Y : Sto) (r8 r9 r12 : Option U), Y[jh]? = some (.lst (os.map U.int)) → Y[jt]? = some (.dit (iT ts)) → (∃ z, Y[lw]? = some (.lst [.int z])) → ts.length + us.length ≤ 90 → (ts.map (·.1)).Nodup →
  ∃ (ts' : List ((Int × Int) × Unit)) (Y' : Sto) (r8' r9' r12' : Option U), b5 (fun _ => True) (gNm 8) (bE cf cg) us (rT lw most many jh jw r5 r6 r7 r8 r9 r10 (some (.ref jt)) r12) Y = some (.nx, rT lw most many jh jw r5 r6 r7 r8' r9' r10 (some (.ref jt)) r12', Y') ∧ Y'[jt]? = some (.dit (iT ts')) ∧ Fw lw jt Y Y' ∧ (ts'.map (·.1)).Nodup ∧ ts'.length ≤ ts.length + us.length
 | [], ts, Y, r8, r9, r12, h1, h3, h4, _, h7 => ⟨ts, Y, r8, r9, r12, bP trivial, h3, .of (.refl h4), h7, by simp⟩
 | u :: us, ts, Y, r8, r9, r12, h1, h3, h4, h5, h7 => by
  rw [List.length_cons] at h5
  obtain ⟨ts1, Y1, s9, s12, e, k1, k2, k4, k5⟩ := sf (most := most) (jw := jw) (r5 := r5) (r6 := r6) (r7 := r7) (r8 := some u) (r9 := r9) (r10 := r10) (r12 := r12) n2 n3 m0 m1 h1 h3 h4 ho hm (by omega) h7
  obtain ⟨ts', Y', t8, t9, t12, ih, i1, i2, i4, i5⟩ := mq n2 n3 n5 m0 m1 ho hm us ts1 Y1 (some u) s9 s12 (k2.get h1 n2 n5) k1 k2.well (by omega) k4
  exact ⟨ts', Y', t8, t9, t12, (cy trivial rfl e).trans ih, i1, k2.trans i2, i4, by rw [List.length_cons]; omega⟩
noncomputable def i7 (p : (Int × Int) × Int) : List Int := [p.1.1, p.1.2, p.2]
noncomputable def vw (p : (Int × Int) × Unit) : List Int := [p.1.1, p.1.2]
theorem fw : ∀ ts : List ((Int × Int) × Unit), kP (iT ts) = some (ts.map vw)
 | [] => rfl
 | p :: ts => by
  have ih := fw ts
  unfold iT at ih ⊢
  rw [List.map_cons, kP, ih]; rfl
theorem su {ts : List ((Int × Int) × Unit)} (h : (ts.map (·.1)).Nodup) : (ts.map vw).Nodup := by
 rw [List.nodup_iff_pairwise_ne, List.pairwise_map] at h ⊢
 refine h.imp fun {p q} hn e => hn ?_
 unfold vw at e
 injection e with e1 e2
 injection e2 with e3 _
 exact Prod.ext e1 e3
theorem so {ps : List ((Int × Int) × Int)} (h : (ps.map (·.1)).Nodup) : (ps.map i7).Nodup := by
 rw [List.nodup_iff_pairwise_ne, List.pairwise_map] at h ⊢
 refine h.imp fun {p q} hn e => hn ?_
 unfold i7 at e
 injection e with e1 e2
 injection e2 with e3 _
 exact Prod.ext e1 e3
theorem g9 {ps : List (List Int)} {r : List Int} (h : r ∈ cW ps) : r ∈ ps := by
 unfold cW at h
 split at h
 ·rename_i hx
  exact (hx.choose_spec.2 r).mp h
 ·cases h
theorem mx {ps : List (List Int)} : (cW ps).length ≤ ps.length := by
 have nd : (cW ps).Nodup := by
  unfold cW
  split
  ·rename_i hx
   exact hx.choose_spec.1.imp fun {a b} h e => by subst e; rw [eK] at h; cases h
  ·exact List.nodup_nil
 exact List.Nodup.length_le_of_subset nd fun r hr => g9 hr
theorem kM {ts : List ((Int × Int) × Unit)} (h : S[jt]? = some (.dit (iT ts))) (nd : (ts.map (·.1)).Nodup) (hl : ts.length < 64) : bI [.ref jt] S = some (.ref S.length, S ++ [.lst ((cW (ts.map vw)).map rwU)]) := by
 simp only [bI, h, fw, Option.bind_some]
 rw [if_pos ⟨fun p hp => by obtain ⟨q, _, rfl⟩ := List.mem_map.mp hp; exact List.cons_ne_nil _ _, su nd, by rw [List.length_map]; exact hl⟩]
theorem kN {ps : List ((Int × Int) × Int)} {l : Nat} (h : S[l]? = some (.lst ((ps.map i7).map rwU))) (nd : (ps.map (·.1)).Nodup) (hl : ps.length < 64) : bI [.ref l] S = some (.ref S.length, S ++ [.lst ((cW (ps.map i7)).map rwU)]) := by
 simp only [bI, h, g5, Option.bind_some]
 rw [if_pos ⟨fun p hp => by obtain ⟨q, _, rfl⟩ := List.mem_map.mp hp; exact List.cons_ne_nil _ _, so nd, by rw [List.length_map]; exact hl⟩]
noncomputable def yB : CE := ky (ag 7) (gNm 0) (cOp cR (ag 0) (gK (aa (cOp tP (ag 1) (ag 0)) aA))) 1 [7]
theorem sd {ps : List ((Int × Int) × Int)} {ρ : Rho} (h7 : ρ[7]? = some (some (.ref jk))) (hk : S[jk]? = some (.dit (dP ps))) (nd : (ps.map (·.1)).Nodup) (hl : ps.length ≤ 900) : yB ρ S = some (.ref S.length, S ++ [.lst ((ps.map i7).map rwU)]) := by
 have hv : ag 7 ρ S = some (.ref jk, S) := by unfold ag; rw [h7]
 have lk : jk < S.length := (List.getElem?_eq_some_iff.mp hk).1
 unfold yB ky nW
 rw [hv, Option.bind_some]
 simp only [hk]
 refine u3 fun ep => ?_
 have ek : ∀ X : Sto, (S.set jk (.fdt ep (dP ps)) ++ X)[jk]? = some (.fdt ep (dP ps)) := fun X => ao (by rw [List.getElem?_set, if_pos rfl, if_pos lk])
 have key := iA (S := S.set jk (.fdt ep (dP ps))) (ok := fun S' => S'[jk]? = some (.fdt ep (dP ps))) (gg := gNm 0) (ce := cOp cR (ag 0) (gK (aa (cOp tP (ag 1) (ag 0)) aA))) (f := fun p : (Int × Int) × Int => .tup [.int p.1.1, .int p.1.2]) (v := fun p => rwU (i7 p)) (Rel := fun ρ => ∃ r0, ρ = [r0, some (.ref jk)]) (fun ys G => ek _) ps [] [] [none, some (.ref jk)] ⟨_, rfl⟩ (by simp; omega) (fun p hp ys G ρ hρ => by
  obtain ⟨r0, rfl⟩ := hρ
  refine ⟨[some (.tup [.int p.1.1, .int p.1.2]), some (.ref jk)], ⟨_, rfl⟩, rfl, ?_⟩
  have hva : dI (dP ps) (kT p.1) = some (.int p.2) := by
   have nd' : ((dP ps).map (·.1)).Nodup := by
    unfold dP
    rw [List.map_map, List.nodup_iff_pairwise_ne, List.pairwise_map]
    rw [List.nodup_iff_pairwise_ne, List.pairwise_map] at nd
    exact nd.imp fun {a b} hn e => hn (nq _ _ e)
   exact oW (p := (kT p.1, .int p.2)) nd' (List.mem_map.mpr ⟨p, hp, rfl⟩)
  have hx : tP (.ref jk) (.tup [.int p.1.1, .int p.1.2]) (S.set jk (.fdt ep (dP ps)) ++ (.lst ys :: G)) = some (.int p.2, S.set jk (.fdt ep (dP ps)) ++ (.lst ys :: G)) := by
   have ht : sg [U.int p.1.1, U.int p.1.2] = some (kT p.1) := rfl
   simp only [tP, ht, Option.bind_some, ek, hva]
  have ha : cR (.tup [.int p.1.1, .int p.1.2]) (.tup [.int p.2]) (S.set jk (.fdt ep (dP ps)) ++ (.lst ys :: G)) = some (rwU (i7 p), S.set jk (.fdt ep (dP ps)) ++ (.lst ys :: G)) := by
   unfold cR; simp only; rw [if_pos (by unfold LIM; simp)]; rfl
  rwa [hx, ha])
 rw [List.length_set] at key
 have ef : (dP ps).map (fun q => U.tup (q.1.map kU)) = ps.map fun p : (Int × Int) × Int => .tup [.int p.1.1, .int p.1.2] := by unfold dP; rw [List.map_map]; rfl
 have er : gc 1 [7] ρ = [none, some (.ref jk)] := by simp only [gc, List.replicate, List.map_cons, List.map_nil, h7, Option.getD_some, List.cons_append, List.nil_append]
 simp only [List.nil_append] at key
 rw [ef, er, key, Option.bind_some]
 have em : (ps.map fun p => rwU (i7 p)) = (ps.map i7).map rwU := by rw [List.map_map]; rfl
 have e2 : (S.set jk (.fdt ep (dP ps)) ++ [O.lst (ps.map fun p => rwU (i7 p))]).set jk (.dit (dP ps)) = S ++ [.lst ((ps.map i7).map rwU)] := by
  rw [List.set_append_left _ _ (by rw [List.length_set]; exact lk), o3 hk, em]
 simp only [ek, e2]
theorem xv {cr : CA} {ρ : Rho} {S S1 : Sto} {n : Int} {g : CG} {b : CS} (h : cr ρ S = some ([.int n], S1)) (n0 : 0 ≤ n) (n1 : n ≤ 1000) : fq (bC cr) g b ρ S = b5 (fun _ => True) g b (aP 0 n.toNat) ρ S1 := by
 have hb : -(2 ^ 62) ≤ n ∧ n < 2 ^ 62 := by omega
 unfold fq bC
 rw [h, Option.bind_some]
 simp only [hb, and_self, if_true, Option.bind_some]
noncomputable def oy : Fn := fnU 13 2 (b8 cf cg)
theorem sh (wl : ∃ z, Y[lw]? = some (.lst [.int z])) (m0 : 1 ≤ most) (m1 : most ≤ 30) : ∃ (many : Int) (tm : U) (wr lk : List (List Int)) (Y' : Sto), oy [.ref lw, .int most] Y = some (aI many tm wr lk, Y') ∧ Wl lw Y Y' ∧ (1 ≤ many ∧ many ≤ 30) ∧ lJ many wr lk ∧ lk.length ≤ 900 := by
 have hl0 : lw < Y.length := by obtain ⟨z, h⟩ := wl; exact (List.getElem?_eq_some_iff.mp h).1
 obtain ⟨d, Y1, e1, w1, l1, d0, d1⟩ := bO (m := most) wl (by omega) (by omega)
 obtain ⟨many, hmany⟩ : ∃ many : Int, many = 1 + d := ⟨_, rfl⟩
 obtain ⟨os, Y2, jh, e2, h2, j2, w2, lo, _, mo⟩ := j7 (many := many) w1.well (by omega) (by omega)
 have ho : os.length ≤ 90 := by omega
 have hm : ∀ a, 0 ≤ a → a < many → a ∈ os := fun a a0 a1 => (mo a).mpr ⟨a0, a1⟩
 have lh : jh < Y2.length := (List.getElem?_eq_some_iff.mp h2).1
 have hl2 : lw < Y2.length := Nat.lt_of_lt_of_le (by omega) w2.len
 obtain ⟨d3, Y3, e3, w3, l3, d30, d31⟩ := bO (T := Y2 ++ [.lst [], .lst [.int 3, .int 3, .int 6]]) (lw := lw) (m := 3) (by obtain ⟨z, h⟩ := w2.well; exact ⟨z, ao h⟩) (by omega) (by omega)
 have g3 : Y3[Y2.length + 1]? = some (.lst [.int 3, .int 3, .int 6]) := w3.get (by rw [ga]; rfl) (by omega)
 obtain ⟨v, a3, v0, v1⟩ : ∃ v : Int, atI [U.int 3, .int 3, .int 6] d3 = some (.int v) ∧ 0 < v ∧ v ≤ 6 := by
  have : d3 = 0 ∨ d3 = 1 ∨ d3 = 2 := by omega
  rcases this with rfl | rfl | rfl
  ·exact ⟨3, rfl, by decide, by decide⟩
  ·exact ⟨3, rfl, by decide, by decide⟩
  ·exact ⟨6, rfl, by decide, by decide⟩
 obtain ⟨d4, Y4, e4, w4, l4, d40, d41⟩ := bO (m := v) w3.well v0 (by omega)
 have W4 : Wl lw (Y2 ++ [.lst [], .lst [.int 3, .int 3, .int 6]]) Y4 := w3.trans w4
 have h4 : Y4[jh]? = some (.lst (os.map U.int)) := W4.get (ao h2) (by omega)
 have k4 : Y4[Y2.length]? = some (.lst (([] : List (List Int)).map rwU)) := W4.get (by rw [ga0]; rfl) (by omega)
 have nlen : (aP 0 (1 + d4).toNat).length = (1 + d4).toNat := by simp [aP]
 obtain ⟨wr, Y5, s5, s6, e5, k5, f5, c5, lw5⟩ := lS (lw := lw) (jh := jh) (jw := Y2.length) (most := most) (many := many) (r7 := none) (r8 := none) (r9 := none) (r10 := none) (r11 := none) (r12 := none) (by omega) (by omega) (by omega) ho (aP 0 (1 + d4).toNat) [] Y4 none none h4 k4 W4.well (by rw [nlen]; simp; omega) (fun r hr => by cases hr)
 have wlen : wr.length = (1 + d4).toNat := by rw [lw5, nlen]; simp
 have h5 : Y5[jh]? = some (.lst (os.map U.int)) := f5.get h4 (by omega) (by omega)
 obtain ⟨d6, Y6, e6, w6, l6, d60, d61⟩ := bO (T := Y5 ++ [.dit []]) (lw := lw) (m := 2 * many + 1) (by obtain ⟨z, h⟩ := f5.well; exact ⟨z, ao h⟩) (by omega) (by omega)
 have l5 : Y2.length < Y5.length := (List.getElem?_eq_some_iff.mp k5).1
 have l5h : jh < Y5.length := (List.getElem?_eq_some_iff.mp h5).1
 have hl5 : lw < Y5.length := by obtain ⟨z, h⟩ := f5.well; exact (List.getElem?_eq_some_iff.mp h).1
 have nl6 : (aP 0 d6.toNat).length = d6.toNat := by simp [aP]
 obtain ⟨ps, Y7, t5, t6, t8, t9, t10, e7, k7, f7, ib, nd7, lp⟩ := nh (lw := lw) (jh := jh) (jw := Y2.length) (jk := Y5.length) (most := most) (many := many) (wr := wr) (r11 := none) (r12 := none) (by omega) (by omega) (by omega) (by omega) (by omega) (by omega) (by omega) (by omega) (by omega) ho hm c5 (aP 0 d6.toNat) [] Y6 s5 s6 none none none (w6.get (ao h5) (by omega)) (w6.get (ao k5) (by omega)) (w6.get (by rw [ga0]; rfl) (by omega)) w6.well (by rw [nl6]; simp; omega) (fun p hp => by cases hp) List.nodup_nil
 have hps : ps.length < 64 := by rw [nl6] at lp; simp at lp; omega
 have h7 : Y7[jh]? = some (.lst (os.map U.int)) := f7.get (w6.get (ao h5) (by omega)) (by omega) (by omega)
 have b7 : Y7[Y2.length]? = some (.lst (wr.map rwU)) := f7.get (w6.get (ao k5) (by omega)) (by omega) (by omega)
 obtain ⟨d8, Y8, e8, w8, l8, d80, d81⟩ := bO (T := Y7 ++ [.dit []]) (lw := lw) (m := many + 1) (by obtain ⟨z, h⟩ := f7.well; exact ⟨z, ao h⟩) (by omega) (by omega)
 have l7 : Y5.length < Y7.length := (List.getElem?_eq_some_iff.mp k7).1
 have nl8 : (aP 0 d8.toNat).length = d8.toNat := by simp [aP]
 obtain ⟨ts, Y9, u8, u9, u12, e9, k9, f9, nd9, lt9⟩ := mq (lw := lw) (jh := jh) (jw := Y2.length) (jt := Y7.length) (most := most) (many := many) (r5 := t5) (r6 := t6) (r7 := some (.ref Y5.length)) (r10 := t10) (by omega) (by omega) (by omega) (by omega) (by omega) ho hm (aP 0 d8.toNat) [] Y8 t8 t9 none (w8.get (ao h7) (by omega)) (w8.get (by rw [ga0]; rfl) (by omega)) w8.well (by rw [nl8]; simp; omega) List.nodup_nil
 have hts : ts.length < 64 := by rw [nl8] at lt9; simp at lt9; omega
 have b9 : Y9[Y2.length]? = some (.lst (wr.map rwU)) := f9.get (w8.get (ao b7) (by omega)) (by omega) (by omega)
 have q9 : Y9[Y5.length]? = some (.dit (dP ps)) := f9.get (w8.get (ao k7) (by omega)) (by omega) (by omega)
 obtain ⟨tms, htms⟩ : ∃ tms, tms = cW (ts.map vw) := ⟨_, rfl⟩
 obtain ⟨lk, hlk⟩ : ∃ lk, lk = cW (ps.map i7) := ⟨_, rfl⟩
 have x1 := kM (S := Y9) k9 nd9 hts
 have x2 := sd (S := Y9 ++ [.lst (tms.map rwU)]) (ρ := rT lw most many jh Y2.length t5 t6 (some (.ref Y5.length)) u8 u9 t10 (some (.ref Y7.length)) u12) rfl (ao q9) nd7 (by omega)
 have x3 := kN (S := Y9 ++ [.lst (tms.map rwU)] ++ [.lst ((ps.map i7).map rwU)]) (l := (Y9 ++ [O.lst (tms.map rwU)]).length) (by rw [ga0]; rfl) nd7 hps
 rw [← htms] at x1
 rw [← hlk] at x3
 have W9 : Wl lw Y Y9 := by
  have A : Wl lw Y Y4 := ((w1.trans w2).trans (Wl.app w2.well _)).trans W4
  have B : Wl lw Y Y5 := ⟨Nat.le_trans A.len f5.len, fun j hj n => by rw [f5.keep j (Nat.lt_of_lt_of_le hj A.len) n (by have := w1.len; have := w2.len; omega), A.keep j hj n], f5.well⟩
  have C : Wl lw Y Y6 := (B.trans (.app f5.well _)).trans w6
  have D : Wl lw Y Y7 := ⟨Nat.le_trans C.len f7.len, fun j hj n => by rw [f7.keep j (Nat.lt_of_lt_of_le hj C.len) n (by have := B.len; omega), C.keep j hj n], f7.well⟩
  have E : Wl lw Y Y8 := (D.trans (.app f7.well _)).trans w8
  exact ⟨Nat.le_trans E.len f9.len, fun j hj n => by rw [f9.keep j (Nat.lt_of_lt_of_le hj E.len) n (by have := D.len; omega), E.keep j hj n], f9.well⟩
 refine ⟨many, .tup (tms.map rwU), wr, lk, Y9 ++ [.lst (tms.map rwU)] ++ [.lst ((ps.map i7).map rwU)] ++ [.lst (lk.map rwU)], ?_, ?_, ⟨by omega, by omega⟩, ⟨fun r hr => ?_⟩, ?_⟩
 ·unfold oy
  rw [jv]
  unfold b8
  have L2n : (Y2 ++ [O.lst []]).length = Y2.length + 1 := by rw [List.length_append]; rfl
  have t2 : ∀ S : Sto, eA (.int 2) (.int many) S = some (.int (2 * many), S) := fun S => fP (.inl (by decide))
  have nd0 : List.length ([] : List U) = 0 := rfl
  rw [d5 (ρ' := [some (.ref lw), some (.int most), some (.int many), none, none, none, none, none, none, none, none, none, none]) (S' := Y1) (by rw [hmany]; rwa [e1])]
  rw [d5 (ρ' := [some (.ref lw), some (.int most), some (.int many), some (.ref jh), none, none, none, none, none, none, none, none, none]) (S' := Y2) (by rwa [e2])]
  rw [d5 (ρ' := rT lw most many jh Y2.length none none none none none none none none) (S' := Y2 ++ [.lst []]) rfl]
  have a4 : aa (cOp cR (cC (.int 1)) (cCB cf (aa (ag 0) (aa (cOp fIx (dY (aa (cC (.int 3)) (aa (cC (.int 3)) (aa (cC (.int 6)) aA)))) (cCB cf (aa (ag 0) (aa (cC (.int 3)) aA)))) aA)))) aA (rT lw most many jh Y2.length none none none none none none none none) (Y2 ++ [.lst []]) = some ([.int (1 + d4)], Y4) := by
   rwa [rT, L2n, e3, g3, a3, e4]
  rw [d5 ((xv a4 (by omega) (by omega)).trans e5)]
  rw [d5 (ρ' := rT lw most many jh Y2.length s5 s6 (some (.ref Y5.length)) none none none none none) (S' := Y5 ++ [.dit []]) rfl]
  have a6 : aa (cCB cf (aa (ag 0) (aa (cOp cR (cOp eA (cC (.int 2)) (ag 2)) (cC (.int 1))) aA))) aA (rT lw most many jh Y2.length s5 s6 (some (.ref Y5.length)) none none none none none) (Y5 ++ [.dit []]) = some ([.int d6], Y6) := by
   rwa [rT, t2, e6]
  rw [d5 ((xv a6 (by omega) (by omega)).trans e7)]
  rw [d5 (ρ' := rT lw most many jh Y2.length t5 t6 (some (.ref Y5.length)) t8 t9 t10 (some (.ref Y7.length)) none) (S' := Y7 ++ [.dit []]) rfl]
  have a8 : aa (cCB cf (aa (ag 0) (aa (cOp cR (ag 2) (cC (.int 1))) aA))) aA (rT lw most many jh Y2.length t5 t6 (some (.ref Y5.length)) t8 t9 t10 (some (.ref Y7.length)) none) (Y7 ++ [.dit []]) = some ([.int d8], Y8) := by
   rwa [rT, e8]
  rw [d5 ((xv a8 (by omega) (by omega)).trans e9)]
  show (iI (gK (aa (ag 2) (aa (cCB cP (aa (cCB bI (aa (ag 11) aA)) aA)) (aa (cCB cP (aa (ag 4) aA)) (aa (cCB cP (aa (cCB bI (aa yB aA)) aA)) aA))))) _ _).bind kFn = _
  have b9' : (Y9 ++ [O.lst (tms.map rwU)])[Y2.length]? = some (.lst (wr.map rwU)) := ao b9
  have c9 : (Y9 ++ [O.lst (tms.map rwU)])[Y9.length]? = some (.lst (tms.map rwU)) := by rw [ga0]; rfl
  obtain ⟨Z, hZ⟩ : ∃ Z, Z = Y9 ++ [O.lst (tms.map rwU)] ++ [.lst ((ps.map i7).map rwU)] := ⟨_, rfl⟩
  rw [← hZ] at x2 x3 ⊢
  obtain ⟨V, hV⟩ : ∃ V, V = Z ++ [O.lst (lk.map rwU)] := ⟨_, rfl⟩
  rw [← hV] at x3 ⊢
  have gV : V[Z.length]? = some (.lst (lk.map rwU)) := by rw [hV, ga0]; rfl
  obtain ⟨X, hX⟩ : ∃ X, X = Y9 ++ [O.lst (tms.map rwU)] := ⟨_, rfl⟩
  rw [← hX] at x1 x2 x3 b9' c9
  simp only [rT] at x2
  rwa [rT, x1, c9, b9', x2, x3, gV, aI]
 ·have A := W9.well
  refine ((W9.trans (.app A _)).trans (.app ?_ _)).trans (.app ?_ _)
  ·obtain ⟨z, h⟩ := A; exact ⟨z, ao h⟩
  ·obtain ⟨z, h⟩ := A; exact ⟨z, ao (ao h)⟩
 ·rw [hlk] at hr
  obtain ⟨p, hp, rfl⟩ := List.mem_map.mp (g9 hr)
  obtain ⟨p1, p2, p3⟩ := ib p hp
  exact ⟨p.1.1, p.1.2, p.2, rfl, p1, p2, p3⟩
 ·rw [hlk]; exact Nat.le_trans mx (by rw [List.length_map]; omega)
end
end OQ
namespace OL
open PySem PySem.Spec PyProof.Rows L2 OG OP OQ
noncomputable def top (i : Nat) : Stmt := PySem.Challenge.pw_oneglance_k26_what_orders_would_tell.main.body.getD i (.Pass ⟨0, 0, 0, 0⟩)
noncomputable abbrev aX : Stmt := top 2
noncomputable abbrev aY : Stmt := top 3
noncomputable abbrev br : Stmt := top 5
noncomputable abbrev bF : Stmt := top 6
noncomputable abbrev aZ : Stmt := top 7
noncomputable abbrev ba : Stmt := top 8
noncomputable abbrev bu : Stmt := top 9
noncomputable abbrev bt : Stmt := top 10
noncomputable abbrev fi : Stmt := top 11
section
variable {P : Program} {w : World} {K : PySem.W.Frag} {mg : Str → Option Value} {base : Heap}
theorem dt : bz ["row", "order", "a", "last", "one"] ["row", "order", "a"] (aw aY) := ⟨rfl, rfl, rfl, by decide +kernel, rfl, by decide +kernel, by decide +kernel⟩
theorem hU {k : Nat} (d : Def K mg "last_ahead" aY ["row", "order", "a"]) (B : Blt mg) (C_AT_FIRST : ∃ t, mg "AT_FIRST" = some (.int (-1) t)) : fO P w K mg base "last_ahead" (k + 1) ["row", "order", "a"] (fnU 5 3 (bK )) :=
 d.pure dt fun f cdv A outer s H E hr => by
  have hu := gC hr
  have nd := dt.nd
  exact (ax (aJ (i := 3) nd rfl (by first | exact Or.inl rfl | exact Or.inr rfl) (aB (oO rfl C_AT_FIRST)))
   (ax (dB PassesOwn.never rfl (dX (yK (ah (wpv 1)) i9 (i8 (dM (ah (wpv 1)) (ab (ah (wpv 2)) av))))) (bw (aG (i := 4) nd rfl (by first | exact Or.inl rfl | exact Or.inr rfl))) (aT (kR (vz hu (ah (wpv 4)) (ah (wpv 0)) (by with_unfolding_all rfl)) (aT (aJ (i := 3) nd rfl (by first | exact Or.inl rfl | exact Or.inr rfl) (ah (wpv 4)))) fA)))
   (aT (cN (ah (wpv 3))))))
theorem dr : bz ["tale", "order"] ["tale", "order"] (aw aX) := ⟨rfl, rfl, rfl, by decide +kernel, rfl, by decide +kernel, by decide +kernel⟩
theorem hR {k : Nat} {bc : Fn} (d : Def K mg "would_tell" aX ["tale", "order"]) (B : Blt mg) (cS : fO P w K mg base "last_ahead" (k) ["row", "order", "a"] bc) : fO P w K mg base "would_tell" (k + 1) ["tale", "order"] (fnU 2 2 (bJ bc)) :=
 d.pure dr fun f cdv A outer s H E hr => by
  have hu := gC hr
  have nd := dr.nd
  exact (aT (cN (qz (Nc := ["look", "order", "tale"]) (tn := ["look"]) (capN := ["order", "tale"]) (caps := [1, 0]) rfl (dX (gk hu (ah (wpv 0)) (aB af) (fun _ _ => rfl) (fun _ _ => rfl))) (fun _ _ _ => (bw (aG (i := 0) (show (["look", "order", "tale"] : List Str).Nodup by decide +kernel) rfl (by first | exact Or.inl rfl | exact Or.inr rfl)))) (fun _ _ _ => (aR cS hr rfl (ab (gk hu (gk hu (ah (wpv 2)) (aB af) (fun _ _ => rfl) (fun _ _ => rfl)) (gk hu (ah (wpv 0)) (aB af) (fun _ _ => rfl) (fun _ _ => rfl)) (fun _ _ => rfl) (fun _ _ => rfl)) (ab (ah (wpv 1)) (ab (gk hu (ah (wpv 0)) (aB af) (fun _ _ => rfl) (fun _ _ => rfl)) av))))) rfl rfl (by decide +kernel) (by decide +kernel) ⟨rfl, rfl, trivial⟩ rfl (.cons ⟨rfl, rfl, rfl, _, rfl⟩ (.cons ⟨rfl, rfl, rfl, _, rfl⟩ .nil)) rfl rfl)))
theorem dR : bz ["script", "k", "number", "stir", "found", "turn"] ["script", "k"] (aw br) := ⟨rfl, rfl, rfl, by decide +kernel, rfl, by decide +kernel, by decide +kernel⟩
theorem ji {k : Nat} (d : Def K mg "_law_well" br ["script", "k"]) (B : Blt mg) : fO P w K mg base "_law_well" (k + 1) ["script", "k"] (fnU 6 2 (bH )) :=
 d.pure dR fun f cdv A outer s H E hr => by
  have hu := gC hr
  have nd := dR.nd
  exact (ax (aJ (i := 2) nd rfl (by first | exact Or.inl rfl | exact Or.inr rfl) (c0 dc da (c0 dC gu (aB af) (ah (wpv 1))) (aB af)))
   (ax (kR (cQ pH xl (ah (wpv 1)) (cw mW mO rfl B.len PySem.boot_len (ab (ah (wpv 0)) av)) (b3 _)) (aT (aJ (i := 2) nd rfl (by first | exact Or.inl rfl | exact Or.inr rfl) (gk hu (ah (wpv 0)) (ah (wpv 1)) (fun _ _ => rfl) (fun _ _ => rfl)))) fA)
   (ax (kR (cQ pI xm (c0 j4 pE (ah (wpv 2)) (aB af)) (aB af) (b3 _)) (aT (cN (cX (ab (c0 j5 v8 (ah (wpv 2)) (aB af)) av)))) fA)
   (ax (aJ (i := 3) nd rfl (by first | exact Or.inl rfl | exact Or.inr rfl) (c0 j4 pE (c0 dc da (c0 dc da (c0 dC gu (ah (wpv 2)) (aB af)) (c0 dC gu (aB af) (ah (wpv 1)))) (aB af)) (aB af)))
   (ax (aJ (i := 4) nd rfl (by first | exact Or.inl rfl | exact Or.inr rfl) (aB af))
   (ax (dB PassesOwn.never rfl (bZ rfl B.range (ab (aB af) av)) (bw (aG (i := 5) nd rfl (by first | exact Or.inl rfl | exact Or.inr rfl))) (ax (aJ (i := 3) nd rfl (by first | exact Or.inl rfl | exact Or.inr rfl) (c0 j4 pE (c0 dc da (c0 dc da (c0 dc da (c0 dC gu (ah (wpv 3)) (ah (wpv 3))) (c0 dC gu (aB af) (ah (wpv 3)))) (c0 dC gu (aB af) (ah (wpv 5)))) (aB af)) (aB af)))
   (aT (aJ (i := 4) nd rfl (by first | exact Or.inl rfl | exact Or.inr rfl) (c0 dc da (c0 dC gu (ah (wpv 4)) (aB af)) (ah (wpv 3)))))))
   (aT (cN (cX (ab (ah (wpv 4)) av))))))))))
theorem eD : bz ["well", "many", "digit"] ["well", "many"] (aw bF) := ⟨rfl, rfl, rfl, by decide +kernel, rfl, by decide +kernel, by decide +kernel⟩
theorem lu {k : Nat} (d : Def K mg "_law_sip" bF ["well", "many"]) (B : Blt mg) : fO P w K mg base "_law_sip" (k + 1) ["well", "many"] (fnU 3 2 (cG )) :=
 d.pure eD fun f cdv A outer s H E hr => by
  have hu := gC hr
  have nd := eD.nd
  exact (ax (aJ (i := 2) nd rfl (by first | exact Or.inl rfl | exact Or.inr rfl) (c0 j4 pE (gk hu (ah (wpv 0)) (aB af) (fun _ _ => rfl) (fun _ _ => rfl)) (ah (wpv 1))))
   (ax (o8 hu (ah (wpv 0)) (aB af) (c0 j5 v8 (gk hu (ah (wpv 0)) (aB af) (fun _ _ => rfl) (fun _ _ => rfl)) (ah (wpv 1))))
   (aT (cN (ah (wpv 2))))))
theorem du : bz ["thing"] ["thing"] (aw aZ) := ⟨rfl, rfl, rfl, by decide +kernel, rfl, by decide +kernel, by decide +kernel⟩
theorem h8 {k : Nat} (d : Def K mg "_law_whole" aZ ["thing"]) (B : Blt mg) : fO P w K mg base "_law_whole" (k + 1) ["thing"] (fnU 1 1 (bL )) :=
 d.pure du fun f cdv A outer s H E hr => by
  have hu := gC hr
  have nd := du.nd
  exact (aT (cN (qA (sC (T := .int) (by intro z; cases z) (ah (wpv 0)) (lW rfl B.int OG.gI) rfl B.isinstance) (vA (vB (sC (T := .bool) (by intro z; cases z) (ah (wpv 0)) (lW rfl B.bool OG.n6) rfl B.isinstance))))))
theorem dw : bz ["well", "many", "left", "found", "at"] ["well", "many"] (aw ba) := ⟨rfl, rfl, rfl, by decide +kernel, rfl, by decide +kernel, by decide +kernel⟩
theorem ia {k : Nat} {ae : Fn} {fuel : Nat} (d : Def K mg "_law_mixed" ba ["well", "many"]) (B : Blt mg) (ay : fO P w K mg base "_law_sip" (k) ["well", "many"] ae) : fO P w K mg base "_law_mixed" (k + 1) ["well", "many"] (fnU 5 2 (bM ae fuel)) :=
 d.pure dw fun f cdv A outer s H E hr => by
  have hu := gC hr
  have nd := dw.nd
  exact (ax (aJ (i := 2) nd rfl (by first | exact Or.inl rfl | exact Or.inr rfl) (ja rfl rfl B.list rfl B.range (ab (ah (wpv 1)) av) rfl rfl))
   (ax (aJ (i := 3) nd rfl (by first | exact Or.inl rfl | exact Or.inr rfl) (cX av))
   (ax (o7 fuel PassesOwn.never (cQ (mQ hr.units) mP (ah (wpv 2)) (cX av) (b3 _)) (ax (aJ (i := 4) nd rfl (by first | exact Or.inl rfl | exact Or.inr rfl) (aR ay hr rfl (ab (ah (wpv 0)) (ab (cw mW mO rfl B.len PySem.boot_len (ab (ah (wpv 2)) av)) av))))
   (aT (gi (d9 (ah (wpv 3)) (ab (sy (ah (wpv 2)) (ab (ah (wpv 4)) av)) av))))))
   (aT (cN (ah (wpv 3)))))))
theorem dU : bz ["well", "most", "many", "hidden", "writers", "box", "row", "looks", "k", "a", "earlier", "times", "b"] ["well", "most"] (aw bu) := ⟨rfl, rfl, rfl, by decide +kernel, rfl, by decide +kernel, by decide +kernel⟩
theorem jm {k : Nat} {ae ak : Fn} (d : Def K mg "_law_tale" bu ["well", "most"]) (B : Blt mg) (ay : fO P w K mg base "_law_sip" (k) ["well", "many"] ae) (bB : fO P w K mg base "_law_mixed" (k) ["well", "many"] ak) : fO P w K mg base "_law_tale" (k + 1) ["well", "most"] (fnU 13 2 (b8 ae ak)) :=
 d.pure dU fun f cdv A outer s H E hr => by
  have hu := gC hr
  have nd := dU.nd
  exact (ax (aJ (i := 2) nd rfl (by first | exact Or.inl rfl | exact Or.inr rfl) (c0 dc da (aB af) (aR ay hr rfl (ab (ah (wpv 0)) (ab (ah (wpv 1)) av)))))
   (ax (aJ (i := 3) nd rfl (by first | exact Or.inl rfl | exact Or.inr rfl) (aR bB hr rfl (ab (ah (wpv 0)) (ab (ah (wpv 2)) av))))
   (ax (aJ (i := 4) nd rfl (by first | exact Or.inl rfl | exact Or.inr rfl) (cX av))
   (ax (dB PassesOwn.never rfl (bZ rfl B.range (ab (c0 dc da (aB af) (aR ay hr rfl (ab (ah (wpv 0)) (ab (gk hu (cX (ab (aB af) (ab (aB af) (ab (aB af) av)))) (aR ay hr rfl (ab (ah (wpv 0)) (ab (aB af) av))) (fun _ _ => rfl) (fun _ _ => rfl)) av)))) av)) (bw (aG (i := 5) nd rfl (by first | exact Or.inl rfl | exact Or.inr rfl))) (ax (dW (Nc := ["a", "well"]) (tn := ["a"]) (capN := ["well"]) (caps := [0]) rfl (dX (ah (wpv 3))) (fun _ _ _ => (bw (aG (i := 0) (show (["a", "well"] : List Str).Nodup by decide +kernel) rfl (by first | exact Or.inl rfl | exact Or.inr rfl)))) (fun _ _ _ => (cQ pH xl (aR ay hr rfl (ab (ah (wpv 1)) (ab (aB af) av))) (aB af) (b3 _))) (fun _ _ _ => (ah (wpv 0))) rfl rfl (by decide +kernel) (by decide +kernel) ⟨rfl, trivial⟩ rfl (.cons ⟨rfl, rfl, rfl, _, rfl⟩ .nil) rfl rfl nd rfl rfl rfl)
   (aT (gi (d9 (ah (wpv 4)) (ab (cK bR gq rfl B.tuple OG.cV (ab (yJ (ah (wpv 6)) (c0 wa yX (aB af) (c0 dC gu (aB af) (cK iH v7 rfl B.int OG.gI (ab (o9 pI xm (aR ay hr rfl (ab (ah (wpv 0)) (ab (aB af) av))) (aB af) (b3 _)) av))))) av)) av))))))
   (ax (aJ (i := 7) nd rfl (by first | exact Or.inl rfl | exact Or.inr rfl) mI)
   (ax (dB PassesOwn.never rfl (bZ rfl B.range (ab (aR ay hr rfl (ab (ah (wpv 0)) (ab (c0 dc da (c0 dC gu (aB af) (ah (wpv 2))) (aB af)) av))) av)) (bw (aG (i := 8) nd rfl (by first | exact Or.inl rfl | exact Or.inr rfl))) (ax (aJ (i := 9) nd rfl (by first | exact Or.inl rfl | exact Or.inr rfl) (aR ay hr rfl (ab (ah (wpv 0)) (ab (ah (wpv 2)) av))))
   (ax (aJ (i := 5) nd rfl (by first | exact Or.inl rfl | exact Or.inr rfl) (aR ay hr rfl (ab (ah (wpv 0)) (ab (cw mW mO rfl B.len PySem.boot_len (ab (ah (wpv 4)) av)) av))))
   (ax (aJ (i := 6) nd rfl (by first | exact Or.inl rfl | exact Or.inr rfl) (c0 dc da (cX (ab (g7 (aB af)) av)) (jX (Nc := ["one", "a"]) (tn := ["one"]) (capN := ["a"]) (caps := [9]) rfl (dX (gk hu (ah (wpv 4)) (ah (wpv 5)) (fun _ _ => rfl) (fun _ _ => rfl))) (fun _ _ _ => (bw (aG (i := 0) (show (["one", "a"] : List Str).Nodup by decide +kernel) rfl (by first | exact Or.inl rfl | exact Or.inr rfl)))) (fun _ _ _ => (cQ wb zQ (ah (wpv 0)) (ah (wpv 1)) (b3 _))) (fun _ _ _ => (ah (wpv 0))) rfl rfl (by decide +kernel) (by decide +kernel) ⟨rfl, trivial⟩ rfl (.cons ⟨rfl, rfl, rfl, _, rfl⟩ .nil) rfl rfl)))
   (ax (aJ (i := 10) nd rfl (by first | exact Or.inl rfl | exact Or.inr rfl) (c0 dc da (cX (ab (g7 (aB af)) av)) (jX (Nc := ["one", "a", "hidden"]) (tn := ["one"]) (capN := ["a", "hidden"]) (caps := [9, 3]) rfl (dX (yK (ah (wpv 6)) (i8 (aB af)) i9)) (fun _ _ _ => (bw (aG (i := 0) (show (["one", "a", "hidden"] : List Str).Nodup by decide +kernel) rfl (by first | exact Or.inl rfl | exact Or.inr rfl)))) (fun _ _ _ => (cQ pH xl (dM (ah (wpv 2)) (ab (ah (wpv 0)) av)) (dM (ah (wpv 2)) (ab (ah (wpv 1)) av)) (b3 _))) (fun _ _ _ => (ah (wpv 0))) rfl rfl (by decide +kernel) (by decide +kernel) ⟨rfl, rfl, trivial⟩ rfl (.cons ⟨rfl, rfl, rfl, _, rfl⟩ (.cons ⟨rfl, rfl, rfl, _, rfl⟩ .nil)) rfl rfl)))
   (aT (g6 hu (ah (wpv 7)) (ab (ah (wpv 9)) (ab (ah (wpv 5)) av)) (gk hu (cX (ab (gk hu (ah (wpv 10)) (g7 (aB af)) (fun _ _ => rfl) (fun _ _ => rfl)) (ab (gk hu (ah (wpv 6)) (aR ay hr rfl (ab (ah (wpv 0)) (ab (cw mW mO rfl B.len PySem.boot_len (ab (ah (wpv 6)) av)) av))) (fun _ _ => rfl) (fun _ _ => rfl)) av))) (cK iH v7 rfl B.int OG.gI (ab (o9 pI xm (aR ay hr rfl (ab (ah (wpv 0)) (ab (aB af) av))) (aB af) (b3 _)) av)) (fun _ _ => rfl) (fun _ _ => rfl)))))))))
   (ax (aJ (i := 11) nd rfl (by first | exact Or.inl rfl | exact Or.inr rfl) mI)
   (ax (dB PassesOwn.never rfl (bZ rfl B.range (ab (aR ay hr rfl (ab (ah (wpv 0)) (ab (c0 dc da (ah (wpv 2)) (aB af)) av))) av)) (bw (aG (i := 8) nd rfl (by first | exact Or.inl rfl | exact Or.inr rfl))) (ax (aJ (i := 9) nd rfl (by first | exact Or.inl rfl | exact Or.inr rfl) (aR ay hr rfl (ab (ah (wpv 0)) (ab (ah (wpv 2)) av))))
   (ax (aJ (i := 12) nd rfl (by first | exact Or.inl rfl | exact Or.inr rfl) (aR ay hr rfl (ab (ah (wpv 0)) (ab (ah (wpv 2)) av))))
   (aT (kR (xk (yO (cQ wb zQ (ah (wpv 9)) (ah (wpv 12)) (b3 _)) (vC (xk (yL (cQ pH xl (dM (ah (wpv 3)) (ab (ah (wpv 9)) av)) (dM (ah (wpv 3)) (ab (ah (wpv 12)) av)) (b3 _)) (sA (cQ pI xm (aR ay hr rfl (ab (ah (wpv 0)) (ab (aB af) av))) (aB af) (b3 _)))))))) (aT (g6 hu (ah (wpv 11)) (ab (ah (wpv 9)) (ab (ah (wpv 12)) av)) (yN mf))) fA)))))
   (aT (cN (dJ (ab (ah (wpv 2)) (ab (cK bR gq rfl B.tuple OG.cV (ab (cw (fC rfl) g8 rfl B.sorted OG.fb (ab (ah (wpv 11)) av)) av)) (ab (cK bR gq rfl B.tuple OG.cV (ab (ah (wpv 4)) av)) (ab (cK bR gq rfl B.tuple OG.cV (ab (cw (fC rfl) g8 rfl B.sorted OG.fb (ab (sD (Nc := ["one", "looks"]) (tn := ["one"]) (capN := ["looks"]) (caps := [7]) rfl (ah (wpv 7)) (fun _ _ _ => (bw (aG (i := 0) (show (["one", "looks"] : List Str).Nodup by decide +kernel) rfl (by first | exact Or.inl rfl | exact Or.inr rfl)))) (fun _ _ _ => (c0 dc da (ah (wpv 0)) (dJ (ab (yM hu (ah (wpv 1)) (ah (wpv 0)) (fun _ _ => rfl)) av)))) rfl rfl (by decide +kernel) (by decide +kernel) ⟨rfl, trivial⟩ rfl (.cons ⟨rfl, rfl, rfl, _, rfl⟩ .nil) rfl rfl) av)) av)) av)))))))))))))))
theorem dS : bz ["tale", "order", "found", "a", "box", "source", "earlier"] ["tale", "order"] (aw bt) := ⟨rfl, rfl, rfl, by decide +kernel, rfl, by decide +kernel, by decide +kernel⟩
theorem jj {k : Nat} (d : Def K mg "_law_told" bt ["tale", "order"]) (B : Blt mg) : fO P w K mg base "_law_told" (k + 1) ["tale", "order"] (fnU 7 2 (b6 )) :=
 d.pure dS fun f cdv A outer s H E hr => by
  have hu := gC hr
  have nd := dS.nd
  exact (ax (aJ (i := 2) nd rfl (by first | exact Or.inl rfl | exact Or.inr rfl) (cX av))
   (ax (dB PassesOwn.never rfl (dX (gk hu (ah (wpv 0)) (aB af) (fun _ _ => rfl) (fun _ _ => rfl))) (vy rfl (gj (aG (i := 3) nd rfl (by first | exact Or.inl rfl | exact Or.inr rfl)) (gj (aG (i := 4) nd rfl (by first | exact Or.inl rfl | exact Or.inr rfl)) (gj (aG (i := 5) nd rfl (by first | exact Or.inl rfl | exact Or.inr rfl)) sx)))) (ax (dW (Nc := ["one", "box", "tale"]) (tn := ["one"]) (capN := ["box", "tale"]) (caps := [4, 0]) rfl (dX (yK (ah (wpv 1)) i9 (i8 (dM (ah (wpv 1)) (ab (ah (wpv 3)) av))))) (fun _ _ _ => (bw (aG (i := 0) (show (["one", "box", "tale"] : List Str).Nodup by decide +kernel) rfl (by first | exact Or.inl rfl | exact Or.inr rfl)))) (fun _ _ _ => (vz hu (ah (wpv 0)) (gk hu (gk hu (ah (wpv 2)) (aB af) (fun _ _ => rfl) (fun _ _ => rfl)) (ah (wpv 1)) (fun _ _ => rfl) (fun _ _ => rfl)) (by with_unfolding_all rfl))) (fun _ _ _ => (ah (wpv 0))) rfl rfl (by decide +kernel) (by decide +kernel) ⟨rfl, rfl, trivial⟩ rfl (.cons ⟨rfl, rfl, rfl, _, rfl⟩ (.cons ⟨rfl, rfl, rfl, _, rfl⟩ .nil)) rfl rfl nd rfl rfl rfl)
   (aT (gi (d9 (ah (wpv 2)) (ab (gk hu (c0 dc da (cX (ab (g7 (aB af)) av)) (ah (wpv 6))) (g7 (aB af)) (fun _ _ => rfl) (fun _ _ => rfl)) av))))))
   (aT (cN (ah (wpv 2))))))
theorem qr : bz ["script", "k", "well", "tale", "turn", "order", "handed", "again", "found"] ["script"] (aw fi) := ⟨rfl, rfl, rfl, by decide +kernel, rfl, by decide +kernel, by decide +kernel⟩
noncomputable def gJ (aL aN ae ak aC aE aM : Fn) : CS :=
 (bS (cI 8 (cCB aC (aa (ag 3) (aa (ag 6) aA))))
  (bS (qb (cOr (xy (bj (wX .list (ag 8)))) (xy (bj (cCB wR (aa (iJ (iTp (ag 8)) (gNm 0) (cCB aE (aa (ag 0) aA)) 1 []) aA))))) (iI (cC (.bl false))) gH)
  (bS (qb (cOr (bj (cOp (ko true) (ag 8) (cCB aM (aa (ag 3) (aa (ag 5) aA))))) (bj (cOp (ko true) (ag 6) (ag 5)))) (iI (cC (.bl false))) gH)
  (lG (cBM cL (ag 8) (aa (iU (cC (.int 1))) aA))))))
noncomputable def jC (aL aN ae ak aC aE aM : Fn) : CS :=
 (bS (cI 5 (cCB ak (aa (ag 2) (aa (cOp fIx (ag 3) (cC (.int 0))) aA))))
  (bS (cI 6 (cCB lB (aa (ag 5) aA)))
  (fq (bC (aa (cC (.int 2)) aA)) (gNm 7) (gJ aL aN ae ak aC aE aM))))
noncomputable def jB (aL aN ae ak aC aE aM : Fn) : CS :=
 (bS (cI 2 (cCB aL (aa (ag 0) (aa (ag 1) aA))))
  (bS (cI 3 (cCB aN (aa (ag 2) (aa (cOp fIx (dY (aa (cC (.int 9)) (aa (cC (.int 9)) (aa (cC (.int 30)) aA)))) (cCB ae (aa (ag 2) (aa (cC (.int 3)) aA)))) aA))))
  (fq (bC (aa (cC (.int 4)) aA)) (gNm 4) (jC aL aN ae ak aC aE aM))))
noncomputable def tV (aL aN ae ak aC aE aM : Fn) : CS :=
 (bS (fq (bC (aa (cCB xx (aa (cC (.int 3)) (aa (cCB xw (aa (cC (.int 10)) (aa (cCB lC (aa (ag 0) aA)) aA))) aA))) aA)) (gNm 1) (jB aL aN ae ak aC aE aM))
  (iI (nZ (cOp (ko false) (cCB aC (aa (gK (aa (cC (.int 1)) (aa (gK aA) (aa (gK (aa (gK (aa (cC (.int 0)) aA)) aA)) (aa (gK aA) aA))))) (aa (dY (aa (cC (.int 0)) aA)) aA))) (dY aA)) (cOp (ko false) (cCB aC (aa (gK (aa (cC (.int 1)) (aa (gK aA) (aa (gK (aa (gK (aa (cC (.int 0)) aA)) aA)) (aa (gK (aa (gK (aa (cC (.int 0)) (aa (cC (.int 0)) (aa (iU (cC (.int 1))) aA)))) aA)) aA))))) (aa (dY (aa (cC (.int 0)) aA)) aA))) (dY (aa (iU (cC (.int 1))) aA))))))
theorem zm {k : Nat} {aL aN ae ak aC aE aM : Fn} {fa : Addr} {fd : FuncData} (F : Fun K "law" "law" fi fa fd) (B : Blt mg) (dj : fO P w K mg base "_law_well" k ["script", "k"] aL) (dm : fO P w K mg base "_law_tale" k ["well", "most"] aN) (ay : fO P w K mg base "_law_sip" k ["well", "many"] ae) (bB : fO P w K mg base "_law_mixed" k ["well", "many"] ak) (bN : fO P w K mg base "would_tell" k ["tale", "order"] aC) (cT : fO P w K mg base "_law_whole" k ["thing"] aE) (dk : fO P w K mg base "_law_told" k ["tale", "order"] aM)
  (ok : ∀ (ns : List Int), ns.length ≤ 63 → ∃ ρ' S', tV aL aN ae ak aC aE aM [some (.kl ns), none, none, none, none, none, none, none, none] [] = some (.rt (.bl true), ρ', S')) : kC P w K mg base CX0 (k + 1) fa fd ["script"] (jS K) := by
 refine Fun.okW F qr (fun vs H Q E h => (by obtain ⟨a, ns, rfl, _⟩ := h; rfl)) fun cdv A outer s H vs Q E hr h => ?_
 obtain ⟨a, ns, rfl, hS, cH, q⟩ := h
 have hu := gC hr
 have nd := qr.nd
 exact ⟨_, (ax (dB PassesOwn.never rfl (bZ rfl B.range (ab (cw (nU rfl) y0 rfl B.max OG.qd (ab (aB af) (ab (cw (nT rfl) yZ rfl B.min OG.qc (ab (aB af) (ab (cw mW mO rfl B.len PySem.boot_len (ab (ah (wpv 0)) av)) av))) av))) av)) (bw (aG (i := 1) nd rfl (by first | exact Or.inl rfl | exact Or.inr rfl))) (ax (aJ (i := 2) nd rfl (by first | exact Or.inl rfl | exact Or.inr rfl) (aR dj hr rfl (ab (ah (wpv 0)) (ab (ah (wpv 1)) av))))
   (ax (aJ (i := 3) nd rfl (by first | exact Or.inl rfl | exact Or.inr rfl) (aR dm hr rfl (ab (ah (wpv 2)) (ab (gk hu (cX (ab (aB af) (ab (aB af) (ab (aB af) av)))) (aR ay hr rfl (ab (ah (wpv 2)) (ab (aB af) av))) (fun _ _ => rfl) (fun _ _ => rfl)) av))))
   (aT (dB PassesOwn.never rfl (bZ rfl B.range (ab (aB af) av)) (bw (aG (i := 4) nd rfl (by first | exact Or.inl rfl | exact Or.inr rfl))) (ax (aJ (i := 5) nd rfl (by first | exact Or.inl rfl | exact Or.inr rfl) (aR bB hr rfl (ab (ah (wpv 2)) (ab (gk hu (ah (wpv 3)) (aB af) (fun _ _ => rfl) (fun _ _ => rfl)) av))))
   (ax (aJ (i := 6) nd rfl (by first | exact Or.inl rfl | exact Or.inr rfl) (cK iF vZ rfl B.list OG.fc (ab (ah (wpv 5)) av)))
   (aT (dB PassesOwn.never rfl (bZ rfl B.range (ab (aB af) av)) (bw (aG (i := 7) nd rfl (by first | exact Or.inl rfl | exact Or.inr rfl))) (ax (aJ (i := 8) nd rfl (by first | exact Or.inl rfl | exact Or.inr rfl) (aR bN hr rfl (ab (ah (wpv 3)) (ab (ah (wpv 6)) av))))
   (ax (kR (xk (yL (qy (qx (sC (T := .list) (by intro z; cases z) (ah (wpv 8)) (lW rfl B.list OG.fc) rfl B.isinstance))) (sA (qy (qx (cw (p8 rfl) y1 rfl B.all OG.qe (ab (qz (Nc := ["one"]) (tn := ["one"]) (capN := []) (caps := []) rfl (dX (ah (wpv 8))) (fun _ _ _ => (bw (aG (i := 0) (show (["one"] : List Str).Nodup by decide +kernel) rfl (by first | exact Or.inl rfl | exact Or.inr rfl)))) (fun _ _ _ => (aR cT hr rfl (ab (ah (wpv 0)) av))) rfl rfl (by decide +kernel) (by decide +kernel) trivial rfl .nil rfl rfl) av))))))) (aT (cN (yN mf))) fA)
   (ax (kR (xk (yL (cQ (mQ hr.units) mP (ah (wpv 8)) (aR dk hr rfl (ab (ah (wpv 3)) (ab (ah (wpv 5)) av))) (b3 _)) (sA (cQ (mQ hr.units) mP (ah (wpv 6)) (ah (wpv 5)) (b3 _))))) (aT (cN (yN mf))) fA)
   (aT (gi (d9 (ah (wpv 8)) (ab (g7 (aB af)) av))))))))))))))))
   (aT (cN (qA (o9 (qB hr.units) mP (aR bN hr rfl (ab (dJ (ab (aB af) (ab (dJ av) (ab (dJ (ab (dJ (ab (aB af) av)) av)) (ab (dJ av) av))))) (ab (cX (ab (aB af) av)) av))) (cX av) (b3 _)) (vA (o9 (qB hr.units) mP (aR bN hr rfl (ab (dJ (ab (aB af) (ab (dJ av) (ab (dJ (ab (dJ (ab (aB af) av)) av)) (ab (dJ (ab (dJ (ab (aB af) (ab (aB af) (ab (g7 (aB af)) av)))) av)) av))))) (ab (cX (ab (aB af) av)) av))) (cX (ab (g7 (aB af)) av)) (b3 _))))))), pN hS (ok ns cH) q⟩
end
noncomputable def dH : Fn := fnU 1 1 bL
theorem mZ {a : Int} {S : Sto} : dH [.int a] S = some (.bl true, S) := by
 unfold dH
 rw [ik]
 have t0 : tyU (.int a) S = some .int := rfl
 have t1 : qp .int .int = true := rfl
 have t2 : qp .int .bool = false := rfl
 rwa [bL, t0, t1, t2]
noncomputable abbrev fL (f : Fn → Fn → Fn → Fn → Fn → Fn → Fn → CS) : CS := f ow oy cf cg jG dH ox
noncomputable abbrev rh (ns : List Int) (r1 : Option U) (lw : Nat) (t : U) (r4 : Option U) (jo jd : Nat) (r7 r8 : Option U) : Rho := [some (.kl ns), r1, some (.ref lw), some t, r4, some (.ref jo), some (.ref jd), r7, r8]
section
variable {ns os : List Int} {lw jo jd : Nat} {many : Int} {tm : U} {wr lk : List (List Int)} {r1 r4 : Option U} {S : Sto}
theorem lH {Z : Sto} (ho : Z[jo]? = some (.lst (os.map U.int))) (hd : Z[jd]? = some (.lst (os.map U.int))) (hl : os.length ≤ 900) (hk : lk.length ≤ 900) (ti : lJ many wr lk) (hm : ∀ a, 0 ≤ a → a < many → a ∈ os) (G : Sto) (r7 r8 : Option U) :
  ∃ G' r8', fL gJ (rh ns r1 lw (aI many tm wr lk) r4 jo jd r7 r8) (Z ++ G) = some (.nx, rh ns r1 lw (aI many tm wr lk) r4 jo jd r7 r8', Z ++ G') := by
 obtain ⟨Y, hY⟩ : ∃ Y, Y = Z ++ G := ⟨_, rfl⟩
 have up : ∀ {j : Nat} {o : O}, Z[j]? = some o → ∀ X, (Y ++ X)[j]? = some o := fun h X => by rw [hY, List.append_assoc]; exact ao h
 have hd0 : Y[jd]? = some (.lst (os.map U.int)) := by have := up hd []; rw [List.append_nil] at this; exact this
 obtain ⟨G1, e1⟩ := fR (tm := tm) hd0 hl hk ti hm
 obtain ⟨tl, htl⟩ : ∃ tl, tl = cZ wr lk os := ⟨_, rfl⟩
 rw [← htl] at e1
 have ltl : tl.length ≤ 900 := by rw [htl]; unfold cZ; rw [List.length_map]; exact hk
 obtain ⟨Y1, hY1⟩ : ∃ Y1, Y1 = Y ++ (.lst (tl.map U.int) :: G1) := ⟨_, rfl⟩
 rw [← hY1] at e1
 have g1 : ∀ X, (Y1 ++ X)[Y.length]? = some (.lst (tl.map U.int)) := fun X => by rw [hY1, List.append_assoc, ga0]; rfl
 have g10 : Y1[Y.length]? = some (.lst (tl.map U.int)) := by rw [hY1, ga0]; rfl
 have ht : tyU (.ref Y.length) Y1 = some .list := by simp only [tyU, g10]
 have hst : qp .list .list = true := rfl
 obtain ⟨G2, e2⟩ := gG (S := Y1) (ok := fun S => S[Y.length]? = some (.lst (tl.map U.int))) (gg := gNm 0) (ce := cCB dH (aa (ag 0) aA)) (f := U.int) (v := fun _ => .bl true) (Rel := fun ρ => ∃ r0, ρ = [r0]) (fun ys G => g1 _) tl [] [] [none] ⟨_, rfl⟩ (by simp; omega) (fun b hb ys G2 ρ hρ => by
  obtain ⟨r0, rfl⟩ := hρ
  refine ⟨[some (.int b)], [], ⟨_, rfl⟩, rfl, ?_⟩
  rwa [mZ, List.append_nil])
 simp only [List.nil_append] at e2
 obtain ⟨Y2, hY2⟩ : ∃ Y2, Y2 = Y1 ++ (.lst (tl.map fun _ => U.bl true) :: G2) := ⟨_, rfl⟩
 have hcomp : iJ (iTp (ag 8)) (gNm 0) (cCB dH (aa (ag 0) aA)) 1 [] (rh ns r1 lw (aI many tm wr lk) r4 jo jd r7 (some (.ref Y.length))) Y1 = some (.ref Y1.length, Y2) := by
  have hi : ag 8 (rh ns r1 lw (aI many tm wr lk) r4 jo jd r7 (some (.ref Y.length))) Y1 = some (.ref Y.length, Y1) := rfl
  unfold iJ iTp
  rw [hi, Option.bind_some]
  simp only [g10, Option.bind_some, gc, List.replicate, List.map_nil, List.append_nil, e2, hY2]
 have hall : wR [.ref Y1.length] Y2 = some (.bl true, Y2) := by
  have em : (tl.map fun _ => U.bl true) = (tl.map fun _ => true).map U.bl := by rw [List.map_map]; rfl
  have ea : ((tl.map fun _ => true).all id) = true := by simp
  rw [hY2]
  simp only [wR, ga0, List.getElem?_cons_zero, em, kA, Option.bind_some, ea]
 have eY2 : Y2 = Y ++ ((.lst (tl.map U.int) :: G1) ++ (.lst (tl.map fun _ => U.bl true) :: G2)) := by rw [hY2, hY1, List.append_assoc]
 have ho2 : Y2[jo]? = some (.lst (os.map U.int)) := by rw [eY2]; exact up ho _
 have hd2 : Y2[jd]? = some (.lst (os.map U.int)) := by rw [eY2]; exact up hd _
 have g2 : Y2[Y.length]? = some (.lst (tl.map U.int)) := by rw [hY2]; exact g1 _
 obtain ⟨G3, e3⟩ := se (tm := tm) ho2 hl hk ti hm
 rw [← htl] at e3
 obtain ⟨Y3, hY3⟩ : ∃ Y3, Y3 = Y2 ++ (.lst (tl.map U.int) :: G3) := ⟨_, rfl⟩
 rw [← hY3] at e3
 have q1 := ej true (S := Y3) (l := Y.length) (l' := Y2.length) (ns := tl) (ms := tl) (by rw [hY3]; exact ao g2) (by rw [hY3, ga0]; rfl)
 have q2 := ej true (S := Y3) (l := jd) (l' := jo) (ns := os) (ms := os) (by rw [hY3]; exact ao hd2) (by rw [hY3]; exact ao ho2)
 rw [if_pos rfl, decide_eq_true rfl, Bool.not_true] at q1 q2
 have g3 : Y3[Y.length]? = some (.lst (tl.map U.int)) := by rw [hY3]; exact ao g2
 have hA : (tl.map U.int).length < LIM := by unfold LIM; rw [List.length_map]; omega
 have eY3 : Y3 = Z ++ (G ++ ((.lst (tl.map U.int) :: (G1 ++ (.lst (tl.map fun _ => U.bl true) :: (G2 ++ (.lst (tl.map U.int) :: G3))))))) := by rw [hY3, eY2, hY]; simp only [List.append_assoc, List.cons_append]
 have lZ : Z.length ≤ Y.length := by rw [hY]; simp
 have hfin : ∃ G', Y3.set Y.length (.lst (tl.map U.int ++ [.int (-1)])) = Z ++ G' := by
  rw [eY3, show Y.length = Z.length + (Y.length - Z.length) from by omega, gs]
  exact ⟨_, rfl⟩
 obtain ⟨G', hG'⟩ := hfin
 refine ⟨G', some (.ref Y.length), ?_⟩
 rw [← hY, ← hG']
 unfold fL gJ
 rw [d5 (ρ' := rh ns r1 lw (aI many tm wr lk) r4 jo jd r7 (some (.ref Y.length))) (S' := Y1) (by rwa [rh, e1])]
 rw [d5 (ρ' := rh ns r1 lw (aI many tm wr lk) r4 jo jd r7 (some (.ref Y.length))) (S' := Y2) (by simp only [rh] at hcomp; rwa [rh, ht, hst, hcomp, hall])]
 rw [d5 (ρ' := rh ns r1 lw (aI many tm wr lk) r4 jo jd r7 (some (.ref Y.length))) (S' := Y3) (by rwa [rh, e3, q1, q2])]
 rwa [rh, iX, eC, g3, jK hA]
theorem fN {Z : Sto} (ho : Z[jo]? = some (.lst (os.map U.int))) (hd : Z[jd]? = some (.lst (os.map U.int))) (hl : os.length ≤ 900) (hk : lk.length ≤ 900) (ti : lJ many wr lk) (hm : ∀ a, 0 ≤ a → a < many → a ∈ os) : ∀ (us : List U) (G : Sto) (r7 r8 : Option U),
  ∃ G' r7' r8', b5 (fun _ => True) (gNm 7) (fL gJ) us (rh ns r1 lw (aI many tm wr lk) r4 jo jd r7 r8) (Z ++ G) = some (.nx, rh ns r1 lw (aI many tm wr lk) r4 jo jd r7' r8', Z ++ G')
 | [], G, r7, r8 => ⟨G, r7, r8, bP trivial⟩
 | u :: us, G, r7, r8 => by
  obtain ⟨G1, s8, e⟩ := lH (ns := ns) (r1 := r1) (lw := lw) (tm := tm) (r4 := r4) ho hd hl hk ti hm G (some u) r8
  obtain ⟨G', t7, t8, ih⟩ := fN ho hd hl hk ti hm us G1 (some u) s8
  exact ⟨G', t7, t8, (cy trivial rfl e).trans ih⟩
theorem gS (m0 : 1 ≤ many) (m1 : many ≤ 30) (hk : lk.length ≤ 900) (ti : lJ many wr lk) : ∀ (us : List U) (T : Sto) (r4 r5 r6 r7 r8 : Option U), (∃ z, T[lw]? = some (.lst [.int z])) →
  ∃ (T' : Sto) (q4 q5 q6 q7 q8 : Option U), b5 (fun _ => True) (gNm 4) (fL jC) us [some (.kl ns), r1, some (.ref lw), some (aI many tm wr lk), r4, r5, r6, r7, r8] T = some (.nx, [some (.kl ns), r1, some (.ref lw), some (aI many tm wr lk), q4, q5, q6, q7, q8], T')
 | [], T, r4, r5, r6, r7, r8, _ => ⟨T, r4, r5, r6, r7, r8, bP trivial⟩
 | u :: us, T, r4, r5, r6, r7, r8, h => by
  obtain ⟨os, T1, l, e1, g1, lt, w1, lo, _, mo⟩ := j7 (many := many) h (by omega) (by omega)
  have ll : l < T1.length := (List.getElem?_eq_some_iff.mp g1).1
  obtain ⟨G, t7, t8, e2⟩ := fN (ns := ns) (r1 := r1) (lw := lw) (tm := tm) (r4 := some u) (jo := l) (jd := T1.length) (Z := T1 ++ [.lst (os.map U.int)]) (ao g1) (by rw [ga0]; rfl) (by omega) hk ti (fun a a0 a1 => (mo a).mpr ⟨a0, a1⟩) (aP 0 2) [] r7 r8
  rw [List.append_nil] at e2
  obtain ⟨z, hz⟩ := w1.well
  obtain ⟨T', q4, q5, q6, q7, q8, ih⟩ := gS m0 m1 hk ti us (T1 ++ [.lst (os.map U.int)] ++ G) (some u) (some (.ref l)) (some (.ref T1.length)) t7 t8 ⟨z, ao (ao hz)⟩
  refine ⟨T', q4, q5, q6, q7, q8, (cy trivial rfl ?_).trans ih⟩
  have r2 : bC (aa (cC (.int 2)) aA) = fun ρ S => some (aP 0 2, fun _ => True, S) := rfl
  unfold fL jC
  rw [d5 (ρ' := [some (.kl ns), r1, some (.ref lw), some (aI many tm wr lk), some u, some (.ref l), r6, r7, r8]) (S' := T1) (by rwa [aI, e1])]
  rw [d5 (ρ' := rh ns r1 lw (aI many tm wr lk) (some u) l T1.length r7 r8) (S' := T1 ++ [.lst (os.map U.int)]) (by rwa [rh, g1])]
  simp only [fq, r2, Option.bind_some]
  exact e2
theorem qD : ∀ (is : List Nat) (T : Sto) (r1 r2 r3 r4 r5 r6 r7 r8 : Option U),
  ∃ (T' : Sto) (q1 q2 q3 q4 q5 q6 q7 q8 : Option U), b5 (fun _ => True) (gNm 1) (fL jB) (is.map fun i : Nat => U.int (i : Int)) [some (.kl ns), r1, r2, r3, r4, r5, r6, r7, r8] T = some (.nx, [some (.kl ns), q1, q2, q3, q4, q5, q6, q7, q8], T')
 | [], T, r1, r2, r3, r4, r5, r6, r7, r8 => ⟨T, r1, r2, r3, r4, r5, r6, r7, r8, bP trivial⟩
 | i :: is, T, r1, r2, r3, r4, r5, r6, r7, r8 => by
  obtain ⟨z, e1⟩ := rX (S := T) ns (k := (i : Int)) (by omega)
  obtain ⟨d, T2, e2, w2, l2, d0, d1⟩ := bO (T := T ++ [.lst [.int z], .lst [.int 9, .int 9, .int 30]]) (lw := T.length) (m := 3) ⟨z, by rw [ga0]; rfl⟩ (by omega) (by omega)
  have g2 : T2[T.length + 1]? = some (.lst [.int 9, .int 9, .int 30]) := w2.get (by rw [ga]; rfl) (by omega)
  obtain ⟨v, a2, v0, v1⟩ : ∃ v : Int, atI [U.int 9, .int 9, .int 30] d = some (.int v) ∧ 1 ≤ v ∧ v ≤ 30 := by
   have : d = 0 ∨ d = 1 ∨ d = 2 := by omega
   rcases this with rfl | rfl | rfl
   ·exact ⟨9, rfl, by decide, by decide⟩
   ·exact ⟨9, rfl, by decide, by decide⟩
   ·exact ⟨30, rfl, by decide, by decide⟩
  obtain ⟨many, tm, wr, lk, T3, e3, w3, m, ti, hk⟩ := sh w2.well v0 v1
  obtain ⟨T4, s4, s5, s6, s7, s8, e4⟩ := gS (ns := ns) (r1 := some (.int (i : Int))) (tm := tm) m.1 m.2 hk ti (aP 0 4) T3 r4 r5 r6 r7 r8 w3.well
  obtain ⟨T', q1, q2, q3, q4, q5, q6, q7, q8, ih⟩ := qD is T4 (some (.int (i : Int))) (some (.ref T.length)) (some (aI many tm wr lk)) s4 s5 s6 s7 s8
  refine ⟨T', q1, q2, q3, q4, q5, q6, q7, q8, (cy trivial rfl ?_).trans ih⟩
  have r4' : bC (aa (cC (.int 4)) aA) = fun ρ S => some (aP 0 4, fun _ => True, S) := rfl
  have ln : (T ++ [O.lst [.int z]]).length = T.length + 1 := by rw [List.length_append]; rfl
  unfold fL jB
  rw [d5 (ρ' := [some (.kl ns), some (.int (i : Int)), some (.ref T.length), r3, r4, r5, r6, r7, r8]) (S' := T ++ [.lst [.int z]]) (by rwa [e1])]
  rw [d5 (ρ' := [some (.kl ns), some (.int (i : Int)), some (.ref T.length), some (aI many tm wr lk), r4, r5, r6, r7, r8]) (S' := T3) (by rwa [ln, e2, g2, a2, e3])]
  simp only [fq, r4', Option.bind_some]
  exact e4
theorem wo (ns : List Int) (hl : ns.length ≤ 63) : ∃ ρ' S', (fL tV) [some (.kl ns), none, none, none, none, none, none, none, none] [] = some (.rt (.bl true), ρ', S') := by
 obtain ⟨n, hn⟩ : ∃ n : Int, n = (if (if (ns.length : Int) < 10 then (ns.length : Int) else 10) > 3 then (if (ns.length : Int) < 10 then (ns.length : Int) else 10) else 3) := ⟨_, rfl⟩
 have n0 : 0 ≤ n := by rw [hn]; split <;> (try split) <;> omega
 have n1 : n ≤ 1000 := by rw [hn]; split <;> (try split) <;> omega
 obtain ⟨T, q1, q2, q3, q4, q5, q6, q7, q8, e1⟩ := qD (ns := ns) (List.range n.toNat) [] none none none none none none none none
 have er : aP 0 n.toNat = (List.range n.toNat).map fun i : Nat => U.int (i : Int) := by rw [eG, List.map_map]; rfl
 have a1 : aa (cCB xx (aa (cC (.int 3)) (aa (cCB xw (aa (cC (.int 10)) (aa (cCB lC (aa (ag 0) aA)) aA))) aA))) aA [some (.kl ns), none, none, none, none, none, none, none, none] [] = some ([.int n], []) := by
  have h1 : ∀ i j : Int, xw [.int i, .int j] [] = some (.int (if j < i then j else i), []) := fun i j => rfl
  have h2 : ∀ i j : Int, xx [.int i, .int j] [] = some (.int (if j > i then j else i), []) := fun i j => rfl
  rw [hn]
  rwa [lP, h1, h2]
 rw [← er] at e1
 obtain ⟨G1, e2⟩ := fR (S := T ++ [.lst ([0].map U.int)]) (jo := T.length) (os := [0]) (many := 1) (tm := .tup []) (wr := [[0]]) (lk := []) (by rw [ga0]; rfl) (by decide) (by decide) ⟨fun r hr => by cases hr⟩ (fun a a0 a1 => List.mem_singleton.mpr (by omega))
 obtain ⟨T2, hT2⟩ : ∃ T2, T2 = T ++ [.lst ([0].map U.int)] ++ (.lst ((cZ [[0]] [] [0]).map U.int) :: G1) := ⟨_, rfl⟩
 have c1 := ej false (S := T2 ++ [.lst []]) (l := (T ++ [O.lst ([0].map U.int)]).length) (l' := T2.length) (ns := []) (ms := []) (by rw [hT2, List.append_assoc, ga0]; rfl) (by rw [ga0]; rfl)
 obtain ⟨G2, e3⟩ := fR (S := T2 ++ [.lst [], .lst ([0].map U.int)]) (jo := T2.length + 1) (os := [0]) (many := 1) (tm := .tup []) (wr := [[0]]) (lk := [[0, 0, -1]]) (by rw [ga]; rfl) (by decide) (by decide) ⟨fun r hr => ⟨0, 0, -1, List.mem_singleton.mp hr, by decide, by decide, by decide⟩⟩ (fun a a0 a1 => List.mem_singleton.mpr (by omega))
 obtain ⟨T3, hT3⟩ : ∃ T3, T3 = T2 ++ [.lst [], .lst ([0].map U.int)] ++ (.lst ((cZ [[0]] [[0, 0, -1]] [0]).map U.int) :: G2) := ⟨_, rfl⟩
 have c2 := ej false (S := T3 ++ [.lst ([-1].map U.int)]) (l := (T2 ++ [O.lst [], .lst ([0].map U.int)]).length) (l' := T3.length) (ns := [-1]) (ms := [-1]) (by rw [hT3, List.append_assoc, ga0]; rfl) (by rw [ga0]; rfl)
 rw [if_neg Bool.false_ne_true, decide_eq_true rfl] at c1 c2
 rw [← hT2] at e2
 rw [← hT3] at e3
 refine ⟨[some (.kl ns), q1, q2, q3, q4, q5, q6, q7, q8], T3 ++ [O.lst ([-1].map U.int)], ?_⟩
 unfold fL tV
 rw [d5 ((xv a1 n0 n1).trans e1)]
 have l1 : (T ++ [O.lst [.int 0]]).length = T.length + 1 := by rw [List.length_append]; rfl
 have l2 : (T2 ++ [O.lst []]).length = T2.length + 1 := by rw [List.length_append]; rfl
 have tu1 : ∀ lk : List (List Int), aI 1 (.tup []) [[0]] lk = .tup [.int 1, .tup [], .tup [.tup [.int 0]], .tup (lk.map rwU)] := fun _ => rfl
 have m1 : ([0] : List Int).map U.int = [.int 0] := rfl
 have m2 : ([-1] : List Int).map U.int = [.int (-1)] := rfl
 have m3 : [[(0 : Int), 0, -1]].map rwU = [.tup [.int 0, .int 0, .int (-1)]] := rfl
 have m4 : ([] : List (List Int)).map rwU = [] := rfl
 rw [tu1, m4, m1] at e2
 rw [tu1, m3, m1] at e3
 rw [m1] at c1 c2
 rw [m2] at c2 ⊢
 rwa [iX, eC, e2, c1, e3, c2, l2]
end
theorem w9 {l : PySem.W.OpenLaw} {w : World} {K : PySem.W.Frag} {h : Heap} {mg : Str → Option Value} {fa : Addr} (X : K.In h) (G : h.Ns mainGlobals mg) (hfa : mg "law" = some (.ref fa))
  {f1 : Addr} {od1 an1 : Option Addr} {sl1 : Array (Option Value)} {oc1 kV1 dc1 pm1 cd1 ct1 : Value}
  {f2 : Addr} {od2 an2 : Option Addr} {sl2 : Array (Option Value)} {oc2 kV2 dc2 pm2 cd2 ct2 : Value}
  {f3 : Addr} {od3 an3 : Option Addr} {sl3 : Array (Option Value)} {oc3 kV3 dc3 pm3 cd3 ct3 : Value}
  {f4 : Addr} {od4 an4 : Option Addr} {sl4 : Array (Option Value)} {oc4 kV4 dc4 pm4 cd4 ct4 : Value}
  {f5 : Addr} {od5 an5 : Option Addr} {sl5 : Array (Option Value)} {oc5 kV5 dc5 pm5 cd5 ct5 : Value}
  {f6 : Addr} {od6 an6 : Option Addr} {sl6 : Array (Option Value)} {oc6 kV6 dc6 pm6 cd6 ct6 : Value}
  {f7 : Addr} {od7 an7 : Option Addr} {sl7 : Array (Option Value)} {oc7 kV7 dc7 pm7 cd7 ct7 : Value}
  {f8 : Addr} {od8 an8 : Option Addr} {sl8 : Array (Option Value)} {oc8 kV8 dc8 pm8 cd8 ct8 : Value}
  {f9 : Addr} {od9 an9 : Option Addr} {sl9 : Array (Option Value)} {oc9 kV9 dc9 pm9 cd9 ct9 : Value}
  {tk10 : Tok}
  (a1 : PySem.W.nsIn K mainGlobals "last_ahead" = some (some (.ref f1))) (l1 : K.lookup f1 = some ⟨oc1, od1, .func (PySem.W.fnOf "last_ahead" "last_ahead" (bD aY) (aU aY) (aw aY) .none kV1 dc1 pm1 an1 cd1 ct1), sl1⟩) (c1 : PySem.W.codeIn K cd1 "last_ahead" = true) (k1 : PySem.W.keepIn K (.ref f1) = true)
  (a2 : PySem.W.nsIn K mainGlobals "would_tell" = some (some (.ref f2))) (l2 : K.lookup f2 = some ⟨oc2, od2, .func (PySem.W.fnOf "would_tell" "would_tell" (bD aX) (aU aX) (aw aX) .none kV2 dc2 pm2 an2 cd2 ct2), sl2⟩) (c2 : PySem.W.codeIn K cd2 "would_tell" = true) (k2 : PySem.W.keepIn K (.ref f2) = true)
  (a3 : PySem.W.nsIn K mainGlobals "_law_well" = some (some (.ref f3))) (l3 : K.lookup f3 = some ⟨oc3, od3, .func (PySem.W.fnOf "_law_well" "_law_well" (bD br) (aU br) (aw br) .none kV3 dc3 pm3 an3 cd3 ct3), sl3⟩) (c3 : PySem.W.codeIn K cd3 "_law_well" = true) (k3 : PySem.W.keepIn K (.ref f3) = true)
  (a4 : PySem.W.nsIn K mainGlobals "_law_sip" = some (some (.ref f4))) (l4 : K.lookup f4 = some ⟨oc4, od4, .func (PySem.W.fnOf "_law_sip" "_law_sip" (bD bF) (aU bF) (aw bF) .none kV4 dc4 pm4 an4 cd4 ct4), sl4⟩) (c4 : PySem.W.codeIn K cd4 "_law_sip" = true) (k4 : PySem.W.keepIn K (.ref f4) = true)
  (a5 : PySem.W.nsIn K mainGlobals "_law_whole" = some (some (.ref f5))) (l5 : K.lookup f5 = some ⟨oc5, od5, .func (PySem.W.fnOf "_law_whole" "_law_whole" (bD aZ) (aU aZ) (aw aZ) .none kV5 dc5 pm5 an5 cd5 ct5), sl5⟩) (c5 : PySem.W.codeIn K cd5 "_law_whole" = true) (k5 : PySem.W.keepIn K (.ref f5) = true)
  (a6 : PySem.W.nsIn K mainGlobals "_law_mixed" = some (some (.ref f6))) (l6 : K.lookup f6 = some ⟨oc6, od6, .func (PySem.W.fnOf "_law_mixed" "_law_mixed" (bD ba) (aU ba) (aw ba) .none kV6 dc6 pm6 an6 cd6 ct6), sl6⟩) (c6 : PySem.W.codeIn K cd6 "_law_mixed" = true) (k6 : PySem.W.keepIn K (.ref f6) = true)
  (a7 : PySem.W.nsIn K mainGlobals "_law_tale" = some (some (.ref f7))) (l7 : K.lookup f7 = some ⟨oc7, od7, .func (PySem.W.fnOf "_law_tale" "_law_tale" (bD bu) (aU bu) (aw bu) .none kV7 dc7 pm7 an7 cd7 ct7), sl7⟩) (c7 : PySem.W.codeIn K cd7 "_law_tale" = true) (k7 : PySem.W.keepIn K (.ref f7) = true)
  (a8 : PySem.W.nsIn K mainGlobals "_law_told" = some (some (.ref f8))) (l8 : K.lookup f8 = some ⟨oc8, od8, .func (PySem.W.fnOf "_law_told" "_law_told" (bD bt) (aU bt) (aw bt) .none kV8 dc8 pm8 an8 cd8 ct8), sl8⟩) (c8 : PySem.W.codeIn K cd8 "_law_told" = true) (k8 : PySem.W.keepIn K (.ref f8) = true)
  (a9 : PySem.W.nsIn K mainGlobals "law" = some (some (.ref f9))) (l9 : K.lookup f9 = some ⟨oc9, od9, .func (PySem.W.fnOf "law" "law" (bD fi) (aU fi) (aw fi) .none kV9 dc9 pm9 an9 cd9 ct9), sl9⟩) (c9 : PySem.W.codeIn K cd9 "law" = true) (k9 : PySem.W.keepIn K (.ref f9) = true)
  (g10 : PySem.W.nsIn K mainGlobals "AT_FIRST" = some (some (.int (-1) tk10)))
  (z11 : PySem.W.nsIn K mainGlobals "len" = some none)
  (z12 : PySem.W.nsIn K mainGlobals "isinstance" = some none)
  (z13 : PySem.W.nsIn K mainGlobals "int" = some none)
  (z14 : PySem.W.nsIn K mainGlobals "bool" = some none)
  (z15 : PySem.W.nsIn K mainGlobals "str" = some none)
  (z16 : PySem.W.nsIn K mainGlobals "tuple" = some none)
  (z17 : PySem.W.nsIn K mainGlobals "list" = some none)
  (z18 : PySem.W.nsIn K mainGlobals "range" = some none)
  (z19 : PySem.W.nsIn K mainGlobals "min" = some none)
  (z20 : PySem.W.nsIn K mainGlobals "sum" = some none)
  (z21 : PySem.W.nsIn K mainGlobals "all" = some none)
  (z22 : PySem.W.nsIn K mainGlobals "zip" = some none)
  (z23 : PySem.W.nsIn K mainGlobals "sorted" = some none)
  (z24 : PySem.W.nsIn K mainGlobals "dict" = some none)
  (z25 : PySem.W.nsIn K mainGlobals "enumerate" = some none)
  (z26 : PySem.W.nsIn K mainGlobals "any" = some none)
  (z27 : PySem.W.nsIn K mainGlobals "max" = some none)
  (z28 : PySem.W.nsIn K mainGlobals "set" = some none) :
  ∃ fd : FuncData, (∀ (s : Shared) (v : Value), BindsTo s fd ⟨[v], []⟩ [("script", v)]) ∧ ∀ base : Heap, K.In base → base.Ns mainGlobals mg → kC l.prog w K mg base CX0 4 fa fd ["script"] (jS K) := by
 have e := hfa.symm.trans (PySem.W.mg_of X G a9)
 cases e
 have F_last_ahead := dE (st := aY) l1 c1 k1
 have D_last_ahead : Def K mg "last_ahead" aY ["row", "order", "a"] := ⟨_, _, F_last_ahead, F_last_ahead.binds (ps := ["row", "order", "a"]) fun _ _ _ _ _ _ => iK fun _ => iK fun _ => iK fun _ => qf rfl, PySem.W.mg_of X G a1⟩
 have F_would_tell := dE (st := aX) l2 c2 k2
 have D_would_tell : Def K mg "would_tell" aX ["tale", "order"] := ⟨_, _, F_would_tell, F_would_tell.binds (ps := ["tale", "order"]) fun _ _ _ _ _ _ => iK fun _ => iK fun _ => qf rfl, PySem.W.mg_of X G a2⟩
 have F__law_well := dE (st := br) l3 c3 k3
 have D__law_well : Def K mg "_law_well" br ["script", "k"] := ⟨_, _, F__law_well, F__law_well.binds (ps := ["script", "k"]) fun _ _ _ _ _ _ => iK fun _ => iK fun _ => qf rfl, PySem.W.mg_of X G a3⟩
 have F__law_sip := dE (st := bF) l4 c4 k4
 have D__law_sip : Def K mg "_law_sip" bF ["well", "many"] := ⟨_, _, F__law_sip, F__law_sip.binds (ps := ["well", "many"]) fun _ _ _ _ _ _ => iK fun _ => iK fun _ => qf rfl, PySem.W.mg_of X G a4⟩
 have F__law_whole := dE (st := aZ) l5 c5 k5
 have D__law_whole : Def K mg "_law_whole" aZ ["thing"] := ⟨_, _, F__law_whole, F__law_whole.binds (ps := ["thing"]) fun _ _ _ _ _ _ => iK fun _ => qf rfl, PySem.W.mg_of X G a5⟩
 have F__law_mixed := dE (st := ba) l6 c6 k6
 have D__law_mixed : Def K mg "_law_mixed" ba ["well", "many"] := ⟨_, _, F__law_mixed, F__law_mixed.binds (ps := ["well", "many"]) fun _ _ _ _ _ _ => iK fun _ => iK fun _ => qf rfl, PySem.W.mg_of X G a6⟩
 have F__law_tale := dE (st := bu) l7 c7 k7
 have D__law_tale : Def K mg "_law_tale" bu ["well", "most"] := ⟨_, _, F__law_tale, F__law_tale.binds (ps := ["well", "most"]) fun _ _ _ _ _ _ => iK fun _ => iK fun _ => qf rfl, PySem.W.mg_of X G a7⟩
 have F__law_told := dE (st := bt) l8 c8 k8
 have D__law_told : Def K mg "_law_told" bt ["tale", "order"] := ⟨_, _, F__law_told, F__law_told.binds (ps := ["tale", "order"]) fun _ _ _ _ _ _ => iK fun _ => iK fun _ => qf rfl, PySem.W.mg_of X G a8⟩
 have F_law := dE (st := fi) l9 c9 k9
 have D_law : Def K mg "law" fi ["script"] := ⟨_, _, F_law, F_law.binds (ps := ["script"]) fun _ _ _ _ _ _ => iK fun _ => qf rfl, PySem.W.mg_of X G a9⟩
 have C_AT_FIRST : ∃ t, mg "AT_FIRST" = some (.int (-1) t) := ⟨_, PySem.W.mg_of X G g10⟩
 have B : Blt mg := ⟨PySem.W.mg_none_of X G z11, PySem.W.mg_none_of X G z12, PySem.W.mg_none_of X G z13, PySem.W.mg_none_of X G z14, PySem.W.mg_none_of X G z15, PySem.W.mg_none_of X G z16, PySem.W.mg_none_of X G z17, PySem.W.mg_none_of X G z18, PySem.W.mg_none_of X G z19, PySem.W.mg_none_of X G z20, PySem.W.mg_none_of X G z21, PySem.W.mg_none_of X G z22, PySem.W.mg_none_of X G z23, PySem.W.mg_none_of X G z24, PySem.W.mg_none_of X G z25, PySem.W.mg_none_of X G z26, PySem.W.mg_none_of X G z27, PySem.W.mg_none_of X G z28⟩
 refine ⟨PySem.W.fnOf "law" "law" (bD fi) (aU fi) (aw fi) .none kV9 dc9 pm9 an9 cd9 ct9, fun s v => .of_eq rfl, fun base _ _ => ?_⟩
 have cS := hU (P := l.prog) (w := w) (base := base) (k := 0) D_last_ahead B C_AT_FIRST
 have bN := hR (P := l.prog) (w := w) (base := base) (k := 1) D_would_tell B cS
 have dj := ji (P := l.prog) (w := w) (base := base) (k := 0) D__law_well B 
 have ay := lu (P := l.prog) (w := w) (base := base) (k := 0) D__law_sip B 
 have cT := h8 (P := l.prog) (w := w) (base := base) (k := 0) D__law_whole B 
 have bB := ia (P := l.prog) (w := w) (base := base) (k := 1) (fuel := 100) D__law_mixed B ay
 have dm := jm (P := l.prog) (w := w) (base := base) (k := 2) D__law_tale B (Has.mono ay (by decide)) bB
 have dk := jj (P := l.prog) (w := w) (base := base) (k := 0) D__law_told B 
 exact zm (P := l.prog) (w := w) (base := base) (k := 3) F_law B (Has.mono dj (by decide)) dm (Has.mono ay (by decide)) (Has.mono bB (by decide)) (Has.mono bN (by decide)) (Has.mono cT (by decide)) (Has.mono dk (by decide)) fun ns hl => wo ns hl
theorem Ap {l : PySem.W.OpenLaw} {q : Program} {loose : List Str} {XP : (Str → Option Value) → Heap → Prop} {YP : World → Heap → Prop} {d : DefRec} {K : Params → PySem.W.Frag} (hn : l.most = some 63) (hdf : d.params.defaults = [])
  (hY : ∀ (w : World) (h : Heap), YP w h → (K w.params).In h)
  (F : ∀ (w : World) (mg : Str → Option Value) (fa : Addr) (h : Heap), (K w.params).In h → h.Ns mainGlobals mg → mg d.name = some (.ref fa) →
   ∃ fd : FuncData, (∀ (s : Shared) (u : Value), BindsTo s fd ⟨[u], []⟩ [("script", u)]) ∧ ∀ base : Heap, (K w.params).In base → base.Ns mainGlobals mg → kC l.prog w (K w.params) mg base CX0 4 fa fd ["script"] (jS (K w.params))) :
  PySem.W.WalkO q loose XP YP l.row.toRowW d [] (fun f vs => PySem.call f vs) :=
 L2.rY (n := 63) (k := 4) (x := "script") (CX := fun _ => CX0) (sp := fun w => jS (K w.params)) hn (by decide) hdf ⟨rfl, by decide, by decide⟩ hY F (fun _ _ a ns hl hO hS => ⟨a, ns, rfl, y4 hO hS, hl, fun _ => rfl⟩) fun _ _ _ _ _ z => z
end OL
open PySem PySem.W PyProof.Rows
set_option maxRecDepth 100000 in
set_option maxHeartbeats 0 in
theorem PySem.Challenge.cw_oneglance_k26_what_orders_would_tell_holds : PySem.Challenge.rw_oneglance_k26_what_orders_would_tell.Holds := by
 w_on; o_law; k_head; (case hw => w_witness2)
 k_fill
 refine OL.Ap (l := PySem.Challenge.rw_oneglance_k26_what_orders_would_tell) rfl rfl (fun w h Y => PySem.W.kIn_of Y) ?F
 case F =>
  intro w mg fa h KX G hmg
  refine' OL.w9 KX G hmg ?a1 ?l1 ?c1 ?k1 ?a2 ?l2 ?c2 ?k2 ?a3 ?l3 ?c3 ?k3 ?a4 ?l4 ?c4 ?k4 ?a5 ?l5 ?c5 ?k5 ?a6 ?l6 ?c6 ?k6 ?a7 ?l7 ?c7 ?k7 ?a8 ?l8 ?c8 ?k8 ?a9 ?l9 ?c9 ?k9 ?g10 ?z11 ?z12 ?z13 ?z14 ?z15 ?z16 ?z17 ?z18 ?z19 ?z20 ?z21 ?z22 ?z23 ?z24 ?z25 ?z26 ?z27 ?z28
  (case a1 => k_is)
  (case l1 => k_is)
  (case c1 => k_is)
  (case k1 => k_is)
  (case a2 => k_is)
  (case l2 => k_is)
  (case c2 => k_is)
  (case k2 => k_is)
  (case a3 => k_is)
  (case l3 => k_is)
  (case c3 => k_is)
  (case k3 => k_is)
  (case a4 => k_is)
  (case l4 => k_is)
  (case c4 => k_is)
  (case k4 => k_is)
  (case a5 => k_is)
  (case l5 => k_is)
  (case c5 => k_is)
  (case k5 => k_is)
  (case a6 => k_is)
  (case l6 => k_is)
  (case c6 => k_is)
  (case k6 => k_is)
  (case a7 => k_is)
  (case l7 => k_is)
  (case c7 => k_is)
  (case k7 => k_is)
  (case a8 => k_is)
  (case l8 => k_is)
  (case c8 => k_is)
  (case k8 => k_is)
  (case a9 => k_is)
  (case l9 => k_is)
  (case c9 => k_is)
  (case k9 => k_is)
  (case g10 => k_is)
  (case z11 => k_is)
  (case z12 => k_is)
  (case z13 => k_is)
  (case z14 => k_is)
  (case z15 => k_is)
  (case z16 => k_is)
  (case z17 => k_is)
  (case z18 => k_is)
  (case z19 => k_is)
  (case z20 => k_is)
  (case z21 => k_is)
  (case z22 => k_is)
  (case z23 => k_is)
  (case z24 => k_is)
  (case z25 => k_is)
  (case z26 => k_is)
  (case z27 => k_is)
  (case z28 => k_is)
