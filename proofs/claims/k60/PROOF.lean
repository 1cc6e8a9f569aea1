import PyProof.Rows.All
import Wide.All
import OpenK.AllK
import Wide.FinOn
import Lean
import PyProof.EqAt
import PyProof.EqKinds
import PyProof.TupleCall
import PySem.Challenge.RW_oneglance_k60_dealings_written
set_option maxHeartbeats 4000000
set_option Elab.async false
set_option linter.all false
set_option maxRecDepth 100000
namespace L2
open PySem PySem.Spec PyProof.Rows
noncomputable abbrev Key := Sum Int Str
noncomputable def qf : Key → Value → Bool
 | .inl k, v => Value.isInt k v
 | .inr x, v => Value.isStrOf x v
noncomputable def E1 (w : World) : Key → Int
 | .inl k => hashInt k
 | .inr x => hashStr w x
theorem bQ : ∀ {k : Key} {v : Value}, qf k v = true → (∃ i t, k = Sum.inl i ∧ v = Value.int i t) ∨ (∃ x t, k = Sum.inr x ∧ v = Value.str x t)
 | .inl i, v, h => by
  obtain ⟨t, e⟩ := Value.isInt_shape (k := i) (v := v) h
  exact .inl ⟨i, t, rfl, e⟩
 | .inr x, v, h => by
  obtain ⟨t, e⟩ := Value.isStrOf_shape (x := x) (v := v) h
  exact .inr ⟨x, t, rfl, e⟩
theorem rV (i : Int) (t : Tok) : qf (.inl i) (.int i t) = true := by simp [qf, Value.isInt]
theorem rS (x : Str) (t : Tok) : qf (.inr x) (.str x t) = true := by simp [qf, Value.isStrOf]
theorem A4 (a b : Int) : decide ((Sum.inl a : Key) = Sum.inl b) = (a == b) := by
 by_cases e : a = b
 ·subst e; simp
 ·have h : ¬ (Sum.inl a : Key) = Sum.inl b := fun q => e (Sum.inl.inj q)
  rw [decide_eq_false h]
  exact (beq_eq_false_iff_ne.mpr e).symm
theorem A1 (a b : Str) : decide ((Sum.inr a : Key) = Sum.inr b) = decide (a = b) := by
 by_cases e : a = b
 ·subst e; simp
 ·have h : ¬ (Sum.inr a : Key) = Sum.inr b := fun q => e (Sum.inr.inj q)
  rw [decide_eq_false h, decide_eq_false e]
theorem A3 (a : Int) (b : Str) : decide ((Sum.inl a : Key) = Sum.inr b) = false := decide_eq_false (fun q => nomatch q)
theorem A2 (a : Str) (b : Int) : decide ((Sum.inr a : Key) = Sum.inl b) = false := decide_eq_false (fun q => nomatch q)
noncomputable def dy (prog : Program) (w : World) : PySem.KeyKind prog w Key where
 is := qf
 hash := E1 w
 inj := fun v a b ha hb => by
  rcases bQ ha with ⟨i, t, rfl, rfl⟩ | ⟨x, t, rfl, rfl⟩
  ·rcases bQ hb with ⟨j, u, rfl, e⟩ | ⟨y, u, rfl, e⟩
   ·injection e with e1 _; rw [e1]
   ·exact nomatch e
  ·rcases bQ hb with ⟨j, u, rfl, e⟩ | ⟨y, u, rfl, e⟩
   ·exact nomatch e
   ·injection e with e1 _; rw [e1]
 byValue := fun k v h => by
  rcases bQ h with ⟨i, t, rfl, rfl⟩ | ⟨x, t, rfl, rfl⟩ <;> rfl
 pyHash := fun hv h => by
  rcases bQ hv with ⟨i, t, rfl, rfl⟩ | ⟨x, t, rfl, rfl⟩
  ·exact wpAny_pyHash_int h
  ·exact wpAny_pyHash_str h
 eqBool := fun hu hv h => by
  rcases bQ hu with ⟨i, t, rfl, rfl⟩ | ⟨x, t, rfl, rfl⟩
  ·rcases bQ hv with ⟨j, u, rfl, rfl⟩ | ⟨y, u, rfl, rfl⟩
   ·rw [A4] at h; exact wpAny_eqBool_int h
   ·rw [A3] at h; exact SeqAt.EqAt.int_str i t y u _ _ _ _ h
  ·rcases bQ hv with ⟨j, u, rfl, rfl⟩ | ⟨y, u, rfl, rfl⟩
   ·rw [A2] at h; exact SeqAt.EqAt.str_int x t j u _ _ _ _ h
   ·rw [A1] at h; exact wpAny_eqBool_str h
 «strs» := fun k x t v h => by
  rcases bQ h with ⟨i, u, rfl, e⟩ | ⟨y, u, rfl, e⟩
  ·exact nomatch e
  ·injection e with e1 _
   subst e1
   cases v <;> rfl
theorem oj (prog : Program) (w : World) (i : Int) (t : Tok) : (dy prog w).is (.inl i) (.int i t) = true := rV i t
theorem oh (prog : Program) (w : World) (x : Str) (t : Tok) : (dy prog w).is (.inr x) (.str x t) = true := rS x t
inductive V where
 | non | bl (b : Bool) | int (i : Int) | str (x : Str) | byt (b : Array UInt8) | flt (b : UInt64) | ref (a : Addr) | ty (n : String)
 deriving DecidableEq
noncomputable def de : V → Value → Prop
 | .non, u => u = Value.none
 | .bl b, u => u = Value.bool b
 | .int i, u => ∃ t, u = Value.int i t
 | .str x, u => ∃ t, u = Value.str x t
 | .byt b, u => ∃ t, u = Value.bytes b t
 | .flt b, u => ∃ t, u = Value.float b t
 | .ref a, u => u = Value.ref a
 | .ty n, u => u = Value.type n
noncomputable abbrev b0 : List V → List Value → Prop := Paired de
theorem b0.length {xs : List V} {us : List Value} (r : b0 xs us) : xs.length = us.length := Paired.length r
theorem b0.get : ∀ {xs : List V} {us : List Value} {i : Nat} {x : V}, b0 xs us → xs[i]? = some x → ∃ u, us[i]? = some u ∧ de x u
 | _, _, _, _, .nil, e => by simp at e
 | _, _, 0, _, .cons r _, e => by simp at e; subst e; exact ⟨_, rfl, r⟩
 | _, _, i + 1, x, .cons _ t, e => by
  obtain ⟨u, h1, h2⟩ := b0.get (i := i) (x := x) t (by simpa using e)
  exact ⟨u, by simpa using h1, h2⟩
theorem b0.set {x : V} {u : Value} (r : de x u) : ∀ {xs : List V} {us : List Value} (i : Nat), b0 xs us → b0 (xs.set i x) (us.set i u)
 | _, _, _, .nil => .nil
 | _, _, 0, .cons _ t => .cons r t
 | _, _, i + 1, .cons q t => .cons q (b0.set r i t)
theorem b0.append : ∀ {xs ys : List V} {us ws : List Value}, b0 xs us → b0 ys ws → b0 (xs ++ ys) (us ++ ws)
 | _, _, _, _, .nil, s => s
 | _, _, _, _, .cons r t, s => .cons r (b0.append t s)
theorem b0.take : ∀ {xs : List V} {us : List Value} (n : Nat), b0 xs us → b0 (xs.take n) (us.take n)
 | _, _, 0, _ => .nil
 | _, _, _ + 1, .nil => .nil
 | _, _, n + 1, .cons r t => .cons r (b0.take n t)
theorem b0.drop : ∀ {xs : List V} {us : List Value} (n : Nat), b0 xs us → b0 (xs.drop n) (us.drop n)
 | _, _, 0, r => r
 | _, _, _ + 1, .nil => .nil
 | _, _, n + 1, .cons _ t => b0.drop n t
noncomputable def nK : Option V → Option Value → Prop
 | some v, some u => de v u
 | none, none => True
 | _, _ => False
noncomputable def KV {κ : Type} : List (κ × V) → List (κ × Value) → Prop := Paired fun (p : κ × V) (q : κ × Value) => p.1 = q.1 ∧ de p.2 q.2
noncomputable def kV : Key → V
 | .inl i => .int i
 | .inr x => .str x
inductive HO where
 | lst (xs : List V)
 | tup (xs : List V)
 | dK (kvs : List (Key × V)) | dT (kvs : List (List Key × V))
 | set (S : Int → Bool) (n : Nat)
 | ins (C dx : Addr) (fs : List (Str × V))
 | own (x : Addr)
 | xd (fs : List (Str × V))
 | met (f x : Addr)
 | rng (lo hi : Int)
 | frz (o : Obj) (u : HO)
 | tbl (ps : Array Value)
 | ext (φ : Heap → Prop)
noncomputable abbrev Hp := Addr → Option HO
noncomputable def upd (H : Hp) (a : Addr) (o : HO) : Hp := fun b => if b = a then some o else H b
theorem bj {H : Hp} {a : Addr} {o : HO} : upd H a o a = some o := by unfold upd; rw [if_pos rfl]
theorem bL {H : Hp} {a b : Addr} {o : HO} (h : b ≠ a) : upd H a o b = H b := by unfold upd; rw [if_neg h]
theorem Dp {H : Hp} {a b : Addr} {o u : HO} (h : H a = some o) (h' : H b = some u) (d : o ≠ u) : a ≠ b := by
 intro e; subst e; rw [h] at h'; exact d (Option.some.inj h')
theorem cf {H : Hp} {a b : Addr} {o : HO} (h : H a = some o) (h' : H b = none) : a ≠ b := by
 intro e; subst e; rw [h] at h'; cases h'
section
variable (P : Program) (w : World)
noncomputable def dD (H : Hp) (h : Heap) (a : Addr) : HO → Prop
 | .lst xs => xs.length ≤ sizeLine ∧ ∃ (its : List Value) (n : Nat), b0 xs its ∧ h.get? a = some { cls := .type "list", data := .seq its.toArray n }
 | .tup xs => xs.length ≤ sizeLine ∧ ∃ its : List Value, b0 xs its ∧ IsTup h a its.toArray
 | .dK kvs => kvs.length ≤ sizeLine ∧ (a == sysModules) = false ∧ ∃ vs, KV kvs vs ∧ h.DictOf (dy P w) a vs
 | .dT kvs => kvs.length ≤ sizeLine ∧ (a == sysModules) = false ∧ ∃ xs : List (List Key × Addr × Value),
   Paired (fun (p : List Key × V) (q : List Key × Addr × Value) => p.1 = q.1 ∧ H q.2.1 = some (.tup (p.1.map kV)) ∧ de p.2 q.2.2) kvs xs ∧
   ∃ o es ep, h.get? a = some o ∧ o.ExactDict ∧ o.data = .dict es ep ∧ es.toList = xs.map (entryOfKey (tupleKind (dy P w))) ∧ (xs.map (·.1)).Nodup
 | .set S n => h.SetOf (intKind P w) a S n
 | .ins C dx fs => H dx = some (.own a) ∧ fs.length ≤ 1000 ∧ dx ≠ a ∧ h.get? a = some (PySem.W.instObj C dx) ∧
   ∃ mA, h.Ns1 dx mA ∧ (∀ f, nK (fs.lookup f) (mA f)) ∧ PySem.Within mA (fs.map (·.1))
 | .own _ => ∃ o, h.get? a = some o
 | .xd fs => ∃ mA, h.Ns1 a mA ∧ ∀ f, nK (fs.lookup f) (mA f)
 | .rng lo hi => ∃ t u v, h.get? a = some { cls := .type "range", data := .fields #[.int lo t, .int hi u, .int 1 v] }
 | .frz o u => h.get? a = some o ∧ dD H h a u
 | .tbl ps => h.get? a = some { cls := .none, data := .fields ps }
 | .met f x => h.get? a = some (PySem.W.methodObj (.ref f) (.ref x))
 | .ext φ => φ h ∧ (∃ o, h.get? a = some o) ∧ ∀ h1 h2 : Heap, φ h1 → (∀ o, h1.get? a = some o → h2.get? a = some o) → φ h2
noncomputable def HOk (H : Hp) (h : Heap) : Prop := ∀ a o, H a = some o → dD P w H h a o
end
section
variable {P : Program} {w : World} {H H' : Hp} {h h' : Heap} {a : Addr} {o : HO}
theorem dD.lt (x : dD P w H h a o) : a < h.objs.size := by
 cases o with
 | lst xs => obtain ⟨_, _, _, _, e⟩ := x; exact Heap.lt_size e
 | tup xs => obtain ⟨_, _, _, p⟩ := x; exact p.lt
 | dK kvs => obtain ⟨_, _, _, _, o, _, _, e, _⟩ := x; exact Heap.lt_size e
 | dT kvs => obtain ⟨_, _, _, _, o, _, _, e, _⟩ := x; exact Heap.lt_size e
 | set S n => obtain ⟨o, _, _, _, e, _⟩ := x; exact Heap.lt_size e
 | ins C dx fs => obtain ⟨_, _, _, e, _⟩ := x; exact Heap.lt_size e
 | own y => obtain ⟨_, e⟩ := x; exact Heap.lt_size e
 | xd fs => obtain ⟨_, ⟨_, _, _, e, _⟩, _⟩ := x; exact Heap.lt_size e
 | rng lo hi => obtain ⟨_, _, _, e⟩ := x; exact Heap.lt_size e
 | frz ob u => obtain ⟨e, _⟩ := x; exact Heap.lt_size e
 | tbl ps => exact Heap.lt_size (show h.get? a = some _ from x)
 | met f y => exact Heap.lt_size (show h.get? a = some _ from x)
 | ext φ => obtain ⟨_, ⟨_, e⟩, _⟩ := x; exact Heap.lt_size e
theorem Paired.mapP {α β : Type} {F G : α → β → Prop} : ∀ {l₁ : List α} {l₂ : List β}, Paired F l₁ l₂ → (∀ a b, F a b → G a b) → Paired G l₁ l₂
 | _, _, .nil, _ => .nil
 | _, _, .cons r t, f => .cons (f _ _ r) (Paired.mapP t f)
theorem dD.stay (x : dD P w H h a o) (k : ∀ b u, (b = a ∨ H b = some (.own a)) → h.get? b = some u → h'.get? b = some u)
  (ho : ∀ b, H b = some (.own a) → H' b = some (.own a)) (ht : ∀ b xs, H b = some (.tup xs) → H' b = some (.tup xs)) : dD P w H' h' a o := by
 induction o with
 | lst xs => obtain ⟨z, its, n, r, e⟩ := x; exact ⟨z, its, n, r, k _ _ (.inl rfl) e⟩
 | tup xs => obtain ⟨z, its, r, ob, e, c⟩ := x; exact ⟨z, its, r, ob, k _ _ (.inl rfl) e, c⟩
 | dK kvs => obtain ⟨z, y, vs, r, ob, es, ep, e, c⟩ := x; exact ⟨z, y, vs, r, ob, es, ep, k _ _ (.inl rfl) e, c⟩
 | dT kvs =>
  obtain ⟨z, y, xs, r, ob, es, ep, e, c⟩ := x
  exact ⟨z, y, xs, Paired.mapP r fun p q z => ⟨z.1, ht _ _ z.2.1, z.2.2⟩, ob, es, ep, k _ _ (.inl rfl) e, c⟩
 | set S n => obtain ⟨ob, es, ep, t, e, c⟩ := x; exact ⟨ob, es, ep, t, k _ _ (.inl rfl) e, c⟩
 | ins C dx fs =>
  obtain ⟨d, z, ne, e, mA, ⟨od, es, ep, e2, c⟩, r⟩ := x
  exact ⟨ho _ d, z, ne, k _ _ (.inl rfl) e, mA, ⟨od, es, ep, k _ _ (.inr d) e2, c⟩, r⟩
 | own y => obtain ⟨ob, e⟩ := x; exact ⟨ob, k _ _ (.inl rfl) e⟩
 | xd fs => obtain ⟨mA, ⟨od, es, ep, e, c⟩, r⟩ := x; exact ⟨mA, ⟨od, es, ep, k _ _ (.inl rfl) e, c⟩, r⟩
 | rng lo hi => obtain ⟨t, u, v, e⟩ := x; exact ⟨t, u, v, k _ _ (.inl rfl) e⟩
 | frz ob u ih => obtain ⟨e, q⟩ := x; exact ⟨k _ _ (.inl rfl) e, ih q⟩
 | tbl ps =>
  have e : h.get? a = some { cls := .none, data := .fields ps } := x
  show h'.get? a = some { cls := .none, data := .fields ps }
  exact k a _ (.inl rfl) e
 | met f y =>
  have e : h.get? a = some (PySem.W.methodObj (.ref f) (.ref y)) := x
  show h'.get? a = some (PySem.W.methodObj (.ref f) (.ref y))
  exact k a _ (.inl rfl) e
 | ext φ => obtain ⟨p, ⟨o, e⟩, st⟩ := x; exact ⟨st _ _ p fun o q => k _ _ (.inl rfl) q, ⟨o, k _ _ (.inl rfl) e⟩, st⟩
theorem HOk.lt (x : HOk P w H h) (e : H a = some o) : a < h.objs.size := (x a o e).lt
theorem HOk.fresh (x : HOk P w H h) (e : h.objs.size ≤ a) : H a = none := by
 cases q : H a with
 | none => rfl
 | some u => exact absurd (Nat.lt_of_lt_of_le (x.lt q) e) (Nat.lt_irrefl _)
theorem HOk.kept (x : HOk P w H h) (k : ∀ b u, h.get? b = some u → h'.get? b = some u) : HOk P w H h' := fun a o e =>
 (x a o e).stay (fun b u _ q => k b u q) (fun _ q => q) fun _ _ q => q
theorem HOk.laid (x : HOk P w H h) (k : ∀ b u, h.get? b = some u → h'.get? b = some u) (hp : h.objs.size ≤ a) (new : dD P w (upd H a o) h' a o) : HOk P w (upd H a o) h' := fun b u e => by
 have hn := x.fresh hp
 by_cases hb : b = a
 ·subst hb; rw [bj] at e; cases e; exact new
 ·rw [bL hb] at e
  exact (x b u e).stay (fun c v _ q => k c v q) (fun c q => by rw [bL (cf q hn)]; exact q) fun c xs q => by rw [bL (cf q hn)]; exact q
end
noncomputable def Rd (H : Hp) (a : Addr) (u : HO) : Prop := H a = some u ∨ ∃ o, H a = some (.frz o u)
theorem Rd.ok {P : Program} {w : World} {H : Hp} {h : Heap} {a : Addr} {u : HO} (r : Rd H a u) (x : HOk P w H h) : dD P w H h a u := by
 rcases r with r | ⟨o, r⟩
 ·exact x a u r
 ·obtain ⟨_, q⟩ := x a _ r
  exact q
noncomputable def Mut : Option HO → Prop
 | some (.lst _) => True
 | some (.dK _) => True
 | some (.dT _) => True
 | some (.set _ _) => True
 | some (.ins _ _ _) => True
 | some (.ext _) => True
 | _ => False
section
variable {P : Program} {w : World} {H : Hp} {h h' : Heap} {x e : Addr} {o' : HO}
theorem HOk.write (ok : HOk P w H h) (mu : Mut (H x)) (he : e = x ∨ H e = some (.own x)) (k : ∀ b u, b ≠ e → h.get? b = some u → h'.get? b = some u) (heo : ∃ u, h'.get? e = some u)
  (new : dD P w (upd H x o') h' x o') : HOk P w (upd H x o') h' := fun b u q => by
 have nown : ∀ c y, H c = some (.own y) → c ≠ x := fun c y r z => by subst z; rw [r] at mu; exact mu
 have ntup : ∀ c xs, H c = some (.tup xs) → c ≠ x := fun c xs r z => by subst z; rw [r] at mu; exact mu
 by_cases hb : b = x
 ·subst hb; rw [bj] at q; cases q; exact new
 ·rw [bL hb] at q
  by_cases hbe : b = e
  ·have q' : H b = some (.own x) := by
    rcases he with z | z
    ·exact absurd (hbe.trans z) hb
    ·rw [hbe]; exact z
   rw [q] at q'; cases q'
   obtain ⟨v, hv⟩ := heo
   exact ⟨v, by rw [hbe]; exact hv⟩
  ·refine (ok b u q).stay (fun c v hc r => k c v ?_ r) (fun c r => by rw [bL (nown c b r)]; exact r) fun c xs r => by rw [bL (ntup c xs r)]; exact r
   rcases hc with rfl | hc
   ·exact hbe
   ·rintro rfl
    rcases he with z | z
    ·exact nown c b hc z
    ·rw [hc] at z; cases z; exact hb rfl
end
structure Un (fs ex : List Addr) (H H' : Hp) (h h' : Heap) : Prop where
 keep : ∀ b o, h.get? b = some o → H b = none → b ∉ fs → b ∉ ex → h'.get? b = some o
 slot : ∀ b o, h.get? b = some o → H b = none → b ∈ fs → b ∉ ex → ∃ sl, h'.get? b = some { o with slots := sl }
 free : ∀ b o, h.get? b = some o → H b = none → b ∉ ex → H' b = none
 there : ∀ b o, h.get? b = some o → b ∉ ex → ∃ o', h'.get? b = some o'
 tups : ∀ b xs, H b = some (.tup xs) → H' b = some (.tup xs)
 frzs : ∀ b o u, H b = some (.frz o u) → H' b = some (.frz o u)
 tbls : ∀ b ps, H b = some (.tbl ps) → ∃ more, H' b = some (.tbl (ps ++ more))
section
variable {fs fs' ex ex' : List Addr} {H H1 H2 : Hp} {h h1 h2 h' : Heap} {a x e : Addr} {o : HO}
theorem Un.any (u : Un fs ex H H1 h h1) {b : Addr} {ob : Obj} (q : h.get? b = some ob) (n : H b = none) (hx : b ∉ ex) : ∃ sl, h1.get? b = some { ob with slots := sl } := by
 by_cases hb : b ∈ fs
 ·exact u.slot b ob q n hb hx
 ·exact ⟨ob.slots, u.keep b ob q n hb hx⟩
theorem Un.kept (k : ∀ b u, h.get? b = some u → h'.get? b = some u) : Un fs ex H H h h' :=
 ⟨fun b ob q _ _ _ => k b ob q, fun b ob q _ _ _ => ⟨ob.slots, k b ob q⟩, fun _ _ _ n _ => n, fun b ob q _ => ⟨ob, k b ob q⟩, fun _ _ q => q, fun _ _ _ q => q, fun _ ps q => ⟨#[], by rw [q]; simp⟩⟩
theorem Un.refl : Un fs ex H H h h := Un.kept fun _ _ q => q
theorem Un.laid (k : ∀ b u, h.get? b = some u → h'.get? b = some u) (hp : h.objs.size ≤ a) (hn : H a = none) : Un fs ex H (upd H a o) h h' where
 keep := fun b u q _ _ _ => k b u q
 slot := fun b u q _ _ _ => ⟨u.slots, k b u q⟩
 free := fun b u q n _ => by rw [bL (Nat.ne_of_lt (Nat.lt_of_lt_of_le (Heap.lt_size q) hp))]; exact n
 there := fun b u q _ => ⟨u, k b u q⟩
 tups := fun b xs q => by rw [bL (cf q hn)]; exact q
 frzs := fun b u xs q => by rw [bL (cf q hn)]; exact q
 tbls := fun b ps q => ⟨#[], by rw [bL (cf q hn), q]; simp⟩
theorem Un.write (mu : Mut (H x)) (he : e = x ∨ H e = some (.own x)) (k : ∀ b u, b ≠ e → h.get? b = some u → h'.get? b = some u) (heo : ∃ u, h'.get? e = some u) : Un fs ex H (upd H x o) h h' := by
 have hx : ∀ b, H b = none → b ≠ x := fun b n z => by subst z; rw [n] at mu; exact mu
 have hb : ∀ b, H b = none → b ≠ e := fun b n z => by
  subst z
  rcases he with r | r
  ·exact hx b n r
  ·rw [n] at r; cases r
 have hm : ∀ b u, H b = some u → ¬ Mut (some u) → b ≠ x := fun b u q nm z => by subst z; rw [q] at mu; exact nm mu
 refine ⟨fun b u q n _ _ => k b u (hb b n) q, fun b u q n _ _ => ⟨u.slots, k b u (hb b n) q⟩, fun b u q n _ => by rw [bL (hx b n)]; exact n, fun b u q _ => ?_,
  fun b xs q => by rw [bL (hm b _ q fun z => z)]; exact q, fun b u xs q => by rw [bL (hm b _ q fun z => z)]; exact q, fun b ps q => ⟨#[], by rw [bL (hm b _ q fun z => z), q]; simp⟩⟩
 by_cases hbe : b = e
 ·subst hbe; exact heo
 ·exact ⟨u, k b u hbe q⟩
end
noncomputable def trk (h : Heap) (H : Hp) : List Addr := (List.range h.objs.size).filter fun a => (H a).isSome
noncomputable def u7 (h : Heap) (H : Hp) : Heap := PySem.W.hideAll h (trk h H)
theorem sk (h : Heap) (H : Hp) : (u7 h H).objs.size = h.objs.size := PySem.W.hideAll_size _ _
theorem u6 {h : Heap} {H : Hp} {b : Addr} {o : Obj} (e : h.get? b = some o) (n : H b = none) : (u7 h H).get? b = some o :=
 PySem.W.hideAll_get _ e fun hm => by
  have q : (H b).isSome = true := (List.mem_filter.mp hm).2
  rw [n] at q; simp at q
theorem x3 {h : Heap} {H : Hp} {b : Addr} {o : Obj} (e : (u7 h H).get? b = some o) : h.get? b = some o ∧ H b = none := by
 have e' : h.get? b = some o := PySem.W.of_hideAll (trk h H) e
 refine ⟨e', ?_⟩
 cases q : H b with
 | none => rfl
 | some x =>
  have hm : b ∈ trk h H := List.mem_filter.mpr ⟨List.mem_range.mpr (Heap.lt_size e'), by simp [q]⟩
  have z : (u7 h H).get? b = none := PySem.W.hideAll_none (trk h H) hm
  rw [z] at e; cases e
structure Mod (K : PySem.W.Frag) (mg : Str → Option Value) (base : Heap) : Prop where
 kin : K.In base
 glob : base.Ns mainGlobals mg
 blt : ∃ mb, base.Ns builtinsNs mb ∧ ∀ x : Str, x ≠ "__name__" → mb x = bootBuiltins x
 nolimit : base.NoLimit
structure Cx where
 prog : Program
 w : World
 K : PySem.W.Frag
 mg : Str → Option Value
 base : Heap
 A : Around
 N : List Str
 s₀ : Shared
 H₀ : Hp
 env : Env
 outer : List Env
 stack : List Env
 ex : List Addr
 fn : Str → Bool
 calm : Bool
 pn : List (Addr × Obj)
 xe : Value → Shared → Prop
noncomputable def frs (l : List Env) : List Addr := l.filterMap (·.frame)
noncomputable abbrev Cx.fs (X : Cx) : List Addr := frs X.outer
noncomputable def Vis (sc : Scope) (x : Str) : Prop := sc.names.lookup x = some .local ∨ sc.names.lookup x = some .cell ∨ sc.names.lookup x = some .free
noncomputable def Loc (sc : Scope) (x : Str) : Prop := sc.names.lookup x = some .local ∨ sc.names.lookup x = some .cell
noncomputable def E5 (env : Env) (h : Heap) (m : Str → Option Value) (x : Str) (u : Value) : Prop :=
 (env.kindOf x = some .local ∧ m x = some u) ∨ ((env.kindOf x = some .cell ∨ env.kindOf x = some .free) ∧ ∃ c, env.cells.lookup x = some c ∧ h.IsCell c (some u))
structure Cx.Ok (X : Cx) : Prop where
 mod : Mod X.K X.mg X.base
 kind : X.env.scope.kind = .function
 glob : X.env.globals = mainGlobals
 blt : X.env.builtins = builtinsNs
 above : X.s₀.heap.objs.size ≤ X.env.locals
 inj : ∀ x y c, X.env.cells.lookup x = some c → X.env.cells.lookup y = some c → x = y
 has : ∀ x, (X.env.kindOf x = some .cell ∨ X.env.kindOf x = some .free) → ∃ c, X.env.cells.lookup x = some c
 cab : ∀ x c, X.fn x = true → X.env.cells.lookup x = some c → X.s₀.heap.objs.size ≤ c
 hd : X.calm = true → X.A.handled = none
 frames : X.A.frames = some X.stack
 stk : X.stack = X.outer ∨ (X.stack = X.env :: X.outer ∧ X.env.frame = some X.env.locals)
 exf : ∀ b ∈ X.ex, b ≠ X.env.locals ∧ ∀ x c, X.env.cells.lookup x = some c → c ≠ b
 bs : ∀ b o, X.base.get? b = some o → X.s₀.heap.get? b = some o ∧ X.H₀ b = none
 bsz : X.base.objs.size ≤ X.s₀.heap.objs.size
 noex : ∀ b o, X.base.get? b = some o → b ∉ X.ex
 exfs : ∀ b ∈ X.ex, b ∉ X.fs
 funs : X.s₀.heap.FunFrames X.base X.outer
 frf : ∀ b ∈ X.fs, X.H₀ b = none
structure Inv (X : Cx) (pins : List (Addr × Obj)) (σ : List (Option V)) (H : Hp) (s : Shared) : Prop where
 ok : X.Ok
 os : s.os = X.s₀.os
 bare : AllBare s.gens
 base : Un X.fs X.ex X.H₀ H X.s₀.heap s.heap
 loc : ∃ m, s.heap.Ns X.env.locals m ∧ ∀ (i : Nat) (x : Str) (v : V), X.N[i]? = some x → σ[i]? = some (some v) → Vis X.env.scope x → ∃ u, de v u ∧ E5 X.env s.heap m x u
 cell : ∀ x c, X.env.cells.lookup x = some c → ∃ v, s.heap.IsCell c v
 free : H X.env.locals = none
 freeC : ∀ x c, X.env.cells.lookup x = some c → H c = none
 pin : ∀ p ∈ X.pn ++ pins, s.heap.get? p.1 = some p.2 ∧ H p.1 = none ∧ p.1 ≠ X.env.locals ∧ p.1 ∉ X.fs ∧ ∀ v, p.2.data ≠ .cell v
 hok : HOk X.prog X.w H s.heap
 len : σ.length = X.N.length
section
variable {X : Cx} {pins : List (Addr × Obj)} {σ : List (Option V)} {H H' : Hp} {s : Shared} {h' : Heap}
theorem Cx.Ok.nofr (ok : X.Ok) {b : Addr} {o : Obj} (e : X.base.get? b = some o) : b ∉ X.fs := fun hb => by
 have := (ok.funs.mem hb).1
 rw [e] at this; cases this
theorem Inv.bs (I : Inv X pins σ H s) : ∀ b o, X.base.get? b = some o → s.heap.get? b = some o ∧ H b = none := fun b o e =>
 ⟨I.base.keep b o (I.ok.bs b o e).1 (I.ok.bs b o e).2 (I.ok.nofr e) (I.ok.noex b o e), I.base.free b o (I.ok.bs b o e).1 (I.ok.bs b o e).2 (I.ok.noex b o e)⟩
theorem Inv.bk (I : Inv X pins σ H s) : ∀ b o, X.base.get? b = some o → s.heap.get? b = some o := fun b o e => (I.bs b o e).1
theorem Inv.mod (I : Inv X pins σ H s) : Mod X.K X.mg X.base := I.ok.mod
theorem Inv.kIn (I : Inv X pins σ H s) : X.K.In s.heap := I.ok.mod.kin.keeps I.bk
theorem Inv.lt (I : Inv X pins σ H s) : X.env.locals < s.heap.objs.size := let ⟨_, hn, _⟩ := I.loc; hn.lt
theorem Inv.sz (I : Inv X pins σ H s) : X.s₀.heap.objs.size ≤ s.heap.objs.size := Nat.le_trans I.ok.above (Nat.le_of_lt I.lt)
theorem Inv.nofs (I : Inv X pins σ H s) {a : Addr} (h : s.heap.objs.size ≤ a) : a ∉ X.fs := fun hb => by
 obtain ⟨_, o, ho, _⟩ := I.ok.funs.mem hb
 exact absurd (Nat.lt_of_lt_of_le (Heap.lt_size ho) (Nat.le_trans I.sz h)) (Nat.lt_irrefl _)
theorem Inv.cne (I : Inv X pins σ H s) : ∀ x c, X.env.cells.lookup x = some c → c ≠ X.env.locals := fun x c e z => by
 obtain ⟨v, o, ho, hd⟩ := I.cell x c e
 obtain ⟨m, ⟨o', es, ep, ho', hd', _⟩, _⟩ := I.loc
 rw [z, ho'] at ho; cases ho; rw [hd'] at hd; cases hd
theorem Inv.funs (I : Inv X pins σ H s) : s.heap.FunFrames X.base X.outer := by
 have all : ∀ (l : List Env), (∀ b ∈ frs l, b ∈ X.fs) → X.s₀.heap.FunFrames X.base l → s.heap.FunFrames X.base l := by
  intro l
  induction l with
  | nil => intro _ _; trivial
  | cons env r ih =>
   intro hs hl
   obtain ⟨hk, ⟨L, o, hf, hn, ho, hd⟩, hr⟩ := hl
   have hL : L ∈ X.fs := hs L (by unfold frs; rw [List.filterMap_cons, hf]; exact List.mem_cons_self)
   obtain ⟨sl, e⟩ := I.base.slot L o ho (I.ok.frf L hL) hL fun z => I.ok.exfs L z hL
   exact ⟨hk, ⟨L, _, hf, hn, e, hd⟩, ih (fun b hb => hs b (by unfold frs; rw [List.filterMap_cons, hf]; exact List.mem_cons_of_mem _ hb)) hr⟩
 exact all X.outer (fun _ hb => hb) I.ok.funs
theorem Inv.stack (I : Inv X pins σ H s) : s.heap.FunFrames X.base X.stack := by
 rcases I.ok.stk with e | ⟨e, hf⟩
 ·rw [e]; exact I.funs
 ·rw [e]
  obtain ⟨m, hn, _⟩ := I.loc
  refine .cons (by rw [I.ok.kind]; decide) hf hn ?_ I.funs
  exact Heap.get?_none_of_le (Nat.le_trans I.ok.bsz I.ok.above)
theorem Inv.stkSub (I : Inv X pins σ H s) : ∀ b ∈ frs X.stack, b ∈ X.env.locals :: X.fs := fun b hb => by
 rcases I.ok.stk with e | ⟨e, hf⟩
 ·rw [e] at hb; exact List.mem_cons_of_mem _ hb
 ·rw [e] at hb
  unfold frs at hb
  rw [List.filterMap_cons, hf] at hb
  exact hb
theorem Inv.stkFree (I : Inv X pins σ H s) : ∀ b ∈ frs X.stack, H b = none := fun b hb => by
 rcases List.mem_cons.mp (I.stkSub b hb) with e | hb
 ·rw [e]; exact I.free
 ·obtain ⟨_, o, ho, _⟩ := I.ok.funs.mem hb
  exact I.base.free b o ho (I.ok.frf b hb) fun z => I.ok.exfs b z hb
theorem Inv.step {g' : Array GenState} {t' : Nat} {d' : Drawn} {ch : List Addr} (I : Inv X pins σ H s)
  (hch : ∀ b ∈ ch, (b ∈ X.ex ∨ X.s₀.heap.objs.size ≤ b) ∧ b ≠ X.env.locals ∧ (∀ x c, X.env.cells.lookup x = some c → c ≠ b) ∧ ∀ p ∈ X.pn ++ pins, p.1 ≠ b)
  (keep : ∀ b o, b ≠ X.env.locals → b ∉ X.fs → b ∉ ch → s.heap.get? b = some o → H b = none → h'.get? b = some o)
  (slot : ∀ b o, b ≠ X.env.locals → b ∈ X.fs → b ∉ ch → s.heap.get? b = some o → H b = none → ∃ sl, h'.get? b = some { o with slots := sl }) (free : ∀ b o, b ∉ ch → s.heap.get? b = some o → H b = none → H' b = none)
  (there : ∀ b o, b ∉ ch → s.heap.get? b = some o → ∃ o', h'.get? b = some o')
  (tups : ∀ b xs, H b = some (.tup xs) → H' b = some (.tup xs)) (frzs : ∀ b o u, H b = some (.frz o u) → H' b = some (.frz o u)) (tbls : ∀ b ps, H b = some (.tbl ps) → ∃ more, H' b = some (.tbl (ps ++ more)))
  (ns : ∀ m, s.heap.Ns X.env.locals m → h'.Ns X.env.locals m) (hok : HOk X.prog X.w H' h') (hg : AllBare g') :
  Inv X pins σ H' { s with heap := h', gens := g', drawn := d', toks := t' } := by
 have neL : ∀ b o, X.s₀.heap.get? b = some o → b ≠ X.env.locals := fun b o e => Nat.ne_of_lt (Nat.lt_of_lt_of_le (Heap.lt_size e) I.ok.above)
 have neC : ∀ b o, X.s₀.heap.get? b = some o → b ∉ X.ex → b ∉ ch := fun b o e hx hb => by
  rcases (hch b hb).1 with z | z
  ·exact hx z
  ·exact absurd (Nat.lt_of_lt_of_le (Heap.lt_size e) z) (Nat.lt_irrefl _)
 have cellK : ∀ x c, X.env.cells.lookup x = some c → ∀ v, s.heap.IsCell c v → h'.IsCell c v := fun x c e v ⟨o, ho, hd⟩ => by
  have nch : c ∉ ch := fun z => (hch c z).2.2.1 x c e rfl
  by_cases hc : c ∈ X.fs
  ·obtain ⟨sl, q⟩ := slot c o (I.cne x c e) hc nch ho (I.freeC x c e)
   exact ⟨_, q, hd⟩
  ·exact ⟨o, keep c o (I.cne x c e) hc nch ho (I.freeC x c e), hd⟩
 refine ⟨I.ok, I.os, hg, ⟨fun b o e n hb hx => ?_, fun b o e n hb hx => ?_, fun b o e n hx => ?_, fun b o e hx => ?_, fun b xs e => tups b xs (I.base.tups b xs e), fun b o xs e => frzs b o xs (I.base.frzs b o xs e), fun b ps e => ?_⟩, ?_, fun x c e => ?_, ?_, fun x c e => ?_, fun p hp => ?_, hok, I.len⟩
 ·exact keep b o (neL b o e) hb (neC b o e hx) (I.base.keep b o e n hb hx) (I.base.free b o e n hx)
 ·obtain ⟨sl, e1⟩ := I.base.slot b o e n hb hx
  obtain ⟨sl', e2⟩ := slot b _ (neL b o e) hb (neC b o e hx) e1 (I.base.free b o e n hx)
  exact ⟨sl', e2⟩
 ·obtain ⟨o', e1⟩ := I.base.there b o e hx
  exact free b o' (neC b o e hx) e1 (I.base.free b o e n hx)
 ·obtain ⟨o', e1⟩ := I.base.there b o e hx
  exact there b o' (neC b o e hx) e1
 ·obtain ⟨m1, e1⟩ := I.base.tbls b ps e
  obtain ⟨m2, e2⟩ := tbls b _ e1
  exact ⟨m1 ++ m2, by rw [e2, Array.append_assoc]⟩
 ·obtain ⟨m, hn, hl⟩ := I.loc
  refine ⟨m, ns m hn, fun i x v e1 e2 e3 => ?_⟩
  obtain ⟨u, r, l⟩ := hl i x v e1 e2 e3
  refine ⟨u, r, ?_⟩
  rcases l with l | ⟨k, c, e, z⟩
  ·exact .inl l
  ·exact .inr ⟨k, c, e, cellK x c e _ z⟩
 ·obtain ⟨v, z⟩ := I.cell x c e
  exact ⟨v, cellK x c e v z⟩
 ·obtain ⟨m, ⟨o, _, _, ho, _⟩, _⟩ := I.loc
  exact free _ o (fun z => (hch _ z).2.1 rfl) ho I.free
 ·obtain ⟨v, o, ho, hd⟩ := I.cell x c e
  exact free c o (fun z => (hch c z).2.2.1 x c e rfl) ho (I.freeC x c e)
 ·obtain ⟨e, n, ne, nf, d⟩ := I.pin p hp
  have nch : p.1 ∉ ch := fun z => (hch p.1 z).2.2.2 p hp rfl
  exact ⟨keep p.1 p.2 ne nf nch e n, free p.1 p.2 nch e n, ne, nf, d⟩
theorem Inv.un {t' : Nat} (I : Inv X pins σ H s) (u : Un X.fs [] H H' s.heap h') (hok : HOk X.prog X.w H' h') : Inv X pins σ H' { s with heap := h', toks := t' } := by
 obtain ⟨m, ⟨o, es, ep, ho, r⟩, _⟩ := id I.loc
 obtain ⟨sl, hL⟩ := u.any ho I.free (by simp)
 exact I.step (g' := s.gens) (d' := s.drawn) (ch := []) (fun _ z => nomatch z) (fun b o _ hb _ e n => u.keep b o e n hb (by simp)) (fun b o _ hb _ e n => u.slot b o e n hb (by simp)) (fun b o _ e n => u.free b o e n (by simp)) (fun b o _ e => u.there b o e (by simp)) u.tups u.frzs u.tbls (fun m' hm => by
  obtain ⟨o', es', ep', ho', r'⟩ := hm
  rw [ho] at ho'; cases ho'
  exact ⟨_, es', ep', hL, r'⟩) hok I.bare
theorem Inv.call {g' : Array GenState} {t' : Nat} {d' : Drawn} {ch : List Addr} (I : Inv X pins σ H s) (u : Un (frs X.stack) ch H H' s.heap h') (hok : HOk X.prog X.w H' h') (hg : AllBare g')
  (hch : ∀ b ∈ ch, (b ∈ X.ex ∨ X.s₀.heap.objs.size ≤ b) ∧ b ≠ X.env.locals ∧ (∀ x c, X.env.cells.lookup x = some c → c ≠ b) ∧ ∀ p ∈ X.pn ++ pins, p.1 ≠ b) :
  Inv X pins σ H' { s with heap := h', gens := g', drawn := d', toks := t' } := by
 obtain ⟨m, ⟨o, es, ep, ho, r⟩, _⟩ := id I.loc
 obtain ⟨sl, hL⟩ := u.any ho I.free fun z => (hch _ z).2.1 rfl
 exact I.step (ch := ch) hch (fun b o hL hb hc e n => u.keep b o e n (fun z => (List.mem_cons.mp (I.stkSub b z)).elim hL hb) hc) (fun b o _ _ hc e n => u.any e n hc) (fun b o hc e n => u.free b o e n hc) (fun b o hc e => u.there b o e hc) u.tups u.frzs u.tbls (fun m' hm => by
  obtain ⟨o', es', ep', ho', r'⟩ := hm
  rw [ho] at ho'; cases ho'
  exact ⟨_, es', ep', hL, r'⟩) hok hg
theorem Inv.turned {t' : Nat} {it : Addr} (I : Inv X pins σ H s) (k : ∀ b o, b ≠ it → s.heap.get? b = some o → h'.get? b = some o) (hn : H it = none) (hL : it ≠ X.env.locals)
  (h1 : it ∈ X.ex ∨ X.s₀.heap.objs.size ≤ it) (h2 : ∀ x c, X.env.cells.lookup x = some c → c ≠ it) (h3 : ∀ p ∈ X.pn ++ pins, p.1 ≠ it) : Inv X pins σ H { s with heap := h', toks := t' } := by
 have nit : ∀ b u, H b = some u → b ≠ it := fun b u e z => by rw [z, hn] at e; cases e
 refine I.step (g' := s.gens) (d' := s.drawn) (ch := [it]) (fun b hb => ?_) (fun b o _ _ hc e _ => k b o (fun z => hc (by simp [z])) e) (fun b o _ _ hc e _ => ⟨o.slots, k b o (fun z => hc (by simp [z])) e⟩) (fun _ _ _ _ n => n)
  (fun b o hc e => ⟨o, k b o (fun z => hc (by simp [z])) e⟩) (fun _ _ e => e) (fun _ _ _ e => e) (fun b ps e => ⟨#[], by rw [e]; simp⟩) (fun m hm => ?_) (fun b u e => ?_) I.bare
 ·have e : b = it := by simpa using hb
  subst e
  exact ⟨h1, hL, h2, h3⟩
 ·obtain ⟨o, es, ep, ho, r⟩ := hm
  exact ⟨o, es, ep, k _ o (Ne.symm hL) ho, r⟩
 ·refine (I.hok b u e).stay (fun c v hc q => k c v ?_ q) (fun _ q => q) fun _ _ q => q
  rcases hc with z | z
  ·rw [z]; exact nit b u e
  ·exact nit c _ z
theorem Inv.tok (I : Inv X pins σ H s) (t : Nat) : Inv X pins σ H { s with toks := t } := I.un (h' := s.heap) (t' := t) Un.refl I.hok
theorem Inv.kept {t' : Nat} (I : Inv X pins σ H s) (k : ∀ b u, s.heap.get? b = some u → h'.get? b = some u) : Inv X pins σ H { s with heap := h', toks := t' } := I.un (Un.kept k) (I.hok.kept k)
theorem Inv.laid {a : Addr} {o : HO} {t' : Nat} (I : Inv X pins σ H s) (k : ∀ b u, s.heap.get? b = some u → h'.get? b = some u) (hp : s.heap.objs.size ≤ a) (new : dD X.prog X.w (upd H a o) h' a o) :
  Inv X pins σ (upd H a o) { s with heap := h', toks := t' } := I.un (Un.laid k hp (I.hok.fresh hp)) (I.hok.laid k hp new)
theorem Inv.write {x e : Addr} {o : HO} {t' : Nat} (I : Inv X pins σ H s) (mu : Mut (H x)) (he : e = x ∨ H e = some (.own x)) (k : ∀ b u, b ≠ e → s.heap.get? b = some u → h'.get? b = some u) (heo : ∃ u, h'.get? e = some u)
  (new : dD X.prog X.w (upd H x o) h' x o) : Inv X pins σ (upd H x o) { s with heap := h', toks := t' } := I.un (Un.write mu he k heo) (I.hok.write mu he k heo new)
theorem Inv.pins_of {pins' : List (Addr × Obj)} (I : Inv X pins σ H s) (h : ∀ p ∈ pins', s.heap.get? p.1 = some p.2 ∧ H p.1 = none ∧ p.1 ≠ X.env.locals ∧ p.1 ∉ X.fs ∧ ∀ v, p.2.data ≠ .cell v) : Inv X pins' σ H s :=
 ⟨I.ok, I.os, I.bare, I.base, I.loc, I.cell, I.free, I.freeC, fun p hp => (List.mem_append.mp hp).elim (fun z => I.pin p (List.mem_append_left _ z)) (h p), I.hok, I.len⟩
theorem pf {N : List Str} (hN : N.Nodup) {i j : Nat} {x : Str} (a : N[i]? = some x) (b : N[j]? = some x) : i = j := by
 obtain ⟨h1, e1⟩ := List.getElem?_eq_some_iff.mp a
 obtain ⟨h2, e2⟩ := List.getElem?_eq_some_iff.mp b
 exact (List.getElem_inj hN).mp (e1.trans e2.symm)
theorem qZ {M : Model} {A : Around} {E : Value → Shared → Prop} {i : Nat} {x : Str} {v : V} {u : Value} {Q : Unit → Shared → Prop} (I : Inv X pins σ H s) (hN : X.N.Nodup) (hi : X.N[i]? = some x) (hx : Loc X.env.scope x) (r : de v u)
  (h : ∀ s', Inv X pins (σ.set i (some v)) H s' → (∃ a, Heap.SameBut a s.heap s'.heap ∧ (a = X.env.locals ∨ X.env.cells.lookup x = some a)) → Q () s') (hf : X.fn x = true ∨ X.env.scope.names.lookup x = some .local := by first | exact .inl rfl | exact .inr rfl | assumption) : wpAny M A (storeName X.env x u) Q E s := by
 obtain ⟨m, hn, hl⟩ := id I.loc
 have hcls : (X.env.scope.kind == .class || (X.env.scope.kind == .module && X.env.locals != X.env.globals)) = false := by rw [I.ok.kind]; rfl
 have hiσ : i < σ.length := by rw [I.len]; exact (List.getElem?_eq_some_iff.mp hi).1
 have cne := I.cne
 have tracked : ∀ {a : Addr} {h' : Heap}, (∃ o, s.heap.get? a = some o ∧ H a = none) → Heap.SameBut a s.heap h' → HOk X.prog X.w H h' := fun {a h'} ha hs b ob e => by
  obtain ⟨_, _, hfree⟩ := ha
  refine (I.hok b ob e).stay (fun c w' hc q => (hs.2 c ?_).trans q) (fun _ q => q) fun _ _ q => q
  rintro rfl
  rcases hc with rfl | hc
  ·rw [hfree] at e; cases e
  ·rw [hfree] at hc; cases hc
 rcases hx with hk | hk
 ·refine wpAny_storeName_local hk hn (fun h' hn' hs => ?_) hcls
  obtain ⟨oL, _, _, hoL, _⟩ := id hn
  refine h _ ⟨I.ok, I.os, I.bare, ⟨fun b o e n hb hx => ?_, fun b o e n hb hx => ?_, I.base.free, fun b o e hx => ?_, I.base.tups, I.base.frzs, I.base.tbls⟩, ⟨_, hn', fun j y v' e1 e2 e3 => ?_⟩, fun y c e => ?_, I.free, I.freeC, fun p hp => ?_, tracked ⟨oL, hoL, I.free⟩ hs, by simpa using I.len⟩ ⟨_, hs, .inl rfl⟩
  ·exact (hs.2 b (Nat.ne_of_lt (Nat.lt_of_lt_of_le (Heap.lt_size e) I.ok.above))).trans (I.base.keep b o e n hb hx)
  ·obtain ⟨sl, e1⟩ := I.base.slot b o e n hb hx
   exact ⟨sl, (hs.2 b (Nat.ne_of_lt (Nat.lt_of_lt_of_le (Heap.lt_size e) I.ok.above))).trans e1⟩
  ·obtain ⟨o', e1⟩ := I.base.there b o e hx
   exact ⟨o', (hs.2 b (Nat.ne_of_lt (Nat.lt_of_lt_of_le (Heap.lt_size e) I.ok.above))).trans e1⟩
  ·by_cases hj : j = i
   ·subst hj
    rw [hi] at e1; cases e1
    rw [List.getElem?_set_self hiσ] at e2
    cases e2
    exact ⟨u, r, .inl ⟨hk, by simp⟩⟩
   ·rw [List.getElem?_set_ne (Ne.symm hj)] at e2
    obtain ⟨u', r', q⟩ := hl j y v' e1 e2 e3
    refine ⟨u', r', ?_⟩
    rcases q with ⟨k, e⟩ | ⟨k, c, e, z⟩
    ·refine .inl ⟨k, ?_⟩
     have : y ≠ x := fun e => hj (pf hN e1 (e ▸ hi))
     simp [this, e]
    ·exact .inr ⟨k, c, e, z.sameBut hs (cne y c e)⟩
  ·obtain ⟨w', z⟩ := I.cell y c e
   exact ⟨w', z.sameBut hs (cne y c e)⟩
  ·obtain ⟨e, n, ne, nf, d⟩ := I.pin p hp
   exact ⟨(hs.2 p.1 ne).trans e, n, ne, nf, d⟩
 ·have hfn : X.fn x = true := by
   rcases hf with z | z
   ·exact z
   ·rw [z] at hk; cases hk
  obtain ⟨c, hc⟩ := I.ok.has x (.inl hk)
  obtain ⟨w', z⟩ := I.cell x c hc
  refine wpAny_storeName_cell I.ok.kind hk hc z (fun h' hc' hs => ?_)
  obtain ⟨oc, hoc, hocd⟩ := id z
  refine h { s with heap := h' } ⟨I.ok, I.os, I.bare, ⟨fun b o e n hb hx => ?_, fun b o e n hb hx => ?_, I.base.free, fun b o e hx => ?_, I.base.tups, I.base.frzs, I.base.tbls⟩, ⟨m, hn.sameBut hs (Ne.symm (cne x c hc)), fun j y v' e1 e2 e3 => ?_⟩, fun y c' e => ?_, I.free, I.freeC, fun p hp => ?_, tracked ⟨oc, hoc, I.freeC x c hc⟩ hs, by simpa using I.len⟩ ⟨c, hs, .inr hc⟩
  ·exact (hs.2 b (Nat.ne_of_lt (Nat.lt_of_lt_of_le (Heap.lt_size e) (I.ok.cab x c hfn hc)))).trans (I.base.keep b o e n hb hx)
  ·obtain ⟨sl, e1⟩ := I.base.slot b o e n hb hx
   exact ⟨sl, (hs.2 b (Nat.ne_of_lt (Nat.lt_of_lt_of_le (Heap.lt_size e) (I.ok.cab x c hfn hc)))).trans e1⟩
  ·obtain ⟨o', e1⟩ := I.base.there b o e hx
   exact ⟨o', (hs.2 b (Nat.ne_of_lt (Nat.lt_of_lt_of_le (Heap.lt_size e) (I.ok.cab x c hfn hc)))).trans e1⟩
  ·by_cases hj : j = i
   ·subst hj
    rw [hi] at e1; cases e1
    rw [List.getElem?_set_self hiσ] at e2
    cases e2
    exact ⟨u, r, .inr ⟨.inl hk, c, hc, hc'⟩⟩
   ·rw [List.getElem?_set_ne (Ne.symm hj)] at e2
    obtain ⟨u', r', q⟩ := hl j y v' e1 e2 e3
    refine ⟨u', r', ?_⟩
    rcases q with q | ⟨k, c', e, z'⟩
    ·exact .inl q
    ·refine .inr ⟨k, c', e, z'.sameBut hs ?_⟩
     rintro rfl
     exact hj (pf hN e1 (I.ok.inj _ _ _ e hc ▸ hi))
  ·by_cases hcc : c' = c
   ·subst hcc; exact ⟨_, hc'⟩
   ·obtain ⟨w2, z2⟩ := I.cell y c' e
    exact ⟨w2, z2.sameBut hs hcc⟩
  ·obtain ⟨e, n, ne, nf, d⟩ := I.pin p hp
   refine ⟨(hs.2 p.1 ?_).trans e, n, ne, nf, d⟩
   intro q
   rw [q, hoc] at e
   have q' : oc = p.2 := Option.some.inj e
   exact d w' (by rw [← q']; exact hocd)
theorem o2 {M : Model} {A : Around} {E : Value → Shared → Prop} {i : Nat} {x : Str} {v : V} {u : Value} {Q : Unit → Shared → Prop} (I : Inv X pins σ H s) (hN : X.N.Nodup) (hi : X.N[i]? = some x) (hx : Loc X.env.scope x) (r : de v u)
  (h : ∀ s', Inv X pins (σ.set i (some v)) H s' → Q () s') (hf : X.fn x = true ∨ X.env.scope.names.lookup x = some .local := by first | exact .inl rfl | exact .inr rfl | assumption) : wpAny M A (storeName X.env x u) Q E s :=
 qZ I hN hi hx r (fun s' I' _ => h s' I') hf
theorem Inv.call' {s' : Shared} {ch : List Addr} (I : Inv X pins σ H s) (ho : s'.os = s.os) (u : Un (frs X.stack) ch H H' s.heap s'.heap) (hok : HOk X.prog X.w H' s'.heap) (hg : AllBare s'.gens)
  (hch : ∀ b ∈ ch, (b ∈ X.ex ∨ X.s₀.heap.objs.size ≤ b) ∧ b ≠ X.env.locals ∧ (∀ x c, X.env.cells.lookup x = some c → c ≠ b) ∧ ∀ p ∈ X.pn ++ pins, p.1 ≠ b) : Inv X pins σ H' s' := by
 obtain ⟨h', g', d', t', o'⟩ := s'
 have e : o' = s.os := ho
 subst e
 exact I.call (g' := g') (t' := t') (d' := d') u hok hg hch
end
noncomputable abbrev XK := Value → Option Addr → Hp → Prop
noncomputable abbrev St := List (Option V)
noncomputable abbrev VK := V → Hp → Prop
noncomputable abbrev TE := St → Hp → VK → Prop
noncomputable abbrev TT := St → Hp → (Bool → Hp → Prop) → Prop
noncomputable abbrev TA := St → Hp → (List V → Hp → Prop) → Prop
structure we where
 nx : St → Hp → Prop
 rt : VK
 bk : St → Hp → Prop := fun _ _ => False
 ct : St → Hp → Prop := fun _ _ => False
noncomputable abbrev TS := we → St → Hp → Prop
noncomputable def EP (X : Cx) (pins : List (Addr × Obj)) (σ : St) (Q : VK) (u : Value) (s' : Shared) : Prop := ∃ v H', Inv X pins σ H' s' ∧ de v u ∧ Q v H'
noncomputable def TP (X : Cx) (pins : List (Addr × Obj)) (σ : St) (Q : Bool → Hp → Prop) (b : Bool) (s' : Shared) : Prop := ∃ H', Inv X pins σ H' s' ∧ Q b H'
noncomputable def AP (X : Cx) (pins : List (Addr × Obj)) (σ : St) (Q : List V → Hp → Prop) (us : List Value) (s' : Shared) : Prop := ∃ vs H', Inv X pins σ H' s' ∧ b0 vs us ∧ Q vs H'
noncomputable def SP (X : Cx) (pins : List (Addr × Obj)) (D : we) (f : Flow) (s' : Shared) : Prop :=
 match f with
 | .next => ∃ σ' H', Inv X pins σ' H' s' ∧ D.nx σ' H'
 | .brk => ∃ σ' H', Inv X pins σ' H' s' ∧ D.bk σ' H'
 | .cont => ∃ σ' H', Inv X pins σ' H' s' ∧ D.ct σ' H'
 | .ret u => ∃ v σ' H', Inv X pins σ' H' s' ∧ de v u ∧ D.rt v H'
noncomputable def PE (X : Cx) (e : Expr) (t : TE) : Prop :=
 ∀ (pins : List (Addr × Obj)) (s : Shared) (σ : St) (H : Hp) (Q : VK), Inv X pins σ H s → t σ H Q → wpAny (model X.prog X.w) X.A (eval e X.env) (EP X pins σ Q) X.xe s
noncomputable def PT (X : Cx) (e : Expr) (t : TT) : Prop :=
 ∀ (pins : List (Addr × Obj)) (s : Shared) (σ : St) (H : Hp) (Q : Bool → Hp → Prop), Inv X pins σ H s → t σ H Q → wpAny (model X.prog X.w) X.A (isTrue e X.env (eval e X.env)) (TP X pins σ Q) X.xe s
noncomputable def PW (X : Cx) (e : Expr) (t : TT) : Prop :=
 ∀ (whole : Sem Value) (pins : List (Addr × Obj)) (s : Shared) (σ : St) (H : Hp) (Q : Bool → Hp → Prop), Inv X pins σ H s → t σ H Q → wpAny (model X.prog X.w) X.A (isTrue e X.env whole) (TP X pins σ Q) X.xe s
theorem PW.pt {X : Cx} {e : Expr} {t : TT} (h : PW X e t) : PT X e t := h _
noncomputable def PA (X : Cx) (es : List Expr) (t : TA) : Prop :=
 ∀ (pos : Pos) (pins : List (Addr × Obj)) (s : Shared) (σ : St) (H : Hp) (Q : List V → Hp → Prop), Inv X pins σ H s → t σ H Q → wpAny (model X.prog X.w) X.A (spliced (backTo pos (starEach es X.env))) (AP X pins σ Q) X.xe s
noncomputable def PS (X : Cx) (st : Stmt) (t : TS) : Prop :=
 ∀ (pins : List (Addr × Obj)) (s : Shared) (σ : St) (H : Hp) (D : we), Inv X pins σ H s → t D σ H → wpAny (model X.prog X.w) X.A (exec st X.env) (SP X pins D) X.xe s
noncomputable def PSs (X : Cx) (st : List Stmt) (t : TS) : Prop :=
 ∀ (pins : List (Addr × Obj)) (s : Shared) (σ : St) (H : Hp) (D : we), Inv X pins σ H s → t D σ H → wpAny (model X.prog X.w) X.A (execs st X.env) (SP X pins D) X.xe s
theorem thn {α : Type} {t : Sem α} {Q Q' : α → Shared → Prop} {M : Model} {A : Around} {E : Value → Shared → Prop} {s : Shared} (h : wpAny M A t Q E s) (hQ : ∀ a s, Q a s → Q' a s) : wpAny M A t Q' E s := wpAny_mono h hQ fun _ _ x => x
section
variable {X : Cx}
noncomputable def Bx (i : Nat) : TE := fun σ H Q => ∃ v, σ[i]? = some (some v) ∧ Q v H
noncomputable def tC (v : V) : TE := fun _ H Q => Q v H
theorem Av {i : Nat} {x : Str} {pos : Pos} (hN : X.N[i]? = some x) (hv : Vis X.env.scope x) (hd : (x == ("__debug__" : Str)) = false := by decide) (hcd : (x == ("__classdict__" : Str)) = false := by decide) : PE X (.Name x pos) (Bx i) := by
 intro pins s σ H Q I h
 obtain ⟨v, e, h⟩ := h
 obtain ⟨m, hn, hl⟩ := I.loc
 obtain ⟨u, r, l⟩ := hl i x v hN e hv
 have fin : EP X pins σ Q u s := ⟨v, H, I, r, h⟩
 rcases l with ⟨hk, hm⟩ | ⟨hk, c, hc, hcell⟩
 ·exact wpAny_Name (wpAny_loadName_local I.ok.kind hk hn hm fin) hd
 ·rcases hk with hk | hk
  ·exact wpAny_Name (wpAny_loadName_cell I.ok.kind hk hc hcell fin) hd
  ·exact wpAny_Name (wpAny_loadName_free I.ok.kind hk hc hcell fin hcd) hd
theorem AD {i j pos} : PE X (.Constant (.int i) j pos) (tC (.int i)) := fun _ _ _ H _ I h => wpAny_Constant_int ⟨.int i, H, I.tok _, ⟨_, rfl⟩, h⟩
theorem Df {b j pos} : PE X (.Constant (.bool b) j pos) (tC (.bl b)) := fun _ _ _ H _ I h => Constant_bool ⟨.bl b, H, I, rfl, h⟩
theorem AA {j pos} : PE X (.Constant .none j pos) (tC .non) := fun _ _ _ H _ I h => Constant_none ⟨.non, H, I, rfl, h⟩
theorem Ax {x j pos} : PE X (.Constant (.str x) j pos) (tC (.str x)) := fun _ _ _ H _ I h => Calls.Constant_str ⟨.str x, H, I.tok _, ⟨_, rfl⟩, h⟩
noncomputable def Gl (X : Cx) (x : Str) : Prop := X.env.kindOf x = some .globalImplicit
theorem oo {E : Value → Shared → Prop} {pins : List (Addr × Obj)} {s : Shared} {σ : St} {H : Hp} {x : Str} {u : Value} {pos : Pos} {Q : Value → Shared → Prop} (I : Inv X pins σ H s) (hg : Gl X x) (hm : X.mg x = some u) (h : Q u s)
  (hd : (x == ("__debug__" : Str)) = false := by decide) : wpAny (model X.prog X.w) X.A (eval (.Name x pos) X.env) Q E s :=
 Calls.Name_function_global I.ok.kind hg (Calls.loadGlobal_global (by rw [I.ok.glob]; exact I.mod.glob.keeps I.bk) hm h) hd
theorem mW {E : Value → Shared → Prop} {pins : List (Addr × Obj)} {s : Shared} {σ : St} {H : Hp} {x : Str} {u : Value} {pos : Pos} {Q : Value → Shared → Prop} (I : Inv X pins σ H s) (hg : Gl X x) (hm : X.mg x = none) (hv : bootBuiltins x = some u) (h : Q u s)
  (hn : x ≠ "__name__" := by decide) (hd : (x == ("__debug__" : Str)) = false := by decide) : wpAny (model X.prog X.w) X.A (eval (.Name x pos) X.env) Q E s := by
 obtain ⟨mb, h1, h2⟩ := I.mod.blt
 exact Calls.Name_function_global I.ok.kind hg (Calls.loadGlobal_builtin (by rw [I.ok.glob]; exact I.mod.glob.keeps I.bk) hm (by rw [I.ok.blt]; exact h1.keeps I.bk) ((h2 x hn).trans hv) h) hd
theorem nU {x : Str} {v : V} {u : Value} {pos : Pos} (hg : Gl X x) (hm : X.mg x = some u) (r : de v u) (hd : (x == ("__debug__" : Str)) = false := by decide) : PE X (.Name x pos) (tC v) :=
 fun _ _ _ H _ I h => oo I hg hm ⟨v, H, I, r, h⟩ hd
theorem xU {x : Str} {v : V} {u : Value} {pos : Pos} (hg : Gl X x) (hm : X.mg x = none) (hv : bootBuiltins x = some u) (r : de v u) (hn : x ≠ "__name__" := by decide) (hd : (x == ("__debug__" : Str)) = false := by decide) : PE X (.Name x pos) (tC v) :=
 fun _ _ _ H _ I h => mW I hg hm hv ⟨v, H, I, r, h⟩ hn hd
variable {a b : Expr} {ta tb : TE} {pos : Pos}
noncomputable def PC (X : Cx) (op : CmpOp) (a b : Expr) (t : TE) : Prop :=
 ∀ (pins : List (Addr × Obj)) (s : Shared) (σ : St) (H : Hp) (Q : VK), Inv X pins σ H s → t σ H Q →
  wpAny (model X.prog X.w) X.A (eval a X.env) (fun v s₁ => wpAny (model X.prog X.w) X.A (eval b X.env) (fun u s₂ => wpAny (model X.prog X.w) X.A (compareOp op v u) (EP X pins σ Q) X.xe s₂) X.xe s₁) X.xe s
noncomputable def tB (t : TE) : TT := fun σ H Q => t σ H fun x H1 => ∃ c, x = .bl c ∧ Q c H1
theorem AF {op : CmpOp} {t : TE} (h : PC X op a b t) (h1 : behindInMarks op b = false := by first | exact nobehind _ (by decide) (by decide) | rfl) : PE X (.Compare a [op] [b] pos) t := fun pins s σ H Q I hw => wpAny_Compare1 (h pins s σ H Q I hw) h1
theorem Aj {e : Expr} {t : TE} (h : PE X e t) (he : ∀ whole, isTrue e X.env whole = (do let v ← whole; standAt e.pos; holding [v] (truthy v)) := by intro _; rfl) : PT X e (tB t) := by
 intro pins s σ H Q I hw
 refine isTrue_plain (thn (h pins s σ H _ I hw) fun v s1 ⟨x, H1, I1, r1, q1⟩ => ?_) (he _)
 obtain ⟨d, rfl, q⟩ := q1
 cases r1
 exact wpAny_truthy_bool ⟨H1, I1, q⟩
variable {tA tB' : TT} {rest : List Expr}
noncomputable def D6 (t u : TT) : TT := fun σ H Q => t σ H fun c H1 => if c = true then u σ H1 Q else Q false H1
noncomputable def tOr (t u : TT) : TT := fun σ H Q => t σ H fun c H1 => if c = true then Q true H1 else u σ H1 Q
noncomputable def D2 (t : TT) : TT := fun σ H Q => t σ H fun c H1 => Q (!c) H1
theorem xD (ha : PT X a tA) : PW X (.BoolOp .And [a] pos) tA := by
 intro wh pins s σ H Q I h
 refine isTrue_and (thn (ha pins s σ H Q I h) fun c s1 e => ?_)
 cases c with
 | true => exact isTrue_and_nil e
 | false => exact e
theorem Ah (ha : PT X a tA) : PW X (.BoolOp .Or [a] pos) tA := by
 intro wh pins s σ H Q I h
 refine isTrue_or (thn (ha pins s σ H Q I h) fun c s1 e => ?_)
 cases c with
 | false => exact isTrue_or_nil e
 | true => exact e
theorem Ai (ha : PT X a tA) (hb : PW X (.BoolOp .And (b :: rest) pos) tB') : PW X (.BoolOp .And (a :: b :: rest) pos) (D6 tA tB') := by
 intro wh pins s σ H Q I h
 refine isTrue_and (thn (ha pins s σ H _ I h) fun c s1 ⟨H1, I1, q1⟩ => ?_)
 cases c with
 | true => exact hb wh pins s1 σ H1 Q I1 q1
 | false => exact ⟨H1, I1, q1⟩
theorem C7 (ha : PT X a tA) (hb : PW X (.BoolOp .Or (b :: rest) pos) tB') : PW X (.BoolOp .Or (a :: b :: rest) pos) (tOr tA tB') := by
 intro wh pins s σ H Q I h
 refine isTrue_or (thn (ha pins s σ H _ I h) fun c s1 ⟨H1, I1, q1⟩ => ?_)
 cases c with
 | true => exact ⟨H1, I1, q1⟩
 | false => exact hb wh pins s1 σ H1 Q I1 q1
theorem Ak (ha : PT X a tA) : PT X (.UnaryOp .Not a pos) (D2 tA) := by
 intro pins s σ H Q I h
 exact isTrue_not (ha pins s σ H (fun c H1 => Q (!c) H1) I h)
noncomputable def zU (ta tb : TE) : TE := fun σ H Q => ta σ H fun x H1 => ∃ c, x = .bl c ∧ if c = true then tb σ H1 Q else Q (.bl false) H1
noncomputable def zO (ta : TE) : TE := fun σ H Q => ta σ H fun x H1 => ∃ c, x = .bl c ∧ Q (.bl (!c)) H1
theorem Ay {op} {t : TE} (h : PE X a t) : PE X (.BoolOp op [a] pos) t := fun pins s σ H Q I hw => BoolOp_one (h pins s σ H Q I hw)
theorem AG (ha : PE X a ta) (hb : PE X (.BoolOp .And (b :: rest) pos) tb) : PE X (.BoolOp .And (a :: b :: rest) pos) (zU ta tb) := by
 intro pins s σ H Q I h
 refine BoolOp_and (thn (ha pins s σ H _ I h) fun v s1 hz => ?_)
 obtain ⟨x, H1, I1, r1, q1⟩ := hz
 obtain ⟨c, rfl, q1⟩ := q1
 cases r1
 refine wpAny_truthy_bool ?_
 cases c with
 | true => exact hb pins s1 σ H1 Q I1 q1
 | false => exact ⟨.bl false, H1, I1, rfl, q1⟩
theorem Az (ha : PE X a ta) : PE X (.UnaryOp .Not a pos) (zO ta) := by
 intro pins s σ H Q I h
 refine UnaryOp_ (thn (ha pins s σ H _ I h) fun v s1 hz => ?_)
 obtain ⟨x, H1, I1, r1, q1⟩ := hz
 obtain ⟨c, rfl, q1⟩ := q1
 cases r1
 exact not_of (wpAny_truthy_bool ⟨.bl (!c), H1, I1, rfl, q1⟩)
end
noncomputable def SqL (K : PySem.W.Frag) (H : Hp) (a : Addr) (xs : List V) : Prop :=
 Rd H a (.lst xs) ∨
  ∃ (o : Obj) (its : Array Value) (n : Nat), K.lookup a = some o ∧ o.cls = .type "list" ∧ o.dict = none ∧ o.data = .seq its n ∧ its.size ≤ sizeLine ∧ b0 xs its.toList
noncomputable def SqT (K : PySem.W.Frag) (H : Hp) (a : Addr) (xs : List V) : Prop :=
 Rd H a (.tup xs) ∨
  ∃ (o : Obj) (its : Array Value) (n : Nat), K.lookup a = some o ∧ o.cls = .type "tuple" ∧ o.data = .seq its n ∧ its.size ≤ sizeLine ∧ b0 xs its.toList
noncomputable def E4 : Value → Option V
 | .none => some .non
 | .bool b => some (.bl b)
 | .int i _ => some (.int i)
 | .str x _ => some (.str x)
 | .bytes b _ => some (.byt b)
 | .float b _ => some (.flt b)
 | .ref a => some (.ref a)
 | .type n => some (.ty n)
 | _ => none
theorem de.abs {x : V} {u : Value} (r : de x u) : E4 u = some x := by
 cases x with
 | non => cases r; rfl
 | bl _ => cases r; rfl
 | int _ => obtain ⟨t, rfl⟩ := r; rfl
 | str _ => obtain ⟨t, rfl⟩ := r; rfl
 | byt _ => obtain ⟨t, rfl⟩ := r; rfl
 | flt _ => obtain ⟨t, rfl⟩ := r; rfl
 | ref _ => cases r; rfl
 | ty _ => cases r; rfl
theorem de.inj {x y : V} {u : Value} (r : de x u) (q : de y u) : x = y := Option.some.inj (r.abs.symm.trans q.abs)
theorem b0.inj : ∀ {xs ys : List V} {us : List Value}, b0 xs us → b0 ys us → xs = ys
 | _, _, _, .nil, .nil => rfl
 | _, _, _, .cons r t, .cons r' t' => by rw [r.inj r', b0.inj t t']
section
variable {X : Cx} {pins : List (Addr × Obj)} {σ : St} {H : Hp} {s : Shared} {a : Addr} {xs ys : List V}
theorem SqL.of {K : PySem.W.Frag} (h : H a = some (.lst xs)) : SqL K H a xs := .inl (.inl h)
theorem SqT.of {K : PySem.W.Frag} (h : H a = some (.tup xs)) : SqT K H a xs := .inl (.inl h)
theorem Inv.list (I : Inv X pins σ H s) (h : SqL X.K H a xs) : ∃ its : List Value, b0 xs its ∧ PlainL s.heap a its.toArray ∧ xs.length ≤ sizeLine := by
 rcases h with h | ⟨o, its, n, hk, hc, hd, hs, hz, r⟩
 ·obtain ⟨z, its, n, r, e⟩ := h.ok I.hok
  exact ⟨its, r, ⟨_, n, e, rfl, rfl, rfl⟩, z⟩
 ·refine ⟨its.toList, r, ⟨o, n, I.kIn a o hk, hc, hd, by simpa using hs⟩, ?_⟩
  have e := r.length
  simp only [Array.length_toList] at e
  omega
theorem Inv.tuple (I : Inv X pins σ H s) (h : SqT X.K H a xs) : ∃ its : List Value, b0 xs its ∧ IsTup s.heap a its.toArray ∧ xs.length ≤ sizeLine := by
 rcases h with h | ⟨o, its, n, hk, hc, hs, hz, r⟩
 ·obtain ⟨z, its, r, p⟩ := h.ok I.hok
  exact ⟨its, r, p, z⟩
 ·refine ⟨its.toList, r, ⟨o, I.kIn a o hk, hc, n, by simpa using hs⟩, ?_⟩
  have e := r.length
  simp only [Array.length_toList] at e
  omega
theorem Inv.list_inj (I : Inv X pins σ H s) (h : SqL X.K H a xs) (h' : SqL X.K H a ys) : xs = ys := by
 obtain ⟨its, r, ⟨o, n, e, _, _, d⟩, _⟩ := I.list h
 obtain ⟨its', r', ⟨o', n', e', _, _, d'⟩, _⟩ := I.list h'
 rw [e] at e'; cases e'
 rw [d] at d'
 injection d' with d1 _
 have : its = its' := by simpa using congrArg Array.toList d1
 subst this
 exact r.inj r'
theorem Inv.tuple_inj (I : Inv X pins σ H s) (h : SqT X.K H a xs) (h' : SqT X.K H a ys) : xs = ys := by
 obtain ⟨its, r, ⟨o, e, _, n, d⟩, _⟩ := I.tuple h
 obtain ⟨its', r', ⟨o', e', _, n', d'⟩, _⟩ := I.tuple h'
 rw [e] at e'; cases e'
 rw [d] at d'
 injection d' with d1 _
 have : its = its' := by simpa using congrArg Array.toList d1
 subst this
 exact r.inj r'
end
noncomputable abbrev Cx.wish (X : Cx) (E : Value → Shared → Prop) : Cx := { X with xe := E }
noncomputable abbrev Cx.nox (X : Cx) : Cx := X.wish fun _ _ => False
theorem Cx.Ok.wish {X : Cx} (ok : X.Ok) (E : Value → Shared → Prop) : (X.wish E).Ok :=
 ⟨ok.mod, ok.kind, ok.glob, ok.blt, ok.above, ok.inj, ok.has, ok.cab, ok.hd, ok.frames, ok.stk, ok.exf, ok.bs, ok.bsz, ok.noex, ok.exfs, ok.funs, ok.frf⟩
theorem Cx.Ok.unwish {X : Cx} {E : Value → Shared → Prop} (ok : (X.wish E).Ok) : X.Ok :=
 ⟨ok.mod, ok.kind, ok.glob, ok.blt, ok.above, ok.inj, ok.has, ok.cab, ok.hd, ok.frames, ok.stk, ok.exf, ok.bs, ok.bsz, ok.noex, ok.exfs, ok.funs, ok.frf⟩
section
variable {X : Cx} {pins : List (Addr × Obj)} {σ : St} {H : Hp} {s : Shared} {E : Value → Shared → Prop}
theorem Inv.wish (I : Inv X pins σ H s) (E : Value → Shared → Prop) : Inv (X.wish E) pins σ H s := ⟨I.ok.wish E, I.os, I.bare, I.base, I.loc, I.cell, I.free, I.freeC, I.pin, I.hok, I.len⟩
theorem Inv.unwish (I : Inv (X.wish E) pins σ H s) : Inv X pins σ H s := ⟨I.ok.unwish, I.os, I.bare, I.base, I.loc, I.cell, I.free, I.freeC, I.pin, I.hok, I.len⟩
theorem SP.unwish {D : we} {f : Flow} {s' : Shared} (h : SP (X.wish E) pins D f s') : SP X pins D f s' := by
 cases f with
 | next => obtain ⟨σ', H', I, q⟩ := h; exact ⟨σ', H', I.unwish, q⟩
 | brk => obtain ⟨σ', H', I, q⟩ := h; exact ⟨σ', H', I.unwish, q⟩
 | cont => obtain ⟨σ', H', I, q⟩ := h; exact ⟨σ', H', I.unwish, q⟩
 | ret u => obtain ⟨v, σ', H', I, r, q⟩ := h; exact ⟨v, σ', H', I.unwish, r, q⟩
theorem PSs.nox {st : List Stmt} {t : TS} (h : PSs X.nox st t) : PSs X st t := fun pins s σ H D I hw =>
 wpAny_mono (h pins s σ H D (I.wish _) hw) (fun _ _ q => q.unwish) fun _ _ z => False.elim z
end
section
variable {X : Cx} {st : Stmt} {rest : List Stmt} {t u : TS} {e : Expr} {te : TE} {pos : Pos}
noncomputable def zP : TS := fun D σ H => D.nx σ H
noncomputable def D0 (t u : TS) : TS := fun D σ H => t { D with nx := u D } σ H
theorem xG : PSs X [] zP := fun _ _ σ H _ I h => wpAny_execs_nil ⟨σ, H, I, h⟩
theorem uy (h1 : PS X st t) (h2 : PSs X rest u) : PSs X (st :: rest) (D0 t u) := by
 intro pins s σ H D I h
 refine wpAny_execs_cons (thn (h1 pins s σ H { D with nx := u D } I h) fun f s1 q => ?_)
 cases f with
 | next =>
  obtain ⟨σ', H', I', q⟩ := q
  exact h2 pins s1 σ' H' D I' q
 | ret v => exact q
 | brk => exact q
 | cont => exact q
theorem xF (h1 : PS X st t) : PSs X [st] t := by
 intro pins s σ H D I h
 refine wpAny_execs_cons (thn (h1 pins s σ H D I h) fun f s1 q => ?_)
 cases f with
 | next => exact wpAny_execs_nil q
 | ret v => exact q
 | brk => exact q
 | cont => exact q
theorem Inv.quiet {pins : List (Addr × Obj)} {σ : St} {H : Hp} {s : Shared} (I : Inv X pins σ H s) : interactive X.env = false := by simp [interactive, I.ok.kind]
noncomputable def zQ (te : TE) : TS := fun D σ H => te σ H fun _ H1 => D.nx σ H1
theorem xH (he : PE X e te) (hs : swapsWith e none pos.line X.env = pure false := by rfl) : PS X (.Expr e pos) (zQ te) := by
 intro pins s σ H D I h
 exact wpAny_Expr_any (thn (he pins s σ H _ I h) fun v s1 ⟨x, H1, I1, r1, q1⟩ => ⟨σ, H1, I1, q1⟩) I.quiet hs
noncomputable def D1 (te : TE) : TS := fun D σ H => te σ H D.rt
theorem An (he : PE X e te) : PS X (.Return (some e) pos) (D1 te) := by
 intro pins s σ H D I h
 exact wpAny_Return_some (thn (he pins s σ H _ I h) fun v s1 ⟨x, H1, I1, r1, q1⟩ => ⟨x, σ, H1, I1, r1, q1⟩)
noncomputable def D4 (c : TT) (t u : TS) : TS := fun D σ H => c σ H fun b H1 => if b = true then t D σ H1 else u D σ H1
theorem C8 {c : Expr} {a b : List Stmt} {tc : TT} (hc : PT X c tc) (ha : PSs X a t) (hb : PSs X b u) : PS X (.If c a b pos) (D4 tc t u) := by
 intro pins s σ H D I h
 refine wpAny_If (thn (hc pins s σ H _ I h) fun d s1 ⟨H1, I1, q1⟩ => ?_)
 cases d with
 | true => exact ha pins s1 σ H1 D I1 q1
 | false => exact hb pins s1 σ H1 D I1 q1
noncomputable def vC : TS := fun _ _ _ => False
theorem uA : PS X st vC := fun _ _ _ _ _ _ h => h.elim
end
noncomputable abbrev TG := V → St → Hp → (St → Hp → Prop) → Prop
noncomputable abbrev TGs := List V → St → Hp → (St → Hp → Prop) → Prop
noncomputable def PG (X : Cx) (target : Expr) (t : TG) : Prop :=
 ∀ (pins : List (Addr × Obj)) (s : Shared) (σ : St) (H : Hp) (v : V) (u : Value) (Q : St → Hp → Prop), Inv X pins σ H s → de v u → t v σ H Q →
  wpAny (model X.prog X.w) X.A (assign target X.env u) (fun _ s' => ∃ σ' H', Inv X pins σ' H' s' ∧ Q σ' H') X.xe s
noncomputable def PGs (X : Cx) (ts : List Expr) (t : TGs) : Prop :=
 ∀ (pins : List (Addr × Obj)) (s : Shared) (σ : St) (H : Hp) (vs : List V) (us : List Value) (Q : St → Hp → Prop), Inv X pins σ H s → b0 vs us → t vs σ H Q →
  wpAny (model X.prog X.w) X.A (assignInOrder ((assignEach ts X.env).map (·.2)) us) (fun _ s' => ∃ σ' H', Inv X pins σ' H' s' ∧ Q σ' H') X.xe s
noncomputable abbrev BM := V → V → V → Hp → (Hp → Prop) → Prop
noncomputable def DW (X : Cx) (t : BM) : Prop :=
 ∀ (pins : List (Addr × Obj)) (s : Shared) (σ : St) (H : Hp) (o i v : V) (ov iv u : Value) (Q : Hp → Prop), Inv X pins σ H s → de o ov → de i iv → de v u → t o i v H Q →
  wpAny (model X.prog X.w) X.A (setItem ov iv u) (fun _ s' => ∃ H', Inv X pins σ H' s' ∧ Q H') X.xe s
section
variable {X : Cx} {pos : Pos}
noncomputable def qh (i : Nat) : TG := fun v σ H Q => Q (σ.set i (some v)) H
theorem xO {i : Nat} {x : Str} (hN : X.N.Nodup) (hi : X.N[i]? = some x) (hx : Loc X.env.scope x) (hf : X.fn x = true ∨ X.env.scope.names.lookup x = some .local := by first | exact .inl rfl | exact .inr rfl | assumption) : PG X (.Name x pos) (qh i) := by
 intro pins s σ H v u Q I r h
 exact wpAny_assign_Name (o2 I hN hi hx r (fun s' I' => ⟨_, H, I', h⟩) hf)
noncomputable def Er : TGs := fun vs σ H Q => vs = [] ∧ Q σ H
noncomputable def Bi (t : TG) (u : TGs) : TGs := fun vs σ H Q => ∃ v r, vs = v :: r ∧ t v σ H fun σ' H' => u r σ' H' Q
theorem xN : PGs X [] Er := by
 intro pins s σ H vs us Q I r h
 obtain ⟨e, h⟩ := h
 subst e
 cases r
 exact assignInOrder_nil ⟨σ, H, I, h⟩
theorem uD {e : Expr} {es : List Expr} {t : TG} {u : TGs} (h1 : PG X e t) (h2 : PGs X es u)
  (hs : (assignEach (e :: es) X.env).map (·.2) = assign e X.env :: (assignEach es X.env).map (·.2) := by rfl) : PGs X (e :: es) (Bi t u) := by
 intro pins s σ H vs us Q I r h
 obtain ⟨v, vr, e1, h⟩ := h
 subst e1
 cases r with
 | cons r rr =>
  rw [hs]
  refine assignInOrder_cons (thn (h1 pins s σ H _ _ _ I r h) fun _ s1 hz => ?_)
  obtain ⟨σ1, H1, I1, q1⟩ := hz
  exact h2 pins s1 σ1 H1 _ _ Q I1 rr q1
noncomputable def Eo (K : PySem.W.Frag) (n : Nat) (t : TGs) : TG := fun v σ H Q => ∃ a xs, v = .ref a ∧ SqT K H a xs ∧ xs.length = n ∧ t xs σ H Q
theorem As {es : List Expr} {k : Nat} {t : TGs} {n : Nat} (hc : X.calm = true) (h : PGs X es t)
  (hn : (assignEach es X.env).length = n := by rfl) (hst : (assignEach es X.env).findIdx? (·.1) = none := by rfl) : PG X (.Tuple es k pos) (Eo X.K n t) := by
 intro pins s σ H v u Q I r hw
 obtain ⟨a, xs, e1, hq, hl, hw⟩ := hw
 subst e1
 cases r
 obtain ⟨its, rv, ht, hz⟩ := I.tuple hq
 refine assign_Tuple_tuple (I.ok.hd hc) ht (by simp [hn, ← hl, rv.length]) hst fun h' hx => ?_
 have I1 : Inv X pins σ H { s with heap := h' } := I.kept (t' := s.toks) fun b o e => hx b o (Nat.ne_of_lt (Heap.lt_size e)) e
 exact h pins _ σ H xs _ Q I1 (by simpa using rv) hw
noncomputable def Ep (to ti : TE) (t : BM) : TG := fun v σ H Q => to σ H fun o H1 => ti σ H1 fun i H2 => t o i v H2 fun H3 => Q σ H3
theorem Au {o i : Expr} {to ti : TE} {t : BM} (ho : PE X o to) (hi : PE X i ti) (hs : DW X t)
  (ha : ∀ v, assign (.Subscript o i pos) X.env v = (do
   let ov ← holding [v] (eval o X.env)
   let iv ← holding [v, ov] (eval i X.env)
   standAt pos
   holding [v, ov, iv] (setItem ov iv v)
   release [v, ov, iv] []) := by intro _; rfl) : PG X (.Subscript o i pos) (Ep to ti t) := by
 intro pins s σ H v u Q I r h
 rw [ha]
 refine wpAny_bind (wpAny_holding (thn (ho pins s σ H _ I h) fun ov s1 hz => ?_))
 obtain ⟨x, H1, I1, r1, q1⟩ := hz
 refine wpAny_bind (wpAny_holding (thn (hi pins s1 σ H1 _ I1 q1) fun iv s2 hz => ?_))
 obtain ⟨y, H2, I2, r2, q2⟩ := hz
 refine wpAny_bind (wpAny_standAt (wpAny_bind (wpAny_holding (thn (hs pins s2 σ H2 x y v ov iv u _ I2 r1 r2 r q2) fun _ s3 ⟨H3, I3, q3⟩ => ?_))))
 exact wpAny_release ⟨σ, H3, I3, q3⟩
noncomputable def Bz (te : TE) (g : TG) : TS := fun D σ H => te σ H fun x H1 => g x σ H1 D.nx
theorem Aq {tg e : Expr} {te : TE} {g : TG} (he : PE X e te) (hg : PG X tg g) (hs : swapsWithSole [tg] e pos.line X.env = pure false := by rfl) (hw : swappedStores [tg] e X.env = pure none := by rfl)
  (h1 : (assignEach [tg] X.env).map (·.2) = [assign tg X.env] := by rfl) : PS X (.Assign [tg] e pos) (Bz te g) := by
 intro pins s σ H D I h
 refine wpAny_Assign_stores (thn (he pins s σ H _ I h) fun v s1 hz => ?_) hs hw
 obtain ⟨x, H1, I1, r1, q1⟩ := hz
 rw [h1]
 exact thn (hg pins s1 σ H1 x v _ I1 r1 q1) fun _ s2 q => q
theorem Am {i : Nat} {x : Str} {e : Expr} {te : TE} {pos' : Pos} (hN : X.N.Nodup) (hi : X.N[i]? = some x) (hx : Loc X.env.scope x) (he : PE X e te) (hs : swapsWith e (some (.Name x pos')) pos.line X.env = pure false := by rfl) (hf : X.fn x = true ∨ X.env.scope.names.lookup x = some .local := by first | exact .inl rfl | exact .inr rfl | assumption) :
  PS X (.Assign [.Name x pos'] e pos) (Bz te (qh i)) := by
 intro pins s σ H D I h
 refine wpAny_Assign_Name (thn (he pins s σ H _ I h) fun v s1 hz => ?_) hs
 obtain ⟨y, H1, I1, r1, q1⟩ := hz
 exact o2 I1 hN hi hx r1 (fun s2 I2 => ⟨_, H1, I2, q1⟩) hf
end
section
variable {X : Cx} {pos : Pos}
noncomputable def qS (c : TT) (tb : TS) : TS := fun D σ H => ∃ W : Nat → St → Hp → Prop, (∃ m, W m σ H) ∧ ∀ m σ H, W m σ H →
 c σ H fun b H1 => if b = true then ∃ N : St → Hp → Prop, (∀ σ' H', N σ' H' → ∃ m', m' < m ∧ W m' σ' H') ∧ tb { D with nx := N, ct := N, bk := D.nx } σ H1 else D.nx σ H1
theorem uz {c : Expr} {body : List Stmt} {tc : TT} {tb : TS} (hp : PassesOwn (model X.prog X.w) X.A X.env X.xe) (hc : PT X c tc) (hb : PSs X body tb) : PS X (.While c body [] pos) (qS tc tb) := by
 intro pins s σ H D I h
 obtain ⟨W, ⟨m0, w0⟩, turn⟩ := h
 refine wpAny_While (codeAny_whileLoop (fun n s' => ∃ σ' H', Inv X pins σ' H' s' ∧ W n σ' H') ?_ m0 ⟨σ, H, I, w0⟩)
 rintro n s1 ⟨σ1, H1, I1, w1⟩
 refine wpAny_passesOwn hp (thn (hc pins s1 σ1 H1 _ I1 (turn n σ1 H1 w1)) fun b s2 ⟨H2, I2, q2⟩ => ?_)
 cases b with
 | true =>
  obtain ⟨N, hN, q2⟩ := q2
  rw [if_pos rfl]
  refine wpAny_passesOwn hp (thn (hb pins s2 σ1 H2 _ I2 q2) fun f s3 q3 => ?_)
  cases f with
  | next =>
   obtain ⟨σ3, H3, I3, n3⟩ := q3
   obtain ⟨m', hm, w3⟩ := hN σ3 H3 n3
   exact ⟨m', hm, σ3, H3, I3, w3⟩
  | cont =>
   obtain ⟨σ3, H3, I3, n3⟩ := q3
   obtain ⟨m', hm, w3⟩ := hN σ3 H3 n3
   exact ⟨m', hm, σ3, H3, I3, w3⟩
  | brk => exact q3
  | ret v => exact q3
 | false =>
  rw [if_neg Bool.false_ne_true]
  exact wpAny_execs_nil ⟨σ1, H2, I2, q2⟩
end
structure It where
 go : Nat → Hp → Prop
 yld : Nat → Hp → V → Hp → Prop
 stop : Nat → Hp → Prop
noncomputable def tu (X : Cx) (pins : List (Addr × Obj)) (H : Hp) (b : Addr) : Prop :=
 H b = none ∧ b ≠ X.env.locals ∧ b ∉ X.fs ∧ (b ∈ X.ex ∨ X.s₀.heap.objs.size ≤ b) ∧ (∀ x c, X.env.cells.lookup x = some c → c ≠ b) ∧ ∀ p ∈ X.pn ++ pins, p.1 ≠ b
theorem Inv.fpOk {X : Cx} {pins : List (Addr × Obj)} {σ : St} {H H' : Hp} {s : Shared} {b : Addr} (I : Inv X pins σ H s) (hb : s.heap.objs.size ≤ b) (hn : H' b = none) : tu X pins H' b := by
 refine ⟨hn, Nat.ne_of_gt (Nat.lt_of_lt_of_le I.lt hb), I.nofs hb, .inr (Nat.le_trans I.sz hb), fun x c e z => ?_, fun p hp z => ?_⟩
 ·obtain ⟨v, q⟩ := I.cell x c e
  exact absurd (Nat.lt_of_lt_of_le q.lt (by rw [z]; exact hb)) (Nat.lt_irrefl _)
 ·exact absurd (Nat.lt_of_lt_of_le (Heap.lt_size (I.pin p hp).1) (by rw [z]; exact hb)) (Nat.lt_irrefl _)
structure yI (P : Program) (w : World) (K : PySem.W.Frag) (tg : Expr) (J : It) (fp : List Addr) (it : Addr) (tn : Nat → Heap → Prop) : Prop where
 mem : it ∈ fp
 obj : ∀ i h, tn i h → ∀ b ∈ fp, ∃ o, h.get? b = some o ∧ ∀ v, o.data ≠ .cell v
 keep : ∀ i h h', tn i h → (∀ b ∈ fp, ∀ o, h.get? b = some o → h'.get? b = some o) → tn i h'
 item : ∀ (X : Cx), X.prog = P → X.w = w → X.K = K → X.calm = true → ∀ (i : Nat) (pins : List (Addr × Obj)) (s : Shared) (σ : St) (H : Hp) (E : Value → Shared → Prop), Inv X pins σ H s → (∀ b ∈ fp, tu X pins H b) → tn i s.heap → J.go i H →
  wpAny (model P w) X.A (pyNext (.ref it)) (fun r s1 => ∃ u, r = some u ∧
   wpAny (model P w) X.A (letOwnedTupleGo tg (.ref it) u) (fun _ s2 => ∃ x H', Inv X pins σ H' s2 ∧ de x u ∧ J.yld i H x H' ∧ tn (i + 1) s2.heap ∧ ∀ b ∈ fp, H' b = none) E s1) E s
 done : ∀ (X : Cx), X.prog = P → X.w = w → X.K = K → X.calm = true → ∀ (i : Nat) (pins : List (Addr × Obj)) (s : Shared) (σ : St) (H : Hp) (E : Value → Shared → Prop), Inv X pins σ H s → (∀ b ∈ fp, tu X pins H b) → tn i s.heap → J.stop i H →
  wpAny (model P w) X.A (pyNext (.ref it)) (fun r s1 => r = none ∧ Inv X pins σ H s1) E s
 self : ∀ (A : Around) (i : Nat) (s : Shared) (Q : Value → Shared → Prop) (E : Value → Shared → Prop), tn i s.heap → Q (.ref it) s → wpAny (model P w) A (pyIter (.ref it)) Q E s
noncomputable abbrev TI := St → Hp → (It → Hp → Prop) → Prop
noncomputable def PIE (X : Cx) (pins : List (Addr × Obj)) (σ : St) (tg : Expr) (R : It → Hp → Prop) (itv : Value) (s2 : Shared) : Prop :=
 ∃ (it : Addr) (fp : List Addr) (tn : Nat → Heap → Prop) (J : It) (H' : Hp), itv = .ref it ∧ Inv X pins σ H' s2 ∧ yI X.prog X.w X.K tg J fp it tn ∧ tn 0 s2.heap ∧ (∀ b ∈ fp, tu X pins H' b) ∧ R J H'
noncomputable def PI (X : Cx) (tg iter : Expr) (wi : TI) : Prop :=
 ∀ (pins : List (Addr × Obj)) (s : Shared) (σ : St) (H : Hp) (R : It → Hp → Prop), Inv X pins σ H s → wi σ H R →
  wpAny (model X.prog X.w) X.A (eval iter X.env) (fun v s1 => wpAny (model X.prog X.w) X.A (pyIter v) (PIE X pins σ tg R) X.xe s1) X.xe s
theorem u9 {M : Model} {A : Around} {E : Value → Shared → Prop} {s : Shared} {tg : Expr} {it : Addr} {u : Value} {o : Obj} {n : String} {vs : Array Value} {Q : Unit → Shared → Prop} (ho : s.heap.get? it = some o) (hc : o.cls = .type n) (hd : o.data = .fields vs)
    (hn : ["enumerate", "zip", "dict_itemiterator", "dict_reverseitemiterator", "odict_iterator", "itertools.zip_longest", "itertools.pairwise"].contains n = false) (hQ : Q () s) : wpAny M A (letOwnedTupleGo tg (.ref it) u) Q E s := by
  unfold letOwnedTupleGo
  cases tg <;> first
    | exact wpAny_pure hQ
    | (cases u <;> first
        | exact wpAny_pure hQ
        | (refine wpAny_bind (wpAny_load ho ?_)
           rw [hc, hd]
           show wpAny M A (if (["enumerate", "zip", "dict_itemiterator", "dict_reverseitemiterator", "odict_iterator", "itertools.zip_longest", "itertools.pairwise"].contains n && vs[0]? == some (rawInt _)) = true then _ else _) Q E s
           rw [if_neg (by intro h; rw [hn, Bool.false_and] at h; cases h)]
           exact wpAny_pure hQ))
noncomputable def Itl (K : PySem.W.Frag) (a : Addr) : It :=
 ⟨fun i H => ∃ xs x, SqL K H a xs ∧ xs[i]? = some x, fun i H x H' => H' = H ∧ ∀ xs, SqL K H a xs → xs[i]? = some x, fun i H => ∃ xs, SqL K H a xs ∧ xs.length ≤ i⟩
noncomputable def Itt (K : PySem.W.Frag) (a : Addr) : It :=
 ⟨fun i H => ∃ xs x, SqT K H a xs ∧ xs[i]? = some x, fun i H x H' => H' = H ∧ ∀ xs, SqT K H a xs → xs[i]? = some x, fun i H => ∃ xs, SqT K H a xs ∧ xs.length ≤ i⟩
noncomputable def Itr (lo : Int) (n : Nat) : It := ⟨fun i _ => i < n, fun i H x H' => H' = H ∧ x = .int (lo + i), fun i _ => n ≤ i⟩
theorem qR {P : Program} {w : World} {K : PySem.W.Frag} {tg : Expr} (a it : Addr) : yI P w K tg (Itl K a) [it] it (fun i h => h.IsListIter it a i) where
 mem := by simp
 obj := fun i h st b hb => by
  have e : b = it := by simpa using hb
  subst e
  obtain ⟨o, e, c, d⟩ := st
  exact ⟨o, e, fun v z => by rw [d] at z; cases z⟩
 keep := fun i h h' st k => st.at fun o e => k it (by simp) o e
 item := by
  intro X hP hw hK hc i pins s σ H E I hf st hg
  subst hP hw hK
  obtain ⟨xs, x, hq, hx⟩ := hg
  obtain ⟨its, rv, p, hz⟩ := I.list hq
  obtain ⟨u, hu, ru⟩ := rv.get hx
  obtain ⟨f0, f1, f2, f3, f4, f5⟩ := hf it (by simp)
  refine wpAny_pyNext_list_item st p.isList (x := u) (by simpa using hu) fun h' st' sb => ?_
  have I1 : Inv X pins σ H { s with heap := h' } := I.turned (t' := s.toks) (fun b o hb e => (sb.2 b hb).trans e) f0 f1 f3 f4 f5
  obtain ⟨o, e, c, d⟩ := id st'
  exact ⟨u, rfl, u9 (s := { s with heap := h' }) e c d (by decide) ⟨x, H, I1, ru, ⟨rfl, fun ys hy => by rw [I.list_inj hy hq]; exact hx⟩, st', fun b hb => (hf b hb).1⟩⟩
 done := by
  intro X hP hw hK hc i pins s σ H E I hf st hg
  subst hP hw hK
  obtain ⟨xs, hq, hx⟩ := hg
  obtain ⟨its, rv, p, hz⟩ := I.list hq
  obtain ⟨f0, f1, f2, f3, f4, f5⟩ := hf it (by simp)
  have hl := rv.length
  exact wpAny_pyNext_list_end (I.ok.hd hc) st p.isList (by simp; omega) fun h' eb => ⟨rfl, I.turned (t' := s.toks) (fun b o hb e => eb b o hb e) f0 f1 f3 f4 f5⟩
 self := fun _ _ _ _ _ st h => wpAny_pyIter_listiter st h
theorem pT {P : Program} {w : World} {K : PySem.W.Frag} {tg : Expr} (a it : Addr) : yI P w K tg (Itt K a) [it] it (fun i h => h.IsTupleIter it a i) where
 mem := by simp
 obj := fun i h st b hb => by
  have e : b = it := by simpa using hb
  subst e
  obtain ⟨o, e, c, d⟩ := st
  exact ⟨o, e, fun v z => by rw [d] at z; cases z⟩
 keep := fun i h h' st k => st.at fun o e => k it (by simp) o e
 item := by
  intro X hP hw hK hc i pins s σ H E I hf st hg
  subst hP hw hK
  obtain ⟨xs, x, hq, hx⟩ := hg
  obtain ⟨its, rv, p, hz⟩ := I.tuple hq
  obtain ⟨u, hu, ru⟩ := rv.get hx
  obtain ⟨f0, f1, f2, f3, f4, f5⟩ := hf it (by simp)
  refine wpAny_pyNext_tuple_item st (show s.heap.IsTuple a its.toArray from p) (x := u) (by simpa using hu) fun h' st' sb => ?_
  have I1 : Inv X pins σ H { s with heap := h' } := I.turned (t' := s.toks) (fun b o hb e => (sb.2 b hb).trans e) f0 f1 f3 f4 f5
  obtain ⟨o, e, c, d⟩ := id st'
  exact ⟨u, rfl, u9 (s := { s with heap := h' }) e c d (by decide) ⟨x, H, I1, ru, ⟨rfl, fun ys hy => by rw [I.tuple_inj hy hq]; exact hx⟩, st', fun b hb => (hf b hb).1⟩⟩
 done := by
  intro X hP hw hK hc i pins s σ H E I hf st hg
  subst hP hw hK
  obtain ⟨xs, hq, hx⟩ := hg
  obtain ⟨its, rv, p, hz⟩ := I.tuple hq
  obtain ⟨f0, f1, f2, f3, f4, f5⟩ := hf it (by simp)
  have hl := rv.length
  exact wpAny_pyNext_tuple_end (I.ok.hd hc) st (show s.heap.IsTuple a its.toArray from p) (by simp; omega) fun h' eb => ⟨rfl, I.turned (t' := s.toks) (fun b o hb e => eb b o hb e) f0 f1 f3 f4 f5⟩
 self := fun _ _ _ _ _ st h => wpAny_pyIter_tupleiter st h
theorem pV {P : Program} {w : World} {K : PySem.W.Frag} {tg : Expr} (it : Addr) (lo : Int) (n : Nat) : yI P w K tg (Itr lo n) [it] it (fun i h => IsRangeIter h it (lo + (i : Nat) * 1) ((n : Int) - (i : Nat)) 1) where
 mem := by simp
 obj := fun i h st b hb => by
  have e : b = it := by simpa using hb
  subst e
  exact ⟨_, st, fun v z => by
   have z' : Data.fields _ = Data.cell v := z
   cases z'⟩
 keep := fun i h h' st k => k it (by simp) _ st
 item := by
  intro X hP hw hK hc i pins s σ H E I hf st hg
  subst hP hw hK
  obtain ⟨f0, f1, f2, f3, f4, f5⟩ := hf it (by simp)
  have W := Walks.range (prog := X.prog) (w := X.w) (I.ok.hd hc) it lo 1 n
  refine W.item i s _ _ hg st fun v h' tk hv st' kk => ?_
  obtain ⟨t, rfl⟩ := hv
  have I1 : Inv X pins σ H { s with heap := h', toks := tk } := I.turned (fun b o hb e => kk b o (by simpa using hb) e) f0 f1 f3 f4 f5
  refine ⟨_, rfl, u9 (s := { s with heap := h', toks := tk }) (n := "range_iterator") st' rfl rfl (by decide) ⟨.int (lo + i), H, I1, ⟨t, ?_⟩, ⟨rfl, rfl⟩, st', fun b hb => (hf b hb).1⟩⟩
  rw [Int.mul_one]
 done := by
  intro X hP hw hK hc i pins s σ H E I hf st hg
  subst hP hw hK
  obtain ⟨f0, f1, f2, f3, f4, f5⟩ := hf it (by simp)
  exact wpAny_pyNext_range_end (I.ok.hd hc) st (by have : n ≤ i := hg; omega) fun h' eb => ⟨rfl, I.turned (t' := s.toks) (fun b o hb e => eb b o hb e) f0 f1 f3 f4 f5⟩
 self := fun _ _ _ _ _ st h => wpAny_pyIter_rangeiter st h
section
variable {X : Cx} {tg : Expr}
noncomputable def Bh (K : PySem.W.Frag) (tl : TE) : TI := fun σ H R => tl σ H fun x H1 => ∃ a, x = .ref a ∧ (∃ xs, SqL K H1 a xs) ∧ R (Itl K a) H1
noncomputable def En (K : PySem.W.Frag) (tl : TE) : TI := fun σ H R => tl σ H fun x H1 => ∃ a, x = .ref a ∧ (∃ xs, SqT K H1 a xs) ∧ R (Itt K a) H1
theorem xM {l : Expr} {tl : TE} (hl : PE X l tl) : PI X tg l (Bh X.K tl) := by
 intro pins s σ H R I h
 refine thn (hl pins s σ H _ I h) fun v s1 hz => ?_
 obtain ⟨x, H1, I1, r1, q1⟩ := hz
 obtain ⟨a, e, ⟨xs, hq⟩, q⟩ := q1
 subst e
 cases r1
 obtain ⟨its, rv, p, hz⟩ := I1.list hq
 refine wpAny_pyIter_list p.isList ?_
 refine ⟨s1.heap.objs.size, [s1.heap.objs.size], _, _, H1, rfl, I1.kept (t' := s1.toks) fun b o e => Heap.get?_push_of_some _ e, qR a _, ⟨_, Heap.get?_push_size _ rfl, rfl, rfl⟩, fun b hb => ?_, q⟩
 have e : b = s1.heap.objs.size := by simpa using hb
 subst e
 exact I1.fpOk (Nat.le_refl _) (I1.hok.fresh (Nat.le_refl _))
theorem Ar {l : Expr} {tl : TE} (hl : PE X l tl) : PI X tg l (En X.K tl) := by
 intro pins s σ H R I h
 refine thn (hl pins s σ H _ I h) fun v s1 hz => ?_
 obtain ⟨x, H1, I1, r1, q1⟩ := hz
 obtain ⟨a, e, ⟨xs, hq⟩, q⟩ := q1
 subst e
 cases r1
 obtain ⟨its, rv, p, hz⟩ := I1.tuple hq
 refine wpAny_pyIter_tuple (show s1.heap.IsTuple a its.toArray from p) ?_
 refine ⟨s1.heap.objs.size, [s1.heap.objs.size], _, _, H1, rfl, I1.kept (t' := s1.toks) fun b o e => Heap.get?_push_of_some _ e, pT a _, ⟨_, Heap.get?_push_size _ rfl, rfl, rfl⟩, fun b hb => ?_, q⟩
 have e : b = s1.heap.objs.size := by simpa using hb
 subst e
 exact I1.fpOk (Nat.le_refl _) (I1.hok.fresh (Nat.le_refl _))
theorem um {pins : List (Addr × Obj)} {σ : St} {H : Hp} {s : Shared} {R : It → Hp → Prop} {E : Value → Shared → Prop} {lo hi : Int} {t u v : Tok} {tk : Nat} (I : Inv X pins σ H s) (h1 : -(2 ^ 62) ≤ lo) (h2 : lo < 2 ^ 62) (h3 : -(2 ^ 62) ≤ hi) (h4 : hi < 2 ^ 62)
  (q : R (Itr lo (hi - lo).toNat) H) : wpAny (model X.prog X.w) X.A (pyIter (.ref s.heap.objs.size)) (PIE X pins σ tg R) E { s with heap := s.heap.push { cls := .type "range", data := .fields #[.int lo t, .int hi u, .int 1 v] }, toks := tk } := by
 refine wpAny_pyIter_range (IsRange.new ..) (small_one h1 h2 h3 h4) ?_
 have I1 : Inv X pins σ H { s with heap := s.heap.push { cls := .type "range", data := .fields #[.int lo t, .int hi u, .int 1 v] }, toks := tk } := I.kept fun b o e => Heap.get?_push_of_some _ e
 refine ⟨(s.heap.push { cls := .type "range", data := .fields #[.int lo t, .int hi u, .int 1 v] }).objs.size, [(s.heap.push { cls := .type "range", data := .fields #[.int lo t, .int hi u, .int 1 v] }).objs.size], _, _, H, rfl,
  I1.kept (t' := tk) fun b o e => Heap.get?_push_of_some _ e, pV _ lo (hi - lo).toNat, ?_, fun b hb => ?_, q⟩
 ·have e1 : lo + ((0 : Nat) : Int) * 1 = lo := by simp
  have e2 : (((hi - lo).toNat : Nat) : Int) - ((0 : Nat) : Int) = Builtin.Range.rangeSize lo hi 1 := by rw [rangeSize_one]; split <;> omega
  show IsRangeIter _ _ (lo + ((0 : Nat) : Int) * 1) ((((hi - lo).toNat : Nat) : Int) - ((0 : Nat) : Int)) 1
  rw [e1, e2]
  exact Heap.get?_push_size _ rfl
 ·have e : b = (s.heap.push { cls := .type "range", data := .fields #[.int lo t, .int hi u, .int 1 v] }).objs.size := by simpa using hb
  subst e
  exact I1.fpOk (Nat.le_refl _) (I1.hok.fresh (Nat.le_refl _))
noncomputable def Bg (ta : TA) : TI := fun σ H R => ta σ H fun vs H1 => ∃ j : Int, vs = [.int j] ∧ -(2 ^ 62) ≤ j ∧ j < 2 ^ 62 ∧ R (Itr 0 j.toNat) H1
theorem rD {a : Expr} {ta : TA} {p pos : Pos} (hg : Gl X "range") (hm : X.mg "range" = none) (ha : PA X [a] ta) (hs : starEach [a] X.env = [(false, eval a X.env)] := by rfl) : PI X tg (.Call (.Name "range" p) [a] [] pos) (Bg ta) := by
 intro pins s σ H R I h
 refine Call_ (mW I hg hm boot_range (PyProof.Rows.callWith_type1 (thn (ha pos pins s σ H _ I h) fun us s1 ⟨vs, H1, I1, r1, q1⟩ => ?_) hs rfl))
 obtain ⟨j, e, q1, q2, q⟩ := q1
 subst e
 cases r1 with
 | cons r rr =>
  cases rr
  obtain ⟨t, rfl⟩ := r
  exact call_range_1 (um I1 (by omega) (by omega) q1 q2 (by simpa using q))
noncomputable def C1 (wi : TI) (g : TG) (tb : TS) : TS := fun D σ H => wi σ H fun J H1 => ∃ W : Nat → Nat → St → Hp → Prop, (∃ m, W 0 m σ H1) ∧ ∀ i m σ H, W i m σ H →
 (J.stop i H ∧ D.nx σ H) ∨ (J.go i H ∧ ∃ N : St → Hp → Prop, (∀ σ' H', N σ' H' → ∃ m', m' < m ∧ W (i + 1) m' σ' H') ∧ ∀ x H', J.yld i H x H' → g x σ H' fun σ2 H2 => tb { D with nx := N, ct := N, bk := D.nx } σ2 H2)
noncomputable def pd (fp : List Addr) (h : Heap) : List (Addr × Obj) := fp.filterMap fun b => (h.get? b).map fun o => (b, o)
theorem fJ {fp : List Addr} {h : Heap} {b : Addr} {o : Obj} (hb : b ∈ fp) (e : h.get? b = some o) : (b, o) ∈ pd fp h := List.mem_filterMap.mpr ⟨b, hb, by rw [e]; rfl⟩
theorem rJ {fp : List Addr} {h : Heap} {p : Addr × Obj} (hp : p ∈ pd fp h) : p.1 ∈ fp ∧ h.get? p.1 = some p.2 := by
 obtain ⟨b, hb, e⟩ := List.mem_filterMap.mp hp
 cases q : h.get? b with
 | none => rw [q] at e; cases e
 | some o =>
  rw [q] at e
  have e' : (b, o) = p := Option.some.inj e
  subst e'
  exact ⟨hb, q⟩
theorem Inv.pinned {pins : List (Addr × Obj)} {σ : St} {H : Hp} {s : Shared} {fp : List Addr} (I : Inv X pins σ H s) (hf : ∀ b ∈ fp, tu X pins H b) (ho : ∀ b ∈ fp, ∃ o, s.heap.get? b = some o ∧ ∀ v, o.data ≠ .cell v) : Inv X (pins ++ pd fp s.heap) σ H s :=
 I.pins_of fun p hp => (List.mem_append.mp hp).elim (fun z => I.pin p (List.mem_append_right _ z)) fun z => by
  obtain ⟨hb, e⟩ := rJ z
  obtain ⟨f0, f1, f2, _⟩ := hf p.1 hb
  obtain ⟨o, e', d⟩ := ho p.1 hb
  rw [e] at e'; cases e'
  exact ⟨e, f0, f1, f2, d⟩
theorem Inv.unpinned {pins pl : List (Addr × Obj)} {σ : St} {H : Hp} {s : Shared} (I : Inv X (pins ++ pl) σ H s) : Inv X pins σ H s := I.pins_of fun p hp => I.pin p (List.mem_append_right _ (List.mem_append_left _ hp))
theorem Ao {iter : Expr} {body : List Stmt} {wi : TI} {g : TG} {tb : TS} {pos : Pos} (hp : PassesOwn (model X.prog X.w) X.A X.env X.xe) (hc : X.calm = true) (hi : PI X tg iter wi) (hg : PG X tg g) (hb : PSs X body tb)
  (hs : ∀ x, foldedSetIterable iter X.env x = pure x := by intro _; rfl) : PS X (.For tg iter body [] pos) (C1 wi g tb) := by
 intro pins s σ H D I h
 refine wpAny_For (thn (hi pins s σ H _ I h) fun v s1 h1 => thn h1 fun itv s2 h2 => ?_) hs
 obtain ⟨it, fp, tn, J, H2, e, I2, T, st2, f2, W, ⟨m0, w0⟩, turn⟩ := h2
 subst e
 have stat : ∀ {H' : Hp}, (∀ b ∈ fp, H' b = none) → ∀ b ∈ fp, tu X pins H' b := fun hn b hb => ⟨hn b hb, (f2 b hb).2⟩
 refine codeAny_forLoop_any (fun n s' => ∃ i σ' H', Inv X pins σ' H' s' ∧ tn i s'.heap ∧ (∀ b ∈ fp, H' b = none) ∧ W i n σ' H') ?_ m0 ⟨0, σ, H2, I2, st2, fun b hb => (f2 b hb).1, w0⟩
 rintro n s3 ⟨i, σ3, H3, I3, st3, fr3, w3⟩
 rcases turn i n σ3 H3 w3 with ⟨stop, qn⟩ | ⟨go, N, hN, step⟩
 ·refine wpAny_passesOwn hp (thn (T.done X rfl rfl rfl hc i pins s3 σ3 H3 X.xe I3 (stat fr3) st3 stop) fun r s4 ⟨hr, I4⟩ => ?_)
  subst hr
  exact wpAny_execs_nil ⟨σ3, H3, I4, qn⟩
 ·refine wpAny_passesOwn hp (thn (T.item X rfl rfl rfl hc i pins s3 σ3 H3 X.xe I3 (stat fr3) st3 go) fun r s4 ⟨u, hr, h4⟩ => ?_)
  subst hr
  refine wpAny_passesOwn hp (thn h4 fun _ s5 hz => ?_)
  obtain ⟨x, H5, I5, r5, y5, st5, fr5⟩ := hz
  have I5' := I5.pinned (stat fr5) (T.obj _ _ st5)
  refine wpAny_passesOwn hp (thn (hg _ s5 σ3 H5 x u _ I5' r5 (step x H5 y5)) fun _ s6 hz => ?_)
  obtain ⟨σ6, H6, I6, q6⟩ := hz
  refine wpAny_passesOwn hp (thn (hb _ s6 σ6 H6 _ I6 q6) fun f s7 q7 => ?_)
  have again : ∀ {σ7 : St} {H7 : Hp}, Inv X (pins ++ pd fp s5.heap) σ7 H7 s7 → N σ7 H7 → ∃ m, m < n ∧ ∃ i σ' H', Inv X pins σ' H' s7 ∧ tn i s7.heap ∧ (∀ b ∈ fp, H' b = none) ∧ W i m σ' H' := fun {σ7 H7} I7 n7 => by
   obtain ⟨m', hm, w7⟩ := hN σ7 H7 n7
   refine ⟨m', hm, i + 1, σ7, H7, I7.unpinned, T.keep _ _ _ st5 fun b hb o e => (I7.pin (b, o) (List.mem_append_right _ (List.mem_append_right _ (fJ hb e)))).1, fun b hb => ?_, w7⟩
   obtain ⟨o, e, d⟩ := T.obj _ _ st5 b hb
   exact (I7.pin (b, o) (List.mem_append_right _ (List.mem_append_right _ (fJ hb e)))).2.1
  cases f with
  | next => obtain ⟨σ7, H7, I7, n7⟩ := q7; exact again I7 n7
  | cont => obtain ⟨σ7, H7, I7, n7⟩ := q7; exact again I7 n7
  | brk => obtain ⟨σ7, H7, I7, q7⟩ := q7; exact ⟨σ7, H7, I7.unpinned, q7⟩
  | ret v => obtain ⟨x7, σ7, H7, I7, r7, q7⟩ := q7; exact ⟨x7, σ7, H7, I7.unpinned, r7, q7⟩
end
noncomputable abbrev R2 := V → V → Hp → VK → Prop
noncomputable def OpR (X : Cx) (f : Value → Value → Sem Value) (r : R2) : Prop :=
 ∀ (pins : List (Addr × Obj)) (s : Shared) (σ : St) (H : Hp) (x y : V) (v u : Value) (Q : VK), Inv X pins σ H s → de x v → de y u → r x y H Q →
  wpAny (model X.prog X.w) X.A (f v u) (EP X pins σ Q) X.xe s
noncomputable def eA (X : Cx) (f : Value) (r : List V → Hp → VK → Prop) : Prop :=
 ∀ (pins : List (Addr × Obj)) (s : Shared) (σ : St) (H : Hp) (xs : List V) (us : List Value) (Q : VK), Inv X pins σ H s → b0 xs us → r xs H Q →
  wpAny (model X.prog X.w) X.A (call f us) (EP X pins σ Q) X.xe s
noncomputable def tOp (r : R2) (ta tb : TE) : TE := fun σ H Q => ta σ H fun x H1 => tb σ H1 fun y H2 => r x y H2 Q
noncomputable def rI (C : Int → Int → Prop) (g : Int → Int → V) : R2 := fun x y H Q => ∃ i j, x = .int i ∧ y = .int j ∧ C i j ∧ Q (g i j) H
noncomputable def rI0 (g : Int → Int → V) : R2 := fun x y H Q => ∃ i j, x = .int i ∧ y = .int j ∧ Q (g i j) H
section
variable {X : Cx} {a b c : Expr} {ta tb tc : TE} {pos : Pos}
theorem BL (ha : PE X a ta) (hb : PE X b tb) {pins : List (Addr × Obj)} {s : Shared} {σ : St} {H : Hp} {R : V → V → Hp → Prop} (I : Inv X pins σ H s)
  (h : ta σ H fun x H1 => tb σ H1 fun y H2 => R x y H2) {Q : Value → Shared → Prop} {f : Value → Value → Sem Value}
  (hf : ∀ v u s2 x y H2, Inv X pins σ H2 s2 → de x v → de y u → R x y H2 → wpAny (model X.prog X.w) X.A (f v u) Q X.xe s2) :
  wpAny (model X.prog X.w) X.A (eval a X.env) (fun v s₁ => wpAny (model X.prog X.w) X.A (eval b X.env) (fun u s₂ => wpAny (model X.prog X.w) X.A (f v u) Q X.xe s₂) X.xe s₁) X.xe s := by
 refine thn (ha pins s σ H _ I h) fun v s1 hz => ?_
 obtain ⟨x, H1, I1, r1, q1⟩ := hz
 refine thn (hb pins s1 σ H1 _ I1 q1) fun u s2 hz => ?_
 obtain ⟨y, H2, I2, r2, q2⟩ := hz
 exact hf v u s2 x y H2 I2 r1 r2 q2
theorem Dc {op : Operator} {r : R2} (ho : OpR X (binaryOp op) r) (ha : PE X a ta) (hb : PE X b tb) : PE X (.BinOp a op b pos) (tOp r ta tb) := by
 intro pins s σ H Q I h
 exact wpAny_BinOp (BL ha hb I h fun v u s2 x y H2 I2 rx ry q => ho pins s2 σ H2 x y v u Q I2 rx ry q)
theorem opI {f : Value → Value → Sem Value} {C : Int → Int → Prop} {g : Int → Int → Int}
  (rule : ∀ (i j : Int) (t u : Tok) (s : Shared) (Q : Value → Shared → Prop) (E : Value → Shared → Prop), C i j → Q (.int (g i j) s.toks) { s with toks := s.toks + 1 } → wpAny (model X.prog X.w) X.A (f (.int i t) (.int j u)) Q E s) :
  OpR X f (rI C fun i j => .int (g i j)) := by
 intro pins s σ H x y v u Q I rx ry h
 obtain ⟨i, j, rfl, rfl, hc, q⟩ := h
 obtain ⟨t, rfl⟩ := rx
 obtain ⟨t', rfl⟩ := ry
 exact rule i j t t' s _ _ hc ⟨.int (g i j), H, I.tok _, ⟨_, rfl⟩, q⟩
theorem Ec {f : Value → Value → Sem Value} {g : Int → Int → Int}
  (rule : ∀ (i j : Int) (t u : Tok) (s : Shared) (Q : Value → Shared → Prop) (E : Value → Shared → Prop), Q (.int (g i j) s.toks) { s with toks := s.toks + 1 } → wpAny (model X.prog X.w) X.A (f (.int i t) (.int j u)) Q E s) :
  OpR X f (rI0 fun i j => .int (g i j)) := by
 intro pins s σ H x y v u Q I rx ry h
 obtain ⟨i, j, rfl, rfl, q⟩ := h
 obtain ⟨t, rfl⟩ := rx
 obtain ⟨t', rfl⟩ := ry
 exact rule i j t t' s _ _ ⟨.int (g i j), H, I.tok _, ⟨_, rfl⟩, q⟩
theorem BD {f : Value → Value → Sem Value} {g : Int → Int → Bool}
  (rule : ∀ (i j : Int) (t u : Tok) (s : Shared) (Q : Value → Shared → Prop) (E : Value → Shared → Prop), Q (.bool (g i j)) s → wpAny (model X.prog X.w) X.A (f (.int i t) (.int j u)) Q E s) :
  OpR X f (rI0 fun i j => .bl (g i j)) := by
 intro pins s σ H x y v u Q I rx ry h
 obtain ⟨i, j, rfl, rfl, q⟩ := h
 obtain ⟨t, rfl⟩ := rx
 obtain ⟨t', rfl⟩ := ry
 exact rule i j t t' s _ _ ⟨.bl (g i j), H, I, rfl, q⟩
noncomputable def yJ (i j : Int) : Prop := 0 ≤ j ∧ j ≤ 1000000 ∧ i.natAbs < 2 ^ 64
noncomputable def wg (i j : Int) : Prop := (-(2 ^ 64) < i ∧ i < 2 ^ 64) ∨ (-(2 ^ 64) < j ∧ j < 2 ^ 64)
theorem wg.ok {i j : Int} (h : wg i j) : IntMulOk i j := by
 rcases h with ⟨h1, h2⟩ | ⟨h1, h2⟩
 ·exact .of_left (intBits_le_64 h1 h2)
 ·exact .of_right (intBits_le_64 h1 h2)
theorem AR : OpR X (binaryOp .Add) (rI0 fun i j => .int (i + j)) := Ec fun _ _ _ _ _ _ _ q => add_int q
theorem ff : OpR X (binaryOp .Sub) (rI0 fun i j => .int (i - j)) := Ec fun _ _ _ _ _ _ _ q => sub_int q
theorem ie : OpR X (binaryOp .Mult) (rI wg fun i j => .int (i * j)) := opI fun _ _ _ _ _ _ _ hc q => mul_int q hc.ok
theorem jD : OpR X (binaryOp .Mod) (rI (fun _ j => 0 < j) fun i j => .int (i % j)) := opI fun i j _ _ _ _ _ hc q => by
 have h1 : (0 : Int) < j := hc
 exact mod_int' (by omega) (by rw [Int.fmod_eq_emod_of_nonneg i (by omega)]; exact q)
theorem vO : OpR X (binaryOp .Pow) (rI yJ fun i j => .int (i ^ j.toNat)) := opI fun _ _ _ _ _ _ _ hc q => pow_int_small hc.1 hc.2.1 hc.2.2 q
end
noncomputable def C2 : V → V → Bool
 | .non, .non => true | .non, .int _ => true | .int _, .non => true | .non, .bl _ => true | .bl _, .non => true | .non, .str _ => true | .str _, .non => true
 | .int _, .int _ => true | .bl _, .bl _ => true | .str _, .str _ => true | .byt _, .byt _ => true
 | .int _, .str _ => true | .str _, .int _ => true | .bl _, .str _ => true | .str _, .bl _ => true
 | _, _ => false
noncomputable def rEq : R2 := fun x y H Q => C2 x y = true ∧ Q (.bl (decide (x = y))) H
noncomputable def rNe : R2 := fun x y H Q => C2 x y = true ∧ Q (.bl (!decide (x = y))) H
theorem sH {i j : Int} : decide (V.int i = V.int j) = (i == j) := by
 rw [Bool.eq_iff_iff]
 simp
theorem vY {i j : Bool} : decide (V.bl i = V.bl j) = (i == j) := by
 rw [Bool.eq_iff_iff]
 simp
theorem sG {i j : Str} : decide (V.str i = V.str j) = (i == j) := by
 rw [Bool.eq_iff_iff]
 simp
theorem sI {i j : Array UInt8} : decide (V.byt i = V.byt j) = (i.toList == j.toList) := by
 rw [Bool.eq_iff_iff]
 cases i
 cases j
 simp
section
variable {X : Cx} {a b c : Expr} {ta tb tc : TE} {pos : Pos}
theorem br {pins : List (Addr × Obj)} {σ : St} {H : Hp} {s : Shared} {Q : VK} {k k' : Bool} (I : Inv X pins σ H s) (q : Q (.bl k) H) (e : k = k') : EP X pins σ Q (.bool k') s := by
 subst e
 exact ⟨.bl k, H, I, rfl, q⟩
theorem eL : OpR X (compareOp .Eq) rEq := by
 intro pins s σ H x y v u Q I rx ry h
 obtain ⟨hs, q⟩ := h
 cases x with
 | non =>
  cases rx
  cases y with
  | non => cases ry; exact PySem.EqNone.eq_none_none (br I q (by simp))
  | bl j => cases ry; exact PySem.EqNone.eq_none_bool (br I q (by simp))
  | int j => obtain ⟨t', rfl⟩ := ry; exact PySem.EqNone.eq_none_int (br I q (by simp))
  | str j => obtain ⟨t', rfl⟩ := ry; exact PySem.EqNone.eq_none_str (br I q (by simp))
  | _ => exact absurd (show false = true from hs) Bool.false_ne_true
 | bl i =>
  cases rx
  cases y with
  | non => cases ry; exact PySem.EqNone.eq_bool_none (br I q (by simp))
  | bl j => cases ry; exact eq_bool (br I q vY)
  | str j => obtain ⟨t', rfl⟩ := ry; exact PySem.EqMixed.eq_bool_str (br I q (by simp))
  | _ => exact absurd (show false = true from hs) Bool.false_ne_true
 | int i =>
  obtain ⟨t, rfl⟩ := rx
  cases y with
  | non => cases ry; exact PySem.EqNone.eq_int_none (br I q (by simp))
  | int j => obtain ⟨t', rfl⟩ := ry; exact eq_int (br I q sH)
  | str j => obtain ⟨t', rfl⟩ := ry; exact PySem.EqMixed.eq_int_str (br I q (by simp))
  | _ => exact absurd (show false = true from hs) Bool.false_ne_true
 | str i =>
  obtain ⟨t, rfl⟩ := rx
  cases y with
  | non => cases ry; exact PySem.EqNone.eq_str_none (br I q (by simp))
  | bl j => cases ry; exact PySem.EqMixed.eq_str_bool (br I q (by simp))
  | int j => obtain ⟨t', rfl⟩ := ry; exact PySem.EqMixed.eq_str_int (br I q (by simp))
  | str j => obtain ⟨t', rfl⟩ := ry; exact eq_str (br I q sG)
  | _ => exact absurd (show false = true from hs) Bool.false_ne_true
 | byt i =>
  obtain ⟨t, rfl⟩ := rx
  cases y with
  | byt j => obtain ⟨t', rfl⟩ := ry; exact PySem.W.eq_bytes (br I q sI)
  | _ => exact absurd (show false = true from hs) Bool.false_ne_true
 | _ => cases y <;> exact absurd (show false = true from hs) Bool.false_ne_true
theorem uR : OpR X (compareOp .NotEq) rNe := by
 intro pins s σ H x y v u Q I rx ry h
 obtain ⟨hs, q⟩ := h
 cases x with
 | non =>
  cases rx
  cases y with
  | non => cases ry; exact PySem.EqNone.ne_none_none (br I q (by simp))
  | bl j => cases ry; exact PySem.EqNone.ne_none_bool (br I q (by simp))
  | int j => obtain ⟨t', rfl⟩ := ry; exact PySem.EqNone.ne_none_int (br I q (by simp))
  | str j => obtain ⟨t', rfl⟩ := ry; exact PySem.EqNone.ne_none_str (br I q (by simp))
  | _ => exact absurd (show false = true from hs) Bool.false_ne_true
 | bl i =>
  cases rx
  cases y with
  | non => cases ry; exact PySem.EqNone.ne_bool_none (br I q (by simp))
  | bl j => cases ry; exact ne_bool (br I q (congrArg not vY))
  | str j => obtain ⟨t', rfl⟩ := ry; exact PySem.EqMixed.ne_bool_str (br I q (by simp))
  | _ => exact absurd (show false = true from hs) Bool.false_ne_true
 | int i =>
  obtain ⟨t, rfl⟩ := rx
  cases y with
  | non => cases ry; exact PySem.EqNone.ne_int_none (br I q (by simp))
  | int j => obtain ⟨t', rfl⟩ := ry; exact ne_int (br I q (congrArg not sH))
  | str j => obtain ⟨t', rfl⟩ := ry; exact PySem.EqMixed.ne_int_str (br I q (by simp))
  | _ => exact absurd (show false = true from hs) Bool.false_ne_true
 | str i =>
  obtain ⟨t, rfl⟩ := rx
  cases y with
  | non => cases ry; exact PySem.EqNone.ne_str_none (br I q (by simp))
  | bl j => cases ry; exact PySem.EqMixed.ne_str_bool (br I q (by simp))
  | int j => obtain ⟨t', rfl⟩ := ry; exact PySem.EqMixed.ne_str_int (br I q (by simp))
  | str j => obtain ⟨t', rfl⟩ := ry; exact ne_str (br I q (congrArg not sG))
  | _ => exact absurd (show false = true from hs) Bool.false_ne_true
 | byt i =>
  obtain ⟨t, rfl⟩ := rx
  cases y with
  | byt j => obtain ⟨t', rfl⟩ := ry; exact PySem.W.ne_bytes (br I q (congrArg not sI))
  | _ => exact absurd (show false = true from hs) Bool.false_ne_true
 | _ => cases y <;> exact absurd (show false = true from hs) Bool.false_ne_true
theorem gF : OpR X (compareOp .Lt) (rI0 fun i j => .bl (decide (i < j))) := BD fun _ _ _ _ _ _ _ q => lt_int q
theorem AN : OpR X (compareOp .LtE) (rI0 fun i j => .bl (decide (i ≤ j))) := BD fun _ _ _ _ _ _ _ q => le_int q
theorem mO : OpR X (compareOp .Gt) (rI0 fun i j => .bl (decide (j < i))) := BD fun _ _ _ _ _ _ _ q => gt_int q
theorem Dm : OpR X (compareOp .GtE) (rI0 fun i j => .bl (decide (j ≤ i))) := BD fun _ _ _ _ _ _ _ q => ge_int q
theorem vP : OpR X (compareOp .Is) (fun x y H Q => y = .non ∧ Q (.bl (decide (x = .non))) H) := by
 intro pins s σ H x y v u Q I rx ry h
 obtain ⟨rfl, q⟩ := h
 cases ry
 refine is_none_gen (br I q ?_)
 cases x <;> first
  | (cases rx; rfl)
  | (obtain ⟨t, rfl⟩ := rx; rfl)
theorem rH : OpR X (compareOp .IsNot) (fun x y H Q => y = .non ∧ Q (.bl (!decide (x = .non))) H) := by
 intro pins s σ H x y v u Q I rx ry h
 obtain ⟨rfl, q⟩ := h
 cases ry
 refine isnot_none_gen (br I q ?_)
 cases x <;> first
  | (cases rx; rfl)
  | (obtain ⟨t, rfl⟩ := rx; rfl)
theorem OpR.or {f : Value → Value → Sem Value} {r r' : R2} (h : OpR X f r) (h' : OpR X f r') : OpR X f (fun x y H Q => r x y H Q ∨ r' x y H Q) := by
 intro pins s σ H x y v u Q I rx ry q
 rcases q with q | q
 ·exact h pins s σ H x y v u Q I rx ry q
 ·exact h' pins s σ H x y v u Q I rx ry q
theorem aJ (b : Expr) {op : CmpOp} (h : op ≠ .In := by decide) (h2 : op ≠ .NotIn := by decide) : behindInMarks op b = false := by
 have e1 : (op == CmpOp.In) = false := by cases op <;> first | rfl | exact absurd rfl h
 have e2 : (op == CmpOp.NotIn) = false := by cases op <;> first | rfl | exact absurd rfl h2
 cases b <;> simp [behindInMarks, e1, e2]
theorem xS {op : CmpOp} {r : R2} (ho : OpR X (compareOp op) r) (ha : PE X a ta) (hb : PE X b tb) (hm : behindInMarks op b = false) : PE X (.Compare a [op] [b] pos) (tOp r ta tb) := by
 intro pins s σ H Q I h
 exact wpAny_Compare1 (BL ha hb I h fun v u s2 x y H2 I2 rx ry q => ho pins s2 σ H2 x y v u Q I2 rx ry q) hm
noncomputable def zM (t : TE) : TT := fun σ H Q => t σ H fun x H' => ∃ k, x = .bl k ∧ Q k H'
theorem xE {op : CmpOp} {r : R2} (ho : OpR X (compareOp op) r) (ha : PE X a ta) (hb : PE X b tb) (hm : behindInMarks op b = false) : PT X (.Compare a [op] [b] pos) (zM (tOp r ta tb)) := by
 intro pins s σ H Q I h
 refine wpAny_isTrue_Compare1 (thn (ha pins s σ H _ I h) fun v s1 ⟨x, H1, I1, r1, q1⟩ => thn (hb pins s1 σ H1 _ I1 q1) fun u s2 ⟨y, H2, I2, r2, q2⟩ =>
  thn (ho pins s2 σ H2 x y v u _ I2 r1 r2 q2) fun c s3 ⟨z, H3, I3, r3, k, e, q3⟩ => ?_) hm
 subst e
 cases r3
 exact wpAny_truthy_bool ⟨H3, I3, q3⟩
noncomputable def qV (r r' : R2) (ta tb tc : TE) : TE := fun σ H Q => ta σ H fun x H1 => tb σ H1 fun y H2 => r x y H2 fun z H3 => ∃ k, z = .bl k ∧
 (if k = true then tc σ H3 fun w' H4 => r' y w' H4 Q else Q (.bl false) H3)
theorem uG {op op' : CmpOp} {r r' : R2} (ho : OpR X (compareOp op) r) (ho' : OpR X (compareOp op') r') (ha : PE X a ta) (hb : PE X b tb) (hc : PE X c tc)
  (hm : lastMarks [op, op'] [b, c] = false := by with_unfolding_all rfl) : PE X (.Compare a [op, op'] [b, c] pos) (qV r r' ta tb tc) := by
 intro pins s σ H Q I h
 refine Compare_chain (thn (ha pins s σ H _ I h) fun v s1 ⟨x, H1, I1, r1, q1⟩ => chain_link (thn (hb pins s1 σ H1 _ I1 q1) fun u s2 ⟨y, H2, I2, r2, q2⟩ =>
  thn (ho pins s2 σ H2 x y v u _ I2 r1 r2 q2) fun d s3 ⟨z, H3, I3, r3, k, e, q3⟩ => ?_)) hm
 subst e
 cases r3
 refine wpAny_truthy_bool ?_
 cases k with
 | false => exact ite_ff ⟨.bl false, H3, I3, rfl, q3⟩
 | true => exact ite_tt (chain_last (thn (hc pins s3 σ H3 _ I3 q3) fun w' s4 ⟨z', H4, I4, r4, q4⟩ => ho' pins s4 σ H4 y z' u w' Q I4 r2 r4 q4))
theorem pj : (sizeLine : Nat) < 2 ^ 63 := by rw [sizeLine_eq]; decide
theorem p7 : OpR X (binaryOp .Add) (fun x y H Q => ∃ i j, x = .str i ∧ y = .str j ∧ i.length + j.length ≤ sizeLine ∧ Q (.str (i ++ j)) H) := by
 intro pins s σ H x y v u Q I rx ry h
 obtain ⟨i, j, rfl, rfl, hz, q⟩ := h
 obtain ⟨t, rfl⟩ := rx
 obtain ⟨t', rfl⟩ := ry
 exact add_str (fun t' tk => ⟨.str (i ++ j), H, I.tok _, ⟨_, rfl⟩, q⟩) hz
noncomputable def lV (b : Expr) : Prop := ∀ o i, subscripted b false o i = operate [o, i] (getItem o i)
theorem nT (ha : PE X a ta) (hb : PE X b tb) (hs : lV b) :
  PE X (.Subscript a b pos) (tOp (fun x y H Q => ∃ z i c, x = .str z ∧ y = .int i ∧ 0 ≤ i ∧ i < 2 ^ 63 ∧ i < z.length ∧ z.cps[i.toNat]? = some c ∧ Q (.str ⟨#[c]⟩) H) ta tb) := by
 intro pins s σ H Q I h
 refine Subscript_ (BL ha hb I h fun v u s2 x y H2 I2 rx ry q => ?_)
 obtain ⟨z, i, c, rfl, rfl, h0, h63, h1, hc, q⟩ := q
 obtain ⟨t, rfl⟩ := rx
 obtain ⟨t', rfl⟩ := ry
 have e : seqIndex? i z.length = some i.toNat := PySem.StrLaws.seqIndex_nonneg h0 h1
 exact tail_any (typeIs_str s2 z t) slot_str_getitem.lookup (getItem_str (c := c) (by
  have e1 : decide (i < -(2 ^ 63 : Int)) = false := decide_eq_false (by omega)
  have e2 : decide (i ≥ 2 ^ 63) = false := decide_eq_false (by omega)
  rw [e1, e2] <;> rfl) (by rw [e]; exact hc) ⟨.str ⟨#[c]⟩, H2, I2.tok _, ⟨_, rfl⟩, q⟩) (hs _ _)
theorem j9 {x : V} {us : List Value} (r : b0 [x] us) : ∃ u, us = [u] ∧ de x u := by
 cases r with
 | cons r1 r2 => cases r2; exact ⟨_, rfl, r1⟩
theorem t7 {x y : V} {us : List Value} (r : b0 [x, y] us) : ∃ u w', us = [u, w'] ∧ de x u ∧ de y w' := by
 cases r with
 | cons r1 r2 =>
  cases r2 with
  | cons r3 r4 => cases r4; exact ⟨_, _, rfl, r1, r3⟩
theorem sR (hc : X.calm = true) : eA X (.builtin "min") (fun xs H Q => ∃ i j, xs = [.int i, .int j] ∧ Q (.int (if j < i then j else i)) H) := by
 intro pins s σ H xs us Q I r h
 obtain ⟨i, j, rfl, q⟩ := h
 obtain ⟨u, w', rfl, ⟨t, rfl⟩, ⟨t', rfl⟩⟩ := t7 r
 refine min_two_ints (I.ok.hd hc) fun h' tk k => ⟨_, H, I.kept k, ?_, q⟩
 by_cases hj : j < i
 ·rw [if_pos hj, if_pos hj]; exact ⟨_, rfl⟩
 ·rw [if_neg hj, if_neg hj]; exact ⟨_, rfl⟩
theorem ik : eA X (.type "str") (fun xs H Q => ∃ i, xs = [.int i] ∧ i.natAbs.log2 < 1920 ∧ Q (.str (toString i)) H) := by
 intro pins s σ H xs us Q I r h
 obtain ⟨i, rfl, hz, q⟩ := h
 obtain ⟨u, rfl, t, rfl⟩ := j9 r
 exact PySem.P.str_of_int hz ⟨.str _, H, I.tok _, ⟨_, rfl⟩, q⟩
end
structure yw (h : Heap) (x dx C : Addr) (mA : Str → Option Value) : Prop where
 obj : h.get? x = some (PySem.W.instObj C dx)
 ns : h.Ns1 dx mA
 ne : dx ≠ x
theorem rQ {h : Heap} {dx : Addr} {mA : Str → Option Value} (n : h.Ns1 dx mA) : ∃ od, h.get? dx = some od ∧ ∀ name, PySem.W.lookIn name od = some (mA name) := by
 obtain ⟨o, es, ep, ho, hd, hk, _, hm⟩ := n
 refine ⟨o, ho, fun name => ?_⟩
 have e := hm name
 unfold nsFind findBy at e
 rw [← Array.find?_toList] at e
 unfold PySem.W.lookIn
 rw [hd]
 dsimp only
 split
 ·rename_i y q
  rw [q] at e
  exact congrArg some e
 ·rename_i q
  rw [q] at e
  have a : es.toList.any (·.refKey) = false := by
   rw [List.any_eq_false]
   intro y hy
   obtain ⟨z, t, hkey⟩ := hk y (Array.mem_toList_iff.mp hy)
   simp [DictEntry.refKey, hkey]
  have a' : ¬ es.toList.any (·.refKey) = true := by rw [a]; exact Bool.false_ne_true
  rw [if_neg a']
  exact congrArg some e
theorem yw.look {h : Heap} {x dx C : Addr} {mA : Str → Option Value} (I : yw h x dx C mA) : ∃ od, PySem.W.InstAt h x (PySem.W.instObj C dx) C (some od) ∧ ∀ name, PySem.W.lookIn name od = some (mA name) :=
 let ⟨od, ho, hl⟩ := rQ I.ns
 ⟨od, ⟨I.obj, rfl, rfl, ho⟩, hl⟩
section
variable {prog : Program} {w : World} {A : Around} {E : Value → Shared → Prop} {s : Shared} {K : PySem.W.Frag} {x dx C f : Addr} {mA : Str → Option Value} {name : Str} {v : Value}
theorem yo {expr : Bool} {Q : Value → Shared → Prop} (X : K.In s.heap) (I : yw s.heap x dx C mA) (hg : PySem.W.plainGet K C name = true) (hh : PySem.W.hasDictIn K C = true)
  (ha : PySem.W.findIn K (.ref C) name = some none) (hv : mA name = some v) (hv' : PySem.W.handedIn v = true) (h : Q v { s with toks := s.toks + 1 }) :
  wpAny (model prog w) A (getAttr (.ref x) name expr) Q E s := by
 obtain ⟨od, J, hl⟩ := I.look
 exact PySem.W.get_value X J (PySem.W.plainGet_of hg).1 (PySem.W.findObj_own hh ha rfl (by rw [hl, hv])) hv' h
theorem vc {pl : Sem Bool} {Q : Value × List Value → Shared → Prop} (X : K.In s.heap) (I : yw s.heap x dx C mA) (hg : PySem.W.plainGet K C name = true)
  (hf : PySem.W.findIn K (.ref C) name = some (some (.ref f))) (ht : PySem.W.isFn K (.ref f) = true) (hv : mA name = none) (h : Q (.ref f, [.ref x]) s) :
  wpAny (model prog w) A (getMethod (.ref x) name pl) Q E s := by
 obtain ⟨od, J, hl⟩ := I.look
 exact PySem.W.method_fn X J (PySem.W.plainGet_of hg).1 (PySem.W.plainGet_of hg).2 hf (beq_iff_eq.mp ht) (by show (PySem.W.lookIn name od).map (·.isSome) = some false; rw [hl, hv]; rfl) h
theorem xq {ns : List Str} {Q : Unit → Shared → Prop} (X : K.In s.heap) (I : yw s.heap x dx C mA)
  (hs : PySem.W.findIn K (.ref C) "__setattr__" = some (some (.builtin "object.__setattr__"))) (hp : PySem.W.plainOver K C = true) (ht : PySem.W.takerIn K C name = some none) (hh : PySem.W.hasDictIn K C = true)
  (hw : PySem.Within mA ns) (hsz : ns.length ≤ sizeLine)
  (h : ∀ h', yw h' x dx C (fun y => if y = name then some v else mA y) → Heap.SameBut dx s.heap h' → Q () { s with heap := h', toks := s.toks + 2 }) :
  wpAny (model prog w) A (setAttr (.ref x) name v) Q E s := by
 obtain ⟨od, J, hl⟩ := I.look
 refine PySem.W.set_plain X J hs (PySem.W.osa_open (s := { s with toks := s.toks + 1 }) (r := none) X J hp ht fun b => ?_)
 obtain ⟨cd, hc, hd'⟩ := PySem.W.any_some hh
 have hx : s.heap.get? x = some ⟨.ref C, some dx, .plain, #[]⟩ := I.obj
 refine wpAny_bind (wpAny_pure (wpAny_bind (wpAny_bind (wpAny_loadPart hx (wpAny_bind (PySem.W.Looks.here (s := { s with toks := s.toks + 1 }) (PySem.W.looks_clsIn X hc) ?_))))))
 rw [hd']
 refine wpAny_pure (a := some dx) (wpAny_bind (wpAny_pure (wpAny_bind ?_)))
 refine wpAny_nsSet1 (s := { s with toks := s.toks + 1 }) I.ns fun h' hn2 hs2 => ?_
 obtain ⟨oD, esD, epD, hoD, hdD, hcD⟩ := hn2.count (PySem.Within.cons name v hw)
 refine wpAny_bind (wpAny_lookBehind hoD (by rw [hdD]; exact pastItsLine_dict (Nat.le_trans hcD (by rw [List.length_cons]; omega))) ?_)
 exact wpAny_pure (h _ ⟨(hs2.2 _ (Ne.symm I.ne)).trans I.obj, hn2, I.ne⟩ hs2)
theorem uU {R : Result → Shared → Prop} {vs : List Value} {kw : List (Str × Value)} (X : K.In s.heap) (hm : PySem.W.makesIn K C = true)
  (hi : PySem.W.findIn K (.ref C) "__init__" = some (some (.ref f))) (hf : PySem.W.typeIn K (.ref f) = some (.type "function"))
  (h : codeAny (model prog w) (A.under (.builtin "type.__call__" ⟨.ref C :: vs, kw⟩)) (.call (.ref f) ⟨.ref (s.heap.objs.size + 1) :: vs, kw⟩) (PySem.W.InitBack (s.heap.objs.size + 1) R)
   { s with heap := (s.heap.push PySem.W.emptyDict).push (PySem.W.instObj C s.heap.objs.size) }) :
  codeAny (model prog w) A (.call (.ref C) ⟨vs, kw⟩) R s := by
 obtain ⟨hh, g, d, t, os⟩ := s
 exact PySem.W.make_core (PySem.W.makes_of X hm) (PySem.W.looks_findIn X hi) (fun self => PySem.W.bind_fn X self hf) (.inl rfl) h
end
noncomputable def kj (f : Str) (v : V) : List (Str × V) → List (Str × V)
 | [] => [(f, v)]
 | (g, x) :: r => if g = f then (g, v) :: r else (g, x) :: kj f v r
theorem fY (f g : Str) (v : V) : ∀ fs : List (Str × V), (kj f v fs).lookup g = if g = f then some v else fs.lookup g
 | [] => by
  show List.lookup g [(f, v)] = _
  by_cases h : g = f
  ·have hb : (g == f) = true := beq_iff_eq.mpr h
   simp only [List.lookup, hb, if_pos h]
  ·have hb : (g == f) = false := beq_eq_false_iff_ne.mpr h
   simp only [List.lookup, hb, if_neg h]
 | (k, x) :: r => by
  have ih := fY f g v r
  rw [show kj f v ((k, x) :: r) = (if k = f then (k, v) :: r else (k, x) :: kj f v r) from rfl]
  by_cases hk : k = f
  ·rw [if_pos hk]
   by_cases h : g = k
   ·have hb : (g == k) = true := beq_iff_eq.mpr h
    simp only [List.lookup, hb, if_pos (h.trans hk)]
   ·have hb : (g == k) = false := beq_eq_false_iff_ne.mpr h
    simp only [List.lookup, hb, if_neg (fun e : g = f => h (e.trans hk.symm))]
  ·rw [if_neg hk]
   by_cases h : g = k
   ·have hb : (g == k) = true := beq_iff_eq.mpr h
    simp only [List.lookup, hb, if_neg (fun e : g = f => hk (h.symm.trans e))]
   ·have hb : (g == k) = false := beq_eq_false_iff_ne.mpr h
    simp only [List.lookup, hb]
    exact ih
theorem d5 (f : Str) (v : V) : ∀ fs : List (Str × V), f ∈ (kj f v fs).map (·.1) ∧ ∀ g, g ∈ fs.map (·.1) → g ∈ (kj f v fs).map (·.1)
 | [] => ⟨by simp [kj], fun g h => by simp at h⟩
 | (k, x) :: r => by
  obtain ⟨i1, i2⟩ := d5 f v r
  rw [show kj f v ((k, x) :: r) = (if k = f then (k, v) :: r else (k, x) :: kj f v r) from rfl]
  by_cases hk : k = f
  ·rw [if_pos hk]
   subst hk
   exact ⟨by simp, fun g h => by simpa using h⟩
  ·rw [if_neg hk]
   refine ⟨?_, fun g h => ?_⟩
   ·rw [List.map_cons]
    exact List.mem_cons_of_mem _ i1
   ·rw [List.map_cons] at h ⊢
    rcases List.mem_cons.mp h with e | e
    ·exact List.mem_cons.mpr (.inl e)
    ·exact List.mem_cons_of_mem _ (i2 g e)
theorem jH (f : Str) (v : V) : ∀ fs : List (Str × V), (kj f v fs).length ≤ fs.length + 1
 | [] => by simp [kj]
 | (k, x) :: r => by
  have ih := jH f v r
  rw [show kj f v ((k, x) :: r) = (if k = f then (k, v) :: r else (k, x) :: kj f v r) from rfl]
  by_cases hk : k = f
  ·rw [if_pos hk, List.length_cons, List.length_cons]; omega
  ·rw [if_neg hk, List.length_cons, List.length_cons]; omega
theorem nK.some_of {v : V} {o : Option Value} (r : nK (some v) o) : ∃ u, o = some u ∧ de v u := by
 cases o with
 | none => exact (show False from r).elim
 | some u => exact ⟨u, rfl, r⟩
theorem nK.none_of {o : Option Value} (r : nK none o) : o = none := by
 cases o with
 | none => rfl
 | some u => exact (show False from r).elim
theorem sm {v : V} {u : Value} (r : de v u) : PySem.W.handedIn u = true := by
 cases v with
 | non => cases (show u = Value.none from r); rfl
 | bl b => cases (show u = Value.bool b from r); rfl
 | int i => obtain ⟨t, e⟩ := (show ∃ t, u = Value.int i t from r); cases e; rfl
 | str x => obtain ⟨t, e⟩ := (show ∃ t, u = Value.str x t from r); cases e; rfl
 | byt b => obtain ⟨t, e⟩ := (show ∃ t, u = Value.bytes b t from r); cases e; rfl
 | flt b => obtain ⟨t, e⟩ := (show ∃ t, u = Value.float b t from r); cases e; rfl
 | ref a => cases (show u = Value.ref a from r); rfl
 | ty n => cases (show u = Value.type n from r); rfl
section
variable {P : Program} {w : World} {H H' : Hp} {h h' : Heap} {a C dx : Addr} {fs fs' : List (Str × V)}
theorem lK (hok : HOk P w H h) (e : H a = some (.ins C dx fs)) : ∃ mA, yw h a dx C mA ∧ (∀ f, nK (fs.lookup f) (mA f)) ∧ PySem.Within mA (fs.map (·.1)) ∧ fs.length ≤ 1000 ∧ H dx = some (.own a) := by
 obtain ⟨d, z, ne, ob, mA, n, r, q⟩ := (show dD P w H h a (.ins C dx fs) from hok a _ e)
 exact ⟨mA, ⟨ob, n, ne⟩, r, q, z, d⟩
end
structure Cls (K : PySem.W.Frag) (C : Addr) : Prop where
 pg : PySem.W.plainGet K C Str.empty = true
 hd : PySem.W.hasDictIn K C = true
 po : PySem.W.plainOver K C = true
 sa : PySem.W.findIn K (.ref C) "__setattr__" = some (some (.builtin "object.__setattr__"))
theorem Cls.get {K : PySem.W.Frag} {C : Addr} (c : Cls K C) (f : Str) : PySem.W.plainGet K C f = true := c.pg
noncomputable def fU (K : PySem.W.Frag) (C : Addr) (f : Str) : Prop := PySem.W.findIn K (.ref C) f = some none
theorem fU.taker {K : PySem.W.Frag} {C : Addr} {f : Str} (n : fU K C f) : PySem.W.takerIn K C f = some none := by
 unfold PySem.W.takerIn
 rw [show PySem.W.findIn K (.ref C) f = some none from n]
 rfl
structure jY (K : PySem.W.Frag) (C : Addr) (m : Str) (f : Addr) : Prop where
 at_ : PySem.W.findIn K (.ref C) m = some (some (.ref f))
 fn : PySem.W.isFn K (.ref f) = true
 kp : PySem.W.keepIn K (.ref f) = true
section
variable {X : Cx} {pins : List (Addr × Obj)} {σ : St} {H : Hp} {s : Shared} {a C dx : Addr} {fs : List (Str × V)} {f : Str} {v : V} {A : Around} {E : Value → Shared → Prop}
theorem qg {b : Bool} {Q : Value → Shared → Prop} (I : Inv X pins σ H s) (e : H a = some (.ins C dx fs)) (c : Cls X.K C) (n : fU X.K C f) (l : fs.lookup f = some v)
  (h : ∀ u s', Inv X pins σ H s' → de v u → Q u s') : wpAny (model X.prog X.w) A (getAttr (.ref a) f b) Q E s := by
 obtain ⟨mA, O, r, _, _, _⟩ := lK I.hok e
 obtain ⟨u, hu, ru⟩ := nK.some_of (v := v) (o := mA f) (by rw [← l]; exact r f)
 exact yo I.kIn O (c.get f) c.hd n hu (sm ru) (h u _ (I.tok _) ru)
theorem lg {m : Str} {g : Addr} {pl : Sem Bool} {Q : Value × List Value → Shared → Prop} (I : Inv X pins σ H s) (e : H a = some (.ins C dx fs)) (c : Cls X.K C) (k : jY X.K C m g) (l : fs.lookup m = none)
  (h : Q (.ref g, [.ref a]) s) : wpAny (model X.prog X.w) A (getMethod (.ref a) m pl) Q E s := by
 obtain ⟨mA, O, r, _, _, _⟩ := lK I.hok e
 have hn : mA m = none := nK.none_of (by rw [← l]; exact r m)
 exact vc I.kIn O (c.get m) k.at_ k.fn hn h
theorem pY {y : V} {u : Value} {Q : Unit → Shared → Prop} (I : Inv X pins σ H s) (e : H a = some (.ins C dx fs)) (c : Cls X.K C) (n : fU X.K C f) (hl : fs.length < 1000) (ry : de y u)
  (h : ∀ s', Inv X pins σ (upd H a (.ins C dx (kj f y fs))) s' → Q () s') : wpAny (model X.prog X.w) A (setAttr (.ref a) f u) Q E s := by
 obtain ⟨mA, O, r, wi, _, ho⟩ := lK I.hok e
 have hz : (fs.map (·.1)).length ≤ sizeLine := by rw [List.length_map, sizeLine_eq]; omega
 refine xq I.kIn O c.sa c.po n.taker c.hd wi hz fun h' O' sb => h _ ?_
 have hd : ∃ o, h'.get? dx = some o := let ⟨o, _, _, e', _⟩ := O'.ns; ⟨o, e'⟩
 refine I.write (x := a) (e := dx) (by rw [e]; exact True.intro) (.inr ho) (fun b q hb z => (sb.2 b hb).trans z) hd ?_
 refine ⟨by rw [bL O.ne]; exact ho, ?_, O.ne, O'.obj, _, O'.ns, fun g => ?_, fun g hg => ?_⟩
 ·have := jH f y fs; omega
 ·show nK ((kj f y fs).lookup g) (if g = f then some u else mA g)
  rw [fY]
  by_cases q : g = f
  ·rw [if_pos q, if_pos q]; exact ry
  ·rw [if_neg q, if_neg q]; exact r g
 ·by_cases q : g = f
  ·rw [q]; exact (d5 f y fs).1
  ·refine (d5 f y fs).2 g (wi g fun z => hg ?_)
   show (if g = f then some u else mA g) = none
   rw [if_neg q]; exact z
theorem Inv.made (I : Inv X pins σ H s) : Inv X pins σ (upd (upd H s.heap.objs.size (.own (s.heap.objs.size + 1))) (s.heap.objs.size + 1) (.ins C s.heap.objs.size []))
  { s with heap := (s.heap.push PySem.W.emptyDict).push (PySem.W.instObj C s.heap.objs.size) } := by
 have e1 : (s.heap.push PySem.W.emptyDict).get? s.heap.objs.size = some PySem.W.emptyDict := Heap.get?_push_size s.heap rfl
 have e2 : ((s.heap.push PySem.W.emptyDict).push (PySem.W.instObj C s.heap.objs.size)).get? (s.heap.objs.size + 1) = some (PySem.W.instObj C s.heap.objs.size) := by
  have := Heap.get?_push_size (s.heap.push PySem.W.emptyDict) (o := PySem.W.instObj C s.heap.objs.size) rfl
  rwa [Heap.size_push] at this
 have e3 : (s.heap.push PySem.W.emptyDict).Ns s.heap.objs.size (fun _ => none) := ⟨PySem.W.emptyDict, #[], _, e1, rfl, (fun e he => absurd he (by simp)), fun _ => rfl⟩
 have I1 := I.laid (a := s.heap.objs.size) (o := .own (s.heap.objs.size + 1)) (h' := s.heap.push PySem.W.emptyDict) (t' := s.toks) (fun b u q => Heap.get?_push_of_some _ q) (Nat.le_refl _) ⟨_, e1⟩
 refine I1.laid (a := s.heap.objs.size + 1) (o := .ins C s.heap.objs.size []) (t' := s.toks) (fun b u q => Heap.get?_push_of_some _ q) (Nat.le_of_eq (Heap.size_push _ _)) ?_
 have ne : s.heap.objs.size ≠ s.heap.objs.size + 1 := Nat.ne_of_lt (Nat.lt_succ_self _)
 refine ⟨by rw [bL ne, bj], Nat.zero_le _, ne, e2, fun _ => none, (Heap.Ns1.of_empty e3).at fun o q => Heap.get?_push_of_some _ q, fun _ => True.intro, fun y hy => absurd rfl hy⟩
theorem yv {prog : Program} {w : World} {env : Env} {e : Expr} {f : Str} {pos : Pos} {s : Shared} {Q : Value → Shared → Prop} (hb : attributeBase e f env (eval e env) = eval e env)
  (h : wpAny (model prog w) A (eval e env) (fun o s₁ => wpAny (model prog w) A (getAttr o f true) Q E s₁) E s) : wpAny (model prog w) A (eval (.Attribute e f pos) env) Q E s :=
 Attribute_any_ h (by rw [arm_eval_Attribute, hb])
end
noncomputable def D5 (K : PySem.W.Frag) (ta : TE) (f : Str) : TE := fun σ H Q => ta σ H fun x H1 => ∃ a C dx fs v, x = .ref a ∧ H1 a = some (.ins C dx fs) ∧ Cls K C ∧ fU K C f ∧ fs.lookup f = some v ∧ Q v H1
noncomputable def D7 (K : PySem.W.Frag) (ta tv : TE) (f : Str) : TS := fun D σ H => tv σ H fun y H1 => ta σ H1 fun x H2 => ∃ a C dx fs, x = .ref a ∧ H2 a = some (.ins C dx fs) ∧ Cls K C ∧ fU K C f ∧ fs.length < 1000 ∧
 D.nx σ (upd H2 a (.ins C dx (kj f y fs)))
section
variable {X : Cx} {o e value : Expr} {f : Str} {pos pos' tpos : Pos} {ta tv : TE}
theorem AE (he : PE X e ta) (hb : attributeBase e f X.env (eval e X.env) = eval e X.env) : PE X (.Attribute e f pos) (D5 X.K ta f) := by
 intro pins s σ H Q I h
 refine yv hb (thn (he pins s σ H _ I h) fun u s1 hz => ?_)
 obtain ⟨x, H1, I1, rx, a, C, dx, fs, v, ex, ea, c, n, l, q⟩ := hz
 subst ex
 obtain rfl : u = Value.ref a := rx
 exact qg I1 ea c n l fun u' s2 I2 ru => ⟨v, H1, I2, ru, q⟩
theorem Ap (ha : PE X o ta) (hv : PE X value tv) (hs : swapsWith value (some (.Attribute o f pos')) pos.line X.env = pure false) : PS X (.Assign [.Attribute o f pos'] value pos) (D7 X.K ta tv f) := by
 intro pins s σ H D I h
 refine plainObj_wpAny_Assign_Attribute (thn (hv pins s σ H _ I h) fun u s1 ⟨y, H1, I1, ry, q⟩ => thn (ha pins s1 σ H1 _ I1 q) fun ov s2 hz => ?_) hs
 obtain ⟨x, H2, I2, rx, a, C, dx, fs, ex, ea, c, n, l, q2⟩ := hz
 subst ex
 obtain rfl : ov = Value.ref a := rx
 exact pY I2 ea c n l ry fun s3 I3 => ⟨σ, _, I3, q2⟩
end
section
variable {X : Cx} {pins : List (Addr × Obj)} {σ : St} {H : Hp} {s : Shared} {A : Around} {E : Value → Shared → Prop} {Q : Value → Shared → Prop} {c : Value} {b : Bool}
inductive pJ (K : PySem.W.Frag) (H : Hp) : V → Value → Prop where
 | non : pJ K H .non (.type "NoneType")
 | bl (x : Bool) : pJ K H (.bl x) (.type "bool")
 | int (i : Int) : pJ K H (.int i) (.type "int")
 | str (x : Str) : pJ K H (.str x) (.type "str")
 | flt (x : UInt64) : pJ K H (.flt x) (.type "float")
 | lst {a : Addr} {xs : List V} (e : H a = some (.lst xs)) : pJ K H (.ref a) (.type "list")
 | frz {a : Addr} {o : Obj} {xs : List V} (e : H a = some (.frz o (.lst xs))) : pJ K H (.ref a) (.type "list")
 | tup {a : Addr} {xs : List V} (e : H a = some (.tup xs)) : pJ K H (.ref a) (.type "tuple")
 | dK {a : Addr} {kvs : List (Key × V)} (e : H a = some (.dK kvs)) : pJ K H (.ref a) (.type "dict")
 | dT {a : Addr} {kvs : List (List Key × V)} (e : H a = some (.dT kvs)) : pJ K H (.ref a) (.type "dict")
 | ins {a C dx : Addr} {fs : List (Str × V)} (e : H a = some (.ins C dx fs)) (cl : Cls K C) (ha : PySem.W.findIn K (.ref C) "__class__" = some (some (.builtin "object.__class__")))
   (hn : PySem.W.specialIn K (.builtin "object.__class__") "__get__" = some (some (.builtin "getset_descriptor.__get__"))) (htk : PySem.W.takesIn K (.builtin "object.__class__") = some true)
   (hm : PySem.W.mroIn K C (.type "object") = some true) : pJ K H (.ref a) (.ref C)
theorem sh {x : V} {u t : Value} (I : Inv X pins σ H s) (rx : de x u) (ty : pJ X.K H x t) (e : PySem.W.kitOne X.K t c = some b) (h : ∀ tk, Q (.bool b) { s with toks := tk }) :
  wpAny (model X.prog X.w) A (call (.builtin "isinstance") [u, c]) Q E s := by
 cases ty with
 | non => cases (show u = Value.none from rx); exact PySem.W.kia_one PySem.W.kitx_none I.kIn True.intro e (fun z => nomatch z) h
 | bl y => cases (show u = Value.bool y from rx); exact PySem.W.kia_one PySem.W.kitx_bool I.kIn True.intro e (fun z => nomatch z) h
 | int i => obtain ⟨t, q⟩ := (show ∃ t, u = Value.int i t from rx); cases q; exact PySem.W.kia_one PySem.W.kitx_int I.kIn True.intro e (fun z => nomatch z) h
 | str y => obtain ⟨t, q⟩ := (show ∃ t, u = Value.str y t from rx); cases q; exact PySem.W.kia_one PySem.W.kitx_str I.kIn True.intro e (fun z => nomatch z) h
 | flt y => obtain ⟨t, q⟩ := (show ∃ t, u = Value.float y t from rx); cases q; exact PySem.W.kia_one PySem.W.kitx_float I.kIn True.intro e (fun z => nomatch z) h
 | @lst a xs ea =>
  cases (show u = Value.ref a from rx)
  obtain ⟨_, _, n, _, h1⟩ := (show dD X.prog X.w H s.heap a (.lst xs) from I.hok a _ ea)
  exact PySem.W.kia_one PySem.W.kitx_list I.kIn ⟨_, h1, rfl⟩ e (fun z => nomatch z) h
 | @frz a ob xs ea =>
  cases (show u = Value.ref a from rx)
  obtain ⟨_, _, _, n, _, h1⟩ := (show dD X.prog X.w H s.heap a (.frz ob (.lst xs)) from I.hok a _ ea)
  exact PySem.W.kia_one PySem.W.kitx_list I.kIn ⟨_, h1, rfl⟩ e (fun z => nomatch z) h
 | @tup a xs ea =>
  cases (show u = Value.ref a from rx)
  obtain ⟨_, _, _, p⟩ := (show dD X.prog X.w H s.heap a (.tup xs) from I.hok a _ ea)
  obtain ⟨o, h1, h2, _⟩ := p
  exact PySem.W.kia_one PySem.W.kitx_tuple I.kIn ⟨o, h1, h2⟩ e (fun z => nomatch z) h
 | @dK a kvs ea =>
  cases (show u = Value.ref a from rx)
  obtain ⟨_, _, vs, _, p⟩ := (show dD X.prog X.w H s.heap a (.dK kvs) from I.hok a _ ea)
  obtain ⟨o, es, ep, h1, h2, _⟩ := p
  exact PySem.W.kia_one PySem.W.kitx_dict I.kIn ⟨o, h1, h2.1⟩ e (fun z => nomatch z) h
 | @dT a kvs ea =>
  cases (show u = Value.ref a from rx)
  obtain ⟨_, _, xs, _, o, es, ep, h1, h2, _⟩ := (show dD X.prog X.w H s.heap a (.dT kvs) from I.hok a _ ea)
  exact PySem.W.kia_one PySem.W.kitx_dict I.kIn ⟨o, h1, h2.1⟩ e (fun z => nomatch z) h
 | @ins a C dx fs ea cl ha hn htk hm =>
  cases (show u = Value.ref a from rx)
  obtain ⟨mA, O, _⟩ := lK I.hok ea
  obtain ⟨od, J, _⟩ := O.look
  exact PySem.W.kia_one (PySem.W.kitx_own (cl.get _) cl.hd ha hn htk hm) I.kIn J e (fun z => nomatch z) h
end
structure fi (k : Nat) (A : Around) : Prop where
 hd : A.handled = none
 dp : A.depth + 3 * k + 5 < recursionLimit
 un : A.units + 16 * k + 200 < cLine
theorem fi.mono {j k : Nat} {A : Around} (r : fi k A) (h : j ≤ k) : fi j A := ⟨r.hd, by have := r.dp; omega, by have := r.un; omega⟩
theorem fi.deeper {k : Nat} {A : Around} (r : fi (k + 1) A) (env : Env) : fi k (A.deeper env) :=
 ⟨r.hd, by have := r.dp; show A.depth + 1 + 3 * k + 5 < _; omega, by have := r.un; show A.units + 3 + 16 * k + 200 < _; omega⟩
theorem qd {A : Around} {C : Addr} {us : List Value} {kw : List (Str × Value)} : (A.under (.builtin "type.__call__" ⟨.ref C :: us, kw⟩)).depth = A.depth + 1 := by
 first | rfl | simp [Around.under, Code.weight, Code.isCreation, Code.isGuard, Code.isCaller, Code.frames, Code.isFrame, guardIds]
theorem qb {A : Around} {C : Addr} {us : List Value} {kw : List (Str × Value)} : (A.under (.builtin "type.__call__" ⟨.ref C :: us, kw⟩)).units = A.units + 1 := by
 first | rfl | simp [Around.under, Code.cUnits, Code.frames, Code.isFrame]
theorem fi.make {k : Nat} {A : Around} (r : fi (k + 1) A) (C : Addr) (us : List Value) (kw : List (Str × Value)) : fi k (A.under (.builtin "type.__call__" ⟨.ref C :: us, kw⟩)) :=
 ⟨r.hd, by have := r.dp; rw [qd]; omega, by have := r.un; rw [qb]; omega⟩
theorem fi.depth {k : Nat} {A : Around} (r : fi k A) : A.depth < recursionLimit := by have := r.dp; omega
theorem fi.units {k : Nat} {A : Around} (r : fi k A) : A.units + 64 < cLine := by have := r.un; omega
noncomputable def By : TA := fun _ H Q => Q [] H
noncomputable def zS (ta : TE) (tr : TA) : TA := fun σ H Q => ta σ H fun x H1 => tr σ H1 fun xs H2 => Q (x :: xs) H2
section
variable {X : Cx} {e : Expr} {es : List Expr} {te : TE} {t : TA} {pos : Pos}
theorem AH : PA X [] By := fun _ _ _ _ H Q I h => Calls.spliced_nil ⟨[], H, I, .nil, h⟩
theorem xV (ha : PE X e te) (hr : PA X es t) (hs : starEach (e :: es) X.env = (false, eval e X.env) :: starEach es X.env := by rfl) : PA X (e :: es) (zS te t) := by
 intro pos pins s σ H Q I h
 rw [hs]
 show wpAny _ _ (spliced ((false, eval e X.env) :: backTo pos (starEach es X.env))) _ _ s
 refine Calls.spliced_cons (thn (ha pins s σ H _ I h) fun u s1 hz => ?_)
 obtain ⟨x, H1, I1, r1, q1⟩ := hz
 exact thn (hr pos pins s1 σ H1 _ I1 q1) fun us s2 ⟨xs, H2, I2, r2, q2⟩ => ⟨x :: xs, H2, I2, .cons r1 r2, q2⟩
noncomputable def DZ (t : TA) : TE := fun σ H Q => t σ H fun xs H1 => xs.length ≤ sizeLine ∧ ∀ p, H1 p = none → Q (.ref p) (upd H1 p (.tup xs))
noncomputable def D3 (t : TA) : TE := fun σ H Q => t σ H fun xs H1 => xs.length ≤ sizeLine ∧ ∀ p, H1 p = none → Q (.ref p) (upd H1 p (.lst xs))
theorem Aw {x1} (h : PA X es t) : PE X (.Tuple es x1 pos) (DZ t) := by
 intro pins s σ H Q I hq
 refine wpAny_Tuple_spliced (thn (h pos pins s σ H _ I hq) fun us s1 ⟨xs, H1, I1, r, z, q⟩ => ⟨by rw [← r.length]; exact z, ?_⟩)
 have hf : H1 s1.heap.objs.size = none := I1.hok.fresh (Nat.le_refl _)
 refine ⟨.ref s1.heap.objs.size, upd H1 s1.heap.objs.size (.tup xs), I1.laid (t' := s1.toks) (fun b u e => Heap.get?_push_of_some _ e) (Nat.le_refl _) ?_, rfl, q _ hf⟩
 exact ⟨z, us, r, ⟨_, Heap.get?_push_size _ rfl, rfl, _, rfl⟩⟩
theorem AB (h : PA X es t) : PE X (.List es pos) (D3 t) := by
 intro pins s σ H Q I hq
 refine wpAny_List_spliced (thn (h pos pins s σ H _ I hq) fun us s1 ⟨xs, H1, I1, r, z, q⟩ => ⟨by rw [← r.length]; exact z, ?_⟩)
 have hf : H1 s1.heap.objs.size = none := I1.hok.fresh (Nat.le_refl _)
 refine ⟨.ref s1.heap.objs.size, upd H1 s1.heap.objs.size (.lst xs), I1.laid (t' := s1.toks) (fun b u e => Heap.get?_push_of_some _ e) (Nat.le_refl _) ?_, rfl, q _ hf⟩
 exact ⟨z, us, 0, r, Heap.get?_push_size _ rfl⟩
end
noncomputable abbrev Sp := List V → Hp → VK → XK → Prop
noncomputable abbrev CXT := List Env → Hp → Shared → XK → Value → Shared → Prop
structure yz (P : Program) (w : World) (K : PySem.W.Frag) (mg : Str → Option Value) (base : Heap) (A : Around) (outer : List Env) (s : Shared) (H : Hp) : Prop where
 frames : A.frames = some outer
 mod : Mod K mg base
 bs : ∀ b o, base.get? b = some o → s.heap.get? b = some o ∧ H b = none
 bsz : base.objs.size ≤ s.heap.objs.size
 funs : s.heap.FunFrames base outer
 frf : ∀ b ∈ frs outer, H b = none
 hok : HOk P w H s.heap
 bare : AllBare s.gens
noncomputable def CE (outer : List Env) (P : Program) (w : World) (H : Hp) (s : Shared) (Q : VK) (u : Value) (s' : Shared) : Prop :=
 ∃ v H', s'.os = s.os ∧ AllBare s'.gens ∧ Un (frs outer) [] H H' s.heap s'.heap ∧ HOk P w H' s'.heap ∧ de v u ∧ Q v H'
noncomputable def CR (CX : CXT) (outer : List Env) (P : Program) (w : World) (H : Hp) (s : Shared) (Q : VK) (E : XK) (r : Result) (s' : Shared) : Prop :=
 match r with
 | .ok (.ret u) => CE outer P w H s Q u s'
 | .ok _ => False
 | .error e => CX outer H s E e s'
structure iU (P : Program) (w : World) (K : PySem.W.Frag) (mg : Str → Option Value) (base : Heap) (CX : CXT) (k : Nat) (f : Addr) (fd : FuncData) (ps : List Str) (sp : Sp) : Prop where
 len : ∀ vs H Q E, sp vs H Q E → vs.length = ps.length
 run : ∀ (A : Around) (outer : List Env) (s : Shared) (H : Hp) (args : Args) (us : List Value) (vs : List V) (Q : VK) (E : XK), fi k A → yz P w K mg base A outer s H → BindsTo s fd args (ps.zip us) → b0 vs us → sp vs H Q E →
  codeAny (model P w) A (.call (.ref f) args) (CR CX outer P w H s Q E) s
theorem iU.mono {P : Program} {w : World} {K : PySem.W.Frag} {mg : Str → Option Value} {base : Heap} {CX : CXT} {j k : Nat} {f : Addr} {fd : FuncData} {ps : List Str} {sp : Sp} (F : iU P w K mg base CX j f fd ps sp) (h : j ≤ k) :
  iU P w K mg base CX k f fd ps sp := ⟨F.len, fun A outer s H args us vs Q E hr => F.run A outer s H args us vs Q E (hr.mono h)⟩
theorem yz.make {P : Program} {w : World} {K : PySem.W.Frag} {mg : Str → Option Value} {base : Heap} {A : Around} {outer : List Env} {s : Shared} {H : Hp} (e : yz P w K mg base A outer s H) (C : Addr) (us : List Value) (kw : List (Str × Value)) :
  yz P w K mg base (A.under (.builtin "type.__call__" ⟨.ref C :: us, kw⟩)) outer s H := ⟨by first | exact e.frames | (simpa [Around.under, Code.envs, Code.isFrame, pushEnvs] using e.frames), e.mod, e.bs, e.bsz, e.funs, e.frf, e.hok, e.bare⟩
section
variable {X : Cx} {pins : List (Addr × Obj)} {σ : St} {H : Hp} {s s' : Shared}
theorem Inv.env0 (I : Inv X pins σ H s) : yz X.prog X.w X.K X.mg X.base X.A X.stack s H :=
 ⟨I.ok.frames, I.ok.mod, I.bs, Nat.le_trans I.ok.bsz I.sz, I.stack, I.stkFree, I.hok, I.bare⟩
theorem Inv.after {Q : VK} {u : Value} (I : Inv X pins σ H s) (h : CE X.stack X.prog X.w H s Q u s') : EP X pins σ Q u s' := by
 obtain ⟨v, H', os, bare, un, hok, r, q⟩ := h
 obtain ⟨hh, g, d, t, os'⟩ := s'
 obtain rfl : os' = s.os := os
 exact ⟨v, H', I.call (h' := hh) (g' := g) (d' := d) (t' := t) (ch := []) un hok bare (fun b z => absurd z (by simp)), r, q⟩
end
noncomputable def zT (sp : Sp) (dvs : List V) (E : XK) (t : TA) : TE := fun σ H Q => t σ H fun vs H1 => sp (vs ++ dvs) H1 Q E
noncomputable def qU (C : Addr) (m : Str) (sp : Sp) (dvs : List V) (E : XK) (ta : TE) (t : TA) : TE := fun σ H Q => ta σ H fun x H1 => ∃ a dx fs, x = .ref a ∧ H1 a = some (.ins C dx fs) ∧ fs.lookup m = none ∧
 t σ H1 fun vs H2 => sp (x :: (vs ++ dvs)) H2 Q E
noncomputable def xn (C : Addr) (sp : Sp) (dvs : List V) (E : XK) (t : TA) : TE := fun σ H Q => t σ H fun vs H1 => ∀ x dx, H1 x = none → H1 dx = none → dx ≠ x →
 sp (.ref x :: (vs ++ dvs)) (upd (upd H1 dx (.own x)) x (.ins C dx [])) (fun v H2 => v = .non ∧ Q (.ref x) H2) E
noncomputable def dS (K : PySem.W.Frag) (fd : FuncData) (ps : List Str) (ds : List Value) : Prop :=
 ∀ (s : Shared) (us : List Value), K.In s.heap → (us ++ ds).length = ps.length → BindsTo s fd ⟨us, []⟩ (ps.zip (us ++ ds))
theorem dS.all {K : PySem.W.Frag} {fd : FuncData} {ps : List Str} (h : ∀ us : List Value, us.length = ps.length → bindArgs fd ⟨us, []⟩ = pure (ps.zip us)) : dS K fd ps [] := fun s us _ hl => by
 rw [List.append_nil] at hl ⊢
 exact .of_eq (h us hl)
noncomputable def fT (CX : CXT) (X : Cx) (E : XK) : Prop := ∀ (pins : List (Addr × Obj)) (σ : St) (H : Hp) (s : Shared) (e : Value) (s' : Shared), Inv X pins σ H s → CX X.stack H s E e s' → X.xe e s'
section
variable {X : Cx} {CX : CXT} {k : Nat} {f C : Addr} {fd : FuncData} {ps : List Str} {sp : Sp} {dvs : List V} {ds : List Value} {E : XK} {x m : Str} {p pos apos : Pos} {e o : Expr} {es : List Expr} {ta : TE} {t : TA}
theorem rl {pins : List (Addr × Obj)} {σ : St} {H : Hp} {s : Shared} {Q : VK} {us : List Value} {vs : List V} (F : iU X.prog X.w X.K X.mg X.base CX k f fd ps sp) (hr : fi k X.A) (hb : dS X.K fd ps ds) (hd : b0 dvs ds) (hx : fT CX X E)
  (I : Inv X pins σ H s) (r : b0 vs us) (h : sp (vs ++ dvs) H Q E) : wpAny (model X.prog X.w) X.A (call (.ref f) us) (EP X pins σ Q) X.xe s := by
 have r2 : b0 (vs ++ dvs) (us ++ ds) := r.append hd
 have hl : (us ++ ds).length = ps.length := by rw [← r2.length]; exact F.len _ _ _ _ h
 refine wpAny_call (codeAny_mono (F.run X.A X.stack s H ⟨us, []⟩ (us ++ ds) (vs ++ dvs) Q E hr I.env0 (hb s us I.kIn hl) r2 h) fun r s' hq => ?_)
 cases r with
 | error e => exact hx pins σ H s e s' I hq
 | ok fl =>
  cases fl with
  | ret u => exact I.after hq
  | next => exact False.elim hq
  | brk => exact False.elim hq
  | cont => exact False.elim hq
theorem xT (F : iU X.prog X.w X.K X.mg X.base CX k f fd ps sp) (hr : fi k X.A) (hg : Gl X x) (hm : X.mg x = some (.ref f)) (hk : PySem.W.keepIn X.K (.ref f) = true) (hb : dS X.K fd ps ds) (hd : b0 dvs ds) (hx : fT CX X E)
  (ha : PA X (e :: es) t) (hdb : (x == ("__debug__" : Str)) = false := by decide) (he : starEach (e :: es) X.env = (false, eval e X.env) :: starEach es X.env := by rfl) (hpl : (backTo pos (starEach es X.env)).any (·.1) = false := by rfl) :
  PE X (.Call (.Name x p) (e :: es) [] pos) (zT sp dvs E t) := by
 intro pins s σ H Q I h
 refine wpAny_Call_Name_kw (oo I hg hm ?_ hdb)
 refine PySem.W.callWith_K (h₀ := X.base) I.ok.mod.kin hk (thn (ha pos pins s σ H _ I h) fun us s1 ⟨vs, H1, I1, r, q⟩ => ⟨I1.kIn, ?_⟩) he hpl
 exact rl F hr hb hd hx I1 r q
theorem xP {pl : Sem Bool} (he : PE X o ta) (c : Cls X.K C) (hm : jY X.K C m f) (F : iU X.prog X.w X.K X.mg X.base CX k f fd ps sp) (hr : fi k X.A) (hb : dS X.K fd ps ds) (hd : b0 dvs ds) (hx : fT CX X E) (ha : PA X (e :: es) t)
  (hst : starEach (e :: es) X.env = (false, eval e X.env) :: starEach es X.env := by rfl) (hpl : (backTo pos (starEach es X.env)).any (·.1) = false := by rfl)
  (ht : eval (.Call (.Attribute o m apos) (e :: es) [] pos) X.env = (do
   let ov ← eval o X.env
   standAt apos.atName
   let (f, first) ← holding [ov] (getMethod ov m pl)
   callWith pos f first (backTo pos (starEach (e :: es) X.env)) (backToKw pos (keywordEach [] X.env))) := by rfl) :
  PE X (.Call (.Attribute o m apos) (e :: es) [] pos) (qU C m sp dvs E ta t) := by
 intro pins s σ H Q I h
 refine PySem.W.methodCall_KW (pl := pl) (thn (he pins s σ H _ I h) fun u s1 hz => ?_) ht
 obtain ⟨x, H1, I1, rx, a, dx, fs, ex, ea, l, q⟩ := hz
 subst ex
 obtain rfl : u = Value.ref a := rx
 refine lg I1 ea c hm l ?_
 refine PySem.W.callWith_K (first := [.ref a]) (h₀ := X.base) I.ok.mod.kin hm.kp (thn (ha pos pins s1 σ H1 _ I1 q) fun us s2 ⟨vs, H2, I2, r, q2⟩ => ⟨I2.kIn, ?_⟩) hst hpl
 exact rl (us := .ref a :: us) (vs := .ref a :: vs) F hr hb hd hx I2 (.cons rfl r) q2
theorem uF {pl : Sem Bool} (he : PE X o ta) (c : Cls X.K C) (hm : jY X.K C m f) (F : iU X.prog X.w X.K X.mg X.base CX k f fd ps sp) (hr : fi k X.A) (hb : dS X.K fd ps ds) (hd : b0 dvs ds) (hx : fT CX X E)
  (ht : eval (.Call (.Attribute o m apos) [] [] pos) X.env = (do
   let ov ← eval o X.env
   standAt apos.atName
   let (f, first) ← holding [ov] (getMethod ov m pl)
   callWith pos f first (backTo pos (starEach [] X.env)) (backToKw pos (keywordEach [] X.env))) := by rfl) :
  PE X (.Call (.Attribute o m apos) [] [] pos) (qU C m sp dvs E ta By) := by
 intro pins s σ H Q I h
 refine PySem.W.methodCall_KW (pl := pl) (thn (he pins s σ H _ I h) fun u s1 hz => ?_) ht
 obtain ⟨x, H1, I1, rx, a, dx, fs, ex, ea, l, q⟩ := hz
 subst ex
 obtain rfl : u = Value.ref a := rx
 refine lg I1 ea c hm l ?_
 exact PySem.W.callWith_K0 (first := [.ref a]) I1.kIn hm.kp (rl (us := [.ref a]) (vs := [.ref a]) F hr hb hd hx I1 (.cons rfl .nil) q)
structure Mk (K : PySem.W.Frag) (C f : Addr) : Prop where
 makes : PySem.W.makesIn K C = true
 init : PySem.W.findIn K (.ref C) "__init__" = some (some (.ref f))
 fn : PySem.W.isFn K (.ref f) = true
 kp : PySem.W.keepIn K (.ref C) = true
theorem ui {pins : List (Addr × Obj)} {σ : St} {H : Hp} {s : Shared} {Q : VK} {us : List Value} {vs : List V} (M : Mk X.K C f) (F : iU X.prog X.w X.K X.mg X.base CX k f fd ps sp) (hr : fi (k + 1) X.A) (hb : dS X.K fd ps ds) (hd : b0 dvs ds)
  (hx : fT CX X E) (I : Inv X pins σ H s) (r : b0 vs us)
  (h : ∀ x dx, H x = none → H dx = none → dx ≠ x → sp (.ref x :: (vs ++ dvs)) (upd (upd H dx (.own x)) x (.ins C dx [])) (fun v H2 => v = .non ∧ Q (.ref x) H2) E) :
  wpAny (model X.prog X.w) X.A (call (.ref C) us) (EP X pins σ Q) X.xe s := by
 have hq := h (s.heap.objs.size + 1) s.heap.objs.size (I.hok.fresh (Nat.le_succ _)) (I.hok.fresh (Nat.le_refl _)) (Nat.ne_of_lt (Nat.lt_succ_self _))
 have I2 := Inv.made (C := C) I
 have r2 : b0 (V.ref (s.heap.objs.size + 1) :: (vs ++ dvs)) (Value.ref (s.heap.objs.size + 1) :: (us ++ ds)) := .cons rfl (r.append hd)
 have hl : (Value.ref (s.heap.objs.size + 1) :: us ++ ds).length = ps.length := by
  have e := r2.length
  rw [F.len _ _ _ _ hq] at e
  exact e.symm
 refine wpAny_call (uU (f := f) I.kIn M.makes M.init (beq_iff_eq.mp M.fn) (codeAny_mono (F.run _ X.stack _ _ ⟨Value.ref (s.heap.objs.size + 1) :: us, []⟩ (Value.ref (s.heap.objs.size + 1) :: (us ++ ds)) _ _ E (hr.make C us [])
  (I2.env0.make C us []) (hb _ (Value.ref (s.heap.objs.size + 1) :: us) I2.kIn hl) r2 hq) fun r s' hq' => ?_))
 cases r with
 | error e => exact hx pins σ _ _ e s' I2 hq'
 | ok fl =>
  cases fl with
  | ret u =>
   obtain ⟨v, H', I3, rv, ev, q3⟩ := I2.after hq'
   subst ev
   exact ⟨rv, ⟨V.ref (s.heap.objs.size + 1), H', I3, rfl, q3⟩⟩
  | next => exact False.elim hq'
  | brk => exact False.elim hq'
  | cont => exact False.elim hq'
theorem xQ (M : Mk X.K C f) (F : iU X.prog X.w X.K X.mg X.base CX k f fd ps sp) (hr : fi (k + 1) X.A) (hg : Gl X x) (hm : X.mg x = some (.ref C)) (hb : dS X.K fd ps ds) (hd : b0 dvs ds) (hx : fT CX X E)
  (ha : PA X (e :: es) t) (hdb : (x == ("__debug__" : Str)) = false := by decide) (he : starEach (e :: es) X.env = (false, eval e X.env) :: starEach es X.env := by rfl) (hpl : (backTo pos (starEach es X.env)).any (·.1) = false := by rfl) :
  PE X (.Call (.Name x p) (e :: es) [] pos) (xn C sp dvs E t) := by
 intro pins s σ H Q I h
 refine wpAny_Call_Name_kw (oo I hg hm ?_ hdb)
 refine PySem.W.callWith_K (h₀ := X.base) I.ok.mod.kin M.kp (thn (ha pos pins s σ H _ I h) fun us s1 ⟨vs, H1, I1, r, q⟩ => ⟨I1.kIn, ?_⟩) he hpl
 exact ui M F hr hb hd hx I1 r q
end
structure aU (N P : List Str) (sc : Scope) : Prop where
 kind : sc.kind = .function
 co : sc.isCoroutine = false
 gen : sc.isGenerator = false
 nd : N.Nodup
 pre : N.take P.length = P
 par : ∀ x ∈ P, sc.names.lookup x = some .local ∨ sc.names.lookup x = some .cell
 nofree : ∀ y ∈ sc.names, y.2 ≠ .free
theorem nk {kindOf : Str → Option NameKind} {x : Str} : ∀ {binds : List (Str × Value)} {m : Str → Option Value}, (∀ v, (x, v) ∉ binds) → bindL kindOf binds m x = m x
 | [], _, _ => rfl
 | (n, v) :: r, m, h => by
  unfold bindL
  rw [nk fun w hw => h w (List.mem_cons_of_mem _ hw)]
  split
  ·have : x ≠ n := by rintro rfl; exact h v List.mem_cons_self
   simp [this]
  ·rfl
theorem nr {kindOf : Str → Option NameKind} {x : Str} : ∀ {binds : List (Str × Value)} {m : Str → Option Value}, (∀ v, (x, v) ∉ binds) → bindC kindOf binds m x = m x
 | [], _, _ => rfl
 | (n, v) :: r, m, h => by
  unfold bindC
  rw [nr fun w hw => h w (List.mem_cons_of_mem _ hw)]
  split
  ·rfl
  ·have : x ≠ n := by rintro rfl; exact h v List.mem_cons_self
   simp [this]
theorem nq {kindOf : Str → Option NameKind} {x : Str} {v : Value} : ∀ {P : List Str} {vs : List Value} {i : Nat} {m : Str → Option Value}, P.Nodup → P[i]? = some x → vs[i]? = some v → kindOf x = some .local →
  bindL kindOf (P.zip vs) m x = some v
 | [], _, _, _, _, h, _, _ => by simp at h
 | _ :: _, [], _, _, _, _, h, _ => by simp at h
 | p :: P, w :: vs, 0, m, nd, h1, h2, hk => by
  simp at h1 h2; subst h1; subst h2
  show bindL kindOf ((p, w) :: P.zip vs) m p = _
  unfold bindL
  rw [nk fun v hv => (List.nodup_cons.mp nd).1 (List.of_mem_zip hv).1, if_pos hk]
  simp
 | p :: P, w :: vs, i + 1, m, nd, h1, h2, hk => by
  show bindL kindOf ((p, w) :: P.zip vs) m x = _
  unfold bindL
  exact nq (i := i) (List.nodup_cons.mp nd).2 (by simpa using h1) (by simpa using h2) hk
theorem nu {kindOf : Str → Option NameKind} {x : Str} {v : Value} : ∀ {P : List Str} {vs : List Value} {i : Nat} {m : Str → Option Value}, P.Nodup → P[i]? = some x → vs[i]? = some v → kindOf x ≠ some .local →
  bindC kindOf (P.zip vs) m x = some v
 | [], _, _, _, _, h, _, _ => by simp at h
 | _ :: _, [], _, _, _, _, h, _ => by simp at h
 | p :: P, w :: vs, 0, m, nd, h1, h2, hk => by
  simp at h1 h2; subst h1; subst h2
  show bindC kindOf ((p, w) :: P.zip vs) m p = _
  unfold bindC
  rw [nr fun v hv => (List.nodup_cons.mp nd).1 (List.of_mem_zip hv).1, if_neg hk]
  simp
 | p :: P, w :: vs, i + 1, m, nd, h1, h2, hk => by
  show bindC kindOf ((p, w) :: P.zip vs) m x = _
  unfold bindC
  exact nu (i := i) (List.nodup_cons.mp nd).2 (by simpa using h1) (by simpa using h2) hk
noncomputable def gm (N : List Str) (vs : List V) : St := vs.map some ++ List.replicate (N.length - vs.length) none
noncomputable def qx (CX : CXT) (P : Program) (w : World) (K : PySem.W.Frag) (mg : Str → Option Value) (base : Heap) (N : List Str) (qual : Str) (scope : Scope) (f : Addr) (cd : Value) (A : Around) (outer : List Env) (s : Shared) (H : Hp) (E : XK) : Cx where
 prog := P
 w := w
 K := K
 mg := mg
 base := base
 A := A.deeper (envOfC qual scope s.heap.objs.size f cd)
 N := N
 s₀ := s
 H₀ := H
 env := envOfC qual scope s.heap.objs.size f cd
 outer := outer
 stack := envOfC qual scope s.heap.objs.size f cd :: outer
 ex := []
 calm := true
 fn := fun _ => true
 pn := []
 xe := fun e s' => wpAny (model P w) (A.deeper (envOfC qual scope s.heap.objs.size f cd)) (leaving (envOfC qual scope s.heap.objs.size f cd) e) (fun _ s'' => CX outer H s E e s'') (fun e' s'' => CX outer H s E e' s'') s'
theorem pH {sc : Scope} {n : Nat} {x : Str} (h : sc.names.lookup x = some .cell) : ∃ c, (cellsFrom n sc.names []).lookup x = some c := by
 have q := PySem.W.cellsFrom_some sc.names n [] (.inl h)
 exact Option.isSome_iff_exists.mp q
theorem si {CX : CXT} {P : Program} {w : World} {K : PySem.W.Frag} {mg : Str → Option Value} {base : Heap} {N ps : List Str} {qual : Str} {scope : Scope} {f : Addr} {cd : Value} {A : Around} {outer : List Env} {s s1 : Shared} {H : Hp} {E : XK} {us : List Value} {vs : List V}
  (S : aU N ps scope) (hd : A.handled = none) (e0 : yz P w K mg base A outer s H) (hl : vs.length = ps.length) (r : b0 vs us)
  (x : InCallC s s.heap.objs.size (bindL (envOfC qual scope s.heap.objs.size f cd).kindOf (ps.zip us) fun _ => none) (cellsFrom (s.heap.objs.size + 1) scope.names []) (bindC (envOfC qual scope s.heap.objs.size f cd).kindOf (ps.zip us) fun _ => none) s1) :
  Inv (qx CX P w K mg base N qual scope f cd A outer s H E) [] (gm N vs) H s1 := by
 have hpl : ps.length ≤ N.length := by have := congrArg List.length S.pre; rw [List.length_take] at this; omega
 obtain ⟨h1, tk, rfl, hk⟩ := x.done
 have noA : ∀ b : Addr, b ∉ (qx CX P w K mg base N qual scope f cd A outer s H E).ex := fun b z => absurd (show b ∈ ([] : List Addr) from z) (by simp)
 refine ⟨⟨e0.mod, S.kind, rfl, rfl, Nat.le_refl _, fun y z c h1 h2 => ?_, fun y hy => ?_, fun y c _ h => ?_, fun _ => hd, Around.frames_deeper e0.frames, .inr ⟨rfl, rfl⟩, fun b z => absurd z (noA b), e0.bs, e0.bsz, fun b _ _ => noA b, fun b z => absurd z (noA b), e0.funs, e0.frf⟩,
  rfl, e0.bare, Un.kept hk, ⟨_, x.toInCall.ns, fun i y v h1 h2 h3 => ?_⟩, fun y c h => ⟨_, x.cell y c h⟩, e0.hok.fresh (Nat.le_refl _), fun y c h => ?_, fun p hp => absurd (show p ∈ ([] : List (Addr × Obj)) from hp) (by simp), e0.hok.kept hk, ?_⟩
 ·exact name_of_addr x.apart (PySem.mem_of_lookup h1) (PySem.mem_of_lookup h2)
 ·have hy : scope.names.lookup y = some .cell ∨ scope.names.lookup y = some .free := hy
  rcases hy with hy | hy
  ·exact pH hy
  ·exact absurd rfl (S.nofree _ (PySem.mem_of_lookup hy))
 ·exact Nat.le_of_lt (x.above y c (PySem.mem_of_lookup h))
 ·have hi : i < vs.length := by
   unfold gm at h2
   by_cases hi : i < vs.length
   ·exact hi
   ·rw [List.getElem?_append_right (by simpa using hi)] at h2
    rw [List.getElem?_replicate] at h2
    split at h2 <;> cases h2
  have ha : vs[i]? = some v := by
   unfold gm at h2
   rw [List.getElem?_append_left (by simpa using hi), List.getElem?_map] at h2
   cases e : vs[i]? with
   | none => rw [e] at h2; cases h2
   | some a => rw [e] at h2; cases h2; rfl
  obtain ⟨u, hu, rv⟩ := r.get ha
  have hp : ps[i]? = some y := by
   rw [← S.pre, List.getElem?_take_of_lt (by omega)]; exact h1
  have ndP : ps.Nodup := by rw [← S.pre]; exact S.nd.sublist (List.take_sublist _ _)
  refine ⟨u, rv, ?_⟩
  rcases S.par y (List.mem_of_getElem? hp) with k | k
  ·exact .inl ⟨k, nq ndP hp hu k⟩
  ·obtain ⟨c, e⟩ := pH (n := s.heap.objs.size + 1) k
   refine .inr ⟨.inl k, c, e, ?_⟩
   have q := x.cell y c e
   rw [nu ndP hp hu (by show scope.names.lookup y ≠ _; rw [k]; decide)] at q
   exact q
 ·exact e0.hok.fresh (Nat.le_of_lt (x.above y c (PySem.mem_of_lookup h)))
 ·unfold gm
  show _ = N.length
  rw [List.length_append, List.length_map, List.length_replicate]
  omega
theorem DN {CX : CXT} {P : Program} {w : World} {K : PySem.W.Frag} {mg : Str → Option Value} {base : Heap} {k : Nat} {f : Addr} {name qual : Str} {params : Arguments} {body : List Stmt} {scope : Scope} {dV kV doc pm cdv ct oc : Value} {an od : Option Addr}
  {osl : Array (Option Value)} {N ps : List Str} {sp : Sp} (lk : K.lookup f = some ⟨oc, od, .func (PySem.W.fnOf name qual params body scope dV kV doc pm an cdv ct), osl⟩) (hcd : PySem.W.codeIn K cdv qual = true) (S : aU N ps scope)
  (len : ∀ vs H Q E, sp vs H Q E → vs.length = ps.length)
  (hbody : ∀ (A : Around) (outer : List Env) (s : Shared) (H : Hp) (vs : List V) (Q : VK) (E : XK), fi k (A.deeper (envOfC qual scope s.heap.objs.size f cdv)) → sp vs H Q E →
   ∃ t, PSs (qx CX P w K mg base N qual scope f cdv A outer s H E) body t ∧ t { nx := fun _ H' => Q .non H', rt := Q } (gm N vs) H) :
  iU P w K mg base CX (k + 1) f (PySem.W.fnOf name qual params body scope dV kV doc pm an cdv ct) ps sp := by
 refine ⟨len, fun A outer s H args us vs Q E hr e0 hb r hsp => ?_⟩
 have hl := len _ _ _ _ hsp
 have KX : K.In s.heap := e0.mod.kin.keeps fun b o e => (e0.bs b o e).1
 have lim : s.heap.NoLimit := e0.mod.nolimit.keeps fun b o e => (e0.bs b o e).1
 have hkind : ∀ y ∈ ps.zip us, scope.names.lookup y.1 = some .local ∨ (scope.names.lookup y.1 = some .cell ∧ ((cellsFrom (s.heap.objs.size + 1) scope.names []).lookup y.1).isSome = true) := fun ⟨n, v⟩ hy => by
  rcases S.par n (List.of_mem_zip hy).1 with q | q
  ·exact .inl q
  ·exact .inr ⟨q, PySem.W.cellsFrom_some _ _ _ (.inl q)⟩
 refine codeAny_call_function hr.depth (KX _ _ lk) rfl S.co S.gen rfl (PySem.W.codeRec_of KX hcd) (hb _ _ _ _ ?_)
 refine wpAny_newFunctionEnv_cells S.kind hkind fun env he s1 x => ?_
 subst he
 refine ⟨lim.keeps x.toInCall.keep, codeAny_func ?_⟩
 obtain ⟨t, ht, hq⟩ := hbody A outer s H vs Q E (hr.deeper _) hsp
 have I : Inv (qx CX P w K mg base N qual scope f cdv A outer s H E) [] (gm N vs) H s1 := si S hr.hd e0 hl r x
 refine wpAny_mono (ht [] s1 (gm N vs) H _ I hq) (fun fl s' hs => ?_) fun e s' hs => hs
 have fin : ∀ {σ' : St} {H' : Hp} {v : V} {u : Value}, Inv (qx CX P w K mg base N qual scope f cdv A outer s H E) [] σ' H' s' → de v u → Q v H' → CE outer P w H s Q u s' :=
  fun {σ' H' v u} J rv q => ⟨v, H', J.os, J.bare, J.base, J.hok, rv, q⟩
 cases fl with
 | ret u =>
  obtain ⟨v, σ', H', J, rv, q⟩ := hs
  exact fin J rv q
 | next =>
  obtain ⟨σ', H', J, q⟩ := hs
  exact fin (v := V.non) (u := Value.none) J rfl q
 | brk =>
  obtain ⟨_, _, _, q⟩ := hs
  exact False.elim q
 | cont =>
  obtain ⟨_, _, _, q⟩ := hs
  exact False.elim q
section
variable {X : Cx} {x : Str} {p pos : Pos} {e : Expr} {es : List Expr} {t : TA} {id T : String} {r : List V → Hp → VK → Prop}
noncomputable def tCB (r : List V → Hp → VK → Prop) (t : TA) : TE := fun σ H Q => t σ H fun vs H1 => r vs H1 Q
theorem uH (hc : eA X (.builtin id) r) (hg : Gl X x) (hm : X.mg x = none) (hv : bootBuiltins x = some (.builtin id)) (ha : PA X (e :: es) t) (hn : x ≠ "__name__" := by decide) (hdb : (x == ("__debug__" : Str)) = false := by decide)
  (he : starEach (e :: es) X.env = (false, eval e X.env) :: starEach es X.env := by rfl) (hpl : (backTo pos (starEach es X.env)).any (·.1) = false := by rfl) : PE X (.Call (.Name x p) (e :: es) [] pos) (tCB r t) := by
 intro pins s σ H Q I h
 refine wpAny_Call_Name_kw (mW I hg hm hv ?_ hn hdb)
 exact PyProof.Rows.callWith_builtin1 (thn (ha pos pins s σ H _ I h) fun us s1 ⟨vs, H1, I1, r1, q1⟩ => hc pins s1 σ H1 vs us Q I1 r1 q1) he hpl
theorem rE (hc : eA X (.type T) r) (hg : Gl X x) (hm : X.mg x = none) (hv : bootBuiltins x = some (.type T)) (ha : PA X (e :: es) t) (hn : x ≠ "__name__" := by decide) (hdb : (x == ("__debug__" : Str)) = false := by decide)
  (he : starEach (e :: es) X.env = (false, eval e X.env) :: starEach es X.env := by rfl) (hpl : (backTo pos (starEach es X.env)).any (·.1) = false := by rfl) : PE X (.Call (.Name x p) (e :: es) [] pos) (tCB r t) := by
 intro pins s σ H Q I h
 refine wpAny_Call_Name_kw (mW I hg hm hv ?_ hn hdb)
 exact PyProof.Rows.callWith_type1 (thn (ha pos pins s σ H _ I h) fun us s1 ⟨vs, H1, I1, r1, q1⟩ => hc pins s1 σ H1 vs us Q I1 r1 q1) he hpl
end
end L2
namespace HT
open PySem PyProof.Rows
section
variable {prog : Program} {w : World} {A : Around} {E : Value → Shared → Prop} {s : Shared}
theorem cat_tup {t b : Addr} {vs ws : List Value} {Q : Value → Shared → Prop} (ht : IsTup s.heap t vs.toArray) (hb : IsTup s.heap b ws.toArray) (hv : vs ≠ [])
  (h1 : ws = [] → Q (.ref t) s) (h2 : ws ≠ [] → Q (.ref s.heap.objs.size) { s with heap := s.heap.push { cls := .type "tuple", data := .seq (vs ++ ws).toArray } })
  (hsz : vs.length + ws.length ≤ sizeLine) : wpAny (model prog w) A (binaryOp .Add (.ref t) (.ref b)) Q E s := by
 obtain ⟨⟨cls, dd, data, sl⟩, ho, hc, n, hd⟩ := id ht
 obtain ⟨⟨cls2, dd2, data2, sl2⟩, ho2, hc2, n2, hd2⟩ := id hb
 simp only at hc hd hc2 hd2
 subst hc hd hc2 hd2
 have e : vs.toArray ++ ws.toArray = (vs ++ ws).toArray := by simp
 by_cases hw : ws = []
 ·exact concat_meets ⟨_, ho, rfl⟩ ⟨_, ho2, rfl⟩ noFill_tuple_add seq_tuple_add PySem.F.slot_tuple_add PySem.F.entry_tuple_add (PySem.F.args_tuple_add_2 _ _)
   (tuple_addW1 t b vs.toArray ws.toArray n n2 dd dd2 sl sl2 (by simpa using hv) (by simp [hw])) ⟨ho, ho2, h1 hw⟩
 ·refine concat_meets ⟨_, ho, rfl⟩ ⟨_, ho2, rfl⟩ noFill_tuple_add seq_tuple_add PySem.F.slot_tuple_add PySem.F.entry_tuple_add (PySem.F.args_tuple_add_2 _ _)
   (tuple_addW2 t b vs.toArray ws.toArray n n2 dd dd2 sl sl2 (by simpa using hv) (by simpa using hw) (by rw [List.size_toArray, List.size_toArray]; exact hsz)) ⟨ho, ho2, ?_⟩
  rw [e]
  exact h2 hw
noncomputable def sIx (n d : Nat) : Option Int → Nat
 | none => d
 | some v => if v < 0 then (v + (n : Int)).toNat else min v.toNat n
theorem zW (n d : Nat) (hd : d ≤ n) (o : Option Int) : sIx n d o ≤ n := by
 cases o with
 | none => exact hd
 | some v =>
  show (if v < 0 then (v + (n : Int)).toNat else min v.toNat n) ≤ n
  by_cases hv : v < 0
  ·rw [if_pos hv]; omega
  ·rw [if_neg hv]; exact Nat.min_le_right _ _
theorem sP (v : Int) (n d : Nat) : (if v < 0 then max (v + (n : Int)) 0 else min v (n : Int)) = ((sIx n d (some v) : Nat) : Int) := by
 show (if v < 0 then max (v + (n : Int)) 0 else min v (n : Int)) = (((if v < 0 then (v + (n : Int)).toNat else min v.toNat n) : Nat) : Int)
 by_cases hv : v < 0
 ·simp only [if_pos hv]; omega
 ·simp only [if_neg hv]; omega
theorem qq (lo hi : Option Int) (n : Nat) : Builtin.Slice.sliceAdjust lo hi 1 (n : Int) = (((sIx n 0 lo : Nat) : Int), ((sIx n n hi : Nat) : Int)) := by
 have h1 : ¬ ((1 : Int) < 0) := by omega
 unfold Builtin.Slice.sliceAdjust
 simp only [h1, if_false]
 refine Prod.ext ?_ ?_
 ·cases lo with
  | none => rfl
  | some v => exact sP v n 0
 ·cases hi with
  | none => rfl
  | some v => exact sP v n n
theorem p0 (i j : Nat) : Builtin.Slice.slicePlaces (i : Int) (j : Int) 1 = j - i := by
 unfold Builtin.Slice.slicePlaces
 have h1 : (1 : Int) > 0 := by omega
 simp only [h1, if_true, Int.ediv_one]
 split <;> omega
theorem kR {v : Value} {o : Option Int} {Q : Option Int → Shared → Prop} (p : IsPart v o) (h : Q o s) : wpAny (model prog w) A (Builtin.Slice.slicePartIndex v) Q E s := by
 cases p with
 | none => exact slicePart_none h
 | int i t => exact slicePart_int h
theorem iG {sl : Addr} {vl vu : Value} {lo hi : Option Int} {n : Nat} {Q : Int × Int × Nat → Shared → Prop} (hs : s.heap.IsSliceOf sl vl vu .none) (pl : IsPart vl lo) (pu : IsPart vu hi)
  (h : Q (((sIx n 0 lo : Nat) : Int), 1, sIx n n hi - sIx n 0 lo) s) : wpAny (model prog w) A (Builtin.Slice.sliceApplied (.ref sl) (pure (n : Int))) Q E s := by
 obtain ⟨os, hos, hcs, hds⟩ := id hs
 unfold Builtin.Slice.sliceApplied Builtin.Slice.sliceFields
 refine wpAny_bind (wpAny_bind (wpAny_field hos hds (x := vl) rfl (wpAny_bind (wpAny_field hos hds (x := vu) rfl (wpAny_bind (wpAny_field hos hds (x := .none) rfl (wpAny_pure ?_)))))))
 refine wpAny_bind (slicePart_none ?_)
 show wpAny _ _ (if ((1 : Int) == 0) = true then _ else _) _ _ s
 rw [if_neg (by decide)]
 refine wpAny_bind (kR pl (wpAny_bind (kR pu (wpAny_bind (wpAny_pure ?_)))))
 show wpAny _ _ (match Builtin.Slice.sliceAdjust lo hi 1 (n : Int) with | (lo, hi) => pure (lo, (1 : Int), Builtin.Slice.slicePlaces lo hi 1)) _ _ s
 rw [qq lo hi n]
 show wpAny _ _ (pure (((sIx n 0 lo : Nat) : Int), (1 : Int), Builtin.Slice.slicePlaces ((sIx n 0 lo : Nat) : Int) ((sIx n n hi : Nat) : Int) 1)) _ _ s
 rw [p0]
 exact wpAny_pure h
theorem uC (xs : Array Value) (i k : Nat) : ((List.range k).filterMap fun (m : Nat) => xs[((i : Int) + (m : Int) * 1).toNat]?).toArray = ((xs.toList.drop i).take k).toArray := by
 have e : (fun (m : Nat) => xs[((i : Int) + (m : Int) * 1).toNat]?) = fun m => xs[i + m]? := by
  funext m
  have : ((i : Int) + (m : Int) * 1).toNat = i + m := by omega
  rw [this]
 rw [e]
 have := pick_run xs i k
 rw [List.filterMap_map] at this
 have e2 : ((fun x => xs[x]?) ∘ fun x => i + x) = fun m => xs[i + m]? := rfl
 rw [e2] at this
 rw [this]
theorem getItem_tuple_cut {t sl : Addr} {items : Array Value} {vl vu : Value} {lo hi : Option Int} {Q : Value → Shared → Prop} (ht : IsTup s.heap t items) (hs : s.heap.IsSliceOf sl vl vu .none) (pl : IsPart vl lo) (pu : IsPart vu hi)
  (hw : ¬ (sIx items.size 0 lo = 0 ∧ sIx items.size items.size hi = items.size))
  (h : Q (.ref s.heap.objs.size) { s with heap := s.heap.push { cls := .type "tuple", data := .seq ((items.toList.drop (sIx items.size 0 lo)).take (sIx items.size items.size hi - sIx items.size 0 lo)).toArray } })
  (hsz : items.size ≤ sizeLine) : wpAny (model prog w) A (getItem (.ref t) (.ref sl)) Q E s := by
 have htake : sizeOk (.seq ((items.toList.drop (sIx items.size 0 lo)).take (sIx items.size items.size hi - sIx items.size 0 lo)).toArray) := by
  show ((items.toList.drop (sIx items.size 0 lo)).take (sIx items.size items.size hi - sIx items.size 0 lo)).toArray.size ≤ sizeLine
  rw [List.size_toArray, List.length_take, List.length_drop, Array.length_toList]
  omega
 have hj : sIx items.size items.size hi ≤ items.size := zW _ _ (Nat.le_refl _) hi
 obtain ⟨os, hos, hcs, hds⟩ := id hs
 have hTs : s.TypeIs (.ref sl) "slice" := ⟨os, hos, hcs⟩
 unfold getItem
 try with_reducible refine wpAny_holding ?_
 first | refine wpAny_bind (wpAny_pure ?_) | skip
 refine wpAny_bind (wpAny_sequenceKey ht.typeIs (by decide) ?_)
 refine wpAny_bind (wpAny_callSpecial?_slot (name := Str.ofString "__getitem__") ht.typeIs PyProof.Rows.slot_tuple_getitem
  (wpAny_call_entry PyProof.Rows.slot_tuple_getitem ht.typeIs entry_tuple_getitem ?_ (args_tuple_getitem _ _)))
 show wpAny _ _ (Builtin.Tuple.tupleItemsOf (.ref t) >>= _) _ _ s
 refine wpAny_bind (tupleItemsOf_ ht ?_)
 refine wpAny_bind (wpAny_typeOf hTs ?_)
 rw [if_pos (by decide)]
 refine wpAny_bind (iG hs pl pu ?_)
 have hno : ¬ ((((sIx items.size 0 lo : Nat) : Int) == 0 && (1 : Int) == 1 && (sIx items.size items.size hi - sIx items.size 0 lo) == items.size) = true) := by
  intro q
  rw [Bool.and_eq_true, Bool.and_eq_true] at q
  have q1 : ((sIx items.size 0 lo : Nat) : Int) = 0 := eq_of_beq q.1.1
  have q2 : sIx items.size items.size hi - sIx items.size 0 lo = items.size := eq_of_beq q.2
  exact hw ⟨by omega, by omega⟩
 show wpAny _ _ (if (((sIx items.size 0 lo : Nat) : Int) == 0 && (1 : Int) == 1 && (sIx items.size items.size hi - sIx items.size 0 lo) == items.size) = true then _ else _) _ _ s
 rw [if_neg hno, uC]
 first
  | exact wpAny_bind (m := Builtin.Tuple.tupleExact _) (wpAny_newObj_type (wpAny_pure ⟨_, rfl, wpAny_pure h⟩) htake)
  | exact wpAny_bind (m := Builtin.Tuple.tupleExact _) (wpAny_newObj_type (wpAny_bind (wpAny_pure (wpAny_pure ⟨_, rfl, wpAny_pure h⟩))) htake)
  | exact wpAny_bind (wpAny_bind (m := Builtin.Tuple.tupleExact _) (wpAny_newObj_type (wpAny_pure (wpAny_pure ⟨_, rfl, wpAny_pure h⟩)) htake))
  | exact wpAny_bind (wpAny_bind (m := Builtin.Tuple.tupleExact _) (wpAny_newObj_type (wpAny_pure ⟨_, rfl, wpAny_pure h⟩) htake))
end
end HT
namespace L2
open PySem PySem.Spec PyProof.Rows
noncomputable abbrev TO := St → Hp → (Option Int → Hp → Prop) → Prop
noncomputable def PO (X : Cx) (e : Option Expr) (t : TO) : Prop :=
 ∀ (pins : List (Addr × Obj)) (s : Shared) (σ : St) (H : Hp) (Q : Option Int → Hp → Prop), Inv X pins σ H s → t σ H Q →
  wpAny (model X.prog X.w) X.A (evalPart e X.env) (fun u s' => ∃ o H', Inv X pins σ H' s' ∧ IsPart u o ∧ Q o H') X.xe s
noncomputable def qT : TO := fun _ H Q => Q none H
noncomputable def zN (t : TE) : TO := fun σ H Q => t σ H fun x H1 => ∃ i, x = .int i ∧ Q (some i) H1
section
variable {X : Cx} {e : Expr} {te : TE} {lo hi : Option Expr} {tl th : TO} {pos p2 : Pos}
theorem xK : PO X none qT := by
 intro pins s σ H Q I h
 rw [evalPart_none]
 exact wpAny_pure ⟨none, H, I, .none, h⟩
theorem xJ (h : PE X e te) : PO X (some e) (zN te) := by
 intro pins s σ H Q I hw
 rw [evalPart_some]
 refine thn (h pins s σ H _ I hw) fun u s1 hz => ?_
 obtain ⟨x, H1, I1, r1, q1⟩ := hz
 obtain ⟨i, rfl, q⟩ := q1
 obtain ⟨t, rfl⟩ := r1
 exact ⟨some i, H1, I1, .int i t, q⟩
noncomputable def SlR (X : Cx) (r : V → Option Int → Option Int → Hp → VK → Prop) : Prop :=
 ∀ (pins : List (Addr × Obj)) (s : Shared) (σ : St) (H : Hp) (x : V) (v vl vu : Value) (lo hi : Option Int) (sl : Addr) (Q : VK), Inv X pins σ H s → de x v → s.heap.IsSliceOf sl vl vu .none → IsPart vl lo → IsPart vu hi → r x lo hi H Q →
  ∃ T id, typeLookup (.type T) "__getitem__" = pure (some (.builtin id)) ∧ s.TypeIs v T ∧ wpAny (model X.prog X.w) X.A (getItem v (.ref sl)) (EP X pins σ Q) X.xe s
theorem SlR.or {r r' : V → Option Int → Option Int → Hp → VK → Prop} (h : SlR X r) (h' : SlR X r') : SlR X (fun x lo hi H Q => r x lo hi H Q ∨ r' x lo hi H Q) := by
 intro pins s σ H x v vl vu lo hi sl Q I rx hs pl pu q
 rcases q with q | q
 ·exact h pins s σ H x v vl vu lo hi sl Q I rx hs pl pu q
 ·exact h' pins s σ H x v vl vu lo hi sl Q I rx hs pl pu q
noncomputable def tSl (r : V → Option Int → Option Int → Hp → VK → Prop) (te : TE) (tl th : TO) : TE := fun σ H Q => te σ H fun x H1 => tl σ H1 fun l H2 => th σ H2 fun u H3 => r x l u H3 Q
theorem uE {r : V → Option Int → Option Int → Hp → VK → Prop} (hr : SlR X r) (he : PE X e te) (hl : PO X lo tl) (hu : PO X hi th) : PE X (.Subscript e (.Slice lo hi none p2) pos) (tSl r te tl th) := by
 intro pins s σ H Q I h
 refine Subscript_ (thn (he pins s σ H _ I h) fun v s1 hz => ?_)
 obtain ⟨x, H1, I1, r1, q1⟩ := hz
 refine wpAny_Slice (thn (hl pins s1 σ H1 _ I1 q1) fun vl s2 ⟨l, H2, I2, pl, q2⟩ => thn (hu pins s2 σ H2 _ I2 q2) fun vu s3 hz => ?_)
 obtain ⟨u, H3, I3, pu, q3⟩ := hz
 rw [evalPart_none]
 refine wpAny_pure ?_
 have I4 : Inv X pins σ H3 { s3 with heap := s3.heap.push { cls := .type "slice", data := .fields #[vl, vu, .none] } } := I3.kept (t' := s3.toks) fun b ob q => Heap.get?_push_of_some _ q
 obtain ⟨T, id, hT, ht, hg⟩ := hr pins { s3 with heap := s3.heap.push { cls := .type "slice", data := .fields #[vl, vu, .none] } } σ H3 x v vl vu l u s3.heap.objs.size Q I4 r1 (Heap.IsSliceOf.new ..) pl pu q3
 show wpAny (model X.prog X.w) X.A (subscriptTail e (.Slice lo hi none p2) v (.ref s3.heap.objs.size)) (EP X pins σ Q) X.xe { s3 with heap := s3.heap.push { cls := .type "slice", data := .fields #[vl, vu, .none] } }
 exact tail_any (ops := [.ref s3.heap.objs.size, v]) ht hT hg (by with_unfolding_all rfl)
noncomputable def sN (xs : List V) (lo hi : Option Int) : List V := (xs.drop (HT.sIx xs.length 0 lo)).take (HT.sIx xs.length xs.length hi - HT.sIx xs.length 0 lo)
theorem jR (xs : List V) (lo hi : Option Int) : (sN xs lo hi).length ≤ xs.length := by
 unfold sN
 rw [List.length_take, List.length_drop]
 omega
noncomputable def EU (K : PySem.W.Frag) : V → Option Int → Option Int → Hp → VK → Prop := fun x lo hi H Q => ∃ a xs, x = .ref a ∧ SqT K H a xs ∧
 ¬ (HT.sIx xs.length 0 lo = 0 ∧ HT.sIx xs.length xs.length hi = xs.length) ∧ ∀ p, H p = none → Q (.ref p) (upd H p (.tup (sN xs lo hi)))
theorem zV : SlR X (EU X.K) := by
 intro pins s σ H x v vl vu lo hi sl Q I rx hs pl pu h
 obtain ⟨a, xs, rfl, hx, hw, q⟩ := h
 cases rx
 obtain ⟨its, r, ht, hz⟩ := I.tuple hx
 have fS : its.toArray.size = xs.length := by rw [List.size_toArray]; exact r.length.symm
 refine ⟨"tuple", _, PyProof.Rows.slot_tuple_getitem.lookup, ht.typeIs, ?_⟩
 refine HT.getItem_tuple_cut ht hs pl pu (by rw [fS]; exact hw) ?_ (by rw [fS]; exact hz)
 rw [fS]
 refine ⟨.ref s.heap.objs.size, _, I.laid (t' := s.toks) (o := .tup (sN xs lo hi)) (fun b ob q => Heap.get?_push_of_some _ q) (Nat.le_refl _) ?_, rfl, q _ (I.hok.fresh (Nat.le_refl _))⟩
 exact ⟨Nat.le_trans (jR xs lo hi) hz, _, (r.drop (HT.sIx xs.length 0 lo)).take (HT.sIx xs.length xs.length hi - HT.sIx xs.length 0 lo), IsTup.new _ _⟩
noncomputable def C4 (K : PySem.W.Frag) : R2 := fun x y H Q => ∃ a b xs ys, x = .ref a ∧ y = .ref b ∧ SqT K H a xs ∧ SqT K H b ys ∧ xs ≠ [] ∧ xs.length + ys.length ≤ sizeLine ∧
 (ys = [] → Q (.ref a) H) ∧ (ys ≠ [] → ∀ p, H p = none → Q (.ref p) (upd H p (.tup (xs ++ ys))))
theorem b0.nil_iff {xs : List V} {us : List Value} (r : b0 xs us) : us = [] ↔ xs = [] := by
 cases r with
 | nil => simp
 | cons _ _ => simp
theorem xY : OpR X (binaryOp .Add) (C4 X.K) := by
 intro pins s σ H x y v u Q I rx ry h
 obtain ⟨a, b, xs, ys, rfl, rfl, ha, hb, hx, hz, q1, q2⟩ := h
 cases rx
 cases ry
 obtain ⟨its, r1, p1, _⟩ := I.tuple ha
 obtain ⟨its2, r2, p2, _⟩ := I.tuple hb
 refine HT.cat_tup p1 p2 (fun z => hx (r1.nil_iff.mp z)) (fun z => ⟨.ref a, H, I, rfl, q1 (r2.nil_iff.mp z)⟩) (fun z => ?_) (by rw [← r1.length, ← r2.length]; exact hz)
 refine ⟨.ref s.heap.objs.size, _, I.laid (t' := s.toks) (o := .tup (xs ++ ys)) (fun b ob q => Heap.get?_push_of_some _ q) (Nat.le_refl _) ?_, rfl, q2 (fun w => z (r2.nil_iff.mpr w)) _ (I.hok.fresh (Nat.le_refl _))⟩
 exact ⟨by rw [List.length_append]; exact hz, _, r1.append r2, IsTup.new _ _⟩
end
noncomputable def ixN (n : Nat) (i : Int) : Option Nat := if 0 ≤ i then (if i < n then some i.toNat else none) else if -(n : Int) ≤ i then some (i + n).toNat else none
noncomputable def atI {α : Type} (xs : List α) (i : Int) : Option α := (ixN xs.length i).bind fun j => xs[j]?
theorem se {n : Nat} {i : Int} {j : Nat} (h : ixN n i = some j) : seqIndex? i n = some j ∧ j < n ∧ -(n : Int) ≤ i ∧ i < n := by
 unfold ixN at h
 by_cases h0 : 0 ≤ i
 ·rw [if_pos h0] at h
  by_cases h1 : i < n
  ·rw [if_pos h1] at h
   have e : i.toNat = j := Option.some.inj h
   exact ⟨by rw [seqIndex_of h0 h1, e], by omega, by omega, h1⟩
  ·rw [if_neg h1] at h; cases h
 ·rw [if_neg h0] at h
  by_cases h1 : -(n : Int) ≤ i
  ·rw [if_pos h1] at h
   have e : (i + n).toNat = j := Option.some.inj h
   exact ⟨by rw [seqIndex_neg (by omega) h1, e], by omega, h1, by omega⟩
  ·rw [if_neg h1] at h; cases h
theorem sY {α : Type} {xs : List α} {i : Int} {v : α} (h : atI xs i = some v) : ∃ j, seqIndex? i xs.length = some j ∧ xs[j]? = some v ∧ j < xs.length ∧ -(xs.length : Int) ≤ i ∧ i < xs.length := by
 unfold atI at h
 cases e : ixN xs.length i with
 | none => rw [e] at h; cases h
 | some j =>
  rw [e] at h
  obtain ⟨h1, h2, h3, h4⟩ := se e
  exact ⟨j, h1, h, h2, h3, h4⟩
theorem gO {α : Type} {xs : List α} {j : Nat} {v : α} (h : xs[j]? = some v) : atI xs (j : Int) = some v := by
 have hj : j < xs.length := (List.getElem?_eq_some_iff.mp h).1
 have e : ixN xs.length (j : Int) = some j := by
  unfold ixN
  rw [if_pos (by omega), if_pos (by omega)]; simp
 unfold atI; rw [e]; exact h
noncomputable def oK (b : Expr) : Prop := ∀ o i, subscripted b false o i = operate [o, i] (getItem o i)
noncomputable def IxR (X : Cx) (r : R2) : Prop :=
 ∀ (value slice : Expr) (pins : List (Addr × Obj)) (s : Shared) (σ : St) (H : Hp) (x y : V) (v u : Value) (Q : VK), Inv X pins σ H s → de x v → de y u → r x y H Q →
  subscripted slice false v u = operate [v, u] (getItem v u) → wpAny (model X.prog X.w) X.A (subscriptTail value slice v u) (EP X pins σ Q) X.xe s
noncomputable def MtR (X : Cx) (id : String) (r : V → List V → Hp → VK → Prop) : Prop :=
 ∀ (pins : List (Addr × Obj)) (s : Shared) (σ : St) (H : Hp) (x : V) (xs : List V) (v : Value) (us : List Value) (Q : VK), Inv X pins σ H s → de x v → b0 xs us → r x xs H Q →
  wpAny (model X.prog X.w) X.A (call (.builtin id) (v :: us)) (EP X pins σ Q) X.xe s
section
variable {X : Cx} {a b : Expr} {ta tb : TE} {pos : Pos}
theorem IxR.or {r r' : R2} (h : IxR X r) (h' : IxR X r') : IxR X (fun x y H Q => r x y H Q ∨ r' x y H Q) := by
 intro value slice pins s σ H x y v u Q I rx ry q hs
 rcases q with q | q
 ·exact h value slice pins s σ H x y v u Q I rx ry q hs
 ·exact h' value slice pins s σ H x y v u Q I rx ry q hs
theorem Dd {r : R2} (hr : IxR X r) (ha : PE X a ta) (hb : PE X b tb) (hs : oK b) : PE X (.Subscript a b pos) (tOp r ta tb) := by
 intro pins s σ H Q I h
 exact Subscript_ (BL ha hb I h fun v u s2 x y H2 I2 rx ry q => hr a b pins s2 σ H2 x y v u Q I2 rx ry q (hs _ _))
noncomputable def EX (K : PySem.W.Frag) : R2 := fun x y H Q => ∃ p xs i v, x = .ref p ∧ y = .int i ∧ SqL K H p xs ∧ atI xs i = some v ∧ Q v H
noncomputable def EW (K : PySem.W.Frag) : R2 := fun x y H Q => ∃ p xs i v, x = .ref p ∧ y = .int i ∧ SqT K H p xs ∧ atI xs i = some v ∧ Q v H
theorem ym : IxR X (EX X.K) := by
 intro value slice pins s σ H x y v u Q I rx ry h hs
 obtain ⟨p, xs, i, z, rfl, rfl, hq, he, q⟩ := h
 cases rx
 obtain ⟨t, rfl⟩ := ry
 obtain ⟨its, r, pl, hz⟩ := I.list hq
 obtain ⟨j, h1, h2, h3, h4, h5⟩ := sY he
 obtain ⟨w, ew, rw'⟩ := r.get h2
 have hl := r.length
 have hn := pj
 have fin : EP X pins σ Q w s := ⟨z, H, I, rw', q⟩
 by_cases h0 : 0 ≤ i
 ·have hj : i.toNat = j := by
   rw [seqIndex_of h0 h5] at h1
   exact Option.some.inj h1
  exact item_listR pl.isList h0 (by omega) (by rw [hj]; simpa using ew) fin hs
 ·have hj : (i + (its.toArray.size : Int)).toNat = j := by
   rw [seqIndex_neg (by omega) h4] at h1
   rw [List.size_toArray, ← hl]
   exact Option.some.inj h1
  exact subscriptTail_builtinR (x := w) pl.isList.typeIs slot_list_getitem.lookup
   (wpAny_getItem_list_neg (Q := fun r s' => r = w ∧ EP X pins σ Q r s') pl.isList (by omega) (by rw [List.size_toArray] <;> omega) (by omega) (by rw [hj]; simpa using ew) ⟨rfl, fin⟩) hs
theorem Bb : IxR X (EW X.K) := by
 intro value slice pins s σ H x y v u Q I rx ry h hs
 obtain ⟨p, xs, i, z, rfl, rfl, hq, he, q⟩ := h
 cases rx
 obtain ⟨t, rfl⟩ := ry
 obtain ⟨its, r, pl, hz⟩ := I.tuple hq
 obtain ⟨j, h1, h2, h3, h4, h5⟩ := sY he
 obtain ⟨w, ew, rw'⟩ := r.get h2
 have hl := r.length
 have hn := pj
 have fin : EP X pins σ Q w s := ⟨z, H, I, rw', q⟩
 exact subscriptTail_builtinR (x := w) pl.typeIs slot_tuple_getitem.lookup
  (getItem_tuple (j := j) (Q := fun r s' => r = w ∧ EP X pins σ Q r s') pl (by omega) (by omega) (by rw [List.size_toArray, ← hl]; exact h1) (by simpa using ew) ⟨rfl, fin⟩) hs
theorem p9 (its : List Value) (n j : Nat) (u : Value) : Obj.mapSeq (·.setIfInBounds j u) { cls := .type "list", data := .seq its.toArray n } = { cls := .type "list", data := .seq (its.set j u).toArray n } := by
 simp [Obj.mapSeq]
theorem Inv.lst {pins : List (Addr × Obj)} {σ : St} {H : Hp} {s : Shared} {p : Addr} {xs : List V} (I : Inv X pins σ H s) (h : H p = some (.lst xs)) :
  ∃ (its : List Value) (n : Nat), b0 xs its ∧ s.heap.get? p = some { cls := .type "list", data := .seq its.toArray n } ∧ xs.length ≤ sizeLine := by
 obtain ⟨z, its, n, r, e⟩ := I.hok p _ h
 exact ⟨its, n, r, e, z⟩
theorem Inv.lstUpd {pins : List (Addr × Obj)} {σ : St} {H : Hp} {s : Shared} {p : Addr} {xs ys : List V} {its its' : List Value} {n n' : Nat} {f : Obj → Obj} (I : Inv X pins σ H s) (h : H p = some (.lst xs))
  (ho : s.heap.get? p = some { cls := .type "list", data := .seq its.toArray n }) (hf : f { cls := .type "list", data := .seq its.toArray n } = { cls := .type "list", data := .seq its'.toArray n' }) (r : b0 ys its') (hz : ys.length ≤ sizeLine) (t : Nat) :
  Inv X pins σ (upd H p (.lst ys)) { s with heap := s.heap.update p f, toks := t } := by
 have e : (s.heap.update p f).get? p = some { cls := .type "list", data := .seq its'.toArray n' } := by
  rw [Heap.get?_update_self f ho (by rw [hf] <;> rfl), hf]
 refine I.write (x := p) (e := p) (by rw [h]; trivial) (.inl rfl) (fun b u hb q => (Heap.get?_update_other _ _ (Ne.symm hb)).trans q) ⟨_, e⟩ ?_
 exact ⟨hz, its', n', r, e⟩
noncomputable def C3 : V → V → V → Hp → (Hp → Prop) → Prop := fun o i v H Q => ∃ p xs k j, o = .ref p ∧ i = .int k ∧ H p = some (.lst xs) ∧ ixN xs.length k = some j ∧ Q (upd H p (.lst (xs.set j v)))
theorem ug : DW X C3 := by
 intro pins s σ H o i v ov iv u Q I ro ri rv h
 obtain ⟨p, xs, k, j, rfl, rfl, hp, hj, q⟩ := h
 cases ro
 obtain ⟨t, rfl⟩ := ri
 obtain ⟨its, n, r, ho, hz⟩ := I.lst hp
 obtain ⟨h1, h2, h3, h4⟩ := se hj
 have hl := r.length
 have hn := pj
 have I' : Inv X pins σ (upd H p (.lst (xs.set j v))) { s with heap := s.heap.update p (Obj.mapSeq (·.setIfInBounds j u)) } :=
  I.lstUpd hp ho (p9 its n j u) (r.set rv j) (by rw [List.length_set]; exact hz) s.toks
 by_cases h0 : 0 ≤ k
 ·have hk : k.toNat = j := by
   rw [seqIndex_of h0 h4] at h1
   exact Option.some.inj h1
  exact PySem.W.ki_setAt ho h0 (by omega) (by rw [List.size_toArray, ← hl]; exact h4) (by rw [hk]; exact ⟨_, I', q⟩)
 ·have hk : (k + (its.toArray.size : Int)).toNat = j := by
   rw [seqIndex_neg (by omega) h3] at h1
   rw [List.size_toArray, ← hl]
   exact Option.some.inj h1
  exact PySem.W.ki_setBack ho (by omega) (by rw [List.size_toArray, ← hl]; exact h3) (by omega) (by rw [hk]; exact ⟨_, I', q⟩)
theorem mF (lo hi : Option Int) (n : Nat) : (sliceBounds lo hi none n).1 = ((HT.sIx n 0 lo : Nat) : Int) ∧ (sliceBounds lo hi none n).2.1 = ((HT.sIx n n hi : Nat) : Int) ∧ (sliceBounds lo hi none n).2.2 = 1 := by
 refine ⟨?_, ?_, rfl⟩
 ·cases lo with
  | none => simp [sliceBounds, HT.sIx]
  | some i =>
   simp only [sliceBounds, HT.sIx, Option.getD_none, show (1 : Int) > 0 by decide, if_true]
   by_cases h : i < 0
   ·simp only [h, if_true] <;> omega
   ·simp only [h, if_false] <;> omega
 ·cases hi with
  | none => simp [sliceBounds, HT.sIx]
  | some i =>
   simp only [sliceBounds, HT.sIx, Option.getD_none, show (1 : Int) > 0 by decide, if_true]
   by_cases h : i < 0
   ·simp only [h, if_true] <;> omega
   ·simp only [h, if_false] <;> omega
theorem lE (its : List Value) (lo hi : Option Int) : slicePick its.toArray lo hi none = ((its.drop (HT.sIx its.length 0 lo)).take (HT.sIx its.length its.length hi - HT.sIx its.length 0 lo)).toArray := by
 obtain ⟨h1, h2, h3⟩ := mF lo hi its.toArray.size
 unfold slicePick
 rw [h1, h2, h3]
 simp only [sliceRange_one, pick_run, List.size_toArray] <;> rfl
noncomputable def EV (K : PySem.W.Frag) : V → Option Int → Option Int → Hp → VK → Prop := fun x lo hi H Q => ∃ a xs, x = .ref a ∧ SqL K H a xs ∧ ∀ p, H p = none → Q (.ref p) (upd H p (.lst (sN xs lo hi)))
theorem rb : SlR X (EV X.K) := by
 intro pins s σ H x v vl vu lo hi sl Q I rx hs pl pu h
 obtain ⟨a, xs, rfl, hx, q⟩ := h
 cases rx
 obtain ⟨its, r, ht, hz⟩ := I.list hx
 have fS := r.length
 refine ⟨"list", _, slot_list_getitem.lookup, ht.isList.typeIs, ?_⟩
 refine wpAny_getItem_list_slice ht.isList hs pl pu .none (by simp) ?_ (by rw [List.size_toArray] <;> omega)
 rw [lE, ← fS]
 refine ⟨.ref s.heap.objs.size, _, I.laid (t' := s.toks) (o := .lst (sN xs lo hi)) (fun b ob q => Heap.get?_push_of_some _ q) (Nat.le_refl _) ?_, rfl, q _ (I.hok.fresh (Nat.le_refl _))⟩
 exact ⟨Nat.le_trans (jR xs lo hi) hz, _, 0, (r.drop (HT.sIx xs.length 0 lo)).take (HT.sIx xs.length xs.length hi - HT.sIx xs.length 0 lo), Heap.get?_push_size _ rfl⟩
noncomputable def kC : V → Bool
 | .non => true
 | .bl _ => true
 | .int _ => true
 | .str _ => true
 | _ => false
noncomputable def eqV : V → V → Bool
 | .non, .non => true
 | .bl a, .bl b => a == b
 | .bl a, .int b => (if a then 1 else 0) == b
 | .int a, .bl b => a == (if b then 1 else 0)
 | .int a, .int b => a == b
 | .str a, .str b => a == b
 | _, _ => false
theorem Bo {A : Around} {s : Shared} {y x : V} {u v : Value} (ry : de y u) (rx : de x v) (fy : kC y = true) (fx : kC x = true) : SeqAt.EqAt A s u v (eqV y x) := by
 cases y with
 | non =>
  cases ry
  cases x with
  | non => cases rx; exact SeqAt.EqAt.same _
  | bl b => cases rx; exact SeqAt.EqAt.none_bool b
  | int b => obtain ⟨t, rfl⟩ := rx; exact SeqAt.EqAt.none_int b t
  | str b => obtain ⟨t, rfl⟩ := rx; exact SeqAt.EqAt.none_str b t
  | _ => exact absurd (show false = true from fx) Bool.false_ne_true
 | bl a =>
  cases ry
  cases x with
  | non => cases rx; exact SeqAt.EqAt.bool_none a
  | bl b => cases rx; exact SeqAt.EqAt.bool_bool a b
  | int b => obtain ⟨t, rfl⟩ := rx; exact SeqAt.EqAt.bool_int a b t
  | str b => obtain ⟨t, rfl⟩ := rx; exact SeqAt.EqAt.bool_str a b t
  | _ => exact absurd (show false = true from fx) Bool.false_ne_true
 | int a =>
  obtain ⟨t', rfl⟩ := ry
  cases x with
  | non => cases rx; exact SeqAt.EqAt.int_none a t'
  | bl b => cases rx; exact SeqAt.EqAt.int_bool a t' b
  | int b => obtain ⟨t, rfl⟩ := rx; exact SeqAt.EqAt.int_int a t' b t
  | str b => obtain ⟨t, rfl⟩ := rx; exact SeqAt.EqAt.int_str a t' b t
  | _ => exact absurd (show false = true from fx) Bool.false_ne_true
 | str a =>
  obtain ⟨t', rfl⟩ := ry
  cases x with
  | non => cases rx; exact SeqAt.EqAt.str_none a t'
  | bl b => cases rx; exact SeqAt.EqAt.str_bool a t' b
  | int b => obtain ⟨t, rfl⟩ := rx; exact SeqAt.EqAt.str_int a t' b t
  | str b => obtain ⟨t, rfl⟩ := rx; exact SeqAt.EqAt.str_str a t' b t
  | _ => exact absurd (show false = true from fx) Bool.false_ne_true
 | _ => exact absurd (show false = true from fy) Bool.false_ne_true
noncomputable def eqU (x : V) (u : Value) : Bool := match u with
 | .none => eqV .non x
 | .bool b => eqV (.bl b) x
 | .int i _ => eqV (.int i) x
 | .str z _ => eqV (.str z) x
 | _ => false
theorem vW {x y : V} {u : Value} (r : de y u) (f : kC y = true) : eqU x u = eqV y x := by
 cases y with
 | non => cases r; rfl
 | bl b => cases r; rfl
 | int i => obtain ⟨t, rfl⟩ := r; rfl
 | str z => obtain ⟨t, rfl⟩ := r; rfl
 | _ => exact absurd (show false = true from f) Bool.false_ne_true
theorem oJ {x : V} : ∀ {xs : List V} {us : List Value}, b0 xs us → xs.all kC = true → us.any (eqU x) = xs.any fun y => eqV y x
 | _, _, .nil, _ => rfl
 | y :: xs, u :: us, .cons r t, f => by
  rw [List.all_cons, Bool.and_eq_true] at f
  rw [List.any_cons, List.any_cons, vW r f.1, oJ t f.2]
theorem lJ {A : Around} {s : Shared} {x : V} {v : Value} (rx : de x v) (fx : kC x = true) : ∀ {xs : List V} {us : List Value}, b0 xs us → xs.all kC = true → ∀ u ∈ us, SeqAt.EqAt A s u v (eqU x u)
 | _, _, .nil, _ => fun u hu => by cases hu
 | y :: xs, u :: us, .cons r t, f => fun u' hu => by
  rw [List.all_cons, Bool.and_eq_true] at f
  rcases List.mem_cons.mp hu with rfl | hu
  ·rw [vW r f.1]; exact Bo r rx f.1 fx
  ·exact lJ rx fx t f.2 u' hu
noncomputable def inV (x : V) (xs : List V) : Bool := xs.any fun y => eqV y x
noncomputable def rIn (K : PySem.W.Frag) (neg : Bool) : R2 := fun x y H Q => ∃ p xs, y = .ref p ∧ (SqL K H p xs ∨ SqT K H p xs) ∧ kC x = true ∧ xs.all kC = true ∧ Q (.bl (if neg then !inV x xs else inV x xs)) H
theorem mM : OpR X (compareOp .NotIn) (rIn X.K true) := by
 intro pins s σ H x y v u Q I rx ry h
 obtain ⟨p, xs, rfl, hq, fx, fs, q⟩ := h
 cases ry
 rcases hq with hq | hq
 ·obtain ⟨its, r, pl, hz⟩ := I.list hq
  refine SeqAt.notIn_listAt (eqU x) pl.isList (fun w hw => lJ rx fx r fs w (by simpa using hw)) ⟨.bl _, H, I, rfl, ?_⟩
  rw [show its.toArray.any (eqU x) = its.any (eqU x) by simp, oJ r fs]
  exact q
 ·obtain ⟨its, r, pl, hz⟩ := I.tuple hq
  refine SeqAt.notIn_tupleAt (eqU x) pl (fun w hw => lJ rx fx r fs w (by simpa using hw)) ⟨.bl _, H, I, rfl, ?_⟩
  rw [show its.toArray.any (eqU x) = its.any (eqU x) by simp, oJ r fs]
  exact q
theorem nh : eA X (.builtin "len") (fun xs H Q => ∃ p ys, xs = [.ref p] ∧ (SqL X.K H p ys ∨ SqT X.K H p ys) ∧ Q (.int ys.length) H) := by
 intro pins s σ H xs us Q I r h
 obtain ⟨p, ys, rfl, hq, q⟩ := h
 obtain ⟨u, rfl, rx⟩ := j9 r
 cases rx
 have hn := pj
 rcases hq with hq | hq
 ·obtain ⟨its, r', pl, hz⟩ := I.list hq
  have fS := r'.length
  exact Calls.call_len_list pl.isList (by simp only [List.size_toArray] <;> omega) ⟨.int ys.length, H, I.tok _, ⟨s.toks + 1, by rw [List.size_toArray, fS]⟩, q⟩
 ·obtain ⟨its, r', pl, hz⟩ := I.tuple hq
  have fS := r'.length
  exact len_tuple pl (by simp only [List.size_toArray] <;> omega) ⟨.int ys.length, H, I.tok _, ⟨s.toks + 1, by rw [List.size_toArray, fS]⟩, q⟩
theorem eA.or {f : Value} {r r' : List V → Hp → VK → Prop} (h : eA X f r) (h' : eA X f r') : eA X f (fun xs H Q => r xs H Q ∨ r' xs H Q) := by
 intro pins s σ H xs us Q I rs q
 rcases q with q | q
 ·exact h pins s σ H xs us Q I rs q
 ·exact h' pins s σ H xs us Q I rs q
theorem ng : eA X (.type "list") (fun xs H Q => ∃ p ys, xs = [.ref p] ∧ (SqL X.K H p ys ∨ SqT X.K H p ys) ∧ ∀ l, H l = none → Q (.ref l) (upd H l (.lst ys))) := by
 intro pins s σ H xs us Q I r h
 obtain ⟨p, ys, rfl, hq, q⟩ := h
 obtain ⟨u, rfl, rx⟩ := j9 r
 cases rx
 have fin : ∀ (its : List Value), b0 ys its → ys.length ≤ sizeLine → ∀ (h' : Heap) (c' : Nat), (∀ b o', s.heap.get? b = some o' → h'.get? b = some o') →
   h'.get? s.heap.objs.size = some { cls := .type "list", dict := none, data := .seq its.toArray c', slots := #[] } → EP X pins σ Q (.ref s.heap.objs.size) { s with heap := h' } := fun its r' hz h' c' kp e =>
  ⟨.ref s.heap.objs.size, _, I.laid (t' := s.toks) kp (Nat.le_refl _) (show dD X.prog X.w _ h' _ (.lst ys) from ⟨hz, its, c', r', e⟩), rfl, q _ (I.hok.fresh (Nat.le_refl _))⟩
 rcases hq with hq | hq
 ·obtain ⟨its, r', pl, hz⟩ := I.list hq
  have fS := r'.length
  obtain ⟨o, ho, hc, n, hd⟩ := pl.isList
  exact call_list_seq p (.inl rfl) ho hc hd (fun h' c' kp e => fin its r' hz h' c' kp e) (by simp only [List.size_toArray] <;> omega)
 ·obtain ⟨its, r', pl, hz⟩ := I.tuple hq
  have fS := r'.length
  obtain ⟨o, ho, hc, n, hd⟩ := pl
  exact call_list_seq p (.inr rfl) ho hc hd (fun h' c' kp e => fin its r' hz h' c' kp e) (by simp only [List.size_toArray] <;> omega)
theorem e9 : eA X (.type "tuple") (fun xs H Q => ∃ p ys, xs = [.ref p] ∧ ((SqL X.K H p ys ∧ ∀ l, H l = none → Q (.ref l) (upd H l (.tup ys))) ∨ (SqT X.K H p ys ∧ Q (.ref p) H))) := by
 intro pins s σ H xs us Q I r h
 obtain ⟨p, ys, rfl, h⟩ := h
 obtain ⟨u, rfl, rx⟩ := j9 r
 cases rx
 rcases h with ⟨hq, q⟩ | ⟨hq, q⟩
 ·obtain ⟨its, r', pl, hz⟩ := I.list hq
  have fS := r'.length
  refine call_tuple_list pl.isList (fun h' kp => ?_) (by simp only [List.size_toArray] <;> omega)
  have I1 : Inv X pins σ H { s with heap := h' } := I.kept (t' := s.toks) kp
  have I2 : Inv X pins σ (upd H h'.objs.size (.tup ys)) { s with heap := h'.push { cls := .type "tuple", data := .seq its.toArray } } :=
   I1.laid (t' := s.toks) (fun b o e => Heap.get?_push_of_some _ e) (Nat.le_refl _) (show dD X.prog X.w _ _ _ (.tup ys) from ⟨hz, its, r', IsTup.new _ _⟩)
  exact ⟨.ref h'.objs.size, _, I2, rfl, q _ (I1.hok.fresh (Nat.le_refl _))⟩
 ·obtain ⟨its, r', pl, hz⟩ := I.tuple hq
  exact call_tuple_same pl ⟨.ref p, H, I, rfl, q⟩
noncomputable def tyV (K : PySem.W.Frag) (T : String) (x : V) (H : Hp) : Prop := match x with
 | .str _ => T = "str"
 | .int _ => T = "int"
 | .ref p => (T = "list" ∧ ∃ xs, SqL K H p xs) ∨ (T = "tuple" ∧ ∃ o, K.lookup p = some o ∧ o.cls = .type "tuple" ∧ o.dict = none) ∨
   (T = "dict" ∧ ((∃ kvs, H p = some (.dK kvs)) ∨ ∃ kvs, H p = some (.dT kvs))) ∨ (T = "set" ∧ ∃ S n, H p = some (.set S n))
 | _ => False
theorem zL {pins : List (Addr × Obj)} {σ : St} {H : Hp} {s : Shared} {T : String} {x : V} {v : Value} (I : Inv X pins σ H s) (r : de x v) (ty : tyV X.K T x H) :
  s.TypeIs v T ∧ ∀ a, v = .ref a → ∃ ob, s.heap.get? a = some ob ∧ ob.dict = none := by
 cases x with
 | str z =>
  obtain ⟨t, rfl⟩ := r
  cases (show T = "str" from ty)
  exact ⟨typeIs_str s z t, fun _ e => nomatch e⟩
 | int i =>
  obtain ⟨t, rfl⟩ := r
  cases (show T = "int" from ty)
  exact ⟨typeIs_int s i t, fun _ e => nomatch e⟩
 | ref p =>
  cases r
  rcases ty with ⟨rfl, xs, hq⟩ | ⟨rfl, o, hk, hc, hd⟩ | ⟨rfl, hk⟩ | ⟨rfl, S, n, hk⟩
  ·obtain ⟨its, _, pl, _⟩ := I.list hq
   refine ⟨pl.isList.typeIs, fun a e => ?_⟩
   cases e
   obtain ⟨o, n, e, c, hd, _⟩ := pl
   exact ⟨o, e, hd⟩
  ·refine ⟨⟨o, I.kIn p o hk, hc⟩, fun a e => ?_⟩
   cases e
   exact ⟨o, I.kIn _ o hk, hd⟩
  ·have z : ∃ o, s.heap.get? p = some o ∧ o.ExactDict := by
    rcases hk with ⟨kvs, hk⟩ | ⟨kvs, hk⟩
    ·obtain ⟨_, _, _, _, o, _, _, e, ex, _⟩ := I.hok p _ hk
     exact ⟨o, e, ex⟩
    ·obtain ⟨_, _, _, _, o, _, _, e, ex, _⟩ := I.hok p _ hk
     exact ⟨o, e, ex⟩
   obtain ⟨o, e, ex⟩ := z
   refine ⟨⟨o, e, ex.1⟩, fun a e2 => ?_⟩
   cases e2
   exact ⟨o, e, ex.2.1⟩
  ·obtain ⟨o, _, _, _, e, ex, _⟩ := I.hok p _ hk
   refine ⟨⟨o, e, ex.1⟩, fun a e2 => ?_⟩
   cases e2
   exact ⟨o, e, ex.2.1⟩
 | _ => exact False.elim ty
noncomputable def tBM (K : PySem.W.Frag) (T : String) (r : V → List V → Hp → VK → Prop) (to : TE) (t : TA) : TE := fun σ H Q => to σ H fun x H1 => tyV K T x H1 ∧ t σ H1 fun xs H2 => r x xs H2 Q
variable {o e : Expr} {es : List Expr} {to : TE} {t : TA} {name : Str} {apos cpos : Pos} {T id : String} {r : V → List V → Hp → VK → Prop}
theorem De (pa : PlainAttrs T) (slot : Slot T name id) (hty : typeOf (.builtin id) = pure (.type "method_descriptor")) (hm : MtR X id r) (ho : PE X o to) (ha : PA X (e :: es) t)
  (hbase : attributeBase o name X.env (eval o X.env) = eval o X.env := by rfl)
  (hfew : ((backTo cpos (starEach (e :: es) X.env)).all (fun x => !x.1) && (backToKw cpos (keywordEach [] X.env)).all (fun x => x.1.isSome)
   && decide ((e :: es).length + ([] : List Keyword).length + (if ([] : List Keyword).isEmpty then 0 else 1) < 30)) = true := by rfl)
  (hline : (apos.endLine == cpos.line) = true := by rfl) (hs : starEach (e :: es) X.env = (false, eval e X.env) :: starEach es X.env := by rfl) (hplain : (backTo cpos (starEach es X.env)).any (·.1) = false := by rfl) :
  PE X (.Call (.Attribute o name apos) (e :: es) [] cpos) (tBM X.K T r to t) := by
 intro pins s σ H Q I h
 refine wpAny_Call_method_late hbase hfew hline rfl (thn (ho pins s σ H _ I h) fun v s1 hz => ?_)
 obtain ⟨x, H1, I1, r1, ty, q1⟩ := hz
 obtain ⟨h1, h2⟩ := zL I1 r1 ty
 refine ⟨T, id, pa, slot, hty, h1, h2, ?_⟩
 have hA := ha cpos pins s1 σ H1 _ I1 q1
 rw [hs] at hA ⊢
 refine Calls.callWith_builtin (by show (false || (backTo cpos (starEach es X.env)).any (·.1)) = false; rw [hplain] <;> rfl) (Calls.evalArgs_plain ?_)
 exact thn hA fun us s2 ⟨vs, H2, I2, r2, q2⟩ => hm pins s2 σ H2 x vs v us Q I2 r1 r2 q2
end
noncomputable def MtM (X : Cx) (id : String) (r : V → List V → Hp → VK → Prop) : Prop :=
 ∀ (pins : List (Addr × Obj)) (s : Shared) (σ : St) (H : Hp) (x : V) (xs : List V) (v : Value) (us : List Value) (Q : VK), Inv X pins σ H s → de x v → b0 xs us → r x xs H Q →
  wpAny (model X.prog X.w) X.A (call (.builtin id) (v :: us)) (EP X pins σ Q) X.xe s
theorem b0.one : ∀ {x : V} {us : List Value}, b0 [x] us → ∃ u, us = [u] ∧ de x u
 | _, _, .cons r .nil => ⟨_, rfl, r⟩
section
variable {X : Cx} {pins : List (Addr × Obj)} {σ : St} {H : Hp} {s : Shared} {l b : Addr} {xs ys zs : List V}
theorem Inv.lset {its its' : List Value} {n : Nat} {f : Array Value → Array Value} {t' : Nat} (I : Inv X pins σ H s) (hH : H l = some (.lst xs))
  (e : s.heap.get? l = some { cls := .type "list", data := .seq its.toArray n }) (hf : f its.toArray = its'.toArray) (hv : b0 ys its') (hz : ys.length ≤ sizeLine) :
  Inv X pins σ (upd H l (.lst ys)) { s with heap := s.heap.update l (Obj.mapSeq f), toks := t' } := by
 have q := PySem.IsL.update e f
 rw [hf] at q
 refine I.write (x := l) (e := l) (by rw [hH]; exact trivial) (.inl rfl) (fun b' u hb hu => (Heap.get?_update_other s.heap (Obj.mapSeq f) (Ne.symm hb)).trans hu) ⟨_, q⟩ ?_
 exact ⟨hz, its', _, hv, q⟩
theorem Inv.lnew {its : List Value} {t' : Nat} (I : Inv X pins σ H s) (hv : b0 ys its) (hz : ys.length ≤ sizeLine) :
  Inv X pins σ (upd H s.heap.objs.size (.lst ys)) { s with heap := s.heap.push { cls := .type "list", data := .seq its.toArray }, toks := t' } :=
 I.laid (fun _ _ q => Heap.get?_push_of_some _ q) (Nat.le_refl _) ⟨hz, its, 0, hv, Heap.get?_push_size _ rfl⟩
theorem Inv.fresh (I : Inv X pins σ H s) : H s.heap.objs.size = none := I.hok.fresh (Nat.le_refl _)
theorem Inv.lstM (I : Inv X pins σ H s) (hH : H l = some (.lst xs)) : xs.length ≤ sizeLine ∧ ∃ (its : List Value) (n : Nat), b0 xs its ∧ xs.length = its.length ∧ s.heap.get? l = some { cls := .type "list", data := .seq its.toArray n } := by
 obtain ⟨z, its, n, r, e⟩ := I.hok l _ hH
 exact ⟨z, its, n, r, r.length, e⟩
theorem uS {n : Nat} (h : n ≤ sizeLine) : Builtin.List.listTooLong n = false := by
 unfold Builtin.List.listTooLong
 exact decide_eq_false (by omega)
end
section
variable {X : Cx}
noncomputable def rq : V → List V → Hp → VK → Prop := fun x vs H Q => ∃ l xs y, x = .ref l ∧ vs = [y] ∧ H l = some (.lst xs) ∧ xs.length < sizeLine ∧ Q .non (upd H l (.lst (xs ++ [y])))
theorem mV : MtM X "list.append" rq := by
 intro pins s σ H x vs v us Q I rx rv h
 obtain ⟨l, xs, y, rfl, rfl, hH, hz, q⟩ := h
 cases rx
 obtain ⟨u, rfl, ru⟩ := rv.one
 obtain ⟨z, its, n, r, hl, e⟩ := I.lstM hH
 refine call_meets F.slot_list_append ⟨_, e, rfl⟩ F.entry_list_append (F.args_list_append_2 _ _) (PySem.list_append l its.toArray n u (by rw [List.size_toArray]; omega)) ⟨e, ?_⟩
 refine ⟨.non, _, I.lset (its' := its ++ [u]) hH e (by simp) (r.append (.cons ru .nil)) ?_, rfl, q⟩
 rw [List.length_append, List.length_singleton]
 omega
noncomputable def rp : V → List V → Hp → VK → Prop := fun x vs H Q => ∃ l b xs zs, x = .ref l ∧ vs = [.ref b] ∧ H l = some (.lst xs) ∧ H b = some (.lst zs) ∧ xs.length + zs.length ≤ sizeLine ∧ Q .non (upd H l (.lst (xs ++ zs)))
theorem rN : MtM X "list.extend" rp := by
 intro pins s σ H x vs v us Q I rx rv h
 obtain ⟨l, b, xs, zs, rfl, rfl, hH, hB, hz, q⟩ := h
 cases rx
 obtain ⟨u, rfl, ru⟩ := rv.one
 cases ru
 obtain ⟨z, its, n, r, hl, e⟩ := I.lstM hH
 obtain ⟨z2, its2, n2, r2, hl2, e2⟩ := I.lstM hB
 have hsz : its.toArray.size + its2.toArray.size ≤ sizeLine := by rw [List.size_toArray, List.size_toArray]; omega
 have hlong : ¬ (!its.toArray.isEmpty && Builtin.List.listTooLong (its.toArray.size + its2.toArray.size)) = true := by
  rw [uS hsz, Bool.and_false]
  exact Bool.false_ne_true
 refine call_meets F.slot_list_extend ⟨_, e, rfl⟩ F.entry_list_extend (F.args_list_extend_2 _ _)
  (AutoSeq1.list_extend_list_list_0 l its.toArray n b its2.toArray n2 hlong (by rw [List.size_toArray]; omega) (by omega)) ⟨e, e2, ?_⟩
 refine ⟨.non, _, I.lset (its' := its ++ its2) hH e (by simp) (r.append r2) ?_, rfl, q⟩
 rw [List.length_append]
 omega
noncomputable def BA : R2 := fun x y H Q => ∃ l b xs zs, x = .ref l ∧ y = .ref b ∧ H l = some (.lst xs) ∧ H b = some (.lst zs) ∧ xs.length + zs.length ≤ sizeLine ∧ ∀ p, H p = none → Q (.ref p) (upd H p (.lst (xs ++ zs)))
theorem AQ : OpR X (binaryOp .Add) BA := by
 intro pins s σ H x y v u Q I rx ry h
 obtain ⟨l, b, xs, zs, rfl, rfl, hH, hB, hz, q⟩ := h
 cases rx
 cases ry
 obtain ⟨z, its, n, r, hl, e⟩ := I.lstM hH
 obtain ⟨z2, its2, n2, r2, hl2, e2⟩ := I.lstM hB
 refine PySem.P.add_list e e2 ?_ (by rw [List.size_toArray, List.size_toArray]; omega)
 have ea : its.toArray ++ its2.toArray = (its ++ its2).toArray := by simp
 rw [ea]
 exact ⟨.ref _, _, I.lnew (t' := s.toks) (r.append r2) (by rw [List.length_append]; omega), rfl, q _ I.fresh⟩
end
section
variable {κ : Type} [DecidableEq κ]
noncomputable def mh (kvs : List (κ × V)) (k : κ) : Option V := (kvs.find? fun kv => decide (kv.1 = k)).map (·.2)
noncomputable def o9 (kvs : List (κ × V)) (k : κ) (v : V) : List (κ × V) :=
 if (kvs.any fun kv => decide (kv.1 = k)) = true then kvs.map (fun kv => if kv.1 = k then (kv.1, v) else kv) else kvs ++ [(k, v)]
theorem lA {p : κ × V} {r : List (κ × V)} {k : κ} (e : p.1 = k) : mh (p :: r) k = some p.2 := by simp [mh, List.find?_cons, e]
theorem lB {p : κ × V} {r : List (κ × V)} {k : κ} (e : ¬ p.1 = k) : mh (p :: r) k = mh r k := by simp [mh, List.find?_cons, e]
theorem oW (k : κ) : ∀ kvs : List (κ × V), (kvs.any fun kv => decide (kv.1 = k)) = (mh kvs k).isSome
 | [] => rfl
 | p :: r => by
  rw [List.any_cons]
  by_cases e : p.1 = k
  ·simp only [lA e, decide_eq_true e, Bool.true_or, Option.isSome_some]
  ·rw [lB e, decide_eq_false e, Bool.false_or]; exact oW k r
theorem jG (kvs : List (κ × V)) (k : κ) (v : V) : (o9 kvs k v).length ≤ kvs.length + 1 := by
 unfold o9
 split
 ·rw [List.length_map]; omega
 ·rw [List.length_append, List.length_cons, List.length_nil]; omega
theorem nK.isSome_eq {o : Option V} {u : Option Value} (r : nK o u) : o.isSome = u.isSome := by
 cases o with
 | none => cases u with
  | none => rfl
  | some _ => exact (show False from r).elim
 | some _ => cases u with
  | none => exact (show False from r).elim
  | some _ => rfl
theorem KV.val {kvs : List (κ × V)} {vs : List (κ × Value)} (r : KV kvs vs) (k : κ) : nK (mh kvs k) (valueAt vs k) := by
 unfold KV at r
 induction r with
 | nil => exact True.intro
 | @cons p q ps qs h t ih =>
  obtain ⟨h1, h2⟩ := h
  by_cases e : p.1 = k
  ·have e' : q.1 = k := h1.symm.trans e
   have b : valueAt (q :: qs) k = some q.2 := by simp [valueAt, List.find?_cons, e']
   rw [lA e, b]; exact h2
  ·have e' : ¬ q.1 = k := fun z => e (h1.trans z)
   have b : valueAt (q :: qs) k = valueAt qs k := by simp [valueAt, List.find?_cons, e']
   rw [lB e, b]; exact ih
theorem KV.any {kvs : List (κ × V)} {vs : List (κ × Value)} (r : KV kvs vs) (k : κ) : (kvs.any fun kv => decide (kv.1 = k)) = vs.any fun kv => decide (kv.1 = k) := by
 unfold KV at r
 induction r with
 | nil => rfl
 | cons h t ih => rw [List.any_cons, List.any_cons, ih, h.1]
theorem KV.repl {kvs : List (κ × V)} {vs : List (κ × Value)} (r : KV kvs vs) (k : κ) {y : V} {u : Value} (ry : de y u) :
  KV (kvs.map fun kv => if kv.1 = k then (kv.1, y) else kv) (vs.map fun kv => if kv.1 = k then (kv.1, u) else kv) := by
 unfold KV at r ⊢
 induction r with
 | nil => exact .nil
 | @cons p q ps qs h t ih =>
  rw [List.map_cons, List.map_cons]
  refine .cons ?_ ih
  obtain ⟨h1, h2⟩ := h
  by_cases e : p.1 = k
  ·rw [if_pos e, if_pos (h1.symm.trans e)]; exact ⟨h1, ry⟩
  ·rw [if_neg e, if_neg (fun z => e (h1.trans z))]; exact ⟨h1, h2⟩
theorem KV.put {kvs : List (κ × V)} {vs : List (κ × Value)} (r : KV kvs vs) (k : κ) {y : V} {u : Value} (ry : de y u) : KV (o9 kvs k y) (stored vs k u) := by
 unfold o9 stored
 rw [r.any k]
 by_cases e : (vs.any fun kv => decide (kv.1 = k)) = true
 ·rw [if_pos e, if_pos e]; exact r.repl k ry
 ·rw [if_neg e, if_neg e]; exact Paired.snoc r ⟨rfl, ry⟩
theorem KV.length {kvs : List (κ × V)} {vs : List (κ × Value)} (r : KV kvs vs) : kvs.length = vs.length := Paired.length r
end
theorem uZ {P : Program} {w : World} {k : Key} {u : Value} (r : de (kV k) u) : (dy P w).is k u = true := by
 cases k with
 | inl i => obtain ⟨t, e⟩ := (show ∃ t, u = Value.int i t from r); subst e; exact oj P w i t
 | inr x => obtain ⟨t, e⟩ := (show ∃ t, u = Value.str x t from r); subst e; exact oh P w x t
theorem mX {P : Program} {w : World} : ∀ {ks : List Key} {us : List Value}, b0 (ks.map kV) us → ItemsAre (dy P w) ks us
 | [], _, r => by rw [List.map_nil] at r; cases r; exact .nil
 | k :: ks, _, r => by
  rw [List.map_cons] at r
  cases r with
  | cons h t => exact .cons (uZ h) (mX t)
noncomputable abbrev KT (H : Hp) : List (List Key × V) → List (List Key × Addr × Value) → Prop := Paired fun p q => p.1 = q.1 ∧ H q.2.1 = some (.tup (p.1.map kV)) ∧ de p.2 q.2.2
theorem KT.val {H : Hp} {kvs : List (List Key × V)} {xs : List (List Key × Addr × Value)} (r : KT H kvs xs) (k : List Key) : nK (mh kvs k) ((atKey xs k).map (·.2)) := by
 induction r with
 | nil => exact True.intro
 | @cons p q ps qs h t ih =>
  obtain ⟨h1, _, h2⟩ := h
  by_cases e : p.1 = k
  ·have e' : q.1 = k := h1.symm.trans e
   have b : atKey (q :: qs) k = some q.2 := by simp [atKey, List.find?_cons, e']
   rw [lA e, b]; exact h2
  ·have e' : ¬ q.1 = k := fun z => e (h1.trans z)
   have b : atKey (q :: qs) k = atKey qs k := by simp [atKey, List.find?_cons, e']
   rw [lB e, b]; exact ih
theorem KT.repl {H : Hp} {kvs : List (List Key × V)} {xs : List (List Key × Addr × Value)} (r : KT H kvs xs) (k : List Key) {y : V} {u : Value} (ry : de y u) :
  KT H (kvs.map fun kv => if kv.1 = k then (kv.1, y) else kv) (xs.map (putAt k u)) := by
 induction r with
 | nil => exact .nil
 | @cons p q ps qs h t ih =>
  rw [List.map_cons, List.map_cons]
  refine .cons ?_ ih
  obtain ⟨h1, h2, h3⟩ := h
  unfold putAt
  by_cases e : p.1 = k
  ·rw [if_pos e, if_pos (h1.symm.trans e)]; exact ⟨h1, h2, ry⟩
  ·rw [if_neg e, if_neg (fun z => e (h1.trans z))]; exact ⟨h1, h2, h3⟩
theorem KT.put {H : Hp} {kvs : List (List Key × V)} {xs : List (List Key × Addr × Value)} (r : KT H kvs xs) (k : List Key) {b : Addr} {y : V} {u : Value} (hb : H b = some (.tup (k.map kV))) (ry : de y u) :
  KT H (o9 kvs k y) (storedH xs k b u) := by
 have e : (kvs.any fun kv => decide (kv.1 = k)) = (atKey xs k).isSome := by
  rw [oW, (r.val k).isSome_eq, Option.isSome_map]
 unfold o9 storedH
 rw [e]
 by_cases q : (atKey xs k).isSome = true
 ·rw [if_pos q, if_pos q]; exact r.repl k ry
 ·rw [if_neg q, if_neg q]; exact Paired.snoc r ⟨rfl, hb, ry⟩
theorem KT.keeps {H H' : Hp} {kvs : List (List Key × V)} {xs : List (List Key × Addr × Value)} (r : KT H kvs xs) (ht : ∀ b ys, H b = some (.tup ys) → H' b = some (.tup ys)) : KT H' kvs xs :=
 Paired.mapP r fun _ _ z => ⟨z.1, ht _ _ z.2.1, z.2.2⟩
section
variable {P : Program} {w : World} {H : Hp} {h : Heap} {a : Addr}
theorem zY {u : HO} (ok : HOk P w H h) (e : Rd H a u) : dD P w H h a u := e.ok ok
theorem sE {kvs : List (Key × V)} (ok : HOk P w H h) (e : Rd H a (.dK kvs)) : kvs.length ≤ sizeLine ∧ (a == sysModules) = false ∧ ∃ vs, KV kvs vs ∧ h.DictOf (dy P w) a vs :=
 show dD P w H h a (.dK kvs) from zY ok e
theorem DQ {kvs : List (Key × V)} (ok : HOk P w H h) (e : H a = some (.dK kvs)) : kvs.length ≤ sizeLine ∧ (a == sysModules) = false ∧ ∃ vs, KV kvs vs ∧ h.DictOf (dy P w) a vs := sE ok (.inl e)
theorem pq {ks : List Key} (ok : HOk P w H h) (e : H a = some (.tup (ks.map kV))) : (tupleKind (dy P w)).is h ks a := by
 obtain ⟨_, its, r, o, h1, h2, n, h3⟩ := (show dD P w H h a (.tup (ks.map kV)) from ok a _ e)
 exact ⟨o, its.toArray, n, h1, h2, h3, by simpa using mX r⟩
theorem ve {kvs : List (List Key × V)} (ok : HOk P w H h) (e : Rd H a (.dT kvs)) : kvs.length ≤ sizeLine ∧ (a == sysModules) = false ∧
  ∃ xs, KT H kvs xs ∧ h.DictOfH (tupleKind (dy P w)) a xs := by
 obtain ⟨z, y, xs, r, o, es, ep, h1, h2, h3, h4, h5⟩ := (show dD P w H h a (.dT kvs) from zY ok e)
 refine ⟨z, y, xs, r, o, es, ep, h1, h2, h3, h4, fun x hx => ?_, h5⟩
 have all : ∀ {l : List (List Key × V)} {m : List (List Key × Addr × Value)}, KT H l m → ∀ x ∈ m, (tupleKind (dy P w)).is h x.1 x.2.1 := by
  intro l m q
  induction q with
  | nil => intro x hx; exact nomatch hx
  | @cons p q ps qs hq t ih =>
   intro x hx
   rcases List.mem_cons.mp hx with e | hx
   ·subst e
    exact pq ok (by rw [← hq.1]; exact hq.2.1)
   ·exact ih x hx
 exact all r x hx
theorem DP {kvs : List (List Key × V)} (ok : HOk P w H h) (e : H a = some (.dT kvs)) : kvs.length ≤ sizeLine ∧ (a == sysModules) = false ∧
  ∃ xs, KT H kvs xs ∧ h.DictOfH (tupleKind (dy P w)) a xs := ve ok (.inl e)
end
noncomputable def DGet (H : Hp) (a : Addr) (y : V) (r : Option V) : Prop :=
 (∃ kvs k, Rd H a (.dK kvs) ∧ y = kV k ∧ r = mh kvs k) ∨ ∃ kvs k b, Rd H a (.dT kvs) ∧ y = .ref b ∧ H b = some (.tup (k.map kV)) ∧ r = mh kvs k
noncomputable def Bw (H : Hp) (a : Addr) (y v : V) (H' : Hp) : Prop :=
 (∃ kvs k, H a = some (.dK kvs) ∧ y = kV k ∧ kvs.length < sizeLine ∧ H' = upd H a (.dK (o9 kvs k v))) ∨
 ∃ kvs k b, H a = some (.dT kvs) ∧ y = .ref b ∧ H b = some (.tup (k.map kV)) ∧ kvs.length < sizeLine ∧ H' = upd H a (.dT (o9 kvs k v))
theorem DGet.k {H : Hp} {a : Addr} {kvs : List (Key × V)} {k : Key} (e : H a = some (.dK kvs)) : DGet H a (kV k) (mh kvs k) := .inl ⟨kvs, k, .inl e, rfl, rfl⟩
theorem Bw.k {H : Hp} {a : Addr} {kvs : List (Key × V)} {k : Key} {v : V} (e : H a = some (.dK kvs)) (hl : kvs.length < sizeLine) : Bw H a (kV k) v (upd H a (.dK (o9 kvs k v))) := .inl ⟨kvs, k, e, rfl, hl, rfl⟩
section
variable {X : Cx} {pins : List (Addr × Obj)} {σ : St} {H : Hp} {s : Shared} {a : Addr} {y v : V} {u r : Value} {o : Option V} {A : Around} {E : Value → Shared → Prop}
theorem sM {Q : Value → Shared → Prop} (hu : A.units + 1 < cLine) (I : Inv X pins σ H s) (g : DGet H a y (some v)) (ry : de y u) (h : ∀ w' s', Inv X pins σ H s' → de v w' → Q w' s') :
  wpAny (model X.prog X.w) A (getItem (.ref a) u) Q E s := by
 rcases g with ⟨kvs, k, e, ey, l⟩ | ⟨kvs, k, b, e, ey, eb, l⟩
 ·subst ey
  obtain ⟨z, hd, vs, rel, dd⟩ := sE I.hok e
  obtain ⟨w', hw, rw'⟩ := nK.some_of (v := v) (o := valueAt vs k) (by rw [l]; exact rel.val k)
  exact wpAny_getItem_of (uZ ry) dd.mapOf hw (h w' _ (I.tok _) rw')
 ·subst ey
  cases (show u = Value.ref b from ry)
  obtain ⟨z, hd, xs, rel, dd⟩ := ve I.hok e
  obtain ⟨w', hw, rw'⟩ := nK.some_of (v := v) (o := (atKey xs k).map (·.2)) (by rw [l]; exact rel.val k)
  obtain ⟨p, hp, hp2⟩ := Option.map_eq_some_iff.mp hw
  refine wpAny_getItem_heap (tupleKind_room_in1 hu) (pq I.hok eb) dd hp ?_
  rw [hp2]
  exact h w' _ (I.tok _) rw'
theorem yt {Q : Value → Shared → Prop} (hu : A.units + 1 < cLine) (I : Inv X pins σ H s) (g : DGet H a y o) (ry : de y u) (h : ∀ s', Inv X pins σ H s' → Q (.bool (!o.isSome)) s') :
  wpAny (model X.prog X.w) A (compareOp .NotIn u (.ref a)) Q E s := by
 rcases g with ⟨kvs, k, e, ey, l⟩ | ⟨kvs, k, b, e, ey, eb, l⟩
 ·subst ey
  obtain ⟨z, hd, vs, rel, dd⟩ := sE I.hok e
  refine wpAny_notIn_of (uZ ry) hd dd.mapOf ?_
  rw [← (rel.val k).isSome_eq, ← l]
  exact h _ (I.tok _)
 ·subst ey
  cases (show u = Value.ref b from ry)
  obtain ⟨z, hd, xs, rel, dd⟩ := ve I.hok e
  refine wpAny_notIn_heap (tupleKind_room_in1 hu) (pq I.hok eb) hd dd ?_
  have q := (rel.val k).isSome_eq
  rw [Option.isSome_map] at q
  rw [← q, ← l]
  exact h _ (I.tok _)
theorem sJ {h' : Heap} {t' : Nat} {ob : HO} (I : Inv X pins σ H s) (mu : Mut (H a)) (hs : Heap.SameBut a s.heap h') (he : ∃ q, h'.get? a = some q) (new : dD X.prog X.w (upd H a ob) h' a ob) :
  Inv X pins σ (upd H a ob) { s with heap := h', toks := t' } :=
 I.write (x := a) (e := a) mu (.inl rfl) (fun b q hb z => (hs.2 b hb).trans z) he new
theorem Bp {P : Program} {w : World} {H' : Hp} {h' : Heap} {kvs : List (Key × V)} {vs : List (Key × Value)} (z : kvs.length ≤ sizeLine) (hd : (a == sysModules) = false) (rel : KV kvs vs) (dd : h'.DictOf (dy P w) a vs) :
  dD P w H' h' a (.dK kvs) := ⟨z, hd, vs, rel, dd⟩
theorem sL {H' : Hp} {Q : Unit → Shared → Prop} (hu : A.units + 1 < cLine) (I : Inv X pins σ H s) (g : Bw H a y v H') (ry : de y u) (rv : de v r) (h : ∀ s', Inv X pins σ H' s' → Q () s') :
  wpAny (model X.prog X.w) A (setItem (.ref a) u r) Q E s := by
 rcases g with ⟨kvs, k, e, ey, l, eH⟩ | ⟨kvs, k, b, e, ey, eb, l, eH⟩
 ·subst ey eH
  obtain ⟨z, hd, vs, rel, dd⟩ := DQ I.hok e
  have hz : vs.length ≤ sizeLine := by rw [← rel.length]; exact z
  have hl : (o9 kvs k v).length ≤ sizeLine := by have := jG kvs k v; omega
  refine wpAny_setItem_pairs (hsz := hz) (uZ ry) dd fun h' dd' hs => h _ ?_
  have he : ∃ q, h'.get? a = some q := let ⟨q, _, _, hq, _⟩ := dd'; ⟨q, hq⟩
  exact sJ I (by rw [e]; exact True.intro) hs he (Bp hl hd (rel.put k rv) dd')
 ·subst ey eH
  cases (show u = Value.ref b from ry)
  obtain ⟨z, hd, xs, rel, dd⟩ := DP I.hok e
  have hz : xs.length ≤ sizeLine := by rw [← Paired.length rel]; exact z
  have hl : (o9 kvs k v).length ≤ sizeLine := by have := jG kvs k v; omega
  refine wpAny_setItem_heap (hsz := hz) (tupleKind_room_in1 hu) (pq I.hok eb) dd fun h' dd' hs => h _ ?_
  obtain ⟨q, es, ep, hq, h2, h3, h4, _, h5⟩ := dd'
  refine sJ I (by rw [e]; exact True.intro) hs ⟨q, hq⟩ ⟨hl, hd, _, (rel.put k eb rv).keeps fun c ys ec => ?_, q, es, ep, hq, h2, h3, h4, h5⟩
  rw [bL (Dp ec e (fun z => nomatch z))]
  exact ec
end
section
variable {X : Cx} {pins : List (Addr × Obj)} {σ : St} {H : Hp} {s : Shared} {a : Addr} {kvs : List (Key × V)} {k : Key} {u : Value} {A : Around} {E : Value → Shared → Prop}
theorem DR {Q : Value → Shared → Prop} (I : Inv X pins σ H s) (e : Rd H a (.dK kvs)) (h : ∀ t s', Inv X pins σ H s' → Q (.int kvs.length t) s') : wpAny (model X.prog X.w) A (call (.builtin "len") [.ref a]) Q E s := by
 obtain ⟨z, hd, vs, rel, dd⟩ := sE I.hok e
 refine call_len_dict hd dd (by rw [← rel.length]; rw [sizeLine_eq] at z; omega) ?_
 rw [← rel.length]
 exact h _ _ (I.tok _)
end
noncomputable def BN (i : Expr) : Prop := ∀ ov iv, subscripted i false ov iv = operate [ov, iv] (getItem ov iv)
theorem xp {prog : Program} {w : World} {A : Around} {E : Value → Shared → Prop} {s : Shared} {env : Env} {value slice : Expr} {pos : Pos} {T id : String} {Q : Value → Shared → Prop}
  (hl : typeLookup (.type T) "__getitem__" = pure (some (.builtin id))) (hs : BN slice)
  (h : wpAny (model prog w) A (eval value env) (fun o s₁ => wpAny (model prog w) A (eval slice env) (fun i s₂ => s₂.TypeIs o T ∧ wpAny (model prog w) A (getItem o i) Q E s₂) E s₁) E s) :
  wpAny (model prog w) A (eval (.Subscript value slice pos) env) Q E s := by
 refine Subscript_ (wpAny_mono h (fun o s₁ h₁ => wpAny_mono h₁ (fun i s₂ h₂ => ?_) fun _ _ x => x) fun _ _ x => x)
 obtain ⟨hT, h₂⟩ := h₂
 unfold subscriptTail
 refine wpAny_bind ?_
 rw [getitemInPython_of_ne hT.not_modules]
 refine wpAny_bind (wpAny_specialOf hT hl ?_)
 have fin : wpAny (model prog w) A (subscripted slice false o i) (fun r s₃ => wpAny (model prog w) A (letTemporaryGo value o r >>= fun _ => pure r) Q E s₃) E s₂ := by
  rw [hs o i]
  exact wpAny_operating (wpAny_mono h₂ (fun r s₃ h₃ => wpAny_bind (wpAny_letTemporaryGo (wpAny_pure h₃))) fun _ _ x => x)
 first
  | exact wpAny_pure (wpAny_bind fin)
  | exact wpAny_bind (wpAny_pure (wpAny_bind fin))
  | exact wpAny_bind fin
theorem oG {X : Cx} {pins : List (Addr × Obj)} {σ : St} {H : Hp} {s : Shared} {a : Addr} {y : V} {o : Option V} (I : Inv X pins σ H s) (g : DGet H a y o) : s.TypeIs (.ref a) "dict" := by
 rcases g with ⟨kvs, k, e, _, _⟩ | ⟨kvs, k, b, e, _, _, _⟩
 ·obtain ⟨_, _, vs, _, dd⟩ := sE I.hok e
  exact dd.typeIs
 ·obtain ⟨_, _, xs, _, dd⟩ := ve I.hok e
  exact dd.typeIs
noncomputable def zR (td ty : TE) : TE := fun σ H Q => td σ H fun x H1 => ty σ H1 fun y H2 => ∃ a v, x = .ref a ∧ DGet H2 a y (some v) ∧ Q v H2
noncomputable def nO (ty td : TE) : TE := fun σ H Q => ty σ H fun y H1 => td σ H1 fun x H2 => ∃ a o, x = .ref a ∧ DGet H2 a y o ∧ Q (.bl (!o.isSome)) H2
noncomputable def zX (td ty tv : TE) : TS := fun D σ H => tv σ H fun v H1 => td σ H1 fun x H2 => ty σ H2 fun y H3 => ∃ a H4, x = .ref a ∧ Bw H3 a y v H4 ∧ D.nx σ H4
section
variable {X : Cx} {o i e value : Expr} {pos pos' tpos : Pos} {td ty tv : TE}
theorem xR (hu : X.A.units + 1 < cLine) (ho : PE X o td) (hi : PE X i ty) (hs : BN i) : PE X (.Subscript o i pos) (zR td ty) := by
 intro pins s σ H Q I h
 refine xp PySem.F.slot_dict_getitem.lookup hs (thn (ho pins s σ H _ I h) fun u s1 ⟨x, H1, I1, rx, q1⟩ => thn (hi pins s1 σ H1 _ I1 q1) fun iv s2 hz => ?_)
 obtain ⟨y, H2, I2, ry, a, v, ex, g, q2⟩ := hz
 subst ex
 obtain rfl : u = Value.ref a := rx
 exact ⟨oG I2 g, sM hu I2 g ry fun w' s3 I3 rw' => ⟨v, H2, I3, rw', q2⟩⟩
theorem rF (hu : X.A.units + 1 < cLine) (hi : PE X i ty) (ho : PE X o td) : PC X .NotIn i o (nO ty td) := by
 intro pins s σ H Q I h
 refine thn (hi pins s σ H _ I h) fun iv s1 ⟨y, H1, I1, ry, q1⟩ => thn (ho pins s1 σ H1 _ I1 q1) fun u s2 hz => ?_
 obtain ⟨x, H2, I2, rx, a, ov, ex, g, q2⟩ := hz
 subst ex
 obtain rfl : u = Value.ref a := rx
 exact yt hu I2 g ry fun s3 I3 => ⟨.bl (!ov.isSome), H2, I3, rfl, q2⟩
theorem xI (hu : X.A.units + 1 < cLine) (ho : PE X o td) (hi : PE X i ty) (hv : PE X value tv) (hs : swapsWith value (some (.Subscript o i pos')) pos.line X.env = pure false) :
  PS X (.Assign [.Subscript o i pos'] value pos) (zX td ty tv) := by
 intro pins s σ H D I h
 refine wpAny_Assign_Subscript (thn (hv pins s σ H _ I h) fun r s1 ⟨v, H1, I1, rv, q1⟩ => thn (ho pins s1 σ H1 _ I1 q1) fun u s2 ⟨x, H2, I2, rx, q2⟩ => thn (hi pins s2 σ H2 _ I2 q2) fun iv s3 hz => ?_) hs
 obtain ⟨y, H3, I3, ry, a, H4, ex, g, q3⟩ := hz
 subst ex
 obtain rfl : u = Value.ref a := rx
 exact sL hu I3 g ry rv fun s4 I4 => ⟨σ, H4, I4, q3⟩
end
end L2
namespace Att
open PySem PySem.W PySem.Calls PyProof.Rows
theorem jL {P : Params} {h : Heap} : ∀ (ns : List Int) (vs : List Value), WellAll P h vs (ns.map WData.int) → IntsAre vs ns := by
 intro ns
 induction ns with
 | nil =>
  intro vs w
  rw [List.map_nil] at w
  cases w
  exact .nil
 | cons n ns ih =>
  intro vs w
  rw [List.map_cons] at w
  cases w with
  | cons a b =>
   cases a
   exact .cons _ _ (ih _ b)
theorem rg {l : OpenLaw} {n : Nat} (hn : l.most = some n) {P : Params} {h : Heap} {args : List WData} {vals : List Value}
  (hpre : l.row.toRowW.claim.pre args = true) (hwl : WellAll P h vals args) :
  ∃ a vs ns, vals = [Value.ref a] ∧ args = [WData.list (ns.map WData.int)] ∧ h.get? a = some { cls := .type "list", data := .seq vs.toArray } ∧ IntsAre vs ns ∧ ns.length ≤ n := by
 have hsh : WShape.hasAll [] args [.list .int] = true := (pre_splitW hpre).1
 have hc : l.pre.holds [] { args := args } = true := (pre_splitW hpre).2
 obtain ⟨d, r, rfl, h1, h2⟩ := hasAllW_cons hsh
 obtain rfl := hasAllW_nil h2
 obtain ⟨xs, rfl, h3⟩ := hasW_list h1
 obtain ⟨ns, rfl⟩ := items_int h3
 have fS : ns.length ≤ n := by
  unfold OpenLaw.pre at hc
  have h4 : (WTm.not (.lt (.lit (.int (n : Int))) (.len (.arg 0)))).holds [] { args := [.list (ns.map .int)] } = true := by
   have h4 := (holds_andW hc).1
   rw [hn] at h4
   exact h4
  have h5 := condW_of h4 (w_not (w_lt w_lit (w_len_list (w_arg rfl))))
  rw [List.length_map] at h5
  refine Nat.le_of_not_lt fun q => ?_
  have q' : (n : Int) < ((ns.length : Nat) : Int) := by omega
  first
   | (rw [decide_eq_true q'] at h5; exact absurd h5 (by decide))
   | (simp at h5; omega)
 cases hwl with
 | cons w1 w2 =>
  cases w2
  cases w1 with
  | list ho hall => exact ⟨_, _, ns, rfl, rfl, ho, jL ns _ hall, fS⟩
theorem rC (l : OpenLaw) (args : List WData) : l.row.toRowW.claim.post args (.bool true) args = true :=
 postW_of (r := l.row.toRowW) (X := (true == true))
  (show WShape.has [] (.bool true) .bool = true by first | rfl | decide | simp [WShape.has, WShape.arms, WShape.armsAll])
  (show (WTm.eq .res (.lit (.bool true))).value [] { args := args, res := some (.bool true), after := args } = some (.bool (true == true)) from w_eq_bool (w_res rfl) w_lit) rfl
theorem attach_call {l : OpenLaw} {n : Nat} {q : Program} {loose : List Str} {XP : (Str → Option Value) → Heap → Prop} {YP : World → Heap → Prop} {d : DefRec}
  (hn : l.most = some n) (hdf : d.params.defaults = [])
  (call : ∀ (w : World) (s₀ s₁ : Shared) (mg mb : Str → Option Value) (fa : Addr) (o : Obj) (pm cd doc : Value) (a : Addr) (vs : List Value) (ns : List Int),
   Ground q loose [] XP w s₀ mg mb s₁.heap → YP w s₁.heap →
   s₁.heap.get? fa = some o → o.data = .func (docDef d.name d.params d.body d.scope pm cd doc) → s₁.heap.CodeRec cd d.name → mg d.name = some (.ref fa) →
   s₁.heap.get? a = some { cls := .type "list", data := .seq vs.toArray } → IntsAre vs ns → ns.length ≤ n → s₁.gens = #[] →
   codeAny (model l.prog w) callerA (.call (.ref fa) ⟨[.ref a], []⟩) (fun r s' => r = .ok (.ret (.bool true)) ∧ OldK s₁.heap s'.heap ∧ s'.os = s₁.os ∧ AllBare s'.gens) s₁) :
  WalkO q loose XP YP l.row.toRowW d [] (fun f vs => PySem.call f vs) := by
 intro w s₀ s₁ mg mb G Y fa o pm cd doc dV kV ho hd hcd hD hmg hg args vals as hpre hlay hrd hwl hlo
 obtain rfl : dV = .none := Dflts.none hD hdf
 obtain rfl : kV = .none := Dflts.noKw hD
 obtain ⟨a, vs, ns, rfl, rfl, hobj, hints, fS⟩ := rg hn hpre hwl
 refine enter_call (codeAny_mono (call w s₀ s₁ mg mb fa o pm cd doc a vs ns G Y ho (fd_plain hd) hcd hmg hobj hints fS hg) fun r s' hq => ?_)
 obtain ⟨rfl, h2, h3, h4⟩ := hq
 exact ⟨.inl ⟨.bool true, .bool true, [], rfl, fun _ => rfl, .bool true, rC l _, fun _ => ⟨List.Pairwise.nil, fun _ hm => (nomatch hm)⟩⟩, h2, h3, h4⟩
end Att
namespace L2
open PySem PySem.Spec PyProof.Rows
theorem gk : ∀ {vs : List Value} {ns : List Int}, IntsAre vs ns → b0 (ns.map V.int) vs
 | _, _, .nil => .nil
 | _, _, .cons n t h => .cons ⟨t, rfl⟩ (gk h)
noncomputable def DX (H : Hp) : Prop := ∀ b, H b = none ∨ ∃ o xs, H b = some (.frz o (.lst xs))
theorem uY {P : Program} {w : World} {K : PySem.W.Frag} {mg mb : Str → Option Value} {CX : CXT} {k : Nat} {fa a : Addr} {fd : FuncData} {x : Str} {sp : Sp} {s₁ : Shared} {vs : List Value} {ns : List Int}
  (KX : K.In s₁.heap) (hns : s₁.heap.Ns mainGlobals mg) (hb : s₁.heap.Ns builtinsNs mb) (hbb : ∀ x : Str, x ≠ "__name__" → mb x = bootBuiltins x) (hlim : s₁.heap.NoLimit) (hg : s₁.gens = #[])
  (ha : s₁.heap.get? a = some { cls := .type "list", data := .seq vs.toArray }) (hi : IntsAre vs ns) (hl : ns.length ≤ sizeLine) (hr : fi k callerA)
  (F : ∀ base : Heap, K.In base → base.Ns mainGlobals mg → iU P w K mg base CX k fa fd [x] sp) (hbind : ∀ (s : Shared) (u : Value), BindsTo s fd ⟨[u], []⟩ [(x, u)])
  (hsp : ∀ H : Hp, DX H → SqL K H a (ns.map V.int) → sp [.ref a] H (fun v _ => v = .bl true) fun _ _ _ => False)
  (hCX : ∀ H e s', CX [] H s₁ (fun _ _ _ => False) e s' → False) :
  codeAny (model P w) callerA (.call (.ref fa) ⟨[.ref a], []⟩) (fun r s' => r = .ok (.ret (.bool true)) ∧ OldK s₁.heap s'.heap ∧ s'.os = s₁.os ∧ AllBare s'.gens) s₁ := by
 have rv := gk hi
 have lenV := hi.length
 have core : ∀ H : Hp, DX H → SqL K H a (ns.map V.int) → HOk P w H s₁.heap → (∀ b, H b ≠ none → b = a) → (H a ≠ none → K.lookup a = none) →
   codeAny (model P w) callerA (.call (.ref fa) ⟨[.ref a], []⟩) (fun r s' => r = .ok (.ret (.bool true)) ∧ OldK s₁.heap s'.heap ∧ s'.os = s₁.os ∧ AllBare s'.gens) s₁ := by
  intro H hO hS hok hA hK
  have base_of : ∀ {b : Addr} {o : Obj}, s₁.heap.get? b = some o → H b = none → (u7 s₁.heap H).get? b = some o := fun e n => u6 e n
  have noA : ∀ {b : Addr} {o : Obj} {es : Array DictEntry} {ep : Nat}, s₁.heap.get? b = some o → o.data = .dict es ep → H b = none := fun {b o es ep} e d => by
   cases q : H b with
   | none => rfl
   | some u =>
    have e' : b = a := hA b (by rw [q]; simp)
    subst e'
    rw [ha] at e; cases e
    have d' : Data.seq vs.toArray _ = Data.dict es ep := d
    cases d'
  have nsK : ∀ {b : Addr} {m : Str → Option Value}, s₁.heap.Ns b m → (u7 s₁.heap H).Ns b m := fun {b m} ⟨o, es, ep, e, d, r⟩ => ⟨o, es, ep, base_of e (noA e d), d, r⟩
  have hKb : K.In (u7 s₁.heap H) := fun b o e => base_of (KX b o e) (by
   cases q : H b with
   | none => rfl
   | some u =>
    have e' : b = a := hA b (by rw [q]; simp)
    subst e'
    rw [hK (by rw [q]; simp)] at e; cases e)
  have hM : Mod K mg (u7 s₁.heap H) := ⟨hKb, nsK hns, ⟨mb, nsK hb, hbb⟩, let ⟨mc, h1, h2⟩ := hlim; ⟨mc, nsK h1, h2⟩⟩
  have e0 : yz P w K mg (u7 s₁.heap H) callerA [] s₁ H := ⟨rfl, hM, fun b o e => x3 e, Nat.le_of_eq (sk _ _), trivial, fun b hb => absurd (show b ∈ ([] : List Addr) from hb) (by simp), hok, .of_eq hg⟩
  refine codeAny_mono ((F _ hKb (nsK hns)).run callerA [] s₁ H ⟨[.ref a], []⟩ [.ref a] [.ref a] _ _ hr e0 (hbind s₁ (.ref a)) (.cons rfl .nil) (hsp H hO hS)) fun r s' h => ?_
  cases r with
  | error e => exact (hCX H e s' h).elim
  | ok fl =>
   cases fl with
   | next => exact False.elim h
   | brk => exact False.elim h
   | cont => exact False.elim h
   | ret u =>
    obtain ⟨v, H', os, bare, un, hok', r', q⟩ := h
    have q' : v = .bl true := q
    subst q'
    obtain rfl : u = Value.bool true := r'
    refine ⟨rfl, OldK.of_keep fun b o e => ?_, os, bare⟩
    cases q : H b with
    | none => exact un.keep b o e q (by intro z; exact absurd (show b ∈ ([] : List Addr) from z) (by simp)) (by simp)
    | some u =>
     rcases hO b with z | ⟨ob, xs, z⟩
     ·rw [q] at z; cases z
     ·have z2 := un.frzs b ob _ z
      obtain ⟨e1, _⟩ := hok b _ z
      obtain ⟨e2, _⟩ := hok' b _ z2
      rw [e] at e1; cases e1
      exact e2
 cases hk : K.lookup a with
 | some o =>
  have e := KX a o hk
  rw [ha] at e
  cases e
  refine core (fun _ => none) (fun _ => .inl rfl) (.inr ⟨_, vs.toArray, _, hk, rfl, rfl, rfl, by rw [List.size_toArray, lenV]; exact hl, by simpa using rv⟩) (fun b u z => by have z' : (none : Option HO) = some u := z; cases z') (fun b z => absurd rfl z) fun z => absurd rfl z
 | none =>
  refine core (fun b => if b = a then some (.frz { cls := .type "list", data := .seq vs.toArray } (.lst (ns.map V.int))) else none) (fun b => ?_) (.inl (.inr ⟨{ cls := .type "list", data := .seq vs.toArray }, if_pos rfl⟩)) (fun b u z => ?_) (fun b z => ?_) fun _ => hk
  ·by_cases hb : b = a
   ·exact .inr ⟨_, _, if_pos hb⟩
   ·exact .inl (if_neg hb)
  ·by_cases hb : b = a
   ·have z' := (if_pos hb).symm.trans z
    cases z'
    subst hb
    exact ⟨ha, by rw [List.length_map]; exact hl, vs, _, rv, ha⟩
   ·have z' := (if_neg hb).symm.trans z
    cases z'
  ·by_cases hb : b = a
   ·exact hb
   ·exact absurd (if_neg hb) z
theorem xm {l : PySem.W.OpenLaw} {n k : Nat} {q : Program} {loose : List Str} {XP : (Str → Option Value) → Heap → Prop} {YP : World → Heap → Prop} {d : DefRec} {K : Params → PySem.W.Frag} {CX : World → CXT} {sp : World → Sp} {x : Str}
  (hn : l.most = some n) (hn2 : n ≤ sizeLine) (hdf : d.params.defaults = []) (hr : fi k callerA)
  (hY : ∀ (w : World) (h : Heap), YP w h → (K w.params).In h)
  (F : ∀ (w : World) (mg : Str → Option Value) (fa : Addr) (h : Heap), (K w.params).In h → h.Ns mainGlobals mg → mg d.name = some (.ref fa) →
   ∃ fd : FuncData, (∀ (s : Shared) (u : Value), BindsTo s fd ⟨[u], []⟩ [(x, u)]) ∧
    ∀ base : Heap, (K w.params).In base → base.Ns mainGlobals mg → iU l.prog w (K w.params) mg base (CX w) k fa fd [x] (sp w))
  (hsp : ∀ (w : World) (H : Hp) (a : Addr) (ns : List Int), ns.length ≤ n → DX H → SqL (K w.params) H a (ns.map V.int) → sp w [.ref a] H (fun v _ => v = .bl true) fun _ _ _ => False)
  (hCX : ∀ (w : World) (H : Hp) (s : Shared) (e : Value) (s' : Shared), CX w [] H s (fun _ _ _ => False) e s' → False) :
  PySem.W.WalkO q loose XP YP l.row.toRowW d [] (fun f vs => PySem.call f vs) := by
 refine Att.attach_call hn hdf fun w s₀ s₁ mg mb fa o pm cd doc a vs ns G Y ho hd hcd hmg hobj hints fS hg => ?_
 have KX := hY w _ Y
 obtain ⟨fd, hb, hF⟩ := F w mg fa _ KX G.T.g hmg
 exact uY KX G.T.g G.T.b G.T.builtins G.T.nolimit hg hobj hints (Nat.le_trans fS hn2) hr hF hb (fun H hO hS => hsp w H a ns fS hO hS) fun H e s' => hCX w H s₁ e s'
noncomputable def eZ (s : Stmt) (j : Nat) : Stmt := match s with
 | .ClassDef _ _ _ body _ _ _ _ _ _ _ => body.getD j (.Pass ⟨0, 0, 0, 0⟩)
 | _ => .Pass ⟨0, 0, 0, 0⟩
noncomputable def ba (s : Stmt) : Arguments := match s with
 | .FunctionDef _ a _ _ _ _ _ _ _ _ => a
 | _ => { posonlyargs := [], args := [], vararg := none, kwonlyargs := [], kw_defaults := [], kwarg := none, defaults := [] }
noncomputable def aR (s : Stmt) : List Stmt := match s with
 | .FunctionDef _ _ b _ _ _ _ _ _ _ => b
 | _ => []
noncomputable def ao (s : Stmt) : Scope := match s with
 | .FunctionDef _ _ _ _ _ _ sc _ _ _ => sc
 | _ => { kind := .function, names := [], isGenerator := false, isCoroutine := false }
noncomputable abbrev CX0 : CXT := fun _ _ _ _ _ _ => False
noncomputable abbrev E0 : XK := fun _ _ _ => False
theorem uJ {X : Cx} : fT CX0 X E0 := fun _ _ _ _ _ _ _ h => h.elim
structure Fun (K : PySem.W.Frag) (x qual : Str) (st : Stmt) (f : Addr) (fd : FuncData) : Prop where
 ex : ∃ (oc : Value) (od : Option Addr) (kV doc pm : Value) (an : Option Addr) (cdv ct : Value) (osl : Array (Option Value)),
  fd = PySem.W.fnOf x qual (ba st) (aR st) (ao st) .none kV doc pm an cdv ct ∧ K.lookup f = some ⟨oc, od, .func fd, osl⟩ ∧ PySem.W.codeIn K cdv qual = true
 kp : PySem.W.keepIn K (.ref f) = true
section
variable {P : Program} {w : World} {K : PySem.W.Frag} {mg : Str → Option Value} {base : Heap}
theorem Fun.ok {x qual : Str} {st : Stmt} {f : Addr} {fd : FuncData} {N ps : List Str} {k : Nat} {sp : Sp} (F : Fun K x qual st f fd) (S : aU N ps (ao st)) (len : ∀ vs H Q E, sp vs H Q E → vs.length = ps.length)
  (hbody : ∀ (cdv : Value) (A : Around) (outer : List Env) (s : Shared) (H : Hp) (vs : List V) (Q : VK) (E : XK), fi k (A.deeper (envOfC qual (ao st) s.heap.objs.size f cdv)) → sp vs H Q E →
   ∃ t, PSs (qx CX0 P w K mg base N qual (ao st) f cdv A outer s H E).nox (aR st) t ∧ t { nx := fun _ H' => Q .non H', rt := Q } (gm N vs) H) : iU P w K mg base CX0 (k + 1) f fd ps sp := by
 obtain ⟨oc, od, kV, doc, pm, an, cdv, ct, osl, rfl, lk, hcd⟩ := F.ex
 refine DN lk hcd S len fun A outer s H vs Q E hr hsp => ?_
 obtain ⟨t, h, q⟩ := hbody cdv A outer s H vs Q E hr hsp
 exact ⟨t, h.nox, q⟩
theorem Fun.binds {x qual : Str} {st : Stmt} {f : Addr} {fd : FuncData} {ps : List Str} (F : Fun K x qual st f fd)
  (h : ∀ (kV doc pm : Value) (an : Option Addr) (cdv ct : Value) (us : List Value), us.length = ps.length → bindArgs (PySem.W.fnOf x qual (ba st) (aR st) (ao st) .none kV doc pm an cdv ct) ⟨us, []⟩ = pure (ps.zip us)) : dS K fd ps [] := by
 obtain ⟨oc, od, kV, doc, pm, an, cdv, ct, osl, rfl, lk, hcd⟩ := F.ex
 exact .all (h kV doc pm an cdv ct)
theorem b6 {x qual : Str} {st : Stmt} {f : Addr} {oc : Value} {od an : Option Addr} {osl : Array (Option Value)} {kV doc pm cdv ct : Value} (l : K.lookup f = some ⟨oc, od, .func (PySem.W.fnOf x qual (ba st) (aR st) (ao st) .none kV doc pm an cdv ct), osl⟩)
  (c : PySem.W.codeIn K cdv qual = true) (k : PySem.W.keepIn K (.ref f) = true) : Fun K x qual st f (PySem.W.fnOf x qual (ba st) (aR st) (ao st) .none kV doc pm an cdv ct) := ⟨⟨oc, od, kV, doc, pm, an, cdv, ct, osl, rfl, l, c⟩, k⟩
end
theorem er {A : Around} {k : Nat} (hr : fi k A) : A.units + 1 < cLine := Nat.lt_of_le_of_lt (Nat.add_le_add_left (by decide : 1 ≤ 64) _) hr.units
theorem q0 {n : Nat} (h : n ≤ 1000) : n < sizeLine := Nat.lt_of_le_of_lt h (by decide)
section
variable {X : Cx}
theorem pv (i : Nat) {x : Str} {pos : Pos} (hN : X.N[i]? = some x := by rfl) (hv : Vis X.env.scope x := by first | exact Or.inl rfl | exact Or.inr (Or.inl rfl) | exact Or.inr (Or.inr rfl)) (hd : (x == ("__debug__" : Str)) = false := by decide)
  (hcd : (x == ("__classdict__" : Str)) = false := by decide) : PE X (.Name x pos) (Bx i) := Av hN hv hd hcd
theorem sS : eA X (.builtin "len") (fun xs H Q => ∃ a kvs, xs = [V.ref a] ∧ H a = some (.dK kvs) ∧ Q (.int kvs.length) H) := by
 intro pins s σ H xs us Q I r h
 obtain ⟨a, kvs, rfl, ha, q⟩ := h
 obtain ⟨u, rfl, ru⟩ := j9 r
 cases ru
 exact DR I (.inl ha) fun t s' I' => ⟨.int kvs.length, H, I', ⟨t, rfl⟩, q⟩
end
theorem yD {A B : Prop} (h : B) : if false = true then A else B := by
 rw [if_neg Bool.false_ne_true]
 exact h
theorem yC {A B : Prop} (h : A) : if true = true then A else B := by
 rw [if_pos rfl]
 exact h
noncomputable def pK (H H' : Hp) : Prop := ∀ b o, H b = some o → H' b = some o
theorem pK.refl (H : Hp) : pK H H := fun _ _ h => h
theorem pK.trans {H H1 H2 : Hp} (a : pK H H1) (b : pK H1 H2) : pK H H2 := fun c o h => b c o (a c o h)
theorem pK.free {H H' : Hp} (e : pK H H') {l : Addr} (h : H' l = Option.none) : H l = Option.none := by
 cases q : H l with
 | none => rfl
 | some o =>
  rw [e l o q] at h
  cases h
end L2
namespace OG
open PySem PySem.Spec PyProof.Rows L2
structure WE (X : Cx) (e : Expr) (t : TE) : Prop where
 h : PE X e t
structure WT (X : Cx) (e : Expr) (t : TT) : Prop where
 h : PT X e t
structure WW (X : Cx) (e : Expr) (t : TT) : Prop where
 h : PW X e t
structure WA (X : Cx) (es : List Expr) (t : TA) : Prop where
 h : PA X es t
structure WS (X : Cx) (st : Stmt) (t : TS) : Prop where
 h : PS X st t
structure WSs (X : Cx) (st : List Stmt) (t : TS) : Prop where
 h : PSs X st t
structure WI (X : Cx) (tg iter : Expr) (wi : TI) : Prop where
 h : PI X tg iter wi
structure WG (X : Cx) (target : Expr) (t : TG) : Prop where
 h : PG X target t
structure WGs (X : Cx) (ts : List Expr) (t : TGs) : Prop where
 h : PGs X ts t
structure WC (X : Cx) (op : CmpOp) (a b : Expr) (t : TE) : Prop where
 h : PC X op a b t
structure WO (X : Cx) (e : Option Expr) (t : TO) : Prop where
 h : PO X e t
section
variable {X : Cx}
theorem ag {i j pos} : WE X (.Constant (.int i) j pos) (tC (.int i)) := ⟨AD ⟩
end
section
variable {X : Cx}
theorem mx {b j pos} : WE X (.Constant (.bool b) j pos) (tC (.bl b)) := ⟨Df ⟩
end
section
variable {X : Cx}
theorem fV {j pos} : WE X (.Constant .none j pos) (tC .non) := ⟨AA ⟩
end
section
variable {X : Cx}
theorem aT {x j pos} : WE X (.Constant (.str x) j pos) (tC (.str x)) := ⟨Ax ⟩
end
section
variable {X : Cx}
variable {a b : Expr} {ta tb : TE} {pos : Pos}
theorem xf {op : CmpOp} {t : TE} (h : WC X op a b t) (h1 : behindInMarks op b = false := by first | exact nobehind _ (by decide) (by decide) | rfl) : WE X (.Compare a [op] [b] pos) t := ⟨AF h.h h1⟩
end
section
variable {X : Cx}
variable {a b : Expr} {ta tb : TE} {pos : Pos}
theorem wU {e : Expr} {t : TE} (h : WE X e t) (he : ∀ whole, isTrue e X.env whole = (do let v ← whole; standAt e.pos; holding [v] (truthy v)) := by intro _; rfl) : WT X e (tB t) := ⟨Aj h.h he⟩
end
section
variable {X : Cx}
variable {a b : Expr} {ta tb : TE} {pos : Pos}
variable {tA tB' : TT} {rest : List Expr}
theorem tJ (ha : WT X a tA) : WW X (.BoolOp .And [a] pos) tA := ⟨xD ha.h⟩
end
section
variable {X : Cx}
variable {a b : Expr} {ta tb : TE} {pos : Pos}
variable {tA tB' : TT} {rest : List Expr}
theorem wQ (ha : WT X a tA) : WW X (.BoolOp .Or [a] pos) tA := ⟨Ah ha.h⟩
end
section
variable {X : Cx}
variable {a b : Expr} {ta tb : TE} {pos : Pos}
variable {tA tB' : TT} {rest : List Expr}
theorem wR (ha : WT X a tA) (hb : WW X (.BoolOp .And (b :: rest) pos) tB') : WW X (.BoolOp .And (a :: b :: rest) pos) (D6 tA tB') := ⟨Ai ha.h hb.h⟩
end
section
variable {X : Cx}
variable {a b : Expr} {ta tb : TE} {pos : Pos}
variable {tA tB' : TT} {rest : List Expr}
theorem zy (ha : WT X a tA) (hb : WW X (.BoolOp .Or (b :: rest) pos) tB') : WW X (.BoolOp .Or (a :: b :: rest) pos) (tOr tA tB') := ⟨C7 ha.h hb.h⟩
end
section
variable {X : Cx}
variable {a b : Expr} {ta tb : TE} {pos : Pos}
variable {tA tB' : TT} {rest : List Expr}
theorem wV (ha : WT X a tA) : WT X (.UnaryOp .Not a pos) (D2 tA) := ⟨Ak ha.h⟩
end
section
variable {X : Cx}
variable {a b : Expr} {ta tb : TE} {pos : Pos}
variable {tA tB' : TT} {rest : List Expr}
theorem xa {op} {t : TE} (h : WE X a t) : WE X (.BoolOp op [a] pos) t := ⟨Ay h.h⟩
end
section
variable {X : Cx}
variable {a b : Expr} {ta tb : TE} {pos : Pos}
variable {tA tB' : TT} {rest : List Expr}
theorem xg (ha : WE X a ta) (hb : WE X (.BoolOp .And (b :: rest) pos) tb) : WE X (.BoolOp .And (a :: b :: rest) pos) (zU ta tb) := ⟨AG ha.h hb.h⟩
end
section
variable {X : Cx}
variable {a b : Expr} {ta tb : TE} {pos : Pos}
variable {tA tB' : TT} {rest : List Expr}
theorem xb (ha : WE X a ta) : WE X (.UnaryOp .Not a pos) (zO ta) := ⟨Az ha.h⟩
end
section
variable {X : Cx} {st : Stmt} {rest : List Stmt} {t u : TS} {e : Expr} {te : TE} {pos : Pos}
theorem tL  : WSs X [] zP := ⟨xG ⟩
end
section
variable {X : Cx} {st : Stmt} {rest : List Stmt} {t u : TS} {e : Expr} {te : TE} {pos : Pos}
theorem mq (h1 : WS X st t) (h2 : WSs X rest u) : WSs X (st :: rest) (D0 t u) := ⟨uy h1.h h2.h⟩
end
section
variable {X : Cx} {st : Stmt} {rest : List Stmt} {t u : TS} {e : Expr} {te : TE} {pos : Pos}
theorem oR (h1 : WS X st t) : WSs X [st] t := ⟨xF h1.h⟩
end
section
variable {X : Cx} {st : Stmt} {rest : List Stmt} {t u : TS} {e : Expr} {te : TE} {pos : Pos}
theorem tM (he : WE X e te) (hs : swapsWith e none pos.line X.env = pure false := by rfl) : WS X (.Expr e pos) (zQ te) := ⟨xH he.h hs⟩
end
section
variable {X : Cx} {st : Stmt} {rest : List Stmt} {t u : TS} {e : Expr} {te : TE} {pos : Pos}
theorem qE (he : WE X e te) : WS X (.Return (some e) pos) (D1 te) := ⟨An he.h⟩
end
section
variable {X : Cx} {st : Stmt} {rest : List Stmt} {t u : TS} {e : Expr} {te : TE} {pos : Pos}
theorem zA {c : Expr} {a b : List Stmt} {tc : TT} (hc : WT X c tc) (ha : WSs X a t) (hb : WSs X b u) : WS X (.If c a b pos) (D4 tc t u) := ⟨C8 hc.h ha.h hb.h⟩
end
section
variable {X : Cx} {st : Stmt} {rest : List Stmt} {t u : TS} {e : Expr} {te : TE} {pos : Pos}
theorem qF  : WS X st vC := ⟨uA ⟩
end
section
variable {X : Cx} {pos : Pos}
theorem dg {i : Nat} {x : Str} (hN : X.N.Nodup) (hi : X.N[i]? = some x) (hx : Loc X.env.scope x) (hf : X.fn x = true ∨ X.env.scope.names.lookup x = some .local := by first | exact .inl rfl | exact .inr rfl | assumption) : WG X (.Name x pos) (qh i) := ⟨xO hN hi hx hf⟩
end
section
variable {X : Cx} {pos : Pos}
theorem tQ  : WGs X [] Er := ⟨xN ⟩
end
section
variable {X : Cx} {pos : Pos}
theorem qG {e : Expr} {es : List Expr} {t : TG} {u : TGs} (h1 : WG X e t) (h2 : WGs X es u) (hs : (assignEach (e :: es) X.env).map (·.2) = assign e X.env :: (assignEach es X.env).map (·.2) := by rfl) : WGs X (e :: es) (Bi t u) := ⟨uD h1.h h2.h hs⟩
end
section
variable {X : Cx} {pos : Pos}
theorem w6 {es : List Expr} {k : Nat} {t : TGs} {n : Nat} (hc : X.calm = true) (h : WGs X es t) (hn : (assignEach es X.env).length = n := by rfl) (hst : (assignEach es X.env).findIdx? (·.1) = none := by rfl) : WG X (.Tuple es k pos) (Eo X.K n t) := ⟨As hc h.h hn hst⟩
end
section
variable {X : Cx} {pos : Pos}
theorem w8 {o i : Expr} {to ti : TE} {t : BM} (ho : WE X o to) (hi : WE X i ti) (hs : DW X t) (ha : ∀ v, assign (.Subscript o i pos) X.env v = (do
   let ov ← holding [v] (eval o X.env)
   let iv ← holding [v, ov] (eval i X.env)
   standAt pos
   holding [v, ov, iv] (setItem ov iv v)
   release [v, ov, iv] []) := by intro _; rfl) : WG X (.Subscript o i pos) (Ep to ti t) := ⟨Au ho.h hi.h hs ha⟩
end
section
variable {X : Cx} {pos : Pos}
theorem wY {tg e : Expr} {te : TE} {g : TG} (he : WE X e te) (hg : WG X tg g) (hs : swapsWithSole [tg] e pos.line X.env = pure false := by rfl) (hw : swappedStores [tg] e X.env = pure none := by rfl) (h1 : (assignEach [tg] X.env).map (·.2) = [assign tg X.env] := by rfl) : WS X (.Assign [tg] e pos) (Bz te g) := ⟨Aq he.h hg.h hs hw h1⟩
end
section
variable {X : Cx} {pos : Pos}
theorem qD {i : Nat} {x : Str} {e : Expr} {te : TE} {pos' : Pos} (hN : X.N.Nodup) (hi : X.N[i]? = some x) (hx : Loc X.env.scope x) (he : WE X e te) (hs : swapsWith e (some (.Name x pos')) pos.line X.env = pure false := by rfl) (hf : X.fn x = true ∨ X.env.scope.names.lookup x = some .local := by first | exact .inl rfl | exact .inr rfl | assumption) : WS X (.Assign [.Name x pos'] e pos) (Bz te (qh i)) := ⟨Am hN hi hx he.h hs hf⟩
end
section
variable {X : Cx} {pos : Pos}
theorem qC {c : Expr} {body : List Stmt} {tc : TT} {tb : TS} (hp : PassesOwn (model X.prog X.w) X.A X.env X.xe) (hc : WT X c tc) (hb : WSs X body tb) : WS X (.While c body [] pos) (qS tc tb) := ⟨uz hp hc.h hb.h⟩
end
section
variable {X : Cx} {tg : Expr}
theorem tP {l : Expr} {tl : TE} (hl : WE X l tl) : WI X tg l (Bh X.K tl) := ⟨xM hl.h⟩
end
section
variable {X : Cx} {tg : Expr}
theorem wZ {l : Expr} {tl : TE} (hl : WE X l tl) : WI X tg l (En X.K tl) := ⟨Ar hl.h⟩
end
section
variable {X : Cx} {tg : Expr}
theorem pR {a : Expr} {ta : TA} {p pos : Pos} (hg : Gl X "range") (hm : X.mg "range" = none) (ha : WA X [a] ta) (hs : starEach [a] X.env = [(false, eval a X.env)] := by rfl) : WI X tg (.Call (.Name "range" p) [a] [] pos) (Bg ta) := ⟨rD hg hm ha.h hs⟩
end
section
variable {X : Cx} {tg : Expr}
theorem wW {iter : Expr} {body : List Stmt} {wi : TI} {g : TG} {tb : TS} {pos : Pos} (hp : PassesOwn (model X.prog X.w) X.A X.env X.xe) (hc : X.calm = true) (hi : WI X tg iter wi) (hg : WG X tg g) (hb : WSs X body tb) (hs : ∀ x, foldedSetIterable iter X.env x = pure x := by intro _; rfl) : WS X (.For tg iter body [] pos) (C1 wi g tb) := ⟨Ao hp hc hi.h hg.h hb.h hs⟩
end
section
variable {X : Cx} {a b c : Expr} {ta tb tc : TE} {pos : Pos}
theorem zB {op : Operator} {r : R2} (ho : OpR X (binaryOp op) r) (ha : WE X a ta) (hb : WE X b tb) : WE X (.BinOp a op b pos) (tOp r ta tb) := ⟨Dc ho ha.h hb.h⟩
end
section
variable {X : Cx} {a b c : Expr} {ta tb tc : TE} {pos : Pos}
theorem lq {op : CmpOp} {r : R2} (ho : OpR X (compareOp op) r) (ha : WE X a ta) (hb : WE X b tb) (hm : behindInMarks op b = false) : WE X (.Compare a [op] [b] pos) (tOp r ta tb) := ⟨xS ho ha.h hb.h hm⟩
end
section
variable {X : Cx} {a b c : Expr} {ta tb tc : TE} {pos : Pos}
theorem tK {op : CmpOp} {r : R2} (ho : OpR X (compareOp op) r) (ha : WE X a ta) (hb : WE X b tb) (hm : behindInMarks op b = false) : WT X (.Compare a [op] [b] pos) (zM (tOp r ta tb)) := ⟨xE ho ha.h hb.h hm⟩
end
section
variable {X : Cx} {a b c : Expr} {ta tb tc : TE} {pos : Pos}
theorem qJ {op op' : CmpOp} {r r' : R2} (ho : OpR X (compareOp op) r) (ho' : OpR X (compareOp op') r') (ha : WE X a ta) (hb : WE X b tb) (hc : WE X c tc) (hm : lastMarks [op, op'] [b, c] = false := by with_unfolding_all rfl) : WE X (.Compare a [op, op'] [b, c] pos) (qV r r' ta tb tc) := ⟨uG ho ho' ha.h hb.h hc.h hm⟩
end
section
variable {X : Cx} {a b c : Expr} {ta tb tc : TE} {pos : Pos}
theorem mv (ha : WE X a ta) (hb : WE X b tb) (hs : lV b) : WE X (.Subscript a b pos) (tOp (fun x y H Q => ∃ z i c, x = .str z ∧ y = .int i ∧ 0 ≤ i ∧ i < 2 ^ 63 ∧ i < z.length ∧ z.cps[i.toNat]? = some c ∧ Q (.str ⟨#[c]⟩) H) ta tb) := ⟨nT ha.h hb.h hs⟩
end
section
variable {X : Cx} {o e value : Expr} {f : Str} {pos pos' tpos : Pos} {ta tv : TE}
theorem xc (he : WE X e ta) (hb : attributeBase e f X.env (eval e X.env) = eval e X.env) : WE X (.Attribute e f pos) (D5 X.K ta f) := ⟨AE he.h hb⟩
end
section
variable {X : Cx} {o e value : Expr} {f : Str} {pos pos' tpos : Pos} {ta tv : TE}
theorem wX (ha : WE X o ta) (hv : WE X value tv) (hs : swapsWith value (some (.Attribute o f pos')) pos.line X.env = pure false) : WS X (.Assign [.Attribute o f pos'] value pos) (D7 X.K ta tv f) := ⟨Ap ha.h hv.h hs⟩
end
section
variable {X : Cx} {e : Expr} {es : List Expr} {te : TE} {t : TA} {pos : Pos}
theorem gy  : WA X [] By := ⟨AH ⟩
end
section
variable {X : Cx} {e : Expr} {es : List Expr} {te : TE} {t : TA} {pos : Pos}
theorem dF (ha : WE X e te) (hr : WA X es t) (hs : starEach (e :: es) X.env = (false, eval e X.env) :: starEach es X.env := by rfl) : WA X (e :: es) (zS te t) := ⟨xV ha.h hr.h hs⟩
end
section
variable {X : Cx} {e : Expr} {es : List Expr} {te : TE} {t : TA} {pos : Pos}
theorem w9 {x1} (h : WA X es t) : WE X (.Tuple es x1 pos) (DZ t) := ⟨Aw h.h⟩
end
section
variable {X : Cx} {e : Expr} {es : List Expr} {te : TE} {t : TA} {pos : Pos}
theorem qI (h : WA X es t) : WE X (.List es pos) (D3 t) := ⟨AB h.h⟩
end
section
variable {X : Cx} {CX : CXT} {k : Nat} {f C : Addr} {fd : FuncData} {ps : List Str} {sp : Sp} {dvs : List V} {ds : List Value} {E : XK} {x m : Str} {p pos apos : Pos} {e o : Expr} {es : List Expr} {ta : TE} {t : TA}
theorem tR {pl : Sem Bool} (he : WE X o ta) (c : Cls X.K C) (hm : jY X.K C m f) (F : iU X.prog X.w X.K X.mg X.base CX k f fd ps sp) (hr : fi k X.A) (hb : dS X.K fd ps ds) (hd : b0 dvs ds) (hx : fT CX X E) (ha : WA X (e :: es) t) (hst : starEach (e :: es) X.env = (false, eval e X.env) :: starEach es X.env := by rfl) (hpl : (backTo pos (starEach es X.env)).any (·.1) = false := by rfl) (ht : eval (.Call (.Attribute o m apos) (e :: es) [] pos) X.env = (do
   let ov ← eval o X.env
   standAt apos.atName
   let (f, first) ← holding [ov] (getMethod ov m pl)
   callWith pos f first (backTo pos (starEach (e :: es) X.env)) (backToKw pos (keywordEach [] X.env))) := by rfl) : WE X (.Call (.Attribute o m apos) (e :: es) [] pos) (qU C m sp dvs E ta t) := ⟨xP he.h c hm F hr hb hd hx ha.h hst hpl ht⟩
end
section
variable {X : Cx} {CX : CXT} {k : Nat} {f C : Addr} {fd : FuncData} {ps : List Str} {sp : Sp} {dvs : List V} {ds : List Value} {E : XK} {x m : Str} {p pos apos : Pos} {e o : Expr} {es : List Expr} {ta : TE} {t : TA}
theorem qH {pl : Sem Bool} (he : WE X o ta) (c : Cls X.K C) (hm : jY X.K C m f) (F : iU X.prog X.w X.K X.mg X.base CX k f fd ps sp) (hr : fi k X.A) (hb : dS X.K fd ps ds) (hd : b0 dvs ds) (hx : fT CX X E) (ht : eval (.Call (.Attribute o m apos) [] [] pos) X.env = (do
   let ov ← eval o X.env
   standAt apos.atName
   let (f, first) ← holding [ov] (getMethod ov m pl)
   callWith pos f first (backTo pos (starEach [] X.env)) (backToKw pos (keywordEach [] X.env))) := by rfl) : WE X (.Call (.Attribute o m apos) [] [] pos) (qU C m sp dvs E ta By) := ⟨uF he.h c hm F hr hb hd hx ht⟩
end
section
variable {X : Cx} {CX : CXT} {k : Nat} {f C : Addr} {fd : FuncData} {ps : List Str} {sp : Sp} {dvs : List V} {ds : List Value} {E : XK} {x m : Str} {p pos apos : Pos} {e o : Expr} {es : List Expr} {ta : TE} {t : TA}
theorem tV (M : Mk X.K C f) (F : iU X.prog X.w X.K X.mg X.base CX k f fd ps sp) (hr : fi (k + 1) X.A) (hg : Gl X x) (hm : X.mg x = some (.ref C)) (hb : dS X.K fd ps ds) (hd : b0 dvs ds) (hx : fT CX X E) (ha : WA X (e :: es) t) (hdb : (x == ("__debug__" : Str)) = false := by decide) (he : starEach (e :: es) X.env = (false, eval e X.env) :: starEach es X.env := by rfl) (hpl : (backTo pos (starEach es X.env)).any (·.1) = false := by rfl) : WE X (.Call (.Name x p) (e :: es) [] pos) (xn C sp dvs E t) := ⟨xQ M F hr hg hm hb hd hx ha.h hdb he hpl⟩
end
section
variable {X : Cx} {x : Str} {p pos : Pos} {e : Expr} {es : List Expr} {t : TA} {id T : String} {r : List V → Hp → VK → Prop}
theorem mw (hc : eA X (.builtin id) r) (hg : Gl X x) (hm : X.mg x = none) (hv : bootBuiltins x = some (.builtin id)) (ha : WA X (e :: es) t) (hn : x ≠ "__name__" := by decide) (hdb : (x == ("__debug__" : Str)) = false := by decide) (he : starEach (e :: es) X.env = (false, eval e X.env) :: starEach es X.env := by rfl) (hpl : (backTo pos (starEach es X.env)).any (·.1) = false := by rfl) : WE X (.Call (.Name x p) (e :: es) [] pos) (tCB r t) := ⟨uH hc hg hm hv ha.h hn hdb he hpl⟩
end
section
variable {X : Cx} {x : Str} {p pos : Pos} {e : Expr} {es : List Expr} {t : TA} {id T : String} {r : List V → Hp → VK → Prop}
theorem kM (hc : eA X (.type T) r) (hg : Gl X x) (hm : X.mg x = none) (hv : bootBuiltins x = some (.type T)) (ha : WA X (e :: es) t) (hn : x ≠ "__name__" := by decide) (hdb : (x == ("__debug__" : Str)) = false := by decide) (he : starEach (e :: es) X.env = (false, eval e X.env) :: starEach es X.env := by rfl) (hpl : (backTo pos (starEach es X.env)).any (·.1) = false := by rfl) : WE X (.Call (.Name x p) (e :: es) [] pos) (tCB r t) := ⟨rE hc hg hm hv ha.h hn hdb he hpl⟩
end
section
variable {X : Cx} {e : Expr} {te : TE} {lo hi : Option Expr} {tl th : TO} {pos p2 : Pos}
theorem oT  : WO X none qT := ⟨xK ⟩
end
section
variable {X : Cx} {e : Expr} {te : TE} {lo hi : Option Expr} {tl th : TO} {pos p2 : Pos}
theorem oS (h : WE X e te) : WO X (some e) (zN te) := ⟨xJ h.h⟩
end
section
variable {X : Cx} {e : Expr} {te : TE} {lo hi : Option Expr} {tl th : TO} {pos p2 : Pos}
theorem mr {r : V → Option Int → Option Int → Hp → VK → Prop} (hr : SlR X r) (he : WE X e te) (hl : WO X lo tl) (hu : WO X hi th) : WE X (.Subscript e (.Slice lo hi none p2) pos) (tSl r te tl th) := ⟨uE hr he.h hl.h hu.h⟩
end
section
variable {X : Cx} {a b : Expr} {ta tb : TE} {pos : Pos}
theorem zC {r : R2} (hr : IxR X r) (ha : WE X a ta) (hb : WE X b tb) (hs : oK b) : WE X (.Subscript a b pos) (tOp r ta tb) := ⟨Dd hr ha.h hb.h hs⟩
end
section
variable {X : Cx} {a b : Expr} {ta tb : TE} {pos : Pos}
variable {o e : Expr} {es : List Expr} {to : TE} {t : TA} {name : Str} {apos cpos : Pos} {T id : String} {r : V → List V → Hp → VK → Prop}
theorem oU (pa : PlainAttrs T) (slot : Slot T name id) (hty : typeOf (.builtin id) = pure (.type "method_descriptor")) (hm : MtR X id r) (ho : WE X o to) (ha : WA X (e :: es) t) (hbase : attributeBase o name X.env (eval o X.env) = eval o X.env := by rfl) (hfew : ((backTo cpos (starEach (e :: es) X.env)).all (fun x => !x.1) && (backToKw cpos (keywordEach [] X.env)).all (fun x => x.1.isSome)
   && decide ((e :: es).length + ([] : List Keyword).length + (if ([] : List Keyword).isEmpty then 0 else 1) < 30)) = true := by rfl) (hline : (apos.endLine == cpos.line) = true := by rfl) (hs : starEach (e :: es) X.env = (false, eval e X.env) :: starEach es X.env := by rfl) (hplain : (backTo cpos (starEach es X.env)).any (·.1) = false := by rfl) : WE X (.Call (.Attribute o name apos) (e :: es) [] cpos) (tBM X.K T r to t) := ⟨De pa slot hty hm ho.h ha.h hbase hfew hline hs hplain⟩
end
section
variable {X : Cx} {o i e value : Expr} {pos pos' tpos : Pos} {td ty tv : TE}
theorem tY (hu : X.A.units + 1 < cLine) (ho : WE X o td) (hi : WE X i ty) (hs : BN i) : WE X (.Subscript o i pos) (zR td ty) := ⟨xR hu ho.h hi.h hs⟩
end
section
variable {X : Cx} {o i e value : Expr} {pos pos' tpos : Pos} {td ty tv : TE}
theorem pS (hu : X.A.units + 1 < cLine) (hi : WE X i ty) (ho : WE X o td) : WC X .NotIn i o (nO ty td) := ⟨rF hu hi.h ho.h⟩
end
section
variable {X : Cx} {o i e value : Expr} {pos pos' tpos : Pos} {td ty tv : TE}
theorem tN (hu : X.A.units + 1 < cLine) (ho : WE X o td) (hi : WE X i ty) (hv : WE X value tv) (hs : swapsWith value (some (.Subscript o i pos')) pos.line X.env = pure false) : WS X (.Assign [.Subscript o i pos'] value pos) (zX td ty tv) := ⟨xI hu ho.h hi.h hv.h hs⟩
end
section
variable {X : Cx}
theorem wpv (i : Nat) {x : Str} {pos : Pos} (hN : X.N[i]? = some x := by rfl) (hv : Vis X.env.scope x := by first | exact Or.inl rfl | exact Or.inr (Or.inl rfl) | exact Or.inr (Or.inr rfl)) (hd : (x == ("__debug__" : Str)) = false := by decide) (hcd : (x == ("__classdict__" : Str)) = false := by decide) : WE X (.Name x pos) (Bx i) := ⟨pv i hN hv hd hcd⟩
end
theorem WW.pt {X : Cx} {e : Expr} {t : TT} (h : WW X e t) : WT X e t := ⟨h.h.pt⟩
section
variable {X : Cx} {a b c e : Expr} {ta tb tc : TE} {pos : Pos}
noncomputable def qw (i j : Int) : Prop := 0 < j ∧ j.natAbs.log2 < 9000
theorem lI : OpR X (binaryOp .FloorDiv) (rI qw fun i j => .int (i / j)) := opI fun i j _ _ _ _ _ hc q => by
 refine PyProof.Rows.floordiv_int (by have := hc.1; omega) ?_ (.inl (PyProof.noPylong_of_log2 hc.2))
 rw [Int.fdiv_eq_ediv_of_nonneg i (Int.le_of_lt hc.1)]
 exact q
theorem oH : eA X (.builtin "isinstance") (fun xs H Q => ∃ (x : V) (T : String) (t : Value) (k : Bool), xs = [x, .ty T] ∧ pJ X.K H x t ∧ PySem.W.kitOne X.K t (.type T) = some k ∧ Q (.bl k) H) := by
 rintro pins s σ H xs us Q I r ⟨x, T, t, k, rfl, ty, e, q⟩
 obtain ⟨u, w', rfl, ru, rw'⟩ := t7 r
 cases rw'
 exact sh I ru ty e fun tk => ⟨.bl k, H, I.tok tk, rfl, q⟩
end
theorem dG {H : Hp} {p : Addr} (h : H p = none) (o : HO) : pK H (upd H p o) := fun b u q => by rw [bL (cf q h)]; exact q
noncomputable def Def (K : PySem.W.Frag) (mg : Str → Option Value) (x : Str) (st : Stmt) (ps : List Str) : Prop :=
 ∃ f fd, Fun K x x st f fd ∧ dS K fd ps [] ∧ mg x = some (.ref f)
noncomputable def Has (P : Program) (w : World) (K : PySem.W.Frag) (mg : Str → Option Value) (base : Heap) (x : Str) (k : Nat) (ps : List Str) (sp : Sp) : Prop :=
 ∃ f fd, iU P w K mg base CX0 k f fd ps sp ∧ dS K fd ps [] ∧ PySem.W.keepIn K (.ref f) = true ∧ mg x = some (.ref f)
section
variable {P : Program} {w : World} {K : PySem.W.Frag} {mg : Str → Option Value} {base : Heap} {x : Str} {st : Stmt} {ps N : List Str} {k j : Nat} {sp sp' : Sp}
theorem Has.mono (h : Has P w K mg base x j ps sp) (l : j ≤ k) : Has P w K mg base x k ps sp := by
 obtain ⟨f, fd, a, b, c, d⟩ := h
 exact ⟨f, fd, a.mono l, b, c, d⟩
theorem Def.has (d : Def K mg x st ps) (S : aU N ps (ao st)) (len : ∀ vs H Q E, sp vs H Q E → vs.length = ps.length)
  (hbody : ∀ (f : Addr) (cdv : Value) (A : Around) (outer : List Env) (s : Shared) (H : Hp) (vs : List V) (Q : VK) (E : XK), fi k (A.deeper (envOfC x (ao st) s.heap.objs.size f cdv)) → sp vs H Q E →
   ∃ t, WSs (qx CX0 P w K mg base N x (ao st) f cdv A outer s H E).nox (aR st) t ∧ t { nx := fun _ H' => Q .non H', rt := Q } (gm N vs) H) : Has P w K mg base x (k + 1) ps sp := by
 obtain ⟨f, fd, F, b, m⟩ := d
 exact ⟨f, fd, F.ok S len (fun cdv A outer s H vs Q E hr h => let ⟨t, a, b⟩ := hbody f cdv A outer s H vs Q E hr h; ⟨t, a.h, b⟩), b, F.kp, m⟩
theorem Def.none (d : Def K mg x st ps) (no : ∀ vs H Q E, ¬ sp vs H Q E) : Has P w K mg base x k ps sp := by
 obtain ⟨f, fd, F, b, m⟩ := d
 exact ⟨f, fd, ⟨fun vs H Q E h => absurd h (no vs H Q E), fun A outer s H args us vs Q E _ _ _ _ h => absurd h (no vs H Q E)⟩, b, F.kp, m⟩
end
theorem vA {X : Cx} {k : Nat} {ps : List Str} {sp : Sp} {x : Str} {p pos : Pos} {e : Expr} {es : List Expr} {t : TA} (F : Has X.prog X.w X.K X.mg X.base x k ps sp) (hr : fi k X.A) (hg : Gl X x)
  (ha : WA X (e :: es) t) (hdb : (x == ("__debug__" : Str)) = false := by decide) (he : starEach (e :: es) X.env = (false, eval e X.env) :: starEach es X.env := by rfl) (hpl : (backTo pos (starEach es X.env)).any (·.1) = false := by rfl) :
  WE X (.Call (.Name x p) (e :: es) [] pos) (zT sp [] E0 t) := by
 obtain ⟨f, fd, a, b, c, d⟩ := F
 exact ⟨xT a hr hg d c b .nil uJ ha.h hdb he hpl⟩
structure Blt (mg : Str → Option Value) : Prop where
 len : mg "len" = none
 isinstance : mg "isinstance" = none
 int : mg "int" = none
 bool : mg "bool" = none
 str : mg "str" = none
 tuple : mg "tuple" = none
 list : mg "list" = none
 range : mg "range" = none
 min : mg "min" = none
 sum : mg "sum" = none
 all : mg "all" = none
 zip : mg "zip" = none
 sorted : mg "sorted" = none
 dict : mg "dict" = none
 enumerate : mg "enumerate" = none
 any : mg "any" = none
 max : mg "max" = none
 set : mg "set" = none
theorem vF {n : Nat} (h : n ≤ 1000) : n ≤ sizeLine := Nat.le_of_lt (q0 h)
theorem qe {n : Nat} (h : n < 2 ^ 60) : n.log2 < 1920 := by
 by_cases e : n = 0
 ·subst e; decide
 ·have := (Nat.log2_lt e).mpr h; omega
theorem vf (ns : List Int) (lo hi : Option Int) : sN (ns.map V.int) lo hi = ((ns.drop (HT.sIx (ns.map V.int).length 0 lo)).take (HT.sIx (ns.map V.int).length (ns.map V.int).length hi - HT.sIx (ns.map V.int).length 0 lo)).map V.int := by
 unfold sN
 rw [List.map_take, List.map_drop]
noncomputable def uf (K : PySem.W.Frag) : Sp := fun vs H Q _ => ∃ (a : Addr) (ns : List Int), vs = [.ref a] ∧ SqL K H a (ns.map V.int) ∧ ns.length ≤ 63 ∧ ∀ H', Q (.bl true) H'
theorem lU : bootBuiltins "int" = some (.type "int") := rfl
theorem jW : bootBuiltins "bool" = some (.type "bool") := rfl
theorem iR : bootBuiltins "str" = some (.type "str") := rfl
theorem eU : bootBuiltins "tuple" = some (.type "tuple") := rfl
theorem jU : bootBuiltins "list" = some (.type "list") := rfl
theorem jV : bootBuiltins "isinstance" = some (.builtin "isinstance") := rfl
theorem vo : bootBuiltins "min" = some (.builtin "min") := rfl
theorem vt : bootBuiltins "all" = some (.builtin "all") := rfl
theorem fj {X : Cx} {x : Str} {T : String} {pos : Pos} (hg : Gl X x) (hm : X.mg x = none) (hv : bootBuiltins x = some (.type T)) (hn : x ≠ "__name__" := by decide) (hd : (x == ("__debug__" : Str)) = false := by decide) : WE X (.Name x pos) (tC (.ty T)) :=
 ⟨xU hg hm hv rfl hn hd⟩
theorem iL {X : Cx} {x : Str} {i : Int} {pos : Pos} (hg : Gl X x) (hm : ∃ t, X.mg x = some (.int i t)) (hd : (x == ("__debug__" : Str)) = false := by decide) : WE X (.Name x pos) (tC (.int i)) := by
 obtain ⟨t, hm⟩ := hm
 exact ⟨nU hg hm ⟨t, rfl⟩ hd⟩
theorem Bt {α : Type} {xs : List α} {k : Int} {v : α} (h0 : 0 ≤ k) (h : xs[k.toNat]? = some v) : atI xs k = some v := by
 have ek : k = ((k.toNat : Nat) : Int) := by omega
 rw [ek]; exact gO h
theorem Fun.okW {P : Program} {w : World} {K : PySem.W.Frag} {mg : Str → Option Value} {base : Heap} {x qual : Str} {st : Stmt} {f : Addr} {fd : FuncData} {N ps : List Str} {k : Nat} {sp : Sp} (F : Fun K x qual st f fd) (S : aU N ps (ao st)) (len : ∀ vs H Q E, sp vs H Q E → vs.length = ps.length)
  (hbody : ∀ (cdv : Value) (A : Around) (outer : List Env) (s : Shared) (H : Hp) (vs : List V) (Q : VK) (E : XK), fi k (A.deeper (envOfC qual (ao st) s.heap.objs.size f cdv)) → sp vs H Q E →
   ∃ t, WSs (qx CX0 P w K mg base N qual (ao st) f cdv A outer s H E).nox (aR st) t ∧ t { nx := fun _ H' => Q .non H', rt := Q } (gm N vs) H) : iU P w K mg base CX0 (k + 1) f fd ps sp :=
 F.ok S len fun cdv A outer s H vs Q E hr h => let ⟨t, a, b⟩ := hbody cdv A outer s H vs Q E hr h; ⟨t, a.h, b⟩
noncomputable def wj (env : Env) : List (Str × Addr) → Prop
 | [] => True
 | p :: r => env.cells.lookup p.1 = some p.2 ∧ wj env r
theorem wj.look {env : Env} : ∀ {cl : List (Str × Addr)} {y : Str} {c : Addr}, wj env cl → cl.lookup y = some c → env.cells.lookup y = some c
 | [], _, _, _, h => by simp at h
 | (n, d) :: r, y, c, a, h => by
  obtain ⟨a1, a2⟩ := a
  rw [List.lookup_cons] at h
  by_cases e : (y == n) = true
  ·rw [e] at h
   have e' : y = n := by simpa using e
   subst e'
   cases h
   exact a1
  ·have e' : (y == n) = false := by simpa using e
   rw [e'] at h
   exact wj.look a2 h
noncomputable abbrev cxC (X : Cx) (Nc : List Str) (scope : Scope) (cl : List (Str × Addr)) (s3 : Shared) (H3 : Hp) (fp : List Addr) : Cx where
 prog := X.prog
 w := X.w
 K := X.K
 mg := X.mg
 base := X.base
 A := X.A
 N := Nc
 s₀ := s3
 H₀ := H3
 env := compEnvC scope cl s3.heap.objs.size X.env
 outer := X.stack
 stack := X.stack
 ex := fp
 fn := fun _ => false
 calm := X.calm
 pn := []
 xe := fun _ _ => False
noncomputable def stC (n : Nat) (caps : List Nat) (σ : L2.St) : L2.St := List.replicate n none ++ caps.map fun i => (σ[i]?).getD none
noncomputable def xo (wi : TI) (g : TG) (te : TE) (n : Nat) (caps : List Nat) : TE := fun σ H Q => wi σ H fun J H1 => ∀ l, H1 l = none → ∃ W : Nat → Nat → L2.St → Hp → Prop, (∃ m, W 0 m (stC n caps σ) (upd H1 l (.lst []))) ∧
 ∀ i m σ' H2, W i m σ' H2 → (J.stop i H2 ∧ Q (.ref l) H2) ∨ (J.go i H2 ∧ ∃ N : L2.St → Hp → Prop, (∀ σ'' H', N σ'' H' → ∃ m', m' < m ∧ W (i + 1) m' σ'' H') ∧
  ∀ x H3, J.yld i H2 x H3 → g x σ' H3 fun σ2 H4 => te σ2 H4 fun v H5 => ∃ ys, H5 l = some (.lst ys) ∧ ys.length < sizeLine ∧ N σ2 (upd H5 l (.lst (ys ++ [v]))))
theorem nc {prog : Program} {w : World} {A : Around} {R : Result → Shared → Prop} {s : Shared} {elt target iter : Expr} {scope : Scope} {pos : Pos} {it acc : Value} {env : Env} (I : Nat → Shared → Prop)
  (turn : ∀ n s, I n s → wpAny (model prog w) A (pyNext it) (fun r s₁ => match r with
   | none => R (.ok .next) s₁
   | some v => wpAny (model prog w) A (letOwnedTupleGo target it v) (fun _ s₁' => wpAny (model prog w) A (assign target env v) (fun _ s₂ => wpAny (model prog w) A (eval elt env) (fun x s₃ =>
     wpAny (model prog w) A (call (.builtin "list.append") [acc, x]) (fun _ s₄ => ∃ m, m < n ∧ I m s₄) (fun _ _ => False) s₃)
     (fun _ _ => False) s₂) (fun _ _ => False) s₁') (fun _ _ => False) s₁) (fun _ _ => False) s)
  (n : Nat) (h : I n s) :
  codeAny (model prog w) A (.compLoop (.ListComp elt [⟨target, iter, [], 0⟩] scope pos) 0 it acc env) R s := by
 refine codeAny_loop rfl I (fun n s hI => ?_) n h
 show wpAny _ _ ((compTurn (.ListComp elt [⟨target, iter, [], 0⟩] scope pos) 0 it acc env).onRaise (fun x => do noteFrame x env; theTreesLotGoes x)) _ _ s
 refine wpAny_noted ?_
 rw [compTurn_list1]
 refine wpAny_bind (wpAny_standAt (wpAny_bind (wpAny_mono (turn n s hI) (fun r s₁ h₁ => ?_) fun _ _ h' => h'.elim)))
 cases r with
 | none => exact wpAny_pure h₁
 | some v =>
  refine wpAny_bind (wpAny_mono h₁ (fun _ s₁' h₁' => ?_) fun _ _ h' => h'.elim)
  exact wpAny_bind (wpAny_mono h₁' (fun _ s₂ h₂ => wpAny_bind (wpAny_bind (wpAny_mono h₂ (fun x s₃ h₃ => wpAny_bind (wpAny_mono h₃
   (fun _ s₄ h₄ => wpAny_pure (wpAny_pure ⟨rfl, h₄⟩)) fun _ _ h' => h'.elim)) fun _ _ h' => h'.elim))) fun _ _ h' => h'.elim)
section
variable {X : Cx} {pins : List (Addr × Obj)} {σ : L2.St} {H : Hp} {s : Shared} {Nc capN : List Str} {scope : Scope} {cl : List (Str × Addr)} {fp : List Addr} {n : Nat} {caps : List Nat} {tg iter elt : Expr} {pos : Pos} {wi : TI} {g : TG} {te : TE}
noncomputable def Cap (X : Cx) (scope : Scope) (cl : List (Str × Addr)) (i : Nat) (y : Str) : Prop := X.N[i]? = some y ∧ X.env.scope.names.lookup y = some .cell ∧ (relabel scope X.env).names.lookup y = some .cell ∧ ∃ c, cl.lookup y = some c
theorem Inv.comp {h1 : Heap} {t' : Nat} (I : Inv X pins σ H s) (hc : X.calm = true) (f2 : ∀ b ∈ fp, tu X pins H b) (fo : ∀ b ∈ fp, b < s.heap.objs.size) (hkind : scope.kind = .function) (hcl : wj X.env cl)
  (hhas : ((relabel scope X.env).names.all fun p => !(p.2 == .cell || p.2 == .free) || (cl.lookup p.1).isSome) = true)
  (hcap : Paired (Cap X scope cl) caps capN) (tn : List Str) (hN : Nc = tn ++ capN) (hn : tn.length = n)
  (hns : h1.Ns s.heap.objs.size (fun _ => none)) (hk : ∀ b o, s.heap.get? b = some o → h1.get? b = some o) :
  Inv (cxC X Nc scope cl s H fp) [] (stC n caps σ) H { s with heap := h1, toks := t' } := by
 have lkc : ∀ y c, cl.lookup y = some c → X.env.cells.lookup y = some c := fun y c e => hcl.look e
 refine ⟨⟨I.ok.mod, ?_, I.ok.glob, I.ok.blt, Nat.le_refl _, fun x y c a b => I.ok.inj x y c (lkc _ _ a) (lkc _ _ b), fun x hx => ?_, fun x c z => (nomatch z), I.ok.hd, I.ok.frames, .inl rfl, fun b hb => ⟨Nat.ne_of_lt (fo b hb), fun x c e => (f2 b hb).2.2.2.2.1 x c (lkc _ _ e)⟩, I.bs, Nat.le_trans I.ok.bsz I.sz,
  fun b o e hb => ?_, fun b hb z => ?_, I.stack, I.stkFree⟩, rfl, I.bare, Un.kept hk, ⟨_, hns, fun i y v h1' h2 h3 => ?_⟩, fun y c e => ?_, I.hok.fresh (Nat.le_refl _), fun y c e => I.freeC y c (lkc _ _ e), fun p hp => (by simp at hp), I.hok.kept hk, ?_⟩
 ·exact hkind
 ·have hx' : (relabel scope X.env).names.lookup x = some .cell ∨ (relabel scope X.env).names.lookup x = some .free := hx
  have mem : ∀ {k}, (relabel scope X.env).names.lookup x = some k → (x, k) ∈ (relabel scope X.env).names := fun {k} e => by
   generalize (relabel scope X.env).names = L at e
   induction L with
   | nil => simp at e
   | cons p r ih =>
    obtain ⟨a, b⟩ := p
    rw [List.lookup_cons] at e
    by_cases q : (x == a) = true
    ·rw [q] at e; cases e
     have : x = a := by simpa using q
     subst this; exact List.mem_cons_self
    ·rw [show (x == a) = false by simpa using q] at e
     exact List.mem_cons_of_mem _ (ih e)
  have fin : ∀ {k}, (k = NameKind.cell ∨ k = .free) → (relabel scope X.env).names.lookup x = some k → ∃ c, cl.lookup x = some c := fun {k} hk' e => by
   have := List.all_eq_true.mp hhas _ (mem e)
   dsimp only at this
   have q : (cl.lookup x).isSome = true := by
    rcases hk' with z | z <;> subst z <;> simpa using this
   exact Option.isSome_iff_exists.mp q
  rcases hx' with e | e
  ·exact fin (.inl rfl) e
  ·exact fin (.inr rfl) e
 ·rcases (f2 b hb).2.2.2.1 with z | z
  ·exact I.ok.noex b o e z
  ·exact absurd (Nat.lt_of_lt_of_le (Heap.lt_size e) I.ok.bsz) (Nat.not_lt.mpr z)
 ·rcases List.mem_cons.mp (I.stkSub b z) with q | q
  ·exact (f2 b hb).2.1 q
  ·exact (f2 b hb).2.2.1 q
 ·obtain ⟨m, hm, hl⟩ := I.loc
  have h2' : (stC n caps σ)[i]? = some (some v) := h2
  have h1'' : Nc[i]? = some y := h1'
  unfold stC at h2'
  by_cases hi : i < n
  ·rw [List.getElem?_append_left (by simpa using hi), List.getElem?_replicate, if_pos hi] at h2'
   cases h2'
  ·rw [List.getElem?_append_right (by simp; omega), List.length_replicate, List.getElem?_map] at h2'
   rw [hN, List.getElem?_append_right (by omega), hn] at h1''
   have key : ∀ (j : Nat) {caps : List Nat} {capN : List Str}, Paired (Cap X scope cl) caps capN → capN[j]? = some y → (Option.map (fun i => (σ[i]?).getD none) caps[j]?) = some (some v) → ∃ k, Cap X scope cl k y ∧ σ[k]? = some (some v) := by
    intro j
    induction j with
    | zero =>
     intro caps capN P e1 e2
     cases P with
     | nil => simp at e1
     | @cons a b l r p t =>
      simp at e1 e2
      subst e1
      cases q : σ[a]? with
      | none => rw [q] at e2; simp at e2
      | some w' => rw [q] at e2; simp at e2; subst e2; exact ⟨a, p, q⟩
    | succ j ih =>
     intro caps capN P e1 e2
     cases P with
     | nil => simp at e1
     | cons p t => exact ih t (by simpa using e1) (by simpa using e2)
   obtain ⟨k, ⟨c1, c2, c3, c, c4⟩, e⟩ := key _ hcap h1'' h2'
   obtain ⟨u, r, lk⟩ := hl k y v c1 e (.inr (.inl c2))
   refine ⟨u, r, .inr ⟨.inl c3, c, c4, ?_⟩⟩
   rcases lk with ⟨z, _⟩ | ⟨_, c', e', o, ho, hd⟩
   ·have z' : X.env.scope.names.lookup y = some .local := z
    rw [c2] at z'; cases z'
   ·rw [lkc _ _ c4] at e'
    cases e'
    exact ⟨o, hk _ _ ho, hd⟩
 ·obtain ⟨v, o, ho, hd⟩ := I.cell y c (lkc _ _ e)
  exact ⟨v, o, hk _ _ ho, hd⟩
 ·show (stC n caps σ).length = Nc.length
  have pl : caps.length = capN.length := Paired.length hcap
  unfold stC
  rw [List.length_append, List.length_replicate, List.length_map, hN, List.length_append, hn, pl]
end
theorem vh {X : Cx} {Nc capN tn : List Str} {scope : Scope} {cl : List (Str × Addr)} {n : Nat} {caps : List Nat} {tg iter elt : Expr} {pos : Pos} {wi : TI} {g : TG} {te : TE}
  (hc : X.calm = true) (hi : WI X tg iter wi) (hg : ∀ s3 H3 fp, WG (cxC X Nc scope cl s3 H3 fp) tg g) (he : ∀ s3 H3 fp, WE (cxC X Nc scope cl s3 H3 fp) elt te)
  (hclos : closureFor scope X.env = pure cl) (hkind : scope.kind = .function) (hnl : ∀ x ∈ scope.names, x.2 = .local → scope.names.lookup x.1 = some .local) (hcell : ∀ x ∈ scope.names, x.2 ≠ .cell)
  (hcl : wj X.env cl) (hhas : ((relabel scope X.env).names.all fun p => !(p.2 == .cell || p.2 == .free) || (cl.lookup p.1).isSome) = true)
  (hcap : Paired (Cap X scope cl) caps capN) (hN : Nc = tn ++ capN) (hn : tn.length = n)
  {use : Option (Value → Sem Unit)} {pins : List (Addr × Obj)} {σ : L2.St} {H : Hp} {s : Shared} {Q : VK} {Qf : Value → Shared → Prop} (I : Inv X pins σ H s) (h : xo wi g te n caps σ H Q)
  (hend : ∀ (D C : Addr) (s6 : Shared) (H5 : Hp) (m : Str → Option Value), Inv X pins σ H5 s6 → s6.heap.Ns C m → H5 C = none → C ≠ X.env.locals → X.s₀.heap.objs.size ≤ C → (∀ x c, X.env.cells.lookup x = some c → c ≠ C) → (∀ p ∈ X.pn ++ pins, p.1 ≠ C) → Q (.ref D) H5 → compPost (model X.prog X.w) X.A X.xe use Qf (.ref D) C (.ok .next) s6)
  (hs : ∀ x, foldedSetIterable iter X.env x = pure x) :
  wpAny (model X.prog X.w) X.A (comprehension (.ListComp elt [⟨tg, iter, [], 0⟩] scope pos) scope X.env (firstIterPos [⟨tg, iter, [], 0⟩] pos) (newList []) (firstAsync [⟨tg, iter, [], 0⟩]) (firstIter [⟨tg, iter, [], 0⟩] X.env) use) Qf X.xe s := by
 refine wpAny_comprehension_free (use := use) (g := ⟨tg, iter, [], 0⟩) (gs := []) rfl hs hclos hkind hnl (thn (hi.h pins s σ H _ I h) fun v s1 h1 => thn h1 fun itv s2 h2 => ?_)
 obtain ⟨it, fp, tnn, J, H2, rfl, I2, T, st2, f2, hW⟩ := h2
 have hD := I2.fresh
 obtain ⟨W, ⟨m0, w0⟩, turn⟩ := hW _ hD
 refine wpAny_newObj_type (wpAny_newFunctionEnv hcell (by intro y hy; simp at hy) (fun h₁ hns₁ hsb₁ => ?_) hkind)
 dsimp only at hns₁ hsb₁ ⊢
 have I3 : Inv X pins σ (upd H2 s2.heap.objs.size (.lst [])) { s2 with heap := s2.heap.push { cls := .type "list", dict := none, data := .seq ([] : List Value).toArray }, toks := s2.toks } := I2.lnew (its := []) .nil (Nat.zero_le _)
 generalize hs3 : ({ s2 with heap := s2.heap.push { cls := .type "list", dict := none, data := .seq ([] : List Value).toArray }, toks := s2.toks } : Shared) = s3 at I3
 have es3 : s3.heap = s2.heap.push { cls := .type "list", dict := none, data := .seq ([] : List Value).toArray } := by rw [← hs3]
 generalize hDD : s2.heap.objs.size = D at *
 have kept : ∀ b o, s3.heap.get? b = some o → h₁.get? b = some o := fun b o e => by
  have lt := Heap.lt_size e
  rw [es3] at lt e
  exact hsb₁.extBut b o (Nat.ne_of_lt lt) (Heap.get?_push_of_some _ e)
 have old : ∀ b o, s2.heap.get? b = some o → s3.heap.get? b = some o := fun b o e => by rw [es3]; exact Heap.get?_push_of_some _ e
 have ltD : ∀ b ∈ fp, b < D := fun b hb => by
  obtain ⟨o, e, _⟩ := T.obj 0 _ st2 b hb
  rw [← hDD]; exact Heap.lt_size e
 have fo : ∀ b ∈ fp, b < s3.heap.objs.size := fun b hb => by
  obtain ⟨o, e, _⟩ := T.obj 0 _ st2 b hb
  exact Heap.lt_size (old _ _ e)
 have f3 : ∀ b ∈ fp, tu X pins (upd H2 D (.lst [])) b := fun b hb => by
  refine ⟨?_, (f2 b hb).2⟩
  rw [bL (Nat.ne_of_lt (ltD b hb))]
  exact (f2 b hb).1
 rw [← es3] at hns₁ hsb₁ ⊢
 have Ic := fun t' => Inv.comp (h1 := h₁) (t' := t') (Nc := Nc) (n := n) I3 hc f3 fo hkind hcl hhas hcap tn hN hn hns₁ kept
 have stat : ∀ {H' : Hp}, (∀ b ∈ fp, H' b = none) → ∀ b ∈ fp, tu (cxC X Nc scope cl s3 (upd H2 D (.lst [])) fp) [] H' b := fun hn' b hb => by
  refine ⟨hn' b hb, Nat.ne_of_lt (fo b hb), fun z => ?_, .inl hb, fun x c e => (f2 b hb).2.2.2.2.1 x c (hcl.look e), fun p hp => (by simp at hp)⟩
  rcases List.mem_cons.mp (I3.stkSub b z) with q | q
  ·exact (f2 b hb).2.1 q
  ·exact (f2 b hb).2.2.1 q
 have loop : ∀ s4 : Shared, (∃ t', s4 = { s3 with heap := h₁, toks := t' }) → codeAny (model X.prog X.w) X.A (.compLoop (.ListComp elt [⟨tg, iter, [], 0⟩] scope pos) 0 (.ref it) (.ref D) (compEnvC scope cl s3.heap.objs.size X.env))
   (compPost (model X.prog X.w) X.A X.xe use Qf (.ref D) s3.heap.objs.size) s4 := by
  rintro s4 ⟨t', rfl⟩
  refine nc (fun n' s' => ∃ i σ' H', Inv (cxC X Nc scope cl s3 (upd H2 D (.lst [])) fp) [] σ' H' s' ∧ tnn i s'.heap ∧ (∀ b ∈ fp, H' b = none) ∧ W i n' σ' H') ?_ m0
   ⟨0, _, _, Ic t', T.keep 0 _ _ st2 fun b hb o e => kept _ _ (old _ _ e), fun b hb => (f3 b hb).1, w0⟩
  rintro n' s5 ⟨i, σ5, H5, I5, st5, fr5, w5⟩
  rcases turn i n' σ5 H5 w5 with ⟨stop, qn⟩ | ⟨go, N, hN', step⟩
  ·refine thn (T.done (cxC X Nc scope cl s3 (upd H2 D (.lst [])) fp) rfl rfl rfl hc i [] s5 σ5 H5 (fun _ _ => False) I5 (stat fr5) st5 stop) fun r s6 ⟨hr, I6⟩ => ?_
   subst hr
   obtain ⟨m, hm, _⟩ := I6.loc
   have I7 : Inv X pins σ H5 s6 := Inv.call' (ch := fp) I3 I6.os I6.base I6.hok I6.bare fun b hb => ⟨(f2 b hb).2.2.2.1, (f2 b hb).2.1, (f2 b hb).2.2.2.2.1, (f2 b hb).2.2.2.2.2⟩
   exact hend D _ s6 H5 m I7 hm I6.free (Ne.symm (Nat.ne_of_lt I3.lt)) I3.sz (fun x c e => by
     obtain ⟨v', o, ho, _⟩ := I3.cell x c e
     exact Nat.ne_of_lt (Heap.lt_size ho)) (fun p hp => Nat.ne_of_lt (Heap.lt_size (I3.pin p hp).1)) qn
  ·refine thn (T.item (cxC X Nc scope cl s3 (upd H2 D (.lst [])) fp) rfl rfl rfl hc i [] s5 σ5 H5 (fun _ _ => False) I5 (stat fr5) st5 go) fun r s6 ⟨u, hr, h6⟩ => ?_
   subst hr
   refine thn h6 fun _ s7 hz => ?_
   obtain ⟨x, H7, I7, r7, y7, st7, fr7⟩ := hz
   have I7' := I7.pinned (stat fr7) (T.obj _ _ st7)
   refine thn ((hg s3 (upd H2 D (.lst [])) fp).h _ s7 σ5 H7 x u _ I7' r7 (step x H7 y7)) fun _ s8 hz => ?_
   obtain ⟨σ8, H8, I8, q8⟩ := hz
   refine thn ((he s3 (upd H2 D (.lst [])) fp).h _ s8 σ8 H8 _ I8 q8) fun v9 s9 hz => ?_
   obtain ⟨x9, H9, I9, r9, ys, hy, hlt, q9⟩ := hz
   refine thn (mV (X := cxC X Nc scope cl s3 (upd H2 D (.lst [])) fp) _ s9 σ8 H9 (.ref D) [x9] (.ref D) [v9] (fun _ H' => N σ8 H') I9 rfl (.cons r9 .nil) ⟨D, ys, x9, rfl, rfl, hy, hlt, q9⟩) fun _ s10 hz => ?_
   obtain ⟨_, H10, I10, _, q10⟩ := hz
   obtain ⟨m', hm, w10⟩ := hN' σ8 H10 q10
   refine ⟨m', hm, i + 1, σ8, H10, I10.unpinned, T.keep _ _ _ st7 fun b hb o e => (I10.pin (b, o) (List.mem_append_right _ (List.mem_append_right _ (fJ hb e)))).1, fun b hb => ?_, w10⟩
   obtain ⟨o, e, d⟩ := T.obj _ _ st7 b hb
   exact (I10.pin (b, o) (List.mem_append_right _ (List.mem_append_right _ (fJ hb e)))).2.1
 have e4 : ∀ t', ({ s2 with heap := h₁, toks := t' } : Shared) = { s3 with heap := h₁, toks := t' } := fun t' => by rw [← hs3]
 refine codeAny_compStart_list (loop _ ⟨_, e4 _⟩) (T.self _ 0 _ _ _ (T.keep 0 _ _ st2 fun b hb o e => kept _ _ (old _ _ e)) (loop _ ⟨_, e4 _⟩))
theorem tZ {X : Cx} {Nc capN tn : List Str} {scope : Scope} {cl : List (Str × Addr)} {n : Nat} {caps : List Nat} {tg iter elt : Expr} {pos : Pos} {wi : TI} {g : TG} {te : TE}
  (hc : X.calm = true) (hi : WI X tg iter wi) (hg : ∀ s3 H3 fp, WG (cxC X Nc scope cl s3 H3 fp) tg g) (he : ∀ s3 H3 fp, WE (cxC X Nc scope cl s3 H3 fp) elt te)
  (hclos : closureFor scope X.env = pure cl) (hkind : scope.kind = .function) (hnl : ∀ x ∈ scope.names, x.2 = .local → scope.names.lookup x.1 = some .local) (hcell : ∀ x ∈ scope.names, x.2 ≠ .cell)
  (hcl : wj X.env cl) (hhas : ((relabel scope X.env).names.all fun p => !(p.2 == .cell || p.2 == .free) || (cl.lookup p.1).isSome) = true)
  (hcap : Paired (Cap X scope cl) caps capN) (hN : Nc = tn ++ capN) (hn : tn.length = n)
  (hs : ∀ x, foldedSetIterable iter X.env x = pure x := by intro _; rfl) :
  WE X (.ListComp elt [⟨tg, iter, [], 0⟩] scope pos) (xo wi g te n caps) := by
 constructor
 intro pins s σ H Q I h
 rw [eval_ListComp]
 refine vh hc hi hg he hclos hkind hnl hcell hcl hhas hcap hN hn I h (fun D C s6 H5 m I7 hm fr nl sz cn pn qn => ⟨m, hm, fun h' hs' => ?_⟩) hs
 exact ⟨.ref D, H5, I7.turned (t' := s6.toks) (it := C) (fun b o hb e => hs'.extBut b o hb e) fr nl (.inr sz) cn pn, rfl, qn⟩
section
variable {X : Cx}
theorem qQ : ∀ {bs : List Bool} {us : List Value} {i : Nat} {v : Value}, b0 (bs.map V.bl) us → us[i]? = some v → ∃ b, bs[i]? = some b ∧ v = .bool b
 | [], _, _, _, r, e => by cases r; simp at e
 | b :: bs, _, 0, _, .cons r _, e => by
  have r' : _ = Value.bool b := r
  simp at e; subst e; exact ⟨b, by simp, r'⟩
 | b :: bs, _, i + 1, v, .cons _ t, e => by
  obtain ⟨b', e1, e2⟩ := qQ (i := i) (v := v) t (by simpa using e)
  exact ⟨b', by simpa using e1, e2⟩
theorem vv (bs : List Bool) : (List.range bs.length).all (fun i => (bs[i]?).getD true) = bs.all id := by
 rw [Bool.eq_iff_iff, List.all_eq_true, List.all_eq_true]
 constructor
 ·intro h b hb
  obtain ⟨i, hi, e⟩ := List.mem_iff_getElem.mp hb
  have := h i (List.mem_range.mpr hi)
  rw [List.getElem?_eq_getElem hi, Option.getD_some, e] at this
  exact this
 ·intro h i hi
  have hi' := List.mem_range.mp hi
  have := h _ (List.getElem_mem hi')
  rw [List.getElem?_eq_getElem hi', Option.getD_some]
  exact this
theorem yb {h : Heap} {b : Addr} {o : Obj} (e : h.get? b = some o) : ¬ b ∈ [h.objs.size] := fun z => by
 have z' : b = h.objs.size := by simpa using z
 exact absurd (Heap.lt_size e) (by rw [z']; exact Nat.lt_irrefl _)
theorem vj (hc : X.calm = true) : eA X (.builtin "all") (fun xs H Q => ∃ (p : Addr) (bs : List Bool), xs = [.ref p] ∧ SqL X.K H p (bs.map V.bl) ∧ Q (.bl (bs.all id)) H) := by
 intro pins s σ H xs us Q I r h
 obtain ⟨p, bs, rfl, hq, q⟩ := h
 obtain ⟨u, rfl, rx⟩ := j9 r
 cases rx
 obtain ⟨its, rv, pl, hz⟩ := I.list hq
 have fS := rv.length
 rw [List.length_map] at fS
 refine call_all_walk (wpAny_pyIter_list pl.isList ?_)
 have lt : p < s.heap.objs.size := by obtain ⟨o, e, _⟩ := pl.isList; exact Heap.lt_size e
 refine ⟨s.heap.objs.size, _, _, _, _, _, fun i => (bs[i]?).getD true, rfl, Walks.list (show X.A.in1.handled = none from I.ok.hd hc) s.heap.objs.size p (Nat.ne_of_lt lt) its.toArray, ⟨⟨_, Heap.get?_push_size _ rfl, rfl, rfl⟩, pl.isList.at fun o e => Heap.get?_push_of_some _ e⟩, ?_, fun h' tk hk => ?_⟩
 ·intro i v s' Q' E' hP hQ
  have hP' : its.toArray[i]? = some v := hP
  obtain ⟨b, e1, e2⟩ := qQ rv (by simpa using hP')
  subst e2
  dsimp only at hQ
  rw [e1, Option.getD_some] at hQ
  exact wpAny_truthy_bool hQ
 ·have e : (List.range its.toArray.size).all (fun i => (bs[i]?).getD true) = bs.all id := by
   rw [List.size_toArray, ← fS]; exact vv bs
  rw [e]
  exact ⟨.bl (bs.all id), H, I.kept fun b o e => hk b o (yb e) (Heap.get?_push_of_some _ e), rfl, q⟩
end
open PySem.AutoSeq1 (wpAny_loadPart')
theorem vi {prog : Program} {w : World} {A : Around} {E : Value → Shared → Prop} {s : Shared} {t b : Addr} {vs ws : List Value} {Q : Value → Shared → Prop} (ht : IsTup s.heap t vs.toArray) (hb : IsTup s.heap b ws.toArray) (hv : vs = [])
  (h1 : Q (.ref b) s) : wpAny (model prog w) A (binaryOp .Add (.ref t) (.ref b)) Q E s := by
 obtain ⟨⟨cls, dd, data, sl⟩, ho, hc, n, hd⟩ := id ht
 obtain ⟨⟨cls2, dd2, data2, sl2⟩, ho2, hc2, n2, hd2⟩ := id hb
 simp only at hc hd hc2 hd2
 subst hc hd hc2 hd2
 exact concat_meets ⟨_, ho, rfl⟩ ⟨_, ho2, rfl⟩ noFill_tuple_add seq_tuple_add PySem.F.slot_tuple_add PySem.F.entry_tuple_add (PySem.F.args_tuple_add_2 _ _)
   (tuple_addW0 t b vs.toArray ws.toArray n n2 dd dd2 sl sl2 (by simp [hv])) ⟨ho, ho2, h1⟩
structure Eu (H : Hp) (p xs : Addr) : Prop where
 ex : ∃ (ns : List Int) (at' cur : Int), H p = some (.lst [.ref xs, .int at', .int cur]) ∧ H xs = some (.lst (ns.map V.int)) ∧ xs ≠ p ∧ 0 ≤ at' ∧ 0 ≤ cur
noncomputable def vE (K : PySem.W.Frag) : Sp := fun vs H Q _ => ∃ (a : Addr) (ns : List Int), vs = [.ref a] ∧ SqL K H a (ns.map V.int) ∧ ∀ (q xs : Addr) (H' : Hp), pK H H' → Eu H' q xs → H q = none → Q (.ref q) H'
theorem rR {m : Int} (h0 : 0 ≤ m) (h : m < 2 ^ 60) : m.natAbs.log2 < 9000 := by
 have := qe (n := m.natAbs) (by omega)
 omega
end OG
namespace OP
open PySem PySem.Spec PyProof.Rows L2 OG
inductive U where
 | non | bl (b : Bool) | int (i : Int) | str (x : Str) | tup (us : List U) | ref (l : Nat) | kl (ns : List Int)
structure Cl where
 C : Addr
 ns : List Str
inductive O where
 | lst (us : List U) | dic (kvs : List (Key × U)) | ins (c : Cl) (fs : List (Option U)) | fdc (ep : Nat) (kvs : List (Key × U)) | dit (kvs : List (List Key × U)) | fdt (ep : Nat) (kvs : List (List Key × U))
noncomputable abbrev Sto := List O
noncomputable abbrev Rho := List (Option U)
noncomputable def KL (K : PySem.W.Frag) (H : Hp) (a : Addr) (ns : List Int) : Prop :=
 (∃ o, H a = some (.frz o (.lst (ns.map V.int)))) ∨
  ∃ (o : Obj) (its : Array Value) (n : Nat), K.lookup a = some o ∧ o.cls = .type "list" ∧ o.dict = none ∧ o.data = .seq its n ∧ its.size ≤ sizeLine ∧ b0 (ns.map V.int) its.toList
theorem KL.sq {K : PySem.W.Frag} {H : Hp} {a : Addr} {ns : List Int} (h : KL K H a ns) : SqL K H a (ns.map V.int) := by
 rcases h with h | h
 ·exact .inl (.inr h)
 ·exact .inr h
mutual
noncomputable def Is (K : PySem.W.Frag) (m : List Addr) (H : Hp) : V → U → Prop
 | v, .non => v = .non
 | v, .bl b => v = .bl b
 | v, .int i => v = .int i
 | v, .str x => v = .str x
 | v, .tup us => ∃ a xs, v = .ref a ∧ SqT K H a xs ∧ IsL K m H xs us
 | v, .ref l => ∃ a, m[l]? = some a ∧ v = .ref a
 | v, .kl ns => ∃ a, v = .ref a ∧ KL K H a ns
noncomputable def IsL (K : PySem.W.Frag) (m : List Addr) (H : Hp) : List V → List U → Prop
 | xs, [] => xs = []
 | xs, u :: us => ∃ x r, xs = x :: r ∧ Is K m H x u ∧ IsL K m H r us
end
structure yx (K : PySem.W.Frag) (H H' : Hp) : Prop where
 t : ∀ a xs, SqT K H a xs → SqT K H' a xs
 l : ∀ a ns, KL K H a ns → KL K H' a ns
structure Ext (K : PySem.W.Frag) (m : List Addr) (H : Hp) (m' : List Addr) (H' : Hp) : Prop where
 pre : ∃ t, m' = m ++ t
 keep : yx K H H'
section
variable {K : PySem.W.Frag} {m m' m'' : List Addr} {H H' H'' : Hp} {v x : V} {u : U} {xs ys : List V} {us ws : List U} {a q : Addr} {o : HO}
theorem Ext.refl : Ext K m H m H := ⟨⟨[], by simp⟩, fun _ _ h => h, fun _ _ h => h⟩
theorem Ext.trans (a : Ext K m H m' H') (b : Ext K m' H' m'' H'') : Ext K m H m'' H'' := by
 obtain ⟨t, rfl⟩ := a.pre
 obtain ⟨t', rfl⟩ := b.pre
 exact ⟨⟨t ++ t', by simp⟩, fun c ys h => b.keep.t c ys (a.keep.t c ys h), fun c ys h => b.keep.l c ys (a.keep.l c ys h)⟩
theorem Ext.of (k : yx K H H') : Ext K m H m H' := ⟨⟨[], by simp⟩, k⟩
theorem Ext.new (k : yx K H H') : Ext K m H (m ++ [q]) H' := ⟨⟨[q], rfl⟩, k⟩
theorem Ext.get {l : Nat} (e : Ext K m H m' H') (h : m[l]? = some a) : m'[l]? = some a := by
 obtain ⟨t, rfl⟩ := e.pre
 rw [List.getElem?_append_left (List.getElem?_eq_some_iff.mp h).1]
 exact h
mutual
theorem Is.mono (e : Ext K m H m' H') : ∀ {v : V} {u : U}, Is K m H v u → Is K m' H' v u
 | v, .non, h => by unfold Is at h ⊢; exact h
 | v, .bl b, h => by unfold Is at h ⊢; exact h
 | v, .int i, h => by unfold Is at h ⊢; exact h
 | v, .str x, h => by unfold Is at h ⊢; exact h
 | v, .tup us, h => by
  unfold Is at h ⊢
  obtain ⟨a, xs, e1, k, l⟩ := h
  exact ⟨a, xs, e1, e.keep.t _ _ k, IsL.mono e l⟩
 | v, .ref l, h => by
  unfold Is at h ⊢
  obtain ⟨a, k, e1⟩ := h
  exact ⟨a, e.get k, e1⟩
 | v, .kl ns, h => by
  unfold Is at h ⊢
  obtain ⟨a, e1, k⟩ := h
  exact ⟨a, e1, e.keep.l _ _ k⟩
theorem IsL.mono (e : Ext K m H m' H') : ∀ {xs : List V} {us : List U}, IsL K m H xs us → IsL K m' H' xs us
 | xs, [], h => by unfold IsL at h ⊢; exact h
 | xs, u :: us, h => by
  unfold IsL at h ⊢
  obtain ⟨x, r, e1, k, l⟩ := h
  exact ⟨x, r, e1, Is.mono e k, IsL.mono e l⟩
end
theorem Is.int_ {i : Int} : Is K m H (.int i) (.int i) := by unfold Is; rfl
theorem Is.bl_ {b : Bool} : Is K m H (.bl b) (.bl b) := by unfold Is; rfl
theorem Is.non_ : Is K m H .non .non := by unfold Is; rfl
theorem Is.str_ {x : Str} : Is K m H (.str x) (.str x) := by unfold Is; rfl
theorem Is.of_int {i : Int} (h : Is K m H v (.int i)) : v = .int i := by unfold Is at h; exact h
theorem Is.of_bl {b : Bool} (h : Is K m H v (.bl b)) : v = .bl b := by unfold Is at h; exact h
theorem Is.of_non (h : Is K m H v .non) : v = .non := by unfold Is at h; exact h
theorem Is.of_str {x : Str} (h : Is K m H v (.str x)) : v = .str x := by unfold Is at h; exact h
theorem Is.of_tup (h : Is K m H v (.tup us)) : ∃ a xs, v = .ref a ∧ SqT K H a xs ∧ IsL K m H xs us := by unfold Is at h; exact h
theorem Is.of_ref {l : Nat} (h : Is K m H v (.ref l)) : ∃ a, m[l]? = some a ∧ v = .ref a := by unfold Is at h; exact h
theorem Is.of_kl {ns : List Int} (h : Is K m H v (.kl ns)) : ∃ a, v = .ref a ∧ KL K H a ns := by unfold Is at h; exact h
theorem Is.tup_ (e : SqT K H a xs) (h : IsL K m H xs us) : Is K m H (.ref a) (.tup us) := by unfold Is; exact ⟨a, xs, rfl, e, h⟩
theorem Is.ref_ {l : Nat} (e : m[l]? = some a) : Is K m H (.ref a) (.ref l) := by unfold Is; exact ⟨a, e, rfl⟩
theorem IsL.nil_ : IsL K m H [] [] := by unfold IsL; rfl
theorem IsL.cons_ (h : Is K m H x u) (t : IsL K m H xs us) : IsL K m H (x :: xs) (u :: us) := by unfold IsL; exact ⟨x, xs, rfl, h, t⟩
theorem IsL.of_nil (h : IsL K m H xs []) : xs = [] := by unfold IsL at h; exact h
theorem IsL.of_cons (h : IsL K m H xs (u :: us)) : ∃ x r, xs = x :: r ∧ Is K m H x u ∧ IsL K m H r us := by unfold IsL at h; exact h
theorem IsL.length : ∀ {xs : List V} {us : List U}, IsL K m H xs us → xs.length = us.length
 | xs, [], h => by rw [h.of_nil]; rfl
 | xs, d :: ds, h => by
  obtain ⟨x, r, rfl, _, t⟩ := h.of_cons
  rw [List.length_cons, List.length_cons, IsL.length t]
theorem IsL.getD : ∀ {xs : List V} {us : List U} {i : Nat} {u : U}, IsL K m H xs us → us[i]? = some u → ∃ x, xs[i]? = some x ∧ Is K m H x u
 | xs, [], i, x, h, e => by simp at e
 | xs, d :: ds, 0, x, h, e => by
  obtain ⟨y, r, rfl, k, t⟩ := h.of_cons
  simp at e; subst e; exact ⟨y, by simp, k⟩
 | xs, d :: ds, i + 1, x, h, e => by
  obtain ⟨y, r, rfl, k, t⟩ := h.of_cons
  obtain ⟨d', e1, e2⟩ := IsL.getD (i := i) (u := x) t (by simpa using e)
  exact ⟨d', by simpa using e1, e2⟩
theorem IsL.append : ∀ {xs : List V} {us : List U}, IsL K m H xs us → IsL K m H ys ws → IsL K m H (xs ++ ys) (us ++ ws)
 | xs, [], h, k => by rw [h.of_nil]; exact k
 | xs, d :: ds, h, k => by
  obtain ⟨y, r, rfl, z, t⟩ := h.of_cons
  exact .cons_ z (IsL.append t k)
theorem IsL.set : ∀ {xs : List V} {us : List U} {j : Nat}, IsL K m H xs us → Is K m H x u → IsL K m H (xs.set j x) (us.set j u)
 | xs, [], j, h, k => by rw [h.of_nil]; exact .nil_
 | xs, d :: ds, 0, h, k => by
  obtain ⟨y, r, rfl, z, t⟩ := h.of_cons
  exact .cons_ k t
 | xs, d :: ds, j + 1, h, k => by
  obtain ⟨y, r, rfl, z, t⟩ := h.of_cons
  exact .cons_ z (IsL.set t k)
theorem IsL.drop : ∀ {xs : List V} {us : List U} (n : Nat), IsL K m H xs us → IsL K m H (xs.drop n) (us.drop n)
 | xs, us, 0, h => h
 | xs, [], n + 1, h => by rw [h.of_nil]; exact .nil_
 | xs, d :: ds, n + 1, h => by
  obtain ⟨y, r, rfl, z, t⟩ := h.of_cons
  exact IsL.drop n t
theorem IsL.take : ∀ {xs : List V} {us : List U} (n : Nat), IsL K m H xs us → IsL K m H (xs.take n) (us.take n)
 | xs, us, 0, h => .nil_
 | xs, [], n + 1, h => by rw [h.of_nil]; exact .nil_
 | xs, d :: ds, n + 1, h => by
  obtain ⟨y, r, rfl, z, t⟩ := h.of_cons
  exact .cons_ z (IsL.take n t)
theorem pw (h : H a = some o) (nt : ∀ xs, o ≠ .tup xs) (nf : ∀ ob xs, o ≠ .frz ob (.tup xs)) (nl : ∀ ob xs, o ≠ .frz ob (.lst xs)) (o' : HO) : yx K H (upd H a o') := by
 refine ⟨fun b xs q => ?_, fun b ns q => ?_⟩
 ·rcases q with (q | ⟨ob, q⟩) | q
  ·have n : b ≠ a := fun z => by subst z; rw [q] at h; cases h; exact nt _ rfl
   exact .inl (.inl (by rw [bL n]; exact q))
  ·have n : b ≠ a := fun z => by subst z; rw [q] at h; cases h; exact nf _ _ rfl
   exact .inl (.inr ⟨ob, by rw [bL n]; exact q⟩)
  ·exact .inr q
 ·rcases q with ⟨ob, q⟩ | q
  ·have n : b ≠ a := fun z => by subst z; rw [q] at h; cases h; exact nl _ _ rfl
   exact .inl ⟨ob, by rw [bL n]; exact q⟩
  ·exact .inr q
theorem eQ (s : pK H H') : yx K H H' := by
 refine ⟨fun b xs q => ?_, fun b ns q => ?_⟩
 ·rcases q with (q | ⟨ob, q⟩) | q
  ·exact .inl (.inl (s _ _ q))
  ·exact .inl (.inr ⟨ob, s _ _ q⟩)
  ·exact .inr q
 ·rcases q with ⟨ob, q⟩ | q
  ·exact .inl ⟨ob, s _ _ q⟩
  ·exact .inr q
theorem dH (h : H q = none) (o' : HO) : yx K H (upd H q o') := eQ (dG h o')
end
noncomputable def IsP {κ : Type} (K : PySem.W.Frag) (m : List Addr) (H : Hp) (kvs : List (κ × V)) (kus : List (κ × U)) : Prop := kvs.map (·.1) = kus.map (·.1) ∧ IsL K m H (kvs.map (·.2)) (kus.map (·.2))
noncomputable def Rf (K : PySem.W.Frag) (m : List Addr) (H : Hp) : Option V → Option U → Prop
 | some v, some u => Is K m H v u
 | none, none => True
 | _, _ => False
structure InF (K : PySem.W.Frag) (m : List Addr) (H : Hp) (c : Cl) (fs : List (Str × V)) (fus : List (Option U)) : Prop where
 nd : c.ns.Nodup
 few : c.ns.length < 1000
 knd : (fs.map (·.1)).Nodup
 sub : ∀ x ∈ fs.map (·.1), x ∈ c.ns
 len : fus.length = c.ns.length
 at_ : ∀ (i : Nat) (x : Str), c.ns[i]? = some x → Rf K m H (fs.lookup x) ((fus[i]?).join)
theorem Rf.mono {K : PySem.W.Frag} {m m' : List Addr} {H H' : Hp} {v : Option V} {u : Option U} (e : Ext K m H m' H') (h : Rf K m H v u) : Rf K m' H' v u := by
 cases v with
 | none => cases u with
  | none => trivial
  | some u => exact h.elim
 | some v => cases u with
  | none => exact h.elim
  | some u => exact Is.mono e h
theorem InF.mono {K : PySem.W.Frag} {m m' : List Addr} {H H' : Hp} {c : Cl} {fs : List (Str × V)} {fus : List (Option U)} (e : Ext K m H m' H') (h : InF K m H c fs fus) : InF K m' H' c fs fus := ⟨h.nd, h.few, h.knd, h.sub, h.len, fun i x q => (h.at_ i x q).mono e⟩
noncomputable def Ob (K : PySem.W.Frag) (m : List Addr) (H : Hp) (a : Addr) : O → Prop
 | .lst us => ∃ xs, H a = some (.lst xs) ∧ IsL K m H xs us
 | .dic kus => ∃ kvs, H a = some (.dK kvs) ∧ IsP K m H kvs kus
 | .ins c fus => ∃ dx fs, H a = some (.ins c.C dx fs) ∧ InF K m H c fs fus
 | .fdc ep kus => ∃ ob es kvs, H a = some (.frz ob (.dK kvs)) ∧ ob.data = .dict es ep ∧ IsP K m H kvs kus
 | .dit kus => ∃ kvs, H a = some (.dT kvs) ∧ IsP K m H kvs kus
 | .fdt ep kus => ∃ ob es kvs, H a = some (.frz ob (.dT kvs)) ∧ ob.data = .dict es ep ∧ IsP K m H kvs kus
structure Sr (K : PySem.W.Frag) (m : List Addr) (S : Sto) (H : Hp) : Prop where
 len : m.length = S.length
 nd : m.Nodup
 ob : ∀ (l : Nat) (a : Addr) (o : O), m[l]? = some a → S[l]? = some o → Ob K m H a o
structure Lr (K : PySem.W.Frag) (m : List Addr) (H : Hp) (ρ : Rho) (σ : L2.St) : Prop where
 len : ρ.length = σ.length
 at_ : ∀ (i : Nat) (u : U), ρ[i]? = some (some u) → ∃ v, σ[i]? = some (some v) ∧ Is K m H v u
section
variable {κ : Type} {K : PySem.W.Frag} {m m' : List Addr} {H H' : Hp} {S S' : Sto} {ρ : Rho} {σ : L2.St} {a q : Addr} {l : Nat} {o : O} {ho : HO} {us : List U} {v : V} {u : U} {kvs : List (κ × V)} {kus : List (κ × U)}
theorem IsP.mono (e : Ext K m H m' H') (h : IsP K m H kvs kus) : IsP K m' H' kvs kus := ⟨h.1, h.2.mono e⟩
theorem IsP.length (h : IsP K m H kvs kus) : kvs.length = kus.length := by have := h.2.length; simpa using this
theorem IsP.nil_ : IsP (κ := κ) K m H [] [] := ⟨rfl, .nil_⟩
theorem IsP.cons_ {k : κ} (h : Is K m H v u) (t : IsP K m H kvs kus) : IsP K m H ((k, v) :: kvs) ((k, u) :: kus) := ⟨by simp [t.1], .cons_ h t.2⟩
theorem IsP.ind {P : List (κ × V) → List (κ × U) → Prop} (h0 : P [] []) (h1 : ∀ k v u kvs kus, Is K m H v u → IsP K m H kvs kus → P kvs kus → P ((k, v) :: kvs) ((k, u) :: kus)) : ∀ {kvs : List (κ × V)} {kus : List (κ × U)}, IsP K m H kvs kus → P kvs kus
 | [], [], _ => h0
 | [], p :: r, h => by have := h.length; simp at this
 | p :: r, [], h => by have := h.length; simp at this
 | (k, v) :: r, (k', u) :: r', h => by
  obtain ⟨e, i⟩ := h
  simp only [List.map_cons, List.cons.injEq] at e
  obtain ⟨e1, e2⟩ := e
  subst e1
  obtain ⟨x, t, e3, iu, it⟩ := i.of_cons
  cases e3
  exact h1 k v u r r' iu ⟨e2, it⟩ (IsP.ind h0 h1 (⟨e2, it⟩ : IsP K m H r r'))
theorem Ob.mono (e : Ext K m H m' H') (h1 : H' a = H a) (h : Ob K m H a o) : Ob K m' H' a o := by
 cases o with
 | lst us => obtain ⟨xs, k, i⟩ := h; exact ⟨xs, h1.trans k, i.mono e⟩
 | dic kus => obtain ⟨xs, k, i⟩ := h; exact ⟨xs, h1.trans k, i.mono e⟩
 | ins C fus => obtain ⟨dx, fs, k, i⟩ := h; exact ⟨dx, fs, h1.trans k, i.mono e⟩
 | fdc ep kus => obtain ⟨ob, es, kvs, k, d, i⟩ := h; exact ⟨ob, es, kvs, h1.trans k, d, i.mono e⟩
 | dit kus => obtain ⟨xs, k, i⟩ := h; exact ⟨xs, h1.trans k, i.mono e⟩
 | fdt ep kus => obtain ⟨ob, es, kvs, k, d, i⟩ := h; exact ⟨ob, es, kvs, h1.trans k, d, i.mono e⟩
theorem Ob.some (h : Ob K m H a o) : ∃ ho, H a = some ho ∧ (∀ xs, ho ≠ .tup xs) ∧ (∀ ob xs, ho ≠ .frz ob (.tup xs)) ∧ (∀ ob xs, ho ≠ .frz ob (.lst xs)) := by
 cases o with
 | lst us => obtain ⟨xs, k, i⟩ := h; exact ⟨_, k, by simp, by simp, by simp⟩
 | dic kus => obtain ⟨xs, k, i⟩ := h; exact ⟨_, k, by simp, by simp, by simp⟩
 | ins C fus => obtain ⟨dx, fs, k, i⟩ := h; exact ⟨_, k, by simp, by simp, by simp⟩
 | fdc ep kus => obtain ⟨ob, es, kvs, k, d, i⟩ := h; exact ⟨_, k, by simp, by simp, by simp⟩
 | dit kus => obtain ⟨xs, k, i⟩ := h; exact ⟨_, k, by simp, by simp, by simp⟩
 | fdt ep kus => obtain ⟨ob, es, kvs, k, d, i⟩ := h; exact ⟨_, k, by simp, by simp, by simp⟩
theorem Lr.mono (e : Ext K m H m' H') (h : Lr K m H ρ σ) : Lr K m' H' ρ σ := ⟨h.len, fun i u e1 => let ⟨v, e2, e3⟩ := h.at_ i u e1; ⟨v, e2, e3.mono e⟩⟩
theorem Lr.set (h : Lr K m H ρ σ) (i : Nat) (hv : Is K m H v u) : Lr K m H (ρ.set i (some u)) (σ.set i (some v)) := by
 refine ⟨by simp [h.len], fun j w e => ?_⟩
 by_cases c : i = j
 ·subst c
  rw [List.getElem?_set_self' ] at e
  rw [List.getElem?_set_self']
  have hl := h.len
  cases e1 : ρ[i]? with
  | none => rw [e1] at e; simp at e
  | some z =>
   rw [e1] at e
   simp at e
   subst e
   have : i < σ.length := by rw [← hl]; exact (List.getElem?_eq_some_iff.mp e1).1
   rw [List.getElem?_eq_getElem this]
   exact ⟨v, rfl, hv⟩
 ·rw [List.getElem?_set_ne c] at e
  rw [List.getElem?_set_ne c]
  exact h.at_ j w e
theorem Sr.get (r : Sr K m S H) (h : S[l]? = some o) : ∃ a, m[l]? = some a ∧ Ob K m H a o := by
 have hl : l < m.length := by rw [r.len]; exact (List.getElem?_eq_some_iff.mp h).1
 exact ⟨_, List.getElem?_eq_getElem hl, r.ob _ _ _ (List.getElem?_eq_getElem hl) h⟩
theorem Sr.at_ (r : Sr K m S H) (h : m[l]? = some a) : ∃ o, S[l]? = some o ∧ Ob K m H a o := by
 have hl : l < S.length := by rw [← r.len]; exact (List.getElem?_eq_some_iff.mp h).1
 exact ⟨_, List.getElem?_eq_getElem hl, r.ob _ _ _ h (List.getElem?_eq_getElem hl)⟩
theorem Sr.same (r : Sr K m S H) (s : pK H H') : Sr K m S H' := ⟨r.len, r.nd, fun l a o h1 h2 => by
 have q := r.ob l a o h1 h2
 obtain ⟨ho, e, _⟩ := q.some
 exact q.mono (.of (eQ s)) (by rw [s _ _ e, e])⟩
theorem Sr.new (r : Sr K m S H) (h : H q = none) (n : Ob K (m ++ [q]) (upd H q ho) q o) : Sr K (m ++ [q]) (S ++ [o]) (upd H q ho) := by
 have hq : q ∉ m := fun z => by
  obtain ⟨l, e⟩ := List.getElem?_of_mem z
  obtain ⟨o, _, k⟩ := r.at_ e
  obtain ⟨ho, e2, _⟩ := k.some
  rw [h] at e2; cases e2
 refine ⟨by simp [r.len], ?_, fun l a o' h1 h2 => ?_⟩
 ·rw [List.nodup_append]
  exact ⟨r.nd, by simp, fun x hx y hy z => by simp at hy; subst hy; subst z; exact hq hx⟩
 ·by_cases c : l < m.length
  ·rw [List.getElem?_append_left c] at h1
   rw [List.getElem?_append_left (by rw [← r.len]; exact c)] at h2
   have q' := r.ob l a o' h1 h2
   obtain ⟨ho', e, _⟩ := q'.some
   exact q'.mono (.new (dH h _)) (by rw [bL (cf e h)])
  ·have e : l = m.length := by
    have := (List.getElem?_eq_some_iff.mp h1).1
    simp at this; omega
   subst e
   rw [List.getElem?_append_right (Nat.le_refl _)] at h1
   rw [List.getElem?_append_right (by rw [r.len]; exact Nat.le_refl _)] at h2
   simp [r.len] at h1 h2
   subst h1; subst h2
   exact n
theorem Sr.put (r : Sr K m S H) (h : m[l]? = some a) (n : Ob K m (upd H a ho) a o) : Sr K m (S.set l o) (upd H a ho) := by
 obtain ⟨o0, h0, k0⟩ := r.at_ h
 obtain ⟨ho', e, nt, nf, nl⟩ := k0.some
 refine ⟨by simp [r.len], r.nd, fun l' a' o' h1 h2 => ?_⟩
 by_cases c : l = l'
 ·subst c
  rw [h] at h1; cases h1
  rw [List.getElem?_set_self (List.getElem?_eq_some_iff.mp h0).1] at h2
  cases h2
  exact n
 ·rw [List.getElem?_set_ne c] at h2
  have na : a' ≠ a := fun z => by
   subst z
   obtain ⟨p1, e1⟩ := List.getElem?_eq_some_iff.mp h
   obtain ⟨p2, e2⟩ := List.getElem?_eq_some_iff.mp h1
   exact c ((List.getElem_inj r.nd).mp (e1.trans e2.symm))
  exact (r.ob l' a' o' h1 h2).mono (.of (pw e nt nf nl _)) (by rw [bL na])
theorem Sr.keep (r : Sr K m S H) (h : m[l]? = some a) (ho : HO) : yx K H (upd H a ho) := by
 obtain ⟨o0, h0, k0⟩ := r.at_ h
 obtain ⟨ho', e, nt, nf, nl⟩ := k0.some
 exact pw e nt nf nl _
end
noncomputable def gw (K : PySem.W.Frag) (m : List Addr) (H : Hp) (Q : VK) (u : U) (S' : Sto) : Prop := ∀ m' v H', Ext K m H m' H' → Sr K m' S' H' → Is K m' H' v u → Q v H'
noncomputable abbrev CE := Rho → Sto → Option (U × Sto)
noncomputable abbrev CT := Rho → Sto → Option (Bool × Sto)
noncomputable abbrev CA := Rho → Sto → Option (List U × Sto)
inductive Out where
 | nx | rt (u : U) | bk | ct
noncomputable abbrev CS := Rho → Sto → Option (Out × Rho × Sto)
noncomputable def vw (K : PySem.W.Frag) (m : List Addr) (H : Hp) (Q : Bool → Hp → Prop) (b : Bool) (S' : Sto) : Prop := ∀ m' H', Ext K m H m' H' → Sr K m' S' H' → Q b H'
noncomputable def DV (K : PySem.W.Frag) (m : List Addr) (H : Hp) (Q : List V → Hp → Prop) (us : List U) (S' : Sto) : Prop := ∀ m' vs H', Ext K m H m' H' → Sr K m' S' H' → IsL K m' H' vs us → Q vs H'
noncomputable def gc (K : PySem.W.Frag) (m : List Addr) (H : Hp) (Q : L2.St → Hp → Prop) (ρ' : Rho) (S' : Sto) : Prop := ∀ m' σ' H', Ext K m H m' H' → Sr K m' S' H' → Lr K m' H' ρ' σ' → Q σ' H'
noncomputable def qu (K : PySem.W.Frag) (m : List Addr) (H : Hp) (D : we) : Out → Rho → Sto → Prop
 | .nx, ρ', S' => gc K m H D.nx ρ' S'
 | .bk, ρ', S' => gc K m H D.bk ρ' S'
 | .ct, ρ', S' => gc K m H D.ct ρ' S'
 | .rt u, _, S' => gw K m H D.rt u S'
theorem mi {α β γ δ ε : Type} {A B C D : α → β → γ → δ → ε → Prop} {p : Prop} (h : ∃ a b c d e, A a b c d e ∧ B a b c d e ∧ C a b c d e ∧ D a b c d e) (f : ∀ a b c d e, A a b c d e → B a b c d e → C a b c d e → D a b c d e → p) : p := by
 obtain ⟨a, b, c, d, e, h1, h2, h3, h4⟩ := h
 exact f a b c d e h1 h2 h3 h4
theorem ql {α β γ δ ε ζ : Type} {A B C D : α → β → γ → δ → ε → ζ → Prop} {p : Prop} (h : ∃ a b c d e g, A a b c d e g ∧ B a b c d e g ∧ C a b c d e g ∧ D a b c d e g) (f : ∀ a b c d e g, A a b c d e g → B a b c d e g → C a b c d e g → D a b c d e g → p) : p := by
 obtain ⟨a, b, c, d, e, g, h1, h2, h3, h4⟩ := h
 exact f a b c d e g h1 h2 h3 h4
theorem Es {α β γ δ ε ζ : Type} {A B C D E : α → β → γ → δ → ε → ζ → Prop} {p : Prop} (h : ∃ a b c d e g, A a b c d e g ∧ B a b c d e g ∧ C a b c d e g ∧ D a b c d e g ∧ E a b c d e g) (f : ∀ a b c d e g, A a b c d e g → B a b c d e g → C a b c d e g → D a b c d e g → E a b c d e g → p) : p := by
 obtain ⟨a, b, c, d, e, g, h1, h2, h3, h4, h5⟩ := h
 exact f a b c d e g h1 h2 h3 h4 h5
noncomputable def tE (K : PySem.W.Frag) (c : CE) : TE := fun σ H Q => ∃ m ρ S u S', Sr K m S H ∧ Lr K m H ρ σ ∧ c ρ S = some (u, S') ∧ gw K m H Q u S'
noncomputable def tT (K : PySem.W.Frag) (c : CT) : TT := fun σ H Q => ∃ m ρ S u S', Sr K m S H ∧ Lr K m H ρ σ ∧ c ρ S = some (u, S') ∧ vw K m H Q u S'
noncomputable def tA (K : PySem.W.Frag) (c : CA) : TA := fun σ H Q => ∃ m ρ S u S', Sr K m S H ∧ Lr K m H ρ σ ∧ c ρ S = some (u, S') ∧ DV K m H Q u S'
noncomputable def tS (K : PySem.W.Frag) (c : CS) : TS := fun D σ H => ∃ m ρ S o ρ' S', Sr K m S H ∧ Lr K m H ρ σ ∧ c ρ S = some (o, ρ', S') ∧ qu K m H D o ρ' S'
noncomputable abbrev QE (X : Cx) (e : Expr) (c : CE) : Prop := WE X e (tE X.K c)
noncomputable abbrev QT (X : Cx) (e : Expr) (c : CT) : Prop := WT X e (tT X.K c)
noncomputable abbrev QW (X : Cx) (e : Expr) (c : CT) : Prop := WW X e (tT X.K c)
noncomputable abbrev QS (X : Cx) (e : Stmt) (c : CS) : Prop := WS X e (tS X.K c)
noncomputable abbrev QSs (X : Cx) (e : List Stmt) (c : CS) : Prop := WSs X e (tS X.K c)
structure QA (X : Cx) (es : List Expr) (c : CA) : Prop where
 h : WA X es (tA X.K c)
 len : ∀ ρ S us S', c ρ S = some (us, S') → us.length = es.length
section
variable {X : Cx} {e : Expr} {es : List Expr} {st : Stmt} {sts : List Stmt}
theorem _root_.OG.WE.imp {t t' : TE} (h : WE X e t) (i : ∀ σ H Q, t' σ H Q → t σ H Q) : WE X e t' := ⟨fun pins s σ H Q I k => h.h pins s σ H Q I (i σ H Q k)⟩
theorem _root_.OG.WT.imp {t t' : TT} (h : WT X e t) (i : ∀ σ H Q, t' σ H Q → t σ H Q) : WT X e t' := ⟨fun pins s σ H Q I k => h.h pins s σ H Q I (i σ H Q k)⟩
theorem _root_.OG.WW.imp {t t' : TT} (h : WW X e t) (i : ∀ σ H Q, t' σ H Q → t σ H Q) : WW X e t' := ⟨fun wh pins s σ H Q I k => h.h wh pins s σ H Q I (i σ H Q k)⟩
theorem _root_.OG.WA.imp {t t' : TA} (h : WA X es t) (i : ∀ σ H Q, t' σ H Q → t σ H Q) : WA X es t' := ⟨fun pos pins s σ H Q I k => h.h pos pins s σ H Q I (i σ H Q k)⟩
theorem _root_.OG.WS.imp {t t' : TS} (h : WS X st t) (i : ∀ D σ H, t' D σ H → t D σ H) : WS X st t' := ⟨fun pins s σ H D I k => h.h pins s σ H D I (i D σ H k)⟩
theorem _root_.OG.WSs.imp {t t' : TS} (h : WSs X sts t) (i : ∀ D σ H, t' D σ H → t D σ H) : WSs X sts t' := ⟨fun pins s σ H D I k => h.h pins s σ H D I (i D σ H k)⟩
theorem _root_.OG.WI.imp {tg : Expr} {t t' : TI} (h : WI X tg e t) (i : ∀ σ H R, t' σ H R → t σ H R) : WI X tg e t' := ⟨fun pins s σ H R I k => h.h pins s σ H R I (i σ H R k)⟩
theorem _root_.OG.WG.imp {t t' : TG} (h : WG X e t) (i : ∀ v σ H Q, t' v σ H Q → t v σ H Q) : WG X e t' := ⟨fun pins s σ H v u Q I r k => h.h pins s σ H v u Q I r (i v σ H Q k)⟩
theorem _root_.OG.WGs.imp {t t' : TGs} (h : WGs X es t) (i : ∀ v σ H Q, t' v σ H Q → t v σ H Q) : WGs X es t' := ⟨fun pins s σ H v u Q I r k => h.h pins s σ H v u Q I r (i v σ H Q k)⟩
theorem _root_.OG.WE.or {t t' : TE} (h : WE X e t) (h' : WE X e t') : WE X e (fun σ H Q => t σ H Q ∨ t' σ H Q) := ⟨fun pins s σ H Q I k => k.elim (h.h pins s σ H Q I) (h'.h pins s σ H Q I)⟩
theorem _root_.OG.WS.or {t t' : TS} (h : WS X st t) (h' : WS X st t') : WS X st (fun D σ H => t D σ H ∨ t' D σ H) := ⟨fun pins s σ H D I k => k.elim (h.h pins s σ H D I) (h'.h pins s σ H D I)⟩
theorem _root_.OG.WI.or {tg : Expr} {t t' : TI} (h : WI X tg e t) (h' : WI X tg e t') : WI X tg e (fun σ H D => t σ H D ∨ t' σ H D) := ⟨fun pins s σ H D I k => k.elim (h.h pins s σ H D I) (h'.h pins s σ H D I)⟩
end
section
variable {K : PySem.W.Frag} {m m' : List Addr} {H H' : Hp} {Q : VK} {R : L2.St → Hp → Prop} {D : we} {u : U} {o : Out} {S' : Sto} {ρ' : Rho}
theorem gw.mono (e : Ext K m H m' H') (p : gw K m H Q u S') : gw K m' H' Q u S' := fun m2 v H2 e2 r i => p m2 v H2 (e.trans e2) r i
theorem vw.mono {Q : Bool → Hp → Prop} {b : Bool} (e : Ext K m H m' H') (p : vw K m H Q b S') : vw K m' H' Q b S' := fun m2 H2 e2 r => p m2 H2 (e.trans e2) r
theorem gc.mono (e : Ext K m H m' H') (p : gc K m H R ρ' S') : gc K m' H' R ρ' S' := fun m2 v H2 e2 r i => p m2 v H2 (e.trans e2) r i
theorem qu.mono (e : Ext K m H m' H') (p : qu K m H D o ρ' S') : qu K m' H' D o ρ' S' := by
 cases o with
 | nx => exact gc.mono e p
 | rt u => exact gw.mono e p
 | bk => exact gc.mono e p
 | ct => exact gc.mono e p
end
noncomputable def LIM : Nat := 100000
theorem lim {n : Nat} (h : n ≤ LIM) : n ≤ sizeLine := Nat.le_trans h (by unfold LIM sizeLine; decide)
theorem Dq {n : Nat} (h : n < LIM) : n < sizeLine := Nat.lt_of_lt_of_le h (by unfold LIM sizeLine; decide)
noncomputable def aq (i : Nat) : CE := fun ρ S => match ρ[i]? with
 | some (some u) => some (u, S)
 | _ => none
noncomputable def cC (u : U) : CE := fun _ S => some (u, S)
section
variable {X : Cx} {e a b c : Expr} {ca cb cc : CE} {pos : Pos}
theorem ae {i : Nat} (h : WE X e (Bx i)) : QE X e (aq i) := h.imp fun σ H Q hz => mi hz fun m ρ S u S' sr lr hc post => by
 unfold aq at hc
 split at hc
 ·rename_i u' e
  cases hc
  obtain ⟨v, e1, e2⟩ := lr.at_ i u e
  exact ⟨v, e1, post m v H .refl sr e2⟩
 ·cases hc
theorem q_c {v : V} {u : U} (h : WE X e (tC v)) (hi : ∀ m H, Is X.K m H v u) : QE X e (cC u) := h.imp fun σ H Q hz => mi hz fun m ρ S u' S' sr lr hc post => by
 cases hc
 exact post m v H .refl sr (hi m H)
theorem ay {i : Int} (h : WE X e (tC (.int i))) : QE X e (cC (.int i)) := q_c h fun _ _ => .int_
theorem Ag {i : Bool} (h : WE X e (tC (.bl i))) : QE X e (cC (.bl i)) := q_c h fun _ _ => .bl_
theorem cE {i : Str} (h : WE X e (tC (.str i))) : QE X e (cC (.str i)) := q_c h fun _ _ => .str_
theorem nS (h : WE X e (tC .non)) : QE X e (cC .non) := q_c h fun _ _ => .non_
noncomputable def cOp (f : U → U → Sto → Option (U × Sto)) (ca cb : CE) : CE := fun ρ S => (ca ρ S).bind fun p => (cb ρ p.2).bind fun q => f p.1 q.1 q.2
noncomputable def OpP (K : PySem.W.Frag) (r : R2) (f : U → U → Sto → Option (U × Sto)) : Prop :=
 ∀ m S H x y v w u S' Q, Sr K m S H → Is K m H v x → Is K m H w y → f x y S = some (u, S') → gw K m H Q u S' → r v w H Q
theorem mN {K : PySem.W.Frag} {r : R2} {f : U → U → Sto → Option (U × Sto)} (hp : OpP K r f) : ∀ σ H Q, tE K (cOp f ca cb) σ H Q → tOp r (tE K ca) (tE K cb) σ H Q := by
 rintro σ H Q ⟨m, ρ, S, u, S', sr, lr, hc, post⟩
 obtain ⟨⟨x, S1⟩, h1, h⟩ := Option.bind_eq_some_iff.mp hc
 obtain ⟨⟨y, S2⟩, h2, h3⟩ := Option.bind_eq_some_iff.mp h
 exact ⟨m, ρ, S, x, S1, sr, lr, h1, fun m1 v1 H1 e1 sr1 i1 => ⟨m1, ρ, S1, y, S2, sr1, lr.mono e1, h2, fun m2 v2 H2 e2 sr2 i2 => hp m2 S2 H2 x y v1 v2 u S' Q sr2 (i1.mono e2) i2 h3 (post.mono (e1.trans e2))⟩⟩
theorem dk {op : Operator} {r : R2} {f : U → U → Sto → Option (U × Sto)} (ho : OpR X (binaryOp op) r) (hp : OpP X.K r f) (ha : QE X a ca) (hb : QE X b cb) : QE X (.BinOp a op b pos) (cOp f ca cb) := (zB ho ha hb).imp (mN hp)
theorem iH {op : CmpOp} {r : R2} {f : U → U → Sto → Option (U × Sto)} (ho : OpR X (compareOp op) r) (hp : OpP X.K r f) (ha : QE X a ca) (hb : QE X b cb) (hm : behindInMarks op b = false) : QE X (.Compare a [op] [b] pos) (cOp f ca cb) := (lq ho ha hb hm).imp (mN hp)
noncomputable def aM (c : CE) : CT := fun ρ S => (c ρ S).bind fun p => match p.1 with
 | .bl b => some (b, p.2)
 | _ => none
theorem oX {K : PySem.W.Frag} {c : CE} {t : TE} (h : ∀ σ H Q, tE K c σ H Q → t σ H Q) : ∀ σ H Q, tT K (aM c) σ H Q → t σ H fun x H' => ∃ k, x = .bl k ∧ Q k H' := by
 rintro σ H Q ⟨m, ρ, S, u, S', sr, lr, hc, post⟩
 obtain ⟨⟨x, S1⟩, h1, h2⟩ := Option.bind_eq_some_iff.mp hc
 refine h σ H _ ⟨m, ρ, S, x, S1, sr, lr, h1, fun m1 v1 H1 e1 sr1 i1 => ?_⟩
 cases x <;> simp at h2
 obtain ⟨rfl, rfl⟩ := h2
 exact ⟨_, i1.of_bl, post m1 H1 e1 sr1⟩
theorem aX {op : CmpOp} {r : R2} {f : U → U → Sto → Option (U × Sto)} (ho : OpR X (compareOp op) r) (hp : OpP X.K r f) (ha : QE X a ca) (hb : QE X b cb) (hm : behindInMarks op b = false) : QT X (.Compare a [op] [b] pos) (aM (cOp f ca cb)) := (tK ho ha hb hm).imp (oX (mN hp))
theorem ib (h : QE X e ca) (he : ∀ whole, isTrue e X.env whole = (do let v ← whole; standAt e.pos; holding [v] (truthy v)) := by intro _; rfl) : QT X e (aM ca) := (wU h he).imp (oX fun _ _ _ z => z)
variable {ta tb : CT} {rest : List Expr}
noncomputable def nj (ta tb : CT) : CT := fun ρ S => (ta ρ S).bind fun p => if p.1 = true then tb ρ p.2 else some (false, p.2)
noncomputable def cOr (ta tb : CT) : CT := fun ρ S => (ta ρ S).bind fun p => if p.1 = true then some (true, p.2) else tb ρ p.2
noncomputable def yu (ta : CT) : CT := fun ρ S => (ta ρ S).bind fun p => some (!p.1, p.2)
theorem uu (h : QW X e ta) : QT X e ta := WW.pt h
theorem mI (ha : QT X a ta) : QW X (.BoolOp .And [a] pos) ta := tJ ha
theorem uv (ha : QT X a ta) : QW X (.BoolOp .Or [a] pos) ta := wQ ha
theorem mJ (ha : QT X a ta) (hb : QW X (.BoolOp .And (b :: rest) pos) tb) : QW X (.BoolOp .And (a :: b :: rest) pos) (nj ta tb) := (wR ha hb).imp fun σ H Q hz => mi hz fun m ρ S u S' sr lr hc post => by
 obtain ⟨⟨x, S1⟩, h1, h2⟩ := Option.bind_eq_some_iff.mp hc
 refine ⟨m, ρ, S, x, S1, sr, lr, h1, fun m1 H1 e1 sr1 => ?_⟩
 cases x with
 | true => exact yC ⟨m1, ρ, S1, u, S', sr1, lr.mono e1, h2, post.mono e1⟩
 | false => cases h2; exact yD (post m1 H1 e1 sr1)
theorem Ad (ha : QT X a ta) (hb : QW X (.BoolOp .Or (b :: rest) pos) tb) : QW X (.BoolOp .Or (a :: b :: rest) pos) (cOr ta tb) := (zy ha hb).imp fun σ H Q hz => mi hz fun m ρ S u S' sr lr hc post => by
 obtain ⟨⟨x, S1⟩, h1, h2⟩ := Option.bind_eq_some_iff.mp hc
 refine ⟨m, ρ, S, x, S1, sr, lr, h1, fun m1 H1 e1 sr1 => ?_⟩
 cases x with
 | true => cases h2; exact yC (post m1 H1 e1 sr1)
 | false => exact yD ⟨m1, ρ, S1, u, S', sr1, lr.mono e1, h2, post.mono e1⟩
theorem mH (ha : QT X a ta) : QT X (.UnaryOp .Not a pos) (yu ta) := (wV ha).imp fun σ H Q hz => mi hz fun m ρ S u S' sr lr hc post => by
 obtain ⟨⟨x, S1⟩, h1, h2⟩ := Option.bind_eq_some_iff.mp hc
 cases h2
 exact ⟨m, ρ, S, x, _, sr, lr, h1, fun m1 H1 e1 sr1 => post m1 H1 e1 sr1⟩
noncomputable def kK (ca cb : CE) : CE := fun ρ S => (ca ρ S).bind fun p => match p.1 with
 | .bl true => cb ρ p.2
 | .bl false => some (.bl false, p.2)
 | _ => none
noncomputable def Et (ca cb : CE) : CE := fun ρ S => (ca ρ S).bind fun p => match p.1 with
 | .bl false => cb ρ p.2
 | .bl true => some (.bl true, p.2)
 | _ => none
noncomputable def vk (ca : CE) : CE := fun ρ S => (ca ρ S).bind fun p => match p.1 with
 | .bl b => some (.bl (!b), p.2)
 | _ => none
theorem pZ {op} (h : QE X a ca) : QE X (.BoolOp op [a] pos) ca := xa h
theorem jB (ha : QE X a ca) (hb : QE X (.BoolOp .And (b :: rest) pos) cb) : QE X (.BoolOp .And (a :: b :: rest) pos) (kK ca cb) := (xg ha hb).imp fun σ H Q hz => mi hz fun m ρ S u S' sr lr hc post => by
 obtain ⟨⟨x, S1⟩, h1, h2⟩ := Option.bind_eq_some_iff.mp hc
 refine ⟨m, ρ, S, x, S1, sr, lr, h1, fun m1 v1 H1 e1 sr1 i1 => ?_⟩
 cases x with
 | bl k =>
  refine ⟨k, i1.of_bl, ?_⟩
  cases k with
  | true => exact yC ⟨m1, ρ, S1, u, S', sr1, lr.mono e1, h2, post.mono e1⟩
  | false => cases h2; exact yD (post m1 _ H1 e1 sr1 .bl_)
 | _ => simp at h2
theorem Ae (ha : QE X a ca) : QE X (.UnaryOp .Not a pos) (vk ca) := (xb ha).imp fun σ H Q hz => mi hz fun m ρ S u S' sr lr hc post => by
 obtain ⟨⟨x, S1⟩, h1, h2⟩ := Option.bind_eq_some_iff.mp hc
 refine ⟨m, ρ, S, x, S1, sr, lr, h1, fun m1 v1 H1 e1 sr1 i1 => ?_⟩
 cases x with
 | bl k => cases h2; exact ⟨k, i1.of_bl, post m1 _ H1 e1 sr1 .bl_⟩
 | _ => simp at h2
noncomputable def cIf (t : CT) (ca cb : CE) : CE := fun ρ S => (t ρ S).bind fun p => if p.1 = true then ca ρ p.2 else cb ρ p.2
noncomputable def ni (f f' : U → U → Sto → Option (U × Sto)) (ca cb cc : CE) : CE := fun ρ S => (ca ρ S).bind fun p => (cb ρ p.2).bind fun q => (f p.1 q.1 q.2).bind fun r => match r.1 with
 | .bl true => (cc ρ r.2).bind fun z => f' q.1 z.1 z.2
 | .bl false => some (.bl false, r.2)
 | _ => none
theorem sQ {K : PySem.W.Frag} {r r' : R2} {f f' : U → U → Sto → Option (U × Sto)} (hp : OpP K r f) (hp' : OpP K r' f') : ∀ σ H Q, tE K (ni f f' ca cb cc) σ H Q → qV r r' (tE K ca) (tE K cb) (tE K cc) σ H Q := by
 rintro σ H Q ⟨m, ρ, S, u, S', sr, lr, hc, post⟩
 obtain ⟨⟨x, S1⟩, h1, h⟩ := Option.bind_eq_some_iff.mp hc
 obtain ⟨⟨y, S2⟩, h2, h⟩ := Option.bind_eq_some_iff.mp h
 obtain ⟨⟨z, S3⟩, h3, h4⟩ := Option.bind_eq_some_iff.mp h
 refine ⟨m, ρ, S, x, S1, sr, lr, h1, fun m1 v1 H1 e1 sr1 i1 => ⟨m1, ρ, S1, y, S2, sr1, lr.mono e1, h2, fun m2 v2 H2 e2 sr2 i2 => hp m2 S2 H2 x y v1 v2 z S3 _ sr2 (i1.mono e2) i2 h3 fun m3 v3 H3 e3 sr3 i3 => ?_⟩⟩
 have e03 := (e1.trans e2).trans e3
 cases z with
 | bl k =>
  refine ⟨k, i3.of_bl, ?_⟩
  cases k with
  | true =>
   obtain ⟨⟨w, S4⟩, h5, h6⟩ := Option.bind_eq_some_iff.mp h4
   exact yC ⟨m3, ρ, S3, w, S4, sr3, lr.mono e03, h5, fun m4 v4 H4 e4 sr4 i4 => hp' m4 S4 H4 y w v2 v4 u S' Q sr4 (i2.mono (e3.trans e4)) i4 h6 (post.mono (e03.trans e4))⟩
  | false => cases h4; exact yD (post m3 _ H3 e03 sr3 .bl_)
 | _ => simp at h4
theorem xC {op op' : CmpOp} {r r' : R2} {f f' : U → U → Sto → Option (U × Sto)} (ho : OpR X (compareOp op) r) (hp : OpP X.K r f) (ho' : OpR X (compareOp op') r') (hp' : OpP X.K r' f') (ha : QE X a ca) (hb : QE X b cb) (hc : QE X c cc)
  (hm : lastMarks [op, op'] [b, c] = false := by with_unfolding_all rfl) : QE X (.Compare a [op, op'] [b, c] pos) (ni f f' ca cb cc) := (qJ ho ho' ha hb hc hm).imp (sQ hp hp')
variable {es : List Expr} {cr : CA}
noncomputable def aI : CA := fun _ S => some ([], S)
noncomputable def ah (ca : CE) (cr : CA) : CA := fun ρ S => (ca ρ S).bind fun p => (cr ρ p.2).bind fun q => some (p.1 :: q.1, q.2)
theorem aB : QA X [] aI := ⟨gy.imp fun σ H Q hz => mi hz fun m ρ S u S' sr lr hc post => by cases hc; exact post m [] H .refl sr .nil_, fun ρ S us S' h => by cases h; rfl⟩
theorem ab (ha : QE X e ca) (hr : QA X es cr) (hs : starEach (e :: es) X.env = (false, eval e X.env) :: starEach es X.env := by rfl) : QA X (e :: es) (ah ca cr) := ⟨(dF ha hr.h hs).imp fun σ H Q hz => mi hz fun m ρ S u S' sr lr hc post => by
 obtain ⟨⟨x, S1⟩, h1, h⟩ := Option.bind_eq_some_iff.mp hc
 obtain ⟨⟨y, S2⟩, h2, h3⟩ := Option.bind_eq_some_iff.mp h
 cases h3
 exact ⟨m, ρ, S, x, S1, sr, lr, h1, fun m1 v1 H1 e1 sr1 i1 => ⟨m1, ρ, S1, y, S2, sr1, lr.mono e1, h2, fun m2 v2 H2 e2 sr2 i2 => post m2 _ H2 (e1.trans e2) sr2 (.cons_ (i1.mono e2) i2)⟩⟩,
 fun ρ S us S' h => by
 obtain ⟨⟨x, S1⟩, h1, h⟩ := Option.bind_eq_some_iff.mp h
 obtain ⟨⟨y, S2⟩, h2, h3⟩ := Option.bind_eq_some_iff.mp h
 cases h3
 simp [hr.len ρ S1 y S2 h2]⟩
noncomputable def jT (cr : CA) : CE := fun ρ S => (cr ρ S).bind fun p => some (.tup p.1, p.2)
noncomputable def qy (cr : CA) : CE := fun ρ S => (cr ρ S).bind fun p => some (.ref p.2.length, p.2 ++ [.lst p.1])
theorem gr {m : List Addr} {S : Sto} {q : Addr} (h : m.length = S.length) : (m ++ [q])[S.length]? = some q := by rw [List.getElem?_append_right (by omega)]; simp [h]
theorem lH {K : PySem.W.Frag} {m : List Addr} {H : Hp} {S : Sto} {us : List U} {xs : List V} {Q : VK} {p : Addr} (sr : Sr K m S H) (i : IsL K m H xs us) (post : gw K m H Q (.tup us) S) (hp : H p = none) : Q (.ref p) (upd H p (.tup xs)) :=
 post m _ _ (.of (dH hp _)) (sr.same (dG hp _)) (.tup_ (SqT.of bj) (i.mono (.of (dH hp _))))
theorem iO {K : PySem.W.Frag} {m : List Addr} {H : Hp} {S : Sto} {us : List U} {xs : List V} {Q : VK} {p : Addr} (sr : Sr K m S H) (i : IsL K m H xs us) (post : gw K m H Q (.ref S.length) (S ++ [.lst us])) (hp : H p = none) : Q (.ref p) (upd H p (.lst xs)) :=
 post (m ++ [p]) _ _ (.new (dH hp _)) (sr.new hp ⟨xs, bj, i.mono (.new (dH hp _))⟩) (.ref_ (gr sr.len))
theorem fh {x1} (h : QA X es cr) (hl : es.length ≤ 1000 := by exact Nat.le_of_ble_eq_true rfl) : QE X (.Tuple es x1 pos) (jT cr) := (w9 h.h).imp fun σ H Q hz => mi hz fun m ρ S u S' sr lr hc post => by
 obtain ⟨⟨us, S1⟩, h1, h2⟩ := Option.bind_eq_some_iff.mp hc
 cases h2
 refine ⟨m, ρ, S, us, _, sr, lr, h1, fun m1 v1 H1 e1 sr1 i1 => ⟨vF ?_, fun p hp => lH sr1 i1 (post.mono e1) hp⟩⟩
 rw [i1.length, h.len _ _ _ _ h1]; exact hl
theorem kf (h : QA X es cr) (hl : es.length ≤ 1000 := by exact Nat.le_of_ble_eq_true rfl) : QE X (.List es pos) (qy cr) := (qI h.h).imp fun σ H Q hz => mi hz fun m ρ S u S' sr lr hc post => by
 obtain ⟨⟨us, S1⟩, h1, h2⟩ := Option.bind_eq_some_iff.mp hc
 cases h2
 refine ⟨m, ρ, S, us, _, sr, lr, h1, fun m1 v1 H1 e1 sr1 i1 => ⟨vF ?_, fun p hp => iO sr1 i1 (post.mono e1) hp⟩⟩
 rw [i1.length, h.len _ _ _ _ h1]; exact hl
noncomputable def cCB (f : List U → Sto → Option (U × Sto)) (cr : CA) : CE := fun ρ S => (cr ρ S).bind fun p => f p.1 p.2
noncomputable def kL (K : PySem.W.Frag) (r : List V → Hp → VK → Prop) (f : List U → Sto → Option (U × Sto)) : Prop :=
 ∀ m S H us vs u S' Q, Sr K m S H → IsL K m H vs us → f us S = some (u, S') → gw K m H Q u S' → r vs H Q
theorem v7 {K : PySem.W.Frag} {r : List V → Hp → VK → Prop} {f : List U → Sto → Option (U × Sto)} (hp : kL K r f) : ∀ σ H Q, tE K (cCB f cr) σ H Q → tCB r (tA K cr) σ H Q := by
 rintro σ H Q ⟨m, ρ, S, u, S', sr, lr, hc, post⟩
 obtain ⟨⟨us, S1⟩, h1, h2⟩ := Option.bind_eq_some_iff.mp hc
 exact ⟨m, ρ, S, us, S1, sr, lr, h1, fun m1 v1 H1 e1 sr1 i1 => hp m1 S1 H1 us v1 u S' Q sr1 i1 h2 (post.mono e1)⟩
theorem cG {id : String} {x : Str} {p : Pos} {r : List V → Hp → VK → Prop} {f : List U → Sto → Option (U × Sto)} (hc : eA X (.builtin id) r) (hp : kL X.K r f) (hg : Gl X x) (hm : X.mg x = none) (hv : bootBuiltins x = some (.builtin id)) (ha : QA X (e :: es) cr) (hn : x ≠ "__name__" := by decide) (hdb : (x == ("__debug__" : Str)) = false := by decide) (he : starEach (e :: es) X.env = (false, eval e X.env) :: starEach es X.env := by rfl) (hpl : (backTo pos (starEach es X.env)).any (·.1) = false := by rfl) :
  QE X (.Call (.Name x p) (e :: es) [] pos) (cCB f cr) := (mw hc hg hm hv ha.h hn hdb he hpl).imp (v7 hp)
theorem fH {id : String} {x : Str} {p : Pos} {r : List V → Hp → VK → Prop} {f : List U → Sto → Option (U × Sto)} (hc : eA X (.type id) r) (hp : kL X.K r f) (hg : Gl X x) (hm : X.mg x = none) (hv : bootBuiltins x = some (.type id)) (ha : QA X (e :: es) cr) (hn : x ≠ "__name__" := by decide) (hdb : (x == ("__debug__" : Str)) = false := by decide) (he : starEach (e :: es) X.env = (false, eval e X.env) :: starEach es X.env := by rfl) (hpl : (backTo pos (starEach es X.env)).any (·.1) = false := by rfl) :
  QE X (.Call (.Name x p) (e :: es) [] pos) (cCB f cr) := (kM hc hg hm hv ha.h hn hdb he hpl).imp (v7 hp)
end
noncomputable def tj (K : PySem.W.Frag) (f : List U → Sto → Option (U × Sto)) : Sp := fun vs H Q _ => ∃ m us S u S', IsL K m H vs us ∧ Sr K m S H ∧ f us S = some (u, S') ∧ gw K m H Q u S'
noncomputable abbrev Fn := List U → Sto → Option (U × Sto)
noncomputable abbrev dn (P : Program) (w : World) (K : PySem.W.Frag) (mg : Str → Option Value) (base : Heap) (x : Str) (k : Nat) (ps : List Str) (f : Fn) : Prop := Has P w K mg base x k ps (tj K f)
noncomputable def mE (n : Nat) (us : List U) : Rho := us.map some ++ List.replicate (n - us.length) none
noncomputable def fnU (n k : Nat) (c : CS) : Fn := fun us S => if us.length = k then (c (mE n us) S).bind fun r => match r.1 with
 | .rt u => some (u, r.2.2)
 | .nx => some (.non, r.2.2)
 | _ => none else none
section
variable {P : Program} {w : World} {K : PySem.W.Frag} {mg : Str → Option Value} {base : Heap} {x : Str} {st : Stmt} {ps N : List Str} {k : Nat} {c : CS} {f : Fn}
theorem uW {m : List Addr} {H : Hp} {vs : List V} {us : List U} (i : IsL K m H vs us) : Lr K m H (mE N.length us) (L2.gm N vs) := by
 have hl := i.length
 refine ⟨by simp [mE, L2.gm, hl], fun j u e => ?_⟩
 unfold mE at e
 unfold L2.gm
 by_cases c : j < us.length
 ·rw [List.getElem?_append_left (by simpa using c), List.getElem?_map] at e
  rw [List.getElem?_append_left (by simpa [hl] using c), List.getElem?_map]
  rw [List.getElem?_eq_getElem c] at e
  simp at e
  obtain ⟨v, e1, e2⟩ := i.getD (List.getElem?_eq_getElem c)
  rw [e1]
  subst e
  exact ⟨v, rfl, e2⟩
 ·rw [List.getElem?_append_right (by simpa using c), List.getElem?_replicate] at e
  split at e <;> cases e
theorem su {X : Cx} {body : List Stmt} {Q : VK} {E : XK} {vs : List V} {H : Hp} (hK : X.K = K) (h : tj K (fnU N.length ps.length c) vs H Q E) : tS X.K c { nx := fun _ H' => Q .non H', rt := Q } (L2.gm N vs) H := by
 subst hK
 obtain ⟨m, us, S, u, S', i, sr, hf, post⟩ := h
 unfold fnU at hf
 split at hf
 ·obtain ⟨⟨o, ρ', S2⟩, h1, h2⟩ := Option.bind_eq_some_iff.mp hf
  refine ⟨m, _, S, o, ρ', S2, sr, uW i, h1, ?_⟩
  cases o with
  | rt v => cases h2; exact post
  | nx => cases h2; exact fun m1 σ1 H1 e1 sr1 _ => post m1 _ H1 e1 sr1 .non_
  | bk => simp at h2
  | ct => simp at h2
 ·cases hf
theorem o3 {vs : List V} {H : Hp} {Q : VK} {E : XK} {n k : Nat} (h : tj K (fnU n k c) vs H Q E) : vs.length = k := by
 obtain ⟨m, us, S, u, S', i, sr, hf, post⟩ := h
 unfold fnU at hf
 split at hf
 ·rename_i e
  rw [i.length, e]
 ·cases hf
theorem _root_.OG.Def.pure (d : Def K mg x st ps) (S : aU N ps (ao st))
  (hb : ∀ (f : Addr) (cdv : Value) (A : Around) (outer : List Env) (s : Shared) (H : Hp) (E : XK), fi k (A.deeper (envOfC x (ao st) s.heap.objs.size f cdv)) →
   WSs (qx CX0 P w K mg base N x (ao st) f cdv A outer s H E).nox (aR st) (tS K c)) : dn P w K mg base x (k + 1) ps (fnU N.length ps.length c) :=
 d.has S (fun vs H Q E h => o3 h) fun f cdv A outer s H vs Q E hr h => ⟨_, hb f cdv A outer s H E hr, su (X := (qx CX0 P w K mg base N x (ao st) f cdv A outer s H E).nox) (body := []) (ps := ps) rfl h⟩
theorem _root_.OG.Def.no (d : Def K mg x st ps) : dn P w K mg base x k ps (fun _ _ => none) := d.none fun vs H Q E h => by
 obtain ⟨m, us, S, u, S', i, sr, hf, post⟩ := h
 cases hf
theorem aZ {X : Cx} {e : Expr} {es : List Expr} {cr : CA} {p pos : Pos} (F : Has X.prog X.w X.K X.mg X.base x k ps (tj X.K f)) (hr : fi k X.A) (hg : Gl X x) (ha : QA X (e :: es) cr)
  (hdb : (x == ("__debug__" : Str)) = false := by decide) (he : starEach (e :: es) X.env = (false, eval e X.env) :: starEach es X.env := by rfl) (hpl : (backTo pos (starEach es X.env)).any (·.1) = false := by rfl) :
  QE X (.Call (.Name x p) (e :: es) [] pos) (cCB f cr) := (vA F hr hg ha.h hdb he hpl).imp fun σ H Q hz => mi hz fun m ρ S u S' sr lr hc post => by
 obtain ⟨⟨us, S1⟩, h1, h2⟩ := Option.bind_eq_some_iff.mp hc
 exact ⟨m, ρ, S, us, S1, sr, lr, h1, fun m1 v1 H1 e1 sr1 i1 => ⟨m1, us, S1, u, S', by simpa using i1, sr1, h2, post.mono e1⟩⟩
end
section
variable {X : Cx} {e a b c : Expr} {ca cb cc : CE} {pos : Pos} {st : Stmt} {sts : List Stmt} {c1 c2 : CS}
noncomputable def cH : CS := fun ρ S => some (.nx, ρ, S)
noncomputable def bw (c1 c2 : CS) : CS := fun ρ S => (c1 ρ S).bind fun r => match r.1 with
 | .nx => c2 r.2.1 r.2.2
 | o => some (o, r.2.1, r.2.2)
theorem bK : QSs X [] cH := tL.imp fun D σ H hz => ql hz fun m ρ S o ρ' S' sr lr hc post => by cases hc; exact post m σ H .refl sr lr
theorem ar (h1 : QS X st c1) (h2 : QSs X sts c2) : QSs X (st :: sts) (bw c1 c2) := (mq h1 h2).imp fun D σ H hz => ql hz fun m ρ S o ρ' S' sr lr hc post => by
 obtain ⟨⟨o1, ρ1, S1⟩, h1, h2⟩ := Option.bind_eq_some_iff.mp hc
 refine ⟨m, ρ, S, o1, ρ1, S1, sr, lr, h1, ?_⟩
 cases o1 with
 | nx => exact fun m1 σ1 H1 e1 sr1 lr1 => ⟨m1, ρ1, S1, o, ρ', S', sr1, lr1, h2, post.mono e1⟩
 | rt u => cases h2; exact post
 | bk => cases h2; exact post
 | ct => cases h2; exact post
theorem aC (h1 : QS X st c1) : QSs X [st] c1 := oR h1
noncomputable def v8 : CS := fun _ _ => none
theorem ur : QS X st v8 := qF.imp fun D σ H hz => ql hz fun m ρ S o ρ' S' sr lr hc post => by cases hc
noncomputable def dB (ca : CE) : CS := fun ρ S => (ca ρ S).bind fun p => some (.nx, ρ, p.2)
theorem bI (he : QE X e ca) (hs : swapsWith e none pos.line X.env = pure false := by rfl) : QS X (.Expr e pos) (dB ca) := (tM he hs).imp fun D σ H hz => ql hz fun m ρ S o ρ' S' sr lr hc post => by
 obtain ⟨⟨u, S1⟩, h1, h2⟩ := Option.bind_eq_some_iff.mp hc
 cases h2
 exact ⟨m, ρ, S, u, _, sr, lr, h1, fun m1 v1 H1 e1 sr1 i1 => post m1 σ H1 e1 sr1 (lr.mono e1)⟩
noncomputable def eO (ca : CE) : CS := fun ρ S => (ca ρ S).bind fun p => some (.rt p.1, ρ, p.2)
theorem aV (he : QE X e ca) : QS X (.Return (some e) pos) (eO ca) := (qE he).imp fun D σ H hz => ql hz fun m ρ S o ρ' S' sr lr hc post => by
 obtain ⟨⟨u, S1⟩, h1, h2⟩ := Option.bind_eq_some_iff.mp hc
 cases h2
 exact ⟨m, ρ, S, u, _, sr, lr, h1, post⟩
noncomputable def eS (t : CT) (c1 c2 : CS) : CS := fun ρ S => (t ρ S).bind fun p => if p.1 = true then c1 ρ p.2 else c2 ρ p.2
theorem cD {t : CT} {s1 s2 : List Stmt} (hc : QT X c t) (h1 : QSs X s1 c1) (h2 : QSs X s2 c2) : QS X (.If c s1 s2 pos) (eS t c1 c2) := (zA hc h1 h2).imp fun D σ H hz => ql hz fun m ρ S o ρ' S' sr lr hc post => by
 obtain ⟨⟨x, S1⟩, h1, h2⟩ := Option.bind_eq_some_iff.mp hc
 refine ⟨m, ρ, S, x, S1, sr, lr, h1, fun m1 H1 e1 sr1 => ?_⟩
 cases x with
 | true => exact yC ⟨m1, ρ, S1, o, ρ', S', sr1, lr.mono e1, h2, post.mono e1⟩
 | false => exact yD ⟨m1, ρ, S1, o, ρ', S', sr1, lr.mono e1, h2, post.mono e1⟩
noncomputable abbrev CG := U → Rho → Sto → Option (Rho × Sto)
noncomputable def tG (K : PySem.W.Frag) (g : CG) : TG := fun v σ H Q => ∃ m ρ S u ρ' S', Sr K m S H ∧ Lr K m H ρ σ ∧ Is K m H v u ∧ g u ρ S = some (ρ', S') ∧ gc K m H Q ρ' S'
noncomputable abbrev QG (X : Cx) (e : Expr) (g : CG) : Prop := WG X e (tG X.K g)
noncomputable def gNm (i : Nat) : CG := fun u ρ S => some (ρ.set i (some u), S)
theorem eW {i : Nat} (h : WG X e (qh i)) : QG X e (gNm i) := h.imp fun v σ H Q hz => Es hz fun m ρ S u ρ' S' sr lr iu hc post => by
 cases hc
 exact post m _ H .refl sr (lr.set i iu)
noncomputable def fc : List Nat → List U → Rho → Option Rho
 | [], [], ρ => some ρ
 | i :: is, u :: us, ρ => fc is us (ρ.set i (some u))
 | _, _, _ => none
noncomputable def tGs (K : PySem.W.Frag) (is : List Nat) : TGs := fun vs σ H Q => ∃ m ρ S us ρ', Sr K m S H ∧ Lr K m H ρ σ ∧ IsL K m H vs us ∧ fc is us ρ = some ρ' ∧ gc K m H Q ρ' S
noncomputable abbrev QGs (X : Cx) (es : List Expr) (is : List Nat) : Prop := WGs X es (tGs X.K is)
theorem xy : QGs X [] [] := tQ.imp fun v σ H Q ⟨m, ρ, S, us, ρ', sr, lr, iu, hc, post⟩ => by
 cases us with
 | nil => cases hc; exact ⟨iu.of_nil, post m σ H .refl sr lr⟩
 | cons a r => simp [fc] at hc
theorem o8 {i : Nat} {is : List Nat} {es : List Expr} (h : WG X e (qh i)) (h2 : QGs X es is) (hs : (assignEach (e :: es) X.env).map (·.2) = assign e X.env :: (assignEach es X.env).map (·.2) := by rfl) : QGs X (e :: es) (i :: is) := (qG h h2 hs).imp fun v σ H Q ⟨m, ρ, S, us, ρ', sr, lr, iu, hc, post⟩ => by
 cases us with
 | nil => simp [fc] at hc
 | cons u r =>
  obtain ⟨x, xr, rfl, i1, i2⟩ := iu.of_cons
  exact ⟨x, xr, rfl, m, ρ.set i (some u), S, r, ρ', sr, lr.set i i1, i2, hc, post⟩
noncomputable def gTp (is : List Nat) : CG := fun u ρ S => match u with
 | .tup us => (fc is us ρ).bind fun ρ' => some (ρ', S)
 | _ => none
theorem kS : ∀ {is : List Nat} {us : List U} {ρ ρ' : Rho}, fc is us ρ = some ρ' → us.length = is.length
 | [], [], _, _, _ => rfl
 | [], _ :: _, _, _, h => by simp [fc] at h
 | _ :: _, [], _, _, h => by simp [fc] at h
 | i :: is, u :: us, ρ, ρ', h => by
  have := kS (is := is) (us := us) h
  simp [this]
theorem Ac {is : List Nat} {es : List Expr} {k : Nat} (hc : X.calm = true) (h : QGs X es is) (hn : (assignEach es X.env).length = is.length := by rfl) (hst : (assignEach es X.env).findIdx? (·.1) = none := by rfl) : QG X (.Tuple es k pos) (gTp is) := (w6 hc h hn hst).imp fun v σ H Q hz => Es hz fun m ρ S u ρ' S' sr lr iu hc post => by
 cases u with
 | tup us =>
  obtain ⟨ρ2, h1, h2⟩ := Option.bind_eq_some_iff.mp hc
  cases h2
  obtain ⟨a, xs, rfl, sq, il⟩ := iu.of_tup
  refine ⟨a, xs, rfl, sq, ?_, m, ρ, S, us, ρ', sr, lr, il, h1, post⟩
  rw [il.length]; exact kS h1
 | _ => simp [gTp] at hc
noncomputable def E3 (ca : CE) (g : CG) : CS := fun ρ S => (ca ρ S).bind fun p => (g p.1 ρ p.2).bind fun q => some (.nx, q.1, q.2)
noncomputable def dU (i : Nat) (ca : CE) : CS := fun ρ S => (ca ρ S).bind fun p => some (.nx, ρ.set i (some p.1), p.2)
theorem aW {i : Nat} {x : Str} {pos' : Pos} (hN : X.N.Nodup) (hi : X.N[i]? = some x) (hx : Loc X.env.scope x) (he : QE X e ca) (hs : swapsWith e (some (.Name x pos')) pos.line X.env = pure false := by rfl) (hf : X.fn x = true ∨ X.env.scope.names.lookup x = some .local := by first | exact .inl rfl | exact .inr rfl | assumption) :
  QS X (.Assign [.Name x pos'] e pos) (dU i ca) := (qD hN hi hx he hs hf).imp fun D σ H hz => ql hz fun m ρ S o ρ' S' sr lr hc post => by
 obtain ⟨⟨u, S1⟩, h1, h2⟩ := Option.bind_eq_some_iff.mp hc
 cases h2
 exact ⟨m, ρ, S, u, _, sr, lr, h1, fun m1 v1 H1 e1 sr1 i1 => post m1 _ H1 e1 sr1 ((lr.mono e1).set i i1)⟩
noncomputable abbrev CI := Rho → Sto → Option (List U × (Sto → Prop) × Sto)
noncomputable def yy (K : PySem.W.Frag) (J : It) (m : List Addr) (H : Hp) (us : List U) (ok : Sto → Prop) : Prop := ∀ m2 S2 H2 i, Ext K m H m2 H2 → Sr K m2 S2 H2 → ok S2 →
 (∀ u, us[i]? = some u → J.go i H2 ∧ ∀ x H3, J.yld i H2 x H3 → Ext K m2 H2 m2 H3 ∧ Sr K m2 S2 H3 ∧ Is K m2 H3 x u) ∧ (us.length ≤ i → J.stop i H2)
noncomputable def tI (K : PySem.W.Frag) (ci : CI) : TI := fun σ H R => ∃ m ρ S us ok S', Sr K m S H ∧ Lr K m H ρ σ ∧ ci ρ S = some (us, ok, S') ∧ ∀ m' H' J, Ext K m H m' H' → Sr K m' S' H' → yy K J m' H' us ok → R J H'
noncomputable abbrev QI (X : Cx) (tg iter : Expr) (ci : CI) : Prop := WI X tg iter (tI X.K ci)
open Classical in
noncomputable def eM (ok : Sto → Prop) (g : CG) (cb : CS) : List U → CS
 | [] => fun ρ S => if ok S then some (.nx, ρ, S) else none
 | u :: us => fun ρ S => if ok S then (g u ρ S).bind fun p => (cb p.1 p.2).bind fun r => match r.1 with
  | .nx => eM ok g cb us r.2.1 r.2.2
  | .ct => eM ok g cb us r.2.1 r.2.2
  | .bk => some (.nx, r.2.1, r.2.2)
  | .rt v => some (.rt v, r.2.1, r.2.2) else none
noncomputable def lT (ci : CI) (g : CG) (cb : CS) : CS := fun ρ S => (ci ρ S).bind fun p => eM p.2.1 g cb p.1 ρ p.2.2
theorem m8 {α : Type} {us : List α} {i : Nat} {u : α} (h : us[i]? = some u) : us.drop i = u :: us.drop (i + 1) := by
 obtain ⟨hl, e⟩ := List.getElem?_eq_some_iff.mp h
 rw [List.drop_eq_getElem_cons hl, e]
theorem uX {K : PySem.W.Frag} {g : CG} {cb : CS} {J : It} {us : List U} {ok : Sto → Prop} {D : we} {m1 : List Addr} {H1 : Hp} {ρ ρ' : Rho} {σ : L2.St} {S1 S' : Sto} {o : Out} (sr1 : Sr K m1 S1 H1) (lr1 : Lr K m1 H1 ρ σ) (ito : yy K J m1 H1 us ok) (h2 : eM ok g cb us ρ S1 = some (o, ρ', S')) (post : qu K m1 H1 D o ρ' S') :
  ∃ W : Nat → Nat → L2.St → Hp → Prop, (∃ n, W 0 n σ H1) ∧ ∀ i n σ H, W i n σ H →
   (J.stop i H ∧ D.nx σ H) ∨ (J.go i H ∧ ∃ N : L2.St → Hp → Prop, (∀ σ' H', N σ' H' → ∃ n', n' < n ∧ W (i + 1) n' σ' H') ∧ ∀ x H', J.yld i H x H' → tG K g x σ H' fun σ2 H2 => tS K cb { D with nx := N, ct := N, bk := D.nx } σ2 H2) := by
 let W : Nat → Nat → L2.St → Hp → Prop := fun i n σ2 H2 => n = us.length - i ∧ i ≤ us.length ∧ ∃ m2 ρ2 S2, Ext K m1 H1 m2 H2 ∧ Sr K m2 S2 H2 ∧ Lr K m2 H2 ρ2 σ2 ∧ eM ok g cb (us.drop i) ρ2 S2 = some (o, ρ', S')
 refine ⟨W, ⟨us.length, by simp, Nat.zero_le _, m1, ρ, S1, .refl, sr1, lr1, by simpa using h2⟩, ?_⟩
 rintro i n σ2 H2 ⟨rfl, hi, m2, ρ2, S2, e2, sr2, lr2, hl⟩
 by_cases hlt : i < us.length
 ·have hu := List.getElem?_eq_getElem hlt
  rw [m8 hu] at hl
  unfold eM at hl
  split at hl
  ·rename_i hok
   obtain ⟨⟨ρ3, S3⟩, h3, hl⟩ := Option.bind_eq_some_iff.mp hl
   obtain ⟨⟨o4, ρ4, S4⟩, h4, hl⟩ := Option.bind_eq_some_iff.mp hl
   obtain ⟨hgo, hy⟩ := (ito m2 S2 H2 i e2 sr2 hok).1 _ hu
   refine .inr ⟨hgo, W (i + 1) (us.length - (i + 1)), fun σ' H' w' => ⟨_, by omega, w'⟩, fun x H3 y => ?_⟩
   obtain ⟨e3, sr3, ix⟩ := hy x H3 y
   refine ⟨m2, ρ2, S2, _, ρ3, S3, sr3, lr2.mono e3, ix, h3, fun m4 σ4 H4 e4 sr4 lr4 => ⟨m4, ρ3, S3, o4, ρ4, S4, sr4, lr4, h4, ?_⟩⟩
   have e14 := (e2.trans e3).trans e4
   have nxt : eM ok g cb (us.drop (i + 1)) ρ4 S4 = some (o, ρ', S') → gc K m4 H4 (W (i + 1) (us.length - (i + 1))) ρ4 S4 := fun hn m5 σ5 H5 e5 sr5 lr5 => ⟨rfl, hlt, m5, ρ4, S4, e14.trans e5, sr5, lr5, hn⟩
   cases o4 with
   | nx => exact nxt hl
   | ct => exact nxt hl
   | bk => cases hl; exact gc.mono e14 post
   | rt v => cases hl; exact gw.mono e14 post
  ·cases hl
 ·have e : i = us.length := by omega
  subst e
  rw [List.drop_length] at hl
  unfold eM at hl
  split at hl
  ·rename_i hok
   cases hl
   exact .inl ⟨(ito m2 _ H2 _ e2 sr2 hok).2 (Nat.le_refl _), post m2 σ2 H2 e2 sr2 lr2⟩
  ·cases hl
theorem yp {K : PySem.W.Frag} {ci : CI} {g : CG} {cb : CS} : ∀ D σ H, tS K (lT ci g cb) D σ H → C1 (tI K ci) (tG K g) (tS K cb) D σ H := by
 rintro D σ H ⟨m, ρ, S, o, ρ', S', sr, lr, hc, post⟩
 obtain ⟨⟨us, ok, S1⟩, h1, h2⟩ := Option.bind_eq_some_iff.mp hc
 exact ⟨m, ρ, S, us, ok, S1, sr, lr, h1, fun m1 H1 J e1 sr1 ito => uX sr1 (lr.mono e1) ito h2 (qu.mono e1 post)⟩
theorem jx {tg iter : Expr} {body : List Stmt} {ci : CI} {g : CG} {cb : CS} (hp : PassesOwn (model X.prog X.w) X.A X.env X.xe) (hc : X.calm = true) (hi : QI X tg iter ci) (hg : QG X tg g) (hb : QSs X body cb) (hs : ∀ x, foldedSetIterable iter X.env x = pure x := by intro _; rfl) : QS X (.For tg iter body [] pos) (lT ci g cb) := (wW hp hc hi hg hb hs).imp yp
noncomputable def eB (t : CT) (cb : CS) : Nat → CS
 | 0 => fun _ _ => none
 | n + 1 => fun ρ S => (t ρ S).bind fun p => if p.1 = true then (cb ρ p.2).bind fun r => match r.1 with
  | .nx => eB t cb n r.2.1 r.2.2
  | .ct => eB t cb n r.2.1 r.2.2
  | .bk => some (.nx, r.2.1, r.2.2)
  | .rt v => some (.rt v, r.2.1, r.2.2) else some (.nx, ρ, p.2)
theorem qK {K : PySem.W.Frag} {t : CT} {cb : CS} {n : Nat} : ∀ D σ H, tS K (eB t cb n) D σ H → qS (tT K t) (tS K cb) D σ H := by
 rintro D σ H ⟨m, ρ, S, o, ρ', S', sr, lr, hc, post⟩
 let W : Nat → L2.St → Hp → Prop := fun n σ2 H2 => ∃ m2 ρ2 S2, Ext K m H m2 H2 ∧ Sr K m2 S2 H2 ∧ Lr K m2 H2 ρ2 σ2 ∧ eB t cb n ρ2 S2 = some (o, ρ', S')
 refine ⟨W, ⟨n, m, ρ, S, .refl, sr, lr, hc⟩, ?_⟩
 rintro k σ2 H2 ⟨m2, ρ2, S2, e2, sr2, lr2, hl⟩
 cases k with
 | zero => cases hl
 | succ k =>
  unfold eB at hl
  obtain ⟨⟨x, S3⟩, h3, hl⟩ := Option.bind_eq_some_iff.mp hl
  refine ⟨m2, ρ2, S2, x, S3, sr2, lr2, h3, fun m3 H3 e3 sr3 => ?_⟩
  have e13 := e2.trans e3
  cases x with
  | true =>
   rw [if_pos rfl] at hl
   refine yC ?_
   obtain ⟨⟨o4, ρ4, S4⟩, h4, hl⟩ := Option.bind_eq_some_iff.mp hl
   refine ⟨W k, fun σ' H' w' => ⟨k, Nat.lt_succ_self _, w'⟩, m3, ρ2, S3, o4, ρ4, S4, sr3, lr2.mono e3, h4, ?_⟩
   have nxt : eB t cb k ρ4 S4 = some (o, ρ', S') → gc K m3 H3 (W k) ρ4 S4 := fun hn m5 σ5 H5 e5 sr5 lr5 => ⟨m5, ρ4, S4, e13.trans e5, sr5, lr5, hn⟩
   cases o4 with
   | nx => exact nxt hl
   | ct => exact nxt hl
   | bk => cases hl; exact gc.mono e13 post
   | rt v => cases hl; exact gw.mono e13 post
  | false =>
   rw [if_neg Bool.false_ne_true] at hl
   refine yD ?_
   cases hl
   exact post m3 σ2 H3 e13 sr3 (lr2.mono e3)
theorem uq {body : List Stmt} {t : CT} {cb : CS} (n : Nat) (hp : PassesOwn (model X.prog X.w) X.A X.env X.xe) (hc : QT X c t) (hb : QSs X body cb) : QS X (.While c body [] pos) (eB t cb n) := (qC hp hc hb).imp qK
noncomputable def iTp (ca : CE) : CI := fun ρ S => (ca ρ S).bind fun p => match p.1 with
 | .tup us => some (us, fun _ => True, p.2)
 | .ref l => match p.2[l]? with
  | some (.lst us) => some (us, fun S => S[l]? = some (.lst us), p.2)
  | _ => none
 | _ => none
theorem Bc {K : PySem.W.Frag} {m : List Addr} {H : Hp} {us : List U} {a : Addr} {xs : List V} (sq : SqT K H a xs) (il : IsL K m H xs us) : yy K (Itt K a) m H us (fun _ => True) := by
 intro m2 S2 H2 i e2 sr2 _
 have sq2 := e2.keep.t _ _ sq
 have il2 := il.mono e2
 refine ⟨fun u hu => ?_, fun hi => ⟨xs, sq2, by rw [il2.length]; exact hi⟩⟩
 obtain ⟨x, hx, ix⟩ := il2.getD hu
 refine ⟨⟨xs, x, sq2, hx⟩, fun y H3 hy => ?_⟩
 obtain ⟨rfl, hy⟩ := hy
 have := hy xs sq2
 rw [hx] at this; cases this
 exact ⟨.refl, sr2, ix⟩
theorem Be {K : PySem.W.Frag} {m : List Addr} {H : Hp} {us : List U} {a : Addr} {l : Nat} (hl : m[l]? = some a) : yy K (Itl K a) m H us (fun S => S[l]? = some (.lst us)) := by
 intro m2 S2 H2 i e2 sr2 hok
 obtain ⟨a', ha', xs, hx, il⟩ := sr2.get hok
 rw [e2.get hl] at ha'
 cases ha'
 refine ⟨fun u hu => ?_, fun hi => ⟨xs, SqL.of hx, by rw [il.length]; exact hi⟩⟩
 obtain ⟨x, hx', ix⟩ := il.getD hu
 refine ⟨⟨xs, x, SqL.of hx, hx'⟩, fun y H3 hy => ?_⟩
 obtain ⟨rfl, hy⟩ := hy
 have := hy xs (SqL.of hx)
 rw [hx'] at this; cases this
 exact ⟨.refl, sr2, ix⟩
theorem kW {tg : Expr} (h : QE X e ca) : QI X tg e (iTp ca) := ((wZ h).or (tP h)).imp fun σ H R hz => ql hz fun m ρ S us ok S' sr lr hc post => by
 obtain ⟨⟨u, S1⟩, h1, h2⟩ := Option.bind_eq_some_iff.mp hc
 cases u with
 | tup ws =>
  cases h2
  refine .inl ⟨m, ρ, S, .tup us, _, sr, lr, h1, fun m1 v1 H1 e1 sr1 i1 => ?_⟩
  obtain ⟨a, xs, rfl, sq, il⟩ := i1.of_tup
  exact ⟨a, rfl, ⟨xs, sq⟩, post m1 H1 _ e1 sr1 (Bc sq il)⟩
 | ref l =>
  simp only at h2
  split at h2
  ·rename_i us' hS
   cases h2
   refine .inr ⟨m, ρ, S, .ref l, _, sr, lr, h1, fun m1 v1 H1 e1 sr1 i1 => ?_⟩
   obtain ⟨a, hl, rfl⟩ := i1.of_ref
   obtain ⟨a', ha', xs, hx, il⟩ := sr1.get hS
   rw [hl] at ha'; cases ha'
   exact ⟨a, rfl, ⟨xs, SqL.of hx⟩, post m1 H1 _ e1 sr1 (Be hl)⟩
  ·cases h2
 | _ => simp at h2
noncomputable def jw (lo : Int) (n : Nat) : List U := (List.range n).map fun i => .int (lo + (i : Nat))
theorem u5 {K : PySem.W.Frag} {m : List Addr} {H : Hp} {lo : Int} {n : Nat} : yy K (Itr lo n) m H (jw lo n) (fun _ => True) := by
 intro m2 S2 H2 i e2 sr2 _
 refine ⟨fun u hu => ?_, fun hi => by show n ≤ i; simpa [jw] using hi⟩
 unfold jw at hu
 rw [List.getElem?_map] at hu
 by_cases c : i < n
 ·rw [List.getElem?_range c] at hu
  simp at hu
  subst hu
  refine ⟨c, fun y H3 hy => ?_⟩
  obtain ⟨rfl, rfl⟩ := hy
  exact ⟨.refl, sr2, .int_⟩
 ·rw [List.getElem?_eq_none (by simpa using c)] at hu
  cases hu
noncomputable def jM (cr : CA) : CI := fun ρ S => (cr ρ S).bind fun p => match p.1 with
 | [.int j] => if -(2 ^ 62) ≤ j ∧ j < 2 ^ 62 then some (jw 0 j.toNat, fun _ => True, p.2) else none
 | _ => none
theorem mG {tg : Expr} {cr : CA} {p : Pos} (hg : Gl X "range") (hm : X.mg "range" = none) (ha : QA X [a] cr) (hs : starEach [a] X.env = [(false, eval a X.env)] := by rfl) : QI X tg (.Call (.Name "range" p) [a] [] pos) (jM cr) := (pR hg hm ha.h hs).imp fun σ H R hz => ql hz fun m ρ S us ok S' sr lr hc post => by
 obtain ⟨⟨ws, S1⟩, h1, h2⟩ := Option.bind_eq_some_iff.mp hc
 simp only at h2
 split at h2
 ·rename_i j
  split at h2
  ·rename_i hj
   cases h2
   refine ⟨m, ρ, S, _, S', sr, lr, h1, fun m1 v1 H1 e1 sr1 i1 => ?_⟩
   obtain ⟨x, r, rfl, ix, ir⟩ := i1.of_cons
   rw [ir.of_nil, ix.of_int]
   exact ⟨j, rfl, hj.1, hj.2, post m1 H1 _ e1 sr1 u5⟩
  ·cases h2
 ·cases h2
end
noncomputable def fI (g : Int → Int → Option U) : U → U → Sto → Option (U × Sto)
 | .int i, .int j, S => (g i j).bind fun u => some (u, S)
 | _, _, _ => none
section
variable {X : Cx} {K : PySem.W.Frag}
theorem BB {C : Int → Int → Prop} {gV : Int → Int → V} {g : Int → Int → Option U} (h : ∀ i j u, g i j = some u → C i j ∧ ∀ m H, Is K m H (gV i j) u) : OpP K (rI C gV) (fI g) := by
 intro m S H x y v w u S' Q sr ix iy hf post
 cases x <;> cases y <;> simp only [fI] at hf <;> try cases hf
 rename_i i j
 obtain ⟨u1, h1, h2⟩ := Option.bind_eq_some_iff.mp hf
 cases h2
 obtain ⟨hc, hi⟩ := h i j u h1
 exact ⟨i, j, ix.of_int, iy.of_int, hc, post m _ H .refl sr (hi m H)⟩
theorem rG {gV : Int → Int → V} {g : Int → Int → Option U} (h : ∀ i j u, g i j = some u → ∀ m H, Is K m H (gV i j) u) : OpP K (rI0 gV) (fI g) := by
 intro m S H x y v w u S' Q sr ix iy hf post
 cases x <;> cases y <;> simp only [fI] at hf <;> try cases hf
 rename_i i j
 obtain ⟨u1, h1, h2⟩ := Option.bind_eq_some_iff.mp hf
 cases h2
 exact ⟨i, j, ix.of_int, iy.of_int, post m _ H .refl sr (h i j u h1 m H)⟩
noncomputable def uo (K : PySem.W.Frag) : R2 := fun x y H Q => ∃ a b xs ys, x = .ref a ∧ y = .ref b ∧ SqT K H a xs ∧ SqT K H b ys ∧ xs.length + ys.length ≤ sizeLine ∧ ∀ q H', pK H H' → SqT K H' q (xs ++ ys) → Q (.ref q) H'
theorem xZ : OpR X (binaryOp .Add) (uo X.K) := by
 intro pins s σ H x y v u Q I rx ry h
 obtain ⟨a, b, xs, ys, rfl, rfl, ha, hb, hz, q⟩ := h
 by_cases e : xs = []
 ·cases rx
  cases ry
  obtain ⟨its, r1, p1, _⟩ := I.tuple ha
  obtain ⟨its2, r2, p2, _⟩ := I.tuple hb
  refine vi p1 p2 (r1.nil_iff.mpr e) ⟨.ref b, H, I, rfl, q b H (.refl _) (by rw [e]; exact hb)⟩
 ·refine xY pins s σ H _ _ v u Q I rx ry ⟨a, b, xs, ys, rfl, rfl, ha, hb, e, hz, fun z => q a H (.refl _) (by rw [z, List.append_nil]; exact ha), fun _ p hp => q p _ (dG hp _) (SqT.of bj)⟩
noncomputable def sv : U → U → Sto → Option (U × Sto)
 | .tup a, .tup b, S => if a.length + b.length ≤ LIM then some (.tup (a ++ b), S) else none
 | _, _, _ => none
theorem uM : OpP K (uo K) sv := by
 intro m S H x y v w u S' Q sr ix iy hf post
 cases x <;> cases y <;> simp only [sv] at hf <;> try cases hf
 split at hf <;> try cases hf
 rename_i hl
 obtain ⟨a, xs, rfl, sa, la⟩ := ix.of_tup
 obtain ⟨b, ys, rfl, sb, lb⟩ := iy.of_tup
 refine ⟨a, b, xs, ys, rfl, rfl, sa, sb, lim (by rw [la.length, lb.length]; exact hl), fun q H' s sq => ?_⟩
 exact post m _ H' (.of (eQ s)) (sr.same s) (.tup_ sq ((la.append lb).mono (.of (eQ s))))
noncomputable def lO : U → U → Sto → Option (U × Sto)
 | .ref l, .ref k, S => match S[l]?, S[k]? with
  | some (.lst a), some (.lst b) => if a.length + b.length ≤ LIM then some (.ref S.length, S ++ [.lst (a ++ b)]) else none
  | _, _ => none
 | _, _, _ => none
theorem uO : OpP K BA lO := by
 intro m S H x y v w u S' Q sr ix iy hf post
 cases x <;> cases y <;> simp only [lO] at hf <;> try cases hf
 rename_i l k
 split at hf <;> try cases hf
 rename_i a b h1 h2
 split at hf <;> try cases hf
 rename_i hl
 obtain ⟨p, hp, rfl⟩ := ix.of_ref
 obtain ⟨q, hq, rfl⟩ := iy.of_ref
 obtain ⟨p', hp', xs, hx, il⟩ := sr.get h1
 obtain ⟨q', hq', ys, hy, il'⟩ := sr.get h2
 rw [hp] at hp'; cases hp'
 rw [hq] at hq'; cases hq'
 exact ⟨p, q, xs, ys, rfl, rfl, hx, hy, lim (by rw [il.length, il'.length]; exact hl), fun r hr => iO sr (il.append il') post hr⟩
noncomputable def sx : U → U → Sto → Option (U × Sto)
 | .str a, .str b, S => if a.length + b.length ≤ LIM then some (.str (a ++ b), S) else none
 | _, _, _ => none
theorem uN : OpP K (fun x y H Q => ∃ i j, x = .str i ∧ y = .str j ∧ i.length + j.length ≤ sizeLine ∧ Q (.str (i ++ j)) H) sx := by
 intro m S H x y v w u S' Q sr ix iy hf post
 cases x <;> cases y <;> simp only [sx] at hf <;> try cases hf
 split at hf <;> try cases hf
 rename_i hl
 exact ⟨_, _, ix.of_str, iy.of_str, lim hl, post m _ H .refl sr .str_⟩
noncomputable def fN : U → U → Sto → Option (U × Sto)
 | .int i, .int j, S => some (.int (i + j), S)
 | .tup a, .tup b, S => if a.length + b.length ≤ LIM then some (.tup (a ++ b), S) else none
 | .str a, .str b, S => if a.length + b.length ≤ LIM then some (.str (a ++ b), S) else none
 | .ref l, .ref k, S => lO (.ref l) (.ref k) S
 | _, _, _ => none
theorem dX : OpR X (binaryOp .Add) (fun x y H Q => rI0 (fun i j => .int (i + j)) x y H Q ∨ (BA x y H Q ∨ (uo X.K x y H Q ∨ ∃ i j, x = .str i ∧ y = .str j ∧ i.length + j.length ≤ sizeLine ∧ Q (.str (i ++ j)) H))) := AR.or (AQ.or (xZ.or p7))
theorem dW : OpP K (fun x y H Q => rI0 (fun i j => .int (i + j)) x y H Q ∨ (BA x y H Q ∨ (uo K x y H Q ∨ ∃ i j, x = .str i ∧ y = .str j ∧ i.length + j.length ≤ sizeLine ∧ Q (.str (i ++ j)) H))) fN := by
 intro m S H x y v w u S' Q sr ix iy hf post
 cases x <;> cases y <;> simp only [fN] at hf <;> try cases hf
 ·exact .inl ⟨_, _, ix.of_int, iy.of_int, post m _ H .refl sr .int_⟩
 ·exact .inr (.inr (.inr (uN m S H _ _ v w u S' Q sr ix iy hf post)))
 ·exact .inr (.inr (.inl (uM m S H _ _ v w u S' Q sr ix iy hf post)))
 ·exact .inr (.inl (uO m S H _ _ v w u S' Q sr ix iy hf post))
noncomputable def j7 := fI fun i j => some (.int (i - j))
theorem iI : OpP K (rI0 fun i j => .int (i - j)) j7 := rG fun i j u h m H => by cases h; exact .int_
instance {i j : Int} : Decidable (wg i j) := by unfold wg; exact inferInstance
noncomputable def jQ := fI fun i j => if wg i j then some (.int (i * j)) else none
theorem mL : OpP K (rI wg fun i j => .int (i * j)) jQ := BB fun i j u h => by
 split at h
 ·rename_i c; cases h; exact ⟨c, fun m H => .int_⟩
 ·cases h
instance {i j : Int} : Decidable (qw i j) := by unfold qw; exact inferInstance
noncomputable def vd := fI fun i j => if qw i j then some (.int (i / j)) else none
theorem xX : OpP K (rI qw fun i j => .int (i / j)) vd := BB fun i j u h => by
 split at h
 ·rename_i c; cases h; exact ⟨c, fun m H => .int_⟩
 ·cases h
noncomputable def mZ := fI fun i j => if 0 < j then some (.int (i % j)) else none
theorem nW : OpP K (rI (fun _ j => 0 < j) fun i j => .int (i % j)) mZ := BB fun i j u h => by
 split at h
 ·rename_i c; cases h; exact ⟨c, fun m H => .int_⟩
 ·cases h
instance {i j : Int} : Decidable (yJ i j) := by unfold yJ; exact inferInstance
noncomputable def yE := fI fun i j => if yJ i j then some (.int (i ^ j.toNat)) else none
theorem AJ : OpP K (rI yJ fun i j => .int (i ^ j.toNat)) yE := BB fun i j u h => by
 split at h
 ·rename_i c; cases h; exact ⟨c, fun m H => .int_⟩
 ·cases h
noncomputable def fLt := fI fun i j => some (.bl (decide (i < j)))
noncomputable def fLe := fI fun i j => some (.bl (decide (i ≤ j)))
noncomputable def fGt := fI fun i j => some (.bl (decide (j < i)))
noncomputable def fGe := fI fun i j => some (.bl (decide (j ≤ i)))
theorem p6 : OpP K (rI0 fun i j => .bl (decide (i < j))) fLt := rG fun i j u h m H => by cases h; exact .bl_
theorem Eb : OpP K (rI0 fun i j => .bl (decide (i ≤ j))) fLe := rG fun i j u h m H => by cases h; exact .bl_
theorem vN : OpP K (rI0 fun i j => .bl (decide (j < i))) fGt := rG fun i j u h m H => by cases h; exact .bl_
theorem EZ : OpP K (rI0 fun i j => .bl (decide (j ≤ i))) fGe := rG fun i j u h m H => by cases h; exact .bl_
noncomputable def eqS : U → U → Option Bool
 | .int i, .int j => some (decide (i = j))
 | .bl i, .bl j => some (decide (i = j))
 | .str i, .str j => some (decide (i = j))
 | .non, .non => some true
 | .non, .int _ => some false | .int _, .non => some false
 | .non, .bl _ => some false | .bl _, .non => some false
 | .non, .str _ => some false | .str _, .non => some false
 | .int _, .str _ => some false | .str _, .int _ => some false
 | .bl _, .str _ => some false | .str _, .bl _ => some false
 | _, _ => none
noncomputable def fEq : U → U → Sto → Option (U × Sto) := fun x y S => (eqS x y).bind fun b => some (.bl b, S)
noncomputable def fNe : U → U → Sto → Option (U × Sto) := fun x y S => (eqS x y).bind fun b => some (.bl (!b), S)
theorem vX {m : List Addr} {H : Hp} {x y : U} {v w : V} {b : Bool} (ix : Is K m H v x) (iy : Is K m H w y) (h : eqS x y = some b) : C2 v w = true ∧ decide (v = w) = b := by
 cases x <;> cases y <;> simp only [eqS] at h <;> (first | cases h | skip)
 all_goals
  (first | (have e1 := ix.of_int) | (have e1 := ix.of_bl) | (have e1 := ix.of_str) | (have e1 := ix.of_non))
  (first | (have e2 := iy.of_int) | (have e2 := iy.of_bl) | (have e2 := iy.of_str) | (have e2 := iy.of_non))
  subst e1 e2
  exact ⟨rfl, by simp⟩
theorem ko : OpP K rEq fEq := by
 intro m S H x y v w u S' Q sr ix iy hf post
 obtain ⟨b, h1, h2⟩ := Option.bind_eq_some_iff.mp hf
 cases h2
 obtain ⟨e1, e2⟩ := vX ix iy h1
 exact ⟨e1, by rw [e2]; exact post m _ H .refl sr .bl_⟩
theorem BC : OpP K rNe fNe := by
 intro m S H x y v w u S' Q sr ix iy hf post
 obtain ⟨b, h1, h2⟩ := Option.bind_eq_some_iff.mp hf
 cases h2
 obtain ⟨e1, e2⟩ := vX ix iy h1
 exact ⟨e1, by rw [e2]; exact post m _ H .refl sr .bl_⟩
noncomputable def ow : U → Bool
 | .non => true
 | _ => false
noncomputable def Bk : U → U → Sto → Option (U × Sto)
 | x, .non, S => some (.bl (ow x), S)
 | _, _, _ => none
noncomputable def qi : U → U → Sto → Option (U × Sto)
 | x, .non, S => some (.bl (!ow x), S)
 | _, _, _ => none
theorem pz {m : List Addr} {H : Hp} {x : U} {v : V} (ix : Is K m H v x) : decide (v = .non) = ow x := by
 cases x with
 | non => rw [ix.of_non]; rfl
 | bl b => rw [ix.of_bl]; rfl
 | int i => rw [ix.of_int]; rfl
 | str i => rw [ix.of_str]; rfl
 | tup us => obtain ⟨a, xs, rfl, _⟩ := ix.of_tup; rfl
 | ref l => obtain ⟨a, _, rfl⟩ := ix.of_ref; rfl
 | kl ns => obtain ⟨a, rfl, _⟩ := ix.of_kl; rfl
theorem AL : OpP K (fun x y H Q => y = .non ∧ Q (.bl (decide (x = .non))) H) Bk := by
 intro m S H x y v w u S' Q sr ix iy hf post
 cases y <;> simp only [Bk] at hf <;> cases hf
 exact ⟨iy.of_non, by rw [pz ix]; exact post m _ H .refl sr .bl_⟩
theorem vL : OpP K (fun x y H Q => y = .non ∧ Q (.bl (!decide (x = .non))) H) qi := by
 intro m S H x y v w u S' Q sr ix iy hf post
 cases y <;> simp only [qi] at hf <;> cases hf
 exact ⟨iy.of_non, by rw [pz ix]; exact post m _ H .refl sr .bl_⟩
section
variable {κ : Type} [DecidableEq κ]
noncomputable def j6 {α : Type} (kvs : List (κ × α)) (k : κ) : Option α := (kvs.find? fun kv => decide (kv.1 = k)).map (·.2)
noncomputable def yB {α : Type} (kvs : List (κ × α)) (k : κ) (v : α) : List (κ × α) :=
 if (kvs.any fun kv => decide (kv.1 = k)) = true then kvs.map (fun kv => if kv.1 = k then (kv.1, v) else kv) else kvs ++ [(k, v)]
variable {m : List Addr} {H : Hp} {kvs : List (κ × V)} {kus : List (κ × U)} {k : κ} {v : V} {u : U}
theorem IsP.val (h : IsP K m H kvs kus) : Rf K m H (mh kvs k) (j6 kus k) := by
 refine IsP.ind (P := fun kvs kus => Rf K m H (mh kvs k) (j6 kus k)) trivial (fun k' v u kvs kus i _ ih => ?_) h
 by_cases e : k' = k
 ·subst e
  simp [mh, j6, List.find?_cons, Rf, i]
 ·simp only [mh, j6, List.find?_cons, decide_eq_false e] at ih ⊢
  exact ih
theorem IsP.any_ (h : IsP K m H kvs kus) : (kvs.any fun kv => decide (kv.1 = k)) = (kus.any fun kv => decide (kv.1 = k)) :=
 IsP.ind (P := fun kvs kus => (kvs.any fun kv => decide (kv.1 = k)) = (kus.any fun kv => decide (kv.1 = k))) rfl (fun k' v u kvs kus i _ ih => by simp only [List.any_cons, ih]) h
theorem IsP.append {kvs' : List (κ × V)} {kus' : List (κ × U)} (h : IsP K m H kvs kus) (h' : IsP K m H kvs' kus') : IsP K m H (kvs ++ kvs') (kus ++ kus') := ⟨by simp [h.1, h'.1], by simpa using h.2.append h'.2⟩
theorem IsP.put (h : IsP K m H kvs kus) (i : Is K m H v u) : IsP K m H (o9 kvs k v) (yB kus k u) := by
 unfold o9 yB
 rw [h.any_]
 split
 ·refine IsP.ind (P := fun kvs kus => IsP K m H (kvs.map fun kv => if kv.1 = k then (kv.1, v) else kv) (kus.map fun kv => if kv.1 = k then (kv.1, u) else kv)) .nil_ (fun k' v' u' kvs kus i' _ ih => ?_) h
  simp only [List.map_cons]
  by_cases e : k' = k
  ·simp only [e, if_true]; exact .cons_ i ih
  ·simp only [e, if_false]; exact .cons_ i' ih
 ·exact h.append (.cons_ i .nil_)
end
noncomputable def jK : U → Option Key
 | .int i => some (.inl i)
 | .str x => some (.inr x)
 | _ => none
theorem jJ {m : List Addr} {H : Hp} {x : U} {v : V} {k : Key} (ix : Is K m H v x) (h : jK x = some k) : v = kV k := by
 cases x <;> simp only [jK] at h <;> cases h
 ·exact ix.of_int
 ·exact ix.of_str
noncomputable def fC : U → Bool
 | .non => true | .bl _ => true | .int _ => true | .str _ => true | _ => false
noncomputable def eqF : U → U → Bool
 | .non, .non => true
 | .bl a, .bl b => a == b
 | .bl a, .int b => (if a then 1 else 0) == b
 | .int a, .bl b => a == (if b then 1 else 0)
 | .int a, .int b => a == b
 | .str a, .str b => a == b
 | _, _ => false
noncomputable def inU (x : U) (us : List U) : Bool := us.any fun y => eqF y x
theorem oA {m : List Addr} {H : Hp} {x : U} {v : V} (ix : Is K m H v x) (h : fC x = true) : kC v = true := by
 cases x with
 | non => rw [ix.of_non]; rfl
 | bl b => rw [ix.of_bl]; rfl
 | int i => rw [ix.of_int]; rfl
 | str i => rw [ix.of_str]; rfl
 | tup us => cases h
 | ref l => cases h
 | kl l => cases h
theorem Bn {m : List Addr} {H : Hp} {x y : U} {v w : V} (ix : Is K m H v x) (iy : Is K m H w y) (hx : fC x = true) (hy : fC y = true) : eqV v w = eqF x y := by
 cases x <;> (first | cases hx | skip) <;> cases y <;> (first | cases hy | skip)
 all_goals
  (first | (have e1 := ix.of_int) | (have e1 := ix.of_bl) | (have e1 := ix.of_str) | (have e1 := ix.of_non))
  (first | (have e2 := iy.of_int) | (have e2 := iy.of_bl) | (have e2 := iy.of_str) | (have e2 := iy.of_non))
  subst e1 e2
  rfl
theorem lN {m : List Addr} {H : Hp} : ∀ {xs : List V} {us : List U}, IsL K m H xs us → us.all fC = true → xs.all kC = true
 | xs, [], h, _ => by rw [h.of_nil]; rfl
 | xs, u :: us, h, k => by
  obtain ⟨x, r, rfl, i, t⟩ := h.of_cons
  rw [List.all_cons, Bool.and_eq_true] at k ⊢
  exact ⟨oA i k.1, lN t k.2⟩
theorem sj {m : List Addr} {H : Hp} {x : U} {v : V} (ix : Is K m H v x) (hx : fC x = true) : ∀ {xs : List V} {us : List U}, IsL K m H xs us → us.all fC = true → inV v xs = inU x us
 | xs, [], h, _ => by rw [h.of_nil]; rfl
 | xs, u :: us, h, k => by
  obtain ⟨y, r, rfl, i, t⟩ := h.of_cons
  rw [List.all_cons, Bool.and_eq_true] at k
  have ih := sj ix hx t k.2
  unfold inV inU at ih ⊢
  rw [List.any_cons, List.any_cons, ih, Bn i ix k.1 hx]
theorem _root_.L2.DGet.kz {H : Hp} {a : Addr} {ob : Obj} {kvs : List (Key × V)} {k : Key} (e : H a = some (.frz ob (.dK kvs))) : DGet H a (kV k) (mh kvs k) := .inl ⟨kvs, k, .inr ⟨ob, e⟩, rfl, rfl⟩
noncomputable def fIn (neg : Bool) : U → U → Sto → Option (U × Sto) := fun x y S => match y with
 | .tup us => if fC x = true ∧ us.all fC = true then some (.bl (if neg then !inU x us else inU x us), S) else none
 | .ref l => match S[l]? with
  | some (.lst us) => if fC x = true ∧ us.all fC = true then some (.bl (if neg then !inU x us else inU x us), S) else none
  | some (.dic kus) => (jK x).bind fun k => some (.bl (if neg then !(j6 kus k).isSome else (j6 kus k).isSome), S)
  | some (.fdc ep kus) => (jK x).bind fun k => some (.bl (if neg then !(j6 kus k).isSome else (j6 kus k).isSome), S)
  | _ => none
 | _ => none
theorem Rf.isSome {m : List Addr} {H : Hp} {v : Option V} {u : Option U} (h : Rf K m H v u) : v.isSome = u.isSome := by
 cases v <;> cases u <;> first | rfl | exact h.elim
theorem Bf {ca cb : CE} {neg : Bool} (t2 : TE → TE → TE) (h2 : ∀ ta tb σ H Q, (ta σ H fun y H1 => tb σ H1 fun x H2 => ∃ a o, x = .ref a ∧ DGet H2 a y o ∧ Q (.bl (if neg then !o.isSome else o.isSome)) H2) → t2 ta tb σ H Q) : ∀ σ H Q, tE K (cOp (fIn neg) ca cb) σ H Q → tOp (rIn K neg) (tE K ca) (tE K cb) σ H Q ∨ t2 (tE K ca) (tE K cb) σ H Q := by
 rintro σ H Q ⟨m, ρ, S, u, S', sr, lr, hc, post⟩
 obtain ⟨⟨x, S1⟩, h1, h⟩ := Option.bind_eq_some_iff.mp hc
 obtain ⟨⟨y, S2⟩, h3, h4⟩ := Option.bind_eq_some_iff.mp h
 cases y with
 | tup us =>
  simp only [fIn] at h4
  split at h4 <;> try cases h4
  rename_i hf
  refine .inl ⟨m, ρ, S, x, S1, sr, lr, h1, fun m1 v1 H1 e1 sr1 i1 => ⟨m1, ρ, S1, .tup us, S', sr1, lr.mono e1, h3, fun m2 v2 H2 e2 sr2 i2 => ?_⟩⟩
  obtain ⟨a, xs, rfl, sa, la⟩ := i2.of_tup
  refine ⟨a, xs, rfl, .inr sa, oA (i1.mono e2) hf.1, lN la hf.2, ?_⟩
  rw [sj (i1.mono e2) hf.1 la hf.2]
  exact post m2 _ H2 (e1.trans e2) sr2 .bl_
 | ref l =>
  simp only [fIn] at h4
  split at h4 <;> try cases h4
  ·rename_i us hS
   split at h4 <;> try cases h4
   rename_i hf
   refine .inl ⟨m, ρ, S, x, S1, sr, lr, h1, fun m1 v1 H1 e1 sr1 i1 => ⟨m1, ρ, S1, .ref l, S', sr1, lr.mono e1, h3, fun m2 v2 H2 e2 sr2 i2 => ?_⟩⟩
   obtain ⟨a, ha, rfl⟩ := i2.of_ref
   obtain ⟨a', ha', xs, hx, la⟩ := sr2.get hS
   rw [ha] at ha'; cases ha'
   refine ⟨a, xs, rfl, .inl (SqL.of hx), oA (i1.mono e2) hf.1, lN la hf.2, ?_⟩
   rw [sj (i1.mono e2) hf.1 la hf.2]
   exact post m2 _ H2 (e1.trans e2) sr2 .bl_
  ·rename_i kus hS
   obtain ⟨k, hk, h5⟩ := Option.bind_eq_some_iff.mp h4
   cases h5
   refine .inr (h2 _ _ _ _ _ ⟨m, ρ, S, x, S1, sr, lr, h1, fun m1 v1 H1 e1 sr1 i1 => ⟨m1, ρ, S1, .ref l, S', sr1, lr.mono e1, h3, fun m2 v2 H2 e2 sr2 i2 => ?_⟩⟩)
   obtain ⟨a, ha, rfl⟩ := i2.of_ref
   obtain ⟨a', ha', kvs, hx, ip⟩ := sr2.get hS
   rw [ha] at ha'; cases ha'
   have ek := jJ (i1.mono e2) hk
   subst ek
   refine ⟨a, _, rfl, DGet.k hx, ?_⟩
   rw [(IsP.val ip).isSome]
   exact post m2 _ H2 (e1.trans e2) sr2 .bl_
  ·rename_i ep kus hS
   obtain ⟨k, hk, h5⟩ := Option.bind_eq_some_iff.mp h4
   cases h5
   refine .inr (h2 _ _ _ _ _ ⟨m, ρ, S, x, S1, sr, lr, h1, fun m1 v1 H1 e1 sr1 i1 => ⟨m1, ρ, S1, .ref l, S', sr1, lr.mono e1, h3, fun m2 v2 H2 e2 sr2 i2 => ?_⟩⟩)
   obtain ⟨a, ha, rfl⟩ := i2.of_ref
   obtain ⟨a', ha', ob, es, kvs, hx, hd, ip⟩ := sr2.get hS
   rw [ha] at ha'; cases ha'
   have ek := jJ (i1.mono e2) hk
   subst ek
   refine ⟨a, _, rfl, DGet.kz hx, ?_⟩
   rw [(IsP.val ip).isSome]
   exact post m2 _ H2 (e1.trans e2) sr2 .bl_
 | _ => simp [fIn] at h4
variable {e a b c : Expr} {ca cb cc : CE} {pos : Pos}
theorem xB (hu : X.A.units + 1 < cLine) (ha : QE X a ca) (hb : QE X b cb) (hm : behindInMarks .NotIn b = false) : QE X (.Compare a [.NotIn] [b] pos) (cOp (fIn true) ca cb) :=
 ((lq mM ha hb hm).or (xf (pS hu ha hb) hm)).imp (Bf (neg := true) nO fun _ _ _ _ _ h => h)
noncomputable def fIx : U → U → Sto → Option (U × Sto) := fun x y S => match x with
 | .tup us => match y with
  | .int i => (atI us i).bind fun u => some (u, S)
  | _ => none
 | .ref l => match S[l]? with
  | some (.lst us) => (match y with
   | .int i => (atI us i).bind fun u => some (u, S)
   | _ => none)
  | some (.dic kus) => (jK y).bind fun k => (j6 kus k).bind fun u => some (u, S)
  | some (.fdc ep kus) => (jK y).bind fun k => (j6 kus k).bind fun u => some (u, S)
  | _ => none
 | .kl ns => match y with
  | .int i => (atI (ns.map U.int) i).bind fun u => some (u, S)
  | _ => none
 | _ => none
theorem pC {K : PySem.W.Frag} {m : List Addr} {H : Hp} : ∀ ns : List Int, IsL K m H (ns.map V.int) (ns.map U.int)
 | [] => .nil_
 | n :: ns => .cons_ .int_ (pC ns)
theorem sX {m : List Addr} {H : Hp} {xs : List V} {us : List U} {i : Int} {u : U} (l : IsL K m H xs us) (h : atI us i = some u) : ∃ v, atI xs i = some v ∧ Is K m H v u := by
 unfold atI at h ⊢
 rw [l.length]
 obtain ⟨j, e1, e2⟩ := Option.bind_eq_some_iff.mp h
 rw [e1]
 obtain ⟨v, e3, e4⟩ := l.getD e2
 exact ⟨v, e3, e4⟩
theorem gh (hu : X.A.units + 1 < cLine) (ha : QE X a ca) (hb : QE X b cb) (hs : oK b) (hs2 : BN b) : QE X (.Subscript a b pos) (cOp fIx ca cb) :=
 ((zC (ym.or Bb) ha hb hs).or (tY hu ha hb hs2)).imp fun σ H Q hz => mi hz fun m ρ S u S' sr lr hc post => by
 obtain ⟨⟨x, S1⟩, h1, h⟩ := Option.bind_eq_some_iff.mp hc
 obtain ⟨⟨y, S2⟩, h3, h4⟩ := Option.bind_eq_some_iff.mp h
 cases x with
 | tup us =>
  simp only [fIx] at h4
  split at h4 <;> try cases h4
  rename_i i
  obtain ⟨w, hw, h5⟩ := Option.bind_eq_some_iff.mp h4
  cases h5
  refine .inl ⟨m, ρ, S, _, S1, sr, lr, h1, fun m1 v1 H1 e1 sr1 i1 => ⟨m1, ρ, S1, _, S', sr1, lr.mono e1, h3, fun m2 v2 H2 e2 sr2 i2 => .inr ?_⟩⟩
  obtain ⟨a, xs, rfl, sa, la⟩ := (i1.mono e2).of_tup
  obtain ⟨z, ez, iz⟩ := sX la hw
  exact ⟨a, xs, i, z, rfl, i2.of_int, sa, ez, post m2 _ H2 (e1.trans e2) sr2 iz⟩
 | ref l =>
  simp only [fIx] at h4
  split at h4 <;> try cases h4
  ·rename_i us hS
   split at h4 <;> try cases h4
   rename_i i
   obtain ⟨w, hw, h5⟩ := Option.bind_eq_some_iff.mp h4
   cases h5
   refine .inl ⟨m, ρ, S, _, S1, sr, lr, h1, fun m1 v1 H1 e1 sr1 i1 => ⟨m1, ρ, S1, _, S', sr1, lr.mono e1, h3, fun m2 v2 H2 e2 sr2 i2 => .inl ?_⟩⟩
   obtain ⟨a, ha, rfl⟩ := (i1.mono e2).of_ref
   obtain ⟨a', ha', xs, hx, la⟩ := sr2.get hS
   rw [ha] at ha'; cases ha'
   obtain ⟨z, ez, iz⟩ := sX la hw
   exact ⟨a, xs, i, z, rfl, i2.of_int, SqL.of hx, ez, post m2 _ H2 (e1.trans e2) sr2 iz⟩
  ·rename_i kus hS
   obtain ⟨k, hk, h5⟩ := Option.bind_eq_some_iff.mp h4
   obtain ⟨w, hw, h6⟩ := Option.bind_eq_some_iff.mp h5
   cases h6
   refine .inr ⟨m, ρ, S, _, S1, sr, lr, h1, fun m1 v1 H1 e1 sr1 i1 => ⟨m1, ρ, S1, _, S', sr1, lr.mono e1, h3, fun m2 v2 H2 e2 sr2 i2 => ?_⟩⟩
   obtain ⟨a, ha, rfl⟩ := (i1.mono e2).of_ref
   obtain ⟨a', ha', kvs, hx, ip⟩ := sr2.get hS
   rw [ha] at ha'; cases ha'
   have ek := jJ i2 hk
   subst ek
   have rf := IsP.val (k := k) ip
   rw [hw] at rf
   cases hv : mh kvs k with
   | none => rw [hv] at rf; exact rf.elim
   | some z =>
    rw [hv] at rf
    exact ⟨a, z, rfl, by have := DGet.k (k := k) hx; rw [hv] at this; exact this, post m2 _ H2 (e1.trans e2) sr2 rf⟩
  ·rename_i ep kus hS
   obtain ⟨k, hk, h5⟩ := Option.bind_eq_some_iff.mp h4
   obtain ⟨w, hw, h6⟩ := Option.bind_eq_some_iff.mp h5
   cases h6
   refine .inr ⟨m, ρ, S, _, S1, sr, lr, h1, fun m1 v1 H1 e1 sr1 i1 => ⟨m1, ρ, S1, _, S', sr1, lr.mono e1, h3, fun m2 v2 H2 e2 sr2 i2 => ?_⟩⟩
   obtain ⟨a, ha, rfl⟩ := (i1.mono e2).of_ref
   obtain ⟨a', ha', ob, es, kvs, hx, hd, ip⟩ := sr2.get hS
   rw [ha] at ha'; cases ha'
   have ek := jJ i2 hk
   subst ek
   have rf := IsP.val (k := k) ip
   rw [hw] at rf
   cases hv : mh kvs k with
   | none => rw [hv] at rf; exact rf.elim
   | some z =>
    rw [hv] at rf
    exact ⟨a, z, rfl, by have := DGet.kz (k := k) hx; rw [hv] at this; exact this, post m2 _ H2 (e1.trans e2) sr2 rf⟩
 | kl ns =>
  simp only [fIx] at h4
  split at h4 <;> try cases h4
  rename_i i
  obtain ⟨w, hw, h5⟩ := Option.bind_eq_some_iff.mp h4
  cases h5
  refine .inl ⟨m, ρ, S, _, S1, sr, lr, h1, fun m1 v1 H1 e1 sr1 i1 => ⟨m1, ρ, S1, _, S', sr1, lr.mono e1, h3, fun m2 v2 H2 e2 sr2 i2 => .inl ?_⟩⟩
  obtain ⟨a, rfl, ka⟩ := (i1.mono e2).of_kl
  obtain ⟨z, ez, iz⟩ := sX (pC (K := X.K) (m := m2) (H := H2) ns) hw
  exact ⟨a, _, i, z, rfl, i2.of_int, ka.sq, ez, post m2 _ H2 (e1.trans e2) sr2 iz⟩
 | _ => simp [fIx] at h4
noncomputable def jP : U → U → U → Sto → Option Sto := fun o i v S => match o with
 | .ref l => match S[l]? with
  | some (.lst us) => (match i with
   | .int k => (ixN us.length k).bind fun j => some (S.set l (.lst (us.set j v)))
   | _ => none)
  | some (.dic kus) => (jK i).bind fun k => if kus.length < LIM then some (S.set l (.dic (yB kus k v))) else none
  | _ => none
 | _ => none
noncomputable def lj (co ci cv : CE) : CS := fun ρ S => (cv ρ S).bind fun p => (co ρ p.2).bind fun q => (ci ρ q.2).bind fun r => (jP q.1 r.1 p.1 r.2).bind fun S' => some (.nx, ρ, S')
theorem iN {o i : Expr} {co ci cv : CE} {pos' : Pos} (hu : X.A.units + 1 < cLine) (ho : QE X o co) (hi : QE X i ci) (hv : QE X e cv)
  (hs0 : swapsWithSole [.Subscript o i pos'] e pos.line X.env = pure false := by rfl) (hw : swappedStores [.Subscript o i pos'] e X.env = pure none := by rfl)
  (h1 : (assignEach [.Subscript o i pos'] X.env).map (·.2) = [assign (.Subscript o i pos') X.env] := by rfl)
  (hs : swapsWith e (some (.Subscript o i pos')) pos.line X.env = pure false := by rfl)
  (ha : ∀ v, assign (.Subscript o i pos') X.env v = (do
   let ov ← holding [v] (eval o X.env)
   let iv ← holding [v, ov] (eval i X.env)
   standAt pos'
   holding [v, ov, iv] (setItem ov iv v)
   release [v, ov, iv] []) := by intro _; rfl) : QS X (.Assign [.Subscript o i pos'] e pos) (lj co ci cv) :=
 ((wY hv (w8 ho hi ug ha) hs0 hw h1).or (tN hu ho hi hv hs)).imp fun D σ H hz => ql hz fun m ρ S o ρ' S' sr lr hc post => by
 obtain ⟨⟨v, S1⟩, h1, h⟩ := Option.bind_eq_some_iff.mp hc
 obtain ⟨⟨ou, S2⟩, h2, h⟩ := Option.bind_eq_some_iff.mp h
 obtain ⟨⟨iu, S3⟩, h3, h⟩ := Option.bind_eq_some_iff.mp h
 obtain ⟨S4, h4, h⟩ := Option.bind_eq_some_iff.mp h
 cases h
 cases ou with
 | ref l =>
  simp only [jP] at h4
  split at h4 <;> try cases h4
  ·rename_i us hS
   split at h4 <;> try cases h4
   rename_i k
   obtain ⟨j, hj, h5⟩ := Option.bind_eq_some_iff.mp h4
   cases h5
   refine .inl ⟨m, ρ, S, v, S1, sr, lr, h1, fun m1 v1 H1 e1 sr1 i1 => ⟨m1, ρ, S1, _, S2, sr1, lr.mono e1, h2, fun m2 v2 H2 e2 sr2 i2 => ⟨m2, ρ, S2, _, S3, sr2, lr.mono (e1.trans e2), h3, fun m3 v3 H3 e3 sr3 i3 => ?_⟩⟩⟩
   obtain ⟨a, ha, rfl⟩ := (i2.mono e3).of_ref
   obtain ⟨a', ha', xs, hx, la⟩ := sr3.get hS
   rw [ha] at ha'; cases ha'
   have e13 := (e1.trans e2).trans e3
   have ek : Ext X.K m3 H3 m3 (upd H3 a (.lst (xs.set j v1))) := .of (sr3.keep ha _)
   refine ⟨a, xs, k, j, rfl, i3.of_int, hx, by rw [la.length]; exact hj, post m3 σ _ (e13.trans ek) (sr3.put ha ⟨_, bj, ((la.set (i1.mono (e2.trans e3)))).mono ek⟩) (lr.mono (e13.trans ek))⟩
  ·rename_i kus hS
   obtain ⟨k, hk, h5⟩ := Option.bind_eq_some_iff.mp h4
   split at h5 <;> try cases h5
   have fS : kus.length < LIM := by assumption
   refine .inr ⟨m, ρ, S, v, S1, sr, lr, h1, fun m1 v1 H1 e1 sr1 i1 => ⟨m1, ρ, S1, _, S2, sr1, lr.mono e1, h2, fun m2 v2 H2 e2 sr2 i2 => ⟨m2, ρ, S2, _, S3, sr2, lr.mono (e1.trans e2), h3, fun m3 v3 H3 e3 sr3 i3 => ?_⟩⟩⟩
   obtain ⟨a, ha, rfl⟩ := (i2.mono e3).of_ref
   obtain ⟨a', ha', kvs, hx, ip⟩ := sr3.get hS
   rw [ha] at ha'; cases ha'
   have ek := jJ i3 hk
   subst ek
   have e13 := (e1.trans e2).trans e3
   have ee : Ext X.K m3 H3 m3 (upd H3 a (.dK (o9 kvs k v1))) := .of (sr3.keep ha _)
   exact ⟨a, _, rfl, Bw.k hx (Dq (by rw [IsP.length ip]; exact fS)), post m3 σ _ (e13.trans ee) (sr3.put ha ⟨_, bj, (IsP.put ip (i1.mono (e2.trans e3))).mono ee⟩) (lr.mono (e13.trans ee))⟩
 | _ => simp [jP] at h4
end
theorem gq {α : Type} [DecidableEq α] : ∀ {l l' : List α}, l.Nodup → (∀ x ∈ l, x ∈ l') → l.length ≤ l'.length
 | [], _, _, _ => Nat.zero_le _
 | x :: r, l', nd, s => by
  obtain ⟨h1, h2⟩ := List.nodup_cons.mp nd
  have hx := s x List.mem_cons_self
  have := gq (l := r) (l' := l'.erase x) h2 fun y hy => (List.mem_erase_of_ne (fun z => h1 (by rw [← z]; exact hy))).mpr (s y (List.mem_cons_of_mem _ hy))
  rw [List.length_erase_of_mem hx] at this
  have hp := List.length_pos_of_mem hx
  rw [List.length_cons]
  omega
theorem d5 (f : Str) (v : V) : ∀ fs : List (Str × V), (kj f v fs).map (·.1) = if f ∈ fs.map (·.1) then fs.map (·.1) else fs.map (·.1) ++ [f]
 | [] => by simp [kj]
 | (g, x) :: r => by
  unfold kj
  by_cases e : g = f
  ·simp [e]
  ·have ih := d5 f v r
   rw [if_neg e, List.map_cons, List.map_cons, ih]
   by_cases c : f ∈ r.map (·.1)
   ·rw [if_pos c, if_pos (List.mem_cons_of_mem _ c)]
   ·rw [if_neg c, if_neg (fun z => by rcases List.mem_cons.mp z with z | z; exact e z.symm; exact c z)]
    rfl
section
variable {X : Cx} {K : PySem.W.Frag} {m : List Addr} {H : Hp} {c : Cl} {fs : List (Str × V)} {fus : List (Option U)}
theorem InF.room (h : InF K m H c fs fus) : fs.length < 1000 := by
 have := gq h.knd h.sub
 rw [List.length_map] at this
 have := h.few
 omega
theorem jF {f : Str} : ∀ {fs : List (Str × V)}, f ∉ fs.map (·.1) → fs.lookup f = none
 | [], _ => rfl
 | (g, x) :: r, h => by
  rw [List.lookup_cons]
  have h1 : (f == g) = false := by
   apply beq_eq_false_iff_ne.mpr
   intro z; exact h (by rw [z]; exact List.mem_cons_self)
  rw [h1]
  exact jF fun z => h (List.mem_cons_of_mem _ z)
theorem InF.none_ {f : Str} (h : InF K m H c fs fus) (hf : f ∉ c.ns) : fs.lookup f = none := jF fun z => hf (h.sub f z)
theorem InF.put {f : Str} {i : Nat} {v : V} {u : U} (h : InF K m H c fs fus) (hi : c.ns[i]? = some f) (hv : Is K m H v u) : InF K m H c (kj f v fs) (fus.set i (some u)) := by
 have hfm : f ∈ c.ns := List.mem_of_getElem? hi
 refine ⟨h.nd, h.few, ?_, fun x hx => ?_, by simp [h.len], fun j x hj => ?_⟩
 ·rw [d5]
  split
  ·exact h.knd
  ·rename_i hn
   rw [List.nodup_append]
   exact ⟨h.knd, by simp, fun a ha b hb z => by simp at hb; subst hb; subst z; exact hn ha⟩
 ·rw [d5] at hx
  split at hx
  ·exact h.sub x hx
  ·rcases List.mem_append.mp hx with z | z
   ·exact h.sub x z
   ·simp at z; subst z; exact hfm
 ·rw [fY]
  by_cases e : i = j
  ·subst e
   rw [hi] at hj; cases hj
   rw [if_pos rfl]
   have : i < fus.length := by rw [h.len]; exact (List.getElem?_eq_some_iff.mp hi).1
   rw [List.getElem?_set_self this]
   exact hv
  ·have ne : x ≠ f := fun z => by
    subst z
    obtain ⟨p1, e1⟩ := List.getElem?_eq_some_iff.mp hi
    obtain ⟨p2, e2⟩ := List.getElem?_eq_some_iff.mp hj
    exact e ((List.getElem_inj h.nd).mp (e1.trans e2.symm))
   rw [if_neg ne, List.getElem?_set_ne e]
   exact h.at_ j x hj
theorem InF.new (nd : c.ns.Nodup) (few : c.ns.length < 1000) : InF K m H c [] (List.replicate c.ns.length none) := by
 refine ⟨nd, few, by simp, fun x hx => by simp at hx, by simp, fun i x hi => ?_⟩
 rw [List.getElem?_replicate]
 split <;> exact trivial
open Classical in
noncomputable def Bl (c : Cl) (i : Nat) (x : U) (S : Sto) : Option (U × Sto) := match x with
 | .ref l => match S[l]? with
  | some (.ins c' fus) => if c' = c then (fus[i]?).join.bind fun u => some (u, S) else none
  | _ => none
 | _ => none
noncomputable def qp (c : Cl) (i : Nat) (ca : CE) : CE := fun ρ S => (ca ρ S).bind fun p => Bl c i p.1 p.2
open Classical in
noncomputable def sy (c : Cl) (i : Nat) (x v : U) (S : Sto) : Option Sto := match x with
 | .ref l => match S[l]? with
  | some (.ins c' fus) => if c' = c then some (S.set l (.ins c (fus.set i (some v)))) else none
  | _ => none
 | _ => none
noncomputable def lS (c : Cl) (i : Nat) (ca cv : CE) : CS := fun ρ S => (cv ρ S).bind fun p => (ca ρ p.2).bind fun q => (sy c i q.1 p.1 q.2).bind fun S' => some (.nx, ρ, S')
variable {e : Expr} {ca cv : CE} {pos : Pos} {f : Str} {i : Nat}
theorem kg (hcl : Cls X.K c.C) (hna : fU X.K c.C f) (hi : c.ns[i]? = some f) (h : QE X e ca) (hb : attributeBase e f X.env (eval e X.env) = eval e X.env := by rfl) : QE X (.Attribute e f pos) (qp c i ca) := (xc h hb).imp fun σ H Q hz => mi hz fun m ρ S u S' sr lr hc post => by
 obtain ⟨⟨x, S1⟩, h1, h2⟩ := Option.bind_eq_some_iff.mp hc
 refine ⟨m, ρ, S, x, S1, sr, lr, h1, fun m1 v1 H1 e1 sr1 i1 => ?_⟩
 cases x with
 | ref l =>
  simp only [Bl] at h2
  split at h2 <;> try cases h2
  rename_i c' fus hS
  split at h2 <;> try cases h2
  rename_i hc'
  subst hc'
  obtain ⟨w, hw, h3⟩ := Option.bind_eq_some_iff.mp h2
  cases h3
  obtain ⟨a, ha, rfl⟩ := i1.of_ref
  obtain ⟨a', ha', dx, fs, hx, inf⟩ := sr1.get hS
  rw [ha] at ha'; cases ha'
  have rf := inf.at_ i f hi
  rw [hw] at rf
  cases hv : fs.lookup f with
  | none => rw [hv] at rf; exact rf.elim
  | some z =>
   rw [hv] at rf
   exact ⟨a, _, dx, fs, z, rfl, hx, hcl, hna, hv, post m1 _ H1 e1 sr1 rf⟩
 | _ => simp [Bl] at h2
theorem gE {o : Expr} {co : CE} {pos' : Pos} (hcl : Cls X.K c.C) (hna : fU X.K c.C f) (hi : c.ns[i]? = some f) (ho : QE X o co) (hv : QE X e cv) (hs : swapsWith e (some (.Attribute o f pos')) pos.line X.env = pure false := by rfl) : QS X (.Assign [.Attribute o f pos'] e pos) (lS c i co cv) := (wX ho hv hs).imp fun D σ H hz => ql hz fun m ρ S o ρ' S' sr lr hc post => by
 obtain ⟨⟨v, S1⟩, h1, h⟩ := Option.bind_eq_some_iff.mp hc
 obtain ⟨⟨x, S2⟩, h2, h⟩ := Option.bind_eq_some_iff.mp h
 obtain ⟨S3, h3, h⟩ := Option.bind_eq_some_iff.mp h
 cases h
 refine ⟨m, ρ, S, v, S1, sr, lr, h1, fun m1 v1 H1 e1 sr1 i1 => ⟨m1, ρ, S1, x, S2, sr1, lr.mono e1, h2, fun m2 v2 H2 e2 sr2 i2 => ?_⟩⟩
 cases x with
 | ref l =>
  simp only [sy] at h3
  split at h3 <;> try cases h3
  rename_i c' fus hS
  split at h3 <;> try cases h3
  have hc' : c' = c := by assumption
  subst hc'
  obtain ⟨a, ha, rfl⟩ := i2.of_ref
  obtain ⟨a', ha', dx, fs, hx, inf⟩ := sr2.get hS
  rw [ha] at ha'; cases ha'
  have ee : Ext X.K m2 H2 m2 (upd H2 a (.ins c'.C dx (kj f v1 fs))) := .of (sr2.keep ha _)
  have e12 := e1.trans e2
  exact ⟨a, _, dx, fs, rfl, hx, hcl, hna, inf.room, post m2 σ _ (e12.trans ee) (sr2.put ha ⟨dx, _, bj, (inf.put hi (i1.mono e2)).mono ee⟩) (lr.mono (e12.trans ee))⟩
 | _ => simp [sy] at h3
structure ef (P : Program) (w : World) (K : PySem.W.Frag) (mg : Str → Option Value) (base : Heap) (c : Cl) (mn : Str) (k : Nat) (ps : List Str) (f : Fn) : Prop where
 ex : ∃ fa fd, jY K c.C mn fa ∧ iU P w K mg base CX0 k fa fd ps (tj K f) ∧ dS K fd ps []
theorem ef.mono {P : Program} {w : World} {mg : Str → Option Value} {base : Heap} {mn : Str} {j k : Nat} {ps : List Str} {f : Fn} (h : ef P w K mg base c mn j ps f) (l : j ≤ k) : ef P w K mg base c mn k ps f := by
 obtain ⟨fa, fd, a, b, d⟩ := h.ex
 exact ⟨fa, fd, a, b.mono l, d⟩
open Classical in
noncomputable def sC (c : Cl) (f : Fn) (x : U) (S : Sto) (args : Sto → Option (List U × Sto)) : Option (U × Sto) := match x with
 | .ref l => match S[l]? with
  | some (.ins c' _) => if c' = c then (args S).bind fun q => f (.ref l :: q.1) q.2 else none
  | _ => none
 | _ => none
noncomputable def dA (c : Cl) (f : Fn) (ca : CE) (cr : CA) : CE := fun ρ S => (ca ρ S).bind fun p => sC c f p.1 p.2 (cr ρ)
theorem ph {mn : Str} {g : Fn} {co : CE} {cr : CA} (hmn : mn ∉ c.ns) : ∀ σ H Q, tE K (dA c g co cr) σ H Q → qU c.C mn (tj K g) [] E0 (tE K co) (tA K cr) σ H Q := by
 rintro σ H Q ⟨m, ρ, S, u, S', sr, lr, hc, post⟩
 obtain ⟨⟨x, S1⟩, h1, h2⟩ := Option.bind_eq_some_iff.mp hc
 refine ⟨m, ρ, S, x, S1, sr, lr, h1, fun m1 v1 H1 e1 sr1 i1 => ?_⟩
 cases x with
 | ref l =>
  simp only [sC] at h2
  split at h2 <;> try cases h2
  rename_i c' fus hS
  split at h2 <;> try cases h2
  rename_i hc'
  subst hc'
  obtain ⟨⟨us, S2⟩, h3, h4⟩ := Option.bind_eq_some_iff.mp h2
  obtain ⟨a, ha, rfl⟩ := i1.of_ref
  obtain ⟨a', ha', dx, fs, hx, inf⟩ := sr1.get hS
  rw [ha] at ha'; cases ha'
  refine ⟨a, dx, fs, rfl, hx, inf.none_ hmn, m1, ρ, S1, us, S2, sr1, lr.mono e1, h3, fun m2 vs H2 e2 sr2 i2 => ?_⟩
  exact ⟨m2, _, S2, u, S', .cons_ (i1.mono e2) (by simpa using i2), sr2, h4, post.mono (e1.trans e2)⟩
 | _ => simp [sC] at h2
theorem fe {mn : Str} {g : Fn} {k : Nat} {ps : List Str} {o : Expr} {es : List Expr} {co : CE} {cr : CA} {apos : Pos} {pl : Sem Bool} (hcl : Cls X.K c.C) (F : ef X.prog X.w X.K X.mg X.base c mn k ps g) (hr : fi k X.A) (hmn : mn ∉ c.ns) (ho : QE X o co) (ha : QA X (e :: es) cr)
  (hst : starEach (e :: es) X.env = (false, eval e X.env) :: starEach es X.env := by rfl) (hpl : (backTo pos (starEach es X.env)).any (·.1) = false := by rfl) (ht : eval (.Call (.Attribute o mn apos) (e :: es) [] pos) X.env = (do
   let ov ← eval o X.env
   standAt apos.atName
   let (f, first) ← holding [ov] (getMethod ov mn pl)
   callWith pos f first (backTo pos (starEach (e :: es) X.env)) (backToKw pos (keywordEach [] X.env))) := by rfl) : QE X (.Call (.Attribute o mn apos) (e :: es) [] pos) (dA c g co cr) := by
 obtain ⟨fa, fd, hm, F, hb⟩ := F.ex
 exact (tR ho hcl hm F hr hb .nil uJ ha.h hst hpl ht).imp (ph hmn)
theorem eK {mn : Str} {g : Fn} {k : Nat} {ps : List Str} {o : Expr} {co : CE} {apos : Pos} {pl : Sem Bool} (hcl : Cls X.K c.C) (F : ef X.prog X.w X.K X.mg X.base c mn k ps g) (hr : fi k X.A) (hmn : mn ∉ c.ns) (ho : QE X o co)
  (ht : eval (.Call (.Attribute o mn apos) [] [] pos) X.env = (do
   let ov ← eval o X.env
   standAt apos.atName
   let (f, first) ← holding [ov] (getMethod ov mn pl)
   callWith pos f first (backTo pos (starEach [] X.env)) (backToKw pos (keywordEach [] X.env))) := by rfl) : QE X (.Call (.Attribute o mn apos) [] [] pos) (dA c g co aI) := by
 obtain ⟨fa, fd, hm, F, hb⟩ := F.ex
 refine (qH ho hcl hm F hr hb .nil uJ ht).imp fun σ H Q h => ?_
 obtain ⟨m, ρ, S, u, S', sr, lr, hc, k⟩ := ph hmn σ H Q h
 refine ⟨m, ρ, S, u, S', sr, lr, hc, fun m1 v1 H1 e1 sr1 i1 => ?_⟩
 obtain ⟨a, dx, fs, h1, h2, h3, m2, ρ2, S2, us, S3, sr2, lr2, h4, h5⟩ := k m1 v1 H1 e1 sr1 i1
 cases h4
 exact ⟨a, dx, fs, h1, h2, h3, h5 m2 [] H1 .refl sr2 .nil_⟩
structure CMk (P : Program) (w : World) (K : PySem.W.Frag) (mg : Str → Option Value) (base : Heap) (c : Cl) (x : Str) (k : Nat) (ps : List Str) (f : Fn) : Prop where
 ex : ∃ fa fd, Mk K c.C fa ∧ iU P w K mg base CX0 k fa fd ps (tj K f) ∧ dS K fd ps [] ∧ mg x = some (.ref c.C)
 nd : c.ns.Nodup
 few : c.ns.length < 1000
theorem CMk.mono {P : Program} {w : World} {mg : Str → Option Value} {base : Heap} {x : Str} {j k : Nat} {ps : List Str} {f : Fn} (h : CMk P w K mg base c x j ps f) (l : j ≤ k) : CMk P w K mg base c x k ps f := by
 obtain ⟨fa, fd, a, b, d⟩ := h.ex
 exact ⟨⟨fa, fd, a, b.mono l, d⟩, h.nd, h.few⟩
noncomputable def qj (c : Cl) (f : Fn) : Fn := fun us S => (f (.ref S.length :: us) (S ++ [.ins c (List.replicate c.ns.length none)])).bind fun p => match p.1 with
 | .non => some (.ref S.length, p.2)
 | _ => none
theorem uV {g : Fn} {cr : CA} (nd : c.ns.Nodup) (few : c.ns.length < 1000) : ∀ σ H Q, tE K (cCB (qj c g) cr) σ H Q → xn c.C (tj K g) [] E0 (tA K cr) σ H Q := by
 rintro σ H Q ⟨m, ρ, S, u, S', sr, lr, hc, post⟩
 obtain ⟨⟨us, S1⟩, h1, h2⟩ := Option.bind_eq_some_iff.mp hc
 obtain ⟨⟨w, S2⟩, h3, h4⟩ := Option.bind_eq_some_iff.mp h2
 refine ⟨m, ρ, S, us, S1, sr, lr, h1, fun m1 vs H1 e1 sr1 i1 x dx hx hdx ne => ?_⟩
 cases w with
 | non =>
  cases h4
  have s1 : pK H1 (upd H1 dx (.own x)) := dG hdx _
  have hx2 : (upd H1 dx (.own x)) x = none := by rw [bL (Ne.symm ne)]; exact hx
  have ee : Ext K m1 H1 (m1 ++ [x]) (upd (upd H1 dx (.own x)) x (.ins c.C dx [])) := .new ⟨fun b xs q => (dH hx2 _).t b xs ((eQ s1).t b xs q), fun b xs q => (dH hx2 _).l b xs ((eQ s1).l b xs q)⟩
  refine ⟨m1 ++ [x], .ref S1.length :: us, S1 ++ [.ins c (List.replicate c.ns.length none)], .non, S2, .cons_ (.ref_ (gr sr1.len)) (by simpa using i1.mono ee), (sr1.same s1).new (o := .ins c (List.replicate c.ns.length none)) hx2 ⟨dx, [], bj, InF.new nd few⟩, h3, fun m2 v2 H2 e2 sr2 i2 => ⟨i2.of_non, ?_⟩⟩
  exact post m2 _ H2 ((e1.trans ee).trans e2) sr2 (.ref_ (e2.get (gr sr1.len)))
 | _ => simp at h4
theorem Af {x : Str} {g : Fn} {k : Nat} {ps : List Str} {es : List Expr} {cr : CA} {p : Pos} (M : CMk X.prog X.w X.K X.mg X.base c x k ps g) (hr : fi (k + 1) X.A) (hg : Gl X x) (ha : QA X (e :: es) cr)
  (hdb : (x == ("__debug__" : Str)) = false := by decide) (he : starEach (e :: es) X.env = (false, eval e X.env) :: starEach es X.env := by rfl) (hpl : (backTo pos (starEach es X.env)).any (·.1) = false := by rfl) : QE X (.Call (.Name x p) (e :: es) [] pos) (cCB (qj c g) cr) := by
 obtain ⟨fa, fd, hm, F, hb, hx⟩ := M.ex
 exact (tV hm F hr hg hx hb .nil uJ ha.h hdb he hpl).imp (uV M.nd M.few)
noncomputable def DT : CE := fun _ S => some (.ref S.length, S ++ [.dic []])
noncomputable def Br (cd ck cx : CE) : CE := fun ρ S => (cd ρ S).bind fun p => match p.1 with
 | .ref l => match p.2[l]? with
  | some (.dic _) => (ck ρ p.2).bind fun q => (cx ρ q.2).bind fun r => match r.2[l]? with
   | some (.dic kus) => (jK q.1).bind fun k => some ((j6 kus k).getD r.1, r.2)
   | _ => none
  | _ => none
 | _ => none
end
noncomputable def uj (n : Nat) (caps : List Nat) (ρ : Rho) : Rho := List.replicate n none ++ caps.map fun i => (ρ[i]?).getD none
open Classical in
noncomputable def gv (ok : Sto → Prop) (g : CG) (ce : CE) (l : Nat) : List U → Rho → Sto → Option Sto
 | [], _, S => if ok S then some S else none
 | u :: us, ρ, S => if ok S then (g u ρ S).bind fun p => (ce p.1 p.2).bind fun r => match r.2[l]? with
  | some (.lst ys) => if ys.length < LIM then gv ok g ce l us p.1 (r.2.set l (.lst (ys ++ [r.1]))) else none
  | _ => none else none
noncomputable def kJ (ci : CI) (g : CG) (ce : CE) (n : Nat) (caps : List Nat) : CE := fun ρ S => (ci ρ S).bind fun p => (gv p.2.1 g ce p.2.2.length p.1 (uj n caps ρ) (p.2.2 ++ [.lst []])).bind fun S' => some (.ref p.2.2.length, S')
section
variable {X : Cx} {K : PySem.W.Frag}
theorem yh {m : List Addr} {H : Hp} {ρ : Rho} {σ : L2.St} {n : Nat} {caps : List Nat} (lr : Lr K m H ρ σ) : Lr K m H (uj n caps ρ) (OG.stC n caps σ) := by
 refine ⟨by simp [uj, OG.stC], fun j u e => ?_⟩
 unfold uj at e
 unfold OG.stC
 by_cases c : j < n
 ·rw [List.getElem?_append_left (by simpa using c), List.getElem?_replicate] at e
  split at e <;> cases e
 ·rw [List.getElem?_append_right (by simp; omega), List.getElem?_map] at e ⊢
  simp only [List.length_replicate] at e ⊢
  cases q : caps[j - n]? with
  | none => rw [q] at e; simp at e
  | some i =>
   rw [q] at e
   simp only [Option.map_some, Option.some.injEq] at e ⊢
   have e2 : ρ[i]? = some (some u) := by
    cases z : ρ[i]? with
    | none => rw [z] at e; simp at e
    | some y => rw [z] at e; simp at e; rw [e]
   obtain ⟨v, h1, h2⟩ := lr.at_ i u e2
   exact ⟨v, by rw [h1]; rfl, h2⟩
theorem sO {g : CG} {ce : CE} {n : Nat} {caps : List Nat} {J : It} {us : List U} {ok : Sto → Prop} {Q : VK} {m1 : List Addr} {H1 : Hp} {S1 S' : Sto} {ρ : Rho} {σ : L2.St} {l : Addr} (sr1 : Sr K m1 S1 H1) (lr : Lr K m1 H1 ρ σ) (ito : yy K J m1 H1 us ok) (hl : H1 l = none) (h2 : gv ok g ce S1.length us (uj n caps ρ) (S1 ++ [.lst []]) = some S')
  (post : ∀ m2 H2, Ext K (m1 ++ [l]) (upd H1 l (.lst [])) m2 H2 → Sr K m2 S' H2 → Q (.ref l) H2) :
  ∃ W : Nat → Nat → L2.St → Hp → Prop, (∃ m, W 0 m (OG.stC n caps σ) (upd H1 l (.lst []))) ∧
 ∀ i m σ' H2, W i m σ' H2 → (J.stop i H2 ∧ Q (.ref l) H2) ∨ (J.go i H2 ∧ ∃ N : L2.St → Hp → Prop, (∀ σ'' H', N σ'' H' → ∃ m', m' < m ∧ W (i + 1) m' σ'' H') ∧
  ∀ x H3, J.yld i H2 x H3 → tG K g x σ' H3 fun σ2 H4 => tE K ce σ2 H4 fun v H5 => ∃ ys, H5 l = some (.lst ys) ∧ ys.length < sizeLine ∧ N σ2 (upd H5 l (.lst (ys ++ [v])))) := by
 have ee : Ext K m1 H1 (m1 ++ [l]) (upd H1 l (.lst [])) := .new (dH hl _)
 let W : Nat → Nat → L2.St → Hp → Prop := fun i k σ2 H2 => k = us.length - i ∧ i ≤ us.length ∧ ∃ m2 ρ2 S2, Ext K (m1 ++ [l]) (upd H1 l (.lst [])) m2 H2 ∧ Sr K m2 S2 H2 ∧ Lr K m2 H2 ρ2 σ2 ∧ gv ok g ce S1.length (us.drop i) ρ2 S2 = some S'
 refine ⟨W, ⟨us.length, by simp, Nat.zero_le _, m1 ++ [l], uj n caps ρ, S1 ++ [.lst []], .refl, sr1.new (o := .lst []) hl ⟨[], bj, .nil_⟩, yh (lr.mono ee), by simpa using h2⟩, ?_⟩
 rintro i k σ2 H2 ⟨rfl, hi, m2, ρ2, S2, e2, sr2, lr2, hl2⟩
 by_cases hlt : i < us.length
 ·have hu := List.getElem?_eq_getElem hlt
  rw [m8 hu] at hl2
  unfold gv at hl2
  split at hl2
  ·rename_i hok
   obtain ⟨⟨ρ3, S3⟩, h3, hl2⟩ := Option.bind_eq_some_iff.mp hl2
   obtain ⟨⟨u4, S4⟩, h4, hl2⟩ := Option.bind_eq_some_iff.mp hl2
   simp only at hl2
   split at hl2 <;> try cases hl2
   rename_i ys hys
   split at hl2 <;> try cases hl2
   rename_i fS
   obtain ⟨hgo, hy⟩ := (ito m2 S2 H2 i (ee.trans e2) sr2 hok).1 _ hu
   refine .inr ⟨hgo, W (i + 1) (us.length - (i + 1)), fun σ' H' w' => ⟨_, by omega, w'⟩, fun x H3 y => ?_⟩
   obtain ⟨e3, sr3, ix⟩ := hy x H3 y
   refine ⟨m2, ρ2, S2, _, ρ3, S3, sr3, lr2.mono e3, ix, h3, fun m4 σ4 H4 e4 sr4 lr4 => ⟨m4, ρ3, S3, u4, S4, sr4, lr4, h4, fun m5 v5 H5 e5 sr5 i5 => ?_⟩⟩
   obtain ⟨a', ha', xs, hx, il⟩ := sr5.get hys
   have ha : m5[S1.length]? = some l := (((e2.trans e3).trans e4).trans e5).get (gr sr1.len)
   rw [ha] at ha'; cases ha'
   have eu : Ext K m5 H5 m5 (upd H5 l (.lst (xs ++ [v5]))) := .of (sr5.keep ha _)
   refine ⟨xs, hx, Dq (by rw [il.length]; exact fS), rfl, hlt, m5, ρ3, _, ((((e2.trans e3).trans e4).trans e5).trans eu), sr5.put (o := .lst (ys ++ [u4])) ha ⟨_, bj, (il.append (.cons_ i5 .nil_)).mono eu⟩, (lr4.mono (e5.trans eu)), hl2⟩
  ·cases hl2
 ·have e : i = us.length := by omega
  subst e
  rw [List.drop_length] at hl2
  unfold gv at hl2
  split at hl2
  ·rename_i hok
   cases hl2
   exact .inl ⟨(ito m2 _ H2 _ (ee.trans e2) sr2 hok).2 (Nat.le_refl _), post m2 H2 e2 sr2⟩
  ·cases hl2
theorem vg {ci : CI} {g : CG} {ce : CE} {n : Nat} {caps : List Nat} : ∀ σ H Q, tE K (kJ ci g ce n caps) σ H Q → xo (tI K ci) (tG K g) (tE K ce) n caps σ H Q := by
 rintro σ H Q ⟨m, ρ, S, u, S', sr, lr, hc, post⟩
 obtain ⟨⟨us, ok, S1⟩, h1, h2⟩ := Option.bind_eq_some_iff.mp hc
 obtain ⟨S2, h2, h3⟩ := Option.bind_eq_some_iff.mp h2
 cases h3
 refine ⟨m, ρ, S, us, ok, S1, sr, lr, h1, fun m1 H1 J e1 sr1 ito l hl => ?_⟩
 have ee : Ext K m1 H1 (m1 ++ [l]) (upd H1 l (.lst [])) := .new (dH hl _)
 exact sO sr1 (lr.mono e1) ito hl h2 fun m2 H2 e2 sr2 => post m2 _ H2 ((e1.trans ee).trans e2) sr2 (.ref_ (e2.get (gr sr1.len)))
theorem rB {Nc capN tn : List Str} {scope : Scope} {cl : List (Str × Addr)} {n : Nat} {caps : List Nat} {tg iter elt : Expr} {pos : Pos} {ci : CI} {g : CG} {ce : CE}
  (hc : X.calm = true) (hi : QI X tg iter ci) (hg : ∀ s3 H3 fp, WG (cxC X Nc scope cl s3 H3 fp) tg (tG X.K g)) (he : ∀ s3 H3 fp, WE (cxC X Nc scope cl s3 H3 fp) elt (tE X.K ce))
  (hclos : closureFor scope X.env = pure cl) (hkind : scope.kind = .function) (hnl : ∀ x ∈ scope.names, x.2 = .local → scope.names.lookup x.1 = some .local) (hcell : ∀ x ∈ scope.names, x.2 ≠ .cell)
  (hcl : wj X.env cl) (hhas : ((relabel scope X.env).names.all fun p => !(p.2 == .cell || p.2 == .free) || (cl.lookup p.1).isSome) = true)
  (hcap : Paired (Cap X scope cl) caps capN) (hN : Nc = tn ++ capN) (hn : tn.length = n)
  (hs : ∀ x, foldedSetIterable iter X.env x = pure x := by intro _; rfl) :
  QE X (.ListComp elt [⟨tg, iter, [], 0⟩] scope pos) (kJ ci g ce n caps) := (tZ hc hi hg he hclos hkind hnl hcell hcl hhas hcap hN hn hs).imp vg
noncomputable def iP : Fn
 | [.tup us], S => some (.int us.length, S)
 | [.ref l], S => match S[l]? with
  | some (.lst us) => some (.int us.length, S)
  | some (.dic us) => some (.int us.length, S)
  | _ => none
 | [.kl ns], S => some (.int ns.length, S)
 | _, _ => none
noncomputable abbrev D8 (K : PySem.W.Frag) : List V → Hp → VK → Prop := fun xs H Q => (∃ p ys, xs = [.ref p] ∧ (SqL K H p ys ∨ SqT K H p ys) ∧ Q (.int ys.length) H) ∨ ∃ a kvs, xs = [V.ref a] ∧ H a = some (.dK kvs) ∧ Q (.int kvs.length) H
theorem iK : eA X (.builtin "len") (D8 X.K) := nh.or sS
theorem IsL.one {m : List Addr} {H : Hp} {vs : List V} {u : U} (h : IsL K m H vs [u]) : ∃ v, vs = [v] ∧ Is K m H v u := by
 obtain ⟨x, r, rfl, i, t⟩ := h.of_cons
 rw [t.of_nil]; exact ⟨x, rfl, i⟩
theorem IsL.two {m : List Addr} {H : Hp} {vs : List V} {u w : U} (h : IsL K m H vs [u, w]) : ∃ v x, vs = [v, x] ∧ Is K m H v u ∧ Is K m H x w := by
 obtain ⟨x, r, rfl, i, t⟩ := h.of_cons
 obtain ⟨y, rfl, j⟩ := t.one
 exact ⟨x, y, rfl, i, j⟩
theorem iJ : kL K (D8 K) iP := by
 intro m S H us vs u S' Q sr i hf post
 match us, hf with
 | [.tup ws], hf =>
  cases hf
  obtain ⟨v, rfl, iv⟩ := i.one
  obtain ⟨a, xs, rfl, sa, la⟩ := iv.of_tup
  exact .inl ⟨a, xs, rfl, .inr sa, by rw [la.length]; exact post m _ H .refl sr .int_⟩
 | [.ref l], hf =>
  obtain ⟨v, rfl, iv⟩ := i.one
  obtain ⟨a, ha, rfl⟩ := iv.of_ref
  simp only [iP] at hf
  split at hf <;> try cases hf
  ·rename_i ws hS
   obtain ⟨a', ha', xs, hx, la⟩ := sr.get hS
   rw [ha] at ha'; cases ha'
   exact .inl ⟨a, xs, rfl, .inl (SqL.of hx), by rw [la.length]; exact post m _ H .refl sr .int_⟩
  ·rename_i ws hS
   obtain ⟨a', ha', xs, hx, la⟩ := sr.get hS
   rw [ha] at ha'; cases ha'
   exact .inr ⟨a, xs, rfl, hx, by rw [IsP.length la]; exact post m _ H .refl sr .int_⟩
 | [.kl ns], hf =>
  cases hf
  obtain ⟨v, rfl, iv⟩ := i.one
  obtain ⟨a, rfl, ka⟩ := iv.of_kl
  exact .inl ⟨a, _, rfl, .inl ka.sq, by rw [List.length_map]; exact post m _ H .refl sr .int_⟩
noncomputable def yq : Fn
 | [.tup us], S => some (.ref S.length, S ++ [.lst us])
 | [.ref l], S => match S[l]? with
  | some (.lst us) => some (.ref S.length, S ++ [.lst us])
  | _ => none
 | _, _ => none
noncomputable def ig : Fn
 | [.tup us], S => some (.tup us, S)
 | [.ref l], S => match S[l]? with
  | some (.lst us) => some (.tup us, S)
  | _ => none
 | _, _ => none
theorem nV : kL K (fun xs H Q => ∃ p ys, xs = [.ref p] ∧ ((SqL K H p ys ∧ ∀ l, H l = none → Q (.ref l) (upd H l (.tup ys))) ∨ (SqT K H p ys ∧ Q (.ref p) H))) ig := by
 intro m S H us vs u S' Q sr i hf post
 match us, hf with
 | [.tup ws], hf =>
  cases hf
  obtain ⟨v, rfl, iv⟩ := i.one
  obtain ⟨a, xs, rfl, sa, la⟩ := iv.of_tup
  exact ⟨a, xs, rfl, .inr ⟨sa, post m _ H .refl sr iv⟩⟩
 | [.ref l], hf =>
  obtain ⟨v, rfl, iv⟩ := i.one
  obtain ⟨a, ha, rfl⟩ := iv.of_ref
  simp only [ig] at hf
  split at hf <;> try cases hf
  rename_i ws hS
  obtain ⟨a', ha', xs, hx, la⟩ := sr.get hS
  rw [ha] at ha'; cases ha'
  exact ⟨a, xs, rfl, .inl ⟨SqL.of hx, fun l hl => lH sr la post hl⟩⟩
noncomputable def E2 : Fn
 | [.int i], S => some (.int i, S)
 | [.bl b], S => some (.int (if b then 1 else 0), S)
 | _, _ => none
noncomputable def tq : Fn
 | [.int i], S => if i.natAbs.log2 < 1920 then some (.str (toString i), S) else none
 | _, _ => none
theorem AI : kL K (fun xs H Q => ∃ i, xs = [.int i] ∧ i.natAbs.log2 < 1920 ∧ Q (.str (toString i)) H) tq := by
 intro m S H us vs u S' Q sr i hf post
 match us, hf with
 | [.int j], hf =>
  simp only [tq] at hf
  split at hf <;> try cases hf
  rename_i hl
  obtain ⟨v, rfl, iv⟩ := i.one
  exact ⟨j, by rw [iv.of_int], hl, post m _ H .refl sr .str_⟩
noncomputable def DO : Fn
 | [.int i, .int j], S => some (.int (if j < i then j else i), S)
 | _, _ => none
theorem Dg : kL K (fun xs H Q => ∃ i j, xs = [.int i, .int j] ∧ Q (.int (if j < i then j else i)) H) DO := by
 intro m S H us vs u S' Q sr i hf post
 match us, hf with
 | [.int j, .int k], hf =>
  cases hf
  obtain ⟨v, w, rfl, iv, iw⟩ := i.two
  exact ⟨j, k, by rw [iv.of_int, iw.of_int], post m _ H .refl sr .int_⟩
noncomputable def yH : List U → Option (List Bool)
 | [] => some []
 | .bl i :: r => (yH r).map (i :: ·)
 | _ => none
theorem sW : ∀ {us : List U} {ns : List Bool}, yH us = some ns → us = ns.map U.bl
 | [], ns, h => by cases h; rfl
 | u :: r, ns, h => by
  cases u <;> simp only [yH] at h <;> try cases h
  obtain ⟨ms, e, h⟩ := Option.map_eq_some_iff.mp h
  subst h
  rw [sW e]; rfl
theorem pI : ∀ (ns : List Bool), yH (ns.map U.bl) = some ns
 | [] => rfl
 | n :: r => by simp [yH, pI r]
theorem IsL.bls {m : List Addr} {H : Hp} : ∀ {xs : List V} {ns : List Bool}, IsL K m H xs (ns.map U.bl) → xs = ns.map V.bl
 | xs, [], h => h.of_nil
 | xs, n :: ns, h => by
  obtain ⟨x, r, rfl, i, t⟩ := h.of_cons
  rw [IsL.bls t, i.of_bl]; rfl
theorem pB {m : List Addr} {H : Hp} : ∀ (ns : List Int), IsL K m H (ns.map V.int) (ns.map U.int)
 | [] => .nil_
 | n :: ns => .cons_ .int_ (pB ns)
noncomputable def Bm : Fn
 | [.ref l], S => match S[l]? with
  | some (.lst us) => (yH us).bind fun bs => some (.bl (bs.all id), S)
  | _ => none
 | _, _ => none
theorem Dj : kL K (fun xs H Q => ∃ (p : Addr) (bs : List Bool), xs = [.ref p] ∧ SqL K H p (bs.map V.bl) ∧ Q (.bl (bs.all id)) H) Bm := by
 intro m S H us vs u S' Q sr i hf post
 match us, hf with
 | [.ref l], hf =>
  obtain ⟨v, rfl, iv⟩ := i.one
  obtain ⟨a, ha, rfl⟩ := iv.of_ref
  simp only [Bm] at hf
  split at hf <;> try cases hf
  rename_i ws hS
  obtain ⟨bs, hb, h⟩ := Option.bind_eq_some_iff.mp hf
  cases h
  obtain ⟨a', ha', xs, hx, la⟩ := sr.get hS
  rw [ha] at ha'; cases ha'
  rw [sW hb] at la
  rw [la.bls] at hx
  exact ⟨a, bs, rfl, SqL.of hx, post m _ H .refl sr .bl_⟩
inductive Ty where
 | non | bool | int | str | tuple | list | dict
noncomputable def Ty.nm : Ty → String
 | .non => "NoneType" | .bool => "bool" | .int => "int" | .str => "str" | .tuple => "tuple" | .list => "list" | .dict => "dict"
noncomputable def tyU : U → Sto → Option Ty
 | .non, _ => some .non | .bl _, _ => some .bool | .int _, _ => some .int | .str _, _ => some .str | .tup _, _ => some .tuple
 | .ref l, S => match S[l]? with
  | some (.lst _) => some .list
  | some (.dic _) => some .dict
  | _ => none
 | .kl _, _ => none
noncomputable def vD : Ty → Ty → Bool
 | .non, .non => true | .bool, .bool => true | .bool, .int => true | .int, .int => true | .str, .str => true | .tuple, .tuple => true | .list, .list => true | .dict, .dict => true
 | _, _ => false
theorem jI (a b : Ty) (hb : b ≠ .non) : PySem.W.kitOne K (.type a.nm) (.type b.nm) = some (vD a b) := by
 cases b <;> first | exact absurd rfl hb | (cases a <;> rfl)
noncomputable abbrev EY (K : PySem.W.Frag) : List V → Hp → VK → Prop := fun xs H Q => (∃ (x : V) (T : String) (t : Value) (k : Bool), xs = [x, .ty T] ∧ pJ K H x t ∧ PySem.W.kitOne K t (.type T) = some k ∧ Q (.bl k) H) ∨
 ∃ (a : Addr) (ys : List V) (T : String) (k : Bool), xs = [.ref a, .ty T] ∧ SqT K H a ys ∧ PySem.W.kitOne K (.type "tuple") (.type T) = some k ∧ Q (.bl k) H
theorem Dn : eA X (.builtin "isinstance") (EY X.K) := by
 refine oH.or ?_
 rintro pins s σ H xs us Q I r ⟨a, ys, T, k, rfl, sq, e, q⟩
 obtain ⟨u, w', rfl, ru, rw'⟩ := t7 r
 cases rw'
 cases ru
 obtain ⟨its, rv, ht, hz⟩ := I.tuple sq
 obtain ⟨o, h1, h2, _⟩ := ht
 exact PySem.W.kia_one PySem.W.kitx_tuple I.kIn ⟨o, h1, h2⟩ e (fun z => nomatch z) fun tk => ⟨.bl k, H, I.tok tk, rfl, q⟩
noncomputable def qo (T : Ty) (ca : CE) : CE := fun ρ S => (ca ρ S).bind fun p => (tyU p.1 p.2).bind fun t => some (.bl (vD t T), p.2)
theorem jy {T : Ty} {e eT : Expr} {ca : CE} {p pos : Pos} (hT0 : T ≠ .non) (he : QE X e ca) (hT : WE X eT (tC (.ty T.nm))) (hg : Gl X "isinstance") (hm : X.mg "isinstance" = none)
  (h1 : starEach [e, eT] X.env = (false, eval e X.env) :: starEach [eT] X.env := by rfl) (h2 : starEach [eT] X.env = (false, eval eT X.env) :: starEach [] X.env := by rfl) (hpl : (backTo pos (starEach [eT] X.env)).any (·.1) = false := by rfl) :
  QE X (.Call (.Name "isinstance" p) [e, eT] [] pos) (qo T ca) := (mw Dn hg hm OG.jV (dF he (dF hT gy h2) h1) (by decide) (by decide) h1 hpl).imp fun σ H Q hz => mi hz fun m ρ S u S' sr lr hc post => by
 obtain ⟨⟨x, S1⟩, h1, h2⟩ := Option.bind_eq_some_iff.mp hc
 obtain ⟨t, ht, h3⟩ := Option.bind_eq_some_iff.mp h2
 cases h3
 refine ⟨m, ρ, S, x, _, sr, lr, h1, fun m1 v1 H1 e1 sr1 i1 => ?_⟩
 have fin := post m1 _ H1 e1 sr1 (Is.bl_ (b := vD t T))
 cases x with
 | non => cases ht; rw [i1.of_non]; exact .inl ⟨_, _, _, _, rfl, .non, jI .non T hT0, fin⟩
 | bl b => cases ht; rw [i1.of_bl]; exact .inl ⟨_, _, _, _, rfl, .bl b, jI .bool T hT0, fin⟩
 | int i => cases ht; rw [i1.of_int]; exact .inl ⟨_, _, _, _, rfl, .int i, jI .int T hT0, fin⟩
 | str i => cases ht; rw [i1.of_str]; exact .inl ⟨_, _, _, _, rfl, .str i, jI .str T hT0, fin⟩
 | tup us =>
  cases ht
  obtain ⟨a, xs, rfl, sa, la⟩ := i1.of_tup
  exact .inr ⟨a, xs, _, _, rfl, sa, jI .tuple T hT0, fin⟩
 | ref l =>
  obtain ⟨a, ha, rfl⟩ := i1.of_ref
  simp only [tyU] at ht
  split at ht <;> try cases ht
  ·rename_i ws hS
   obtain ⟨a', ha', xs, hx, la⟩ := sr1.get hS
   rw [ha] at ha'; cases ha'
   exact .inl ⟨_, _, _, _, rfl, .lst hx, jI .list T hT0, fin⟩
  ·rename_i ws hS
   obtain ⟨a', ha', xs, hx, la⟩ := sr1.get hS
   rw [ha] at ha'; cases ha'
   exact .inl ⟨_, _, _, _, rfl, .dK hx, jI .dict T hT0, fin⟩
 | kl ns => cases ht
noncomputable def cBM (f : U → List U → Sto → Option (U × Sto)) (co : CE) (cr : CA) : CE := fun ρ S => (co ρ S).bind fun p => match p.1 with
 | .ref l => match p.2[l]? with
  | some (.lst _) => (cr ρ p.2).bind fun q => f p.1 q.1 q.2
  | _ => none
 | _ => none
noncomputable def MtP (K : PySem.W.Frag) (r : V → List V → Hp → VK → Prop) (f : U → List U → Sto → Option (U × Sto)) : Prop :=
 ∀ m S H x v us vs u S' Q, Sr K m S H → Is K m H v x → IsL K m H vs us → f x us S = some (u, S') → gw K m H Q u S' → r v vs H Q
theorem wc {r : V → List V → Hp → VK → Prop} {f : U → List U → Sto → Option (U × Sto)} {co : CE} {cr : CA} (hp : MtP K r f) : ∀ σ H Q, tE K (cBM f co cr) σ H Q → tBM K "list" r (tE K co) (tA K cr) σ H Q := by
 rintro σ H Q ⟨m, ρ, S, u, S', sr, lr, hc, post⟩
 obtain ⟨⟨x, S1⟩, h1, h2⟩ := Option.bind_eq_some_iff.mp hc
 refine ⟨m, ρ, S, x, S1, sr, lr, h1, fun m1 v1 H1 e1 sr1 i1 => ?_⟩
 cases x with
 | ref l =>
  simp only at h2
  split at h2 <;> try cases h2
  rename_i ws hS
  obtain ⟨⟨us, S2⟩, h3, h4⟩ := Option.bind_eq_some_iff.mp h2
  obtain ⟨a, ha, rfl⟩ := id i1.of_ref
  obtain ⟨a', ha', xs, hx, la⟩ := sr1.get hS
  rw [ha] at ha'; cases ha'
  exact ⟨.inl ⟨rfl, xs, SqL.of hx⟩, m1, ρ, S1, us, S2, sr1, lr.mono e1, h3, fun m2 vs H2 e2 sr2 i2 => hp m2 S2 H2 _ _ us vs u S' Q sr2 (i1.mono e2) i2 h4 (post.mono (e1.trans e2))⟩
 | _ => simp at h2
noncomputable def bZ : U → List U → Sto → Option (U × Sto)
 | .ref l, [u], S => match S[l]? with
  | some (.lst us) => if us.length < LIM then some (.non, S.set l (.lst (us ++ [u]))) else none
  | _ => none
 | _, _, _ => none
theorem uQ : MtP K rq bZ := by
 intro m S H x v us vs u S' Q sr ix i hf post
 match x, us, hf with
 | .ref l, [w], hf =>
  simp only [bZ] at hf
  split at hf <;> try cases hf
  rename_i ws hS
  split at hf <;> try cases hf
  rename_i hl
  obtain ⟨a, ha, rfl⟩ := ix.of_ref
  obtain ⟨a', ha', xs, hx, la⟩ := sr.get hS
  rw [ha] at ha'; cases ha'
  obtain ⟨y, rfl, iy⟩ := i.one
  have eu : Ext K m H m (upd H a (.lst (xs ++ [y]))) := .of (sr.keep ha _)
  exact ⟨a, xs, y, rfl, rfl, hx, Dq (by rw [la.length]; exact hl), post m _ _ eu (sr.put ha ⟨_, bj, (la.append (.cons_ iy .nil_)).mono eu⟩) .non_⟩
variable {e : Expr} {es : List Expr} {co : CE} {cr : CA} {o : Expr} {apos cpos : Pos}
theorem dY (ho : QE X o co) (ha : QA X (e :: es) cr) (hbase : attributeBase o "append" X.env (eval o X.env) = eval o X.env := by rfl) (hfew : ((backTo cpos (starEach (e :: es) X.env)).all (fun x => !x.1) && (backToKw cpos (keywordEach [] X.env)).all (fun x => x.1.isSome)
   && decide ((e :: es).length + ([] : List Keyword).length + (if ([] : List Keyword).isEmpty then 0 else 1) < 30)) = true := by rfl) (hline : (apos.endLine == cpos.line) = true := by rfl) (hs : starEach (e :: es) X.env = (false, eval e X.env) :: starEach es X.env := by rfl) (hplain : (backTo cpos (starEach es X.env)).any (·.1) = false := by rfl) :
  QE X (.Call (.Attribute o "append" apos) (e :: es) [] cpos) (cBM bZ co cr) := (oU PySem.F.plainAttrs_list PySem.F.slot_list_append PySem.F.type_list_append mV ho ha.h hbase hfew hline hs hplain).imp (wc uQ)
end
structure TC (K : PySem.W.Frag) (c : Cl) (NS : List Str) : Prop where
 cl : Cls K c.C
 ns : c.ns = NS
 nas : ∀ f ∈ NS, fU K c.C f
section
variable {K : PySem.W.Frag} {c : Cl} {NS : List Str}
theorem TC.ix (T : TC K c NS) {i : Nat} {f : Str} (h : NS[i]? = some f) : c.ns[i]? = some f := by rw [T.ns]; exact h
theorem TC.na (T : TC K c NS) (i : Nat) {f : Str} (h : NS[i]? = some f) : fU K c.C f := T.nas f (List.mem_of_getElem? h)
theorem TC.nm (T : TC K c NS) {f : Str} (h : f ∉ NS) : f ∉ c.ns := by rw [T.ns]; exact h
end
theorem _root_.L2.Fun.pure {P : Program} {w : World} {K : PySem.W.Frag} {mg : Str → Option Value} {base : Heap} {x qual : Str} {st : Stmt} {f : Addr} {fd : FuncData} {N ps : List Str} {k : Nat} {c : CS} (F : Fun K x qual st f fd) (S : aU N ps (ao st))
  (hb : ∀ (cdv : Value) (A : Around) (outer : List Env) (s : Shared) (H : Hp) (E : XK), fi k (A.deeper (envOfC qual (ao st) s.heap.objs.size f cdv)) →
   WSs (qx CX0 P w K mg base N qual (ao st) f cdv A outer s H E).nox (aR st) (tS K c)) : iU P w K mg base CX0 (k + 1) f fd ps (tj K (fnU N.length ps.length c)) :=
 Fun.okW F S (fun vs H Q E h => o3 h) fun cdv A outer s H vs Q E hr h => ⟨_, hb cdv A outer s H E hr, su (X := (qx CX0 P w K mg base N qual (ao st) f cdv A outer s H E).nox) (body := []) (ps := ps) rfl h⟩
noncomputable def SI : Bool → Heap → Addr → Addr → Nat → Prop
 | true, h, it, a, i => h.IsListIter it a i
 | false, h, it, a, i => h.IsTupleIter it a i
noncomputable def SA : Bool → Heap → Addr → Array Value → Prop
 | true, h, a, xs => h.IsList a xs
 | false, h, a, xs => h.IsTuple a xs
theorem SI.at_ {b : Bool} {h h' : Heap} {it a : Addr} {i : Nat} (x : SI b h it a i) (k : ∀ o, h.get? it = some o → h'.get? it = some o) : SI b h' it a i := by
 cases b with
 | true => obtain ⟨o, e, r⟩ := x; exact ⟨o, k o e, r⟩
 | false => obtain ⟨o, e, r⟩ := x; exact ⟨o, k o e, r⟩
theorem SA.at_ {b : Bool} {h h' : Heap} {a : Addr} {xs : Array Value} (x : SA b h a xs) (k : ∀ o, h.get? a = some o → h'.get? a = some o) : SA b h' a xs := by
 cases b with
 | true => obtain ⟨o, e, r⟩ := x; exact ⟨o, k o e, r⟩
 | false => obtain ⟨o, e, r⟩ := x; exact ⟨o, k o e, r⟩
theorem SI.obj {b : Bool} {h : Heap} {it a : Addr} {i : Nat} (x : SI b h it a i) : ∃ o, h.get? it = some o ∧ ∀ v, o.data ≠ .cell v := by
 cases b with
 | true => obtain ⟨o, e, c, d⟩ := x; exact ⟨o, e, fun v z => by rw [d] at z; cases z⟩
 | false => obtain ⟨o, e, c, d⟩ := x; exact ⟨o, e, fun v z => by rw [d] at z; cases z⟩
theorem SA.lt {b : Bool} {h : Heap} {a : Addr} {xs : Array Value} (x : SA b h a xs) : a < h.objs.size := by
 cases b with
 | true => obtain ⟨o, e, _⟩ := x; exact Heap.lt_size e
 | false => obtain ⟨o, e, _⟩ := x; exact Heap.lt_size e
section
variable {prog : Program} {w : World} {A : Around} {E : Value → Shared → Prop} {s : Shared}
theorem uc {I t : Addr} {j : Nat} {ys : Array Value} {y : Value} {Q : Value → Shared → Prop} (hI : s.heap.IsTupleIter I t j) (hT : s.heap.IsTuple t ys) (hy : ys[j]? = some y)
  (k : ∀ h', h'.IsTupleIter I t (j + 1) → Heap.SameBut I s.heap h' → Q y { s with heap := h' }) : wpAny (model prog w) A (Builtin.SmallTypes.nextOf (.ref I)) Q E s := by
 obtain ⟨oi, gi, ci, di⟩ := id hI
 obtain ⟨ot, gt, _, nt, dt⟩ := hT
 unfold Builtin.SmallTypes.nextOf
 refine wpAny_bind (wpAny_callSpecial?_slot (name := Str.ofString "__next__") hI.typeIs PySem.F.slot_tuple_iterator_next (wpAny_call_entry PySem.F.slot_tuple_iterator_next hI.typeIs PySem.F.entry_tuple_iterator_next ?_ (PySem.F.args_tuple_iterator_next_1 _)))
 show wpAny _ _ (field (.ref I) 0 >>= _) _ _ s
 refine wpAny_bind (wpAny_field gi di (x := .ref t) rfl ?_)
 show wpAny _ _ (ite ((Value.ref t == Value.none) = true) _ _) _ _ s
 rw [if_neg (by exact Bool.false_ne_true)]
 show wpAny _ _ (field (.ref I) 1 >>= _) _ _ s
 refine wpAny_bind (wpAny_field gi di (x := .int j 0) rfl ?_)
 show wpAny _ _ (seqItems? (.ref t) >>= _) _ _ s
 refine wpAny_bind (wpAny_seqItems gt dt ?_)
 simp only [hy, Int.toNat_natCast]
 refine wpAny_bind (wpAny_setField gi di (by simp) (wpAny_pure ⟨y, rfl, wpAny_pure (k _ ⟨_, Heap.get?_update_self _ gi (Obj.isFreed_of_fields (Obj.data_mapFields di _)), (Obj.cls_mapFields ..).trans ci, ?_⟩ (Heap.SameBut.update ..))⟩))
 rw [Obj.data_mapFields di]; simp [rawInt]
theorem mC {I t : Addr} {j : Nat} {ys : Array Value} {Q : Value → Shared → Prop} (hh : A.handled = none) (hI : s.heap.IsTupleIter I t j) (hT : s.heap.IsTuple t ys) (hy : ys[j]? = none)
  (k : ∀ h' e, Heap.ExtBut I s.heap h' → (∃ o, h'.get? e = some o ∧ o.cls = .type "StopIteration") → E (.ref e) { s with heap := h' }) : wpAny (model prog w) A (Builtin.SmallTypes.nextOf (.ref I)) Q E s := by
 obtain ⟨oi, gi, ci, di⟩ := id hI
 obtain ⟨ot, gt, _, nt, dt⟩ := hT
 unfold Builtin.SmallTypes.nextOf
 refine wpAny_bind (wpAny_callSpecial?_slot (name := Str.ofString "__next__") hI.typeIs PySem.F.slot_tuple_iterator_next (wpAny_call_entry PySem.F.slot_tuple_iterator_next hI.typeIs PySem.F.entry_tuple_iterator_next ?_ (PySem.F.args_tuple_iterator_next_1 _)))
 show wpAny _ _ (field (.ref I) 0 >>= _) _ _ s
 refine wpAny_bind (wpAny_field gi di (x := .ref t) rfl ?_)
 show wpAny _ _ (ite ((Value.ref t == Value.none) = true) _ _) _ _ s
 rw [if_neg (by exact Bool.false_ne_true)]
 show wpAny _ _ (field (.ref I) 1 >>= _) _ _ s
 refine wpAny_bind (wpAny_field gi di (x := .int j 0) rfl ?_)
 show wpAny _ _ (seqItems? (.ref t) >>= _) _ _ s
 refine wpAny_bind (wpAny_seqItems gt dt ?_)
 simp only [hy, Int.toNat_natCast]
 refine wpAny_bind (wpAny_rule (wpAny_bind (wpAny_setField gi di (by simp) ?_)))
 show wpAny _ _ (newExc (.type "StopIteration") [] >>= _) _ _ _
 simp only [newExc, newTuple]; refine wpAny_bind ?_
 refine wpAny_bind (wpAny_newObj_type ?_ (by (size_fits)))
 refine wpAny_bind (m := firstArgMember _ _) (wpAny_of_eq (a := Value.none) (by simp only [firstArgMember] <;> rfl) ?_)
 refine wpAny_newObj_type ?_ (by (size_fits))
 simp only [raiseNew]
 refine wpAny_bind (wpAny_handled ?_)
 rw [show A.in1.handled = none from hh]
 exact wpAny_bind (wpAny_pure (wpAny_throw (k _ _ (((Heap.SameBut.update ..).extBut.push _).push _) ⟨_, Heap.get?_push_size _ rfl, rfl⟩)))
theorem nP {b : Bool} {I t : Addr} {j : Nat} {ys : Array Value} {y : Value} {Q : Value → Shared → Prop} (hI : SI b s.heap I t j) (hT : SA b s.heap t ys) (hy : ys[j]? = some y)
  (k : ∀ h', SI b h' I t (j + 1) → Heap.SameBut I s.heap h' → Q y { s with heap := h' }) : wpAny (model prog w) A (Builtin.SmallTypes.nextOf (.ref I)) Q E s := by
 cases b with
 | true => exact wpAny_nextOf_list_item hI hT hy k
 | false => exact uc hI hT hy k
theorem iY {b : Bool} {I t : Addr} {j : Nat} {ys : Array Value} {Q : Value → Shared → Prop} (hh : A.handled = none) (hI : SI b s.heap I t j) (hT : SA b s.heap t ys) (hy : ys[j]? = none)
  (k : ∀ h' e, Heap.ExtBut I s.heap h' → (∃ o, h'.get? e = some o ∧ o.cls = .type "StopIteration") → E (.ref e) { s with heap := h' }) : wpAny (model prog w) A (Builtin.SmallTypes.nextOf (.ref I)) Q E s := by
 cases b with
 | true => exact wpAny_nextOf_list_end hh hI hT hy k
 | false => exact mC hh hI hT hy k
structure ZA (z I O i j a c : Addr) : Prop where
 Iz : I ≠ z
 Oz : O ≠ z
 iz : i ≠ z
 jz : j ≠ z
 IO : I ≠ O
 Ii : I ≠ i
 Ij : I ≠ j
 Oi : O ≠ i
 Oj : O ≠ j
 ij : i ≠ j
 az : a ≠ z
 aO : a ≠ O
 ai : a ≠ i
 aj : a ≠ j
 cz : c ≠ z
 cO : c ≠ O
 ci : c ≠ i
 cj : c ≠ j
structure ZSt (b d : Bool) (h : Heap) (z I O i j a c : Addr) (f : Value) (n : Nat) : Prop where
 hz : IsZip h z I O f
 hI : IsPair h I (.ref i) (.ref j)
 hO : ∃ p q, IsPair h O p q
 h1 : SI b h i a n
 h2 : SI d h j c n
theorem ZSt.at_ {b d : Bool} {h h' : Heap} {z I O i j a c : Addr} {f : Value} {n : Nat} (x : ZSt b d h z I O i j a c f n) (k : ∀ e ∈ [z, I, O, i, j], ∀ o, h.get? e = some o → h'.get? e = some o) : ZSt b d h' z I O i j a c f n := by
 obtain ⟨p, q, hO⟩ := x.hO
 exact ⟨k z (by simp) _ x.hz, k I (by simp) _ x.hI, ⟨p, q, k O (by simp) _ hO⟩, x.h1.at_ fun o e => k i (by simp) o e, x.h2.at_ fun o e => k j (by simp) o e⟩
theorem tx {b d : Bool} {z I O i j a c : Addr} {n : Nat} {xs ys : Array Value} {x y : Value} {Q : Value → Shared → Prop} (D : ZA z I O i j a c) (st : ZSt b d s.heap z I O i j a c .none n) (ha : SA b s.heap a xs) (hc : SA d s.heap c ys) (hx : xs[n]? = some x) (hy : ys[n]? = some y)
  (k : ∀ h', ZSt b d h' z I O i j a c (rawInt s.heap.objs.size) (n + 1) → IsPair h' s.heap.objs.size x y →
   (∀ e o, e ≠ z → e ≠ O → e ≠ i → e ≠ j → s.heap.get? e = some o → h'.get? e = some o) → Q (.ref s.heap.objs.size) { s with heap := h' }) :
  wpAny (model prog w) A (Builtin.«zip.__next__» ⟨[.ref z], []⟩) (fun fin s' => ∃ v, fin = .done (.ret v) ∧ Q v s') E s := by
 obtain ⟨hz, hI, ⟨p, q, hO⟩, h1, h2⟩ := st
 show wpAny _ _ (field (.ref z) 2 >>= _) _ _ _
 refine wpAny_bind (wpAny_field hz rfl (x := .bool false) rfl ?_)
 show wpAny _ _ (field (.ref z) 3 >>= _) _ _ _
 refine wpAny_bind (wpAny_field hz rfl (x := .ref I) rfl ?_)
 refine wpAny_bind (wpAny_seqItems hI rfl ?_)
 show wpAny _ _ (Builtin.SmallTypes.ownedTupleIsFree (.ref z) >>= _) _ _ _
 refine wpAny_bind ?_
 unfold Builtin.SmallTypes.ownedTupleIsFree
 refine wpAny_bind (wpAny_field hz rfl (x := .none) rfl (wpAny_pure ?_))
 simp only [if_true]
 refine wpAny_bind (wpAny_rule (wpAny_bind (wpAny_field hz rfl (x := .ref O) rfl (wpAny_bind (wpAny_setField_rec hz (by simp) fun g1 z1 s1 => wpAny_bind ?_)))))
 replace z1 : IsZip g1 z I O .ellipsis := z1
 simp only [List.zipIdx_nil, List.zipIdx_cons, List.forIn_nil, List.forIn_cons]
 refine wpAny_bind (wpAny_bind (wpAny_onRaise ?_))
 show wpAny _ _ (Builtin.SmallTypes.nextOf (.ref i) >>= _) _ _ _
 refine wpAny_bind (nP (b := b) (h1.at_ fun o e => s1.extBut _ _ D.iz e) (ha.at_ fun o e => s1.extBut _ _ D.az e) hx fun g2 i2 s2 => wpAny_pure ?_)
 have O2 : IsPair g2 O p q := s2.extBut _ _ D.Oi (s1.extBut _ _ D.Oz hO)
 refine wpAny_bind (wpAny_seqItems O2 rfl (wpAny_bind (wpAny_updateSeq_pair O2 fun g3 O3 s3 => ?_)))
 replace O3 : IsPair g3 O x q := O3
 refine wpAny_bind (wpAny_letGo (wpAny_pure (wpAny_bind (wpAny_bind (wpAny_onRaise ?_)))))
 show wpAny _ _ (Builtin.SmallTypes.nextOf (.ref j) >>= _) _ _ _
 have up3 : ∀ e o, e ≠ z → e ≠ i → e ≠ O → s.heap.get? e = some o → g3.get? e = some o := fun e o u1 u2 u3 q => s3.extBut _ _ u3 (s2.extBut _ _ u2 (s1.extBut _ _ u1 q))
 refine wpAny_bind (nP (b := d) (h2.at_ fun o e => up3 _ _ D.jz D.ij.symm D.Oj.symm e) (hc.at_ fun o e => up3 _ _ D.cz D.ci D.cO e) hy fun g4 j4 s4 => wpAny_pure ?_)
 have O4 : IsPair g4 O x q := s4.extBut _ _ D.Oj O3
 refine wpAny_bind (wpAny_seqItems O4 rfl (wpAny_bind (wpAny_updateSeq_pair O4 fun g5 O5 s5 => ?_)))
 replace O5 : IsPair g5 O x y := O5
 refine wpAny_bind (wpAny_letGo (wpAny_pure (wpAny_pure (wpAny_bind (wpAny_seqItems O5 rfl (wpAny_bind (wpAny_newTuple ?_)))))))
 have sz : g5.objs.size = s.heap.objs.size := by rw [s5.1, s4.1, s3.1, s2.1, s1.1]
 have z5 : IsZip g5 z I O .ellipsis := s5.extBut _ _ D.Oz.symm (s4.extBut _ _ D.jz.symm (s3.extBut _ _ D.Oz.symm (s2.extBut _ _ D.iz.symm z1)))
 have up5 : ∀ e o, e ≠ z → e ≠ O → e ≠ i → e ≠ j → s.heap.get? e = some o → g5.get? e = some o := fun e o u1 u2 u3 u4 q => s5.extBut _ _ u2 (s4.extBut _ _ u4 (up3 e o u1 u3 u2 q))
 have i5 : SI b g5 i a (n + 1) := i2.at_ fun o e => s5.extBut _ _ D.Oi.symm (s4.extBut _ _ D.ij (s3.extBut _ _ D.Oi.symm e))
 have j5 : SI d g5 j c (n + 1) := j4.at_ fun o e => s5.extBut _ _ D.Oj.symm e
 have zlt : z < g5.objs.size := Heap.lt_size z5
 show wpAny _ _ (Builtin.SmallTypes.ownedTupleHandOut (.ref z) (.ref g5.objs.size) >>= _) _ _ _
 refine wpAny_bind ?_
 unfold Builtin.SmallTypes.ownedTupleHandOut
 have z6 : IsZip (g5.push { cls := .type "tuple", data := .seq #[x, y] }) z I O .ellipsis := Heap.get?_push_of_some _ z5
 refine wpAny_bind (wpAny_setField_rec z6 (by simp) fun g7 z7 s7 => ?_)
 replace z7 : IsZip g7 z I O (rawInt g5.objs.size) := z7
 refine wpAny_setField_rec z7 (by simp) fun g8 z8 s8 => ?_
 replace z8 : IsZip g8 z I O (rawInt g5.objs.size) := z8
 have up8 : ∀ e o, e ≠ z → g5.get? e = some o → g8.get? e = some o := fun e o u1 q => s8.extBut _ _ u1 (s7.extBut _ _ u1 (Heap.get?_push_of_some _ q))
 have T8 : IsPair g8 g5.objs.size x y := s8.extBut _ _ (Nat.ne_of_gt zlt) (s7.extBut _ _ (Nat.ne_of_gt zlt) (Heap.get?_push_size _ rfl))
 rw [sz] at z8 T8
 refine wpAny_pure ⟨_, rfl, ?_⟩
 show Q (.ref g5.objs.size) _
 rw [sz]
 exact k g8 ⟨z8, up8 _ _ D.Iz (up5 _ _ D.Iz D.IO D.Ii D.Ij hI), ⟨x, y, up8 _ _ D.Oz O5⟩, i5.at_ fun o e => up8 _ _ D.iz e, j5.at_ fun o e => up8 _ _ D.jz e⟩ T8 fun e o u1 u2 u3 u4 q => up8 e o u1 (up5 e o u1 u2 u3 u4 q)
theorem tD {b d : Bool} {z I O i j a c : Addr} {n : Nat} {xs ys : Array Value} {Q : PySem.Fin → Shared → Prop} (hh : A.handled = none) (D : ZA z I O i j a c) (st : ZSt b d s.heap z I O i j a c .none n) (ha : SA b s.heap a xs) (hc : SA d s.heap c ys) (hn : xs[n]? = none ∨ ys[n]? = none)
  (k : ∀ h' e, (∀ c o, c ≠ z → c ≠ O → c ≠ i → c ≠ j → s.heap.get? c = some o → h'.get? c = some o) → (∃ o, h'.get? e = some o ∧ o.cls = .type "StopIteration") → E (.ref e) { s with heap := h' }) :
  wpAny (model prog w) A (Builtin.«zip.__next__» ⟨[.ref z], []⟩) Q E s := by
 obtain ⟨hz, hI, ⟨p, q, hO⟩, h1, h2⟩ := st
 show wpAny _ _ (field (.ref z) 2 >>= _) _ _ _
 refine wpAny_bind (wpAny_field hz rfl (x := .bool false) rfl ?_)
 show wpAny _ _ (field (.ref z) 3 >>= _) _ _ _
 refine wpAny_bind (wpAny_field hz rfl (x := .ref I) rfl ?_)
 refine wpAny_bind (wpAny_seqItems hI rfl ?_)
 show wpAny _ _ (Builtin.SmallTypes.ownedTupleIsFree (.ref z) >>= _) _ _ _
 refine wpAny_bind ?_
 unfold Builtin.SmallTypes.ownedTupleIsFree
 refine wpAny_bind (wpAny_field hz rfl (x := .none) rfl (wpAny_pure ?_))
 simp only [if_true]
 refine wpAny_bind (wpAny_rule (wpAny_bind (wpAny_field hz rfl (x := .ref O) rfl (wpAny_bind (wpAny_setField_rec hz (by simp) fun g1 z1 s1 => wpAny_bind ?_)))))
 replace z1 : IsZip g1 z I O .ellipsis := z1
 simp only [List.zipIdx_nil, List.zipIdx_cons, List.forIn_nil, List.forIn_cons]
 refine wpAny_bind (wpAny_bind (wpAny_onRaise ?_))
 show wpAny _ _ (Builtin.SmallTypes.nextOf (.ref i) >>= _) _ _ _
 cases hx : xs[n]? with
 | none =>
  refine wpAny_bind (iY (b := b) hh (h1.at_ fun o e => s1.extBut _ _ D.iz e) (ha.at_ fun o e => s1.extBut _ _ D.az e) hx fun g2 e s2 he => ?_)
  obtain ⟨oe, ge, ce⟩ := he
  have z2 : IsZip g2 z I O .ellipsis := s2 _ _ D.iz.symm z1
  have nez : e ≠ z := fun v => by subst v; rw [z2] at ge; cases ge; simp at ce
  exact wpAny_setField_rec z2 (by simp) fun g3 _ s3 => k g3 e (fun c o u1 _ u3 _ v => s3.extBut _ _ u1 (s2 _ _ u3 (s1.extBut _ _ u1 v))) ⟨oe, s3.extBut _ _ nez ge, ce⟩
 | some x =>
  have hy : ys[n]? = none := by rcases hn with v | v; rw [hx] at v; cases v; exact v
  refine wpAny_bind (nP (b := b) (h1.at_ fun o e => s1.extBut _ _ D.iz e) (ha.at_ fun o e => s1.extBut _ _ D.az e) hx fun g2 i2 s2 => wpAny_pure ?_)
  have O2 : IsPair g2 O p q := s2.extBut _ _ D.Oi (s1.extBut _ _ D.Oz hO)
  refine wpAny_bind (wpAny_seqItems O2 rfl (wpAny_bind (wpAny_updateSeq_pair O2 fun g3 O3 s3 => ?_)))
  refine wpAny_bind (wpAny_letGo (wpAny_pure (wpAny_bind (wpAny_bind (wpAny_onRaise ?_)))))
  show wpAny _ _ (Builtin.SmallTypes.nextOf (.ref j) >>= _) _ _ _
  have up3 : ∀ e o, e ≠ z → e ≠ i → e ≠ O → s.heap.get? e = some o → g3.get? e = some o := fun e o u1 u2 u3 q => s3.extBut _ _ u3 (s2.extBut _ _ u2 (s1.extBut _ _ u1 q))
  refine wpAny_bind (iY (b := d) hh (h2.at_ fun o e => up3 _ _ D.jz D.ij.symm D.Oj.symm e) (hc.at_ fun o e => up3 _ _ D.cz D.ci D.cO e) hy fun g4 e s4 he => ?_)
  obtain ⟨oe, ge, ce⟩ := he
  have z4 : IsZip g4 z I O .ellipsis := s4 _ _ D.jz.symm (s3.extBut _ _ D.Oz.symm (s2.extBut _ _ D.iz.symm z1))
  have nez : e ≠ z := fun v => by subst v; rw [z4] at ge; cases ge; simp at ce
  exact wpAny_setField_rec z4 (by simp) fun g5 _ s5 => k g5 e (fun c o u1 u2 u3 u4 v => s5.extBut _ _ u1 (s4 _ _ u4 (up3 c o u1 u3 u2 v))) ⟨oe, s5.extBut _ _ nez ge, ce⟩
theorem tF {b d : Bool} {z I O i j a c : Addr} {n : Nat} {xs ys : Array Value} {x y : Value} {Q : Option Value → Shared → Prop} (D : ZA z I O i j a c) (st : ZSt b d s.heap z I O i j a c .none n) (ha : SA b s.heap a xs) (hc : SA d s.heap c ys) (hx : xs[n]? = some x) (hy : ys[n]? = some y)
  (k : ∀ h', ZSt b d h' z I O i j a c (rawInt s.heap.objs.size) (n + 1) → IsPair h' s.heap.objs.size x y →
   (∀ e o, e ≠ z → e ≠ O → e ≠ i → e ≠ j → s.heap.get? e = some o → h'.get? e = some o) → Q (some (.ref s.heap.objs.size)) { s with heap := h' }) : wpAny (model prog w) A (pyNext (.ref z)) Q E s := by
 have ty : s.TypeIs (.ref z) "zip" := ⟨_, st.hz, rfl⟩
 unfold pyNext
 exact wpAny_bind (wpAny_attempt (wpAny_callSpecial?_slot (name := Str.ofString "__next__") ty PySem.F.slot_zip_next (wpAny_call_entry PySem.F.slot_zip_next ty PySem.F.entry_zip_next
   (tx D st ha hc hx hy fun h' a1 a2 a3 => wpAny_pure (k h' a1 a2 a3)) (PySem.F.args_zip_next_1 _))))
theorem wm {b d : Bool} {z I O i j a c : Addr} {n : Nat} {xs ys : Array Value} {Q : Option Value → Shared → Prop} (hh : A.handled = none) (D : ZA z I O i j a c) (st : ZSt b d s.heap z I O i j a c .none n) (ha : SA b s.heap a xs) (hc : SA d s.heap c ys) (hn : xs[n]? = none ∨ ys[n]? = none)
  (k : ∀ h', (∀ c o, c ≠ z → c ≠ O → c ≠ i → c ≠ j → s.heap.get? c = some o → h'.get? c = some o) → Q none { s with heap := h' }) : wpAny (model prog w) A (pyNext (.ref z)) Q E s := by
 have ty : s.TypeIs (.ref z) "zip" := ⟨_, st.hz, rfl⟩
 unfold pyNext
 refine wpAny_bind (wpAny_attempt (wpAny_callSpecial?_slot (name := Str.ofString "__next__") ty PySem.F.slot_zip_next (wpAny_call_entry PySem.F.slot_zip_next ty PySem.F.entry_zip_next
   (tD hh D st ha hc hn fun h' e hk he => ?_) (PySem.F.args_zip_next_1 _))))
 obtain ⟨o, ho, co⟩ := he
 exact wpAny_bind (wpAny_isInstance (T := "StopIteration") (b := true) ⟨o, ho, co⟩ isSubtype_stop (wpAny_pure (k _ hk)))
noncomputable def itO (b : Bool) (a : Addr) : Obj := { cls := .type (if b then "list_iterator" else "tuple_iterator"), data := .fields #[.ref a, .int 0 0] }
noncomputable abbrev zG2 (b d : Bool) (h : Heap) (a c : Addr) : Heap := (h.push (itO b a)).push (itO d c)
noncomputable abbrev zG4 (b d : Bool) (h : Heap) (a c : Addr) : Heap := ((zG2 b d h a c).push { cls := .type "tuple", data := .seq #[.ref h.objs.size, .ref (h.push (itO b a)).objs.size] }).push { cls := .type "tuple", data := .seq #[.none, .none] }
noncomputable abbrev zG5 (b d : Bool) (h : Heap) (a c : Addr) : Heap := (zG4 b d h a c).push { cls := .type "zip", data := .fields #[.none, .bool false, .bool false, .ref (zG2 b d h a c).objs.size, .ref ((zG2 b d h a c).push { cls := .type "tuple", data := .seq #[.ref h.objs.size, .ref (h.push (itO b a)).objs.size] }).objs.size] }
theorem wk (b d : Bool) (a c : Addr) (xs ys : Array Value) : Meets (Builtin.«zip.__new__» ⟨[.type "zip", .ref a, .ref c], []⟩) (fun _ R s => SA b s.heap a xs ∧ SA d s.heap c ys ∧
   R (.ok (.ret (.ref (zG4 b d s.heap a c).objs.size))) { s with heap := zG5 b d s.heap a c }) :=
 .of_wp fun prog w A R s q => by
  obtain ⟨hp, g, dr, tk, os⟩ := s
  obtain ⟨p1, p2, q⟩ := q
  have sb := sub_zip
  cases b <;> cases d
  ·have e1 : Heap.IsTuple (Shared.heap ⟨hp, g, dr, tk, os⟩) a xs := p1
   have e2 : Heap.IsTuple (Shared.heap ⟨hp.push { cls := .type "tuple_iterator", data := .fields #[.ref a, .int 0 0] }, g, dr, tk, os⟩) c ys := SA.at_ (b := false) p2 fun o e => Heap.get?_push_of_some _ e
   wp_walk using wpAny_pyIter_tuple e1, wpAny_pyIter_tuple e2
   exact ⟨_, rfl, q⟩
  ·have e1 : Heap.IsTuple (Shared.heap ⟨hp, g, dr, tk, os⟩) a xs := p1
   have e2 : Heap.IsList (Shared.heap ⟨hp.push { cls := .type "tuple_iterator", data := .fields #[.ref a, .int 0 0] }, g, dr, tk, os⟩) c ys := SA.at_ (b := true) p2 fun o e => Heap.get?_push_of_some _ e
   wp_walk using wpAny_pyIter_tuple e1, wpAny_pyIter_list e2
   exact ⟨_, rfl, q⟩
  ·have e1 : Heap.IsList (Shared.heap ⟨hp, g, dr, tk, os⟩) a xs := p1
   have e2 : Heap.IsTuple (Shared.heap ⟨hp.push { cls := .type "list_iterator", data := .fields #[.ref a, .int 0 0] }, g, dr, tk, os⟩) c ys := SA.at_ (b := false) p2 fun o e => Heap.get?_push_of_some _ e
   wp_walk using wpAny_pyIter_list e1, wpAny_pyIter_tuple e2
   exact ⟨_, rfl, q⟩
  ·have e1 : Heap.IsList (Shared.heap ⟨hp, g, dr, tk, os⟩) a xs := p1
   have e2 : Heap.IsList (Shared.heap ⟨hp.push { cls := .type "list_iterator", data := .fields #[.ref a, .int 0 0] }, g, dr, tk, os⟩) c ys := SA.at_ (b := true) p2 fun o e => Heap.get?_push_of_some _ e
   wp_walk using wpAny_pyIter_list e1, wpAny_pyIter_list e2
   exact ⟨_, rfl, q⟩
theorem vU {b : Bool} {a i : Addr} {h : Heap} (e : h.get? i = some (itO b a)) : SI b h i a 0 := by
 cases b with
 | true => exact ⟨_, e, rfl, rfl⟩
 | false => exact ⟨_, e, rfl, rfl⟩
theorem tH {b d : Bool} {a c : Addr} {xs ys : Array Value} {Q : Value → Shared → Prop} (ha : SA b s.heap a xs) (hc : SA d s.heap c ys)
  (k : ∀ h' z I O i j, ZA z I O i j a c → ZSt b d h' z I O i j a c .none 0 → (∀ e ∈ [z, I, O, i, j], s.heap.objs.size ≤ e) → (∀ e o, s.heap.get? e = some o → h'.get? e = some o) → Q (.ref z) { s with heap := h' }) :
  wpAny (model prog w) A (call (.type "zip") [.ref a, .ref c]) Q E s := by
 refine callType_new PySem.F.called_zip (by decide) (PySem.F.typeCall_zip_2 _ _) (PySem.F.newCall_zip_2 _ _) (fun obj => PySem.F.args_object_init_3 obj _ _) PySem.F.entry_zip_new (wk b d a c xs ys) ⟨ha, hc, ?_⟩
 have n1 : (s.heap.push (itO b a)).objs.size = s.heap.objs.size + 1 := Heap.size_push ..
 have n2 : (zG2 b d s.heap a c).objs.size = s.heap.objs.size + 2 := by rw [Heap.size_push, n1]
 have n3 : ((zG2 b d s.heap a c).push { cls := .type "tuple", data := .seq #[.ref s.heap.objs.size, .ref (s.heap.push (itO b a)).objs.size] }).objs.size = s.heap.objs.size + 3 := by rw [Heap.size_push, n2]
 have n4 : (zG4 b d s.heap a c).objs.size = s.heap.objs.size + 4 := by rw [Heap.size_push, n3]
 have p5 : (zG5 b d s.heap a c).get? (zG4 b d s.heap a c).objs.size = some _ := Heap.get?_push_size _ rfl
 have p4 : (zG5 b d s.heap a c).get? ((zG2 b d s.heap a c).push { cls := .type "tuple", data := .seq #[.ref s.heap.objs.size, .ref (s.heap.push (itO b a)).objs.size] }).objs.size = some _ := Heap.get?_push_of_some _ (Heap.get?_push_size _ rfl)
 have p3 : (zG5 b d s.heap a c).get? (zG2 b d s.heap a c).objs.size = some _ := Heap.get?_push_of_some _ (Heap.get?_push_of_some _ (Heap.get?_push_size _ rfl))
 have p2 : (zG5 b d s.heap a c).get? (s.heap.push (itO b a)).objs.size = some _ := Heap.get?_push_of_some _ (Heap.get?_push_of_some _ (Heap.get?_push_of_some _ (Heap.get?_push_size _ rfl)))
 have p1 : (zG5 b d s.heap a c).get? s.heap.objs.size = some _ := Heap.get?_push_of_some _ (Heap.get?_push_of_some _ (Heap.get?_push_of_some _ (Heap.get?_push_of_some _ (Heap.get?_push_size _ rfl))))
 have la := ha.lt
 have lc := hc.lt
 rw [n4, n2, n3] at p5
 rw [n2, n1] at p3
 rw [n3] at p4
 rw [n1] at p2
 show _ ∧ _
 rw [n4]
 refine ⟨⟨_, p5, rfl⟩, k _ (s.heap.objs.size + 4) (s.heap.objs.size + 2) (s.heap.objs.size + 3) s.heap.objs.size (s.heap.objs.size + 1) ⟨?_, ?_, ?_, ?_, ?_, ?_, ?_, ?_, ?_, ?_, ?_, ?_, ?_, ?_, ?_, ?_, ?_, ?_⟩ ⟨p5, p3, ⟨_, _, p4⟩, vU p1, vU p2⟩ (fun e he => ?_) fun e o x => Heap.get?_push_of_some _ (Heap.get?_push_of_some _ (Heap.get?_push_of_some _ (Heap.get?_push_of_some _ (Heap.get?_push_of_some _ x))))⟩
 case refine_19 =>
  simp only [List.mem_cons, List.not_mem_nil, or_false] at he
  rcases he with e1 | e1 | e1 | e1 | e1 <;> rw [e1] <;> first | exact Nat.le_refl _ | exact Nat.le_add_right _ _
 all_goals first | exact Nat.ne_of_lt (by omega) | exact Nat.ne_of_gt (by omega) | exact Nat.ne_of_lt (Nat.lt_of_lt_of_le la (by omega)) | exact Nat.ne_of_lt (Nat.lt_of_lt_of_le lc (by omega))
end
noncomputable def Sq (K : PySem.W.Frag) : Bool → Hp → Addr → List V → Prop
 | true, H, a, xs => SqL K H a xs
 | false, H, a, xs => SqT K H a xs
section
variable {X : Cx} {pins : List (Addr × Obj)} {σ : L2.St} {H : Hp} {s : Shared} {h' : Heap}
theorem _root_.L2.Inv.turnedL {t' : Nat} {ch : List Addr} (I : Inv X pins σ H s) (k : ∀ b o, b ∉ ch → s.heap.get? b = some o → h'.get? b = some o) (hf : ∀ b ∈ ch, tu X pins H b) : Inv X pins σ H { s with heap := h', toks := t' } := by
 have nit : ∀ b u, H b = some u → b ∉ ch := fun b u e z => by rw [(hf b z).1] at e; cases e
 refine I.step (g' := s.gens) (d' := s.drawn) (ch := ch) (fun b hb => ⟨(hf b hb).2.2.2.1, (hf b hb).2.1, (hf b hb).2.2.2.2.1, (hf b hb).2.2.2.2.2⟩) (fun b o _ _ hc e _ => k b o hc e) (fun b o _ _ hc e _ => ⟨o.slots, k b o hc e⟩) (fun _ _ _ _ n => n)
  (fun b o hc e => ⟨o, k b o hc e⟩) (fun _ _ e => e) (fun _ _ _ e => e) (fun b ps e => ⟨#[], by rw [e]; simp⟩) (fun m hm => ?_) (fun b u e => ?_) I.bare
 ·obtain ⟨o, es, ep, ho, r⟩ := hm
  exact ⟨o, es, ep, k _ o (fun z => (hf _ z).2.1 rfl) ho, r⟩
 ·refine (I.hok b u e).stay (fun c v hc q => k c v ?_ q) (fun _ q => q) fun _ _ q => q
  rcases hc with z | z
  ·rw [z]; exact nit b u e
  ·exact nit c _ z
theorem _root_.L2.Inv.sq {b : Bool} {a : Addr} {xs : List V} (I : Inv X pins σ H s) (h : Sq X.K b H a xs) : ∃ its : List Value, b0 xs its ∧ SA b s.heap a its.toArray := by
 cases b with
 | true => obtain ⟨its, r, p, _⟩ := I.list h; exact ⟨its, r, p.isList⟩
 | false => obtain ⟨its, r, p, _⟩ := I.tuple h; exact ⟨its, r, p⟩
theorem _root_.L2.Inv.sq_inj {b : Bool} {a : Addr} {xs ys : List V} (I : Inv X pins σ H s) (h : Sq X.K b H a xs) (h2 : Sq X.K b H a ys) : xs = ys := by
 cases b with
 | true => exact I.list_inj h h2
 | false => exact I.tuple_inj h h2
end
noncomputable def Itz (K : PySem.W.Frag) (b d : Bool) (a c : Addr) : It :=
  ⟨fun i H => ∃ xs ys x y, Sq K b H a xs ∧ Sq K d H c ys ∧ xs[i]? = some x ∧ ys[i]? = some y,
   fun i H v H' => ∃ p x y, v = .ref p ∧ H p = none ∧ H' = upd H p (.tup [x, y]) ∧ (∀ xs, Sq K b H a xs → xs[i]? = some x) ∧ ∀ ys, Sq K d H c ys → ys[i]? = some y,
   fun i H => ∃ xs ys, Sq K b H a xs ∧ Sq K d H c ys ∧ (xs.length ≤ i ∨ ys.length ≤ i)⟩
theorem ux {h : Heap} {ob o : Obj} {e : Addr} (q : (h.push ob).get? e = some o) (ne : e ≠ h.objs.size) : h.get? e = some o := (Heap.get?_push_ne h e ob ne).symm.trans q
theorem uK {P : Program} {w : World} {H : Hp} {h : Heap} {a : Addr} {x y : V} {u v : Value} (e : h.get? a = some { cls := .type "tuple", data := .seq #[u, v] }) (rx : de x u) (ry : de y v) : dD P w H h a (.tup [x, y]) :=
 ⟨by show 2 ≤ sizeLine; decide, [u, v], .cons rx (.cons ry .nil), ⟨_, e, rfl, _, rfl⟩⟩
theorem t8 {P : Program} {w : World} {K : PySem.W.Frag} {es : List Expr} {k : Nat} {pos : Pos} {b d : Bool} {z I O i j a c : Addr} (D : ZA z I O i j a c) :
  yI P w K (.Tuple es k pos) (Itz K b d a c) [z, I, O, i, j] z (fun n h => ZSt b d h z I O i j a c .none n) where
 mem := by simp
 obj := fun n h st e he => by
  obtain ⟨hz, hI, ⟨p, q, hO⟩, h1, h2⟩ := st
  simp only [List.mem_cons, List.not_mem_nil, or_false] at he
  rcases he with rfl | rfl | rfl | rfl | rfl
  ·exact ⟨_, hz, fun v q => by cases q⟩
  ·exact ⟨_, hI, fun v q => by cases q⟩
  ·exact ⟨_, hO, fun v q => by cases q⟩
  ·exact h1.obj
  ·exact h2.obj
 keep := fun n h h' st kp => st.at_ kp
 item := by
  intro X hP hw hK hc n pins s σ H E Iv hf st hg
  subst hP hw hK
  obtain ⟨xs, ys, x, y, qa, qc, hx, hy⟩ := hg
  obtain ⟨ia, ra, sa⟩ := Iv.sq qa
  obtain ⟨ic, rc, sc⟩ := Iv.sq qc
  obtain ⟨u, hu, ru⟩ := ra.get hx
  obtain ⟨v, hv, rv⟩ := rc.get hy
  refine tF D st sa sc (x := u) (y := v) (by simpa using hu) (by simpa using hv) fun h1 st1 T1 up1 => ⟨_, rfl, wpAny_letOwnedTupleGo_zip st1.hz fun h2 z2 s2 => ?_⟩
  have hfr : H s.heap.objs.size = none := Iv.hok.fresh (Nat.le_refl _)
  have sz : ∀ e ∈ [z, I, O, i, j], e < s.heap.objs.size := fun e he => by
   simp only [List.mem_cons, List.not_mem_nil, or_false] at he
   obtain ⟨hz, hI, ⟨p, q, hO⟩, h1', h2'⟩ := st
   rcases he with rfl | rfl | rfl | rfl | rfl
   ·exact Heap.lt_size hz
   ·exact Heap.lt_size hI
   ·exact Heap.lt_size hO
   ·obtain ⟨o, e, _⟩ := h1'.obj; exact Heap.lt_size e
   ·obtain ⟨o, e, _⟩ := h2'.obj; exact Heap.lt_size e
  have T2 : h2.get? s.heap.objs.size = some { cls := .type "tuple", data := .seq #[u, v] } := s2.extBut _ _ (Nat.ne_of_gt (sz z (by simp))) T1
  have I1 : Inv X pins σ (upd H s.heap.objs.size (.tup [x, y])) { s with heap := s.heap.push { cls := .type "tuple", data := .seq #[u, v] }, toks := s.toks } :=
   Iv.laid (fun b o e => Heap.get?_push_of_some _ e) (Nat.le_refl _) (uK (Heap.get?_push_size _ rfl) ru rv)
  have fr2 : ∀ e ∈ [z, I, O, i, j], (upd H s.heap.objs.size (.tup [x, y])) e = none := fun e he => by rw [bL (Nat.ne_of_lt (sz e he))]; exact (hf e he).1
  have I2 : Inv X pins σ (upd H s.heap.objs.size (.tup [x, y])) { s with heap := h2, toks := s.toks } :=
   Inv.turnedL (s := { s with heap := s.heap.push { cls := .type "tuple", data := .seq #[u, v] }, toks := s.toks }) (h' := h2) (t' := s.toks) (ch := [z, I, O, i, j]) I1 (fun e o hn q => by
    by_cases ce : e = s.heap.objs.size
    ·subst ce
     have q' : (s.heap.push { cls := .type "tuple", data := .seq #[u, v] }).get? s.heap.objs.size = some o := q
     rw [Heap.get?_push_size _ rfl] at q'
     cases q'; exact T2
    ·have q' : s.heap.get? e = some o := ux q ce
     simp only [List.mem_cons, List.not_mem_nil, or_false, not_or] at hn
     exact s2.extBut _ _ hn.1 (up1 e o hn.1 hn.2.2.1 hn.2.2.2.1 hn.2.2.2.2 q')) fun e he => ⟨fr2 e he, (hf e he).2⟩
  refine ⟨.ref s.heap.objs.size, _, I2, rfl, ⟨_, x, y, rfl, hfr, rfl, fun xs' q => by rw [Iv.sq_inj q qa]; exact hx, fun ys' q => by rw [Iv.sq_inj q qc]; exact hy⟩, ?_, fr2⟩
  obtain ⟨_, hI1, ⟨p, q, hO1⟩, i1, j1⟩ := st1
  exact ⟨z2, s2.extBut _ _ D.Iz hI1, ⟨p, q, s2.extBut _ _ D.Oz hO1⟩, i1.at_ fun o e => s2.extBut _ _ D.iz e, j1.at_ fun o e => s2.extBut _ _ D.jz e⟩
 done := by
  intro X hP hw hK hc n pins s σ H E Iv hf st hg
  subst hP hw hK
  obtain ⟨xs, ys, qa, qc, hx⟩ := hg
  obtain ⟨ia, ra, sa⟩ := Iv.sq qa
  obtain ⟨ic, rc, sc⟩ := Iv.sq qc
  have la := ra.length
  have lc := rc.length
  refine wm (Iv.ok.hd hc) D st sa sc (hx.elim (fun q => .inl (by simp; omega)) fun q => .inr (by simp; omega)) fun h1 up1 => ⟨rfl, ?_⟩
  exact Iv.turnedL (t' := s.toks) (ch := [z, I, O, i, j]) (fun e o hn q => by
   simp only [List.mem_cons, List.not_mem_nil, or_false, not_or] at hn
   exact up1 e o hn.1 hn.2.2.1 hn.2.2.2.1 hn.2.2.2.2 q) hf
 self := fun _ _ _ _ _ st h => wpAny_pyIter_zip st.hz h
noncomputable def DJ (K : PySem.W.Frag) (ta : TA) : TI := fun σ H R => ta σ H fun vs H2 => ∃ b d a c, vs = [.ref a, .ref c] ∧ (∃ xs, Sq K b H2 a xs) ∧ (∃ ys, Sq K d H2 c ys) ∧ R (Itz K b d a c) H2
theorem vm : bootBuiltins "zip" = some (.type "zip") := rfl
section
variable {X : Cx} {pos : Pos}
theorem zG {es : List Expr} {k : Nat} {tp p : Pos} {a c : Expr} {ta : TA} (hg : Gl X "zip") (hm : X.mg "zip" = none) (ha : WA X [a, c] ta)
  (hs : starEach [a, c] X.env = (false, eval a X.env) :: starEach [c] X.env := by rfl) (hpl : (backTo pos (starEach [c] X.env)).any (·.1) = false := by rfl) : WI X (.Tuple es k tp) (.Call (.Name "zip" p) [a, c] [] pos) (DJ X.K ta) := by
 constructor
 intro pins s σ H R I h
 refine wpAny_Call_Name_kw (mW I hg hm OP.vm ?_)
 refine PyProof.Rows.callWith_type1 (thn (ha.h pos pins s σ H _ I h) fun us s1 hz => ?_) hs hpl
 obtain ⟨vs, H1, I1, r1, q1⟩ := hz
 obtain ⟨b, d, aa, cc, rfl, ⟨xs, qa⟩, ⟨ys, qc⟩, q⟩ := q1
 obtain ⟨u, v, rfl, ru, rv⟩ := t7 r1
 cases ru
 cases rv
 obtain ⟨ia, ra, sa⟩ := I1.sq qa
 obtain ⟨ic, rc, sc⟩ := I1.sq qc
 refine tH sa sc fun h1 z II O i j D st hi up => wpAny_pyIter_zip st.hz ⟨z, [z, II, O, i, j], _, _, H1, rfl, I1.kept (t' := s1.toks) up, t8 D, st, fun e he => ?_, q⟩
 exact I1.fpOk (hi e he) (I1.hok.fresh (hi e he))
noncomputable def yA : U → Sto → Option (List U × (Sto → Prop))
 | .tup us, _ => some (us, fun _ => True)
 | .ref l, S => match S[l]? with
  | some (.lst us) => some (us, fun S => S[l]? = some (.lst us))
  | _ => none
 | _, _ => none
noncomputable def uL (us ws : List U) : List U := (us.zip ws).map fun p => .tup [p.1, p.2]
noncomputable def DK (ca cb : CE) : CI := fun ρ S => (ca ρ S).bind fun p => (cb ρ p.2).bind fun q => (yA p.1 q.2).bind fun x => (yA q.1 q.2).bind fun y => some (uL x.1 y.1, fun S => x.2 S ∧ y.2 S, q.2)
theorem vG {K : PySem.W.Frag} {m : List Addr} {S : Sto} {H : Hp} {u : U} {v : V} {us : List U} {ok : Sto → Prop} (sr : Sr K m S H) (iu : Is K m H v u) (h : yA u S = some (us, ok)) :
  ∃ b a, v = .ref a ∧ (∃ xs, Sq K b H a xs) ∧ ∀ m2 S2 H2, Ext K m H m2 H2 → Sr K m2 S2 H2 → ok S2 → ∃ xs, Sq K b H2 a xs ∧ IsL K m2 H2 xs us := by
 cases u with
 | tup ws =>
  cases h
  obtain ⟨a, xs, rfl, sq, il⟩ := iu.of_tup
  exact ⟨false, a, rfl, ⟨xs, sq⟩, fun m2 S2 H2 e _ _ => ⟨xs, e.keep.t _ _ sq, il.mono e⟩⟩
 | ref l =>
  simp only [yA] at h
  split at h <;> try cases h
  rename_i us hS
  obtain ⟨a, ha, rfl⟩ := iu.of_ref
  obtain ⟨a', ha', xs, hx, il⟩ := sr.get hS
  rw [ha] at ha'; cases ha'
  refine ⟨true, a, rfl, ⟨xs, SqL.of hx⟩, fun m2 S2 H2 e sr2 hok => ?_⟩
  obtain ⟨a', ha', xs, hx, il⟩ := sr2.get hok
  rw [e.get ha] at ha'; cases ha'
  exact ⟨xs, SqL.of hx, il⟩
 | _ => simp [yA] at h
theorem Aa {es : List Expr} {k : Nat} {tp p : Pos} {a c : Expr} {ca cc : CE} (hg : Gl X "zip") (hm : X.mg "zip" = none) (ha : QE X a ca) (hc : QE X c cc)
  (hs : starEach [a, c] X.env = (false, eval a X.env) :: starEach [c] X.env := by rfl) (hs2 : starEach [c] X.env = (false, eval c X.env) :: starEach [] X.env := by rfl) (hpl : (backTo pos (starEach [c] X.env)).any (·.1) = false := by rfl) :
  QI X (.Tuple es k tp) (.Call (.Name "zip" p) [a, c] [] pos) (DK ca cc) := (zG hg hm (dF ha (dF hc gy hs2) hs) hs hpl).imp fun σ H R hz => ql hz fun m ρ S us ok S' sr lr hf post => by
 obtain ⟨⟨x, S1⟩, h1, h⟩ := Option.bind_eq_some_iff.mp hf
 obtain ⟨⟨y, S2⟩, h2, h⟩ := Option.bind_eq_some_iff.mp h
 obtain ⟨⟨xs, okx⟩, h3, h⟩ := Option.bind_eq_some_iff.mp h
 obtain ⟨⟨ys, oky⟩, h4, h⟩ := Option.bind_eq_some_iff.mp h
 cases h
 refine ⟨m, ρ, S, x, S1, sr, lr, h1, fun m1 v1 H1 e1 sr1 i1 => ⟨m1, ρ, S1, y, _, sr1, lr.mono e1, h2, fun m2 v2 H2 e2 sr2 i2 => ?_⟩⟩
 obtain ⟨b, aa, rfl, q1, k1⟩ := vG sr2 (i1.mono e2) h3
 obtain ⟨d, bb, rfl, q2, k2⟩ := vG sr2 i2 h4
 refine ⟨b, d, aa, bb, rfl, q1, q2, post m2 H2 _ (e1.trans e2) sr2 fun m3 S3 H3 i e3 sr3 hok => ?_⟩
 obtain ⟨vs, sq1, l1⟩ := k1 m3 S3 H3 e3 sr3 hok.1
 obtain ⟨ws, sq2, l2⟩ := k2 m3 S3 H3 e3 sr3 hok.2
 have n1 := l1.length
 have n2 := l2.length
 refine ⟨fun u hu => ?_, fun hi => ⟨vs, ws, sq1, sq2, ?_⟩⟩
 ·simp only [uL, List.getElem?_map, Option.map_eq_some_iff] at hu
  obtain ⟨⟨p, q⟩, hz, rfl⟩ := hu
  obtain ⟨hp, hq⟩ := List.getElem?_zip_eq_some.mp hz
  obtain ⟨vp, ep, ip⟩ := l1.getD hp
  obtain ⟨vq, eq, iq⟩ := l2.getD hq
  refine ⟨⟨vs, ws, vp, vq, sq1, sq2, ep, eq⟩, fun v H4 hy => ?_⟩
  obtain ⟨r, x', y', rfl, hr, rfl, f1, f2⟩ := hy
  have := f1 vs sq1
  rw [ep] at this; cases this
  have := f2 ws sq2
  rw [eq] at this; cases this
  have ee : Ext X.K m3 H3 m3 (upd H3 r (.tup [vp, vq])) := .of (dH hr _)
  exact ⟨ee, sr3.same (dG hr _), .tup_ (SqT.of bj) (.cons_ (ip.mono ee) (.cons_ (iq.mono ee) .nil_))⟩
 ·simp only [uL, List.length_map, List.length_zip] at hi
  omega
end
section
variable {X : Cx} {pos : Pos}
noncomputable def jC : List (CE × CE) → Rho → Sto → Option (List (Key × U) × Sto)
 | [], _, S => some ([], S)
 | (ck, cv) :: r, ρ, S => (ck ρ S).bind fun p => (cv ρ p.2).bind fun q => (jK p.1).bind fun k => (jC r ρ q.2).bind fun z => some ((k, q.1) :: z.1, z.2)
noncomputable def AZ (kus : List (Key × U)) (au : List (Key × U)) : List (Key × U) := kus.foldl (fun acc kv => yB acc kv.1 kv.2) au
noncomputable def rO (kus : List (Key × U)) : List (Key × U) := AZ kus []
noncomputable def Bq (prs : List (CE × CE)) : CE := fun ρ S => (jC prs ρ (S ++ [.dic []])).bind fun q => match q.2[S.length]? with
 | some (.dic []) => some (.ref S.length, q.2.set S.length (.dic (rO q.1)))
 | _ => none
end
theorem gk : ∀ {ns : List Int} {vs : List Value}, b0 (ns.map V.int) vs → IntsAre vs ns
 | [], _, h => by cases h; exact .nil
 | n :: ns, _, .cons r t => by
  obtain ⟨k, rfl⟩ := r
  exact .cons n k (gk t)
section
variable {ρ : Rho} {S : Sto} {c1 c2 : CS} {t ta tb : CT} {ca cb cc : CE} {cr : CA} {u x y : U} {us : List U} {i l : Nat} {f g : U → U → Sto → Option (U × Sto)} {b : Bool}
noncomputable def Ed (S : Sto) : Option (Option U) → Option (U × Sto)
 | some (some u) => some (u, S)
 | _ => none
theorem BO : aq i ρ S = Ed S (ρ[i]?) := rfl
theorem yK : Ed S (some (some u)) = some (u, S) := rfl
theorem x_c : cC u ρ S = some (u, S) := rfl
noncomputable def Dw (f : U → U → Sto → Option (U × Sto)) (x : U) (q : U × Sto) := f x q.1 q.2
noncomputable def Ei (f : U → U → Sto → Option (U × Sto)) (cb : CE) (ρ : Rho) (p : U × Sto) := (cb ρ p.2).bind (Dw f p.1)
theorem B5 : cOp f ca cb ρ S = (ca ρ S).bind (Ei f cb ρ) := rfl
theorem wx : Ei f cb ρ (x, S) = (cb ρ S).bind (Dw f x) := rfl
theorem wu : Dw f x (y, S) = f x y S := rfl
noncomputable def A5 : U × Sto → Option (Bool × Sto)
 | (.bl b, S) => some (b, S)
 | _ => none
theorem yP : aM ca ρ S = (ca ρ S).bind A5 := by
 unfold aM; congr 1; funext p; obtain ⟨u, S⟩ := p; cases u <;> rfl
theorem wo : A5 (.bl b, S) = some (b, S) := rfl
noncomputable def DI (tb : CT) (ρ : Rho) (p : Bool × Sto) := if p.1 = true then tb ρ p.2 else some (false, p.2)
noncomputable def kOr (tb : CT) (ρ : Rho) (p : Bool × Sto) := if p.1 = true then some (true, p.2) else tb ρ p.2
noncomputable def Ej (p : Bool × Sto) : Option (Bool × Sto) := some (!p.1, p.2)
theorem CV : nj ta tb ρ S = (ta ρ S).bind (DI tb ρ) := rfl
theorem zv : DI tb ρ (true, S) = tb ρ S := rfl
theorem zu : DI tb ρ (false, S) = some (false, S) := rfl
theorem EC : cOr ta tb ρ S = (ta ρ S).bind (kOr tb ρ) := rfl
theorem B4 : kOr tb ρ (true, S) = some (true, S) := rfl
theorem B3 : kOr tb ρ (false, S) = tb ρ S := rfl
theorem B6 : yu ta ρ S = (ta ρ S).bind Ej := rfl
theorem y4 : Ej (b, S) = some (!b, S) := rfl
noncomputable def yl (cb : CE) (ρ : Rho) : U × Sto → Option (U × Sto)
 | (.bl true, S) => cb ρ S
 | (.bl false, S) => some (.bl false, S)
 | _ => none
noncomputable def Dv (cb : CE) (ρ : Rho) : U × Sto → Option (U × Sto)
 | (.bl false, S) => cb ρ S
 | (.bl true, S) => some (.bl true, S)
 | _ => none
noncomputable def A8 : U × Sto → Option (U × Sto)
 | (.bl b, S) => some (.bl (!b), S)
 | _ => none
theorem zt : kK ca cb ρ S = (ca ρ S).bind (yl cb ρ) := by
 unfold kK; congr 1; funext p; obtain ⟨u, S⟩ := p; cases u with
 | bl b => cases b <;> rfl
 | _ => rfl
theorem wO : yl cb ρ (.bl true, S) = cb ρ S := rfl
theorem wN : yl cb ρ (.bl false, S) = some (.bl false, S) := rfl
theorem B2 : Et ca cb ρ S = (ca ρ S).bind (Dv cb ρ) := by
 unfold Et; congr 1; funext p; obtain ⟨u, S⟩ := p; cases u with
 | bl b => cases b <;> rfl
 | _ => rfl
theorem y1 : Dv cb ρ (.bl false, S) = cb ρ S := rfl
theorem yZ : Dv cb ρ (.bl true, S) = some (.bl true, S) := rfl
theorem y3 : vk ca ρ S = (ca ρ S).bind A8 := by
 unfold vk; congr 1; funext p; obtain ⟨u, S⟩ := p; cases u <;> rfl
theorem wy : A8 (.bl b, S) = some (.bl (!b), S) := rfl
noncomputable def rX (u : U) (q : List U × Sto) : Option (List U × Sto) := some (u :: q.1, q.2)
noncomputable def vS (cr : CA) (ρ : Rho) (p : U × Sto) := (cr ρ p.2).bind (rX p.1)
theorem qA : aI ρ S = some ([], S) := rfl
theorem ml : ah ca cr ρ S = (ca ρ S).bind (vS cr ρ) := rfl
theorem iW : vS cr ρ (u, S) = (cr ρ S).bind (rX u) := rfl
theorem iV : rX u (us, S) = some (u :: us, S) := rfl
noncomputable def Ee (p : List U × Sto) : Option (U × Sto) := some (.tup p.1, p.2)
noncomputable def Ek (p : List U × Sto) : Option (U × Sto) := some (.ref p.2.length, p.2 ++ [.lst p.1])
theorem BP : jT cr ρ S = (cr ρ S).bind Ee := rfl
theorem yO : Ee (us, S) = some (.tup us, S) := rfl
theorem za : qy cr ρ S = (cr ρ S).bind Ek := rfl
theorem vy : Ek (us, S) = some (.ref S.length, S ++ [.lst us]) := rfl
noncomputable def kCB (f : Fn) (p : List U × Sto) := f p.1 p.2
theorem CM {f : Fn} : cCB f cr ρ S = (cr ρ S).bind (kCB f) := rfl
theorem wM {f : Fn} : kCB f (us, S) = f us S := rfl
noncomputable def El (T : Ty) (p : U × Sto) : Option (U × Sto) := (tyU p.1 p.2).bind fun t => some (.bl (vD t T), p.2)
theorem Cm {T : Ty} : qo T ca ρ S = (ca ρ S).bind (El T) := rfl
theorem zg {T : Ty} : El T (u, S) = (tyU u S).bind fun t => some (.bl (vD t T), S) := rfl
noncomputable def A6 (c2 : CS) : Out × Rho × Sto → Option (Out × Rho × Sto)
 | (.nx, ρ, S) => c2 ρ S
 | (o, ρ, S) => some (o, ρ, S)
theorem yQ : cH ρ S = some (.nx, ρ, S) := rfl
theorem yW : bw c1 c2 ρ S = (c1 ρ S).bind (A6 c2) := by
 unfold bw; congr 1; funext p; obtain ⟨o, ρ, S⟩ := p; cases o <;> rfl
theorem vx : A6 c2 (.nx, ρ, S) = c2 ρ S := rfl
theorem yV : A6 c2 (.rt u, ρ, S) = some (.rt u, ρ, S) := rfl
theorem yU : A6 c2 (.bk, ρ, S) = some (.bk, ρ, S) := rfl
theorem yT : A6 c2 (.ct, ρ, S) = some (.ct, ρ, S) := rfl
noncomputable def Ba (ρ : Rho) (p : U × Sto) : Option (Out × Rho × Sto) := some (.nx, ρ, p.2)
noncomputable def Eh (ρ : Rho) (p : U × Sto) : Option (Out × Rho × Sto) := some (.rt p.1, ρ, p.2)
theorem zm : dB ca ρ S = (ca ρ S).bind (Ba ρ) := rfl
theorem wI : Ba ρ (u, S) = some (.nx, ρ, S) := rfl
theorem B0 : eO ca ρ S = (ca ρ S).bind (Eh ρ) := rfl
theorem yX : Eh ρ (u, S) = some (.rt u, ρ, S) := rfl
noncomputable def Dx (c1 c2 : CS) (ρ : Rho) (p : Bool × Sto) := if p.1 = true then c1 ρ p.2 else c2 ρ p.2
theorem zj : eS t c1 c2 ρ S = (t ρ S).bind (Dx c1 c2 ρ) := rfl
theorem zi : Dx c1 c2 ρ (true, S) = c1 ρ S := rfl
theorem vz : Dx c1 c2 ρ (false, S) = c2 ρ S := rfl
noncomputable def kIf (ca cb : CE) (ρ : Rho) (p : Bool × Sto) := if p.1 = true then ca ρ p.2 else cb ρ p.2
theorem EM : cIf t ca cb ρ S = (t ρ S).bind (kIf ca cb ρ) := rfl
theorem Cr : kIf ca cb ρ (true, S) = ca ρ S := rfl
theorem Cq : kIf ca cb ρ (false, S) = cb ρ S := rfl
noncomputable def Ef (i : Nat) (ρ : Rho) (p : U × Sto) : Option (Out × Rho × Sto) := some (.nx, ρ.set i (some p.1), p.2)
theorem wq : dU i ca ρ S = (ca ρ S).bind (Ef i ρ) := rfl
theorem qz : Ef i ρ (u, S) = some (.nx, ρ.set i (some u), S) := rfl
noncomputable def yk (q : Rho × Sto) : Option (Out × Rho × Sto) := some (.nx, q.1, q.2)
noncomputable def Em (g : CG) (ρ : Rho) (p : U × Sto) := (g p.1 ρ p.2).bind yk
theorem CQ {g : CG} : E3 ca g ρ S = (ca ρ S).bind (Em g ρ) := rfl
theorem zr {g : CG} : Em g ρ (u, S) = (g u ρ S).bind yk := rfl
theorem zq : yk (ρ, S) = some (.nx, ρ, S) := rfl
theorem Ct : gNm i u ρ S = some (ρ.set i (some u), S) := rfl
theorem Cs {is : List Nat} : gTp is (.tup us) ρ S = (fc is us ρ).bind fun ρ' => some (ρ', S) := rfl
theorem zx : fc [] [] ρ = some ρ := rfl
theorem zw {is : List Nat} : fc (i :: is) (u :: us) ρ = fc is us (ρ.set i (some u)) := rfl
noncomputable def A7 (ρ : Rho) (S' : Sto) : Option (Out × Rho × Sto) := some (.nx, ρ, S')
noncomputable def Ds (o v : U) (ρ : Rho) (r : U × Sto) := (jP o r.1 v r.2).bind (A7 ρ)
noncomputable def Du (ci : CE) (v : U) (ρ : Rho) (q : U × Sto) := (ci ρ q.2).bind (Ds q.1 v ρ)
noncomputable def kSI (co ci : CE) (ρ : Rho) (p : U × Sto) := (co ρ p.2).bind (Du ci p.1 ρ)
theorem Ew : lj ca cb cc ρ S = (cc ρ S).bind (kSI ca cb ρ) := rfl
theorem BW : kSI ca cb ρ (u, S) = (ca ρ S).bind (Du cb u ρ) := rfl
theorem BV : Du cb y ρ (u, S) = (cb ρ S).bind (Ds u y ρ) := rfl
theorem BU : Ds x y ρ (u, S) = (jP x u y S).bind (A7 ρ) := rfl
theorem BS : A7 ρ S = some (.nx, ρ, S) := rfl
noncomputable def kIx (y : U) (S : Sto) : Option O → Option (U × Sto)
 | some (.lst us) => (match y with
   | .int i => (atI us i).bind fun u => some (u, S)
   | _ => none)
 | some (.dic kus) => (jK y).bind fun k => (j6 kus k).bind fun u => some (u, S)
 | some (.fdc _ kus) => (jK y).bind fun k => (j6 kus k).bind fun u => some (u, S)
 | _ => none
theorem Cg {j : Int} : fIx (.tup us) (.int j) S = (atI us j).bind fun u => some (u, S) := rfl
theorem Ci : fIx (.ref l) y S = kIx y S S[l]? := by
 unfold fIx kIx; dsimp only <;> (generalize S[l]? = q; rcases q with _ | o <;> first | rfl | (cases o <;> rfl))
theorem Cj {j : Int} : kIx (.int j) S (some (.lst us)) = (atI us j).bind fun u => some (u, S) := rfl
theorem Ck {kus : List (Key × U)} : kIx y S (some (.dic kus)) = (jK y).bind fun k => (j6 kus k).bind fun u => some (u, S) := rfl
noncomputable def BE (l : Nat) (i v : U) (S : Sto) : Option O → Option Sto
 | some (.lst us) => (match i with
   | .int k => (ixN us.length k).bind fun j => some (S.set l (.lst (us.set j v)))
   | _ => none)
 | some (.dic kus) => (jK i).bind fun k => if kus.length < LIM then some (S.set l (.dic (yB kus k v))) else none
 | _ => none
theorem BR : jP (.ref l) x y S = BE l x y S S[l]? := by
 unfold jP BE; dsimp only <;> (generalize S[l]? = q; rcases q with _ | o <;> first | rfl | (cases o <;> rfl))
theorem yR {j : Int} : BE l (.int j) y S (some (.lst us)) = (ixN us.length j).bind fun j => some (S.set l (.lst (us.set j y))) := rfl
theorem yS {kus : List (Key × U)} : BE l x y S (some (.dic kus)) = (jK x).bind fun k => if kus.length < LIM then some (S.set l (.dic (yB kus k y))) else none := rfl
theorem at0 {α : Type} {a : α} {r : List α} : atI (a :: r) 0 = some a := by show atI _ ((0 : Nat) : Int) = _; exact gO rfl
theorem at1 {α : Type} {a b : α} {r : List α} : atI (a :: b :: r) 1 = some b := by show atI _ ((1 : Nat) : Int) = _; exact gO rfl
theorem at2 {α : Type} {a b c : α} {r : List α} : atI (a :: b :: c :: r) 2 = some c := by show atI _ ((2 : Nat) : Int) = _; exact gO rfl
theorem at3 {α : Type} {a b c d : α} {r : List α} : atI (a :: b :: c :: d :: r) 3 = some d := by show atI _ ((3 : Nat) : Int) = _; exact gO rfl
theorem ix0 {n : Nat} : ixN (n + 1) 0 = some 0 := by simp [ixN]
theorem ix1 {n : Nat} : ixN (n + 1 + 1) 1 = some 1 := by simp [ixN]; omega
theorem ix2 {n : Nat} : ixN (n + 1 + 1 + 1) 2 = some 2 := by simp [ixN]; omega
noncomputable def BH (S : Sto) : Option O → Option (U × Sto)
 | some (.lst us) => some (.int us.length, S)
 | some (.dic us) => some (.int us.length, S)
 | _ => none
theorem zc : iP [.ref l] S = BH S S[l]? := by
 unfold iP BH; dsimp only <;> (generalize S[l]? = q; rcases q with _ | o <;> first | rfl | (cases o <;> rfl))
theorem zd : BH S (some (.lst us)) = some (.int us.length, S) := rfl
theorem ze {kus : List (Key × U)} : BH S (some (.dic kus)) = some (.int kus.length, S) := rfl
theorem zb : iP [.tup us] S = some (.int us.length, S) := rfl
variable {j k : Int}
theorem CW : fN (.int j) (.int k) S = some (.int (j + k), S) := rfl
theorem BQ : j7 (.int j) (.int k) S = some (.int (j - k), S) := rfl
theorem y6 (h : wg j k) : jQ (.int j) (.int k) S = some (.int (j * k), S) := by simp [jQ, fI, h]
theorem wJ (h : qw j k) : vd (.int j) (.int k) S = some (.int (j / k), S) := by simp [vd, fI, h]
theorem pQ (h : 0 < k) : mZ (.int j) (.int k) S = some (.int (j % k), S) := by simp [mZ, fI, h]
theorem B1 (h : yJ j k) : yE (.int j) (.int k) S = some (.int (j ^ k.toNat), S) := by simp [yE, fI, h]
theorem EL : fLt (.int j) (.int k) S = some (.bl (decide (j < k)), S) := rfl
theorem DY : fLe (.int j) (.int k) S = some (.bl (decide (j ≤ k)), S) := rfl
theorem EN : fGt (.int j) (.int k) S = some (.bl (decide (k < j)), S) := rfl
theorem EO : fGe (.int j) (.int k) S = some (.bl (decide (k ≤ j)), S) := rfl
theorem Cz : fEq (.int j) (.int k) S = some (.bl (decide (j = k)), S) := rfl
theorem B8 : fNe (.int j) (.int k) S = some (.bl (!decide (j = k)), S) := rfl
theorem Cy {a c : Str} : fEq (.str a) (.str c) S = some (.bl (decide (a = c)), S) := rfl
theorem B7 {a c : Str} : fNe (.str a) (.str c) S = some (.bl (!decide (a = c)), S) := rfl
theorem CB {a c : Bool} : fEq (.bl a) (.bl c) S = some (.bl (decide (a = c)), S) := rfl
theorem B9 {a c : Bool} : fNe (.bl a) (.bl c) S = some (.bl (!decide (a = c)), S) := rfl
noncomputable def kFn : Out × Rho × Sto → Option (U × Sto)
 | (.rt u, _, S) => some (u, S)
 | (.nx, _, S) => some (.non, S)
 | _ => none
theorem j8 {n k : Nat} (h : us.length = k) : fnU n k c1 us S = (c1 (mE n us) S).bind kFn := by
 unfold fnU; rw [if_pos h]; congr 1; funext p; obtain ⟨o, ρ, S⟩ := p; cases o <;> rfl
theorem Cv : kFn (.rt u, ρ, S) = some (u, S) := rfl
theorem Cu : kFn (.nx, ρ, S) = some (.non, S) := rfl
end
section
variable {ρ : Rho} {S : Sto} {c1 c2 : CS} {t ta tb : CT} {ca cb cc : CE} {cr : CA} {u x y : U} {us : List U} {i l : Nat} {b : Bool} {c : Cl} {fus : List (Option U)} {g : Fn}
open Classical in
noncomputable def u0 (c : Cl) (i : Nat) (S : Sto) : Option O → Option (U × Sto)
 | some (.ins c' fus) => if c' = c then (fus[i]?).join.bind fun u => some (u, S) else none
 | _ => none
noncomputable def Dy (c : Cl) (i : Nat) (p : U × Sto) := Bl c i p.1 p.2
theorem Cw : qp c i ca ρ S = (ca ρ S).bind (Dy c i) := rfl
theorem zl : Dy c i (.ref l, S) = u0 c i S S[l]? := by
 unfold Dy Bl u0; dsimp only <;> (generalize S[l]? = q; rcases q with _ | o <;> first | rfl | (cases o <;> rfl))
theorem zk : u0 c i S (some (.ins c fus)) = ((fus[i]?).join).bind fun u => some (u, S) := by
 unfold u0; dsimp only; rw [if_pos rfl]
open Classical in
noncomputable def BF (c : Cl) (i l : Nat) (v : U) (S : Sto) : Option O → Option Sto
 | some (.ins c' fus) => if c' = c then some (S.set l (.ins c (fus.set i (some v)))) else none
 | _ => none
noncomputable def BG (c : Cl) (i : Nat) (v : U) (ρ : Rho) (q : U × Sto) := (sy c i q.1 v q.2).bind (A7 ρ)
noncomputable def Eg (c : Cl) (i : Nat) (ca : CE) (ρ : Rho) (p : U × Sto) := (ca ρ p.2).bind (BG c i p.1 ρ)
theorem Ex : lS c i ca cb ρ S = (cb ρ S).bind (Eg c i ca ρ) := rfl
theorem BZ : Eg c i ca ρ (u, S) = (ca ρ S).bind (BG c i u ρ) := rfl
theorem BY : BG c i u ρ (.ref l, S) = (BF c i l u S S[l]?).bind (A7 ρ) := by
 unfold BG sy BF; dsimp only <;> (generalize S[l]? = q; rcases q with _ | o <;> first | rfl | (cases o <;> rfl))
theorem BX : BF c i l u S (some (.ins c fus)) = some (S.set l (.ins c (fus.set i (some u)))) := by
 unfold BF; dsimp only; rw [if_pos rfl]
noncomputable def rW (g : Fn) (l : Nat) (q : List U × Sto) := g (.ref l :: q.1) q.2
open Classical in
noncomputable def px (c : Cl) (g : Fn) (cr : CA) (ρ : Rho) (l : Nat) (S : Sto) : Option O → Option (U × Sto)
 | some (.ins c' _) => if c' = c then (cr ρ S).bind (rW g l) else none
 | _ => none
noncomputable def yj (c : Cl) (g : Fn) (cr : CA) (ρ : Rho) (p : U × Sto) := sC c g p.1 p.2 (cr ρ)
theorem y8 : dA c g ca cr ρ S = (ca ρ S).bind (yj c g cr ρ) := rfl
theorem wB : yj c g cr ρ (.ref l, S) = px c g cr ρ l S S[l]? := by
 unfold yj sC px; dsimp only <;> (generalize S[l]? = q; rcases q with _ | o <;> first | rfl | (cases o <;> rfl))
theorem wA : px c g cr ρ l S (some (.ins c fus)) = (cr ρ S).bind (rW g l) := by
 unfold px; dsimp only; rw [if_pos rfl]
theorem wz : rW g l (us, S) = g (.ref l :: us) S := rfl
noncomputable def A9 (n : Nat) : U × Sto → Option (U × Sto)
 | (.non, S) => some (.ref n, S)
 | _ => none
theorem y9 : qj c g us S = (g (.ref S.length :: us) (S ++ [.ins c (List.replicate c.ns.length none)])).bind (A9 S.length) := by
 unfold qj; congr 1; funext p; obtain ⟨u, S⟩ := p; cases u <;> rfl
theorem wC : A9 i (.non, S) = some (.ref i, S) := rfl
noncomputable def kIn (neg : Bool) (x : U) (S : Sto) : Option O → Option (U × Sto)
 | some (.lst us) => if fC x = true ∧ us.all fC = true then some (.bl (if neg then !inU x us else inU x us), S) else none
 | some (.dic kus) => (jK x).bind fun k => some (.bl (if neg then !(j6 kus k).isSome else (j6 kus k).isSome), S)
 | some (.fdc _ kus) => (jK x).bind fun k => some (.bl (if neg then !(j6 kus k).isSome else (j6 kus k).isSome), S)
 | _ => none
theorem Cn {neg : Bool} : fIn neg x (.ref l) S = kIn neg x S S[l]? := by
 unfold fIn kIn; dsimp only <;> (generalize S[l]? = q; rcases q with _ | o <;> first | rfl | (cases o <;> rfl))
theorem Cp {neg : Bool} {kus : List (Key × U)} : kIn neg x S (some (.dic kus)) = (jK x).bind fun k => some (.bl (if neg then !(j6 kus k).isSome else (j6 kus k).isSome), S) := rfl
theorem Co {neg : Bool} (h : fC x = true ∧ us.all fC = true) : kIn neg x S (some (.lst us)) = some (.bl (if neg then !inU x us else inU x us), S) := by
 unfold kIn; dsimp only; rw [if_pos h]
theorem Ce {j : Int} : jK (.int j) = some (.inl j) := rfl
theorem zf {z : Str} : jK (.str z) = some (.inr z) := rfl
noncomputable def DG (f : U → List U → Sto → Option (U × Sto)) (x : U) (q : List U × Sto) := f x q.1 q.2
noncomputable def DH (f : U → List U → Sto → Option (U × Sto)) (cr : CA) (ρ : Rho) (x : U) (S : Sto) : Option O → Option (U × Sto)
 | some (.lst _) => (cr ρ S).bind (DG f x)
 | _ => none
noncomputable def kBM (f : U → List U → Sto → Option (U × Sto)) (cr : CA) (ρ : Rho) : U × Sto → Option (U × Sto)
 | (.ref l, S) => DH f cr ρ (.ref l) S S[l]?
 | _ => none
variable {fm : U → List U → Sto → Option (U × Sto)}
theorem ES : cBM fm ca cr ρ S = (ca ρ S).bind (kBM fm cr ρ) := by
 unfold cBM; congr 1; funext p; obtain ⟨u, S⟩ := p
 cases u <;> try rfl
theorem CP : kBM fm cr ρ (.ref l, S) = DH fm cr ρ (.ref l) S S[l]? := rfl
theorem CO : DH fm cr ρ x S (some (.lst us)) = (cr ρ S).bind (DG fm x) := rfl
theorem CN : DG fm x (us, S) = fm x us S := rfl
noncomputable def BI (l : Nat) (u : U) (S : Sto) : Option O → Option (U × Sto)
 | some (.lst us) => if us.length < LIM then some (.non, S.set l (.lst (us ++ [u]))) else none
 | _ => none
theorem CU : bZ (.ref l) [u] S = BI l u S S[l]? := by
 unfold bZ BI; dsimp only <;> (generalize S[l]? = q; rcases q with _ | o <;> first | rfl | (cases o <;> rfl))
theorem eP (h : us.length < LIM) : BI l u S (some (.lst us)) = some (.non, S.set l (.lst (us ++ [u]))) := by
 unfold BI; dsimp only; rw [if_pos h]
noncomputable def Dz (ku xu : U) (S : Sto) : Option O → Option (U × Sto)
 | some (.dic kus) => (jK ku).bind fun k => some ((j6 kus k).getD xu, S)
 | _ => none
noncomputable def DB (l : Nat) (ku : U) (r : U × Sto) := Dz ku r.1 r.2 r.2[l]?
noncomputable def DC (l : Nat) (cx : CE) (ρ : Rho) (q : U × Sto) := (cx ρ q.2).bind (DB l q.1)
noncomputable def DD (l : Nat) (ck cx : CE) (ρ : Rho) (S : Sto) : Option O → Option (U × Sto)
 | some (.dic _) => (ck ρ S).bind (DC l cx ρ)
 | _ => none
noncomputable def kDG (ck cx : CE) (ρ : Rho) : U × Sto → Option (U × Sto)
 | (.ref l, S) => DD l ck cx ρ S S[l]?
 | _ => none
theorem ER : Br ca cb cc ρ S = (ca ρ S).bind (kDG cb cc ρ) := by
 unfold Br; congr 1; funext p; obtain ⟨u, S⟩ := p
 cases u <;> try rfl
theorem CJ : kDG cb cc ρ (.ref l, S) = DD l cb cc ρ S S[l]? := rfl
theorem CH {kus : List (Key × U)} : DD l cb cc ρ S (some (.dic kus)) = (cb ρ S).bind (DC l cc ρ) := rfl
theorem CF : DC l cc ρ (u, S) = (cc ρ S).bind (DB l u) := rfl
theorem CD : DB l u (x, S) = Dz u x S S[l]? := rfl
theorem CC {kus : List (Key × U)} : Dz u x S (some (.dic kus)) = (jK u).bind fun k => some ((j6 kus k).getD x, S) := rfl
theorem zo : DT ρ S = some (.ref S.length, S ++ [.dic []]) := rfl
noncomputable def kP3 (k : Key) (u : U) (z : List (Key × U) × Sto) : Option (List (Key × U) × Sto) := some ((k, u) :: z.1, z.2)
noncomputable def kP2 (r : List (CE × CE)) (ρ : Rho) (x : U) (q : U × Sto) := (jK x).bind fun k => (jC r ρ q.2).bind (kP3 k q.1)
noncomputable def kP1 (cv : CE) (r : List (CE × CE)) (ρ : Rho) (p : U × Sto) := (cv ρ p.2).bind (kP2 r ρ p.1)
variable {pr : List (CE × CE)}
theorem EB : jC [] ρ S = some ([], S) := rfl
theorem x_p : jC ((ca, cb) :: pr) ρ S = (ca ρ S).bind (kP1 cb pr ρ) := rfl
theorem EA : kP1 cb pr ρ (u, S) = (cb ρ S).bind (kP2 pr ρ u) := rfl
theorem Ez : kP2 pr ρ x (u, S) = (jK x).bind fun k => (jC pr ρ S).bind (kP3 k u) := rfl
theorem Ey {k : Key} {z : List (Key × U)} : kP3 k u (z, S) = some ((k, u) :: z, S) := rfl
noncomputable def kD1 (n : Nat) (kus : List (Key × U)) (S : Sto) : Option O → Option (U × Sto)
 | some (.dic []) => some (.ref n, S.set n (.dic (rO kus)))
 | _ => none
noncomputable def kD (n : Nat) (q : List (Key × U) × Sto) := kD1 n q.1 q.2 q.2[n]?
theorem zp : Bq pr ρ S = (jC pr ρ (S ++ [.dic []])).bind (kD S.length) := by
 unfold Bq; congr 1
theorem wL {z : List (Key × U)} : kD i (z, S) = kD1 i z S S[i]? := rfl
theorem wK {z : List (Key × U)} : kD1 i z S (some (.dic [])) = some (.ref i, S.set i (.dic (rO z))) := rfl
theorem yL : ig [.tup us] S = some (.tup us, S) := rfl
noncomputable def Dr (S : Sto) : Option O → Option (U × Sto)
 | some (.lst us) => some (.tup us, S)
 | _ => none
theorem yM : ig [.ref l] S = Dr S S[l]? := by
 unfold ig Dr; dsimp only <;> (generalize S[l]? = q; rcases q with _ | o <;> first | rfl | (cases o <;> rfl))
theorem yN : Dr S (some (.lst us)) = some (.tup us, S) := rfl
theorem wD : yq [.tup us] S = some (.ref S.length, S ++ [.lst us]) := rfl
noncomputable def kLs (S : Sto) : Option O → Option (U × Sto)
 | some (.lst us) => some (.ref S.length, S ++ [.lst us])
 | _ => none
theorem wF : yq [.ref l] S = kLs S S[l]? := by
 unfold yq kLs; dsimp only <;> (generalize S[l]? = q; rcases q with _ | o <;> first | rfl | (cases o <;> rfl))
theorem wG : kLs S (some (.lst us)) = some (.ref S.length, S ++ [.lst us]) := rfl
theorem zh : E2 [.bl b] S = some (.int (if b then 1 else 0), S) := rfl
theorem ga {X : Sto} {n : Nat} : (S ++ X)[S.length + n]? = X[n]? := by rw [List.getElem?_append_right (Nat.le_add_right _ _), Nat.add_sub_cancel_left]
theorem ga0 {X : Sto} : (S ++ X)[S.length]? = X[0]? := ga (n := 0)
theorem gs {X : Sto} {n : Nat} {o : O} : (S ++ X).set (S.length + n) o = S ++ X.set n o := by rw [List.set_append_right _ _ (Nat.le_add_right _ _), Nat.add_sub_cancel_left]
theorem gs0 {X : Sto} {o : O} : (S ++ X).set S.length o = S ++ X.set 0 o := gs (n := 0)
section
variable {ok : Sto → Prop} {gg : CG} {cbd : CS} {ρ0 ρ1 : Rho} {S0 S1 : Sto}
theorem eX (h : ok S) : eM ok gg cbd [] ρ S = some (.nx, ρ, S) := by unfold eM; rw [if_pos h]
theorem bP (h : ok S) (hg : gg u ρ S = some (ρ0, S0)) (hb : cbd ρ0 S0 = some (.nx, ρ1, S1)) : eM ok gg cbd (u :: us) ρ S = eM ok gg cbd us ρ1 S1 := by
 rw [eM]; dsimp only; rw [if_pos h, hg, Option.bind_some]; dsimp only; rw [hb, Option.bind_some]
theorem t5 {n : Nat} (ht : t ρ S = some (true, S0)) (hb : cbd ρ S0 = some (.nx, ρ1, S1)) : eB t cbd (n + 1) ρ S = eB t cbd n ρ1 S1 := by
 rw [eB]; dsimp only; rw [ht, Option.bind_some]; dsimp only; rw [if_pos rfl, hb, Option.bind_some]
theorem qL {n : Nat} (ht : t ρ S = some (false, S0)) : eB t cbd (n + 1) ρ S = some (.nx, ρ, S0) := by
 rw [eB]; dsimp only; rw [ht, Option.bind_some]; dsimp only; rw [if_neg (by decide)]
theorem m9 {ce : CE} {ys : List U} (h : ok S) (hg : gg u ρ S = some (ρ0, S0)) (he : ce ρ0 S0 = some (x, S1)) (hl : S1[l]? = some (.lst ys)) (hn : ys.length < LIM) : gv ok gg ce l (u :: us) ρ S = gv ok gg ce l us ρ0 (S1.set l (.lst (ys ++ [x]))) := by
 rw [gv, if_pos h, hg, Option.bind_some]; dsimp only; rw [he, Option.bind_some]; dsimp only; rw [hl]; dsimp only; rw [if_pos hn]
theorem pG {ce : CE} (h : ok S) : gv ok gg ce l [] ρ S = some S := by rw [gv, if_pos h]
end
end
theorem yi {K : PySem.W.Frag} {H : Hp} {p xs : Addr} {c : CS} {r : Rho} {σ : L2.St} {v0 : Option V} {Q : VK} {nx bk ct : L2.St → Hp → Prop} (P : Eu H p xs)
  (ok : ∀ (ns : List Int) (a b : Int), 0 ≤ a → 0 ≤ b → ∃ ρ' S', c (none :: some (.ref 1) :: r) [.lst (ns.map U.int), .lst [.ref 0, .int a, .int b]] = some (.rt (.bl true), ρ', S')) (q : ∀ H', Q (.bl true) H')
  (hr : r = List.replicate r.length none := by rfl) (hl : σ.length = r.length := by rfl) : tS K c { nx := nx, rt := Q, bk := bk, ct := ct } (v0 :: some (.ref p) :: σ) H := by
 obtain ⟨ns, a, b, h1, h2, h3, h4, h5⟩ := P
 obtain ⟨ρ', S', e⟩ := ok ns a b h4 h5
 refine ⟨[xs, p], _, _, _, ρ', S', ⟨rfl, by simp [h3], fun l ad o e1 e2 => ?_⟩, ⟨by simp [hl], fun i u e1 => ?_⟩, e, fun m' v H' _ _ iv => by rw [iv.of_bl]; exact q H'⟩
 ·match l, e1, e2 with
  | 0, e1, e2 =>
   simp at e1 e2
   subst e1; subst e2
   exact ⟨_, h2, pB ns⟩
  | 1, e1, e2 =>
   simp at e1 e2
   subst e1; subst e2
   exact ⟨_, h1, .cons_ (.ref_ rfl) (.cons_ .int_ (.cons_ .int_ .nil_))⟩
  | l + 2, e1, e2 => simp at e1
 ·match i, e1 with
  | 0, e1 => simp at e1
  | 1, e1 =>
   simp at e1
   subst e1
   exact ⟨.ref p, rfl, .ref_ rfl⟩
  | i + 2, e1 =>
   simp at e1
   rw [hr, List.getElem?_replicate] at e1
   split at e1 <;> cases e1
theorem ef.no {P : Program} {w : World} {K : PySem.W.Frag} {mg : Str → Option Value} {base : Heap} {c : Cl} {mn x qual : Str} {st : Stmt} {k : Nat} {ps : List Str} {fa : Addr} {fd : FuncData} (F : Fun K x qual st fa fd) (b : dS K fd ps []) (m : jY K c.C mn fa) : ef P w K mg base c mn k ps (fun _ _ => none) := by
 have no : ∀ vs H Q E, ¬ tj K (fun _ _ => none) vs H Q E := fun vs H Q E h => by
  obtain ⟨m, us, S, u, S', i, sr, hf, post⟩ := h
  cases hf
 exact ⟨fa, fd, m, ⟨fun vs H Q E h => absurd h (no vs H Q E), fun A outer s H args us vs Q E _ _ _ _ h => absurd h (no vs H Q E)⟩, b⟩
theorem jX {p : List Value → Prop} (h : p []) (us : List Value) (e : us.length = 0) : p us := by rw [List.length_eq_zero_iff.mp e]; exact h
theorem eV {n : Nat} {p : List Value → Prop} (h : ∀ a us, us.length = n → p (a :: us)) (us : List Value) (e : us.length = n + 1) : p us := by
 cases us with
 | nil => cases e
 | cons a us => exact h a us (Nat.succ.inj e)
end OP
namespace OP
open PySem PySem.Spec PyProof PyProof.Rows L2 OG
section
variable {X : Cx} {K : PySem.W.Frag} {pins : List (Addr × Obj)} {σ : L2.St} {H : Hp} {s : Shared}
noncomputable def BK (us : List U) (lo hi : Option Int) : List U := (us.drop (HT.sIx us.length 0 lo)).take (HT.sIx us.length us.length hi - HT.sIx us.length 0 lo)
theorem vZ {m : List Addr} {xs : List V} {us : List U} {lo hi : Option Int} (i : IsL K m H xs us) : IsL K m H (sN xs lo hi) (BK us lo hi) := by
 unfold sN BK
 rw [i.length]
 exact (i.drop _).take _
noncomputable def fSl (x : U) (lo hi : Option Int) (S : Sto) : Option (U × Sto) := match x with
 | .tup us => if HT.sIx us.length 0 lo = 0 ∧ HT.sIx us.length us.length hi = us.length then none else some (.tup (BK us lo hi), S)
 | .ref l => match S[l]? with
  | some (.lst us) => some (.ref S.length, S ++ [.lst (BK us lo hi)])
  | _ => none
 | _ => none
noncomputable def sU : Option CE → Rho → Sto → Option (Option Int × Sto)
 | none, _, S => some (none, S)
 | some c, ρ, S => (c ρ S).bind fun p => match p.1 with
  | .int i => some (some i, p.2)
  | _ => none
noncomputable def cSl (ca : CE) (cl ch : Option CE) : CE := fun ρ S => (ca ρ S).bind fun p => (sU cl ρ p.2).bind fun q => (sU ch ρ q.2).bind fun r => fSl p.1 q.1 r.1 r.2
noncomputable def DU (K : PySem.W.Frag) (m : List Addr) (H : Hp) (Q : Option Int → Hp → Prop) (o : Option Int) (S' : Sto) : Prop := ∀ m' H', Ext K m H m' H' → Sr K m' S' H' → Q o H'
noncomputable def tO (K : PySem.W.Frag) (c : Option CE) : TO := fun σ H Q => ∃ m ρ S o S', Sr K m S H ∧ Lr K m H ρ σ ∧ sU c ρ S = some (o, S') ∧ DU K m H Q o S'
noncomputable abbrev QO (X : Cx) (e : Option Expr) (c : Option CE) : Prop := WO X e (tO X.K c)
theorem rA : QO X none none := ⟨fun pins s σ H Q I hz => mi hz fun m ρ S o S' sr lr hc post => oT.h pins s σ H Q I (by cases hc; exact post m H .refl sr)⟩
theorem rz {e : Expr} {ca : CE} (h : QE X e ca) : QO X (some e) (some ca) := ⟨fun pins s σ H Q I hz => mi hz fun m ρ S o S' sr lr hc post => (oS h).h pins s σ H Q I (by
 obtain ⟨⟨x, S1⟩, h1, h2⟩ := Option.bind_eq_some_iff.mp hc
 refine ⟨m, ρ, S, x, S1, sr, lr, h1, fun m1 v1 H1 e1 sr1 i1 => ?_⟩
 cases x <;> simp at h2
 obtain ⟨rfl, rfl⟩ := h2
 exact ⟨_, i1.of_int, post m1 H1 e1 sr1⟩)⟩
theorem Ea {e : Expr} {lo hi : Option Expr} {ca : CE} {cl ch : Option CE} {pos p2 : Pos} (ha : QE X e ca) (hl : QO X lo cl) (hh : QO X hi ch) : QE X (.Subscript e (.Slice lo hi none p2) pos) (cSl ca cl ch) := (mr (rb.or zV) ha hl hh).imp fun σ H Q hz => mi hz fun m ρ S u S' sr lr hc post => by
 obtain ⟨⟨x, S1⟩, h1, ha⟩ := Option.bind_eq_some_iff.mp hc
 obtain ⟨⟨l, S2⟩, h2, hb⟩ := Option.bind_eq_some_iff.mp ha
 obtain ⟨⟨k, S3⟩, h3, h⟩ := Option.bind_eq_some_iff.mp hb
 clear ha hb hc
 refine ⟨m, ρ, S, x, S1, sr, lr, h1, fun m1 v1 H1 e1 sr1 i1 => ⟨m1, ρ, S1, l, S2, sr1, lr.mono e1, h2, fun m2 H2 e2 sr2 => ⟨m2, ρ, S2, k, S3, sr2, lr.mono (e1.trans e2), h3, fun m3 H3 e3 sr3 => ?_⟩⟩⟩
 have i3 := i1.mono (e2.trans e3)
 have e03 := (e1.trans e2).trans e3
 cases x with
 | tup us =>
  simp only [fSl] at h
  split at h <;> try cases h
  rename_i hw
  obtain ⟨a, xs, rfl, sa, la⟩ := i3.of_tup
  exact .inr ⟨a, xs, rfl, sa, by rw [la.length]; exact hw, fun p hp => lH sr3 (vZ la) (post.mono e03) hp⟩
 | ref r =>
  simp only [fSl] at h
  split at h <;> try cases h
  rename_i us hS
  obtain ⟨a, ha, rfl⟩ := i3.of_ref
  obtain ⟨a', ha', xs, hx, la⟩ := sr3.get hS
  rw [ha] at ha'; cases ha'
  exact .inl ⟨a, xs, rfl, SqL.of hx, fun p hp => iO sr3 (vZ la) (post.mono e03) hp⟩
 | _ => simp [fSl] at h
end
section
variable {X : Cx} {K : PySem.W.Frag}
instance {us : List U} : Decidable (us ≠ []) := match us with
 | [] => .isFalse fun h => h rfl
 | _ :: _ => .isTrue fun h => by cases h
end
section
variable {X : Cx} {K : PySem.W.Frag}
noncomputable def fD : U → List U → Sto → Option (U × Sto)
 | .ref l, [.ref b], S => match S[l]?, S[b]? with
  | some (.lst us), some (.lst vs) => if us.length + vs.length ≤ LIM then some (.non, S.set l (.lst (us ++ vs))) else none
  | _, _ => none
 | _, _, _ => none
theorem uP : MtP K rp fD := by
 intro m S H x v us vs u S' Q sr ix i hf post
 match x, us, hf with
 | .ref l, [.ref b], hf =>
  simp only [fD] at hf
  split at hf <;> try cases hf
  rename_i xs0 ys0 hS hB
  split at hf <;> try cases hf
  rename_i hl
  obtain ⟨a, ha, rfl⟩ := ix.of_ref
  obtain ⟨a', ha', xs, hx, la⟩ := sr.get hS
  rw [ha] at ha'; cases ha'
  obtain ⟨y, rfl, iy⟩ := i.one
  obtain ⟨c, hc, rfl⟩ := iy.of_ref
  obtain ⟨c', hc', ys, hy, lb⟩ := sr.get hB
  rw [hc] at hc'; cases hc'
  have eu : Ext K m H m (upd H a (.lst (xs ++ ys))) := .of (sr.keep ha _)
  exact ⟨a, c, xs, ys, rfl, rfl, hx, hy, lim (by rw [la.length, lb.length]; exact hl), post m _ _ eu (sr.put ha ⟨_, bj, (la.append lb).mono eu⟩) .non_⟩
variable {e : Expr} {es : List Expr} {co : CE} {cr : CA} {o : Expr} {apos cpos : Pos}
theorem uw (ho : QE X o co) (ha : QA X (e :: es) cr) (hbase : attributeBase o "extend" X.env (eval o X.env) = eval o X.env := by rfl) (hfew : ((backTo cpos (starEach (e :: es) X.env)).all (fun x => !x.1) && (backToKw cpos (keywordEach [] X.env)).all (fun x => x.1.isSome)
   && decide ((e :: es).length + ([] : List Keyword).length + (if ([] : List Keyword).isEmpty then 0 else 1) < 30)) = true := by rfl) (hline : (apos.endLine == cpos.line) = true := by rfl) (hs : starEach (e :: es) X.env = (false, eval e X.env) :: starEach es X.env := by rfl) (hplain : (backTo cpos (starEach es X.env)).any (·.1) = false := by rfl) :
  QE X (.Call (.Attribute o "extend" apos) (e :: es) [] cpos) (cBM fD co cr) := (oU PySem.F.plainAttrs_list PySem.F.slot_list_extend PySem.F.type_list_extend rN ho ha.h hbase hfew hline hs hplain).imp (wc uP)
end
noncomputable def FzT (H : Hp) (a : Addr) (ep : Nat) (ks : List (List Key)) : Prop := ∃ ob es kvs, H a = some (.frz ob (.dT kvs)) ∧ ob.data = .dict es ep ∧ kvs.map (·.1) = ks
noncomputable def Itt (a : Addr) (ep : Nat) (ks : List (List Key)) : It :=
 ⟨fun i H => i < ks.length ∧ FzT H a ep ks, fun i H x H' => H' = H ∧ ∃ k p, ks[i]? = some k ∧ x = .ref p ∧ H p = some (.tup (k.map kV)), fun i H => ks.length ≤ i ∧ FzT H a ep ks⟩
end OP
namespace OG
open PySem PySem.Spec PyProof.Rows L2
section
variable {X : Cx} {tg : Expr}
theorem tW {x z : Str} {pos : Pos} (hg : Gl X x) (hm : ∃ t, X.mg x = some (.str z t)) (hd : (x == ("__debug__" : Str)) = false := by decide) : WE X (.Name x pos) (tC (.str z)) := by
 obtain ⟨t, hm⟩ := hm
 exact ⟨nU hg hm ⟨t, rfl⟩ hd⟩
theorem tX {x : Str} {a : Addr} {pos : Pos} (hg : Gl X x) (hm : X.mg x = some (.ref a)) (hd : (x == ("__debug__" : Str)) = false := by decide) : WE X (.Name x pos) (tC (.ref a)) :=
 ⟨nU hg hm rfl hd⟩
noncomputable def zZ : List V → Hp → VK → Prop := fun xs H Q => ∃ z, xs = [.str z] ∧ z.length ≤ 1000000 ∧ Q (.int z.length) H
theorem vQ : eA X (.builtin "len") zZ := by
 rintro pins s σ H xs us Q I r ⟨z, rfl, hz, q⟩
 obtain ⟨u, rfl, t, rfl⟩ := j9 r
 exact P.len_str (by omega) ⟨.int z.length, H, I.tok _, ⟨_, rfl⟩, q⟩
noncomputable def z9 : List V → Hp → VK → Prop := fun xs H Q => ∃ (z : Str) (n : Int), xs = [.str z] ∧ z.length ≤ 640 ∧ PySem.intText? z = some n ∧ Q (.int n) H
theorem AS : eA X (.type "int") z9 := by
 rintro pins s σ H xs us Q I r ⟨z, n, rfl, hz, hn, q⟩
 obtain ⟨u, rfl, t, rfl⟩ := j9 r
 exact PySem.W.KIN.call_text hn hz ⟨.int n, H, I.tok _, ⟨_, rfl⟩, q⟩
noncomputable def D9 : R2 := fun x y H Q => ∃ a b : Str, x = .str a ∧ y = .str b ∧ Q (.bl (Txt.contains b a)) H
theorem AO : OpR X (compareOp .In) D9 := by
 rintro pins s σ H x y v u Q I rx ry ⟨a, b, rfl, rfl, q⟩
 obtain ⟨t, rfl⟩ := rx
 obtain ⟨t', rfl⟩ := ry
 exact P.in_str ⟨.bl _, H, I, rfl, q⟩
noncomputable def Its (z : Str) : It := ⟨fun i _ => i < z.cps.size, fun i H x H' => H' = H ∧ ∃ c, z.cps[i]? = some c ∧ x = .str ⟨#[c]⟩, fun i _ => z.cps.size ≤ i⟩
theorem t9 {P : Program} {w : World} {K : PySem.W.Frag} {tg : Expr} (it : Addr) (z : Str) (t : Tok) : yI P w K tg (Its z) [it] it (fun i h => i ≤ z.cps.size ∧ h.IsStrIter it "str_ascii_iterator" z t i) where
 mem := by simp
 obj := fun i h st b hb => by
  have e : b = it := by simpa using hb
  subst e
  obtain ⟨_, o, e, c, d⟩ := st
  exact ⟨o, e, fun v y => by rw [d] at y; cases y⟩
 keep := fun i h h' st k => by
  obtain ⟨l, o, e, r⟩ := st
  exact ⟨l, o, k it (by simp) o e, r⟩
 item := by
  intro X hP hw hK hc i pins s σ H E I hf st hg
  subst hP hw hK
  obtain ⟨f0, f1, f2, f3, f4, f5⟩ := hf it (by simp)
  have W := Walks.strAscii (prog := X.prog) (w := X.w) (I.ok.hd hc) it z t
  refine W.item i s _ _ hg st.2 fun v h' tk hv st' kk => ?_
  obtain ⟨c, u, hcz, rfl⟩ := hv
  have I1 : Inv X pins σ H { s with heap := h', toks := tk } := I.turned (fun b o hb e => kk b o (by simpa using hb) e) f0 f1 f3 f4 f5
  obtain ⟨o, e, cc, d⟩ := id st'
  exact ⟨_, rfl, u9 (s := { s with heap := h', toks := tk }) e cc d (by decide) ⟨.str ⟨#[c]⟩, H, I1, ⟨u, rfl⟩, ⟨rfl, c, hcz, rfl⟩, ⟨hg, st'⟩, fun b hb => (hf b hb).1⟩⟩
 done := by
  intro X hP hw hK hc i pins s σ H E I hf st hg
  subst hP hw hK
  obtain ⟨f0, f1, f2, f3, f4, f5⟩ := hf it (by simp)
  have W := Walks.strAscii (prog := X.prog) (w := X.w) (I.ok.hd hc) it z t
  have hi : i = z.cps.size := Nat.le_antisymm st.1 hg
  subst hi
  exact W.done s _ _ st.2 fun h' tk kk => ⟨rfl, I.turned (fun b o hb e => kk b o (by simpa using hb) e) f0 f1 f3 f4 f5⟩
 self := fun _ _ _ _ _ st h => wpAny_pyIter_striter_ascii st.2 h
noncomputable def DL (tl : TE) : TI := fun σ H R => tl σ H fun x H1 => ∃ z, x = .str z ∧ z.cps.all (· < 128) = true ∧ R (Its z) H1
theorem w4 {l : Expr} {tl : TE} (hl : WE X l tl) : WI X tg l (DL tl) := ⟨by
 intro pins s σ H R I h
 refine thn (hl.h pins s σ H _ I h) fun v s1 hz => ?_
 obtain ⟨x, H1, I1, r1, q1⟩ := hz
 obtain ⟨z, e, ha, q⟩ := q1
 subst e
 obtain ⟨t, rfl⟩ := r1
 refine wpAny_pyIter_ascii ha ?_
 refine ⟨s1.heap.objs.size, [s1.heap.objs.size], _, _, H1, rfl, I1.kept (t' := s1.toks) fun b o e => Heap.get?_push_of_some _ e, t9 _ z t, ⟨Nat.zero_le _, _, Heap.get?_push_size _ rfl, rfl, rfl⟩, fun b hb => ?_, q⟩
 have e : b = s1.heap.objs.size := by simpa using hb
 subst e
 exact I1.fpOk (Nat.le_refl _) (I1.hok.fresh (Nat.le_refl _))⟩
theorem qW : ∀ {ys : List Str} {its : List Value}, b0 (ys.map V.str) its → StrsAre its ys
 | [], its, h => by cases h; exact .nil
 | y :: ys, its, h => by
  cases h with
  | cons a b =>
   obtain ⟨t, rfl⟩ := a
   exact .cons y t (qW b)
theorem mz : ∀ l : List (Str × Tok), b0 ((l.map (·.1)).map V.str) (strValues l)
 | [] => .nil
 | p :: l => .cons ⟨p.2, rfl⟩ (mz l)
noncomputable def z3 (K : PySem.W.Frag) : V → List V → Hp → VK → Prop := fun x xs H Q => ∃ (a : Str) (p : Addr) (ys : List Str), x = .str a ∧ xs = [.ref p] ∧ SqL K H p (ys.map V.str) ∧ (ys.map (·.length)).sum + ys.length * a.length ≤ 1000000 ∧ Q (.str (Str.join a ys)) H
theorem yg : MtR X "str.join" (z3 X.K) := by
 rintro pins s σ H x xs v us Q I rx rs ⟨a, p, ys, rfl, rfl, hq, hl, q⟩
 obtain ⟨t, rfl⟩ := rx
 obtain ⟨u, rfl, ru⟩ := j9 rs
 cases ru
 obtain ⟨its, rv, pl, hz⟩ := I.list hq
 refine join_list pl.isList (ys := ys) (qW (by simpa using rv)) (by omega) fun t' k => ?_
 have e : Txt.join a ys = Str.join a ys := StrLaws.glued_eq_join a ys
 rw [e]
 exact ⟨.str _, H, I.tok _, ⟨_, rfl⟩, q⟩
noncomputable def vJ : V → List V → Hp → VK → Prop := fun x xs H Q => ∃ a y : Str, x = .str a ∧ xs = [.str y] ∧ (y.length == 0) = false ∧ a.length ≤ 100000 ∧ ∀ l, H l = none → Q (.ref l) (upd H l (.lst ((Txt.split a y).map V.str)))
theorem uT : MtR X "str.split" vJ := by
 rintro pins s σ H x xs v us Q I rx rs ⟨a, y, rfl, rfl, hy, hl, q⟩
 obtain ⟨t, rfl⟩ := rx
 obtain ⟨u, rfl, t', rfl⟩ := j9 rs
 have occ := StrLaws.occ_length_le a y 0 a.length (a.length + 1)
 have few : (Txt.split a y).length ≤ 100002 := by
  unfold Txt.split
  split
  ·simp
  ·split
   ·simp
   ·rw [length_partsBetween]; omega
 have line : 100002 ≤ sizeLine := by unfold sizeLine; decide
 have key : ∀ (l : List (Str × Tok)) (k : Nat), l.map (·.1) = Txt.split a y → EP X pins σ Q (.ref s.heap.objs.size) { s with heap := s.heap.push { cls := .type "list", data := .seq (strValues l).toArray }, toks := k } := fun l k e =>
  ⟨.ref _, _, I.laid (o := .lst ((Txt.split a y).map V.str)) (t' := k) (fun b o z => Heap.get?_push_of_some _ z) (Nat.le_refl _) ⟨by rw [List.length_map]; omega, strValues l, 0, by rw [← e]; exact mz l, Heap.get?_push_size _ rfl⟩, rfl, q _ (I.hok.fresh (Nat.le_refl _))⟩
 cases c1 : (decide (a.length < y.length) || decide (Builtin.Str.strKind a < Builtin.Str.strKind y)) with
 | true => exact call_meets F.slot_str_split (typeIs_str _ _ _) F.entry_str_split (F.args_str_split_2 _ _) (meets_str_split_cannot_occur a y t t' c1) (key [(a, t)] s.toks (by unfold Txt.split; rw [if_pos c1]; rfl))
 | false =>
  have n1 : ¬ (decide (a.length < y.length) || decide (Builtin.Str.strKind a < Builtin.Str.strKind y)) = true := by rw [c1]; exact Bool.false_ne_true
  cases c2 : (Builtin.Str.occurrences a y 0 a.length (a.length + 1)).isEmpty with
  | true => exact call_meets F.slot_str_split (typeIs_str _ _ _) F.entry_str_split (F.args_str_split_2 _ _) (meets_str_split_not_found a y t t' c1 hy c2) (key [(a, t)] s.toks (by unfold Txt.split; rw [if_neg n1, if_pos c2]; rfl))
  | false =>
   have few2 : (Builtin.Str.partsBetween a (Builtin.Str.occurrences a y 0 a.length (a.length + 1)) y.length).length ≤ sizeLine := by rw [length_partsBetween]; omega
   have hsp : Txt.split a y = Builtin.Str.partsBetween a (Builtin.Str.occurrences a y 0 a.length (a.length + 1)) y.length := by unfold Txt.split; rw [if_neg n1, if_neg (by rw [c2]; exact Bool.false_ne_true)]
   refine call_meets F.slot_str_split (typeIs_str _ _ _) F.entry_str_split (F.args_str_split_2 _ _) (meets_str_split_sep a y t t' c1 hy c2 (by omega) few2) ?_
   have k := key (numbered s.toks (Builtin.Str.partsBetween a (Builtin.Str.occurrences a y 0 a.length (a.length + 1)) y.length)) (s.toks + (Builtin.Str.partsBetween a (Builtin.Str.occurrences a y 0 a.length (a.length + 1)) y.length).length) ((numbered_texts _ _).trans hsp.symm)
   rw [← strsFrom_eq] at k
   exact k
end
end OG
namespace OP
open PySem PySem.Spec PyProof.Rows L2 OG
section
variable {X : Cx} {K : PySem.W.Frag} {a b o e : Expr} {es : List Expr} {ca cb co : CE} {cr : CA} {pos apos cpos : Pos}
noncomputable def qk : Fn
 | [.str z], S => if z.length ≤ 1000000 then some (.int z.length, S) else none
 | _, _ => none
theorem vM : kL K zZ qk := by
 intro m S H us vs u S' Q sr i hf post
 match us, hf with
 | [.str z], hf =>
  obtain ⟨v, rfl, iv⟩ := i.one
  simp only [qk] at hf
  split at hf <;> try cases hf
  rename_i hz
  exact ⟨z, by rw [iv.of_str], hz, post m _ H .refl sr .int_⟩
noncomputable def sD : Fn
 | [.str z], S => if z.length ≤ 640 then (PySem.intText? z).bind fun n => some (.int n, S) else none
 | _, _ => none
theorem AM : kL K z9 sD := by
 intro m S H us vs u S' Q sr i hf post
 match us, hf with
 | [.str z], hf =>
  obtain ⟨v, rfl, iv⟩ := i.one
  simp only [sD] at hf
  split at hf <;> try cases hf
  rename_i hz
  obtain ⟨n, hn, h2⟩ := Option.bind_eq_some_iff.mp hf
  cases h2
  exact ⟨z, n, by rw [iv.of_str], hz, hn, post m _ H .refl sr .int_⟩
noncomputable def vV : U → U → Sto → Option (U × Sto)
 | .str x, .str y, S => some (.bl (Txt.contains y x), S)
 | _, _, _ => none
theorem Di : OpP K D9 vV := by
 intro m S H x y v w u S' Q sr ix iy hf post
 cases x <;> cases y <;> simp only [vV] at hf <;> try cases hf
 exact ⟨_, _, ix.of_str, iy.of_str, post m _ H .refl sr .bl_⟩
noncomputable def yF : U → U → Sto → Option (U × Sto)
 | .str z, .int i, S => if 0 ≤ i ∧ i < z.length ∧ z.length ≤ 1000000 then (z.cps[i.toNat]?).bind fun c => some (.str ⟨#[c]⟩, S) else none
 | _, _, _ => none
theorem Dh : OpP K (fun x y H Q => ∃ z i c, x = .str z ∧ y = .int i ∧ 0 ≤ i ∧ i < 2 ^ 63 ∧ i < z.length ∧ z.cps[i.toNat]? = some c ∧ Q (.str ⟨#[c]⟩) H) yF := by
 intro m S H x y v w u S' Q sr ix iy hf post
 cases x <;> cases y <;> simp only [yF] at hf <;> try cases hf
 split at hf <;> try cases hf
 rename_i z i hc
 obtain ⟨c, h1, h2⟩ := Option.bind_eq_some_iff.mp hf
 cases h2
 exact ⟨z, i, c, ix.of_str, iy.of_int, hc.1, by omega, hc.2.1, h1, post m _ H .refl sr .str_⟩
theorem C5 (ha : QE X a ca) (hb : QE X b cb) (hs : lV b) : QE X (.Subscript a b pos) (cOp yF ca cb) := (mv ha hb hs).imp (mN Dh)
theorem C6 (ha : QE X a ca) (hb : QE X b cb) (hm : behindInMarks .In b = false) : QE X (.Compare a [.In] [b] pos) (cOp vV ca cb) := (lq AO ha hb hm).imp (mN Di)
theorem Bd {m : List Addr} {H : Hp} {z : Str} : yy K (Its z) m H ((signs z).map U.str) (fun _ => True) := by
 intro m2 S2 H2 i e2 sr2 _
 refine ⟨fun u hu => ?_, fun hi => by show z.cps.size ≤ i; rw [List.length_map, signs_length] at hi; exact hi⟩
 rw [List.getElem?_map] at hu
 cases hc : z.cps[i]? with
 | none =>
  have : (signs z)[i]? = none := List.getElem?_eq_none (by rw [signs_length]; exact Array.getElem?_eq_none_iff.mp hc)
  rw [this] at hu; cases hu
 | some c =>
  rw [signs_get hc] at hu
  cases hu
  refine ⟨(Array.getElem?_eq_some_iff.mp hc).1, fun y H3 hy => ?_⟩
  obtain ⟨rfl, c', hc', rfl⟩ := hy
  rw [hc] at hc'; cases hc'
  exact ⟨.refl, sr2, .str_⟩
noncomputable def BJ (ca : CE) : CI := fun ρ S => (ca ρ S).bind fun p => match p.1 with
 | .str z => if z.cps.all (· < 128) = true then some ((signs z).map U.str, fun _ => True, p.2) else none
 | _ => none
theorem Ab {tg : Expr} (h : QE X e ca) : QI X tg e (BJ ca) := (w4 h).imp fun σ H R hz => ql hz fun m ρ S us ok S' sr lr hc post => by
 obtain ⟨⟨u, S1⟩, h1, h2⟩ := Option.bind_eq_some_iff.mp hc
 cases u with
 | str z =>
  simp only at h2
  split at h2 <;> try cases h2
  rename_i hz
  exact ⟨m, ρ, S, .str z, _, sr, lr, h1, fun m1 v1 H1 e1 sr1 i1 => ⟨z, i1.of_str, hz, post m1 H1 _ e1 sr1 Bd⟩⟩
 | _ => simp at h2
noncomputable def cBS (f : U → List U → Sto → Option (U × Sto)) (co : CE) (cr : CA) : CE := fun ρ S => (co ρ S).bind fun p => match p.1 with
 | .str _ => (cr ρ p.2).bind fun q => f p.1 q.1 q.2
 | _ => none
theorem wb {r : V → List V → Hp → VK → Prop} {f : U → List U → Sto → Option (U × Sto)} (hp : MtP K r f) : ∀ σ H Q, tE K (cBS f co cr) σ H Q → tBM K "str" r (tE K co) (tA K cr) σ H Q := by
 rintro σ H Q ⟨m, ρ, S, u, S', sr, lr, hc, post⟩
 obtain ⟨⟨x, S1⟩, h1, h2⟩ := Option.bind_eq_some_iff.mp hc
 refine ⟨m, ρ, S, x, S1, sr, lr, h1, fun m1 v1 H1 e1 sr1 i1 => ?_⟩
 cases x with
 | str z =>
  obtain ⟨⟨us, S2⟩, h3, h4⟩ := Option.bind_eq_some_iff.mp h2
  have ev := i1.of_str
  subst ev
  exact ⟨rfl, m1, ρ, S1, us, S2, sr1, lr.mono e1, h3, fun m2 vs H2 e2 sr2 i2 => hp m2 S2 H2 _ _ us vs u S' Q sr2 (i1.mono e2) i2 h4 (post.mono (e1.trans e2))⟩
 | _ => simp at h2
noncomputable def pW : List U → Option (List Str)
 | [] => some []
 | .str y :: us => (pW us).bind fun ys => some (y :: ys)
 | _ :: _ => none
theorem mD : ∀ ys : List Str, pW (ys.map U.str) = some ys
 | [] => rfl
 | y :: ys => by rw [List.map_cons, pW, mD ys]; rfl
theorem pA {m : List Addr} {H : Hp} : ∀ {us : List U} {xs : List V} {ys : List Str}, IsL K m H xs us → pW us = some ys → xs = ys.map V.str
 | [], xs, ys, h, e => by
  rw [h.of_nil]; cases e; rfl
 | .str y :: us, xs, ys, h, e => by
  obtain ⟨x, r, rfl, ix, il⟩ := h.of_cons
  rw [pW] at e
  obtain ⟨zs, h1, h2⟩ := Option.bind_eq_some_iff.mp e
  cases h2
  rw [ix.of_str, pA il h1]; rfl
 | .non :: us, xs, ys, h, e => by cases e
 | .bl _ :: us, xs, ys, h, e => by cases e
 | .int _ :: us, xs, ys, h, e => by cases e
 | .tup _ :: us, xs, ys, h, e => by cases e
 | .ref _ :: us, xs, ys, h, e => by cases e
 | .kl _ :: us, xs, ys, h, e => by cases e
noncomputable def lP : U → List U → Sto → Option (U × Sto)
 | .str x, [.ref l], S => match S[l]? with
  | some (.lst us) => (pW us).bind fun ys => if (ys.map (·.length)).sum + ys.length * x.length ≤ 1000000 then some (.str (Str.join x ys), S) else none
  | _ => none
 | _, _, _ => none
theorem AK : MtP K (z3 K) lP := by
 intro m S H x v us vs u S' Q sr ix il hf post
 match x, us, hf with
 | .str x, [.ref l], hf =>
  simp only [lP] at hf
  split at hf <;> try cases hf
  rename_i ws hS
  obtain ⟨ys, h1, h2⟩ := Option.bind_eq_some_iff.mp hf
  have hl : (ys.map (·.length)).sum + ys.length * x.length ≤ 1000000 := Classical.byContradiction fun z => by rw [if_neg z] at h2; cases h2
  rw [if_pos hl] at h2
  cases h2
  obtain ⟨y, rfl, iy⟩ := il.one
  obtain ⟨p, hp, rfl⟩ := iy.of_ref
  obtain ⟨p', hp', xs, hx, lx⟩ := sr.get hS
  rw [hp] at hp'; cases hp'
  have ex := pA lx h1
  subst ex
  exact ⟨x, p, ys, ix.of_str, rfl, SqL.of hx, hl, post m _ H .refl sr .str_⟩
theorem kY {m : List Addr} {H : Hp} : ∀ ys : List Str, IsL K m H (ys.map V.str) (ys.map U.str)
 | [] => .nil_
 | y :: ys => .cons_ .str_ (kY ys)
noncomputable def jO : U → List U → Sto → Option (U × Sto)
 | .str x, [.str y], S => if (y.length == 0) = false ∧ x.length ≤ 100000 then some (.ref S.length, S ++ [.lst ((Txt.split x y).map U.str)]) else none
 | _, _, _ => none
theorem xW : MtP K vJ jO := by
 intro m S H x v us vs u S' Q sr ix il hf post
 match x, us, hf with
 | .str x, [.str y], hf =>
  simp only [jO] at hf
  split at hf <;> try cases hf
  rename_i hl
  obtain ⟨z, rfl, iz⟩ := il.one
  exact ⟨x, y, ix.of_str, by rw [iz.of_str], hl.1, hl.2, fun l hn => iO sr (kY _) post hn⟩
theorem vK (ho : QE X o co) (ha : QA X (e :: es) cr) (hbase : attributeBase o "join" X.env (eval o X.env) = eval o X.env := by rfl) (hfew : ((backTo cpos (starEach (e :: es) X.env)).all (fun x => !x.1) && (backToKw cpos (keywordEach [] X.env)).all (fun x => x.1.isSome)
   && decide ((e :: es).length + ([] : List Keyword).length + (if ([] : List Keyword).isEmpty then 0 else 1) < 30)) = true := by rfl) (hline : (apos.endLine == cpos.line) = true := by rfl) (hs : starEach (e :: es) X.env = (false, eval e X.env) :: starEach es X.env := by rfl) (hplain : (backTo cpos (starEach es X.env)).any (·.1) = false := by rfl) :
  QE X (.Call (.Attribute o "join" apos) (e :: es) [] cpos) (cBS lP co cr) := (oU PySem.F.plainAttrs_str PySem.F.slot_str_join PySem.F.type_str_join yg ho ha.h hbase hfew hline hs hplain).imp (wb AK)
theorem xA (ho : QE X o co) (ha : QA X (e :: es) cr) (hbase : attributeBase o "split" X.env (eval o X.env) = eval o X.env := by rfl) (hfew : ((backTo cpos (starEach (e :: es) X.env)).all (fun x => !x.1) && (backToKw cpos (keywordEach [] X.env)).all (fun x => x.1.isSome)
   && decide ((e :: es).length + ([] : List Keyword).length + (if ([] : List Keyword).isEmpty then 0 else 1) < 30)) = true := by rfl) (hline : (apos.endLine == cpos.line) = true := by rfl) (hs : starEach (e :: es) X.env = (false, eval e X.env) :: starEach es X.env := by rfl) (hplain : (backTo cpos (starEach es X.env)).any (·.1) = false := by rfl) :
  QE X (.Call (.Attribute o "split" apos) (e :: es) [] cpos) (cBS jO co cr) := (oU PySem.F.plainAttrs_str PySem.F.slot_str_split PySem.F.type_str_split uT ho ha.h hbase hfew hline hs hplain).imp (wb xW)
noncomputable def Bv (K : PySem.W.Frag) (mg : Str → Option Value) (x : Str) (is : List Int) : Prop := ∃ (a : Addr) (o : Obj) (its : Array Value) (n : Nat), mg x = some (.ref a) ∧ K.lookup a = some o ∧ o.cls = .type "tuple" ∧ o.data = .seq its n ∧ its.size ≤ sizeLine ∧ b0 (is.map V.int) its.toList
theorem kZ {m : List Addr} {H : Hp} : ∀ is : List Int, IsL K m H (is.map V.int) (is.map U.int)
 | [] => .nil_
 | i :: is => .cons_ .int_ (kZ is)
theorem jA {x : Str} {is : List Int} {us : List U} (hg : Gl X x) (hm : Bv X.K X.mg x is) (hd : (x == ("__debug__" : Str)) = false := by decide) (hu : is.map U.int = us := by rfl) : QE X (.Name x pos) (cC (.tup us)) := by
 subst hu
 obtain ⟨p, o, its, n, h1, h2, h3, h4, h5, h6⟩ := hm
 exact q_c (tX hg h1 hd) fun m H => .tup_ (.inr ⟨o, its, n, h2, h3, h4, h5, h6⟩) (kZ is)
end
end OP
namespace OQ
open PySem PySem.Spec PyProof.Rows L2 OG OP
noncomputable def dz : CS :=
 (bw (eS (aM (cOp fEq (cOp fIx (aq 0) (cC (.int 2))) (cC (.int 0)))) (bw (dU 2 (cOp fIx (aq 0) (cC (.int 1))))
  (bw (lj (aq 0) (cC (.int 1)) (cOp fN (aq 2) (cC (.int 1))))
  (bw (dU 3 (cC (.int 0)))
  (bw (eS (aM (cOp fLt (aq 2) (cCB iP (ah (cOp fIx (aq 0) (cC (.int 0))) aI)))) (dU 3 (cOp fIx (cOp fIx (aq 0) (cC (.int 0))) (aq 2))) (eS (aM (cOp fGt (cCB iP (ah (cOp fIx (aq 0) (cC (.int 0))) aI)) (cC (.int 0)))) (dU 3 (cOp fN (cOp mZ (cOp fIx (cOp fIx (aq 0) (cC (.int 0))) (cOp mZ (cOp jQ (aq 2) (cC (.int 3))) (cCB iP (ah (cOp fIx (aq 0) (cC (.int 0))) aI)))) (cC (.int 1000003))) (cOp jQ (cC (.int 97)) (aq 2)))) cH))
  (bw (dU 4 (cOp mZ (cOp jQ (cOp fN (cOp fN (cOp mZ (aq 3) (cC (.int 998244353))) (cOp jQ (cC (.int 53)) (aq 2))) (cC (.int 1))) (cC (.int 48271))) (cC (.int 2147483647))))
  (bw (dU 5 (cOp mZ (cOp fN (cOp fN (cOp jQ (aq 4) (aq 4)) (cOp jQ (cC (.int 69621)) (aq 2))) (cC (.int 5))) (cC (.int 1000000007))))
  (bw (dU 6 (cOp mZ (cOp fN (cOp jQ (aq 5) (aq 5)) (aq 4)) (cC (.int 998244353))))
  (bw (lj (aq 0) (cC (.int 2)) (cOp fN (cOp vd (cOp fN (cOp jQ (aq 5) (cC (.int 998244353))) (aq 6)) (cC (.int 16))) (cC (.int 1))))
  (eS (aM (cOp fGe (aq 3) (cOp yE (cC (.int 10)) (cC (.int 18))))) (lj (aq 0) (cC (.int 2)) (cOp vd (aq 3) (cOp yE (cC (.int 10)) (cC (.int 18))))) cH))))))))) cH)
  (bw (dU 7 (cOp mZ (cOp fIx (aq 0) (cC (.int 2))) (aq 1)))
  (bw (lj (aq 0) (cC (.int 2)) (cOp vd (cOp fIx (aq 0) (cC (.int 2))) (aq 1)))
  (eO (aq 7)))))
theorem oE {a0 a1 : U} {S : Sto} : fnU 8 2 (dz ) [a0, a1] S = ((dz ) [some a0, some a1, none, none, none, none, none, none] S).bind kFn := j8 rfl
noncomputable def dP (av : Fn) : CS :=
 (eO (jT (ah (cOp fN (cC (.int 1)) (cCB av (ah (aq 0) (ah (cC (.int 6)) aI)))) (ah (cOp fIx (qy (ah (cC (.int 2)) (ah (cC (.int 3)) (ah (cC (.int 5)) (ah (cC (.int 10)) (ah (cOp fN (cC (.int 2)) (cCB av (ah (aq 0) (ah (cC (.int 999)) aI)))) aI)))))) (cCB av (ah (aq 0) (ah (cC (.int 5)) aI)))) aI))))
theorem m6 {av : Fn} {a0 : U} {S : Sto} : fnU 1 1 (dP av) [a0] S = ((dP av) [some a0] S).bind kFn := j8 rfl
noncomputable def dZ (aD : Fn) : CS :=
 (bw (dU 1 (cOp fN (aq 1) (cC (.int 1))))
  (eS (aM (cOp fEq (cOp fIx (aq 2) (cC (.int 0))) (cC (.str "try")))) (dU 1 (cOp fN (cOp fN (aq 1) (cCB aD (ah (cOp fIx (aq 2) (cC (.int 1))) aI))) (cCB aD (ah (cOp fIx (aq 2) (cC (.int 2))) aI)))) cH))
noncomputable def d7 (aD : Fn) : CS :=
 (bw (dU 1 (cC (.int 0)))
  (bw (lT (iTp (aq 0)) (gNm 2) (dZ aD))
  (eO (aq 1))))
theorem oF {aD : Fn} {a0 : U} {S : Sto} : fnU 3 1 (d7 aD) [a0] S = ((d7 aD) [some a0, none, none] S).bind kFn := j8 rfl
noncomputable def aQ (av : Fn) : CS :=
 (bw (eS (aM (cOp fLt (aq 2) (cC (.int 4)))) (eO (jT (ah (cC (.str "look")) (ah (aq 3) (ah (cCB av (ah (aq 0) (ah (cOp fIx (aq 1) (cC (.int 0))) aI))) aI))))) cH)
  (bw (eS (aM (cOp fLt (aq 2) (cC (.int 7)))) (eO (jT (ah (cC (.str "put")) (ah (cCB av (ah (aq 0) (ah (cOp fIx (aq 1) (cC (.int 0))) aI))) (ah (aq 3) aI))))) cH)
  (bw (eS (aM (cOp fLt (aq 2) (cC (.int 9)))) (eO (jT (ah (cC (.str "set")) (ah (aq 3) (ah (cCB av (ah (aq 0) (ah (cOp fIx (aq 1) (cC (.int 1))) aI))) aI))))) cH)
  (bw (eS (aM (cOp fLt (aq 2) (cC (.int 11)))) (eO (jT (ah (cC (.str "plus")) (ah (aq 3) (ah (cCB av (ah (aq 0) (ah (cC (.int 4)) aI))) aI))))) cH)
  (eO (jT (ah (cC (.str "leap")) (ah (aq 3) (ah (cOp fN (cC (.int 1)) (cCB av (ah (aq 0) (ah (cOp fIx (qy (ah (cC (.int 2)) (ah (cC (.int 12)) aI))) (cCB av (ah (aq 0) (ah (cC (.int 2)) aI)))) aI)))) aI)))))))))
theorem gI {av : Fn} {a0 a1 a2 a3 : U} {S : Sto} : fnU 4 4 (aQ av) [a0, a1, a2, a3] S = ((aQ av) [some a0, some a1, some a2, some a3] S).bind kFn := j8 rfl
noncomputable def cQ (av aH ax aD : Fn) : CS :=
 (bw (dU 7 (cCB av (ah (aq 0) (ah (cC (.int 16)) aI))))
  (bw (dU 8 (cCB av (ah (aq 0) (ah (cC (.int 4)) aI))))
  (eS (nj (aM (cOp fGt (aq 5) (cC (.int 0)))) (nj (aM (cOp fLt (cCB iP (ah (aq 4) aI)) (cC (.int 12)))) (aM (cOp fLt (aq 7) (cC (.int 13)))))) (bw (dB (cBM bZ (aq 4) (ah (cCB aH (ah (aq 0) (ah (aq 1) (ah (aq 7) (ah (aq 8) aI))))) aI)))
  (dU 5 (cOp j7 (aq 5) (cC (.int 1))))) (eS (nj (aM (cOp fGt (aq 5) (cC (.int 0)))) (nj (aM (cOp fLt (cCB iP (ah (aq 4) aI)) (cC (.int 12)))) (cOr (aM (cOp fEq (aq 7) (cC (.int 13)))) (aM (cOp fEq (aq 3) (cC (.int 0))))))) (bw (eS (nj (aM (cOp fGt (aq 5) (cC (.int 1)))) (nj (aM (cOp fLt (cCB iP (ah (aq 4) aI)) (cC (.int 11)))) (aM (cOp fGt (cCB av (ah (aq 0) (ah (cC (.int 4)) aI))) (cC (.int 0)))))) (bw (dB (cBM bZ (aq 4) (ah (jT (ah (cC (.str "leap")) (ah (aq 8) (ah (cC (.int 1)) aI)))) aI)))
  (dU 5 (cOp j7 (aq 5) (cC (.int 1))))) cH)
  (bw (dB (cBM bZ (aq 4) (ah (jT (ah (cC (.str "wait")) aI)) aI)))
  (dU 5 (cOp j7 (aq 5) (cC (.int 1)))))) (eS (nj (aM (cOp fGt (aq 5) (cC (.int 0)))) (aM (cOp fLt (cCB iP (ah (aq 4) aI)) (cC (.int 12))))) (bw (dU 9 (cCB ax (ah (aq 0) (ah (aq 1) (ah (cCB av (ah (aq 0) (ah (aq 5) aI))) (ah (cOp j7 (aq 3) (cC (.int 1))) aI))))))
  (bw (dU 5 (cOp j7 (cOp j7 (aq 5) (cC (.int 1))) (cCB aD (ah (aq 9) aI))))
  (bw (dU 10 (cCB ax (ah (aq 0) (ah (aq 1) (ah (cCB av (ah (aq 0) (ah (cOp fN (aq 5) (cC (.int 1))) aI))) (ah (cOp j7 (aq 3) (cC (.int 1))) aI))))))
  (bw (dU 5 (cOp j7 (aq 5) (cCB aD (ah (aq 10) aI))))
  (dB (cBM bZ (aq 4) (ah (jT (ah (cC (.str "try")) (ah (aq 9) (ah (aq 10) aI)))) aI))))))) cH)))))
noncomputable def cM (av aH ax aD : Fn) : CS :=
 (bw (dU 4 (qy aI))
  (bw (dU 5 (aq 2))
  (bw (lT (jM (ah (cCB av (ah (aq 0) (ah (cOp fN (cCB DO (ah (cC (.int 12)) (ah (aq 2) aI))) (cC (.int 1))) aI))) aI)) (gNm 6) (cQ av aH ax aD))
  (eO (cCB ig (ah (aq 4) aI))))))
theorem kG {av aH ax aD : Fn} {a0 a1 a2 a3 : U} {S : Sto} : fnU 11 4 (cM av aH ax aD) [a0, a1, a2, a3] S = ((cM av aH ax aD) [some a0, some a1, some a2, some a3, none, none, none, none, none, none, none] S).bind kFn := j8 rfl
noncomputable def cZ (aL : Fn) : CS :=
 (bw (eS (aM (cOp Bk (aq 1) (cC .non))) (eO (cOp Bk (aq 0) (cC .non))) cH)
  (bw (eS (aM (qo .bool (aq 1))) (eO (kK (qo .bool (aq 0)) (cOp fEq (aq 0) (aq 1)))) cH)
  (bw (eS (aM (qo .str (aq 1))) (eO (kK (qo .str (aq 0)) (cOp fEq (aq 0) (aq 1)))) cH)
  (bw (eS (aM (qo .int (aq 1))) (eO (kK (qo .int (aq 0)) (kK (vk (qo .bool (aq 0))) (cOp fEq (aq 0) (aq 1))))) cH)
  (bw (eS (cOr (aM (cOp fNe (qo .tuple (aq 1)) (qo .tuple (aq 0)))) (aM (cOp fNe (qo .list (aq 1)) (qo .list (aq 0))))) (eO (cC (.bl false))) cH)
  (eO (kK (cOp fEq (cCB iP (ah (aq 0) aI)) (cCB iP (ah (aq 1) aI))) (cOp (fIn true) (cC (.bl false)) (kJ (DK (aq 0) (aq 1)) (gTp [0, 1]) (cCB aL (ah (aq 0) (ah (aq 1) aI))) 2 [])))))))))
theorem gb {aL : Fn} {a0 a1 : U} {S : Sto} : fnU 2 2 (cZ aL) [a0, a1] S = ((cZ aL) [some a0, some a1] S).bind kFn := j8 rfl
noncomputable def aS : CS :=
 (bw (dU 2 (jT (ah (cC (.int 0)) (ah (cOp j7 (cOp fIx (aq 0) (cC (.int 0))) (cC (.int 1))) aI))))
  (bw (eS (aM (cOp fEq (aq 1) (cC (.str "look")))) (eO (jT (ah (cC (.tup [.int 0, .int 3])) (ah (aq 2) aI)))) cH)
  (bw (eS (aM (cOp fEq (aq 1) (cC (.str "put")))) (eO (jT (ah (aq 2) (ah (cC (.tup [.int 0, .int 3])) aI)))) cH)
  (bw (eS (aM (cOp fEq (aq 1) (cC (.str "set")))) (eO (jT (ah (cC (.tup [.int 0, .int 3])) (ah (jT (ah (cC (.int 0)) (ah (cOp j7 (cOp fIx (aq 0) (cC (.int 1))) (cC (.int 1))) aI))) aI)))) cH)
  (bw (eS (aM (cOp fEq (aq 1) (cC (.str "plus")))) (eO (jT (ah (cC (.tup [.int 0, .int 3])) (ah (cC (.tup [.int 0, .int 3])) aI)))) cH)
  (bw (eS (aM (cOp fEq (aq 1) (cC (.str "leap")))) (eO (jT (ah (cC (.tup [.int 0, .int 3])) (ah (cC (.tup [.int 1, .int 12])) aI)))) cH)
  (bw (eS (aM (cOp fEq (aq 1) (cC (.str "wait")))) (eO (jT aI)) cH)
  (eO (cC .non)))))))))
theorem oC {a0 a1 : U} {S : Sto} : fnU 3 2 (aS ) [a0, a1] S = ((aS ) [some a0, some a1, none] S).bind kFn := j8 rfl
noncomputable def d6 : CS :=
 (bw (eS (cOr (aM (cOp fEq (cCB qk (ah (aq 0) aI)) (cC (.int 0)))) (cOr (aM (cOp fGt (cCB qk (ah (aq 0) aI)) (cC (.int 4)))) (yu (aM (cCB Bm (ah (kJ (BJ (aq 0)) (gNm 0) (cOp vV (aq 0) (cC (.str "0123456789"))) 1 []) aI)))))) (eO (cC .non)) cH)
  (bw (eS (nj (aM (cOp fEq (cOp yF (aq 0) (cC (.int 0))) (cC (.str "0")))) (aM (cOp fNe (aq 0) (cC (.str "0"))))) (eO (cC .non)) cH)
  (eO (cCB sD (ah (aq 0) aI)))))
theorem oB {a0 : U} {S : Sto} : fnU 1 1 (d6 ) [a0] S = ((d6 ) [some a0] S).bind kFn := j8 rfl
noncomputable def dj (cReader : Cl) : CS :=
 (bw (lS cReader 0 (aq 0) (aq 1))
  (bw (lS cReader 1 (aq 0) (aq 2))
  (bw (lS cReader 2 (aq 0) (cC (.int 0)))
  (lS cReader 3 (aq 0) (cC (.int 0))))))
theorem lR {cReader : Cl} {a0 a1 a2 : U} {S : Sto} : fnU 3 3 (dj cReader) [a0, a1, a2] S = ((dj cReader) [some a0, some a1, some a2] S).bind kFn := j8 rfl
noncomputable def dh (cReader : Cl) : CS :=
 (bw (eS (aM (cOp fLt (qp cReader 2 (aq 0)) (cCB iP (ah (qp cReader 1 (aq 0)) aI)))) (eO (cOp fIx (qp cReader 1 (aq 0)) (qp cReader 2 (aq 0)))) cH)
  (eO (cC (.str ""))))
theorem lQ {cReader : Cl} {a0 : U} {S : Sto} : fnU 1 1 (dh cReader) [a0] S = ((dh cReader) [some a0] S).bind kFn := j8 rfl
noncomputable def cP : CS :=
 (eS (yu (aM (aq 1))) v8 cH)
theorem kI {a0 a1 : U} {S : Sto} : fnU 2 2 (cP ) [a0, a1] S = ((cP ) [some a0, some a1] S).bind kFn := j8 rfl
noncomputable def cN (cReader : Cl) : CS :=
 (lS cReader 2 (aq 0) (cOp fN (qp cReader 2 (aq 0)) (cC (.int 1))))
theorem kH {cReader : Cl} {a0 : U} {S : Sto} : fnU 1 1 (cN cReader) [a0] S = ((cN cReader) [some a0] S).bind kFn := j8 rfl
noncomputable def bq (cY aw af ak : Fn) (cReader : Cl) : CS :=
 (bw (dU 2 (cCB cY (ah (dA cReader aw (aq 0) aI) aI)))
  (bw (dB (dA cReader af (aq 0) (ah (kK (cOp qi (aq 2) (cC .non)) (ni fLe fLe (cOp fIx (aq 1) (cC (.int 0))) (aq 2) (cOp fIx (aq 1) (cC (.int 1))))) aI)))
  (bw (dB (dA cReader ak (aq 0) aI))
  (eO (aq 2)))))
theorem fO {cY aw af ak : Fn} {cReader : Cl} {a0 a1 : U} {S : Sto} : fnU 3 2 (bq cY aw af ak cReader) [a0, a1] S = ((bq cY aw af ak cReader) [some a0, some a1, none] S).bind kFn := j8 rfl
noncomputable def cI (bS aw aP af ak aG : Fn) (cReader : Cl) : CS :=
 (dB (cBM bZ (aq 4) (ah (dA cReader aG (aq 0) (ah (aq 5) aI)) aI)))
noncomputable def bp (bS aw aP af ak aG : Fn) (cReader : Cl) : CS :=
 (bw (dU 2 (dA cReader aw (aq 0) aI))
  (bw (eS (aM (cOp fEq (aq 2) (cC (.str "try")))) (eO (dA cReader aP (aq 0) (ah (aq 1) aI))) cH)
  (bw (dU 3 (cCB bS (ah (qp cReader 0 (aq 0)) (ah (aq 2) aI))))
  (bw (dB (dA cReader af (aq 0) (ah (cOp qi (aq 3) (cC .non)) aI)))
  (bw (dB (dA cReader ak (aq 0) aI))
  (bw (dU 4 (qy (ah (aq 2) aI)))
  (bw (lT (iTp (aq 3)) (gNm 5) (cI bS aw aP af ak aG cReader))
  (eO (cCB ig (ah (aq 4) aI))))))))))
theorem eI {bS aw aP af ak aG : Fn} {cReader : Cl} {a0 a1 : U} {S : Sto} : fnU 6 2 (bp bS aw aP af ak aG cReader) [a0, a1] S = ((bp bS aw aP af ak aG cReader) [some a0, some a1, none, none, none, none] S).bind kFn := j8 rfl
noncomputable def bM (af ak aA : Fn) (cReader : Cl) : CS :=
 (bw (dB (dA cReader af (aq 0) (ah (cOp fGt (aq 1) (cC (.int 0))) aI)))
  (bw (dB (dA cReader ak (aq 0) aI))
  (bw (dU 2 (dA cReader aA (aq 0) (ah (cOp j7 (aq 1) (cC (.int 1))) aI)))
  (bw (dU 3 (dA cReader aA (aq 0) (ah (cOp j7 (aq 1) (cC (.int 1))) aI)))
  (eO (jT (ah (cC (.str "try")) (ah (aq 2) (ah (aq 3) aI)))))))))
theorem gJ {af ak aA : Fn} {cReader : Cl} {a0 a1 : U} {S : Sto} : fnU 4 2 (bM af ak aA cReader) [a0, a1] S = ((bM af ak aA cReader) [some a0, some a1, none, none] S).bind kFn := j8 rfl
noncomputable def da (af aw ak aK : Fn) (cReader : Cl) (fuel : Nat) : CS :=
 (bw (dB (dA cReader af (aq 0) (ah (kK (cOp fLt (cCB iP (ah (aq 2) aI)) (cC (.int 12))) (cOp fLt (qp cReader 3 (aq 0)) (cC (.int 40)))) aI)))
  (bw (lS cReader 3 (aq 0) (cOp fN (qp cReader 3 (aq 0)) (cC (.int 1))))
  (dB (cBM bZ (aq 2) (ah (dA cReader aK (aq 0) (ah (aq 1) aI)) aI)))))
noncomputable def bN (af aw ak aK : Fn) (cReader : Cl) (fuel : Nat) : CS :=
 (bw (dB (dA cReader af (aq 0) (ah (cOp fEq (dA cReader aw (aq 0) aI) (cC (.str "("))) aI)))
  (bw (dB (dA cReader ak (aq 0) aI))
  (bw (dU 2 (qy aI))
  (bw (eB (aM (cOp fNe (dA cReader aw (aq 0) aI) (cC (.str ")")))) (da af aw ak aK cReader fuel) fuel)
  (bw (dB (dA cReader ak (aq 0) aI))
  (eO (cCB ig (ah (aq 2) aI))))))))
theorem gK {af aw ak aK : Fn} {cReader : Cl} {fuel : Nat} {a0 a1 : U} {S : Sto} : fnU 3 2 (bN af aw ak aK cReader fuel) [a0, a1] S = ((bN af aw ak aK cReader fuel) [some a0, some a1, none] S).bind kFn := j8 rfl
noncomputable def bO (aA af : Fn) (cReader : Cl) : CS :=
 (bw (dU 1 (dA cReader aA (aq 0) (ah (cC (.int 3)) aI)))
  (bw (dB (dA cReader af (aq 0) (ah (cOp fEq (qp cReader 2 (aq 0)) (cCB iP (ah (qp cReader 1 (aq 0)) aI))) aI)))
  (eO (aq 1))))
theorem gL {aA af : Fn} {cReader : Cl} {a0 : U} {S : Sto} : fnU 2 1 (bO aA af cReader) [a0] S = ((bO aA af cReader) [some a0, none] S).bind kFn := j8 rfl
noncomputable def cK (bh bV : Fn) (cReader : Cl) : CS :=
 (eO (dA cReader bh (cCB (qj cReader bV) (ah (aq 0) (ah (cBS jO (aq 1) (ah (cC (.str " ")) aI)) aI))) aI))
theorem kE {bh bV : Fn} {cReader : Cl} {a0 a1 : U} {S : Sto} : fnU 2 2 (cK bh bV cReader) [a0, a1] S = ((cK bh bV cReader) [some a0, some a1] S).bind kFn := j8 rfl
noncomputable def bC (aN : Fn) : CS :=
 (eS (aM (cOp fEq (cOp fIx (aq 2) (cC (.int 0))) (cC (.str "try")))) (dB (cBM fD (aq 1) (ah (cCB aN (ah (aq 3) aI)) aI))) (dB (cBM bZ (aq 1) (ah (cCB tq (ah (aq 3) aI)) aI))))
noncomputable def dc (aN : Fn) : CS :=
 (bw (dB (cBM bZ (aq 1) (ah (cOp fIx (aq 2) (cC (.int 0))) aI)))
  (lT (iTp (cSl (aq 2) (some (cC (.int 1))) none)) (gNm 3) (bC aN)))
noncomputable def eR (aN : Fn) : CS :=
 (bw (dU 1 (qy (ah (cC (.str "(")) aI)))
  (bw (lT (iTp (aq 0)) (gNm 2) (dc aN))
  (bw (dB (cBM bZ (aq 1) (ah (cC (.str ")")) aI)))
  (eO (aq 1)))))
theorem qm {aN : Fn} {a0 : U} {S : Sto} : fnU 4 1 (eR aN) [a0] S = ((eR aN) [some a0, none, none, none] S).bind kFn := j8 rfl
noncomputable def cL (aN : Fn) : CS :=
 (eO (cBS lP (cC (.str " ")) (ah (cCB aN (ah (aq 0) aI)) aI)))
theorem kF {aN : Fn} {a0 : U} {S : Sto} : fnU 1 1 (cL aN) [a0] S = ((cL aN) [some a0] S).bind kFn := j8 rfl
noncomputable def bY (aF : Fn) : CS :=
 (eS (aM (cOp fEq (cOp fIx (aq 2) (cC (.int 0))) (cC (.str "try")))) (dU 1 (cOp fN (cOp fN (cOp fN (aq 1) (qy (ah (cC (.str "try")) aI))) (cCB aF (ah (cOp fIx (aq 2) (cC (.int 1))) aI))) (cCB aF (ah (cOp fIx (aq 2) (cC (.int 2))) aI)))) (dU 1 (cOp fN (cOp fN (aq 1) (qy (ah (cOp fIx (aq 2) (cC (.int 0))) aI))) (kJ (iTp (cSl (aq 2) (some (cC (.int 1))) none)) (gNm 0) (cCB tq (ah (aq 0) aI)) 1 []))))
noncomputable def dQ (aF : Fn) : CS :=
 (bw (dU 1 (qy (ah (cC (.str "(")) aI)))
  (bw (lT (iTp (aq 0)) (gNm 2) (bY aF))
  (eO (cOp fN (aq 1) (qy (ah (cC (.str ")")) aI))))))
theorem m7 {aF : Fn} {a0 : U} {S : Sto} : fnU 3 1 (dQ aF) [a0] S = ((dQ aF) [some a0, none, none] S).bind kFn := j8 rfl
end OQ
local macro_rules
 | `(tactic| rwa $s:rwRuleSeq) => do
  let ts : Array (Lean.TSyntax `term) := s.raw[1].getSepArgs.map fun r => ⟨r[1]⟩
  let us : Array (Lean.TSyntax `term) := (("BO yK x_c B5 wx wu yP wo CV zv zu EC B4 B3 B6 y4 zt wO wN B2 y1 yZ y3 wy qA ml iW iV BP yO za vy CM wM Cm zg yQ yW vx yV yU yT zm wI B0 yX zj zi vz EM Cr Cq wq qz CQ zr zq Ct Cs zx zw Ew BW BV BU BS Cg Ci Cj Ck BR yR yS zc zd ze zb CW BQ EL DY EN EO Cz B8 Cy B7 CB B9 Cv Cu at0 at1 at2 at3 ix0 ix1 ix2 Option.bind_some List.getElem?_cons_zero List.getElem?_cons_succ List.set_cons_zero List.set_cons_succ List.length_cons List.length_nil List.map_cons List.map_nil decide_true decide_false Bool.not_true Bool.not_false Cw zl zk Ex BZ BY BX y8 wB wA wz wC Cn Cp Ce zf ES CP CO CN CU ER CJ CH CF CD CC zo EB x_p EA Ez Ey zp wL wK yL yM yN wD wF wG zh ga ga0 gs gs0 Option.join_some Nat.add_zero List.cons_append List.nil_append List.append_assoc" : String).splitOn " ").toArray.map fun x => ⟨(Lean.mkIdent ((x.splitOn ".").foldl Lean.Name.str Lean.Name.anonymous)).raw⟩
  let vs := ts ++ us
  `(tactic| simp only [$[$vs:term],*])
namespace OQ
open PySem PySem.Spec PyProof.Rows L2 OG OP
noncomputable def pen (a c : Int) : O := .lst [.ref 0, .int a, .int c]
section
variable {S : Sto} {j k : Int}
theorem qB (h : -(2 ^ 64) < k ∧ k < 2 ^ 64) : jQ (.int j) (.int k) S = some (.int (j * k), S) := y6 (.inr h)
theorem mj (h : -(2 ^ 64) < j ∧ j < 2 ^ 64) : jQ (.int j) (.int k) S = some (.int (j * k), S) := y6 (.inl h)
theorem EK : jQ (.int j) (.int 3) S = some (.int (j * 3), S) := qB (by decide)
theorem Cc : jQ (.int 97) (.int k) S = some (.int (97 * k), S) := mj (by decide)
theorem Cd : jQ (.int 53) (.int k) S = some (.int (53 * k), S) := mj (by decide)
theorem EJ : jQ (.int j) (.int 48271) S = some (.int (j * 48271), S) := qB (by decide)
theorem EI : jQ (.int 69621) (.int k) S = some (.int (69621 * k), S) := mj (by decide)
theorem EH : jQ (.int j) (.int 998244353) S = some (.int (j * 998244353), S) := qB (by decide)
theorem Cb : jQ (.int (j % 2147483647)) (.int k) S = some (.int (j % 2147483647 * k), S) := mj (by have := Int.emod_nonneg j (show (2147483647 : Int) ≠ 0 by decide); have := Int.emod_lt_of_pos j (show (0 : Int) < 2147483647 by decide); omega)
theorem Ca : jQ (.int (j % 1000000007)) (.int k) S = some (.int (j % 1000000007 * k), S) := mj (by have := Int.emod_nonneg j (show (1000000007 : Int) ≠ 0 by decide); have := Int.emod_lt_of_pos j (show (0 : Int) < 1000000007 by decide); omega)
theorem EG : mZ (.int j) (.int 998244353) S = some (.int (j % 998244353), S) := pQ (by decide)
theorem EF : mZ (.int j) (.int 2147483647) S = some (.int (j % 2147483647), S) := pQ (by decide)
theorem EE : mZ (.int j) (.int 1000000007) S = some (.int (j % 1000000007), S) := pQ (by decide)
theorem ED : mZ (.int j) (.int 1000003) S = some (.int (j % 1000003), S) := pQ (by decide)
theorem CL : vd (.int j) (.int 16) S = some (.int (j / 16), S) := wJ ⟨by decide, by decide +kernel⟩
theorem yY : yE (.int 10) (.int 18) S = some (.int 1000000000000000000, S) := B1 (j := 10) (k := 18) ⟨by decide, by decide, by decide⟩
theorem CK : vd (.int j) (.int 1000000000000000000) S = some (.int (j / 1000000000000000000), S) := wJ ⟨by decide, by decide +kernel⟩
theorem atU {ns : List Int} {k : Int} (h0 : 0 ≤ k) (h1 : k < (ns.length : Int)) : ∃ v : Int, atI (ns.map U.int) k = some (.int v) := by
 have hk : k.toNat < ns.length := by omega
 exact ⟨ns[k.toNat], Bt h0 (by rw [List.getElem?_map, List.getElem?_eq_getElem hk]; rfl)⟩
end
noncomputable def iC : Fn := fnU 8 2 dz
theorem cS (ns : List Int) (T : Sto) {a c m : Int} (ha : 0 ≤ a) (hc : 0 ≤ c) (hm : 0 < m) (hb : m.natAbs.log2 < 9000) :
  ∃ f a' c', iC [.ref 1, .int m] (.lst (ns.map U.int) :: pen a c :: T) = some (.int f, .lst (ns.map U.int) :: pen a' c' :: T) ∧ 0 ≤ f ∧ f < m ∧ 0 ≤ a' ∧ 0 ≤ c' := by
 unfold iC
 rw [oE]
 have dm : ∀ {j : Int} {S : Sto}, vd (.int j) (.int m) S = some (.int (j / m), S) := wJ ⟨hm, hb⟩
 have mm : ∀ {j : Int} {S : Sto}, mZ (.int j) (.int m) S = some (.int (j % m), S) := pQ hm
 have fin : ∀ {a' c' : Int}, 0 ≤ a' → 0 ≤ c' → 0 ≤ c' % m ∧ c' % m < m ∧ 0 ≤ a' ∧ 0 ≤ c' / m := fun h1 h2 => ⟨Int.emod_nonneg _ (by omega), Int.emod_lt_of_pos _ hm, h1, Int.ediv_nonneg h2 (by omega)⟩
 by_cases c0 : c = 0
 ·subst c0
  have cell : ∃ z : Int, (eS (aM (cOp fLt (aq 2) (cCB iP (ah (cOp fIx (aq 0) (cC (U.int 0))) aI))))
              (dU 3 (cOp fIx (cOp fIx (aq 0) (cC (U.int 0))) (aq 2)))
              (eS
               (aM (cOp fGt (cCB iP (ah (cOp fIx (aq 0) (cC (U.int 0))) aI)) (cC (U.int 0))))
               (dU 3
                (cOp fN
                 (cOp mZ
                  (cOp fIx (cOp fIx (aq 0) (cC (U.int 0)))
                   (cOp mZ (cOp jQ (aq 2) (cC (U.int 3)))
                    (cCB iP (ah (cOp fIx (aq 0) (cC (U.int 0))) aI))))
                  (cC (U.int 1000003)))
                 (cOp jQ (cC (U.int 97)) (aq 2))))
               cH)) [some (.ref 1), some (.int m), some (.int a), some (.int 0), none, none, none, none] (O.lst (ns.map U.int) :: .lst [.ref 0, .int (a + 1), .int 0] :: T) = some (.nx, [some (.ref 1), some (.int m), some (.int a), some (.int z), none, none, none, none], O.lst (ns.map U.int) :: .lst [.ref 0, .int (a + 1), .int 0] :: T) := by
   by_cases h1 : a < (ns.length : Int)
   ·obtain ⟨z, hz⟩ := atU ha h1
    exact ⟨z, by rwa [hz, h1, List.length_map]⟩
   ·by_cases h2 : (0 : Int) < (ns.length : Int)
    ·obtain ⟨z, hz⟩ := atU (ns := ns) (k := a * 3 % (ns.length : Int)) (Int.emod_nonneg _ (by omega)) (Int.emod_lt_of_pos _ h2)
     exact ⟨z % 1000003 + 97 * a, by rwa [h1, h2, EK, pQ h2, hz, ED, Cc, List.length_map]⟩
    ·exact ⟨0, by rwa [h1, h2, List.length_map]⟩
  obtain ⟨z, hz⟩ := cell
  rwa [dz, pen, hz, EG, EF, EE, Cd, EJ, EI, EH, Cb, Ca, CL, yY]
  by_cases h3 : (1000000000000000000 : Int) ≤ z
  ·rwa [h3, yY, CK, mm, dm]
   exact ⟨_, _, _, rfl, fin (by omega) (Int.ediv_nonneg (by omega) (by omega))⟩
  ·rwa [h3, mm, dm]
   refine ⟨_, _, _, rfl, fin (by omega) ?_⟩
   exact Int.add_nonneg (Int.ediv_nonneg (Int.add_nonneg (Int.mul_nonneg (Int.emod_nonneg _ (by decide)) (by decide)) (Int.emod_nonneg _ (by decide))) (by decide)) (by decide)
 ·rwa [dz, pen, c0, mm, dm]
  exact ⟨_, _, _, rfl, fin ha hc⟩
theorem l9 {m : Int} (h0 : 0 ≤ m) (h : m < 2 ^ 60) : m.natAbs.log2 < 9000 := rR h0 h
noncomputable abbrev scr (ns : List Int) : O := .lst (ns.map U.int)
theorem C9 {f g : Int} (g0 : 0 ≤ g) (g1 : g < 999) (f0 : 0 ≤ f) (f1 : f < 5) : ∃ v : Int, atI [U.int 2, U.int 3, U.int 5, U.int 10, U.int (2 + g)] f = some (.int v) ∧ 2 ≤ v ∧ v ≤ 1000 := by
 have : f = 0 ∨ f = 1 ∨ f = 2 ∨ f = 3 ∨ f = 4 := by omega
 rcases this with rfl | rfl | rfl | rfl | rfl
 ·exact ⟨2, rfl, by omega, by omega⟩
 ·exact ⟨3, rfl, by omega, by omega⟩
 ·exact ⟨5, rfl, by omega, by omega⟩
 ·exact ⟨10, rfl, by omega, by omega⟩
 ·exact ⟨2 + g, rfl, by omega, by omega⟩
noncomputable def lW : Fn := fnU 1 1 (dP iC)
theorem t4 (ns : List Int) (T : Sto) {a c : Int} (ha : 0 ≤ a) (hc : 0 ≤ c) :
  ∃ n w a' c' G, lW [.ref 1] (scr ns :: pen a c :: T) = some (.tup [.int n, .int w], scr ns :: pen a' c' :: (T ++ G)) ∧ 1 ≤ n ∧ n ≤ 6 ∧ 2 ≤ w ∧ w ≤ 1000 ∧ 0 ≤ a' ∧ 0 ≤ c' := by
 unfold lW
 rw [m6]
 obtain ⟨f1, a1, c1, h1, p1, q1, ha1, hc1⟩ := cS ns T (m := 6) ha hc (by decide) (by decide +kernel)
 obtain ⟨f2, a2, c2, h2, p2, q2, ha2, hc2⟩ := cS ns T (m := 999) ha1 hc1 (by decide) (by decide +kernel)
 obtain ⟨f3, a3, c3, h3, p3, q3, ha3, hc3⟩ := cS ns (T ++ [.lst [.int 2, .int 3, .int 5, .int 10, .int (2 + f2)]]) (m := 5) ha2 hc2 (by decide) (by decide +kernel)
 obtain ⟨v, hv, v0, v1⟩ := C9 p2 q2 p3 q3
 refine ⟨1 + f1, v, a3, c3, [.lst [.int 2, .int 3, .int 5, .int 10, .int (2 + f2)]], ?_, by omega, by omega, v0, v1, ha3, hc3⟩
 rwa [dP, h1, h2, h3, hv]
inductive fg where
 | look (h b : Int) | put (b h : Int) | set (h v : Int) | plus (h g : Int) | leap (h k : Int) | wait
noncomputable def fg.u : fg → U
 | .look h b => .tup [.str "look", .int h, .int b]
 | .put b h => .tup [.str "put", .int b, .int h]
 | .set h v => .tup [.str "set", .int h, .int v]
 | .plus h g => .tup [.str "plus", .int h, .int g]
 | .leap h k => .tup [.str "leap", .int h, .int k]
 | .wait => .tup [.str "wait"]
noncomputable def fg.ok (n w : Int) : fg → Prop
 | .look h b => 0 ≤ h ∧ h < 4 ∧ 0 ≤ b ∧ b < n
 | .put b h => 0 ≤ h ∧ h < 4 ∧ 0 ≤ b ∧ b < n
 | .set h v => 0 ≤ h ∧ h < 4 ∧ 0 ≤ v ∧ v < w
 | .plus h g => 0 ≤ h ∧ h < 4 ∧ 0 ≤ g ∧ g < 4
 | .leap h k => 0 ≤ h ∧ h < 4 ∧ 1 ≤ k ∧ k ≤ 12
 | .wait => True
noncomputable def gP : Fn := fnU 4 4 (aQ iC)
theorem uB (ns : List Int) (T : Sto) {a c n w way hand : Int} (ha : 0 ≤ a) (hc : 0 ≤ c) (n0 : 1 ≤ n) (n1 : n ≤ 6) (w0 : 2 ≤ w) (w1 : w ≤ 1000) (y0 : 0 ≤ way) (h0 : 0 ≤ hand) (h1 : hand < 4) :
  ∃ (d : fg) (a' c' : Int) (G : Sto), gP [.ref 1, .tup [.int n, .int w], .int way, .int hand] (scr ns :: pen a c :: T) = some (d.u, scr ns :: pen a' c' :: (T ++ G)) ∧ d.ok n w ∧ 0 ≤ a' ∧ 0 ≤ c' := by
 unfold gP
 rw [gI]
 by_cases c4 : way < 4
 ·obtain ⟨f, a1, c1, e1, p1, q1, ha1, hc1⟩ := cS ns T (m := n) ha hc (by omega) (l9 (by omega) (by omega))
  exact ⟨.look hand f, a1, c1, [], by rwa [aQ, c4, e1, fg.u, List.append_nil], ⟨h0, h1, p1, q1⟩, ha1, hc1⟩
 by_cases c7 : way < 7
 ·obtain ⟨f, a1, c1, e1, p1, q1, ha1, hc1⟩ := cS ns T (m := n) ha hc (by omega) (l9 (by omega) (by omega))
  exact ⟨.put f hand, a1, c1, [], by rwa [aQ, c4, c7, e1, fg.u, List.append_nil], ⟨h0, h1, p1, q1⟩, ha1, hc1⟩
 by_cases c9 : way < 9
 ·obtain ⟨f, a1, c1, e1, p1, q1, ha1, hc1⟩ := cS ns T (m := w) ha hc (by omega) (l9 (by omega) (by omega))
  exact ⟨.set hand f, a1, c1, [], by rwa [aQ, c4, c7, c9, e1, fg.u, List.append_nil], ⟨h0, h1, p1, q1⟩, ha1, hc1⟩
 by_cases c11 : way < 11
 ·obtain ⟨f, a1, c1, e1, p1, q1, ha1, hc1⟩ := cS ns T (m := 4) ha hc (by omega) (l9 (by omega) (by omega))
  exact ⟨.plus hand f, a1, c1, [], by rwa [aQ, c4, c7, c9, c11, e1, fg.u, List.append_nil], ⟨h0, h1, p1, q1⟩, ha1, hc1⟩
 obtain ⟨f, a1, c1, e1, p1, q1, ha1, hc1⟩ := cS ns (T ++ [.lst [.int 2, .int 12]]) (m := 2) ha hc (by decide) (by decide +kernel)
 have key : ∃ z : Int, atI [U.int 2, U.int 12] f = some (.int z) ∧ 0 < z ∧ z ≤ 12 := by
  have : f = 0 ∨ f = 1 := by omega
  rcases this with rfl | rfl
  ·exact ⟨2, rfl, by omega, by omega⟩
  ·exact ⟨12, rfl, by omega, by omega⟩
 obtain ⟨z, hz, z0, z1⟩ := key
 obtain ⟨g, a2, c2, e2, p2, q2, ha2, hc2⟩ := cS ns (T ++ [.lst [.int 2, .int 12]]) (m := z) ha1 hc1 z0 (l9 (by omega) (by omega))
 exact ⟨.leap hand (1 + g), a2, c2, [.lst [.int 2, .int 12]], by rwa [aQ, c4, c7, c9, c11, e1, e2, hz, fg.u], ⟨h0, h1, by omega, by omega⟩, ha2, hc2⟩
noncomputable def pO (fd fs : Fn) : Fn := fnU 11 4 (cM iC gP fd fs)
theorem gT : decide (("wait" : Str) = "leap") = false := by decide +kernel
theorem iZ : decide (("wait" : Str) = "try") = false := by decide +kernel
theorem gS : decide (("wait" : Str) = "look") = false := by decide +kernel
theorem i6 : decide (("wait" : Str) = "put") = false := by decide +kernel
theorem i0 : decide (("wait" : Str) = "set") = false := by decide +kernel
theorem gR : decide (("wait" : Str) = "plus") = false := by decide +kernel
theorem g9 : decide (("leap" : Str) = "wait") = false := by decide +kernel
theorem jo : decide (("leap" : Str) = "try") = false := by decide +kernel
theorem hR : decide (("leap" : Str) = "look") = false := by decide +kernel
theorem jr : decide (("leap" : Str) = "put") = false := by decide +kernel
theorem jq : decide (("leap" : Str) = "set") = false := by decide +kernel
theorem hJ : decide (("leap" : Str) = "plus") = false := by decide +kernel
theorem i7 : decide (("try" : Str) = "wait") = false := by decide +kernel
theorem ja : decide (("try" : Str) = "leap") = false := by decide +kernel
theorem i9 : decide (("try" : Str) = "look") = false := by decide +kernel
theorem kO : decide (("try" : Str) = "put") = false := by decide +kernel
theorem kN : decide (("try" : Str) = "set") = false := by decide +kernel
theorem i8 : decide (("try" : Str) = "plus") = false := by decide +kernel
theorem gY : decide (("look" : Str) = "wait") = false := by decide +kernel
theorem g6 : decide (("look" : Str) = "leap") = false := by decide +kernel
theorem fX : decide (("look" : Str) = "try") = false := by decide +kernel
theorem jm : decide (("look" : Str) = "put") = false := by decide +kernel
theorem jl : decide (("look" : Str) = "set") = false := by decide +kernel
theorem gZ : decide (("look" : Str) = "plus") = false := by decide +kernel
theorem jf : decide (("put" : Str) = "wait") = false := by decide +kernel
theorem ji : decide (("put" : Str) = "leap") = false := by decide +kernel
theorem gC : decide (("put" : Str) = "try") = false := by decide +kernel
theorem jh : decide (("put" : Str) = "look") = false := by decide +kernel
theorem kQ : decide (("put" : Str) = "set") = false := by decide +kernel
theorem jg : decide (("put" : Str) = "plus") = false := by decide +kernel
theorem jb : decide (("set" : Str) = "wait") = false := by decide +kernel
theorem je : decide (("set" : Str) = "leap") = false := by decide +kernel
theorem gB : decide (("set" : Str) = "try") = false := by decide +kernel
theorem jd : decide (("set" : Str) = "look") = false := by decide +kernel
theorem kP : decide (("set" : Str) = "put") = false := by decide +kernel
theorem jc : decide (("set" : Str) = "plus") = false := by decide +kernel
theorem gU : decide (("plus" : Str) = "wait") = false := by decide +kernel
theorem gX : decide (("plus" : Str) = "leap") = false := by decide +kernel
theorem fW : decide (("plus" : Str) = "try") = false := by decide +kernel
theorem gW : decide (("plus" : Str) = "look") = false := by decide +kernel
theorem jk : decide (("plus" : Str) = "put") = false := by decide +kernel
theorem jj : decide (("plus" : Str) = "set") = false := by decide +kernel
theorem SNX : type_of% @gT ∧ type_of% @iZ ∧ type_of% @gS ∧ type_of% @i6 ∧ type_of% @i0 ∧ type_of% @gR ∧ type_of% @g9 ∧ type_of% @jo ∧ type_of% @hR ∧ type_of% @jr ∧ type_of% @jq ∧ type_of% @hJ ∧ type_of% @i7 ∧ type_of% @ja ∧ type_of% @i9 ∧ type_of% @kO ∧ type_of% @kN ∧ type_of% @i8 ∧ type_of% @gY ∧ type_of% @g6 ∧ type_of% @fX ∧ type_of% @jm ∧ type_of% @jl ∧ type_of% @gZ ∧ type_of% @jf ∧ type_of% @ji ∧ type_of% @gC ∧ type_of% @jh ∧ type_of% @kQ ∧ type_of% @jg ∧ type_of% @jb ∧ type_of% @je ∧ type_of% @gB ∧ type_of% @jd ∧ type_of% @kP ∧ type_of% @jc ∧ type_of% @gU ∧ type_of% @gX ∧ type_of% @fW ∧ type_of% @gW ∧ type_of% @jk ∧ type_of% @jj := ⟨@gT, @iZ, @gS, @i6, @i0, @gR, @g9, @jo, @hR, @jr, @jq, @hJ, @i7, @ja, @i9, @kO, @kN, @i8, @gY, @g6, @fX, @jm, @jl, @gZ, @jf, @ji, @gC, @jh, @kQ, @jg, @jb, @je, @gB, @jd, @kP, @jc, @gU, @gX, @fW, @gW, @jk, @jj⟩
inductive DF (α : Type) where
 | pl (d : fg) | tr (a b : List α)
noncomputable def DF.u {α : Type} (f : α → U) : DF α → U
 | .pl d => d.u
 | .tr a b => .tup [.str "try", .tup (a.map f), .tup (b.map f)]
noncomputable def Dl : Nat → Type
 | 0 => DF Empty
 | j + 1 => DF (Dl j)
noncomputable def Dl.u : (j : Nat) → Dl j → U
 | 0, d => DF.u (fun x => nomatch x) d
 | j + 1, d => DF.u (Dl.u j) d
noncomputable def DF.ok {α : Type} (n w : Int) (k : List α → Prop) : DF α → Prop
 | .pl d => d.ok n w
 | .tr a b => k a ∧ k b
theorem rP {α : Type} {l : List α} {k : Nat} {x : α} (h : l[k]? = some x) : k < l.length := (List.getElem?_eq_some_iff.mp h).1
theorem fB {α : Type} {l r : List α} {k : Nat} {x : α} (h : l[k]? = some x) : (l ++ r)[k]? = some x := by rw [List.getElem?_append_left (rP h)]; exact h
theorem zI {us : List U} {S : Sto} : tyU (.tup us) S = some .tuple := rfl
theorem zK {i : Int} {S : Sto} : tyU (.int i) S = some .int := rfl
theorem zJ {i : Str} {S : Sto} : tyU (.str i) S = some .str := rfl
theorem wH {x : U} {S : Sto} : Bk x .non S = some (.bl (ow x), S) := rfl
noncomputable def dq : Nat → Fn
 | 0 => fun _ _ => none
 | k + 1 => fnU 2 2 (cZ (dq k))
noncomputable def fE (k : Nat) (u v : U) (S : Sto) : Prop := ∀ X, ∃ G, dq k [u, v] (S ++ X) = some (.bl true, S ++ (X ++ G))
theorem uh {k : Nat} {i : Int} {S : Sto} : fE (k + 1) (.int i) (.int i) S := fun X => ⟨[], by
 unfold dq; rw [gb]
 rwa [cZ, wH, ow, zK, vD, eq_self, List.append_nil]⟩
theorem iM {k : Nat} {i : Str} {S : Sto} : fE (k + 1) (.str i) (.str i) S := fun X => ⟨[], by
 unfold dq; rw [gb]
 rwa [cZ, wH, ow, zJ, vD, eq_self, List.append_nil]⟩
theorem o7 {k : Nat} {S : Sto} {ok : Sto → Prop} (hok : ∀ X, ok (S ++ X)) : ∀ (ps : List (U × U)) (j : Nat) (X G : Sto) (r0 r1 : Option U), (∀ p ∈ ps, fE k p.1 p.2 S) → j + ps.length ≤ 1000 →
  ∃ G', gv ok (gTp [0, 1]) (cCB (dq k) (ah (aq 0) (ah (aq 1) aI))) (S.length + X.length) (ps.map fun p => .tup [p.1, p.2]) [r0, r1] (S ++ (X ++ .lst (List.replicate j (.bl true)) :: G)) = some (S ++ (X ++ .lst (List.replicate (j + ps.length) (.bl true)) :: G'))
 | [], j, X, G, r0, r1, _, _ => ⟨G, pG (hok _)⟩
 | p :: ps, j, X, G, r0, r1, h, hl => by
  obtain ⟨G1, e1⟩ := h p List.mem_cons_self (X ++ .lst (List.replicate j (.bl true)) :: G)
  obtain ⟨G2, ih⟩ := o7 hok ps (j + 1) X (G ++ G1) (some p.1) (some p.2) (fun q hq => h q (List.mem_cons_of_mem _ hq)) (by simp at hl; omega)
  refine ⟨G2, ?_⟩
  have e2 : j + (p :: ps).length = j + 1 + ps.length := by simp; omega
  rw [e2, List.map_cons]
  refine (m9 (ρ0 := [some p.1, some p.2]) (S0 := S ++ (X ++ .lst (List.replicate j (.bl true)) :: G)) (S1 := S ++ (X ++ .lst (List.replicate j (.bl true)) :: (G ++ G1))) (x := .bl true) (ys := List.replicate j (.bl true)) (hok _) (by rwa []) ?_ ?_ (by unfold LIM; simp at hl ⊢; omega)).trans ?_
  ·rwa [e1]
  ·rw [ga, ← Nat.add_zero X.length, ga]; rfl
  ·rw [gs, ← Nat.add_zero X.length, gs]
   rw [show (O.lst (List.replicate j (U.bl true)) :: (G ++ G1)).set 0 (.lst (List.replicate j (.bl true) ++ [.bl true])) = .lst (List.replicate (j + 1) (.bl true)) :: (G ++ G1) by rw [List.replicate_succ']; rfl]
   exact ih
theorem lG {k : Nat} {us vs : List U} {S : Sto} (hl : us.length = vs.length) (hn : us.length ≤ 1000) (h : ∀ p ∈ us.zip vs, fE k p.1 p.2 S) : fE (k + 1) (.tup us) (.tup vs) S := fun X => by
 obtain ⟨G, e⟩ := o7 (ok := fun _ => True ∧ True) (S := S) (fun _ => ⟨trivial, trivial⟩) (us.zip vs) 0 X [] none none h (by simp [hl]; omega)
 refine ⟨.lst (List.replicate (0 + (us.zip vs).length) (.bl true)) :: G, ?_⟩
 unfold dq; rw [gb]
 have fl : fC (.bl false) = true ∧ (List.replicate (0 + (us.zip vs).length) (U.bl true)).all fC = true := ⟨rfl, by simp [fC]⟩
 have nin : inU (.bl false) (List.replicate (0 + (us.zip vs).length) (U.bl true)) = false := by
  unfold inU; rw [List.any_eq_false]; intro x hx; rw [List.eq_of_mem_replicate hx]; decide
 have g1 : (S ++ (X ++ O.lst (List.replicate (0 + (us.zip vs).length) (U.bl true)) :: G))[S.length + X.length]? = some (.lst (List.replicate (0 + (us.zip vs).length) (.bl true))) := by rw [ga, ← Nat.add_zero X.length, ga]; rfl
 have hl' : ((us.length : Nat) : Int) = (vs.length : Int) := by omega
 have e' : gv (fun _ => True ∧ True) (gTp [0, 1]) (cCB (dq k) (ah (aq 0) (ah (aq 1) aI))) (S.length + X.length) (uL us vs) [none, none] (S ++ (X ++ [.lst []])) = some (S ++ (X ++ .lst (List.replicate (0 + (us.zip vs).length) (.bl true)) :: G)) := e
 rwa [cZ, wH, ow, zI, vD, hl', eq_self, kJ, DK, yA, uj, List.replicate, List.length_append, e', g1, Co fl, nin, if_true]
theorem ll {us : List U} {P : U × U → Prop} (h : ∀ u ∈ us, P (u, u)) : ∀ p ∈ us.zip us, P p := fun p hp => by
 obtain ⟨e, m⟩ := mem_zip_self hp
 have : p = (p.1, p.1) := by cases p; simp at e; rw [e]
 rw [this]; exact h _ m
section
variable {α : Type} {n w : Int} {f : α → U} {k : List α → Prop} {s : List α → Int}
noncomputable def szF (s : List α → Int) : List (DF α) → Int
 | [] => 0
 | .pl _ :: r => 1 + szF s r
 | .tr a b :: r => 1 + s a + s b + szF s r
theorem lD (s : List α → Int) : ∀ (x y : List (DF α)), szF s (x ++ y) = szF s x + szF s y
 | [], y => by simp [szF]
 | .pl d :: r, y => by simp only [List.cons_append, szF, lD s r y]; omega
 | .tr a b :: r, y => by simp only [List.cons_append, szF, lD s r y]; omega
noncomputable def HsT (fs : Fn) (f : α → U) (k : List α → Prop) (s : List α → Int) : Prop := ∀ (a : List α) (S : Sto), k a → fs [.tup (a.map f)] S = some (.int (s a), S)
noncomputable def pL (fs : Fn) : Fn := fnU 3 1 (d7 fs)
theorem js {fs : Fn} (Hs : HsT fs f k s) (x : U) : ∀ (ds : List (DF α)) (many : Int) (r2 : Option U) (S : Sto), (∀ d ∈ ds, d.ok n w k) →
  ∃ r2', eM (fun _ => True) (gNm 2) (dZ fs) (ds.map (DF.u f)) [some x, some (.int many), r2] S = some (.nx, [some x, some (.int (many + szF s ds)), r2'], S)
 | [], many, r2, S, _ => ⟨r2, by simp only [szF, Int.add_zero, List.map_nil]; exact eX trivial⟩
 | d :: r, many, r2, S, oa => by
  have od := oa d List.mem_cons_self
  cases d with
  | pl d =>
   obtain ⟨r2', ih⟩ := js Hs x r (many + 1) (some d.u) S fun y hy => oa y (List.mem_cons_of_mem _ hy)
   have e : many + szF s (.pl d :: r) = many + 1 + szF s r := by simp only [szF]; omega
   rw [e]
   refine ⟨r2', (bP trivial rfl ?_).trans ih⟩
   have h0 : ∃ y rr, d.u = .tup (.str y :: rr) ∧ decide (y = ("try" : Str)) = false := by
    cases d <;> first | exact ⟨_, _, rfl, fX⟩ | exact ⟨_, _, rfl, gC⟩ | exact ⟨_, _, rfl, gB⟩ | exact ⟨_, _, rfl, fW⟩ | exact ⟨_, _, rfl, by decide +kernel⟩
   obtain ⟨y, rr, e0, e1⟩ := h0
   simp only [DF.u]
   rw [e0]
   rwa [dZ, e1]
  | tr a b =>
   obtain ⟨ka, kb⟩ := od
   obtain ⟨r2', ih⟩ := js Hs x r (many + 1 + s a + s b) (some (DF.u f (.tr a b))) S fun y hy => oa y (List.mem_cons_of_mem _ hy)
   have e : many + szF s (.tr a b :: r) = many + 1 + s a + s b + szF s r := by simp only [szF]; omega
   rw [e]
   refine ⟨r2', (bP trivial rfl ?_).trans ih⟩
   rwa [dZ, DF.u, Hs a _ ka, Hs b _ kb, SNX]
theorem nQ {fs : Fn} (Hs : HsT fs f k s) (ds : List (DF α)) (S : Sto) (oa : ∀ d ∈ ds, d.ok n w k) : pL fs [.tup (ds.map (DF.u f))] S = some (.int (szF s ds), S) := by
 unfold pL
 rw [oF]
 obtain ⟨r2, e⟩ := js Hs (.tup (ds.map (DF.u f))) ds 0 none S oa
 rw [Int.zero_add] at e
 rwa [d7, lT, iTp, e]
end
noncomputable def qr : Nat → Fn
 | 0 => pL fun _ _ => none
 | j + 1 => pL (qr j)
noncomputable def jt : (j : Nat) → List (Dl j) → Int
 | 0, ds => szF (fun _ => 0) ds
 | j + 1, ds => szF (jt j) ds
section
variable {α : Type} {f : α → U} {k : List α → Prop} {s : List α → Int}
noncomputable def HdT (n w t : Int) (fd : Fn) (f : α → U) (k : List α → Prop) (s : List α → Int) : Prop := ∀ (ns : List Int) (T : Sto) (a c room : Int), 0 ≤ a → 0 ≤ c → 0 ≤ room → room ≤ 40 →
 ∃ (ds : List α) (a' c' : Int) (G : Sto), fd [.ref 1, .tup [.int n, .int w], .int room, .int t] (scr ns :: pen a c :: T) = some (.tup (ds.map f), scr ns :: pen a' c' :: (T ++ G)) ∧ k ds ∧ s ds ≤ room ∧ 0 ≤ s ds ∧ 0 ≤ a' ∧ 0 ≤ c' ∧ ds.length ≤ 12
noncomputable def fR (av aH ax aD : Fn) : CS :=
 (eS (nj (aM (cOp fGt (aq 5) (cC (.int 0)))) (nj (aM (cOp fLt (cCB iP (ah (aq 4) aI)) (cC (.int 12)))) (aM (cOp fLt (aq 7) (cC (.int 13)))))) (bw (dB (cBM bZ (aq 4) (ah (cCB aH (ah (aq 0) (ah (aq 1) (ah (aq 7) (ah (aq 8) aI))))) aI)))
  (dU 5 (cOp j7 (aq 5) (cC (.int 1))))) (eS (nj (aM (cOp fGt (aq 5) (cC (.int 0)))) (nj (aM (cOp fLt (cCB iP (ah (aq 4) aI)) (cC (.int 12)))) (cOr (aM (cOp fEq (aq 7) (cC (.int 13)))) (aM (cOp fEq (aq 3) (cC (.int 0))))))) (bw (eS (nj (aM (cOp fGt (aq 5) (cC (.int 1)))) (nj (aM (cOp fLt (cCB iP (ah (aq 4) aI)) (cC (.int 11)))) (aM (cOp fGt (cCB av (ah (aq 0) (ah (cC (.int 4)) aI))) (cC (.int 0)))))) (bw (dB (cBM bZ (aq 4) (ah (jT (ah (cC (.str "leap")) (ah (aq 8) (ah (cC (.int 1)) aI)))) aI)))
  (dU 5 (cOp j7 (aq 5) (cC (.int 1))))) cH)
  (bw (dB (cBM bZ (aq 4) (ah (jT (ah (cC (.str "wait")) aI)) aI)))
  (dU 5 (cOp j7 (aq 5) (cC (.int 1)))))) (eS (nj (aM (cOp fGt (aq 5) (cC (.int 0)))) (aM (cOp fLt (cCB iP (ah (aq 4) aI)) (cC (.int 12))))) (bw (dU 9 (cCB ax (ah (aq 0) (ah (aq 1) (ah (cCB av (ah (aq 0) (ah (aq 5) aI))) (ah (cOp j7 (aq 3) (cC (.int 1))) aI))))))
  (bw (dU 5 (cOp j7 (cOp j7 (aq 5) (cC (.int 1))) (cCB aD (ah (aq 9) aI))))
  (bw (dU 10 (cCB ax (ah (aq 0) (ah (aq 1) (ah (cCB av (ah (aq 0) (ah (cOp fN (aq 5) (cC (.int 1))) aI))) (ah (cOp j7 (aq 3) (cC (.int 1))) aI))))))
  (bw (dU 5 (cOp j7 (aq 5) (cCB aD (ah (aq 10) aI))))
  (dB (cBM bZ (aq 4) (ah (jT (ah (cC (.str "try")) (ah (aq 9) (ah (aq 10) aI)))) aI))))))) cH)))
theorem Bs {f g h i : Fn} : cQ f g h i = bw (dU 7 (cCB f (ah (aq 0) (ah (cC (.int 16)) aI)))) (bw (dU 8 (cCB f (ah (aq 0) (ah (cC (.int 4)) aI)))) (fR f g h i)) := rfl
theorem cy (ns : List Int) (T : Sto) {n w room t : Int} {fd fs : Fn} (Hs : HsT fs f k s) (Hd : t ≠ 0 → HdT n w (t - 1) fd f k s) (n0 : 1 ≤ n) (n1 : n ≤ 6) (w0 : 2 ≤ w) (w1 : w ≤ 1000) (rm : room ≤ 40) : ∀ (us : List U) (r6 r7 r8 r9 r10 : Option U) (left : Int) (ds : List (DF α)) (G : Sto) {a c : Int}, 0 ≤ a → 0 ≤ c → ds.length ≤ 12 → (∀ d ∈ ds, d.ok n w k) → 0 ≤ left → szF s ds + left ≤ room → 0 ≤ szF s ds →
  ∃ (ds' : List (DF α)) (ρ : Rho) (a' c' : Int) (G' : Sto), eM (fun _ => True) (gNm 6) (cQ iC gP fd fs) us [some (.ref 1), some (.tup [.int n, .int w]), some (.int room), some (.int t), some (.ref (T.length + 1 + 1)), some (.int left), r6, r7, r8, r9, r10] (scr ns :: pen a c :: (T ++ .lst (ds.map (DF.u f)) :: G))
   = some (.nx, some (.ref 1) :: some (.tup [.int n, .int w]) :: some (.int room) :: some (.int t) :: some (.ref (T.length + 1 + 1)) :: ρ, scr ns :: pen a' c' :: (T ++ .lst (ds'.map (DF.u f)) :: G')) ∧ ds'.length ≤ 12 ∧ (∀ d ∈ ds', d.ok n w k) ∧ szF s ds' ≤ room ∧ 0 ≤ szF s ds' ∧ 0 ≤ a' ∧ 0 ≤ c'
 | [], r6, r7, r8, r9, r10, left, ds, G, a, c, ha, hc, hl, hd, l0, sz, s0 => ⟨ds, _, a, c, G, by simp [eM]; rfl, hl, hd, by omega, s0, ha, hc⟩
 | u :: us, r6, r7, r8, r9, r10, left, ds, G, a, c, ha, hc, hl, hd, l0, sz, s0 => by
  obtain ⟨f1, a1, c1, e1, p1, q1, ha1, hc1⟩ := cS ns (T ++ .lst (ds.map (DF.u f)) :: G) (m := 16) ha hc (by decide) (by decide +kernel)
  obtain ⟨f2, a2, c2, e2, p2, q2, ha2, hc2⟩ := cS ns (T ++ .lst (ds.map (DF.u f)) :: G) (m := 4) ha1 hc1 (by decide) (by decide +kernel)
  have pre : cQ iC gP fd fs [some (.ref 1), some (.tup [.int n, .int w]), some (.int room), some (.int t), some (.ref (T.length + 1 + 1)), some (.int left), some u, r7, r8, r9, r10] (scr ns :: pen a c :: (T ++ .lst (ds.map (DF.u f)) :: G))
    = fR iC gP fd fs [some (.ref 1), some (.tup [.int n, .int w]), some (.int room), some (.int t), some (.ref (T.length + 1 + 1)), some (.int left), some u, some (.int f1), some (.int f2), r9, r10] (scr ns :: pen a2 c2 :: (T ++ .lst (ds.map (DF.u f)) :: G)) := by
   rw [Bs]
   rwa [e1, e2]
  by_cases hL : 0 < left
  case neg =>
   obtain ⟨ds', ρ, a', c', G', h, kk⟩ := cy ns T (room := room) (t := t) (fd := fd) (fs := fs) Hs Hd n0 n1 w0 w1 rm us (some u) (some (.int f1)) (some (.int f2)) r9 r10 left ds G ha2 hc2 hl hd l0 sz s0
   exact ⟨ds', ρ, a', c', G', (bP trivial rfl (pre.trans (by rwa [fR, hL]))).trans h, kk⟩
  by_cases hN : (ds.length : Int) < 12
  case neg =>
   obtain ⟨ds', ρ, a', c', G', h, kk⟩ := cy ns T (room := room) (t := t) (fd := fd) (fs := fs) Hs Hd n0 n1 w0 w1 rm us (some u) (some (.int f1)) (some (.int f2)) r9 r10 left ds G ha2 hc2 hl hd l0 sz s0
   exact ⟨ds', ρ, a', c', G', (bP trivial rfl (pre.trans (by rwa [fR, hL, hN, List.length_map]))).trans h, kk⟩
  have hlm : (ds.map (DF.u f)).length < LIM := by unfold LIM; simp; omega
  have okd : ∀ {ds : List (DF α)} {d : DF α}, (∀ d ∈ ds, d.ok n w k) → d.ok n w k → ∀ x ∈ ds ++ [d], x.ok n w k := fun h1 h2 x hx => by
   rcases List.mem_append.mp hx with z | z
   ·exact h1 x z
   ·simp at z; subst z; exact h2
  have s1 : ∀ (x : List (DF α)) (d : fg), szF s (x ++ [.pl d]) = szF s x + 1 := fun x d => by rw [lD]; simp [szF]
  by_cases hW : f1 < 13
  ·obtain ⟨d, a3, c3, G3, e3, od, ha3, hc3⟩ := uB ns (T ++ .lst (ds.map (DF.u f)) :: G) ha2 hc2 n0 n1 w0 w1 p1 p2 q2
   obtain ⟨ds', ρ, a', c', G', h, kk⟩ := cy ns T (room := room) (t := t) (fd := fd) (fs := fs) Hs Hd n0 n1 w0 w1 rm us (some u) (some (.int f1)) (some (.int f2)) r9 r10 (left - 1) (ds ++ [.pl d]) (G ++ G3) ha3 hc3 (by simp; omega) (okd hd (show DF.ok n w k (.pl d) from od)) (by omega) (by rw [s1]; omega) (by rw [s1]; omega)
   simp only [List.map_append, List.map_cons, List.map_nil, DF.u] at h
   exact ⟨ds', ρ, a', c', G', (bP trivial rfl (pre.trans (by rwa [fR, e3, hL, hN, hW, eP hlm, List.length_map]))).trans h, kk⟩
  ·have wt : DF.u f (.pl .wait) = U.tup [.str "wait"] := rfl
   obtain ⟨bE, hE⟩ : ∃ b, decide (f1 = 13) = b := ⟨_, rfl⟩
   obtain ⟨bT, hT⟩ : ∃ b, decide (t = 0) = b := ⟨_, rfl⟩
   by_cases hX : bE = false ∧ bT = false
   ·obtain ⟨rfl, rfl⟩ := hX
    have tz : t ≠ 0 := of_decide_eq_false hT
    obtain ⟨f3, a3, c3, e3, p3, q3, ha3, hc3⟩ := cS ns (T ++ .lst (ds.map (DF.u f)) :: G) (m := left) ha2 hc2 hL (l9 (by omega) (by omega))
    obtain ⟨A, a4, c4, G4, e4, kA, sA, sA0, ha4, hc4, _⟩ := Hd tz ns (T ++ .lst (ds.map (DF.u f)) :: G) a3 c3 f3 ha3 hc3 p3 (by omega)
    obtain ⟨f5, a5, c5, e5, p5, q5, ha5, hc5⟩ := cS ns (T ++ .lst (ds.map (DF.u f)) :: (G ++ G4)) (m := left - 1 - s A + 1) ha4 hc4 (by omega) (l9 (by omega) (by omega))
    obtain ⟨B, a6, c6, G6, e6, kB, sB, sB0, ha6, hc6, _⟩ := Hd tz ns (T ++ .lst (ds.map (DF.u f)) :: (G ++ G4)) a5 c5 f5 ha5 hc5 p5 (by omega)
    have s2 : szF s (ds ++ [.tr A B]) = szF s ds + 1 + s A + s B := by rw [lD]; simp only [szF]; omega
    obtain ⟨ds', ρ, a', c', G', h, kk⟩ := cy ns T (room := room) (t := t) (fd := fd) (fs := fs) Hs Hd n0 n1 w0 w1 rm us (some u) (some (.int f1)) (some (.int f2)) (some (.tup (A.map f))) (some (.tup (B.map f))) (left - 1 - s A - s B) (ds ++ [.tr A B]) (G ++ (G4 ++ G6)) ha6 hc6 (by simp; omega) (okd hd (show DF.ok n w k (.tr A B) from ⟨kA, kB⟩)) (by omega) (by rw [s2]; omega) (by rw [s2]; omega)
    simp only [List.map_append, List.map_cons, List.map_nil, DF.u] at h
    simp only [List.append_assoc, List.cons_append] at e4 e6
    exact ⟨ds', ρ, a', c', G', (bP trivial rfl (pre.trans (by rwa [fR, e3, e4, e5, e6, Hs A _ kA, Hs B _ kB, hL, hN, hW, hE, hT, eP hlm, List.length_map]))).trans h, kk⟩
   have hO : (bE || bT) = true := by cases bE <;> cases bT <;> simp_all
   have hC : ∀ S' : Sto, (cOr (aM (cOp fEq (aq 7) (cC (.int 13)))) (aM (cOp fEq (aq 3) (cC (.int 0))))) [some (.ref 1), some (.tup [.int n, .int w]), some (.int room), some (.int t), some (.ref (T.length + 1 + 1)), some (.int left), some u, some (.int f1), some (.int f2), r9, r10] S' = some (true, S') := fun S' => by
    cases bE <;> cases bT <;> first | (exact absurd hO (by decide)) | rwa [hE, hT]
   by_cases hM : 1 < left
   case neg =>
    obtain ⟨ds', ρ, a', c', G', h, kk⟩ := cy ns T (room := room) (t := t) (fd := fd) (fs := fs) Hs Hd n0 n1 w0 w1 rm us (some u) (some (.int f1)) (some (.int f2)) r9 r10 (left - 1) (ds ++ [.pl .wait]) G ha2 hc2 (by simp; omega) (okd hd (show DF.ok n w k (.pl .wait) from trivial)) (by omega) (by rw [s1]; omega) (by rw [s1]; omega)
    simp only [List.map_append, List.map_cons, List.map_nil] at h
    refine ⟨ds', ρ, a', c', G', (bP trivial rfl ?_).trans h, kk⟩
    refine pre.trans ?_
    rwa [fR, hC, hL, hN, hW, hM, wt, eP hlm, List.length_map]
   by_cases hK : (ds.length : Int) < 11
   case neg =>
    obtain ⟨ds', ρ, a', c', G', h, kk⟩ := cy ns T (room := room) (t := t) (fd := fd) (fs := fs) Hs Hd n0 n1 w0 w1 rm us (some u) (some (.int f1)) (some (.int f2)) r9 r10 (left - 1) (ds ++ [.pl .wait]) G ha2 hc2 (by simp; omega) (okd hd (show DF.ok n w k (.pl .wait) from trivial)) (by omega) (by rw [s1]; omega) (by rw [s1]; omega)
    simp only [List.map_append, List.map_cons, List.map_nil] at h
    refine ⟨ds', ρ, a', c', G', (bP trivial rfl ?_).trans h, kk⟩
    refine pre.trans ?_
    rwa [fR, hC, hL, hN, hW, hM, hK, wt, eP hlm, List.length_map]
   obtain ⟨f3, a3, c3, e3, p3, q3, ha3, hc3⟩ := cS ns (T ++ .lst (ds.map (DF.u f)) :: G) (m := 4) ha2 hc2 (by decide) (by decide +kernel)
   by_cases hZ : 0 < f3
   ·have lp : DF.u f (.pl (.leap f2 1)) = U.tup [.str "leap", .int f2, .int 1] := rfl
    have hlm2 : (ds.map (DF.u f) ++ [U.tup [.str "leap", .int f2, .int 1]]).length < LIM := by unfold LIM; simp; omega
    obtain ⟨ds', ρ, a', c', G', h, kk⟩ := cy ns T (room := room) (t := t) (fd := fd) (fs := fs) Hs Hd n0 n1 w0 w1 rm us (some u) (some (.int f1)) (some (.int f2)) r9 r10 (left - 1 - 1) (ds ++ [.pl (.leap f2 1)] ++ [.pl .wait]) G ha3 hc3 (by simp; omega) (okd (okd hd (show DF.ok n w k (.pl (.leap f2 1)) from ⟨p2, q2, by omega, by omega⟩)) (show DF.ok n w k (.pl .wait) from trivial)) (by omega) (by rw [s1, s1]; omega) (by rw [s1, s1]; omega)
    simp only [List.map_append, List.map_cons, List.map_nil] at h
    refine ⟨ds', ρ, a', c', G', (bP trivial rfl ?_).trans h, kk⟩
    refine pre.trans ?_
    rwa [fR, hC, e3, hL, hN, hW, hM, hK, hZ, lp, wt, eP hlm, eP hlm2, List.length_map]
   ·obtain ⟨ds', ρ, a', c', G', h, kk⟩ := cy ns T (room := room) (t := t) (fd := fd) (fs := fs) Hs Hd n0 n1 w0 w1 rm us (some u) (some (.int f1)) (some (.int f2)) r9 r10 (left - 1) (ds ++ [.pl .wait]) G ha3 hc3 (by simp; omega) (okd hd (show DF.ok n w k (.pl .wait) from trivial)) (by omega) (by rw [s1]; omega) (by rw [s1]; omega)
    simp only [List.map_append, List.map_cons, List.map_nil] at h
    refine ⟨ds', ρ, a', c', G', (bP trivial rfl ?_).trans h, kk⟩
    refine pre.trans ?_
    rwa [fR, hC, e3, hL, hN, hW, hM, hK, hZ, wt, eP hlm, List.length_map]
theorem iQ {n w t : Int} {fd fs : Fn} (Hs : HsT fs f k s) (Hd : t ≠ 0 → HdT n w (t - 1) fd f k s) (n0 : 1 ≤ n) (n1 : n ≤ 6) (w0 : 2 ≤ w) (w1 : w ≤ 1000) : HdT n w t (pO fd fs) (DF.u f) (fun ds => ds.length ≤ 30 ∧ ∀ d ∈ ds, DF.ok n w k d) (szF s) := by
 intro ns T a c room ha hc r0 r1
 unfold pO
 rw [kG]
 have hm : DO [.int 12, .int room] = fun S => some (.int (if room < 12 then room else 12), S) := rfl
 have hk : 0 ≤ (if room < 12 then room else 12) ∧ (if room < 12 then room else 12) ≤ 12 := by split <;> omega
 generalize (if room < 12 then room else 12) = mm at hm hk
 obtain ⟨f1, a1, c1, e1, p1, q1, ha1, hc1⟩ := cS ns (T ++ [.lst []]) (m := mm + 1) ha hc (by omega) (l9 (by omega) (by omega))
 obtain ⟨ds, ρ, a', c', G, h, k1, k2, k3, k4, k5, k6⟩ := cy ns T (room := room) (t := t) (fd := fd) (fs := fs) Hs Hd n0 n1 w0 w1 r1 (jw 0 f1.toNat) none none none none none room [] [] ha1 hc1 (by simp) (by simp) r0 (by simp [szF]) (by simp [szF])
 refine ⟨ds, a', c', .lst (ds.map (DF.u f)) :: G, ?_, ⟨by omega, k2⟩, k3, k4, k5, k6, k1⟩
 have hr : -(2 ^ 62) ≤ f1 ∧ f1 < 2 ^ 62 := by omega
 simp only [List.map_nil] at h
 rwa [cM, lT, jM, hm, e1, hr, h, if_true, and_self]
end
noncomputable def nJ : Nat → Fn
 | 0 => pO (fun _ _ => none) fun _ _ => none
 | j + 1 => pO (nJ j) (qr j)
inductive Ev where
 | beg (a : Int) | look (a b x : Int) | put (a b x : Int) | fin (d : Bool) (a : Int)
structure Att where
 en : Option Bool
 lk : List (Int × Int)
 nd : List (Int × Int)
 ps : List (Int × Int)
 bf : List Int
noncomputable abbrev St := List (Int × Att)
structure Go where
 a : Int
 seen : List Int
 r : Nat
section
variable {c : Cl} {B : Nat} {E L N P F E' : List (Key × U)} {X Y S : Sto} {k : Nat} {o : O}
noncomputable def hd (c : Cl) (B : Nat) (E L N P F : List (Key × U)) : Sto := [.ins c [some (.ref (B + 1)), some (.ref (B + 2)), some (.ref (B + 3)), some (.ref (B + 4)), some (.ref (B + 5))], .dic E, .dic L, .dic N, .dic P, .dic F]
theorem hd1 : (S ++ (hd c B E L N P F ++ X))[S.length + 1]? = some (.dic E) := by rw [ga]; rfl
theorem hd2 : (S ++ (hd c B E L N P F ++ X))[S.length + 2]? = some (.dic L) := by rw [ga]; rfl
theorem hd3 : (S ++ (hd c B E L N P F ++ X))[S.length + 3]? = some (.dic N) := by rw [ga]; rfl
theorem hd4 : (S ++ (hd c B E L N P F ++ X))[S.length + 4]? = some (.dic P) := by rw [ga]; rfl
theorem hd5 : (S ++ (hd c B E L N P F ++ X))[S.length + 5]? = some (.dic F) := by rw [ga]; rfl
theorem hs2 : (S ++ (hd c B E L N P F ++ X)).set (S.length + 2) (.dic E') = S ++ (hd c B E E' N P F ++ X) := by rw [gs]; rfl
theorem hs3 : (S ++ (hd c B E L N P F ++ X)).set (S.length + 3) (.dic E') = S ++ (hd c B E L E' P F ++ X) := by rw [gs]; rfl
theorem fS : (S ++ (hd c B E L N P F ++ X)).length = S.length + (6 + X.length) := by simp [hd]; omega
end
section
variable {c : Cl} {S : Sto} {s1 s2 st : St} {a : Int} {t t' : Att}
noncomputable def hc (c : Cl) (S : Sto) (E L N P F : List (Key × U)) (X : Sto) : Sto := S ++ (hd c S.length E L N P F ++ X)
section
variable {E L N P F E' : List (Key × U)} {X Y : Sto}
theorem hc1 : (hc c S E L N P F X)[S.length + 1]? = some (.dic E) := hd1
theorem hc2 : (hc c S E L N P F X)[S.length + 2]? = some (.dic L) := hd2
theorem hc3 : (hc c S E L N P F X)[S.length + 3]? = some (.dic N) := hd3
theorem hc4 : (hc c S E L N P F X)[S.length + 4]? = some (.dic P) := hd4
theorem hc5 : (hc c S E L N P F X)[S.length + 5]? = some (.dic F) := hd5
theorem hcl : (hc c S E L N P F X).length = S.length + (6 + X.length) := fS
end
end
section
variable {c cA : Cl} {n w : Int} {S G C : Sto} {st : St} {a : Int} {t : Att} {x : List Int} {every : Bool} {L : Nat}
theorem jS {α : Type} {ok : Sto → Prop} {gg : CG} {ce : CE} {S : Sto} {f : α → U} {v : α → U} {Rel : Rho → Prop} (hok : ∀ ys G, ok (S ++ (.lst ys :: G))) :
  ∀ (xs : List α) (ys : List U) (G : Sto) (ρ : Rho), Rel ρ → ys.length + xs.length ≤ 9999 →
  (∀ x ∈ xs, ∀ ys G ρ, Rel ρ → ∃ ρ0, Rel ρ0 ∧ gg (f x) ρ (S ++ (.lst ys :: G)) = some (ρ0, S ++ (.lst ys :: G)) ∧ ce ρ0 (S ++ (.lst ys :: G)) = some (v x, S ++ (.lst ys :: G))) →
  gv ok gg ce S.length (xs.map f) ρ (S ++ (.lst ys :: G)) = some (S ++ (.lst (ys ++ xs.map v) :: G))
 | [], ys, G, ρ, _, _, _ => by simp only [List.map_nil, List.append_nil]; exact pG (hok ys G)
 | x :: xs, ys, G, ρ, hr, hl, hb => by
  rw [List.length_cons] at hl
  obtain ⟨ρ0, r0, h1, h2⟩ := hb x List.mem_cons_self ys G ρ hr
  have h := jS hok xs (ys ++ [v x]) G ρ0 r0 (by simp; omega) (fun x hx => hb x (List.mem_cons_of_mem _ hx))
  rw [List.map_cons]
  refine (m9 (hok ys G) h1 h2 (by rw [ga0]; rfl) (by unfold LIM; omega)).trans ?_
  rw [gs0]
  simp only [List.set_cons_zero]
  rw [h]
  simp only [List.map_cons, List.append_assoc, List.cons_append, List.nil_append]
end
theorem fG {ca cb : CS} {ρ ρ' : Rho} {S S' : Sto} (h : ca ρ S = some (.nx, ρ', S')) : bw ca cb ρ S = cb ρ' S' := by rw [yW, h, Option.bind_some, vx]
noncomputable def gj (n : Int) : Str := Str.ofString (toString n)
noncomputable def yG (m : Nat) : List Nat := (Nat.toDigits 10 m).map Char.toNat
theorem sF : ∀ m : Nat, m < 1000 → (yG m).length ≤ 3 ∧ (yG m).length ≠ 0 ∧ (∀ c ∈ yG m, 48 ≤ c ∧ c ≤ 57) ∧ ((yG m).head? = some 48 → yG m = [48]) := by decide +kernel
theorem rM {n : Int} (n0 : 0 ≤ n) : (gj n).cps.toList = yG n.toNat := by
 have := PySem.W.KIN.signs_num n.toNat
 rw [show ((n.toNat : Nat) : Int) = n from by omega] at this
 exact this
theorem Bj : ∀ c : Nat, c < 58 → 48 ≤ c → Txt.contains (Str.ofString "0123456789") ⟨#[c]⟩ = true := by decide +kernel
theorem nL : Str.ofString "0" = ⟨#[48]⟩ := by decide +kernel
theorem kX (z : Str) : z.length = z.cps.toList.length := by
 show z.cps.size = _
 simp
theorem qY {a b : Str} (h : a.cps.toList = b.cps.toList) : a = b := by
 cases a; cases b
 exact congrArg Str.mk (Array.ext' h)
noncomputable def lY : Fn := fnU 1 1 d6
theorem rL {n : Int} (n0 : 0 ≤ n) (n1 : n < 1000) (S : Sto) : ∃ G, lY [.str (gj n)] S = some (.int n, S ++ G) := by
 obtain ⟨d1, d2, d3, d4⟩ := sF n.toNat (by omega)
 have ec := rM n0
 rw [← ec] at d1 d2 d3 d4
 have rd : PySem.intText? (gj n) = some n := PySem.W.KIN.num_reads n0 (by omega)
 obtain ⟨z, hz⟩ : ∃ z, z = gj n := ⟨_, rfl⟩
 rw [← hz] at d1 d2 d3 d4 rd ⊢
 have lz : z.length = z.cps.toList.length := kX z
 have asc : z.cps.all (· < 128) = true := by
  rw [Array.all_eq_true']
  intro c hc
  have := d3 c (by simpa using hc)
  exact decide_eq_true (by omega)
 have sg : ∀ y ∈ signs z, Txt.contains (Str.ofString "0123456789") y = true := fun y hy => by
  obtain ⟨i, hi⟩ := List.mem_iff_getElem?.mp hy
  cases hc : z.cps[i]? with
  | none =>
   rw [List.getElem?_eq_none (by rw [signs_length]; exact Array.getElem?_eq_none_iff.mp hc)] at hi
   cases hi
  | some c =>
   rw [signs_get hc] at hi
   cases hi
   have := d3 c (by rw [Array.mem_toList_iff]; exact Array.mem_of_getElem? hc)
   exact Bj c (by omega) this.1
 have e1 := jS (S := S) (ok := fun _ => True) (gg := gNm 0) (ce := cOp vV (aq 0) (cC (.str "0123456789"))) (f := U.str) (v := fun y : Str => U.bl true) (Rel := fun ρ => ∃ r0, ρ = [r0]) (fun _ _ => trivial) (signs z) [] [] [none] ⟨_, rfl⟩ (by rw [signs_length, List.length_nil]; omega) (fun y hy ys G ρ hρ => by
  obtain ⟨r0, rfl⟩ := hρ
  refine ⟨[some (.str y)], ⟨_, rfl⟩, rfl, ?_⟩
  have h1 : ∀ S' : Sto, vV (.str y) (.str "0123456789") S' = some (.bl true, S') := fun S' => by
   unfold vV
   exact congrArg (fun b => some (U.bl b, S')) (sg y hy)
  rwa [h1])
 simp only [List.nil_append] at e1
 have hi : aq 0 [some (.str z)] S = some (.str z, S) := rfl
 have hcomp : kJ (BJ (aq 0)) (gNm 0) (cOp vV (aq 0) (cC (.str "0123456789"))) 1 [] [some (.str z)] S = some (.ref S.length, S ++ [.lst ((signs z).map fun _ => .bl true)]) := by
  unfold kJ BJ
  rw [hi, Option.bind_some]
  simp only [asc, if_true, Option.bind_some, uj, List.replicate, List.map_nil, List.append_nil, e1]
 have hall : Bm [.ref S.length] (S ++ [.lst ((signs z).map fun _ => .bl true)]) = some (.bl true, S ++ [.lst ((signs z).map fun _ => .bl true)]) := by
  have em : ((signs z).map fun _ => U.bl true) = ((signs z).map fun _ => true).map U.bl := by rw [List.map_map]; rfl
  have ea : (((signs z).map fun _ => true).all id) = true := by simp
  simp only [Bm, ga0, List.getElem?_cons_zero, em, pI, Option.bind_some, ea]
 have fS : ∀ S' : Sto, qk [.str z] S' = some (.int z.length, S') := fun S' => by
  unfold qk; simp only; rw [if_pos (by omega)]
 have t1 : decide ((z.length : Int) = 0) = false := decide_eq_false (by omega)
 have t2 : decide ((z.length : Int) > 4) = false := decide_eq_false (by omega)
 obtain ⟨c, hc⟩ : ∃ c, z.cps[0]? = some c := ⟨_, Array.getElem?_eq_getElem (by rw [← Array.length_toList]; omega)⟩
 have hix : ∀ S' : Sto, yF (.str z) (.int 0) S' = some (.str ⟨#[c]⟩, S') := fun S' => by
  unfold yF; simp only
  rw [if_pos ⟨by omega, by omega, by omega⟩, show ((0 : Int)).toNat = 0 from rfl, hc]; rfl
 have hint : ∀ S' : Sto, sD [.str z] S' = some (.int n, S') := fun S' => by
  unfold sD; simp only
  rw [if_pos (by omega), rd]; rfl
 refine ⟨[.lst ((signs z).map fun _ => .bl true)], ?_⟩
 unfold lY
 rw [oB]
 unfold d6
 by_cases c48 : c = 48
 ·have hz0 : z.cps.toList = [48] := d4 (by rw [List.head?_eq_getElem?, Array.getElem?_toList, hc, c48])
  have ez : z = Str.ofString "0" := by
   rw [nL]
   exact qY hz0
  have k1 : decide ((⟨#[c]⟩ : Str) = (Str.ofString "0")) = true := decide_eq_true (by rw [nL, c48])
  have k2 : decide (z = (Str.ofString "0")) = true := decide_eq_true ez
  rwa [fS, t1, t2, hcomp, hall, hix, k1, k2, hint]
 ·have k1 : decide ((⟨#[c]⟩ : Str) = (Str.ofString "0")) = false := decide_eq_false (by rw [nL]; intro h; injection h with h; injection h with h; injection h with h; exact c48 h)
  rwa [fS, t1, t2, hcomp, hall, hix, k1, hint]
noncomputable def jn : List (List Nat) → List Nat
 | [] => []
 | [x] => x
 | x :: y :: r => x ++ 32 :: jn (y :: r)
theorem sZ : ∀ {x y A B : List Nat}, 32 ∉ x → 32 ∉ y → x ++ 32 :: A = y ++ 32 :: B → x = y ∧ A = B
 | [], [], A, B, _, _, h => by
  injection h with _ h
  exact ⟨rfl, h⟩
 | [], c :: y, A, B, _, hy, h => by
  injection h with h _
  exact absurd (by rw [h]; exact List.mem_cons_self) hy
 | c :: x, [], A, B, hx, _, h => by
  injection h with h _
  exact absurd (by rw [← h]; exact List.mem_cons_self) hx
 | c :: x, d :: y, A, B, hx, hy, h => by
  injection h with h1 h2
  obtain ⟨e1, e2⟩ := sZ (fun z => hx (List.mem_cons_of_mem _ z)) (fun z => hy (List.mem_cons_of_mem _ z)) h2
  exact ⟨by rw [h1, e1], e2⟩
theorem vT : ∀ {xs ys : List (List Nat)}, xs ≠ [] → ys ≠ [] → (∀ x ∈ xs, 32 ∉ x) → (∀ y ∈ ys, 32 ∉ y) → jn xs = jn ys → xs = ys
 | [], _, h, _, _, _, _ => absurd rfl h
 | _, [], _, h, _, _, _ => absurd rfl h
 | [x], [y], _, _, _, _, h => by
  have : x = y := h
  rw [this]
 | [x], y :: y2 :: r, _, _, hx, _, h => by
  have h' : x = y ++ 32 :: jn (y2 :: r) := h
  exact absurd (by rw [h']; simp) (hx x List.mem_cons_self)
 | x :: x2 :: r, [y], _, _, _, hy, h => by
  have h' : x ++ 32 :: jn (x2 :: r) = y := h
  exact absurd (by rw [← h']; simp) (hy y List.mem_cons_self)
 | x :: x2 :: r, y :: y2 :: s, _, _, hx, hy, h => by
  have h' : x ++ 32 :: jn (x2 :: r) = y ++ 32 :: jn (y2 :: s) := h
  obtain ⟨e1, e2⟩ := sZ (hx x List.mem_cons_self) (hy y List.mem_cons_self) h'
  rw [e1, vT (List.cons_ne_nil _ _) (List.cons_ne_nil _ _) (fun z hz => hx z (List.mem_cons_of_mem _ hz)) (fun z hz => hy z (List.mem_cons_of_mem _ hz)) e2]
theorem rZ : ∀ ws : List Str, (Str.join ⟨#[32]⟩ ws).cps.toList = jn (ws.map fun y => y.cps.toList)
 | [] => rfl
 | [x] => rfl
 | x :: y :: r => by
  show (x ++ ⟨#[32]⟩ ++ Str.join ⟨#[32]⟩ (y :: r)).cps.toList = x.cps.toList ++ 32 :: jn ((y :: r).map fun y => y.cps.toList)
  rw [← rZ (y :: r), Str.cps_append, Str.cps_append, Array.toList_append, Array.toList_append, List.append_assoc]; rfl
theorem ud (x y : Str) : Txt.split x y ≠ [] := by
 unfold Txt.split
 split
 ·exact List.cons_ne_nil _ _
 ·split
  ·exact List.cons_ne_nil _ _
  ·rw [StrLaws.partsBetween_eq]
   obtain ⟨p, r, e⟩ := StrLaws.partsFrom_ne x y.length 0 (Builtin.Str.occurrences x y 0 x.length (x.length + 1))
   rw [e]; exact List.cons_ne_nil _ _
theorem pX {ws : List Str} (h : ws ≠ []) (hs : ∀ y ∈ ws, 32 ∉ y.cps.toList) : Txt.split (Str.join ⟨#[32]⟩ ws) ⟨#[32]⟩ = ws := by
 have e := StrLaws.join_split (Str.join ⟨#[32]⟩ ws) ⟨#[32]⟩
 have e2 := congrArg (fun z : Str => z.cps.toList) e
 simp only [rZ] at e2
 have e3 := vT (by intro z; exact ud _ _ (List.map_eq_nil_iff.mp z)) (by intro z; exact h (List.map_eq_nil_iff.mp z)) (fun x hx => by
  obtain ⟨y, hy, rfl⟩ := List.mem_map.mp hx
  exact StrLaws.split_free _ 32 y hy) (fun x hx => by
  obtain ⟨y, hy, rfl⟩ := List.mem_map.mp hx
  exact hs y hy) e2
 exact (List.map_inj_right fun a b => qY).mp e3
noncomputable def fg.w : fg → Str
 | .look _ _ => "look"
 | .put _ _ => "put"
 | .set _ _ => "set"
 | .plus _ _ => "plus"
 | .leap _ _ => "leap"
 | .wait => "wait"
noncomputable def fg.ns : fg → List Int
 | .look h b => [h, b]
 | .put b h => [b, h]
 | .set h v => [h, v]
 | .plus h g => [h, g]
 | .leap h k => [h, k]
 | .wait => []
theorem lh (d : fg) : d.u = .tup (.str d.w :: d.ns.map U.int) := by cases d <;> rfl
theorem gu (d : fg) : d.ns.length ≤ 2 := by cases d <;> simp [fg.ns]
theorem gM {n w : Int} {d : fg} (n1 : n ≤ 6) (w1 : w ≤ 1000) (ok : d.ok n w) : ∀ x ∈ d.ns, 0 ≤ x ∧ x < 1000 := by
 cases d <;> simp only [fg.ns, fg.ok, List.mem_cons, List.not_mem_nil, or_false, false_implies, implies_true] at ok ⊢ <;> (intro x hx; rcases hx with rfl | rfl <;> omega)
theorem x8 : decide ((Str.ofString "look") = (Str.ofString "try")) = false := by decide +kernel
theorem AV : decide ((Str.ofString "put") = (Str.ofString "try")) = false := by decide +kernel
theorem AU : decide ((Str.ofString "set") = (Str.ofString "try")) = false := by decide +kernel
theorem x6 : decide ((Str.ofString "plus") = (Str.ofString "try")) = false := by decide +kernel
theorem ya : decide ((Str.ofString "leap") = (Str.ofString "try")) = false := by decide +kernel
theorem x5 : decide ((Str.ofString "wait") = (Str.ofString "try")) = false := by decide +kernel
theorem iX (d : fg) : decide (d.w = (Str.ofString "try")) = false := match d with
 | .look _ _ => x8
 | .put _ _ => AV
 | .set _ _ => AU
 | .plus _ _ => x6
 | .leap _ _ => ya
 | .wait => x5
theorem pE (d : fg) (S : Sto) : fSl d.u (some 1) none S = some (.tup (d.ns.map U.int), S) := by cases d <;> rfl
section
variable {α : Type} {n w : Int} {f : α → U} {k : List α → Prop} {s : List α → Int} {wd : List α → List Str}
noncomputable def wdF (wd : List α → List Str) : List (DF α) → List Str
 | [] => []
 | .pl d :: r => d.w :: (d.ns.map gj ++ wdF wd r)
 | .tr a b :: r => "try" :: (wd a ++ (wd b ++ wdF wd r))
noncomputable def wdL (wd : List α → List Str) (ds : List (DF α)) : List Str := ("(" : Str) :: (wdF wd ds ++ [(")" : Str)])
noncomputable def HvT (fw : Fn) (f : α → U) (k : List α → Prop) (wd : List α → List Str) : Prop := ∀ (a : List α) (S : Sto), k a → (wd a).length ≤ 5000 → ∃ l G, fw [.tup (a.map f)] S = some (.ref l, S ++ G) ∧ (S ++ G)[l]? = some (.lst ((wd a).map U.str))
theorem qX {x : Int} (h : 0 ≤ x ∧ x < 1000) (S : Sto) : tq [.int x] S = some (.str (gj x), S) := by
 have hl : x.natAbs.log2 < 1920 := by
  refine Nat.lt_of_le_of_lt (Nat.log2_le_self _) ?_
  omega
 unfold tq; simp only
 rw [if_pos hl]; rfl
theorem mK {fw : Fn} {S : Sto} {D : Option U} {y : Str} {rr : List U} (hy : decide (y = (Str.ofString "try")) = false) : ∀ (xs : List Int) (us : List U) (G : Sto) (r3 : Option U), (∀ x ∈ xs, 0 ≤ x ∧ x < 1000) → us.length + xs.length ≤ 9000 →
  ∃ r3', eM (fun _ => True) (gNm 3) (bC fw) (xs.map U.int) [D, some (.ref S.length), some (.tup (.str y :: rr)), r3] (S ++ (.lst us :: G)) = some (.nx, [D, some (.ref S.length), some (.tup (.str y :: rr)), r3'], S ++ (.lst (us ++ (xs.map gj).map U.str) :: G))
 | [], us, G, r3, _, _ => ⟨r3, by simp only [List.map_nil, List.append_nil]; exact eX trivial⟩
 | x :: xs, us, G, r3, hx, hl => by
  rw [List.length_cons] at hl
  obtain ⟨r3', ih⟩ := mK hy xs (us ++ [.str (gj x)]) G (some (.int x)) (fun z hz => hx z (List.mem_cons_of_mem _ hz)) (by simp; omega)
  have hL : us.length < LIM := by unfold LIM; omega
  have e1 : ∀ S', tq [.int x] S' = some (.str (gj x), S') := qX (hx x List.mem_cons_self)
  refine ⟨r3', (bP trivial rfl (ρ1 := [D, some (.ref S.length), some (.tup (.str y :: rr)), some (.int x)]) (S1 := S ++ (.lst (us ++ [.str (gj x)]) :: G)) ?_).trans ?_⟩
  ·rwa [bC, hy, e1, eP hL]
  ·rw [ih, List.map_cons, List.map_cons, List.append_assoc]; rfl
theorem qP {fw : Fn} {S : Sto} {D : Option U} (Hw : HvT fw f k wd) (n1 : n ≤ 6) (w1 : w ≤ 1000) : ∀ (ds : List (DF α)) (us : List U) (G : Sto) (r2 r3 : Option U), (∀ d ∈ ds, d.ok n w k) → us.length + (wdF wd ds).length ≤ 5000 →
  ∃ r2' r3' G', eM (fun _ => True) (gNm 2) (dc fw) (ds.map (DF.u f)) [D, some (.ref S.length), r2, r3] (S ++ (.lst us :: G)) = some (.nx, [D, some (.ref S.length), r2', r3'], S ++ (.lst (us ++ (wdF wd ds).map U.str) :: G'))
 | [], us, G, r2, r3, _, _ => ⟨r2, r3, G, by simp only [List.map_nil, wdF, List.append_nil]; exact eX trivial⟩
 | .pl d :: ds, us, G, r2, r3, oa, hl => by
  have od : d.ok n w := oa _ List.mem_cons_self
  simp only [wdF, List.length_cons, List.length_append, List.length_map] at hl
  have hL : us.length < LIM := by unfold LIM; omega
  obtain ⟨q3, e2⟩ := mK (fw := fw) (S := S) (D := D) (y := d.w) (rr := d.ns.map U.int) (iX d) d.ns (us ++ [.str d.w]) G r3 (gM n1 w1 od) (by simp; omega)
  obtain ⟨r2', r3', G', ih⟩ := qP Hw n1 w1 ds (us ++ [.str d.w] ++ (d.ns.map gj).map U.str) G (some d.u) q3 (fun z hz => oa z (List.mem_cons_of_mem _ hz)) (by simp; omega)
  have hcut : ∀ S', cSl (aq 2) (some (cC (.int 1))) none [D, some (.ref S.length), some d.u, r3] S' = some (.tup (d.ns.map U.int), S') := fun S' => by
   have hv : aq 2 [D, some (.ref S.length), some d.u, r3] S' = some (d.u, S') := rfl
   simp only [cSl, sU, hv, cC, Option.bind_some, pE]
  have hfor : lT (iTp (cSl (aq 2) (some (cC (.int 1))) none)) (gNm 3) (bC fw) [D, some (.ref S.length), some d.u, r3] (S ++ (.lst (us ++ [.str d.w]) :: G)) = some (.nx, [D, some (.ref S.length), some d.u, q3], S ++ (.lst (us ++ [.str d.w] ++ (d.ns.map gj).map U.str) :: G)) := by
   unfold lT iTp
   rw [hcut, Option.bind_some]
   simp only [Option.bind_some]
   rw [lh]
   exact e2
  refine ⟨r2', r3', G', (bP trivial rfl (ρ1 := [D, some (.ref S.length), some d.u, q3]) (S1 := S ++ (.lst (us ++ [.str d.w] ++ (d.ns.map gj).map U.str) :: G)) ?_).trans ?_⟩
  ·show dc fw [D, some (.ref S.length), some d.u, r3] _ = _
   unfold dc
   rw [fG (ρ' := [D, some (.ref S.length), some d.u, r3]) (S' := S ++ (.lst (us ++ [.str d.w]) :: G)) (by rw [lh]; rwa [eP hL])]
   exact hfor
  ·rw [ih]; simp only [wdF, List.map_cons, List.map_append, List.append_assoc, List.cons_append, List.nil_append]
 | .tr a b :: ds, us, G, r2, r3, oa, hl => by
  obtain ⟨ka, kb⟩ : k a ∧ k b := oa _ List.mem_cons_self
  simp only [wdF, List.length_cons, List.length_append] at hl
  have hL : us.length < LIM := by unfold LIM; omega
  obtain ⟨l1, G1, e1, g1⟩ := Hw a (S ++ (.lst (us ++ [.str "try"]) :: G)) ka (by omega)
  rw [List.append_assoc, List.cons_append] at e1 g1
  obtain ⟨va, hva⟩ : ∃ va, va = us ++ [.str "try"] ++ (wd a).map U.str := ⟨_, rfl⟩
  have lva : va.length = us.length + 1 + (wd a).length := by rw [hva]; simp; omega
  have x1 : fD (.ref S.length) [.ref l1] (S ++ (.lst (us ++ [.str "try"]) :: (G ++ G1))) = some (.non, S ++ (.lst va :: (G ++ G1))) := by
   have hb : (us ++ [U.str "try"]).length + ((wd a).map U.str).length ≤ LIM := by unfold LIM; simp; omega
   simp only [fD, ga0, List.getElem?_cons_zero, g1]
   rw [if_pos hb, gs0, List.set_cons_zero, hva]
  obtain ⟨l2, G2, e2, g2⟩ := Hw b (S ++ (.lst va :: (G ++ G1))) kb (by omega)
  rw [List.append_assoc, List.cons_append, List.append_assoc] at e2 g2
  obtain ⟨vb, hvb⟩ : ∃ vb, vb = va ++ (wd b).map U.str := ⟨_, rfl⟩
  have x2 : fD (.ref S.length) [.ref l2] (S ++ (.lst va :: (G ++ (G1 ++ G2)))) = some (.non, S ++ (.lst vb :: (G ++ (G1 ++ G2)))) := by
   have hb : va.length + ((wd b).map U.str).length ≤ LIM := by unfold LIM; simp; omega
   simp only [fD, ga0, List.getElem?_cons_zero, g2]
   rw [if_pos hb, gs0, List.set_cons_zero, hvb]
  obtain ⟨r2', r3', G', ih⟩ := qP Hw n1 w1 ds vb (G ++ (G1 ++ G2)) (some (DF.u f (.tr a b))) (some (.tup (b.map f))) (fun z hz => oa z (List.mem_cons_of_mem _ hz)) (by rw [hvb]; simp; omega)
  obtain ⟨ua, hua⟩ : ∃ ua, ua = U.tup (a.map f) := ⟨_, rfl⟩
  obtain ⟨ub, hub⟩ : ∃ ub, ub = U.tup (b.map f) := ⟨_, rfl⟩
  have ed : DF.u f (.tr a b) = .tup [.str "try", ua, ub] := by rw [hua, hub]; rfl
  rw [← hua] at e1
  rw [← hub] at e2 ih
  rw [ed] at ih
  have hcut : ∀ S', cSl (aq 2) (some (cC (.int 1))) none [D, some (.ref S.length), some (.tup [.str "try", ua, ub]), r3] S' = some (.tup [ua, ub], S') := fun S' => rfl
  have b1 : bC fw [D, some (.ref S.length), some (.tup [.str "try", ua, ub]), some ua] (S ++ (.lst (us ++ [.str "try"]) :: G)) = some (.nx, [D, some (.ref S.length), some (.tup [.str "try", ua, ub]), some ua], S ++ (.lst va :: (G ++ G1))) := by
   rwa [bC, e1, x1]
  have b2 : bC fw [D, some (.ref S.length), some (.tup [.str "try", ua, ub]), some ub] (S ++ (.lst va :: (G ++ G1))) = some (.nx, [D, some (.ref S.length), some (.tup [.str "try", ua, ub]), some ub], S ++ (.lst vb :: (G ++ (G1 ++ G2)))) := by
   rwa [bC, e2, x2]
  have hfor : lT (iTp (cSl (aq 2) (some (cC (.int 1))) none)) (gNm 3) (bC fw) [D, some (.ref S.length), some (.tup [.str "try", ua, ub]), r3] (S ++ (.lst (us ++ [.str "try"]) :: G)) = some (.nx, [D, some (.ref S.length), some (.tup [.str "try", ua, ub]), some ub], S ++ (.lst vb :: (G ++ (G1 ++ G2)))) := by
   unfold lT iTp
   rw [hcut, Option.bind_some]
   simp only [Option.bind_some]
   exact (bP trivial rfl b1).trans ((bP trivial rfl b2).trans (eX trivial))
  refine ⟨r2', r3', G', (bP trivial rfl (ρ1 := [D, some (.ref S.length), some (.tup [.str "try", ua, ub]), some ub]) (S1 := S ++ (.lst vb :: (G ++ (G1 ++ G2)))) ?_).trans ?_⟩
  ·rw [ed]
   unfold dc
   rw [fG (ρ' := [D, some (.ref S.length), some (.tup [.str "try", ua, ub]), r3]) (S' := S ++ (.lst (us ++ [.str "try"]) :: G)) (by rwa [eP hL])]
   exact hfor
  ·rw [ih, hvb, hva]; simp only [wdF, List.map_cons, List.map_append, List.append_assoc, List.cons_append, List.nil_append]
noncomputable def lX (fw : Fn) : Fn := fnU 4 1 (eR fw)
theorem lu {fw : Fn} (Hw : HvT fw f k wd) (n1 : n ≤ 6) (w1 : w ≤ 1000) : HvT (lX fw) (DF.u f) (fun ds => ∀ d ∈ ds, DF.ok n w k d) (wdL wd) := fun ds S oa hl => by
 have hl' : (wdF wd ds).length + 2 ≤ 5000 := by unfold wdL at hl; simp at hl; omega
 obtain ⟨r2, r3, G, e⟩ := qP (S := S) (D := some (.tup (ds.map (DF.u f)))) Hw n1 w1 ds [.str "("] [] none none oa (by simp; omega)
 refine ⟨S.length, .lst ((wdL wd ds).map U.str) :: G, ?_, by rw [ga0]; rfl⟩
 unfold lX
 rw [qm]
 have hL : ([U.str "("] ++ (wdF wd ds).map U.str).length < LIM := by unfold LIM; simp; omega
 have em : (wdL wd ds).map U.str = [U.str "("] ++ (wdF wd ds).map U.str ++ [.str ")"] := by unfold wdL; rw [List.map_cons, List.map_append]; rfl
 have hfor : lT (iTp (aq 0)) (gNm 2) (dc fw) [some (.tup (ds.map (DF.u f))), some (.ref S.length), none, none] (S ++ [.lst [.str "("]]) = some (.nx, [some (.tup (ds.map (DF.u f))), some (.ref S.length), r2, r3], S ++ (.lst ([U.str "("] ++ (wdF wd ds).map U.str) :: G)) := e
 unfold eR
 rw [em]
 obtain ⟨us, hus⟩ : ∃ us, us = [U.str "("] ++ (wdF wd ds).map U.str := ⟨_, rfl⟩
 rw [← hus] at hL hfor ⊢
 rw [fG (ρ' := [some (.tup (ds.map (DF.u f))), some (.ref S.length), none, none]) (S' := S ++ [.lst [.str "("]]) (by obtain ⟨x, hx⟩ : ∃ x, x = U.tup (ds.map (DF.u f)) := ⟨_, rfl⟩; rw [← hx]; rwa []), fG hfor]
 obtain ⟨x, hx⟩ : ∃ x, x = U.tup (ds.map (DF.u f)) := ⟨_, rfl⟩
 rw [← hx]
 rwa [eP hL]
end
section
variable {α : Type} {n w : Int} {f : α → U} {k : List α → Prop} {s : List α → Int} {wd : List α → List Str}
theorem gN {S : Sto} {l m : Nat} {a b : List U} (h1 : S[l]? = some (.lst a)) (h2 : S[m]? = some (.lst b)) (h : a.length + b.length ≤ 9000) : fN (.ref l) (.ref m) S = some (.ref S.length, S ++ [.lst (a ++ b)]) := by
 have hz : a.length + b.length ≤ LIM := by unfold LIM; omega
 simp only [fN, lO, h1, h2]
 rw [if_pos hz]
theorem om {fw : Fn} {D : Option U} (Hw : HvT fw f k wd) (n1 : n ≤ 6) (w1 : w ≤ 1000) : ∀ (ds : List (DF α)) (us : List U) (T : Sto) (l : Nat) (r2 : Option U), T[l]? = some (.lst us) → (∀ d ∈ ds, d.ok n w k) → us.length + (wdF wd ds).length ≤ 5000 →
  ∃ l' G r2', eM (fun _ => True) (gNm 2) (bY fw) (ds.map (DF.u f)) [D, some (.ref l), r2] T = some (.nx, [D, some (.ref l'), r2'], T ++ G) ∧ (T ++ G)[l']? = some (.lst (us ++ (wdF wd ds).map U.str))
 | [], us, T, l, r2, h, _, _ => ⟨l, [], r2, by rw [List.append_nil]; exact eX trivial, by rw [List.append_nil]; simp only [wdF, List.map_nil, List.append_nil]; exact h⟩
 | .pl d :: ds, us, T, l, r2, h, oa, hl => by
  have od : d.ok n w := oa _ List.mem_cons_self
  simp only [wdF, List.length_cons, List.length_append, List.length_map] at hl
  have c1 := gN (S := T ++ [.lst [.str d.w]]) (l := l) (m := T.length) (fB h) (by rw [ga0]; rfl) (by simp; omega)
  obtain ⟨T2, hT2⟩ : ∃ T2, T2 = T ++ [.lst [.str d.w]] ++ [.lst (us ++ [.str d.w])] := ⟨_, rfl⟩
  rw [← hT2] at c1
  have l1 : (T ++ [O.lst [.str d.w]]).length = T.length + 1 := by rw [List.length_append]; rfl
  rw [l1] at c1
  have e1 := jS (S := T2) (ok := fun _ => True) (gg := gNm 0) (ce := cCB tq (ah (aq 0) aI)) (f := U.int) (v := fun x : Int => U.str (gj x)) (Rel := fun ρ => ∃ r0, ρ = [r0]) (fun _ _ => trivial) d.ns [] [] [none] ⟨_, rfl⟩ (by have := gu d; simp; omega) (fun x hx ys G ρ hρ => by
   obtain ⟨r0, rfl⟩ := hρ
   refine ⟨[some (.int x)], ⟨_, rfl⟩, rfl, ?_⟩
   have h1 : ∀ S', tq [.int x] S' = some (.str (gj x), S') := qX (gM n1 w1 od x hx)
   rwa [h1])
  simp only [List.nil_append] at e1
  have hcut : cSl (aq 2) (some (cC (.int 1))) none [D, some (.ref l), some d.u] T2 = some (.tup (d.ns.map U.int), T2) := by
   have hv : aq 2 [D, some (.ref l), some d.u] T2 = some (d.u, T2) := rfl
   simp only [cSl, sU, hv, cC, Option.bind_some, pE]
  have hcomp : kJ (iTp (cSl (aq 2) (some (cC (.int 1))) none)) (gNm 0) (cCB tq (ah (aq 0) aI)) 1 [] [D, some (.ref l), some d.u] T2 = some (.ref T2.length, T2 ++ [.lst (d.ns.map fun x => .str (gj x))]) := by
   unfold kJ iTp
   rw [hcut, Option.bind_some]
   simp only [Option.bind_some, uj, List.replicate, List.map_nil, List.append_nil, e1]
  have g2 : (T2 ++ [O.lst (d.ns.map fun x => .str (gj x))])[T.length + 1]? = some (.lst (us ++ [.str d.w])) := fB (by rw [hT2, ← l1, ga0]; rfl)
  have c2 := gN (S := T2 ++ [.lst (d.ns.map fun x => .str (gj x))]) (l := T.length + 1) (m := T2.length) g2 (by rw [ga0]; rfl) (by have := gu d; simp; omega)
  obtain ⟨T4, hT4⟩ : ∃ T4, T4 = T2 ++ [.lst (d.ns.map fun x => .str (gj x))] ++ [.lst (us ++ [.str d.w] ++ d.ns.map fun x => .str (gj x))] := ⟨_, rfl⟩
  rw [← hT4] at c2
  obtain ⟨l', G, r2', ih, g'⟩ := om Hw n1 w1 ds (us ++ [.str d.w] ++ d.ns.map fun x => .str (gj x)) T4 _ (some d.u) (by rw [hT4, ga0]; rfl) (fun z hz => oa z (List.mem_cons_of_mem _ hz)) (by simp; omega)
  have e4 : T4 ++ G = T ++ ([.lst [.str d.w], .lst (us ++ [.str d.w]), .lst (d.ns.map fun x => .str (gj x)), .lst (us ++ [.str d.w] ++ d.ns.map fun x => .str (gj x))] ++ G) := by rw [hT4, hT2]; simp only [List.append_assoc, List.cons_append, List.nil_append]
  rw [e4] at ih g'
  refine ⟨l', _, r2', (bP trivial rfl (ρ1 := [D, some (.ref (T2 ++ [O.lst (d.ns.map fun x => .str (gj x))]).length), some d.u]) (S1 := T4) ?_).trans ih, ?_⟩
  ·show bY fw [D, some (.ref l), some d.u] _ = _
   have ht : aM (cOp fEq (cOp fIx (aq 2) (cC (.int 0))) (cC (.str "try"))) [D, some (.ref l), some d.u] T = some (false, T) := by
    rw [lh]
    have := iX d
    rwa [this]
   have hh : cOp fIx (aq 2) (cC (.int 0)) [D, some (.ref l), some d.u] T = some (.str d.w, T) := by
    rw [lh]
    rwa []
   obtain ⟨du, hdu⟩ : ∃ du, du = d.u := ⟨_, rfl⟩
   obtain ⟨nm, hnm⟩ : ∃ nm, nm = O.lst (d.ns.map fun x => .str (gj x)) := ⟨_, rfl⟩
   rw [← hdu] at ht hh hcomp ⊢
   rw [← hnm] at hcomp c2 ⊢
   unfold bY
   rw [zj, ht, Option.bind_some, vz, wq, B5, B5, show aq 1 [D, some (.ref l), some du] T = some (.ref l, T) from rfl, Option.bind_some, wx, za, ml, hh, Option.bind_some, iW, qA, Option.bind_some, iV, Option.bind_some, vy, Option.bind_some, wu, c1, Option.bind_some, wx, hcomp, Option.bind_some, wu, c2, Option.bind_some, qz]
   rfl
  ·rw [g']; simp only [wdF, List.map_cons, List.map_append, List.map_map, List.append_assoc, List.cons_append, List.nil_append]; rfl
 | .tr a b :: ds, us, T, l, r2, h, oa, hl => by
  obtain ⟨ka, kb⟩ : k a ∧ k b := oa _ List.mem_cons_self
  simp only [wdF, List.length_cons, List.length_append] at hl
  have c1 := gN (S := T ++ [.lst [.str "try"]]) (l := l) (m := T.length) (fB h) (by rw [ga0]; rfl) (by simp; omega)
  obtain ⟨T2, hT2⟩ : ∃ T2, T2 = T ++ [.lst [.str "try"]] ++ [.lst (us ++ [.str "try"])] := ⟨_, rfl⟩
  rw [← hT2] at c1
  have l1 : (T ++ [O.lst [.str "try"]]).length = T.length + 1 := by rw [List.length_append]; rfl
  rw [l1] at c1
  have g2 : T2[T.length + 1]? = some (.lst (us ++ [.str "try"])) := by rw [hT2, ← l1, ga0]; rfl
  obtain ⟨la, G1, e1, g1⟩ := Hw a T2 ka (by omega)
  have c2 := gN (S := T2 ++ G1) (l := T.length + 1) (m := la) (fB g2) g1 (by simp; omega)
  obtain ⟨T3, hT3⟩ : ∃ T3, T3 = T2 ++ G1 := ⟨_, rfl⟩
  rw [← hT3] at e1 c2
  obtain ⟨T4, hT4⟩ : ∃ T4, T4 = T3 ++ [.lst (us ++ [.str "try"] ++ (wd a).map U.str)] := ⟨_, rfl⟩
  rw [← hT4] at c2
  have g4 : T4[T3.length]? = some (.lst (us ++ [.str "try"] ++ (wd a).map U.str)) := by rw [hT4, ga0]; rfl
  obtain ⟨lb, G2, e2, g3⟩ := Hw b T4 kb (by omega)
  have c3 := gN (S := T4 ++ G2) (l := T3.length) (m := lb) (fB g4) g3 (by simp; omega)
  obtain ⟨T5, hT5⟩ : ∃ T5, T5 = T4 ++ G2 := ⟨_, rfl⟩
  rw [← hT5] at e2 c3
  obtain ⟨T6, hT6⟩ : ∃ T6, T6 = T5 ++ [.lst (us ++ [.str "try"] ++ (wd a).map U.str ++ (wd b).map U.str)] := ⟨_, rfl⟩
  rw [← hT6] at c3
  obtain ⟨l', G, r2', ih, g'⟩ := om Hw n1 w1 ds (us ++ [.str "try"] ++ (wd a).map U.str ++ (wd b).map U.str) T6 T5.length (some (DF.u f (.tr a b))) (by rw [hT6, ga0]; rfl) (fun z hz => oa z (List.mem_cons_of_mem _ hz)) (by simp; omega)
  obtain ⟨ua, hua⟩ : ∃ ua, ua = U.tup (a.map f) := ⟨_, rfl⟩
  obtain ⟨ub, hub⟩ : ∃ ub, ub = U.tup (b.map f) := ⟨_, rfl⟩
  have ed : DF.u f (.tr a b) = .tup [.str "try", ua, ub] := by rw [hua, hub]; rfl
  rw [← hua] at e1
  rw [← hub] at e2
  have e4 : T6 ++ G = T ++ ([.lst [.str "try"], .lst (us ++ [.str "try"])] ++ G1 ++ [.lst (us ++ [.str "try"] ++ (wd a).map U.str)] ++ G2 ++ [.lst (us ++ [.str "try"] ++ (wd a).map U.str ++ (wd b).map U.str)] ++ G) := by rw [hT6, hT5, hT4, hT3, hT2]; simp only [List.append_assoc, List.cons_append, List.nil_append]
  rw [e4] at ih g'
  refine ⟨l', _, r2', (bP trivial rfl (ρ1 := [D, some (.ref T5.length), some (DF.u f (.tr a b))]) (S1 := T6) ?_).trans ih, ?_⟩
  ·rw [ed]
   rwa [bY, c1, e1, c2, e2, c3]
  ·rw [g']; simp only [wdF, List.map_cons, List.map_append, List.append_assoc, List.cons_append, List.nil_append]
noncomputable def iS (fw : Fn) : Fn := fnU 3 1 (dQ fw)
theorem jE {fw : Fn} (Hw : HvT fw f k wd) (n1 : n ≤ 6) (w1 : w ≤ 1000) : HvT (iS fw) (DF.u f) (fun ds => ∀ d ∈ ds, DF.ok n w k d) (wdL wd) := fun ds S oa hl => by
 have hl' : (wdF wd ds).length + 2 ≤ 5000 := by unfold wdL at hl; simp at hl; omega
 obtain ⟨l, G, r2, e, g⟩ := om (D := some (.tup (ds.map (DF.u f)))) Hw n1 w1 ds [.str "("] (S ++ [.lst [.str "("]]) S.length none (by rw [ga0]; rfl) oa (by simp; omega)
 have c1 := gN (S := S ++ [.lst [.str "("]] ++ G ++ [.lst [.str ")"]]) (l := l) (m := (S ++ [O.lst [.str "("]] ++ G).length) (fB g) (by rw [ga0]; rfl) (by simp; omega)
 have em : (wdL wd ds).map U.str = [U.str "("] ++ (wdF wd ds).map U.str ++ [.str ")"] := by unfold wdL; rw [List.map_cons, List.map_append]; rfl
 refine ⟨(S ++ [O.lst [.str "("]] ++ G ++ [O.lst [.str ")"]]).length, [O.lst [.str "("]] ++ G ++ [O.lst [.str ")"]] ++ [O.lst ((wdL wd ds).map U.str)], ?_, ?_⟩
 ·unfold iS
  rw [m7, em]
  have hfor : lT (iTp (aq 0)) (gNm 2) (bY fw) [some (.tup (ds.map (DF.u f))), some (.ref S.length), none] (S ++ [.lst [.str "("]]) = some (.nx, [some (.tup (ds.map (DF.u f))), some (.ref l), r2], S ++ [.lst [.str "("]] ++ G) := e
  obtain ⟨x, hx⟩ : ∃ x, x = U.tup (ds.map (DF.u f)) := ⟨_, rfl⟩
  obtain ⟨Y, hY⟩ : ∃ Y, Y = S ++ [O.lst [.str "("]] ++ G := ⟨_, rfl⟩
  rw [← hx] at hfor ⊢
  rw [← hY] at hfor c1
  unfold dQ
  rw [fG (ρ' := [some x, some (.ref S.length), none]) (S' := S ++ [.lst [.str "("]]) (by rwa []), fG hfor]
  rw [← List.append_assoc S, ← List.append_assoc S, ← List.append_assoc S, ← hY]
  obtain ⟨Z, hZ⟩ : ∃ Z, Z = Y ++ [O.lst [.str ")"]] ++ [.lst ([U.str "("] ++ (wdF wd ds).map U.str ++ [.str ")"])] := ⟨_, rfl⟩
  rw [← hZ] at c1 ⊢
  rwa [c1]
 ·rw [← List.append_assoc S, ← List.append_assoc S, ← List.append_assoc S, ga0]; rfl
end
noncomputable def OkM (n w : Int) : (j : Nat) → List (Dl j) → Prop
 | 0, ds => ds.length ≤ 12 ∧ ∀ d ∈ ds, DF.ok n w (fun _ => False) d
 | j + 1, ds => ds.length ≤ 12 ∧ ∀ d ∈ ds, DF.ok n w (OkM n w j) d
noncomputable def wdD : (j : Nat) → List (Dl j) → List Str
 | 0, ds => wdL (fun _ => []) ds
 | j + 1, ds => wdL (wdD j) ds
noncomputable def iA : Nat → Fn
 | 0 => lX fun _ _ => none
 | j + 1 => lX (iA j)
noncomputable def LwJ : Nat → Fn
 | 0 => iS fun _ _ => none
 | j + 1 => iS (LwJ j)
section
variable {n w : Int}
theorem my (n1 : n ≤ 6) (w1 : w ≤ 1000) : ∀ J j : Nat, j ≤ J → HvT (iA J) (Dl.u j) (OkM n w j) (wdD j)
 | 0, 0, _ => fun a S ka hl => lu (n := n) (w := w) (k := fun _ => False) (fun _ _ z => z.elim) n1 w1 a S ka.2 hl
 | J + 1, 0, _ => fun a S ka hl => lu (n := n) (w := w) (k := fun _ => False) (fun _ _ z => z.elim) n1 w1 a S ka.2 hl
 | J + 1, j + 1, h => fun a S ka hl => lu (n := n) (w := w) (my n1 w1 J j (by omega)) n1 w1 a S ka.2 hl
theorem vR (n1 : n ≤ 6) (w1 : w ≤ 1000) : ∀ J j : Nat, j ≤ J → HvT (LwJ J) (Dl.u j) (OkM n w j) (wdD j)
 | 0, 0, _ => fun a S ka hl => jE (n := n) (w := w) (k := fun _ => False) (fun _ _ z => z.elim) n1 w1 a S ka.2 hl
 | J + 1, 0, _ => fun a S ka hl => jE (n := n) (w := w) (k := fun _ => False) (fun _ _ z => z.elim) n1 w1 a S ka.2 hl
 | J + 1, j + 1, h => fun a S ka hl => jE (n := n) (w := w) (vR n1 w1 J j (by omega)) n1 w1 a S ka.2 hl
theorem lF : ∀ J j : Nat, j ≤ J → HsT (qr J) (Dl.u j) (OkM n w j) (jt j)
 | 0, 0, _ => fun a S ka => nQ (n := n) (w := w) (k := fun _ => False) (fun _ _ z => z.elim) a S ka.2
 | J + 1, 0, _ => fun a S ka => nQ (n := n) (w := w) (k := fun _ => False) (fun _ _ z => z.elim) a S ka.2
 | J + 1, j + 1, h => fun a S ka => nQ (n := n) (w := w) (lF J j (by omega)) a S ka.2
theorem HdT.twelve {α : Type} {t : Int} {fd : Fn} {f : α → U} {q : α → Prop} {s : List α → Int} (h : HdT n w t fd f (fun ds => ds.length ≤ 30 ∧ ∀ d ∈ ds, q d) s) : HdT n w t fd f (fun ds => ds.length ≤ 12 ∧ ∀ d ∈ ds, q d) s := fun ns T a c room ha hc r0 r1 => by
 obtain ⟨ds, a', c', G, e, k1, k2, k3, k4, k5, k6⟩ := h ns T a c room ha hc r0 r1
 exact ⟨ds, a', c', G, e, ⟨k6, k1.2⟩, k2, k3, k4, k5, k6⟩
theorem pF (n0 : 1 ≤ n) (n1 : n ≤ 6) (w0 : 2 ≤ w) (w1 : w ≤ 1000) : ∀ (J j t : Nat), t ≤ j → j ≤ J → HdT n w t (nJ J) (Dl.u j) (OkM n w j) (jt j)
 | 0, 0, 0, _, _ => (iQ (k := fun _ => False) (fun _ _ z => z.elim) (fun z => absurd rfl z) n0 n1 w0 w1).twelve
 | J + 1, 0, 0, _, _ => (iQ (k := fun _ => False) (fun _ _ z => z.elim) (fun z => absurd rfl z) n0 n1 w0 w1).twelve
 | J + 1, j + 1, 0, _, h => (iQ (lF J j (by omega)) (fun z => absurd rfl z) n0 n1 w0 w1).twelve
 | J + 1, j + 1, t + 1, h, h' => (iQ (lF J j (by omega)) (fun _ => by
   have e : ((t + 1 : Nat) : Int) - 1 = (t : Int) := by omega
   rw [e]; exact pF n0 n1 w0 w1 J j t (by omega) (by omega)) n0 n1 w0 w1).twelve
theorem nM {α : Type} {k : List α → Prop} {s : List α → Int} {wd : List α → List Str} (h : ∀ a, k a → ((wd a).length : Int) ≤ 5 * s a + 2) : ∀ ds : List (DF α), (∀ d ∈ ds, d.ok n w k) → ((wdF wd ds).length : Int) ≤ 5 * szF s ds
 | [], _ => by simp [wdF, szF]
 | .pl d :: r, oa => by
  have ih := nM h r fun z hz => oa z (List.mem_cons_of_mem _ hz)
  have := gu d
  simp only [wdF, szF, List.length_cons, List.length_append, List.length_map]
  omega
 | .tr a b :: r, oa => by
  have ih := nM h r fun z hz => oa z (List.mem_cons_of_mem _ hz)
  obtain ⟨ka, kb⟩ : k a ∧ k b := oa _ List.mem_cons_self
  have h1 := h a ka
  have h2 := h b kb
  simp only [wdF, szF, List.length_cons, List.length_append]
  omega
theorem qN {α : Type} {wd : List α → List Str} (ds : List (DF α)) : (wdL wd ds).length = (wdF wd ds).length + 2 := by unfold wdL; simp
theorem vB {α : Type} {k : List α → Prop} {s : List α → Int} {wd : List α → List Str} (h : ∀ a, k a → ((wd a).length : Int) ≤ 5 * s a + 2) (ds : List (DF α)) (oa : ∀ d ∈ ds, d.ok n w k) : ((wdL wd ds).length : Int) ≤ 5 * szF s ds + 2 := by
 have := nM h ds oa
 rw [qN]; omega
theorem qO : ∀ (j : Nat) (ds : List (Dl j)), OkM n w j ds → ((wdD j ds).length : Int) ≤ 5 * jt j ds + 2
 | 0, ds, ok => vB (n := n) (w := w) (k := fun _ => False) (s := fun _ => 0) (wd := fun _ => []) (fun _ z => z.elim) ds ok.2
 | j + 1, ds, ok => vB (n := n) (w := w) (qO j) ds ok.2
noncomputable def WOk (y : Str) : Prop := y.length ≤ 4 ∧ 32 ∉ y.cps.toList
instance (y : Str) : Decidable (WOk y) := by unfold WOk; infer_instance
theorem x4 {x : Int} (h : 0 ≤ x ∧ x < 1000) : WOk (gj x) := by
 obtain ⟨d1, d2, d3, d4⟩ := sF x.toNat (by omega)
 rw [← rM h.1] at d1 d3
 exact ⟨by rw [kX]; omega, fun z => by have := d3 32 z; omega⟩
theorem xj : WOk (Str.ofString "look") := by decide +kernel
theorem zF : WOk (Str.ofString "put") := by decide +kernel
theorem zE : WOk (Str.ofString "set") := by decide +kernel
theorem xi : WOk (Str.ofString "plus") := by decide +kernel
theorem xk : WOk (Str.ofString "leap") := by decide +kernel
theorem xh : WOk (Str.ofString "wait") := by decide +kernel
theorem zD : WOk (Str.ofString "try") := by decide +kernel
theorem CY : WOk (Str.ofString "(") := by decide +kernel
theorem CZ : WOk (Str.ofString ")") := by decide +kernel
theorem xl (d : fg) : WOk d.w := match d with
 | .look _ _ => xj
 | .put _ _ => zF
 | .set _ _ => zE
 | .plus _ _ => xi
 | .leap _ _ => xk
 | .wait => xh
theorem ly {α : Type} {k : List α → Prop} {wd : List α → List Str} (n1 : n ≤ 6) (w1 : w ≤ 1000) (h : ∀ a, k a → ∀ y ∈ wd a, WOk y) : ∀ ds : List (DF α), (∀ d ∈ ds, d.ok n w k) → ∀ y ∈ wdF wd ds, WOk y
 | [], _, y, hy => by cases hy
 | .pl d :: r, oa, y, hy => by
  have od : d.ok n w := oa _ List.mem_cons_self
  simp only [wdF, List.mem_cons, List.mem_append] at hy
  rcases hy with rfl | hy | hy
  ·exact xl d
  ·obtain ⟨x, hx, rfl⟩ := List.mem_map.mp hy
   exact x4 (gM n1 w1 od x hx)
  ·exact ly n1 w1 h r (fun z hz => oa z (List.mem_cons_of_mem _ hz)) y hy
 | .tr a b :: r, oa, y, hy => by
  obtain ⟨ka, kb⟩ : k a ∧ k b := oa _ List.mem_cons_self
  simp only [wdF, List.mem_cons, List.mem_append] at hy
  rcases hy with rfl | hy | hy | hy
  ·exact zD
  ·exact h a ka y hy
  ·exact h b kb y hy
  ·exact ly n1 w1 h r (fun z hz => oa z (List.mem_cons_of_mem _ hz)) y hy
theorem qM {α : Type} {wd : List α → List Str} {ds : List (DF α)} (h : ∀ y ∈ wdF wd ds, WOk y) : ∀ y ∈ wdL wd ds, WOk y := fun y hy => by
 unfold wdL at hy
 simp only [List.mem_cons, List.mem_append, List.not_mem_nil, or_false] at hy
 rcases hy with rfl | hy | rfl
 ·exact CY
 ·exact h y hy
 ·exact CZ
theorem nN (n1 : n ≤ 6) (w1 : w ≤ 1000) : ∀ (j : Nat) (ds : List (Dl j)), OkM n w j ds → ∀ y ∈ wdD j ds, WOk y
 | 0, ds, ok => qM (ly (n := n) (w := w) (k := fun _ => False) n1 w1 (fun _ z => z.elim) ds ok.2)
 | j + 1, ds, ok => qM (ly (n := n) (w := w) n1 w1 (nN n1 w1 j) ds ok.2)
end
structure Kq (X : Nat → Prop) (T T' : Sto) : Prop where
 len : T.length ≤ T'.length
 keep : ∀ j, j < T.length → ¬ X j → T'[j]? = T[j]?
section
variable {X Y : Nat → Prop} {T T1 T2 : Sto} {j r : Nat} {o : O}
theorem Kq.refl : Kq X T T := ⟨Nat.le_refl _, fun _ _ _ => rfl⟩
theorem Kq.trans (a : Kq X T T1) (b : Kq X T1 T2) : Kq X T T2 := ⟨Nat.le_trans a.len b.len, fun j h n => by rw [b.keep j (Nat.lt_of_lt_of_le h a.len) n, a.keep j h n]⟩
theorem Kq.app (G : Sto) : Kq X T (T ++ G) := ⟨by simp, fun j h _ => List.getElem?_append_left h⟩
theorem Kq.set (h : X j) : Kq X T (T.set j o) := ⟨by simp, fun i _ n => List.getElem?_set_ne fun e => n (by rw [← e]; exact h)⟩
theorem Kq.get (a : Kq X T T1) (h : T[j]? = some o) (n : ¬ X j) : T1[j]? = some o := by rw [a.keep j (List.getElem?_eq_some_iff.mp h).1 n]; exact h
theorem Kq.imp (a : Kq X T T1) (h : ∀ j, j < T.length → X j → Y j) : Kq Y T T1 := ⟨a.len, fun j hj n => a.keep j hj fun x => n (h j hj x)⟩
end
noncomputable def Wa (ws : List Str) (p : Nat) (xs : List Str) : Prop := ∃ rest, ws.drop p = xs ++ rest
section
variable {ws xs ys : List Str} {p : Nat} {x : Str}
theorem Wa.head (h : Wa ws p (x :: xs)) : ws[p]? = some x := by
 obtain ⟨rest, e⟩ := h
 have : (ws.drop p)[0]? = some x := by rw [e]; rfl
 rw [List.getElem?_drop] at this
 exact this
theorem Wa.tail (h : Wa ws p (x :: xs)) : Wa ws (p + 1) xs := by
 obtain ⟨rest, e⟩ := h
 refine ⟨rest, ?_⟩
 rw [← List.drop_drop, e]; rfl
theorem Wa.left (h : Wa ws p (xs ++ ys)) : Wa ws p xs := by
 obtain ⟨rest, e⟩ := h
 exact ⟨ys ++ rest, by rw [e, List.append_assoc]⟩
theorem Wa.right (h : Wa ws p (xs ++ ys)) : Wa ws (p + xs.length) ys := by
 obtain ⟨rest, e⟩ := h
 refine ⟨rest, ?_⟩
 rw [← List.drop_drop, e, List.append_assoc, List.drop_left]
end
noncomputable def gx (cR : Cl) (n w : Int) (lw : Nat) (p : Nat) (m : Int) : O := .ins cR [some (.tup [.int n, .int w]), some (.ref lw), some (.int p), some (.int m)]
structure Rs (cR : Cl) (n w : Int) (ws : List Str) (r lw p : Nat) (m : Int) (T : Sto) : Prop where
 rd : T[r]? = some (gx cR n w lw p m)
 wd : T[lw]? = some (.lst (ws.map U.str))
 ne : lw ≠ r
noncomputable def iB (cR : Cl) : Fn := fnU 1 1 (dh cR)
noncomputable def fb : Fn := fnU 2 2 cP
noncomputable def iD (cR : Cl) : Fn := fnU 1 1 (cN cR)
noncomputable def nv (cR : Cl) : Fn := fnU 3 2 (bq lY (iB cR) fb (iD cR) cR)
noncomputable def iT : Fn := fnU 3 2 aS
noncomputable def dR (cR : Cl) (fr : Fn) : Fn := fnU 4 2 (bM fb (iD cR) fr cR)
noncomputable def dC (cR : Cl) (ft : Fn) : Fn := fnU 6 2 (bp iT (iB cR) ft fb (iD cR) (nv cR) cR)
noncomputable def pM (cR : Cl) (fd : Fn) : Fn := fnU 3 2 (bN fb (iB cR) (iD cR) fd cR 100)
section
variable {cR : Cl} {n w lo hi x t m : Int} {ws : List Str} {r lw p L : Nat} {T T' : Sto} {y : Str}
theorem Rs.at (R : Rs cR n w ws r lw p m T) {p' : Nat} {m' : Int} (h : T'[r]? = some (gx cR n w lw p' m')) (k : Kq (· = r) T T') : Rs cR n w ws r lw p' m' T' := ⟨h, k.get R.wd R.ne, R.ne⟩
theorem Rs.go (R : Rs cR n w ws r lw p m T) (p' : Nat) (m' : Int) : Rs cR n w ws r lw p' m' (T.set r (gx cR n w lw p' m')) :=
 R.at (by rw [List.getElem?_set, if_pos rfl, if_pos (List.getElem?_eq_some_iff.mp R.rd).1]) (.set rfl)
theorem Rs.app (R : Rs cR n w ws r lw p m T) (G : Sto) : Rs cR n w ws r lw p m (T ++ G) := ⟨fB R.rd, fB R.wd, R.ne⟩
theorem gz (R : Rs cR n w ws r lw p m T) (h : ws[p]? = some y) : iB cR [.ref r] T = some (.str y, T) := by
 have t0 := R.rd
 have t1 := R.wd
 unfold gx at t0
 have hp : p < ws.length := (List.getElem?_eq_some_iff.mp h).1
 have d1 : decide ((p : Int) < ((ws.map U.str).length : Int)) = true := decide_eq_true (by rw [List.length_map]; omega)
 have a1 : atI (ws.map U.str) p = some (.str y) := gO (by rw [List.getElem?_map, h]; rfl)
 obtain ⟨us, hus⟩ : ∃ us, us = ws.map U.str := ⟨_, rfl⟩
 rw [← hus] at t1 d1 a1
 unfold iB
 rw [lQ]
 rwa [dh, t0, t1, d1, a1]
theorem gD {u : U} : fb [u, .bl true] T = some (.non, T) := by
 unfold fb
 rw [kI]
 rwa [cP]
theorem jN (R : Rs cR n w ws r lw p m T) : iD cR [.ref r] T = some (.non, T.set r (gx cR n w lw (p + 1) m)) := by
 have t0 := R.rd
 unfold gx at t0 ⊢
 have e : ((p + 1 : Nat) : Int) = (p : Int) + 1 := by omega
 rw [e]
 unfold iD
 rw [kH]
 rwa [cN, t0]
theorem xv (R : Rs cR n w ws r lw p m T) (h : ws[p]? = some (gj x)) (x0 : 0 ≤ x) (x1 : x < 1000) (h1 : lo ≤ x) (h2 : x ≤ hi) : ∃ T', nv cR [.ref r, .tup [.int lo, .int hi]] T = some (.int x, T') ∧ Rs cR n w ws r lw (p + 1) m T' ∧ Kq (· = r) T T' := by
 have ew := gz R h
 obtain ⟨G, en⟩ := rL x0 x1 T
 have R1 := R.app G
 have eg := jN R1
 have t0 := R.rd
 have t1 := R1.rd
 unfold gx at t0 t1
 have d1 : decide (lo ≤ x) = true := decide_eq_true h1
 have d2 : decide (x ≤ hi) = true := decide_eq_true h2
 have hn : ∀ S', qi (.int x) .non S' = some (.bl true, S') := fun _ => rfl
 have hch : ni fLe fLe (cOp fIx (aq 1) (cC (.int 0))) (aq 2) (cOp fIx (aq 1) (cC (.int 1))) [some (.ref r), some (.tup [.int lo, .int hi]), some (.int x)] (T ++ G) = some (.bl true, T ++ G) := by
  have k1 : cOp fIx (aq 1) (cC (.int 0)) [some (.ref r), some (.tup [.int lo, .int hi]), some (.int x)] (T ++ G) = some (.int lo, T ++ G) := rfl
  have k2 : cOp fIx (aq 1) (cC (.int 1)) [some (.ref r), some (.tup [.int lo, .int hi]), some (.int x)] (T ++ G) = some (.int hi, T ++ G) := rfl
  have k3 : aq 2 [some (.ref r), some (.tup [.int lo, .int hi]), some (.int x)] (T ++ G) = some (.int x, T ++ G) := rfl
  simp only [ni, k1, k2, k3, Option.bind_some, DY, d1, d2]
 refine ⟨_, ?_, R1.go (p + 1) m, (Kq.app G).trans (.set rfl)⟩
 unfold nv
 rw [fO]
 unfold bq
 rw [fG (ρ' := [some (.ref r), some (.tup [.int lo, .int hi]), some (.int x)]) (S' := T ++ G) (by rwa [t0, ew, en])]
 obtain ⟨Y, hY⟩ : ∃ Y, Y = T ++ G := ⟨_, rfl⟩
 rw [← hY] at t1 eg hch ⊢
 rw [fG (ρ' := [some (.ref r), some (.tup [.int lo, .int hi]), some (.int x)]) (S' := Y) (by rwa [t1, hn, hch, gD])]
 rw [fG (ρ' := [some (.ref r), some (.tup [.int lo, .int hi]), some (.int x)]) (S' := Y.set r (gx cR n w lw (p + 1) m)) (by rwa [t1, eg])]
 rwa []
theorem n5 : decide ((Str.ofString "put") = (Str.ofString "look")) = false := by decide +kernel
theorem nZ : decide ((Str.ofString "set") = (Str.ofString "look")) = false := by decide +kernel
theorem p8 : decide ((Str.ofString "set") = (Str.ofString "put")) = false := by decide +kernel
theorem mS : decide ((Str.ofString "plus") = (Str.ofString "look")) = false := by decide +kernel
theorem n8 : decide ((Str.ofString "plus") = (Str.ofString "put")) = false := by decide +kernel
theorem n6 : decide ((Str.ofString "plus") = (Str.ofString "set")) = false := by decide +kernel
theorem mU : decide ((Str.ofString "leap") = (Str.ofString "look")) = false := by decide +kernel
theorem og : decide ((Str.ofString "leap") = (Str.ofString "put")) = false := by decide +kernel
theorem n9 : decide ((Str.ofString "leap") = (Str.ofString "set")) = false := by decide +kernel
theorem mT : decide ((Str.ofString "leap") = (Str.ofString "plus")) = false := by decide +kernel
theorem mQ : decide ((Str.ofString "wait") = (Str.ofString "look")) = false := by decide +kernel
theorem nY : decide ((Str.ofString "wait") = (Str.ofString "put")) = false := by decide +kernel
theorem nX : decide ((Str.ofString "wait") = (Str.ofString "set")) = false := by decide +kernel
theorem mP : decide ((Str.ofString "wait") = (Str.ofString "plus")) = false := by decide +kernel
theorem mR : decide ((Str.ofString "wait") = (Str.ofString "leap")) = false := by decide +kernel
theorem ye : decide ((Str.ofString "look") = (Str.ofString ")")) = false := by decide +kernel
theorem AY : decide ((Str.ofString "put") = (Str.ofString ")")) = false := by decide +kernel
theorem AX : decide ((Str.ofString "set") = (Str.ofString ")")) = false := by decide +kernel
theorem yd : decide ((Str.ofString "plus") = (Str.ofString ")")) = false := by decide +kernel
theorem yf : decide ((Str.ofString "leap") = (Str.ofString ")")) = false := by decide +kernel
theorem yc : decide ((Str.ofString "wait") = (Str.ofString ")")) = false := by decide +kernel
theorem AW : decide ((Str.ofString "try") = (Str.ofString ")")) = false := by decide +kernel
noncomputable def fg.bs (n w : Int) : fg → List (Int × Int)
 | .look _ _ => [(0, 3), (0, n - 1)]
 | .put _ _ => [(0, n - 1), (0, 3)]
 | .set _ _ => [(0, 3), (0, w - 1)]
 | .plus _ _ => [(0, 3), (0, 3)]
 | .leap _ _ => [(0, 3), (1, 12)]
 | .wait => []
noncomputable def bU (b : Int × Int) : U := .tup [.int b.1, .int b.2]
theorem sV (d : fg) (S : Sto) : iT [.tup [.int n, .int w], .str d.w] S = some (.tup ((d.bs n w).map bU), S) := by
 unfold iT
 rw [oC]
 cases d with
 | look _ _ =>
  show (aS [some (.tup [.int n, .int w]), some (.str "look"), none] S).bind kFn = _
  rwa [aS, fg.bs, bU]
 | put _ _ =>
  show (aS [some (.tup [.int n, .int w]), some (.str "put"), none] S).bind kFn = _
  rwa [aS, fg.bs, bU, n5]
 | set _ _ =>
  show (aS [some (.tup [.int n, .int w]), some (.str "set"), none] S).bind kFn = _
  rwa [aS, fg.bs, bU, nZ, p8]
 | plus _ _ =>
  show (aS [some (.tup [.int n, .int w]), some (.str "plus"), none] S).bind kFn = _
  rwa [aS, fg.bs, bU, mS, n8, n6]
 | leap _ _ =>
  show (aS [some (.tup [.int n, .int w]), some (.str "leap"), none] S).bind kFn = _
  rwa [aS, fg.bs, bU, mU, og, n9, mT]
 | wait =>
  show (aS [some (.tup [.int n, .int w]), some (.str "wait"), none] S).bind kFn = _
  rwa [aS, fg.bs, bU, mQ, nY, nX, mP, mR]
inductive In2 : List (Int × Int) → List Int → Prop
 | nil : In2 [] []
 | cons {b : Int × Int} {x : Int} {bs : List (Int × Int)} {xs : List Int} (h1 : b.1 ≤ x) (h2 : x ≤ b.2) (h3 : 0 ≤ x) (h4 : x < 1000) (t : In2 bs xs) : In2 (b :: bs) (x :: xs)
theorem yr (n1 : n ≤ 6) (w1 : w ≤ 1000) {d : fg} (ok : d.ok n w) : In2 (d.bs n w) d.ns := by
 cases d <;> simp only [fg.ok] at ok <;> first
  | exact .nil
  | exact .cons (by simp only; omega) (by simp only; omega) (by omega) (by omega) (.cons (by simp only; omega) (by simp only; omega) (by omega) (by omega) .nil)
noncomputable abbrev rdB (cR : Cl) (ft : Fn) : CS := cI iT (iB cR) ft fb (iD cR) (nv cR) cR
theorem pe {ft : Fn} {r1 r2 r3 : Option U} (hL : L ≠ r) : ∀ (bs : List (Int × Int)) (xs : List Int) (us : List U) (p : Nat) (T : Sto) (r5 : Option U), In2 bs xs → Wa ws p (xs.map gj) → Rs cR n w ws r lw p m T → T[L]? = some (.lst us) → L ≠ lw → us.length + xs.length ≤ 1000 →
  ∃ T' r5', eM (fun _ => True) (gNm 5) (rdB cR ft) (bs.map bU) [some (.ref r), r1, r2, r3, some (.ref L), r5] T = some (.nx, [some (.ref r), r1, r2, r3, some (.ref L), r5'], T') ∧ T'[L]? = some (.lst (us ++ xs.map U.int)) ∧ Rs cR n w ws r lw (p + xs.length) m T' ∧ Kq (fun j => j = r ∨ j = L) T T'
 | _, _, us, p, T, r5, .nil, _, R, hT, _, _ => ⟨T, r5, eX trivial, by rw [List.map_nil, List.append_nil]; exact hT, R, .refl⟩
 | b :: bs, x :: xs, us, p, T, r5, .cons h1 h2 h3 h4 ht, wa, R, hT, nl, hl => by
  rw [List.length_cons] at hl
  obtain ⟨T1, e1, R1, k1⟩ := xv R wa.head h3 h4 h1 h2
  have g1 : T1[L]? = some (.lst us) := k1.get hT hL
  have t0 := R.rd
  unfold gx at t0
  have hlim : us.length < LIM := by unfold LIM; omega
  have R2 : Rs cR n w ws r lw (p + 1) m (T1.set L (.lst (us ++ [.int x]))) := ⟨by rw [List.getElem?_set_ne hL]; exact R1.rd, by rw [List.getElem?_set_ne nl]; exact R1.wd, R1.ne⟩
  obtain ⟨T', r5', ih, g', R', k'⟩ := pe hL bs xs (us ++ [.int x]) (p + 1) (T1.set L (.lst (us ++ [.int x]))) (some (bU b)) ht wa.tail R2 (by rw [List.getElem?_set, if_pos rfl, if_pos (List.getElem?_eq_some_iff.mp g1).1]) nl (by simp; omega)
  refine ⟨T', r5', (bP trivial rfl ?_).trans ih, by rw [g', List.map_cons, List.append_assoc]; rfl, by rw [List.length_cons, show p + (xs.length + 1) = p + 1 + xs.length from by omega]; exact R', ((k1.imp fun j _ e => .inl e).trans (.set (.inr rfl))).trans k'⟩
  have e1' : nv cR [.ref r, bU b] T = some (.int x, T1) := e1
  obtain ⟨bu, hbu⟩ : ∃ bu, bu = bU b := ⟨_, rfl⟩
  rw [← hbu] at e1' ⊢
  unfold rdB cI
  rwa [hT, t0, e1', g1, eP hlim]
theorem uI {ft : Fn} (R : Rs cR n w ws r lw p m T) (n1 : n ≤ 6) (w1 : w ≤ 1000) {d : fg} (ok : d.ok n w) (wa : Wa ws p (d.w :: d.ns.map gj)) :
  ∃ T', dC cR ft [.ref r, .int t] T = some (d.u, T') ∧ Rs cR n w ws r lw (p + (1 + d.ns.length)) m T' ∧ Kq (· = r) T T' := by
 have t0 := R.rd
 have ew := gz R wa.head
 have eb := sV (n := n) (w := w) d T
 have eg := jN R
 have nt := iX d
 have R1 := R.go (p + 1) m
 obtain ⟨T1, hT1⟩ : ∃ T1, T1 = T.set r (gx cR n w lw (p + 1) m) := ⟨_, rfl⟩
 rw [← hT1] at eg R1
 have l1 : T1.length = T.length := by rw [hT1, List.length_set]
 have hr : r < T.length := (List.getElem?_eq_some_iff.mp R.rd).1
 have hlw : lw < T.length := (List.getElem?_eq_some_iff.mp R.wd).1
 have R2 := R1.app [.lst [.str d.w]]
 obtain ⟨T3, r5, e3, g3, R3, k3⟩ := pe (ft := ft) (r1 := some (.int t)) (r2 := some (.str d.w)) (r3 := some (.tup ((d.bs n w).map bU))) (L := T1.length) (by omega) (d.bs n w) d.ns [.str d.w] (p + 1) (T1 ++ [.lst [.str d.w]]) none (yr n1 w1 ok) wa.tail R2 (by rw [ga0]; rfl) (by omega) (by have := gu d; simp; omega)
 have k1 : Kq (· = r) T T1 := by rw [hT1]; exact .set rfl
 refine ⟨T3, ?_, by rw [show p + (1 + d.ns.length) = p + 1 + d.ns.length from by omega]; exact R3, k1.trans ⟨?_, ?_⟩⟩
 ·have hn : ∀ S', qi (.tup ((d.bs n w).map bU)) .non S' = some (.bl true, S') := fun _ => rfl
  have hfor : lT (iTp (aq 3)) (gNm 5) (rdB cR ft) [some (.ref r), some (.int t), some (.str d.w), some (.tup ((d.bs n w).map bU)), some (.ref T1.length), none] (T1 ++ [.lst [.str d.w]]) = some (.nx, [some (.ref r), some (.int t), some (.str d.w), some (.tup ((d.bs n w).map bU)), some (.ref T1.length), r5], T3) := e3
  obtain ⟨bs, hbs⟩ : ∃ bs, bs = U.tup ((d.bs n w).map bU) := ⟨_, rfl⟩
  rw [← hbs] at eb hn hfor
  rw [lh]
  obtain ⟨us, hus⟩ : ∃ us, us = U.str d.w :: d.ns.map U.int := ⟨_, rfl⟩
  have g3' : T3[T1.length]? = some (.lst us) := by rw [hus]; exact g3
  rw [← hus]
  unfold gx at t0
  unfold dC
  rw [eI]
  unfold bp
  rw [fG (ρ' := [some (.ref r), some (.int t), some (.str d.w), none, none, none]) (S' := T) (by rwa [t0, ew])]
  rw [fG (ρ' := [some (.ref r), some (.int t), some (.str d.w), none, none, none]) (S' := T) (by rwa [nt])]
  rw [fG (ρ' := [some (.ref r), some (.int t), some (.str d.w), some bs, none, none]) (S' := T) (by rwa [t0, eb])]
  rw [fG (ρ' := [some (.ref r), some (.int t), some (.str d.w), some bs, none, none]) (S' := T) (by rwa [t0, hn, gD])]
  rw [fG (ρ' := [some (.ref r), some (.int t), some (.str d.w), some bs, none, none]) (S' := T1) (by rwa [t0, eg])]
  rw [fG (ρ' := [some (.ref r), some (.int t), some (.str d.w), some bs, some (.ref T1.length), none]) (S' := T1 ++ [.lst [.str d.w]]) (by rwa [])]
  rw [fG hfor]
  rwa [g3']
 ·exact Nat.le_trans (by simp) k3.len
 ·intro j hj hn
  rw [k3.keep j (by simp; omega) (fun z => z.elim hn (by omega)), List.getElem?_append_left hj]
end
section
variable {α : Type} {cR : Cl} {n w t m tm : Int} {ws : List Str} {r lw p L : Nat} {T T' : Sto} {f : α → U} {k : List α → Prop} {s : List α → Int} {wd : List α → List Str}
noncomputable def HqT (cR : Cl) (n w : Int) (ws : List Str) (r lw : Nat) (tm : Int) (fr : Fn) (f : α → U) (k : List α → Prop) (s : List α → Int) (wd : List α → List Str) : Prop := ∀ (ds : List α) (t m : Int) (p : Nat) (T : Sto), k ds → tm ≤ t → m + s ds ≤ 40 → Wa ws p (wd ds) → Rs cR n w ws r lw p m T →
 ∃ T', fr [.ref r, .int t] T = some (.tup (ds.map f), T') ∧ Rs cR n w ws r lw (p + (wd ds).length) (m + s ds) T' ∧ Kq (· = r) T T'
theorem xt {fr : Fn} (Hr : HqT cR n w ws r lw tm fr f k s wd) (s0 : ∀ a, 0 ≤ s a) (tm0 : 0 ≤ tm) (ht : tm + 1 ≤ t) {a b : List α} (ka : k a) (kb : k b) (hm : m + s a + s b ≤ 40) (wa : Wa ws p ("try" :: (wd a ++ wd b))) (R : Rs cR n w ws r lw p m T) :
  ∃ T', dR cR fr [.ref r, .int t] T = some (.tup [.str "try", .tup (a.map f), .tup (b.map f)], T') ∧ Rs cR n w ws r lw (p + (1 + (wd a).length + (wd b).length)) (m + s a + s b) T' ∧ Kq (· = r) T T' := by
 have t0 := R.rd
 have eg := jN R
 have R1 := R.go (p + 1) m
 obtain ⟨T1, hT1⟩ : ∃ T1, T1 = T.set r (gx cR n w lw (p + 1) m) := ⟨_, rfl⟩
 rw [← hT1] at eg R1
 have k1 : Kq (· = r) T T1 := by rw [hT1]; exact .set rfl
 have sb0 := s0 b
 obtain ⟨T2, e2, R2, k2⟩ := Hr a (t - 1) m (p + 1) T1 ka (by omega) (by omega) wa.tail.left R1
 obtain ⟨T3, e3, R3, k3⟩ := Hr b (t - 1) (m + s a) (p + 1 + (wd a).length) T2 kb (by omega) (by omega) wa.tail.right R2
 refine ⟨T3, ?_, by rw [show p + (1 + (wd a).length + (wd b).length) = p + 1 + (wd a).length + (wd b).length from by omega]; exact R3, (k1.trans k2).trans k3⟩
 have t1 := R1.rd
 have t2 := R2.rd
 unfold gx at t0 t1 t2
 have dt : decide (t > 0) = true := decide_eq_true (by omega)
 obtain ⟨ua, hua⟩ : ∃ ua, ua = U.tup (a.map f) := ⟨_, rfl⟩
 obtain ⟨ub, hub⟩ : ∃ ub, ub = U.tup (b.map f) := ⟨_, rfl⟩
 rw [← hua] at e2 ⊢
 rw [← hub] at e3 ⊢
 unfold dR
 rw [gJ]
 unfold bM
 rw [fG (ρ' := [some (.ref r), some (.int t), none, none]) (S' := T) (by rwa [t0, dt, gD])]
 rw [fG (ρ' := [some (.ref r), some (.int t), none, none]) (S' := T1) (by rwa [t0, eg])]
 rw [fG (ρ' := [some (.ref r), some (.int t), some ua, none]) (S' := T2) (by rwa [t1, e2])]
 rw [fG (ρ' := [some (.ref r), some (.int t), some ua, some ub]) (S' := T3) (by rwa [t2, e3])]
 rwa []
noncomputable def wdO (wd : List α → List Str) : DF α → List Str
 | .pl d => d.w :: d.ns.map gj
 | .tr a b => "try" :: (wd a ++ wd b)
noncomputable def szO (s : List α → Int) : DF α → Int
 | .pl _ => 0
 | .tr a b => s a + s b
theorem oV (d : DF α) (ds : List (DF α)) : wdF wd (d :: ds) = wdO wd d ++ wdF wd ds := by
 cases d with
 | pl d => simp only [wdF, wdO, List.cons_append]
 | tr a b => simp only [wdF, wdO, List.cons_append, List.append_assoc]
theorem lC (d : DF α) (ds : List (DF α)) : szF s (d :: ds) = 1 + szO s d + szF s ds := by
 cases d with
 | pl d => simp only [szF, szO]; omega
 | tr a b => simp only [szF, szO]; omega
theorem C0 : decide ((Str.ofString "try") = (Str.ofString "try")) = true := by decide +kernel
theorem uk {fr : Fn} (Hr : HqT cR n w ws r lw tm fr f k s wd) (s0 : ∀ a, 0 ≤ s a) (ht : ∀ a, k a → 0 ≤ tm ∧ tm + 1 ≤ t) (n1 : n ≤ 6) (w1 : w ≤ 1000) {d : DF α} (ok : d.ok n w k) (hm : m + szO s d ≤ 40) (wa : Wa ws p (wdO wd d)) (R : Rs cR n w ws r lw p m T) :
  ∃ T', dC cR (dR cR fr) [.ref r, .int t] T = some (DF.u f d, T') ∧ Rs cR n w ws r lw (p + (wdO wd d).length) (m + szO s d) T' ∧ Kq (· = r) T T' := by
 cases d with
 | pl d =>
  obtain ⟨T', e, R', k'⟩ := uI (t := t) (ft := dR cR fr) R n1 w1 ok wa
  refine ⟨T', e, ?_, k'⟩
  simp only [wdO, szO, List.length_cons, List.length_map, Int.add_zero]
  rw [show d.ns.length + 1 = 1 + d.ns.length from by omega]
  exact R'
 | tr a b =>
  obtain ⟨T', e, R', k'⟩ := xt (p := p) (m := m) Hr s0 (ht a ok.1).1 (ht a ok.1).2 ok.1 ok.2 (by simp only [szO] at hm; omega) wa R
  refine ⟨T', ?_, ?_, k'⟩
  ·have t0 := R.rd
   have ew := gz R wa.head
   unfold gx at t0
   have et := C0
   show dC cR (dR cR fr) [.ref r, .int t] T = some (.tup [.str "try", .tup (a.map f), .tup (b.map f)], T')
   obtain ⟨v, hv⟩ : ∃ v, v = U.tup [.str "try", .tup (a.map f), .tup (b.map f)] := ⟨_, rfl⟩
   rw [← hv] at e ⊢
   unfold dC
   rw [eI]
   unfold bp
   rw [fG (ρ' := [some (.ref r), some (.int t), some (.str "try"), none, none, none]) (S' := T) (by rwa [t0, ew])]
   rwa [et, t0, e]
  ·simp only [wdO, szO, List.length_cons, List.length_append]
   rw [show (wd a).length + (wd b).length + 1 = 1 + (wd a).length + (wd b).length from by omega, show m + (s a + s b) = m + s a + s b from by omega]
   exact R'
theorem t6 (wd : List α → List Str) (d : DF α) : ∃ y xs, wdO wd d = y :: xs ∧ decide (y = (Str.ofString ")")) = false := by
 cases d with
 | pl d => exact ⟨d.w, _, rfl, match d with
  | .look _ _ => ye
  | .put _ _ => AY
  | .set _ _ => AX
  | .plus _ _ => yd
  | .leap _ _ => yf
  | .wait => yc⟩
 | tr a b => exact ⟨_, _, rfl, AW⟩
theorem DS : decide ((Str.ofString ")") = (Str.ofString ")")) = true := by decide +kernel
theorem Dk : decide ((Str.ofString "(") = (Str.ofString "(")) = true := by decide +kernel
noncomputable abbrev rrB (cR : Cl) (fd : Fn) : CS := da fb (iB cR) (iD cR) fd cR 100
noncomputable abbrev rrT (cR : Cl) : CT := aM (cOp fNe (dA cR (iB cR) (aq 0) aI) (cC (.str ")")))
theorem o6 {fr : Fn} (Hr : HqT cR n w ws r lw tm fr f k s wd) (s0 : ∀ a, 0 ≤ s a) (ht : ∀ a, k a → 0 ≤ tm ∧ tm + 1 ≤ t) (n1 : n ≤ 6) (w1 : w ≤ 1000) (hL : L ≠ r) (hl : L ≠ lw) : ∀ (ds : List (DF α)) (us : List U) (p : Nat) (m : Int) (T : Sto) (fu : Nat), (∀ d ∈ ds, d.ok n w k) → ds.length < fu → us.length + ds.length ≤ 12 → m + szF s ds ≤ 40 → Wa ws p (wdF wd ds ++ [(")" : Str)]) → Rs cR n w ws r lw p m T → T[L]? = some (.lst us) →
  ∃ T', eB (rrT cR) (rrB cR (dC cR (dR cR fr))) fu [some (.ref r), some (.int t), some (.ref L)] T = some (.nx, [some (.ref r), some (.int t), some (.ref L)], T') ∧ T'[L]? = some (.lst (us ++ ds.map (DF.u f))) ∧ Rs cR n w ws r lw (p + (wdF wd ds).length) (m + szF s ds) T' ∧ Kq (fun j => j = r ∨ j = L) T T'
 | [], us, p, m, T, fu + 1, _, _, _, _, wa, R, hT => by
  have t0 := R.rd
  have ew := gz R wa.head
  unfold gx at t0
  have ec := DS
  refine ⟨T, qL ?_, by rw [List.map_nil, List.append_nil]; exact hT, by simp only [wdF, szF, List.length_nil, Nat.add_zero, Int.add_zero]; exact R, .refl⟩
  rwa [rrT, t0, ew, ec]
 | d :: ds, us, p, m, T, fu + 1, oa, hf, hu, hm, wa, R, hT => by
  rw [List.length_cons] at hf hu
  rw [oV, List.append_assoc] at wa
  rw [lC] at hm
  obtain ⟨y, xs, ey, ny⟩ := t6 wd d
  have hy : ws[p]? = some y := Wa.head (xs := xs ++ (wdF wd ds ++ [(")" : Str)])) (by rw [ey] at wa; exact wa)
  have t0 := R.rd
  have ew := gz R hy
  have so : 0 ≤ szO s d := by
   cases d with
   | pl d => exact Int.le_refl _
   | tr a b => have := s0 a; have := s0 b; simp only [szO]; omega
  have sf : ∀ l : List (DF α), 0 ≤ szF s l := fun l => by
   induction l with
   | nil => exact Int.le_refl _
   | cons e l ih =>
    rw [lC]
    cases e with
    | pl _ => simp only [szO]; omega
    | tr a b => have := s0 a; have := s0 b; simp only [szO]; omega
  have sd := sf ds
  have R1 := R.go p (m + 1)
  obtain ⟨T1, hT1⟩ : ∃ T1, T1 = T.set r (gx cR n w lw p (m + 1)) := ⟨_, rfl⟩
  rw [← hT1] at R1
  have k1 : Kq (fun j => j = r ∨ j = L) T T1 := by rw [hT1]; exact .set (.inl rfl)
  have g1 : T1[L]? = some (.lst us) := by rw [hT1, List.getElem?_set_ne (Ne.symm hL)]; exact hT
  obtain ⟨T2, e2, R2, k2⟩ := uk (p := p) (m := m + 1) Hr s0 ht n1 w1 (oa d List.mem_cons_self) (by omega) wa.left R1
  have g2 : T2[L]? = some (.lst us) := k2.get g1 hL
  have hlim : us.length < LIM := by unfold LIM; omega
  have R3 : Rs cR n w ws r lw (p + (wdO wd d).length) (m + 1 + szO s d) (T2.set L (.lst (us ++ [DF.u f d]))) := ⟨by rw [List.getElem?_set_ne hL]; exact R2.rd, by rw [List.getElem?_set_ne hl]; exact R2.wd, R2.ne⟩
  obtain ⟨T', ih, g', R', k'⟩ := o6 Hr s0 ht n1 w1 hL hl ds (us ++ [DF.u f d]) (p + (wdO wd d).length) (m + 1 + szO s d) (T2.set L (.lst (us ++ [DF.u f d]))) fu (fun z hz => oa z (List.mem_cons_of_mem _ hz)) (by omega) (by simp; omega) (by omega) wa.right R3 (by rw [List.getElem?_set, if_pos rfl, if_pos (List.getElem?_eq_some_iff.mp g2).1])
  refine ⟨T', (t5 (S0 := T) (ρ1 := [some (.ref r), some (.int t), some (.ref L)]) (S1 := T2.set L (.lst (us ++ [DF.u f d]))) ?_ ?_).trans ih, by rw [g', List.map_cons, List.append_assoc]; rfl, ?_, (k1.trans (k2.imp fun j _ e => .inl e)).trans ((Kq.set (.inr rfl)).trans k')⟩
  ·unfold gx at t0
   rwa [rrT, t0, ew, ny]
  ·have t1 := R1.rd
   have d1 : decide ((us.length : Int) < 12) = true := decide_eq_true (by omega)
   have d2 : decide (m < 40) = true := decide_eq_true (by omega)
   obtain ⟨v, hv⟩ : ∃ v, v = DF.u f d := ⟨_, rfl⟩
   rw [← hv] at e2 ⊢
   have hs : lS cR 3 (aq 0) (cOp fN (qp cR 3 (aq 0)) (cC (.int 1))) [some (.ref r), some (.int t), some (.ref L)] T = some (.nx, [some (.ref r), some (.int t), some (.ref L)], T1) := by
    rw [hT1]
    unfold gx at t0 ⊢
    rwa [t0]
   unfold gx at t0 t1
   unfold rrB da
   rw [fG (ρ' := [some (.ref r), some (.int t), some (.ref L)]) (S' := T) (by rwa [t0, hT, d1, d2, gD])]
   rw [fG hs]
   rwa [g1, t1, e2, g2, eP hlim]
  ·rw [oV, lC, List.length_append, show p + ((wdO wd d).length + (wdF wd ds).length) = p + (wdO wd d).length + (wdF wd ds).length from by omega, show m + (1 + szO s d + szF s ds) = m + 1 + szO s d + szF s ds from by omega]
   exact R'
theorem nR {fr : Fn} (Hr : HqT cR n w ws r lw tm fr f k s wd) {tn : Int} (s0 : ∀ a, 0 ≤ s a) (hk : ∀ a, k a → 0 ≤ tm ∧ tm + 1 ≤ tn) (n1 : n ≤ 6) (w1 : w ≤ 1000) : HqT cR n w ws r lw tn (pM cR (dC cR (dR cR fr))) (DF.u f) (fun ds => ds.length ≤ 12 ∧ ∀ d ∈ ds, DF.ok n w k d) (szF s) (wdL wd) := fun ds t m p T ok ht hm wa R => by
 have t0 := R.rd
 have wa' : Wa ws p (("(" : Str) :: (wdF wd ds ++ [(")" : Str)])) := wa
 have ew := gz R wa'.head
 have eg := jN R
 have R1 := R.go (p + 1) m
 obtain ⟨T1, hT1⟩ : ∃ T1, T1 = T.set r (gx cR n w lw (p + 1) m) := ⟨_, rfl⟩
 rw [← hT1] at eg R1
 have l1 : T1.length = T.length := by rw [hT1, List.length_set]
 have hr : r < T.length := (List.getElem?_eq_some_iff.mp R.rd).1
 have hlw : lw < T.length := (List.getElem?_eq_some_iff.mp R.wd).1
 have k1 : Kq (· = r) T T1 := by rw [hT1]; exact .set rfl
 obtain ⟨T3, e3, g3, R3, k3⟩ := o6 (t := t) (L := T1.length) Hr s0 (fun a ka => ⟨(hk a ka).1, Int.le_trans (hk a ka).2 ht⟩) n1 w1 (by omega) (by omega) ds [] (p + 1) m (T1 ++ [.lst []]) 100 ok.2 (by have := ok.1; omega) (by have := ok.1; simp; omega) hm wa'.tail (R1.app _) (by rw [ga0]; rfl)
 rw [List.nil_append] at g3
 have eg3 := jN R3
 have R4 := R3.go (p + 1 + (wdF wd ds).length + 1) (m + szF s ds)
 have t3 := R3.rd
 have g4 : (T3.set r (gx cR n w lw (p + 1 + (wdF wd ds).length + 1) (m + szF s ds)))[T1.length]? = some (.lst (ds.map (DF.u f))) := by rw [List.getElem?_set_ne (by omega)]; exact g3
 obtain ⟨T4, hT4⟩ : ∃ T4, T4 = T3.set r (gx cR n w lw (p + 1 + (wdF wd ds).length + 1) (m + szF s ds)) := ⟨_, rfl⟩
 rw [← hT4] at eg3 R4 g4
 refine ⟨T4, ?_, by rw [qN, show p + ((wdF wd ds).length + 2) = p + 1 + (wdF wd ds).length + 1 from by omega]; exact R4, k1.trans ⟨?_, ?_⟩⟩
 ·have eo := Dk
  obtain ⟨us, hus⟩ : ∃ us, us = ds.map (DF.u f) := ⟨_, rfl⟩
  rw [← hus] at g4 ⊢
  unfold gx at t0 t3
  unfold pM
  rw [gK]
  unfold bN
  rw [fG (ρ' := [some (.ref r), some (.int t), none]) (S' := T) (by rwa [t0, ew, eo, gD])]
  rw [fG (ρ' := [some (.ref r), some (.int t), none]) (S' := T1) (by rwa [t0, eg])]
  rw [fG (ρ' := [some (.ref r), some (.int t), some (.ref T1.length)]) (S' := T1 ++ [.lst []]) (by rwa [])]
  rw [fG e3]
  rw [fG (ρ' := [some (.ref r), some (.int t), some (.ref T1.length)]) (S' := T4) (by rwa [t3, eg3])]
  rwa [g4]
 ·rw [hT4, List.length_set]; exact Nat.le_trans (by simp) k3.len
 ·intro j hj hn
  rw [hT4, List.getElem?_set_ne (Ne.symm hn), k3.keep j (by simp; omega) (fun z => z.elim hn (by omega)), List.getElem?_append_left hj]
end
noncomputable def qt (cR : Cl) : Nat → Fn
 | 0 => pM cR (dC cR (dR cR fun _ _ => none))
 | j + 1 => pM cR (dC cR (dR cR (qt cR j)))
theorem oY {α : Type} {s : List α → Int} (s0 : ∀ a, 0 ≤ s a) : ∀ ds : List (DF α), 0 ≤ szF s ds
 | [] => Int.le_refl _
 | .pl _ :: r => by have := oY s0 r; simp only [szF]; omega
 | .tr a b :: r => by have := oY s0 r; have := s0 a; have := s0 b; simp only [szF]; omega
theorem o5 : ∀ (j : Nat) (ds : List (Dl j)), 0 ≤ jt j ds
 | 0, ds => oY (fun _ => Int.le_refl _) ds
 | j + 1, ds => oY (o5 j) ds
section
variable {cR : Cl} {n w : Int} {ws : List Str} {r lw : Nat}
theorem rn (n1 : n ≤ 6) (w1 : w ≤ 1000) : ∀ J j : Nat, j ≤ J → HqT cR n w ws r lw j (qt cR J) (Dl.u j) (OkM n w j) (jt j) (wdD j)
 | 0, 0, _ => fun ds t m p T ok ht hm wa R => nR (tm := 0) (k := fun _ => False) (s := fun _ => 0) (wd := fun _ => []) (fun _ _ _ _ _ z => z.elim) (fun _ => Int.le_refl _) (fun _ z => z.elim) n1 w1 ds t m p T ok ht hm wa R
 | J + 1, 0, _ => fun ds t m p T ok ht hm wa R => nR (tm := 0) (k := fun _ => False) (s := fun _ => 0) (wd := fun _ => []) (fun _ _ _ _ _ z => z.elim) (fun _ => Int.le_refl _) (fun _ z => z.elim) n1 w1 ds t m p T ok ht hm wa R
 | J + 1, j + 1, h => fun ds t m p T ok ht hm wa R => nR (tm := (j : Int)) (tn := ((j + 1 : Nat) : Int)) (rn n1 w1 J j (by omega)) (o5 j) (fun _ _ => ⟨by omega, by omega⟩) n1 w1 ds t m p T ok ht hm wa R
end
noncomputable def tf (cR : Cl) : Fn := fnU 2 1 (bO (qt cR 3) fb cR)
noncomputable def oM (cR : Cl) : Fn := fnU 3 3 (dj cR)
noncomputable def pN (cR : Cl) : Fn := fnU 2 2 (cK (tf cR) (oM cR) cR)
noncomputable def lZ : Fn := fnU 1 1 (cL (iA 3))
theorem ue : Str.ofString " " = ⟨#[32]⟩ := by decide +kernel
section
variable {cR : Cl} {n w : Int} {ds : List (Dl 3)} {S T T' : Sto}
noncomputable def txt (ds : List (Dl 3)) : Str := Str.join ⟨#[32]⟩ (wdD 3 ds)
theorem xx {r lw : Nat} (R : Rs cR n w (wdD 3 ds) r lw 0 0 T) (n1 : n ≤ 6) (w1 : w ≤ 1000) (ok : OkM n w 3 ds) (sz : jt 3 ds ≤ 40) : ∃ T', tf cR [.ref r] T = some (.tup (ds.map (Dl.u 3)), T') ∧ Kq (· = r) T T' := by
 obtain ⟨T', e, R', k'⟩ := rn (cR := cR) (ws := wdD 3 ds) (r := r) (lw := lw) n1 w1 3 3 (by omega) ds 3 0 0 T ok (by omega) (by omega) ⟨[], by simp⟩ R
 refine ⟨T', ?_, k'⟩
 have t0 := R.rd
 have t1 := R'.rd
 have tw := R'.wd
 unfold gx at t0 t1
 have d1 : decide (((0 + (wdD 3 ds).length : Nat) : Int) = (((wdD 3 ds).map U.str).length : Int)) = true := decide_eq_true (by rw [List.length_map, Nat.zero_add])
 obtain ⟨us, hus⟩ : ∃ us, us = (wdD 3 ds).map U.str := ⟨_, rfl⟩
 obtain ⟨v, hv⟩ : ∃ v, v = U.tup (ds.map (Dl.u 3)) := ⟨_, rfl⟩
 rw [← hus] at tw d1
 rw [← hv] at e ⊢
 unfold tf
 rw [gL]
 unfold bO
 rw [fG (ρ' := [some (.ref r), some v]) (S' := T') (by rwa [t0, e])]
 rw [fG (ρ' := [some (.ref r), some v]) (S' := T') (by rwa [t1, tw, d1, gD])]
 rwa []
theorem oZ (n1 : n ≤ 6) (w1 : w ≤ 1000) (ok : OkM n w 3 ds) (sz : jt 3 ds ≤ 40) : ((wdD 3 ds).map (·.length)).sum + (wdD 3 ds).length * 1 ≤ 1010 ∧ (wdD 3 ds).length ≤ 202 := by
 have h1 := qO 3 ds ok
 have h2 := StrLaws.sumLen_le (B := 4) (wdD 3 ds) fun y hy => (nN n1 w1 3 ds ok y hy).1
 omega
theorem zH : wdD 3 ds ≠ [] := List.cons_ne_nil _ _
theorem xw (hns : cR.ns.length = 4) (n1 : n ≤ 6) (w1 : w ≤ 1000) (ok : OkM n w 3 ds) (sz : jt 3 ds ≤ 40) : ∃ G, pN cR [.tup [.int n, .int w], .str (txt ds)] S = some (.tup (ds.map (Dl.u 3)), S ++ G) := by
 obtain ⟨s1, s2⟩ := oZ n1 w1 ok sz
 obtain ⟨us, hus⟩ : ∃ us, us = (wdD 3 ds).map U.str := ⟨_, rfl⟩
 have l1 : (S ++ [O.lst us]).length = S.length + 1 := by rw [List.length_append]; rfl
 have es : jO (.str (txt ds)) [.str " "] S = some (.ref S.length, S ++ [.lst us]) := by
  have hl : (txt ds).length ≤ 100000 := by
   have := StrLaws.join_length_le ⟨#[32]⟩ (wdD 3 ds)
   have e1 : (⟨#[32]⟩ : Str).length = 1 := rfl
   rw [e1] at this
   unfold txt
   omega
  have hc : ((Str.ofString " ").length == 0) = false ∧ (txt ds).length ≤ 100000 := ⟨by rw [ue]; rfl, hl⟩
  have hsp : Txt.split (txt ds) (Str.ofString " ") = wdD 3 ds := by
   rw [ue]
   exact pX zH fun y hy => (nN n1 w1 3 ds ok y hy).2
  simp only [jO]
  rw [if_pos hc, hsp, hus]
 have em : qj cR (oM cR) [.tup [.int n, .int w], .ref S.length] (S ++ [.lst us]) = some (.ref (S.length + 1), S ++ [.lst us, gx cR n w S.length 0 0]) := by
  rw [y9, hns, l1]
  unfold oM
  rw [lR]
  unfold gx
  have g0 : (S ++ [O.lst us, .ins cR (List.replicate 4 none)])[S.length + 1]? = some (.ins cR (List.replicate 4 none)) := by rw [ga]; rfl
  rwa [dj, List.replicate]
  rfl
 have R : Rs cR n w (wdD 3 ds) (S.length + 1) S.length 0 0 (S ++ [.lst us, gx cR n w S.length 0 0]) := ⟨by rw [ga]; rfl, by rw [ga0, hus]; rfl, by omega⟩
 obtain ⟨T', e, k⟩ := xx R n1 w1 ok sz
 obtain ⟨G, hG⟩ : ∃ G, T' = S ++ G := by
  refine ⟨T'.drop S.length, ?_⟩
  have ht : T'.take S.length = S := by
   refine List.ext_getElem? fun i => ?_
   by_cases hi : i < S.length
   ·rw [List.getElem?_take, if_pos hi, k.keep i (by simp; omega) (by omega), List.getElem?_append_left hi]
   ·rw [List.getElem?_take, if_neg hi, List.getElem?_eq_none (by omega)]
  conv => lhs; rw [← List.take_append_drop S.length T', ht]
 refine ⟨G, ?_⟩
 have t0 := R.rd
 unfold gx at t0 e em
 rw [← hG]
 obtain ⟨v, hv⟩ : ∃ v, v = U.tup (ds.map (Dl.u 3)) := ⟨_, rfl⟩
 rw [← hv] at e ⊢
 have hbs : cBS jO (aq 1) (ah (cC (.str " ")) aI) [some (.tup [.int n, .int w]), some (.str (txt ds))] S = some (.ref S.length, S ++ [.lst us]) := by
  have h1 : aq 1 [some (.tup [.int n, .int w]), some (.str (txt ds))] S = some (.str (txt ds), S) := rfl
  unfold cBS
  rw [h1, Option.bind_some]
  simp only [ml, x_c, iW, qA, iV, Option.bind_some, es]
 obtain ⟨Y, hY⟩ : ∃ Y, Y = S ++ [O.lst us, .ins cR [some (.tup [.int n, .int w]), some (.ref S.length), some (.int (0 : Nat)), some (.int 0)]] := ⟨_, rfl⟩
 rw [← hY] at e em t0
 unfold pN
 rw [kE]
 rwa [cK, hbs, em, t0, e]
theorem rY {l : Nat} (n1 : n ≤ 6) (w1 : w ≤ 1000) (ok : OkM n w 3 ds) (sz : jt 3 ds ≤ 40) (h : S[l]? = some (.lst ((wdD 3 ds).map U.str))) : lP (.str " ") [.ref l] S = some (.str (txt ds), S) := by
 obtain ⟨s1, s2⟩ := oZ n1 w1 ok sz
 have e1 : (Str.ofString " ").length = 1 := by rw [ue]; rfl
 have hc : ((wdD 3 ds).map (·.length)).sum + (wdD 3 ds).length * (Str.ofString " ").length ≤ 1000000 := by rw [e1]; omega
 simp only [lP, h, mD, Option.bind_some]
 rw [if_pos hc, ue]; rfl
theorem pD (n1 : n ≤ 6) (w1 : w ≤ 1000) (ok : OkM n w 3 ds) (sz : jt 3 ds ≤ 40) : ∃ G, lZ [.tup (ds.map (Dl.u 3))] S = some (.str (txt ds), S ++ G) := by
 obtain ⟨s1, s2⟩ := oZ n1 w1 ok sz
 obtain ⟨l, G, e, g⟩ := my n1 w1 3 3 (by omega) ds S ok (by omega)
 have ej := rY n1 w1 ok sz g
 refine ⟨G, ?_⟩
 obtain ⟨v, hv⟩ : ∃ v, v = U.tup (ds.map (Dl.u 3)) := ⟨_, rfl⟩
 rw [← hv] at e ⊢
 obtain ⟨Y, hY⟩ : ∃ Y, Y = S ++ G := ⟨_, rfl⟩
 rw [← hY] at e ej ⊢
 have hbs : cBS lP (cC (.str " ")) (ah (cCB (iA 3) (ah (aq 0) aI)) aI) [some v] S = some (.str (txt ds), Y) := by
  unfold cBS
  rw [x_c, Option.bind_some]
  have h1 : aq 0 [some v] S = some (v, S) := rfl
  simp only [ml, CM, h1, iW, qA, iV, wM, e, Option.bind_some, ej]
 unfold lZ
 rw [kF]
 rwa [cL, hbs]
end
section
variable {n w : Int} {S : Sto}
theorem rk {k : Nat} (d : fg) : fE (k + 2) d.u d.u S := by
 rw [lh]
 have := gu d
 refine lG rfl (by simp; omega) (ll fun u hu => ?_)
 rcases List.mem_cons.mp hu with rfl | hu
 ·exact iM
 ·obtain ⟨i, _, rfl⟩ := List.mem_map.mp hu
  exact uh
theorem rj {α : Type} {f : α → U} {q : List α → Prop} {k : Nat} (h : ∀ a, q a → fE (k + 1) (.tup (a.map f)) (.tup (a.map f)) S) {d : DF α} (ok : d.ok n w q) : fE (k + 2) (DF.u f d) (DF.u f d) S := by
 cases d with
 | pl d => exact rk d
 | tr a b =>
  refine lG rfl (by simp) (ll fun u hu => ?_)
  simp only [List.mem_cons, List.not_mem_nil, or_false] at hu
  rcases hu with rfl | rfl | rfl
  ·exact iM
  ·exact h a ok.1
  ·exact h b ok.2
theorem rh {α : Type} {f : α → U} {k : Nat} {ds : List α} (hl : ds.length ≤ 12) (h : ∀ d ∈ ds, fE k (f d) (f d) S) : fE (k + 1) (.tup (ds.map f)) (.tup (ds.map f)) S := by
 refine lG rfl (by simp; omega) (ll fun u hu => ?_)
 obtain ⟨d, hd, rfl⟩ := List.mem_map.mp hu
 exact h d hd
theorem vI : ∀ (j k : Nat) (ds : List (Dl j)), OkM n w j ds → fE (k + (2 * j + 3)) (.tup (ds.map (Dl.u j))) (.tup (ds.map (Dl.u j))) S
 | 0, k, ds, ok => rh (k := k + 2) (f := Dl.u 0) ok.1 fun d hd => by
  unfold Dl.u
  exact rj (n := n) (w := w) (k := k) (q := fun _ => False) (fun _ z => z.elim) (ok.2 d hd)
 | j + 1, k, ds, ok => rh (f := DF.u (Dl.u j)) ok.1 fun d hd => rj (n := n) (w := w) (k := k + (2 * j + 2)) (fun a qa => vI j k a qa) (ok.2 d hd)
end
end OQ
namespace OL
open PySem PySem.Spec PyProof.Rows L2 OG OP OQ
noncomputable def top (i : Nat) : Stmt := PySem.Challenge.pw_oneglance_k60_dealings_written.main.body.getD i (.Pass ⟨0, 0, 0, 0⟩)
noncomputable abbrev cU : Stmt := top 6
noncomputable abbrev b9 : Stmt := eZ (top 13) 0
noncomputable abbrev b8 : Stmt := eZ (top 13) 1
noncomputable abbrev bX : Stmt := eZ (top 13) 2
noncomputable abbrev bW : Stmt := eZ (top 13) 3
noncomputable abbrev bA : Stmt := eZ (top 13) 4
noncomputable abbrev bz : Stmt := eZ (top 13) 5
noncomputable abbrev bo : Stmt := eZ (top 13) 6
noncomputable abbrev bx : Stmt := eZ (top 13) 7
noncomputable abbrev aY : Stmt := eZ (top 13) 8
noncomputable abbrev cT : Stmt := top 14
noncomputable abbrev bD : Stmt := top 15
noncomputable abbrev bF : Stmt := top 16
noncomputable abbrev dv : Stmt := top 17
noncomputable abbrev dw : Stmt := top 19
noncomputable abbrev cV : Stmt := top 20
noncomputable abbrev b4 : Stmt := top 21
noncomputable abbrev cW : Stmt := top 23
noncomputable abbrev bc : Stmt := top 24
noncomputable abbrev bH : Stmt := top 25
noncomputable abbrev b5 : Stmt := top 26
noncomputable abbrev cX : Stmt := top 27
noncomputable abbrev kc : Stmt := top 28
section
variable {P : Program} {w : World} {K : PySem.W.Frag} {mg : Str → Option Value} {base : Heap}
theorem h7 : aU ["pen", "many", "at", "cell", "one", "two", "three", "found"] ["pen", "many"] (ao cV) := ⟨rfl, rfl, rfl, by decide +kernel, rfl, by decide +kernel, by decide +kernel⟩
theorem oz {k : Nat} (d : Def K mg "_law_take" cV ["pen", "many"]) (B : Blt mg) : dn P w K mg base "_law_take" (k + 1) ["pen", "many"] (fnU 8 2 (dz )) :=
 d.pure h7 fun f cdv A outer s H E hr => by
  have hu := er hr
  have nd := h7.nd
  exact (ar (cD (aX eL ko (gh hu (ae (wpv 0)) (ay ag) (fun _ _ => rfl) (fun _ _ => rfl)) (ay ag) (aJ _)) (ar (aW (i := 2) nd rfl (by first | exact Or.inl rfl | exact Or.inr rfl) (gh hu (ae (wpv 0)) (ay ag) (fun _ _ => rfl) (fun _ _ => rfl)))
   (ar (iN hu (ae (wpv 0)) (ay ag) (dk dX dW (ae (wpv 2)) (ay ag)))
   (ar (aW (i := 3) nd rfl (by first | exact Or.inl rfl | exact Or.inr rfl) (ay ag))
   (ar (cD (aX gF p6 (ae (wpv 2)) (cG iK iJ rfl B.len PySem.boot_len (ab (gh hu (ae (wpv 0)) (ay ag) (fun _ _ => rfl) (fun _ _ => rfl)) aB)) (aJ _)) (aC (aW (i := 3) nd rfl (by first | exact Or.inl rfl | exact Or.inr rfl) (gh hu (gh hu (ae (wpv 0)) (ay ag) (fun _ _ => rfl) (fun _ _ => rfl)) (ae (wpv 2)) (fun _ _ => rfl) (fun _ _ => rfl)))) (aC (cD (aX mO vN (cG iK iJ rfl B.len PySem.boot_len (ab (gh hu (ae (wpv 0)) (ay ag) (fun _ _ => rfl) (fun _ _ => rfl)) aB)) (ay ag) (aJ _)) (aC (aW (i := 3) nd rfl (by first | exact Or.inl rfl | exact Or.inr rfl) (dk dX dW (dk jD nW (gh hu (gh hu (ae (wpv 0)) (ay ag) (fun _ _ => rfl) (fun _ _ => rfl)) (dk jD nW (dk ie mL (ae (wpv 2)) (ay ag)) (cG iK iJ rfl B.len PySem.boot_len (ab (gh hu (ae (wpv 0)) (ay ag) (fun _ _ => rfl) (fun _ _ => rfl)) aB))) (fun _ _ => rfl) (fun _ _ => rfl)) (ay ag)) (dk ie mL (ay ag) (ae (wpv 2)))))) bK)))
   (ar (aW (i := 4) nd rfl (by first | exact Or.inl rfl | exact Or.inr rfl) (dk jD nW (dk ie mL (dk dX dW (dk dX dW (dk jD nW (ae (wpv 3)) (ay ag)) (dk ie mL (ay ag) (ae (wpv 2)))) (ay ag)) (ay ag)) (ay ag)))
   (ar (aW (i := 5) nd rfl (by first | exact Or.inl rfl | exact Or.inr rfl) (dk jD nW (dk dX dW (dk dX dW (dk ie mL (ae (wpv 4)) (ae (wpv 4))) (dk ie mL (ay ag) (ae (wpv 2)))) (ay ag)) (ay ag)))
   (ar (aW (i := 6) nd rfl (by first | exact Or.inl rfl | exact Or.inr rfl) (dk jD nW (dk dX dW (dk ie mL (ae (wpv 5)) (ae (wpv 5))) (ae (wpv 4))) (ay ag)))
   (ar (iN hu (ae (wpv 0)) (ay ag) (dk dX dW (dk lI xX (dk dX dW (dk ie mL (ae (wpv 5)) (ay ag)) (ae (wpv 6))) (ay ag)) (ay ag)))
   (aC (cD (aX Dm EZ (ae (wpv 3)) (dk vO AJ (ay ag) (ay ag)) (aJ _)) (aC (iN hu (ae (wpv 0)) (ay ag) (dk lI xX (ae (wpv 3)) (dk vO AJ (ay ag) (ay ag))))) bK)))))))))) bK)
   (ar (aW (i := 7) nd rfl (by first | exact Or.inl rfl | exact Or.inr rfl) (dk jD nW (gh hu (ae (wpv 0)) (ay ag) (fun _ _ => rfl) (fun _ _ => rfl)) (ae (wpv 1))))
   (ar (iN hu (ae (wpv 0)) (ay ag) (dk lI xX (gh hu (ae (wpv 0)) (ay ag) (fun _ _ => rfl) (fun _ _ => rfl)) (ae (wpv 1))))
   (aC (aV (ae (wpv 7)))))))
theorem gn : aU ["pen"] ["pen"] (ao b4) := ⟨rfl, rfl, rfl, by decide +kernel, rfl, by decide +kernel, by decide +kernel⟩
theorem mY {k : Nat} {av : Fn} (d : Def K mg "_law_world" b4 ["pen"]) (B : Blt mg) (aE : dn P w K mg base "_law_take" (k) ["pen", "many"] av) : dn P w K mg base "_law_world" (k + 1) ["pen"] (fnU 1 1 (dP av)) :=
 d.pure gn fun f cdv A outer s H E hr => by
  have hu := er hr
  have nd := gn.nd
  exact (aC (aV (fh (ab (dk dX dW (ay ag) (aZ aE hr rfl (ab (ae (wpv 0)) (ab (ay ag) aB)))) (ab (gh hu (kf (ab (ay ag) (ab (ay ag) (ab (ay ag) (ab (ay ag) (ab (dk dX dW (ay ag) (aZ aE hr rfl (ab (ae (wpv 0)) (ab (ay ag) aB)))) aB)))))) (aZ aE hr rfl (ab (ae (wpv 0)) (ab (ay ag) aB))) (fun _ _ => rfl) (fun _ _ => rfl)) aB)))))
theorem h8 : aU ["dealing", "many", "deed"] ["dealing"] (ao cW) := ⟨rfl, rfl, rfl, by decide +kernel, rfl, by decide +kernel, by decide +kernel⟩
theorem fZ {k : Nat} {aD : Fn} (d : Def K mg "_law_size" cW ["dealing"]) (B : Blt mg) (d8 : dn P w K mg base "_law_size" (k) ["dealing"] aD) : dn P w K mg base "_law_size" (k + 1) ["dealing"] (fnU 3 1 (d7 aD)) :=
 d.pure h8 fun f cdv A outer s H E hr => by
  have hu := er hr
  have nd := h8.nd
  exact (ar (aW (i := 1) nd rfl (by first | exact Or.inl rfl | exact Or.inr rfl) (ay ag))
   (ar (jx PassesOwn.never rfl (kW (ae (wpv 0))) (eW (dg (i := 2) nd rfl (by first | exact Or.inl rfl | exact Or.inr rfl))) (ar (aW (i := 1) nd rfl (by first | exact Or.inl rfl | exact Or.inr rfl) (dk dX dW (ae (wpv 1)) (ay ag)))
   (aC (cD (aX eL ko (gh hu (ae (wpv 2)) (ay ag) (fun _ _ => rfl) (fun _ _ => rfl)) (cE aT) (aJ _)) (aC (aW (i := 1) nd rfl (by first | exact Or.inl rfl | exact Or.inr rfl) (dk dX dW (dk dX dW (ae (wpv 1)) (aZ d8 hr rfl (ab (gh hu (ae (wpv 2)) (ay ag) (fun _ _ => rfl) (fun _ _ => rfl)) aB))) (aZ d8 hr rfl (ab (gh hu (ae (wpv 2)) (ay ag) (fun _ _ => rfl) (fun _ _ => rfl)) aB))))) bK))))
   (aC (aV (ae (wpv 1))))))
theorem eC : aU ["pen", "world", "way", "hand"] ["pen", "world", "way", "hand"] (ao bc) := ⟨rfl, rfl, rfl, by decide +kernel, rfl, by decide +kernel, by decide +kernel⟩
theorem gG {k : Nat} {av : Fn} (d : Def K mg "_law_plain_deed" bc ["pen", "world", "way", "hand"]) (B : Blt mg) (aE : dn P w K mg base "_law_take" (k) ["pen", "many"] av) : dn P w K mg base "_law_plain_deed" (k + 1) ["pen", "world", "way", "hand"] (fnU 4 4 (aQ av)) :=
 d.pure eC fun f cdv A outer s H E hr => by
  have hu := er hr
  have nd := eC.nd
  exact (ar (cD (aX gF p6 (ae (wpv 2)) (ay ag) (aJ _)) (aC (aV (fh (ab (cE aT) (ab (ae (wpv 3)) (ab (aZ aE hr rfl (ab (ae (wpv 0)) (ab (gh hu (ae (wpv 1)) (ay ag) (fun _ _ => rfl) (fun _ _ => rfl)) aB))) aB)))))) bK)
   (ar (cD (aX gF p6 (ae (wpv 2)) (ay ag) (aJ _)) (aC (aV (fh (ab (cE aT) (ab (aZ aE hr rfl (ab (ae (wpv 0)) (ab (gh hu (ae (wpv 1)) (ay ag) (fun _ _ => rfl) (fun _ _ => rfl)) aB))) (ab (ae (wpv 3)) aB)))))) bK)
   (ar (cD (aX gF p6 (ae (wpv 2)) (ay ag) (aJ _)) (aC (aV (fh (ab (cE aT) (ab (ae (wpv 3)) (ab (aZ aE hr rfl (ab (ae (wpv 0)) (ab (gh hu (ae (wpv 1)) (ay ag) (fun _ _ => rfl) (fun _ _ => rfl)) aB))) aB)))))) bK)
   (ar (cD (aX gF p6 (ae (wpv 2)) (ay ag) (aJ _)) (aC (aV (fh (ab (cE aT) (ab (ae (wpv 3)) (ab (aZ aE hr rfl (ab (ae (wpv 0)) (ab (ay ag) aB))) aB)))))) bK)
   (aC (aV (fh (ab (cE aT) (ab (ae (wpv 3)) (ab (dk dX dW (ay ag) (aZ aE hr rfl (ab (ae (wpv 0)) (ab (gh hu (kf (ab (ay ag) (ab (ay ag) aB))) (aZ aE hr rfl (ab (ae (wpv 0)) (ab (ay ag) aB))) (fun _ _ => rfl) (fun _ _ => rfl)) aB)))) aB))))))))))
theorem fv : aU ["pen", "world", "room", "tries", "deeds", "left", "k", "way", "hand", "one", "other"] ["pen", "world", "room", "tries"] (ao bH) := ⟨rfl, rfl, rfl, by decide +kernel, rfl, by decide +kernel, by decide +kernel⟩
theorem dI {k : Nat} {av aH ax aD : Fn} (d : Def K mg "_law_dealing" bH ["pen", "world", "room", "tries"]) (B : Blt mg) (aE : dn P w K mg base "_law_take" (k) ["pen", "many"] av) (bB : dn P w K mg base "_law_plain_deed" (k) ["pen", "world", "way", "hand"] aH) (dM : dn P w K mg base "_law_dealing" (k) ["pen", "world", "room", "tries"] ax) (d8 : dn P w K mg base "_law_size" (k) ["dealing"] aD) : dn P w K mg base "_law_dealing" (k + 1) ["pen", "world", "room", "tries"] (fnU 11 4 (cM av aH ax aD)) :=
 d.pure fv fun f cdv A outer s H E hr => by
  have hu := er hr
  have nd := fv.nd
  exact (ar (aW (i := 4) nd rfl (by first | exact Or.inl rfl | exact Or.inr rfl) (kf aB))
   (ar (aW (i := 5) nd rfl (by first | exact Or.inl rfl | exact Or.inr rfl) (ae (wpv 2)))
   (ar (jx PassesOwn.never rfl (mG rfl B.range (ab (aZ aE hr rfl (ab (ae (wpv 0)) (ab (dk dX dW (cG (sR rfl) Dg rfl B.min OG.vo (ab (ay ag) (ab (ae (wpv 2)) aB))) (ay ag)) aB))) aB)) (eW (dg (i := 6) nd rfl (by first | exact Or.inl rfl | exact Or.inr rfl))) (ar (aW (i := 7) nd rfl (by first | exact Or.inl rfl | exact Or.inr rfl) (aZ aE hr rfl (ab (ae (wpv 0)) (ab (ay ag) aB))))
   (ar (aW (i := 8) nd rfl (by first | exact Or.inl rfl | exact Or.inr rfl) (aZ aE hr rfl (ab (ae (wpv 0)) (ab (ay ag) aB))))
   (aC (cD (uu (mJ (aX mO vN (ae (wpv 5)) (ay ag) (aJ _)) (mJ (aX gF p6 (cG iK iJ rfl B.len PySem.boot_len (ab (ae (wpv 4)) aB)) (ay ag) (aJ _)) (mI (aX gF p6 (ae (wpv 7)) (ay ag) (aJ _)))))) (ar (bI (dY (ae (wpv 4)) (ab (aZ bB hr rfl (ab (ae (wpv 0)) (ab (ae (wpv 1)) (ab (ae (wpv 7)) (ab (ae (wpv 8)) aB))))) aB)))
   (aC (aW (i := 5) nd rfl (by first | exact Or.inl rfl | exact Or.inr rfl) (dk ff iI (ae (wpv 5)) (ay ag))))) (aC (cD (uu (mJ (aX mO vN (ae (wpv 5)) (ay ag) (aJ _)) (mJ (aX gF p6 (cG iK iJ rfl B.len PySem.boot_len (ab (ae (wpv 4)) aB)) (ay ag) (aJ _)) (mI (uu (Ad (aX eL ko (ae (wpv 7)) (ay ag) (aJ _)) (uv (aX eL ko (ae (wpv 3)) (ay ag) (aJ _))))))))) (ar (cD (uu (mJ (aX mO vN (ae (wpv 5)) (ay ag) (aJ _)) (mJ (aX gF p6 (cG iK iJ rfl B.len PySem.boot_len (ab (ae (wpv 4)) aB)) (ay ag) (aJ _)) (mI (aX mO vN (aZ aE hr rfl (ab (ae (wpv 0)) (ab (ay ag) aB))) (ay ag) (aJ _)))))) (ar (bI (dY (ae (wpv 4)) (ab (fh (ab (cE aT) (ab (ae (wpv 8)) (ab (ay ag) aB)))) aB)))
   (aC (aW (i := 5) nd rfl (by first | exact Or.inl rfl | exact Or.inr rfl) (dk ff iI (ae (wpv 5)) (ay ag))))) bK)
   (ar (bI (dY (ae (wpv 4)) (ab (fh (ab (cE aT) aB)) aB)))
   (aC (aW (i := 5) nd rfl (by first | exact Or.inl rfl | exact Or.inr rfl) (dk ff iI (ae (wpv 5)) (ay ag)))))) (aC (cD (uu (mJ (aX mO vN (ae (wpv 5)) (ay ag) (aJ _)) (mI (aX gF p6 (cG iK iJ rfl B.len PySem.boot_len (ab (ae (wpv 4)) aB)) (ay ag) (aJ _))))) (ar (aW (i := 9) nd rfl (by first | exact Or.inl rfl | exact Or.inr rfl) (aZ dM hr rfl (ab (ae (wpv 0)) (ab (ae (wpv 1)) (ab (aZ aE hr rfl (ab (ae (wpv 0)) (ab (ae (wpv 5)) aB))) (ab (dk ff iI (ae (wpv 3)) (ay ag)) aB))))))
   (ar (aW (i := 5) nd rfl (by first | exact Or.inl rfl | exact Or.inr rfl) (dk ff iI (dk ff iI (ae (wpv 5)) (ay ag)) (aZ d8 hr rfl (ab (ae (wpv 9)) aB))))
   (ar (aW (i := 10) nd rfl (by first | exact Or.inl rfl | exact Or.inr rfl) (aZ dM hr rfl (ab (ae (wpv 0)) (ab (ae (wpv 1)) (ab (aZ aE hr rfl (ab (ae (wpv 0)) (ab (dk dX dW (ae (wpv 5)) (ay ag)) aB))) (ab (dk ff iI (ae (wpv 3)) (ay ag)) aB))))))
   (ar (aW (i := 5) nd rfl (by first | exact Or.inl rfl | exact Or.inr rfl) (dk ff iI (ae (wpv 5)) (aZ d8 hr rfl (ab (ae (wpv 10)) aB))))
   (aC (bI (dY (ae (wpv 4)) (ab (fh (ab (cE aT) (ab (ae (wpv 9)) (ab (ae (wpv 10)) aB)))) aB)))))))) bK)))))))))
   (aC (aV (fH e9 nV rfl B.tuple OG.eU (ab (ae (wpv 4)) aB)))))))
theorem hV : aU ["world", "word", "box"] ["world", "word"] (ao cU) := ⟨rfl, rfl, rfl, by decide +kernel, rfl, by decide +kernel, by decide +kernel⟩
theorem oy {k : Nat} (d : Def K mg "bounds_of" cU ["world", "word"]) (B : Blt mg) (C_HAND : Bv K mg "HAND" [0, 3]) (C_LEAP : Bv K mg "LEAP" [1, 12]) : dn P w K mg base "bounds_of" (k + 1) ["world", "word"] (fnU 3 2 (aS )) :=
 d.pure hV fun f cdv A outer s H E hr => by
  have hu := er hr
  have nd := hV.nd
  exact (ar (aW (i := 2) nd rfl (by first | exact Or.inl rfl | exact Or.inr rfl) (fh (ab (ay ag) (ab (dk ff iI (gh hu (ae (wpv 0)) (ay ag) (fun _ _ => rfl) (fun _ _ => rfl)) (ay ag)) aB))))
   (ar (cD (aX eL ko (ae (wpv 1)) (cE aT) (aJ _)) (aC (aV (fh (ab (jA rfl C_HAND) (ab (ae (wpv 2)) aB))))) bK)
   (ar (cD (aX eL ko (ae (wpv 1)) (cE aT) (aJ _)) (aC (aV (fh (ab (ae (wpv 2)) (ab (jA rfl C_HAND) aB))))) bK)
   (ar (cD (aX eL ko (ae (wpv 1)) (cE aT) (aJ _)) (aC (aV (fh (ab (jA rfl C_HAND) (ab (fh (ab (ay ag) (ab (dk ff iI (gh hu (ae (wpv 0)) (ay ag) (fun _ _ => rfl) (fun _ _ => rfl)) (ay ag)) aB))) aB))))) bK)
   (ar (cD (aX eL ko (ae (wpv 1)) (cE aT) (aJ _)) (aC (aV (fh (ab (jA rfl C_HAND) (ab (jA rfl C_HAND) aB))))) bK)
   (ar (cD (aX eL ko (ae (wpv 1)) (cE aT) (aJ _)) (aC (aV (fh (ab (jA rfl C_HAND) (ab (jA rfl C_LEAP) aB))))) bK)
   (ar (cD (aX eL ko (ae (wpv 1)) (cE aT) (aJ _)) (aC (aV (fh aB))) bK)
   (aC (aV (nS fV))))))))))
theorem hU : aU ["word"] ["word"] (ao cT) := ⟨rfl, rfl, rfl, by decide +kernel, rfl, by decide +kernel, by decide +kernel⟩
theorem ox {k : Nat} (d : Def K mg "number_in" cT ["word"]) (B : Blt mg) (C_MOST_FIGURES : ∃ t, mg "MOST_FIGURES" = some (.int (4) t)) (C_FIGURES : ∃ t, mg "FIGURES" = some (.str "0123456789" t)) : dn P w K mg base "number_in" (k + 1) ["word"] (fnU 1 1 (d6 )) :=
 d.pure hU fun f cdv A outer s H E hr => by
  have hu := er hr
  have nd := hU.nd
  exact (ar (cD (uu (Ad (aX eL ko (cG vQ vM rfl B.len PySem.boot_len (ab (ae (wpv 0)) aB)) (ay ag) (aJ _)) (Ad (aX mO vN (cG vQ vM rfl B.len PySem.boot_len (ab (ae (wpv 0)) aB)) (ay (iL rfl C_MOST_FIGURES)) (aJ _)) (uv (mH (ib (cG (vj rfl) Dj rfl B.all OG.vt (ab (rB (Nc := ["sign"]) (tn := ["sign"]) (capN := []) (caps := []) rfl (Ab (ae (wpv 0))) (fun _ _ _ => (eW (dg (i := 0) (show (["sign"] : List Str).Nodup by decide +kernel) rfl (by first | exact Or.inl rfl | exact Or.inr rfl)))) (fun _ _ _ => (C6 (ae (wpv 0)) (cE (tW rfl C_FIGURES)) (by with_unfolding_all rfl))) rfl rfl (by decide +kernel) (by decide +kernel) trivial rfl .nil rfl rfl) aB)))))))) (aC (aV (nS fV))) bK)
   (ar (cD (uu (mJ (aX eL ko (C5 (ae (wpv 0)) (ay ag) (fun _ _ => rfl)) (cE aT) (aJ _)) (mI (aX uR BC (ae (wpv 0)) (cE aT) (aJ _))))) (aC (aV (nS fV))) bK)
   (aC (aV (fH AS AM rfl B.int OG.lU (ab (ae (wpv 0)) aB))))))
theorem fQ : aU ["self", "world", "words"] ["self", "world", "words"] (ao b9) := ⟨rfl, rfl, rfl, by decide +kernel, rfl, by decide +kernel, by decide +kernel⟩
theorem lM {k : Nat} {cReader : Cl} {fa : Addr} {fd : FuncData} (F : Fun K "__init__" "Reader.__init__" b9 fa fd) (bi : dS K fd ["self", "world", "words"] []) (mk : Mk K cReader.C fa) (hmg : mg "Reader" = some (.ref cReader.C)) (B : Blt mg) (TReader : TC K cReader ["world", "words", "place", "many"]) : CMk P w K mg base cReader "Reader" (k + 1) ["self", "world", "words"] (fnU 3 3 (dj cReader)) :=
 ⟨⟨fa, fd, mk, F.pure fQ fun cdv A outer s H E hr => (by
  have hu := er hr
  have nd := fQ.nd
  exact (ar (gE TReader.cl (TReader.na 0 rfl) (TReader.ix rfl) (ae (wpv 0)) (ae (wpv 1)))
   (ar (gE TReader.cl (TReader.na 1 rfl) (TReader.ix rfl) (ae (wpv 0)) (ae (wpv 2)))
   (ar (gE TReader.cl (TReader.na 2 rfl) (TReader.ix rfl) (ae (wpv 0)) (ay ag))
   (aC (gE TReader.cl (TReader.na 3 rfl) (TReader.ix rfl) (ae (wpv 0)) (ay ag))))))), bi, hmg⟩, by rw [TReader.ns]; decide +kernel, by rw [TReader.ns]; decide⟩
theorem fP : aU ["self"] ["self"] (ao b8) := ⟨rfl, rfl, rfl, by decide +kernel, rfl, by decide +kernel, by decide +kernel⟩
theorem lL {k : Nat} {cReader : Cl} {fa : Addr} {fd : FuncData} (F : Fun K "word" "Reader.word" b8 fa fd) (bi : dS K fd ["self"] []) (mt : jY K cReader.C "word" fa) (B : Blt mg) (TReader : TC K cReader ["world", "words", "place", "many"]) : ef P w K mg base cReader "word" (k + 1) ["self"] (fnU 1 1 (dh cReader)) :=
 ⟨⟨fa, fd, mt, F.pure fP fun cdv A outer s H E hr => (by
  have hu := er hr
  have nd := fP.nd
  exact (ar (cD (aX gF p6 (kg TReader.cl (TReader.na 2 rfl) (TReader.ix rfl) (ae (wpv 0))) (cG iK iJ rfl B.len PySem.boot_len (ab (kg TReader.cl (TReader.na 1 rfl) (TReader.ix rfl) (ae (wpv 0))) aB)) (aJ _)) (aC (aV (gh hu (kg TReader.cl (TReader.na 1 rfl) (TReader.ix rfl) (ae (wpv 0))) (kg TReader.cl (TReader.na 2 rfl) (TReader.ix rfl) (ae (wpv 0))) (fun _ _ => rfl) (fun _ _ => rfl)))) bK)
   (aC (aV (cE aT))))), bi⟩⟩
theorem fA : aU ["self", "fits"] ["self", "fits"] (ao bX) := ⟨rfl, rfl, rfl, by decide +kernel, rfl, by decide +kernel, by decide +kernel⟩
theorem ky {k : Nat} {cReader : Cl} {fa : Addr} {fd : FuncData} (F : Fun K "check" "Reader.check" bX fa fd) (bi : dS K fd ["self", "fits"] []) (mt : jY K cReader.C "check" fa) (B : Blt mg) : ef P w K mg base cReader "check" (k + 1) ["self", "fits"] (fnU 2 2 (cP )) :=
 ⟨⟨fa, fd, mt, F.pure fA fun cdv A outer s H E hr => (by
  have hu := er hr
  have nd := fA.nd
  exact (aC (cD (mH (ib (ae (wpv 1)))) (aC ur) bK))), bi⟩⟩
theorem fz : aU ["self"] ["self"] (ao bW) := ⟨rfl, rfl, rfl, by decide +kernel, rfl, by decide +kernel, by decide +kernel⟩
theorem kx {k : Nat} {cReader : Cl} {fa : Addr} {fd : FuncData} (F : Fun K "go_on" "Reader.go_on" bW fa fd) (bi : dS K fd ["self"] []) (mt : jY K cReader.C "go_on" fa) (B : Blt mg) (TReader : TC K cReader ["world", "words", "place", "many"]) : ef P w K mg base cReader "go_on" (k + 1) ["self"] (fnU 1 1 (cN cReader)) :=
 ⟨⟨fa, fd, mt, F.pure fz fun cdv A outer s H E hr => (by
  have hu := er hr
  have nd := fz.nd
  exact (aC (gE TReader.cl (TReader.na 2 rfl) (TReader.ix rfl) (ae (wpv 0)) (dk dX dW (kg TReader.cl (TReader.na 2 rfl) (TReader.ix rfl) (ae (wpv 0))) (ay ag))))), bi⟩⟩
theorem dN : aU ["self", "bound", "number"] ["self", "bound"] (ao aY) := ⟨rfl, rfl, rfl, by decide +kernel, rfl, by decide +kernel, by decide +kernel⟩
theorem fM {k : Nat} {cY aw af ak : Fn} {cReader : Cl} {fa : Addr} {fd : FuncData} (F : Fun K "read_number" "Reader.read_number" aY fa fd) (bi : dS K fd ["self", "bound"] []) (mt : jY K cReader.C "read_number" fa) (B : Blt mg) (TReader : TC K cReader ["world", "words", "place", "many"]) (gf : dn P w K mg base "number_in" (k) ["word"] cY) (M_Reader_word : ef P w K mg base cReader "word" (k) ["self"] aw) (M_Reader_check : ef P w K mg base cReader "check" (k) ["self", "fits"] af) (M_Reader_go_on : ef P w K mg base cReader "go_on" (k) ["self"] ak) : ef P w K mg base cReader "read_number" (k + 1) ["self", "bound"] (fnU 3 2 (bq cY aw af ak cReader)) :=
 ⟨⟨fa, fd, mt, F.pure dN fun cdv A outer s H E hr => (by
  have hu := er hr
  have nd := dN.nd
  exact (ar (aW (i := 2) nd rfl (by first | exact Or.inl rfl | exact Or.inr rfl) (aZ gf hr rfl (ab (eK TReader.cl M_Reader_word hr (TReader.nm (by decide +kernel)) (ae (wpv 0))) aB)))
   (ar (bI (fe TReader.cl M_Reader_check hr (TReader.nm (by decide +kernel)) (ae (wpv 0)) (ab (jB (iH rH vL (ae (wpv 2)) (nS fV) (aJ _)) (pZ (xC AN Eb AN Eb (gh hu (ae (wpv 1)) (ay ag) (fun _ _ => rfl) (fun _ _ => rfl)) (ae (wpv 2)) (gh hu (ae (wpv 1)) (ay ag) (fun _ _ => rfl) (fun _ _ => rfl))))) aB)))
   (ar (bI (eK TReader.cl M_Reader_go_on hr (TReader.nm (by decide +kernel)) (ae (wpv 0))))
   (aC (aV (ae (wpv 2)))))))), bi⟩⟩
theorem d0 : aU ["self", "tries_left", "word", "bounds", "deed", "bound"] ["self", "tries_left"] (ao bo) := ⟨rfl, rfl, rfl, by decide +kernel, rfl, by decide +kernel, by decide +kernel⟩
theorem b3 {k : Nat} {bS aw aP af ak aG : Fn} {cReader : Cl} {fa : Addr} {fd : FuncData} (F : Fun K "read_deed" "Reader.read_deed" bo fa fd) (bi : dS K fd ["self", "tries_left"] []) (mt : jY K cReader.C "read_deed" fa) (B : Blt mg) (TReader : TC K cReader ["world", "words", "place", "many"]) (dE : dn P w K mg base "bounds_of" (k) ["world", "word"] bS) (M_Reader_word : ef P w K mg base cReader "word" (k) ["self"] aw) (M_Reader_read_try : ef P w K mg base cReader "read_try" (k) ["self", "tries_left"] aP) (M_Reader_check : ef P w K mg base cReader "check" (k) ["self", "fits"] af) (M_Reader_go_on : ef P w K mg base cReader "go_on" (k) ["self"] ak) (M_Reader_read_number : ef P w K mg base cReader "read_number" (k) ["self", "bound"] aG) : ef P w K mg base cReader "read_deed" (k + 1) ["self", "tries_left"] (fnU 6 2 (bp bS aw aP af ak aG cReader)) :=
 ⟨⟨fa, fd, mt, F.pure d0 fun cdv A outer s H E hr => (by
  have hu := er hr
  have nd := d0.nd
  exact (ar (aW (i := 2) nd rfl (by first | exact Or.inl rfl | exact Or.inr rfl) (eK TReader.cl M_Reader_word hr (TReader.nm (by decide +kernel)) (ae (wpv 0))))
   (ar (cD (aX eL ko (ae (wpv 2)) (cE aT) (aJ _)) (aC (aV (fe TReader.cl M_Reader_read_try hr (TReader.nm (by decide +kernel)) (ae (wpv 0)) (ab (ae (wpv 1)) aB)))) bK)
   (ar (aW (i := 3) nd rfl (by first | exact Or.inl rfl | exact Or.inr rfl) (aZ dE hr rfl (ab (kg TReader.cl (TReader.na 0 rfl) (TReader.ix rfl) (ae (wpv 0))) (ab (ae (wpv 2)) aB))))
   (ar (bI (fe TReader.cl M_Reader_check hr (TReader.nm (by decide +kernel)) (ae (wpv 0)) (ab (iH rH vL (ae (wpv 3)) (nS fV) (aJ _)) aB)))
   (ar (bI (eK TReader.cl M_Reader_go_on hr (TReader.nm (by decide +kernel)) (ae (wpv 0))))
   (ar (aW (i := 4) nd rfl (by first | exact Or.inl rfl | exact Or.inr rfl) (kf (ab (ae (wpv 2)) aB)))
   (ar (jx PassesOwn.never rfl (kW (ae (wpv 3))) (eW (dg (i := 5) nd rfl (by first | exact Or.inl rfl | exact Or.inr rfl))) (aC (bI (dY (ae (wpv 4)) (ab (fe TReader.cl M_Reader_read_number hr (TReader.nm (by decide +kernel)) (ae (wpv 0)) (ab (ae (wpv 5)) aB)) aB)))))
   (aC (aV (fH e9 nV rfl B.tuple OG.eU (ab (ae (wpv 4)) aB)))))))))))), bi⟩⟩
theorem eD : aU ["self", "tries_left", "one", "other"] ["self", "tries_left"] (ao bx) := ⟨rfl, rfl, rfl, by decide +kernel, rfl, by decide +kernel, by decide +kernel⟩
theorem cg {k : Nat} {af ak aA : Fn} {cReader : Cl} {fa : Addr} {fd : FuncData} (F : Fun K "read_try" "Reader.read_try" bx fa fd) (bi : dS K fd ["self", "tries_left"] []) (mt : jY K cReader.C "read_try" fa) (B : Blt mg) (TReader : TC K cReader ["world", "words", "place", "many"]) (M_Reader_check : ef P w K mg base cReader "check" (k) ["self", "fits"] af) (M_Reader_go_on : ef P w K mg base cReader "go_on" (k) ["self"] ak) (M_Reader_read_run : ef P w K mg base cReader "read_run" (k) ["self", "tries_left"] aA) : ef P w K mg base cReader "read_try" (k + 1) ["self", "tries_left"] (fnU 4 2 (bM af ak aA cReader)) :=
 ⟨⟨fa, fd, mt, F.pure eD fun cdv A outer s H E hr => (by
  have hu := er hr
  have nd := eD.nd
  exact (ar (bI (fe TReader.cl M_Reader_check hr (TReader.nm (by decide +kernel)) (ae (wpv 0)) (ab (iH mO vN (ae (wpv 1)) (ay ag) (aJ _)) aB)))
   (ar (bI (eK TReader.cl M_Reader_go_on hr (TReader.nm (by decide +kernel)) (ae (wpv 0))))
   (ar (aW (i := 2) nd rfl (by first | exact Or.inl rfl | exact Or.inr rfl) (fe TReader.cl M_Reader_read_run hr (TReader.nm (by decide +kernel)) (ae (wpv 0)) (ab (dk ff iI (ae (wpv 1)) (ay ag)) aB)))
   (ar (aW (i := 3) nd rfl (by first | exact Or.inl rfl | exact Or.inr rfl) (fe TReader.cl M_Reader_read_run hr (TReader.nm (by decide +kernel)) (ae (wpv 0)) (ab (dk ff iI (ae (wpv 1)) (ay ag)) aB)))
   (aC (aV (fh (ab (cE aT) (ab (ae (wpv 2)) (ab (ae (wpv 3)) aB))))))))))), bi⟩⟩
theorem eE : aU ["self", "tries_left", "deeds"] ["self", "tries_left"] (ao bz) := ⟨rfl, rfl, rfl, by decide +kernel, rfl, by decide +kernel, by decide +kernel⟩
theorem cq {k : Nat} {af aw ak aK : Fn} {cReader : Cl} {fuel : Nat} {fa : Addr} {fd : FuncData} (F : Fun K "read_run" "Reader.read_run" bz fa fd) (bi : dS K fd ["self", "tries_left"] []) (mt : jY K cReader.C "read_run" fa) (B : Blt mg) (C_MOST_IN_TUPLE : ∃ t, mg "MOST_IN_TUPLE" = some (.int (12) t)) (C_MOST_IN_ALL : ∃ t, mg "MOST_IN_ALL" = some (.int (40) t)) (TReader : TC K cReader ["world", "words", "place", "many"]) (M_Reader_check : ef P w K mg base cReader "check" (k) ["self", "fits"] af) (M_Reader_word : ef P w K mg base cReader "word" (k) ["self"] aw) (M_Reader_go_on : ef P w K mg base cReader "go_on" (k) ["self"] ak) (M_Reader_read_deed : ef P w K mg base cReader "read_deed" (k) ["self", "tries_left"] aK) : ef P w K mg base cReader "read_run" (k + 1) ["self", "tries_left"] (fnU 3 2 (bN af aw ak aK cReader fuel)) :=
 ⟨⟨fa, fd, mt, F.pure eE fun cdv A outer s H E hr => (by
  have hu := er hr
  have nd := eE.nd
  exact (ar (bI (fe TReader.cl M_Reader_check hr (TReader.nm (by decide +kernel)) (ae (wpv 0)) (ab (iH eL ko (eK TReader.cl M_Reader_word hr (TReader.nm (by decide +kernel)) (ae (wpv 0))) (cE aT) (aJ _)) aB)))
   (ar (bI (eK TReader.cl M_Reader_go_on hr (TReader.nm (by decide +kernel)) (ae (wpv 0))))
   (ar (aW (i := 2) nd rfl (by first | exact Or.inl rfl | exact Or.inr rfl) (kf aB))
   (ar (uq fuel PassesOwn.never (aX uR BC (eK TReader.cl M_Reader_word hr (TReader.nm (by decide +kernel)) (ae (wpv 0))) (cE aT) (aJ _)) (ar (bI (fe TReader.cl M_Reader_check hr (TReader.nm (by decide +kernel)) (ae (wpv 0)) (ab (jB (iH gF p6 (cG iK iJ rfl B.len PySem.boot_len (ab (ae (wpv 2)) aB)) (ay (iL rfl C_MOST_IN_TUPLE)) (aJ _)) (pZ (iH gF p6 (kg TReader.cl (TReader.na 3 rfl) (TReader.ix rfl) (ae (wpv 0))) (ay (iL rfl C_MOST_IN_ALL)) (aJ _)))) aB)))
   (ar (gE TReader.cl (TReader.na 3 rfl) (TReader.ix rfl) (ae (wpv 0)) (dk dX dW (kg TReader.cl (TReader.na 3 rfl) (TReader.ix rfl) (ae (wpv 0))) (ay ag)))
   (aC (bI (dY (ae (wpv 2)) (ab (fe TReader.cl M_Reader_read_deed hr (TReader.nm (by decide +kernel)) (ae (wpv 0)) (ab (ae (wpv 1)) aB)) aB)))))))
   (ar (bI (eK TReader.cl M_Reader_go_on hr (TReader.nm (by decide +kernel)) (ae (wpv 0))))
   (aC (aV (fH e9 nV rfl B.tuple OG.eU (ab (ae (wpv 2)) aB)))))))))), bi⟩⟩
theorem eF : aU ["self", "dealing"] ["self"] (ao bA) := ⟨rfl, rfl, rfl, by decide +kernel, rfl, by decide +kernel, by decide +kernel⟩
theorem gH {k : Nat} {aA af : Fn} {cReader : Cl} {fa : Addr} {fd : FuncData} (F : Fun K "read_all" "Reader.read_all" bA fa fd) (bi : dS K fd ["self"] []) (mt : jY K cReader.C "read_all" fa) (B : Blt mg) (C_MOST_TRIES : ∃ t, mg "MOST_TRIES" = some (.int (3) t)) (TReader : TC K cReader ["world", "words", "place", "many"]) (M_Reader_read_run : ef P w K mg base cReader "read_run" (k) ["self", "tries_left"] aA) (M_Reader_check : ef P w K mg base cReader "check" (k) ["self", "fits"] af) : ef P w K mg base cReader "read_all" (k + 1) ["self"] (fnU 2 1 (bO aA af cReader)) :=
 ⟨⟨fa, fd, mt, F.pure eF fun cdv A outer s H E hr => (by
  have hu := er hr
  have nd := eF.nd
  exact (ar (aW (i := 1) nd rfl (by first | exact Or.inl rfl | exact Or.inr rfl) (fe TReader.cl M_Reader_read_run hr (TReader.nm (by decide +kernel)) (ae (wpv 0)) (ab (ay (iL rfl C_MOST_TRIES)) aB)))
   (ar (bI (fe TReader.cl M_Reader_check hr (TReader.nm (by decide +kernel)) (ae (wpv 0)) (ab (iH eL ko (kg TReader.cl (TReader.na 2 rfl) (TReader.ix rfl) (ae (wpv 0))) (cG iK iJ rfl B.len PySem.boot_len (ab (kg TReader.cl (TReader.na 1 rfl) (TReader.ix rfl) (ae (wpv 0))) aB)) (aJ _)) aB)))
   (aC (aV (ae (wpv 1))))))), bi⟩⟩
theorem fk : aU ["world", "text"] ["world", "text"] (ao bD) := ⟨rfl, rfl, rfl, by decide +kernel, rfl, by decide +kernel, by decide +kernel⟩
theorem kq {k : Nat} {bh bV : Fn} {cReader : Cl} (d : Def K mg "read_dealing" bD ["world", "text"]) (B : Blt mg) (TReader : TC K cReader ["world", "words", "place", "many"]) (M_Reader_read_all : ef P w K mg base cReader "read_all" (k + 1) ["self"] bh) (M_Reader : CMk P w K mg base cReader "Reader" k ["self", "world", "words"] bV) : dn P w K mg base "read_dealing" (k + 1 + 1) ["world", "text"] (fnU 2 2 (cK bh bV cReader)) :=
 d.pure fk fun f cdv A outer s H E hr => by
  have hu := er hr
  have nd := fk.nd
  exact (aC (aV (eK TReader.cl M_Reader_read_all hr (TReader.nm (by decide +kernel)) (Af M_Reader hr rfl (ab (ae (wpv 0)) (ab (xA (ae (wpv 1)) (ab (cE aT) aB)) aB))))))
theorem ju : aU ["dealing", "words", "deed", "part"] ["dealing"] (ao dv) := ⟨rfl, rfl, rfl, by decide +kernel, rfl, by decide +kernel, by decide +kernel⟩
theorem fK {k : Nat} {aN : Fn} (d : Def K mg "words_of" dv ["dealing"]) (B : Blt mg) (gQ : dn P w K mg base "words_of" (k) ["dealing"] aN) : dn P w K mg base "words_of" (k + 1) ["dealing"] (fnU 4 1 (eR aN)) :=
 d.pure ju fun f cdv A outer s H E hr => by
  have hu := er hr
  have nd := ju.nd
  exact (ar (aW (i := 1) nd rfl (by first | exact Or.inl rfl | exact Or.inr rfl) (kf (ab (cE aT) aB)))
   (ar (jx PassesOwn.never rfl (kW (ae (wpv 0))) (eW (dg (i := 2) nd rfl (by first | exact Or.inl rfl | exact Or.inr rfl))) (ar (bI (dY (ae (wpv 1)) (ab (gh hu (ae (wpv 2)) (ay ag) (fun _ _ => rfl) (fun _ _ => rfl)) aB)))
   (aC (jx PassesOwn.never rfl (kW (Ea (ae (wpv 2)) (rz (ay ag)) rA)) (eW (dg (i := 3) nd rfl (by first | exact Or.inl rfl | exact Or.inr rfl))) (aC (cD (aX eL ko (gh hu (ae (wpv 2)) (ay ag) (fun _ _ => rfl) (fun _ _ => rfl)) (cE aT) (aJ _)) (aC (bI (uw (ae (wpv 1)) (ab (aZ gQ hr rfl (ab (ae (wpv 3)) aB)) aB)))) (aC (bI (dY (ae (wpv 1)) (ab (fH ik AI rfl B.str OG.iR (ab (ae (wpv 3)) aB)) aB))))))))))
   (ar (bI (dY (ae (wpv 1)) (ab (cE aT) aB)))
   (aC (aV (ae (wpv 1)))))))
theorem fq : aU ["dealing"] ["dealing"] (ao bF) := ⟨rfl, rfl, rfl, by decide +kernel, rfl, by decide +kernel, by decide +kernel⟩
theorem kr {k : Nat} {aN : Fn} (d : Def K mg "dealing_text" bF ["dealing"]) (B : Blt mg) (gQ : dn P w K mg base "words_of" (k) ["dealing"] aN) : dn P w K mg base "dealing_text" (k + 1) ["dealing"] (fnU 1 1 (cL aN)) :=
 d.pure fq fun f cdv A outer s H E hr => by
  have hu := er hr
  have nd := fq.nd
  exact (aC (aV (vK (cE aT) (ab (aZ gQ hr rfl (ab (ae (wpv 0)) aB)) aB))))
theorem gp : aU ["dealing", "found", "deed"] ["dealing"] (ao b5) := ⟨rfl, rfl, rfl, by decide +kernel, rfl, by decide +kernel, by decide +kernel⟩
theorem eG {k : Nat} {aF : Fn} (d : Def K mg "_law_words" b5 ["dealing"]) (B : Blt mg) (eJ : dn P w K mg base "_law_words" (k) ["dealing"] aF) : dn P w K mg base "_law_words" (k + 1) ["dealing"] (fnU 3 1 (dQ aF)) :=
 d.pure gp fun f cdv A outer s H E hr => by
  have hu := er hr
  have nd := gp.nd
  exact (ar (aW (i := 1) nd rfl (by first | exact Or.inl rfl | exact Or.inr rfl) (kf (ab (cE aT) aB)))
   (ar (jx PassesOwn.never rfl (kW (ae (wpv 0))) (eW (dg (i := 2) nd rfl (by first | exact Or.inl rfl | exact Or.inr rfl))) (aC (cD (aX eL ko (gh hu (ae (wpv 2)) (ay ag) (fun _ _ => rfl) (fun _ _ => rfl)) (cE aT) (aJ _)) (aC (aW (i := 1) nd rfl (by first | exact Or.inl rfl | exact Or.inr rfl) (dk dX dW (dk dX dW (dk dX dW (ae (wpv 1)) (kf (ab (cE aT) aB))) (aZ eJ hr rfl (ab (gh hu (ae (wpv 2)) (ay ag) (fun _ _ => rfl) (fun _ _ => rfl)) aB))) (aZ eJ hr rfl (ab (gh hu (ae (wpv 2)) (ay ag) (fun _ _ => rfl) (fun _ _ => rfl)) aB))))) (aC (aW (i := 1) nd rfl (by first | exact Or.inl rfl | exact Or.inr rfl) (dk dX dW (dk dX dW (ae (wpv 1)) (kf (ab (gh hu (ae (wpv 2)) (ay ag) (fun _ _ => rfl) (fun _ _ => rfl)) aB))) (rB (Nc := ["number"]) (tn := ["number"]) (capN := []) (caps := []) rfl (kW (Ea (ae (wpv 2)) (rz (ay ag)) rA)) (fun _ _ _ => (eW (dg (i := 0) (show (["number"] : List Str).Nodup by decide +kernel) rfl (by first | exact Or.inl rfl | exact Or.inr rfl)))) (fun _ _ _ => (fH ik AI rfl B.str OG.iR (ab (ae (wpv 0)) aB))) rfl rfl (by decide +kernel) (by decide +kernel) trivial rfl .nil rfl rfl)))))))
   (aC (aV (dk dX dW (ae (wpv 1)) (kf (ab (cE aT) aB)))))))
theorem h9 : aU ["found", "due"] ["found", "due"] (ao cX) := ⟨rfl, rfl, rfl, by decide +kernel, rfl, by decide +kernel, by decide +kernel⟩
theorem bR {k : Nat} {aL : Fn} (d : Def K mg "_law_same" cX ["found", "due"]) (B : Blt mg) (d9 : dn P w K mg base "_law_same" (k) ["found", "due"] aL) : dn P w K mg base "_law_same" (k + 1) ["found", "due"] (fnU 2 2 (cZ aL)) :=
 d.pure h9 fun f cdv A outer s H E hr => by
  have hu := er hr
  have nd := h9.nd
  exact (ar (cD (aX vP AL (ae (wpv 1)) (nS fV) (aJ _)) (aC (aV (iH vP AL (ae (wpv 0)) (nS fV) (aJ _)))) bK)
   (ar (cD (ib (jy (T := .bool) (by intro z; cases z) (ae (wpv 1)) (fj rfl B.bool OG.jW) rfl B.isinstance)) (aC (aV (jB (jy (T := .bool) (by intro z; cases z) (ae (wpv 0)) (fj rfl B.bool OG.jW) rfl B.isinstance) (pZ (iH eL ko (ae (wpv 0)) (ae (wpv 1)) (aJ _)))))) bK)
   (ar (cD (ib (jy (T := .str) (by intro z; cases z) (ae (wpv 1)) (fj rfl B.str OG.iR) rfl B.isinstance)) (aC (aV (jB (jy (T := .str) (by intro z; cases z) (ae (wpv 0)) (fj rfl B.str OG.iR) rfl B.isinstance) (pZ (iH eL ko (ae (wpv 0)) (ae (wpv 1)) (aJ _)))))) bK)
   (ar (cD (ib (jy (T := .int) (by intro z; cases z) (ae (wpv 1)) (fj rfl B.int OG.lU) rfl B.isinstance)) (aC (aV (jB (jy (T := .int) (by intro z; cases z) (ae (wpv 0)) (fj rfl B.int OG.lU) rfl B.isinstance) (jB (Ae (jy (T := .bool) (by intro z; cases z) (ae (wpv 0)) (fj rfl B.bool OG.jW) rfl B.isinstance)) (pZ (iH eL ko (ae (wpv 0)) (ae (wpv 1)) (aJ _))))))) bK)
   (ar (cD (uu (Ad (aX uR BC (jy (T := .tuple) (by intro z; cases z) (ae (wpv 1)) (fj rfl B.tuple OG.eU) rfl B.isinstance) (jy (T := .tuple) (by intro z; cases z) (ae (wpv 0)) (fj rfl B.tuple OG.eU) rfl B.isinstance) (aJ _)) (uv (aX uR BC (jy (T := .list) (by intro z; cases z) (ae (wpv 1)) (fj rfl B.list OG.jU) rfl B.isinstance) (jy (T := .list) (by intro z; cases z) (ae (wpv 0)) (fj rfl B.list OG.jU) rfl B.isinstance) (aJ _))))) (aC (aV (Ag mx))) bK)
   (aC (aV (jB (iH eL ko (cG iK iJ rfl B.len PySem.boot_len (ab (ae (wpv 0)) aB)) (cG iK iJ rfl B.len PySem.boot_len (ab (ae (wpv 1)) aB)) (aJ _)) (pZ (xB hu (Ag mx) (rB (Nc := ["one", "other"]) (tn := ["one", "other"]) (capN := []) (caps := []) rfl (Aa rfl B.zip (ae (wpv 0)) (ae (wpv 1))) (fun _ _ _ => (Ac rfl (o8 (dg (i := 0) (show (["one", "other"] : List Str).Nodup by decide +kernel) rfl (by first | exact Or.inl rfl | exact Or.inr rfl)) (o8 (dg (i := 1) (show (["one", "other"] : List Str).Nodup by decide +kernel) rfl (by first | exact Or.inl rfl | exact Or.inr rfl)) xy)))) (fun _ _ _ => (aZ d9 hr rfl (ab (ae (wpv 0)) (ab (ae (wpv 1)) aB)))) rfl rfl (by decide +kernel) (by decide +kernel) trivial rfl .nil rfl rfl) (by with_unfolding_all rfl)))))))))))
theorem vH : aU ["script", "pen", "world", "turn", "dealing", "text", "found"] ["script"] (ao kc) := ⟨rfl, rfl, rfl, by decide +kernel, rfl, by decide +kernel, by decide +kernel⟩
noncomputable def oI (b7 ax aF aL bt bJ : Fn) : CS :=
 (bw (dU 4 (cCB ax (ah (aq 1) (ah (aq 2) (ah (cC (.int 40)) (ah (cC (.int 3)) aI))))))
  (bw (dU 5 (cBS lP (cC (.str " ")) (ah (cCB aF (ah (aq 4) aI)) aI)))
  (bw (eS (yu (aM (cCB aL (ah (cCB bt (ah (aq 4) aI)) (ah (aq 5) aI))))) (eO (cC (.bl false))) cH)
  (bw (dU 6 (cCB bJ (ah (aq 2) (ah (aq 5) aI))))
  (eS (cOr (yu (aM (cCB aL (ah (aq 6) (ah (aq 4) aI))))) (yu (aM (cCB aL (ah (cCB bt (ah (aq 6) aI)) (ah (aq 5) aI)))))) (eO (cC (.bl false))) cH)))))
noncomputable def sT (b7 ax aF aL bt bJ : Fn) : CS :=
 (bw (dU 2 (cCB b7 (ah (aq 1) aI)))
  (bw (lT (jM (ah (cC (.int 5)) aI)) (gNm 3) (oI b7 ax aF aL bt bJ))
  (eO (cC (.bl true)))))
theorem DM {k : Nat} {b7 ax aF aL bt bJ : Fn} {fa : Addr} {fd : FuncData} (F : Fun K "law" "law" kc fa fd) (B : Blt mg) (qv : Has P w K mg base "_law_pen" k ["script"] (vE K)) (fF : dn P w K mg base "_law_world" k ["pen"] b7) (dM : dn P w K mg base "_law_dealing" k ["pen", "world", "room", "tries"] ax) (eJ : dn P w K mg base "_law_words" k ["dealing"] aF) (d9 : dn P w K mg base "_law_same" k ["found", "due"] aL) (dJ : dn P w K mg base "dealing_text" k ["dealing"] bt) (eN : dn P w K mg base "read_dealing" k ["world", "text"] bJ)
  (ok : ∀ (ns : List Int) (a c : Int), 0 ≤ a → 0 ≤ c → ∃ ρ' S', sT b7 ax aF aL bt bJ [none, some (.ref 1), none, none, none, none, none] [.lst (ns.map U.int), .lst [.ref 0, .int a, .int c]] = some (.rt (.bl true), ρ', S')) : iU P w K mg base CX0 (k + 1) fa fd ["script"] (uf K) := by
 refine Fun.okW F vH (fun vs H Q E h => (by obtain ⟨a, ns, rfl, _⟩ := h; rfl)) fun cdv A outer s H vs Q E hr h => ?_
 obtain ⟨a, ns, rfl, hS, fS, q⟩ := h
 have hu := er hr
 have nd := vH.nd
 refine ⟨_, mq (u := tS K (sT b7 ax aF aL bt bJ)) (qD (i := 1) nd rfl (by first | exact Or.inl rfl | exact Or.inr rfl) (vA qv hr rfl (dF (wpv 0) gy))) (ar (aW (i := 2) nd rfl (by first | exact Or.inl rfl | exact Or.inr rfl) (aZ fF hr rfl (ab (ae (wpv 1)) aB)))
   (ar (jx PassesOwn.never rfl (mG rfl B.range (ab (ay ag) aB)) (eW (dg (i := 3) nd rfl (by first | exact Or.inl rfl | exact Or.inr rfl))) (ar (aW (i := 4) nd rfl (by first | exact Or.inl rfl | exact Or.inr rfl) (aZ dM hr rfl (ab (ae (wpv 1)) (ab (ae (wpv 2)) (ab (ay ag) (ab (ay ag) aB))))))
   (ar (aW (i := 5) nd rfl (by first | exact Or.inl rfl | exact Or.inr rfl) (vK (cE aT) (ab (aZ eJ hr rfl (ab (ae (wpv 4)) aB)) aB)))
   (ar (cD (mH (ib (aZ d9 hr rfl (ab (aZ dJ hr rfl (ab (ae (wpv 4)) aB)) (ab (ae (wpv 5)) aB))))) (aC (aV (Ag mx))) bK)
   (ar (aW (i := 6) nd rfl (by first | exact Or.inl rfl | exact Or.inr rfl) (aZ eN hr rfl (ab (ae (wpv 2)) (ab (ae (wpv 5)) aB))))
   (aC (cD (uu (Ad (mH (ib (aZ d9 hr rfl (ab (ae (wpv 6)) (ab (ae (wpv 4)) aB))))) (uv (mH (ib (aZ d9 hr rfl (ab (aZ dJ hr rfl (ab (ae (wpv 6)) aB)) (ab (ae (wpv 5)) aB)))))))) (aC (aV (Ag mx))) bK)))))))
   (aC (aV (Ag mx))))), ?_⟩
 refine ⟨_, rfl, a, ns, rfl, hS, fun p xs H1 s1 P1 n1 => ?_⟩
 exact yi P1 ok q
end
noncomputable abbrev fL (cR : Cl) (f : Fn → Fn → Fn → Fn → Fn → Fn → CS) : CS := f lW (nJ 3) (LwJ 3) (dq 9) lZ (pN cR)
theorem mB {cR : Cl} (hns : cR.ns.length = 4) (ns : List Int) {n w : Int} (n0 : 1 ≤ n) (n1 : n ≤ 6) (w0 : 2 ≤ w) (w1 : w ≤ 1000) : ∀ (us : List U) (T : Sto) (a c : Int) (r3 r4 r5 r6 : Option U), 0 ≤ a → 0 ≤ c →
  ∃ ρ S', eM (fun _ => True) (gNm 3) (fL cR oI) us [none, some (.ref 1), some (.tup [.int n, .int w]), r3, r4, r5, r6] (scr ns :: pen a c :: T) = some (.nx, ρ, S')
 | [], T, a, c, r3, r4, r5, r6, _, _ => ⟨_, _, eX trivial⟩
 | u :: us, T, a, c, r3, r4, r5, r6, ha, hc => by
  obtain ⟨ds, a1, c1, G1, e1, kd, sz, _, ha1, hc1, _⟩ := pF n0 n1 w0 w1 3 3 3 (by omega) (by omega) ns T a c 40 ha hc (by omega) (by omega)
  obtain ⟨Y, hY⟩ : ∃ Y, Y = scr ns :: pen a1 c1 :: (T ++ G1) := ⟨_, rfl⟩
  rw [← hY] at e1
  obtain ⟨s1, s2⟩ := oZ n1 w1 kd sz
  obtain ⟨l, G2, e2, g2⟩ := vR n1 w1 3 3 (by omega) ds Y kd (by omega)
  have ej := rY n1 w1 kd sz g2
  obtain ⟨G3, e3⟩ := pD (S := Y ++ G2) n1 w1 kd sz
  obtain ⟨G4, e4⟩ := iM (k := 8) (i := txt ds) (S := Y ++ G2 ++ G3) []
  rw [List.append_nil, List.nil_append] at e4
  obtain ⟨G5, e5⟩ := xw (cR := cR) (S := Y ++ G2 ++ G3 ++ G4) hns n1 w1 kd sz
  obtain ⟨G6, e6⟩ := vI (n := n) (w := w) (S := Y ++ G2 ++ G3 ++ G4 ++ G5) 3 0 ds kd []
  rw [List.append_nil, List.nil_append] at e6
  obtain ⟨G7, e7⟩ := pD (S := Y ++ G2 ++ G3 ++ G4 ++ G5 ++ G6) n1 w1 kd sz
  obtain ⟨G8, e8⟩ := iM (k := 8) (i := txt ds) (S := Y ++ G2 ++ G3 ++ G4 ++ G5 ++ G6 ++ G7) []
  rw [List.append_nil, List.nil_append] at e8
  obtain ⟨v, hv⟩ : ∃ v, v = U.tup (ds.map (Dl.u 3)) := ⟨_, rfl⟩
  obtain ⟨ρ', S', ih⟩ := mB hns ns n0 n1 w0 w1 us (T ++ G1 ++ G2 ++ G3 ++ G4 ++ G5 ++ G6 ++ G7 ++ G8) a1 c1 (some u) (some v) (some (.str (txt ds))) (some v) ha1 hc1
  have eY : scr ns :: pen a1 c1 :: (T ++ G1 ++ G2 ++ G3 ++ G4 ++ G5 ++ G6 ++ G7 ++ G8) = Y ++ G2 ++ G3 ++ G4 ++ G5 ++ G6 ++ G7 ++ G8 := by rw [hY]; simp only [List.cons_append]
  rw [eY] at ih
  have c3' : ((3 : Nat) : Int) = 3 := rfl
  rw [c3'] at e1
  rw [← hv] at e1 e2 e3 e5 e6 e7
  obtain ⟨Y2, hY2⟩ : ∃ Y2, Y2 = Y ++ G2 := ⟨_, rfl⟩
  rw [← hY2] at e2 g2 ej e3 e4 e5 e6 e7 e8 ih
  obtain ⟨Y3, hY3⟩ : ∃ Y3, Y3 = Y2 ++ G3 := ⟨_, rfl⟩
  rw [← hY3] at e3 e4 e5 e6 e7 e8 ih
  obtain ⟨Y4, hY4⟩ : ∃ Y4, Y4 = Y3 ++ G4 := ⟨_, rfl⟩
  rw [← hY4] at e4 e5 e6 e7 e8 ih
  obtain ⟨Y5, hY5⟩ : ∃ Y5, Y5 = Y4 ++ G5 := ⟨_, rfl⟩
  rw [← hY5] at e5 e6 e7 e8 ih
  obtain ⟨Y6, hY6⟩ : ∃ Y6, Y6 = Y5 ++ G6 := ⟨_, rfl⟩
  rw [← hY6] at e6 e7 e8 ih
  obtain ⟨Y7, hY7⟩ : ∃ Y7, Y7 = Y6 ++ G7 := ⟨_, rfl⟩
  rw [← hY7] at e7 e8 ih
  obtain ⟨Y8, hY8⟩ : ∃ Y8, Y8 = Y7 ++ G8 := ⟨_, rfl⟩
  rw [← hY8] at e8 ih
  refine ⟨ρ', S', (bP trivial rfl ?_).trans ih⟩
  have hbs : cBS lP (cC (.str " ")) (ah (cCB (LwJ 3) (ah (aq 4) aI)) aI) [none, some (.ref 1), some (.tup [.int n, .int w]), some u, some v, r5, r6] Y = some (.str (txt ds), Y2) := by
   unfold cBS
   rw [x_c, Option.bind_some]
   have h1 : aq 4 [none, some (.ref 1), some (.tup [.int n, .int w]), some u, some v, r5, r6] Y = some (v, Y) := rfl
   simp only [ml, CM, h1, iW, qA, iV, wM, e2, Option.bind_some, ej]
  unfold fL oI
  rw [fG (ρ' := [none, some (.ref 1), some (.tup [.int n, .int w]), some u, some v, r5, r6]) (S' := Y) (by rwa [e1])]
  rw [fG (ρ' := [none, some (.ref 1), some (.tup [.int n, .int w]), some u, some v, some (.str (txt ds)), r6]) (S' := Y2) (by rw [wq, hbs, Option.bind_some, qz]; rfl)]
  rw [fG (ρ' := [none, some (.ref 1), some (.tup [.int n, .int w]), some u, some v, some (.str (txt ds)), r6]) (S' := Y4) (by rwa [e3, e4])]
  rw [fG (ρ' := [none, some (.ref 1), some (.tup [.int n, .int w]), some u, some v, some (.str (txt ds)), some v]) (S' := Y5) (by rwa [e5])]
  rwa [e6, e7, e8]
theorem A0 {cR : Cl} (hns : cR.ns.length = 4) (ns : List Int) (a c : Int) (ha : 0 ≤ a) (hc : 0 ≤ c) : ∃ ρ' S', (fL cR sT) [none, some (.ref 1), none, none, none, none, none] [.lst (ns.map U.int), .lst [.ref 0, .int a, .int c]] = some (.rt (.bl true), ρ', S') := by
 obtain ⟨n, w, a1, c1, G, e1, n0, n1, w0, w1, ha1, hc1⟩ := t4 ns [] ha hc
 obtain ⟨ρ, S', e2⟩ := mB (cR := cR) hns ns n0 n1 w0 w1 (jw 0 5) ([] ++ G) a1 c1 none none none none ha1 hc1
 refine ⟨ρ, S', ?_⟩
 have r5 : jM (ah (cC (.int 5)) aI) = fun ρ S => some (jw 0 5, fun _ => True, S) := rfl
 show sT lW (nJ 3) (LwJ 3) (dq 9) lZ (pN cR) _ _ = _
 unfold pen at e1
 rwa [sT, lT, r5, e1]
 unfold pen at e2
 simp only [List.nil_append] at e2
 rw [e2]
 rfl
section
variable {P : Program} {w : World} {K : PySem.W.Frag} {mg : Str → Option Value} {base : Heap}
theorem jv : aU ["script"] ["script"] (ao dw) := ⟨rfl, rfl, rfl, by decide +kernel, rfl, by decide +kernel, by decide +kernel⟩
theorem yn {k : Nat} (B : Blt mg) (d : Def K mg "_law_pen" dw ["script"]) : Has P w K mg base "_law_pen" (k+1) ["script"] (vE K) := by
 refine d.has jv (fun vs H Q E h => ?_) (fun f cdv A outer s H vs Q E hr h => ?_)
 ·obtain ⟨a, ns, rfl, _⟩ := h; rfl
 obtain ⟨a, ns, rfl, hS, q⟩ := h
 have nd := jv.nd
 refine ⟨_, (oR (qE (qI (dF (kM ng rfl B.list OG.jU (dF (mr rb (wpv 0) oT (oS ag)) gy)) (dF ag (dF ag gy)))))), ?_⟩
 refine ⟨_, rfl, _, rfl, a, _, rfl, hS, fun p hp => ⟨p, _, rfl, .inl (SqL.of bj), fun l hl => ⟨(by show 3 ≤ sizeLine; decide), fun r hr' => ?_⟩⟩⟩
 obtain ⟨ms, em⟩ : ∃ ms : List Int, sN (ns.map V.int) none (some 63) = ms.map V.int := ⟨_, vf _ _ _⟩
 rw [em] at hl hr' ⊢
 refine q r l _ (((dG hp _).trans (dG hl _)).trans (dG hr' _)) ⟨ms, 0, 0, bj, ?_, cf bj hr', by decide, by decide⟩ ?_
 ·rw [bL (cf bj hr')]; exact bj
 ·exact (((dG hp _).trans (dG hl _))).free hr'
end
theorem Bu {l : PySem.W.OpenLaw} {w : World} {K : PySem.W.Frag} {h : Heap} {mg : Str → Option Value} {fa : Addr} (X : K.In h) (G : h.Ns mainGlobals mg) (hfa : mg "law" = some (.ref fa))
  {f1 : Addr} {od1 an1 : Option Addr} {sl1 : Array (Option Value)} {oc1 kV1 dc1 pm1 cd1 ct1 : Value}
  {f2 : Addr} {od2 an2 : Option Addr} {sl2 : Array (Option Value)} {oc2 kV2 dc2 pm2 cd2 ct2 : Value}
  {f3 : Addr} {od3 an3 : Option Addr} {sl3 : Array (Option Value)} {oc3 kV3 dc3 pm3 cd3 ct3 : Value}
  {f4 : Addr} {od4 an4 : Option Addr} {sl4 : Array (Option Value)} {oc4 kV4 dc4 pm4 cd4 ct4 : Value}
  {f5 : Addr} {od5 an5 : Option Addr} {sl5 : Array (Option Value)} {oc5 kV5 dc5 pm5 cd5 ct5 : Value}
  {f6 : Addr} {od6 an6 : Option Addr} {sl6 : Array (Option Value)} {oc6 kV6 dc6 pm6 cd6 ct6 : Value}
  {f7 : Addr} {od7 an7 : Option Addr} {sl7 : Array (Option Value)} {oc7 kV7 dc7 pm7 cd7 ct7 : Value}
  {f8 : Addr} {od8 an8 : Option Addr} {sl8 : Array (Option Value)} {oc8 kV8 dc8 pm8 cd8 ct8 : Value}
  {f9 : Addr} {od9 an9 : Option Addr} {sl9 : Array (Option Value)} {oc9 kV9 dc9 pm9 cd9 ct9 : Value}
  {f10 : Addr} {od10 an10 : Option Addr} {sl10 : Array (Option Value)} {oc10 kV10 dc10 pm10 cd10 ct10 : Value}
  {f11 : Addr} {od11 an11 : Option Addr} {sl11 : Array (Option Value)} {oc11 kV11 dc11 pm11 cd11 ct11 : Value}
  {f12 : Addr} {od12 an12 : Option Addr} {sl12 : Array (Option Value)} {oc12 kV12 dc12 pm12 cd12 ct12 : Value}
  {f13 : Addr} {od13 an13 : Option Addr} {sl13 : Array (Option Value)} {oc13 kV13 dc13 pm13 cd13 ct13 : Value}
  {f14 : Addr} {od14 an14 : Option Addr} {sl14 : Array (Option Value)} {oc14 kV14 dc14 pm14 cd14 ct14 : Value}
  {CReader : Addr}
  {f15 : Addr} {od15 an15 : Option Addr} {sl15 : Array (Option Value)} {oc15 kV15 dc15 pm15 cd15 ct15 : Value}
  {f16 : Addr} {od16 an16 : Option Addr} {sl16 : Array (Option Value)} {oc16 kV16 dc16 pm16 cd16 ct16 : Value}
  {f17 : Addr} {od17 an17 : Option Addr} {sl17 : Array (Option Value)} {oc17 kV17 dc17 pm17 cd17 ct17 : Value}
  {f18 : Addr} {od18 an18 : Option Addr} {sl18 : Array (Option Value)} {oc18 kV18 dc18 pm18 cd18 ct18 : Value}
  {f19 : Addr} {od19 an19 : Option Addr} {sl19 : Array (Option Value)} {oc19 kV19 dc19 pm19 cd19 ct19 : Value}
  {f20 : Addr} {od20 an20 : Option Addr} {sl20 : Array (Option Value)} {oc20 kV20 dc20 pm20 cd20 ct20 : Value}
  {f21 : Addr} {od21 an21 : Option Addr} {sl21 : Array (Option Value)} {oc21 kV21 dc21 pm21 cd21 ct21 : Value}
  {f22 : Addr} {od22 an22 : Option Addr} {sl22 : Array (Option Value)} {oc22 kV22 dc22 pm22 cd22 ct22 : Value}
  {f23 : Addr} {od23 an23 : Option Addr} {sl23 : Array (Option Value)} {oc23 kV23 dc23 pm23 cd23 ct23 : Value}
  {tk24_0 tk24_1 : Tok} {pt24 : Addr} {pd24 : Option Addr} {pn24 : Nat} {pl24 : Array (Option Value)}
  {tk25_0 tk25_1 : Tok} {pt25 : Addr} {pd25 : Option Addr} {pn25 : Nat} {pl25 : Array (Option Value)}
  {tk26 : Tok}
  {tk27 : Tok}
  {tk28 : Tok}
  {tk29 : Tok}
  {tk30 : Tok}
  (a1 : PySem.W.nsIn K mainGlobals "_law_take" = some (some (.ref f1))) (l1 : K.lookup f1 = some ⟨oc1, od1, .func (PySem.W.fnOf "_law_take" "_law_take" (ba cV) (aR cV) (ao cV) .none kV1 dc1 pm1 an1 cd1 ct1), sl1⟩) (c1 : PySem.W.codeIn K cd1 "_law_take" = true) (k1 : PySem.W.keepIn K (.ref f1) = true)
  (a2 : PySem.W.nsIn K mainGlobals "_law_world" = some (some (.ref f2))) (l2 : K.lookup f2 = some ⟨oc2, od2, .func (PySem.W.fnOf "_law_world" "_law_world" (ba b4) (aR b4) (ao b4) .none kV2 dc2 pm2 an2 cd2 ct2), sl2⟩) (c2 : PySem.W.codeIn K cd2 "_law_world" = true) (k2 : PySem.W.keepIn K (.ref f2) = true)
  (a3 : PySem.W.nsIn K mainGlobals "_law_size" = some (some (.ref f3))) (l3 : K.lookup f3 = some ⟨oc3, od3, .func (PySem.W.fnOf "_law_size" "_law_size" (ba cW) (aR cW) (ao cW) .none kV3 dc3 pm3 an3 cd3 ct3), sl3⟩) (c3 : PySem.W.codeIn K cd3 "_law_size" = true) (k3 : PySem.W.keepIn K (.ref f3) = true)
  (a4 : PySem.W.nsIn K mainGlobals "_law_plain_deed" = some (some (.ref f4))) (l4 : K.lookup f4 = some ⟨oc4, od4, .func (PySem.W.fnOf "_law_plain_deed" "_law_plain_deed" (ba bc) (aR bc) (ao bc) .none kV4 dc4 pm4 an4 cd4 ct4), sl4⟩) (c4 : PySem.W.codeIn K cd4 "_law_plain_deed" = true) (k4 : PySem.W.keepIn K (.ref f4) = true)
  (a5 : PySem.W.nsIn K mainGlobals "_law_dealing" = some (some (.ref f5))) (l5 : K.lookup f5 = some ⟨oc5, od5, .func (PySem.W.fnOf "_law_dealing" "_law_dealing" (ba bH) (aR bH) (ao bH) .none kV5 dc5 pm5 an5 cd5 ct5), sl5⟩) (c5 : PySem.W.codeIn K cd5 "_law_dealing" = true) (k5 : PySem.W.keepIn K (.ref f5) = true)
  (a6 : PySem.W.nsIn K mainGlobals "bounds_of" = some (some (.ref f6))) (l6 : K.lookup f6 = some ⟨oc6, od6, .func (PySem.W.fnOf "bounds_of" "bounds_of" (ba cU) (aR cU) (ao cU) .none kV6 dc6 pm6 an6 cd6 ct6), sl6⟩) (c6 : PySem.W.codeIn K cd6 "bounds_of" = true) (k6 : PySem.W.keepIn K (.ref f6) = true)
  (a7 : PySem.W.nsIn K mainGlobals "number_in" = some (some (.ref f7))) (l7 : K.lookup f7 = some ⟨oc7, od7, .func (PySem.W.fnOf "number_in" "number_in" (ba cT) (aR cT) (ao cT) .none kV7 dc7 pm7 an7 cd7 ct7), sl7⟩) (c7 : PySem.W.codeIn K cd7 "number_in" = true) (k7 : PySem.W.keepIn K (.ref f7) = true)
  (a8 : PySem.W.nsIn K mainGlobals "read_dealing" = some (some (.ref f8))) (l8 : K.lookup f8 = some ⟨oc8, od8, .func (PySem.W.fnOf "read_dealing" "read_dealing" (ba bD) (aR bD) (ao bD) .none kV8 dc8 pm8 an8 cd8 ct8), sl8⟩) (c8 : PySem.W.codeIn K cd8 "read_dealing" = true) (k8 : PySem.W.keepIn K (.ref f8) = true)
  (a9 : PySem.W.nsIn K mainGlobals "words_of" = some (some (.ref f9))) (l9 : K.lookup f9 = some ⟨oc9, od9, .func (PySem.W.fnOf "words_of" "words_of" (ba dv) (aR dv) (ao dv) .none kV9 dc9 pm9 an9 cd9 ct9), sl9⟩) (c9 : PySem.W.codeIn K cd9 "words_of" = true) (k9 : PySem.W.keepIn K (.ref f9) = true)
  (a10 : PySem.W.nsIn K mainGlobals "dealing_text" = some (some (.ref f10))) (l10 : K.lookup f10 = some ⟨oc10, od10, .func (PySem.W.fnOf "dealing_text" "dealing_text" (ba bF) (aR bF) (ao bF) .none kV10 dc10 pm10 an10 cd10 ct10), sl10⟩) (c10 : PySem.W.codeIn K cd10 "dealing_text" = true) (k10 : PySem.W.keepIn K (.ref f10) = true)
  (a11 : PySem.W.nsIn K mainGlobals "_law_words" = some (some (.ref f11))) (l11 : K.lookup f11 = some ⟨oc11, od11, .func (PySem.W.fnOf "_law_words" "_law_words" (ba b5) (aR b5) (ao b5) .none kV11 dc11 pm11 an11 cd11 ct11), sl11⟩) (c11 : PySem.W.codeIn K cd11 "_law_words" = true) (k11 : PySem.W.keepIn K (.ref f11) = true)
  (a12 : PySem.W.nsIn K mainGlobals "_law_same" = some (some (.ref f12))) (l12 : K.lookup f12 = some ⟨oc12, od12, .func (PySem.W.fnOf "_law_same" "_law_same" (ba cX) (aR cX) (ao cX) .none kV12 dc12 pm12 an12 cd12 ct12), sl12⟩) (c12 : PySem.W.codeIn K cd12 "_law_same" = true) (k12 : PySem.W.keepIn K (.ref f12) = true)
  (a13 : PySem.W.nsIn K mainGlobals "_law_pen" = some (some (.ref f13))) (l13 : K.lookup f13 = some ⟨oc13, od13, .func (PySem.W.fnOf "_law_pen" "_law_pen" (ba dw) (aR dw) (ao dw) .none kV13 dc13 pm13 an13 cd13 ct13), sl13⟩) (c13 : PySem.W.codeIn K cd13 "_law_pen" = true) (k13 : PySem.W.keepIn K (.ref f13) = true)
  (a14 : PySem.W.nsIn K mainGlobals "law" = some (some (.ref f14))) (l14 : K.lookup f14 = some ⟨oc14, od14, .func (PySem.W.fnOf "law" "law" (ba kc) (aR kc) (ao kc) .none kV14 dc14 pm14 an14 cd14 ct14), sl14⟩) (c14 : PySem.W.codeIn K cd14 "law" = true) (k14 : PySem.W.keepIn K (.ref f14) = true)
  (aCReader : PySem.W.nsIn K mainGlobals "Reader" = some (some (.ref CReader))) (pgReader : PySem.W.plainGet K CReader Str.empty = true) (hdReader : PySem.W.hasDictIn K CReader = true) (poReader : PySem.W.plainOver K CReader = true) (saReader : PySem.W.findIn K (.ref CReader) "__setattr__" = some (some (.builtin "object.__setattr__"))) (mkReader : PySem.W.makesIn K CReader = true) (kcReader : PySem.W.keepIn K (.ref CReader) = true)
  (nfReader0 : PySem.W.findIn K (.ref CReader) "world" = some none)
  (nfReader1 : PySem.W.findIn K (.ref CReader) "words" = some none)
  (nfReader2 : PySem.W.findIn K (.ref CReader) "place" = some none)
  (nfReader3 : PySem.W.findIn K (.ref CReader) "many" = some none)
  (a15 : PySem.W.findIn K (.ref CReader) "__init__" = some (some (.ref f15))) (i15 : PySem.W.isFn K (.ref f15) = true) (l15 : K.lookup f15 = some ⟨oc15, od15, .func (PySem.W.fnOf "__init__" "Reader.__init__" (ba b9) (aR b9) (ao b9) .none kV15 dc15 pm15 an15 cd15 ct15), sl15⟩) (c15 : PySem.W.codeIn K cd15 "Reader.__init__" = true) (k15 : PySem.W.keepIn K (.ref f15) = true)
  (a16 : PySem.W.findIn K (.ref CReader) "word" = some (some (.ref f16))) (i16 : PySem.W.isFn K (.ref f16) = true) (l16 : K.lookup f16 = some ⟨oc16, od16, .func (PySem.W.fnOf "word" "Reader.word" (ba b8) (aR b8) (ao b8) .none kV16 dc16 pm16 an16 cd16 ct16), sl16⟩) (c16 : PySem.W.codeIn K cd16 "Reader.word" = true) (k16 : PySem.W.keepIn K (.ref f16) = true)
  (a17 : PySem.W.findIn K (.ref CReader) "check" = some (some (.ref f17))) (i17 : PySem.W.isFn K (.ref f17) = true) (l17 : K.lookup f17 = some ⟨oc17, od17, .func (PySem.W.fnOf "check" "Reader.check" (ba bX) (aR bX) (ao bX) .none kV17 dc17 pm17 an17 cd17 ct17), sl17⟩) (c17 : PySem.W.codeIn K cd17 "Reader.check" = true) (k17 : PySem.W.keepIn K (.ref f17) = true)
  (a18 : PySem.W.findIn K (.ref CReader) "go_on" = some (some (.ref f18))) (i18 : PySem.W.isFn K (.ref f18) = true) (l18 : K.lookup f18 = some ⟨oc18, od18, .func (PySem.W.fnOf "go_on" "Reader.go_on" (ba bW) (aR bW) (ao bW) .none kV18 dc18 pm18 an18 cd18 ct18), sl18⟩) (c18 : PySem.W.codeIn K cd18 "Reader.go_on" = true) (k18 : PySem.W.keepIn K (.ref f18) = true)
  (a19 : PySem.W.findIn K (.ref CReader) "read_number" = some (some (.ref f19))) (i19 : PySem.W.isFn K (.ref f19) = true) (l19 : K.lookup f19 = some ⟨oc19, od19, .func (PySem.W.fnOf "read_number" "Reader.read_number" (ba aY) (aR aY) (ao aY) .none kV19 dc19 pm19 an19 cd19 ct19), sl19⟩) (c19 : PySem.W.codeIn K cd19 "Reader.read_number" = true) (k19 : PySem.W.keepIn K (.ref f19) = true)
  (a20 : PySem.W.findIn K (.ref CReader) "read_deed" = some (some (.ref f20))) (i20 : PySem.W.isFn K (.ref f20) = true) (l20 : K.lookup f20 = some ⟨oc20, od20, .func (PySem.W.fnOf "read_deed" "Reader.read_deed" (ba bo) (aR bo) (ao bo) .none kV20 dc20 pm20 an20 cd20 ct20), sl20⟩) (c20 : PySem.W.codeIn K cd20 "Reader.read_deed" = true) (k20 : PySem.W.keepIn K (.ref f20) = true)
  (a21 : PySem.W.findIn K (.ref CReader) "read_try" = some (some (.ref f21))) (i21 : PySem.W.isFn K (.ref f21) = true) (l21 : K.lookup f21 = some ⟨oc21, od21, .func (PySem.W.fnOf "read_try" "Reader.read_try" (ba bx) (aR bx) (ao bx) .none kV21 dc21 pm21 an21 cd21 ct21), sl21⟩) (c21 : PySem.W.codeIn K cd21 "Reader.read_try" = true) (k21 : PySem.W.keepIn K (.ref f21) = true)
  (a22 : PySem.W.findIn K (.ref CReader) "read_run" = some (some (.ref f22))) (i22 : PySem.W.isFn K (.ref f22) = true) (l22 : K.lookup f22 = some ⟨oc22, od22, .func (PySem.W.fnOf "read_run" "Reader.read_run" (ba bz) (aR bz) (ao bz) .none kV22 dc22 pm22 an22 cd22 ct22), sl22⟩) (c22 : PySem.W.codeIn K cd22 "Reader.read_run" = true) (k22 : PySem.W.keepIn K (.ref f22) = true)
  (a23 : PySem.W.findIn K (.ref CReader) "read_all" = some (some (.ref f23))) (i23 : PySem.W.isFn K (.ref f23) = true) (l23 : K.lookup f23 = some ⟨oc23, od23, .func (PySem.W.fnOf "read_all" "Reader.read_all" (ba bA) (aR bA) (ao bA) .none kV23 dc23 pm23 an23 cd23 ct23), sl23⟩) (c23 : PySem.W.codeIn K cd23 "Reader.read_all" = true) (k23 : PySem.W.keepIn K (.ref f23) = true)
  (g24 : PySem.W.nsIn K mainGlobals "HAND" = some (some (.ref pt24))) (h24 : K.lookup pt24 = some ⟨.type "tuple", pd24, .seq #[.int 0 tk24_0, .int 3 tk24_1] pn24, pl24⟩)
  (g25 : PySem.W.nsIn K mainGlobals "LEAP" = some (some (.ref pt25))) (h25 : K.lookup pt25 = some ⟨.type "tuple", pd25, .seq #[.int 1 tk25_0, .int 12 tk25_1] pn25, pl25⟩)
  (g26 : PySem.W.nsIn K mainGlobals "MOST_FIGURES" = some (some (.int (4) tk26)))
  (g27 : PySem.W.nsIn K mainGlobals "FIGURES" = some (some (.str "0123456789" tk27)))
  (g28 : PySem.W.nsIn K mainGlobals "MOST_IN_TUPLE" = some (some (.int (12) tk28)))
  (g29 : PySem.W.nsIn K mainGlobals "MOST_IN_ALL" = some (some (.int (40) tk29)))
  (g30 : PySem.W.nsIn K mainGlobals "MOST_TRIES" = some (some (.int (3) tk30)))
  (z31 : PySem.W.nsIn K mainGlobals "len" = some none)
  (z32 : PySem.W.nsIn K mainGlobals "isinstance" = some none)
  (z33 : PySem.W.nsIn K mainGlobals "int" = some none)
  (z34 : PySem.W.nsIn K mainGlobals "bool" = some none)
  (z35 : PySem.W.nsIn K mainGlobals "str" = some none)
  (z36 : PySem.W.nsIn K mainGlobals "tuple" = some none)
  (z37 : PySem.W.nsIn K mainGlobals "list" = some none)
  (z38 : PySem.W.nsIn K mainGlobals "range" = some none)
  (z39 : PySem.W.nsIn K mainGlobals "min" = some none)
  (z40 : PySem.W.nsIn K mainGlobals "sum" = some none)
  (z41 : PySem.W.nsIn K mainGlobals "all" = some none)
  (z42 : PySem.W.nsIn K mainGlobals "zip" = some none)
  (z43 : PySem.W.nsIn K mainGlobals "sorted" = some none)
  (z44 : PySem.W.nsIn K mainGlobals "dict" = some none)
  (z45 : PySem.W.nsIn K mainGlobals "enumerate" = some none)
  (z46 : PySem.W.nsIn K mainGlobals "any" = some none)
  (z47 : PySem.W.nsIn K mainGlobals "max" = some none)
  (z48 : PySem.W.nsIn K mainGlobals "set" = some none) :
  ∃ fd : FuncData, (∀ (s : Shared) (v : Value), BindsTo s fd ⟨[v], []⟩ [("script", v)]) ∧ ∀ base : Heap, K.In base → base.Ns mainGlobals mg → iU l.prog w K mg base CX0 16 fa fd ["script"] (uf K) := by
 have e := hfa.symm.trans (PySem.W.mg_of X G a14)
 cases e
 have F__law_take := b6 (st := cV) l1 c1 k1
 have D__law_take : Def K mg "_law_take" cV ["pen", "many"] := ⟨_, _, F__law_take, F__law_take.binds (ps := ["pen", "many"]) fun _ _ _ _ _ _ => eV fun _ => eV fun _ => jX rfl, PySem.W.mg_of X G a1⟩
 have F__law_world := b6 (st := b4) l2 c2 k2
 have D__law_world : Def K mg "_law_world" b4 ["pen"] := ⟨_, _, F__law_world, F__law_world.binds (ps := ["pen"]) fun _ _ _ _ _ _ => eV fun _ => jX rfl, PySem.W.mg_of X G a2⟩
 have F__law_size := b6 (st := cW) l3 c3 k3
 have D__law_size : Def K mg "_law_size" cW ["dealing"] := ⟨_, _, F__law_size, F__law_size.binds (ps := ["dealing"]) fun _ _ _ _ _ _ => eV fun _ => jX rfl, PySem.W.mg_of X G a3⟩
 have F__law_plain_deed := b6 (st := bc) l4 c4 k4
 have D__law_plain_deed : Def K mg "_law_plain_deed" bc ["pen", "world", "way", "hand"] := ⟨_, _, F__law_plain_deed, F__law_plain_deed.binds (ps := ["pen", "world", "way", "hand"]) fun _ _ _ _ _ _ => eV fun _ => eV fun _ => eV fun _ => eV fun _ => jX rfl, PySem.W.mg_of X G a4⟩
 have F__law_dealing := b6 (st := bH) l5 c5 k5
 have D__law_dealing : Def K mg "_law_dealing" bH ["pen", "world", "room", "tries"] := ⟨_, _, F__law_dealing, F__law_dealing.binds (ps := ["pen", "world", "room", "tries"]) fun _ _ _ _ _ _ => eV fun _ => eV fun _ => eV fun _ => eV fun _ => jX rfl, PySem.W.mg_of X G a5⟩
 have F_bounds_of := b6 (st := cU) l6 c6 k6
 have D_bounds_of : Def K mg "bounds_of" cU ["world", "word"] := ⟨_, _, F_bounds_of, F_bounds_of.binds (ps := ["world", "word"]) fun _ _ _ _ _ _ => eV fun _ => eV fun _ => jX rfl, PySem.W.mg_of X G a6⟩
 have F_number_in := b6 (st := cT) l7 c7 k7
 have D_number_in : Def K mg "number_in" cT ["word"] := ⟨_, _, F_number_in, F_number_in.binds (ps := ["word"]) fun _ _ _ _ _ _ => eV fun _ => jX rfl, PySem.W.mg_of X G a7⟩
 have F_read_dealing := b6 (st := bD) l8 c8 k8
 have D_read_dealing : Def K mg "read_dealing" bD ["world", "text"] := ⟨_, _, F_read_dealing, F_read_dealing.binds (ps := ["world", "text"]) fun _ _ _ _ _ _ => eV fun _ => eV fun _ => jX rfl, PySem.W.mg_of X G a8⟩
 have F_words_of := b6 (st := dv) l9 c9 k9
 have D_words_of : Def K mg "words_of" dv ["dealing"] := ⟨_, _, F_words_of, F_words_of.binds (ps := ["dealing"]) fun _ _ _ _ _ _ => eV fun _ => jX rfl, PySem.W.mg_of X G a9⟩
 have F_dealing_text := b6 (st := bF) l10 c10 k10
 have D_dealing_text : Def K mg "dealing_text" bF ["dealing"] := ⟨_, _, F_dealing_text, F_dealing_text.binds (ps := ["dealing"]) fun _ _ _ _ _ _ => eV fun _ => jX rfl, PySem.W.mg_of X G a10⟩
 have F__law_words := b6 (st := b5) l11 c11 k11
 have D__law_words : Def K mg "_law_words" b5 ["dealing"] := ⟨_, _, F__law_words, F__law_words.binds (ps := ["dealing"]) fun _ _ _ _ _ _ => eV fun _ => jX rfl, PySem.W.mg_of X G a11⟩
 have F__law_same := b6 (st := cX) l12 c12 k12
 have D__law_same : Def K mg "_law_same" cX ["found", "due"] := ⟨_, _, F__law_same, F__law_same.binds (ps := ["found", "due"]) fun _ _ _ _ _ _ => eV fun _ => eV fun _ => jX rfl, PySem.W.mg_of X G a12⟩
 have F__law_pen := b6 (st := dw) l13 c13 k13
 have D__law_pen : Def K mg "_law_pen" dw ["script"] := ⟨_, _, F__law_pen, F__law_pen.binds (ps := ["script"]) fun _ _ _ _ _ _ => eV fun _ => jX rfl, PySem.W.mg_of X G a13⟩
 have F_law := b6 (st := kc) l14 c14 k14
 have D_law : Def K mg "law" kc ["script"] := ⟨_, _, F_law, F_law.binds (ps := ["script"]) fun _ _ _ _ _ _ => eV fun _ => jX rfl, PySem.W.mg_of X G a14⟩
 have TReader : TC K (⟨CReader, ["world", "words", "place", "many"]⟩ : Cl) ["world", "words", "place", "many"] := ⟨⟨pgReader, hdReader, poReader, saReader⟩, rfl, fun f hf => by
  simp only [List.mem_cons, List.not_mem_nil, or_false] at hf
  rcases hf with rfl | rfl | rfl | rfl
  ·exact nfReader0
  ·exact nfReader1
  ·exact nfReader2
  ·exact nfReader3⟩
 have mgC_Reader := PySem.W.mg_of X G aCReader
 have F_Reader_init := b6 (st := b9) l15 c15 k15
 have bi_Reader_init := F_Reader_init.binds (ps := ["self", "world", "words"]) fun _ _ _ _ _ _ => eV fun _ => eV fun _ => eV fun _ => jX rfl
 have mk_Reader : Mk K (⟨CReader, ["world", "words", "place", "many"]⟩ : Cl).C f15 := ⟨mkReader, a15, i15, kcReader⟩
 have F_Reader_word := b6 (st := b8) l16 c16 k16
 have bi_Reader_word := F_Reader_word.binds (ps := ["self"]) fun _ _ _ _ _ _ => eV fun _ => jX rfl
 have mt_Reader_word : jY K (⟨CReader, ["world", "words", "place", "many"]⟩ : Cl).C "word" f16 := ⟨a16, i16, k16⟩
 have F_Reader_check := b6 (st := bX) l17 c17 k17
 have bi_Reader_check := F_Reader_check.binds (ps := ["self", "fits"]) fun _ _ _ _ _ _ => eV fun _ => eV fun _ => jX rfl
 have mt_Reader_check : jY K (⟨CReader, ["world", "words", "place", "many"]⟩ : Cl).C "check" f17 := ⟨a17, i17, k17⟩
 have F_Reader_go_on := b6 (st := bW) l18 c18 k18
 have bi_Reader_go_on := F_Reader_go_on.binds (ps := ["self"]) fun _ _ _ _ _ _ => eV fun _ => jX rfl
 have mt_Reader_go_on : jY K (⟨CReader, ["world", "words", "place", "many"]⟩ : Cl).C "go_on" f18 := ⟨a18, i18, k18⟩
 have F_Reader_read_number := b6 (st := aY) l19 c19 k19
 have bi_Reader_read_number := F_Reader_read_number.binds (ps := ["self", "bound"]) fun _ _ _ _ _ _ => eV fun _ => eV fun _ => jX rfl
 have mt_Reader_read_number : jY K (⟨CReader, ["world", "words", "place", "many"]⟩ : Cl).C "read_number" f19 := ⟨a19, i19, k19⟩
 have F_Reader_read_deed := b6 (st := bo) l20 c20 k20
 have bi_Reader_read_deed := F_Reader_read_deed.binds (ps := ["self", "tries_left"]) fun _ _ _ _ _ _ => eV fun _ => eV fun _ => jX rfl
 have mt_Reader_read_deed : jY K (⟨CReader, ["world", "words", "place", "many"]⟩ : Cl).C "read_deed" f20 := ⟨a20, i20, k20⟩
 have F_Reader_read_try := b6 (st := bx) l21 c21 k21
 have bi_Reader_read_try := F_Reader_read_try.binds (ps := ["self", "tries_left"]) fun _ _ _ _ _ _ => eV fun _ => eV fun _ => jX rfl
 have mt_Reader_read_try : jY K (⟨CReader, ["world", "words", "place", "many"]⟩ : Cl).C "read_try" f21 := ⟨a21, i21, k21⟩
 have F_Reader_read_run := b6 (st := bz) l22 c22 k22
 have bi_Reader_read_run := F_Reader_read_run.binds (ps := ["self", "tries_left"]) fun _ _ _ _ _ _ => eV fun _ => eV fun _ => jX rfl
 have mt_Reader_read_run : jY K (⟨CReader, ["world", "words", "place", "many"]⟩ : Cl).C "read_run" f22 := ⟨a22, i22, k22⟩
 have F_Reader_read_all := b6 (st := bA) l23 c23 k23
 have bi_Reader_read_all := F_Reader_read_all.binds (ps := ["self"]) fun _ _ _ _ _ _ => eV fun _ => jX rfl
 have mt_Reader_read_all : jY K (⟨CReader, ["world", "words", "place", "many"]⟩ : Cl).C "read_all" f23 := ⟨a23, i23, k23⟩
 have C_HAND : Bv K mg "HAND" [0, 3] := ⟨_, _, _, _, PySem.W.mg_of X G g24, h24, rfl, rfl, (show 2 ≤ sizeLine by decide), (.cons ⟨tk24_0, rfl⟩ (.cons ⟨tk24_1, rfl⟩ .nil))⟩
 have C_LEAP : Bv K mg "LEAP" [1, 12] := ⟨_, _, _, _, PySem.W.mg_of X G g25, h25, rfl, rfl, (show 2 ≤ sizeLine by decide), (.cons ⟨tk25_0, rfl⟩ (.cons ⟨tk25_1, rfl⟩ .nil))⟩
 have C_MOST_FIGURES : ∃ t, mg "MOST_FIGURES" = some (.int (4) t) := ⟨_, PySem.W.mg_of X G g26⟩
 have C_FIGURES : ∃ t, mg "FIGURES" = some (.str "0123456789" t) := ⟨_, PySem.W.mg_of X G g27⟩
 have C_MOST_IN_TUPLE : ∃ t, mg "MOST_IN_TUPLE" = some (.int (12) t) := ⟨_, PySem.W.mg_of X G g28⟩
 have C_MOST_IN_ALL : ∃ t, mg "MOST_IN_ALL" = some (.int (40) t) := ⟨_, PySem.W.mg_of X G g29⟩
 have C_MOST_TRIES : ∃ t, mg "MOST_TRIES" = some (.int (3) t) := ⟨_, PySem.W.mg_of X G g30⟩
 have B : Blt mg := ⟨PySem.W.mg_none_of X G z31, PySem.W.mg_none_of X G z32, PySem.W.mg_none_of X G z33, PySem.W.mg_none_of X G z34, PySem.W.mg_none_of X G z35, PySem.W.mg_none_of X G z36, PySem.W.mg_none_of X G z37, PySem.W.mg_none_of X G z38, PySem.W.mg_none_of X G z39, PySem.W.mg_none_of X G z40, PySem.W.mg_none_of X G z41, PySem.W.mg_none_of X G z42, PySem.W.mg_none_of X G z43, PySem.W.mg_none_of X G z44, PySem.W.mg_none_of X G z45, PySem.W.mg_none_of X G z46, PySem.W.mg_none_of X G z47, PySem.W.mg_none_of X G z48⟩
 refine ⟨PySem.W.fnOf "law" "law" (ba kc) (aR kc) (ao kc) .none kV14 dc14 pm14 an14 cd14 ct14, fun s v => .of_eq rfl, fun base _ _ => ?_⟩
 have Gp := yn (P := l.prog) (w := w) (base := base) (k := 0) B D__law_pen
 have aE := oz (P := l.prog) (w := w) (base := base) (k := 0) D__law_take B 
 have fF := mY (P := l.prog) (w := w) (base := base) (k := 1) D__law_world B aE
 have iF : dn l.prog w K mg base "_law_size" 1 ["dealing"] (qr 0) := fZ (P := l.prog) (w := w) (base := base) (k := 0) D__law_size B (D__law_size.no)
 have iE : dn l.prog w K mg base "_law_size" 2 ["dealing"] (qr 1) := fZ (P := l.prog) (w := w) (base := base) (k := 1) D__law_size B iF
 have nz : dn l.prog w K mg base "_law_size" 3 ["dealing"] (qr 2) := fZ (P := l.prog) (w := w) (base := base) (k := 2) D__law_size B iE
 have bB := gG (P := l.prog) (w := w) (base := base) (k := 1) D__law_plain_deed B aE
 have j3 : dn l.prog w K mg base "_law_dealing" 3 ["pen", "world", "room", "tries"] (nJ 0) := dI (P := l.prog) (w := w) (base := base) (k := 2) D__law_dealing B (Has.mono aE (by decide)) bB (D__law_dealing.no) (D__law_size.no)
 have j2 : dn l.prog w K mg base "_law_dealing" 4 ["pen", "world", "room", "tries"] (nJ 1) := dI (P := l.prog) (w := w) (base := base) (k := 3) D__law_dealing B (Has.mono aE (by decide)) (Has.mono bB (by decide)) j3 (Has.mono iF (by decide))
 have j0 : dn l.prog w K mg base "_law_dealing" 5 ["pen", "world", "room", "tries"] (nJ 2) := dI (P := l.prog) (w := w) (base := base) (k := 4) D__law_dealing B (Has.mono aE (by decide)) (Has.mono bB (by decide)) j2 (Has.mono iE (by decide))
 have jZ : dn l.prog w K mg base "_law_dealing" 6 ["pen", "world", "room", "tries"] (nJ 3) := dI (P := l.prog) (w := w) (base := base) (k := 5) D__law_dealing B (Has.mono aE (by decide)) (Has.mono bB (by decide)) j0 (Has.mono nz (by decide))
 have dE := oy (P := l.prog) (w := w) (base := base) (k := 0) D_bounds_of B C_HAND C_LEAP
 have gf := ox (P := l.prog) (w := w) (base := base) (k := 0) D_number_in B C_MOST_FIGURES C_FIGURES
 have M_Reader_init := lM (P := l.prog) (w := w) (base := base) (k := 0) F_Reader_init bi_Reader_init mk_Reader mgC_Reader B TReader
 have M_Reader_word := lL (P := l.prog) (w := w) (base := base) (k := 0) F_Reader_word bi_Reader_word mt_Reader_word B TReader
 have M_Reader_check := ky (P := l.prog) (w := w) (base := base) (k := 0) F_Reader_check bi_Reader_check mt_Reader_check B 
 have M_Reader_go_on := kx (P := l.prog) (w := w) (base := base) (k := 0) F_Reader_go_on bi_Reader_go_on mt_Reader_go_on B TReader
 have M_Reader_read_number := fM (P := l.prog) (w := w) (base := base) (k := 1) F_Reader_read_number bi_Reader_read_number mt_Reader_read_number B TReader gf M_Reader_word M_Reader_check M_Reader_go_on
 have M_Reader_read_try0 : ef l.prog w K mg base (⟨CReader, ["world", "words", "place", "many"]⟩ : Cl) "read_try" 2 ["self", "tries_left"] (dR (⟨CReader, ["world", "words", "place", "many"]⟩ : Cl) (fun _ _ => none)) := cg (P := l.prog) (w := w) (base := base) (k := 1) F_Reader_read_try bi_Reader_read_try mt_Reader_read_try B TReader M_Reader_check M_Reader_go_on (ef.no F_Reader_read_run bi_Reader_read_run mt_Reader_read_run)
 have M_Reader_read_deed0 : ef l.prog w K mg base (⟨CReader, ["world", "words", "place", "many"]⟩ : Cl) "read_deed" 3 ["self", "tries_left"] (dC (⟨CReader, ["world", "words", "place", "many"]⟩ : Cl) (dR (⟨CReader, ["world", "words", "place", "many"]⟩ : Cl) (fun _ _ => none))) := b3 (P := l.prog) (w := w) (base := base) (k := 2) F_Reader_read_deed bi_Reader_read_deed mt_Reader_read_deed B TReader (Has.mono dE (by decide)) (M_Reader_word.mono (by decide)) M_Reader_read_try0 (M_Reader_check.mono (by decide)) (M_Reader_go_on.mono (by decide)) M_Reader_read_number
 have M_Reader_read_run0 : ef l.prog w K mg base (⟨CReader, ["world", "words", "place", "many"]⟩ : Cl) "read_run" 4 ["self", "tries_left"] (qt (⟨CReader, ["world", "words", "place", "many"]⟩ : Cl) 0) := cq (P := l.prog) (w := w) (base := base) (k := 3) (fuel := 100) F_Reader_read_run bi_Reader_read_run mt_Reader_read_run B C_MOST_IN_TUPLE C_MOST_IN_ALL TReader (M_Reader_check.mono (by decide)) (M_Reader_word.mono (by decide)) (M_Reader_go_on.mono (by decide)) M_Reader_read_deed0
 have M_Reader_read_try1 : ef l.prog w K mg base (⟨CReader, ["world", "words", "place", "many"]⟩ : Cl) "read_try" 5 ["self", "tries_left"] (dR (⟨CReader, ["world", "words", "place", "many"]⟩ : Cl) (qt (⟨CReader, ["world", "words", "place", "many"]⟩ : Cl) 0)) := cg (P := l.prog) (w := w) (base := base) (k := 4) F_Reader_read_try bi_Reader_read_try mt_Reader_read_try B TReader (M_Reader_check.mono (by decide)) (M_Reader_go_on.mono (by decide)) M_Reader_read_run0
 have M_Reader_read_deed1 : ef l.prog w K mg base (⟨CReader, ["world", "words", "place", "many"]⟩ : Cl) "read_deed" 6 ["self", "tries_left"] (dC (⟨CReader, ["world", "words", "place", "many"]⟩ : Cl) (dR (⟨CReader, ["world", "words", "place", "many"]⟩ : Cl) (qt (⟨CReader, ["world", "words", "place", "many"]⟩ : Cl) 0))) := b3 (P := l.prog) (w := w) (base := base) (k := 5) F_Reader_read_deed bi_Reader_read_deed mt_Reader_read_deed B TReader (Has.mono dE (by decide)) (M_Reader_word.mono (by decide)) M_Reader_read_try1 (M_Reader_check.mono (by decide)) (M_Reader_go_on.mono (by decide)) (M_Reader_read_number.mono (by decide))
 have M_Reader_read_run1 : ef l.prog w K mg base (⟨CReader, ["world", "words", "place", "many"]⟩ : Cl) "read_run" 7 ["self", "tries_left"] (qt (⟨CReader, ["world", "words", "place", "many"]⟩ : Cl) 1) := cq (P := l.prog) (w := w) (base := base) (k := 6) (fuel := 100) F_Reader_read_run bi_Reader_read_run mt_Reader_read_run B C_MOST_IN_TUPLE C_MOST_IN_ALL TReader (M_Reader_check.mono (by decide)) (M_Reader_word.mono (by decide)) (M_Reader_go_on.mono (by decide)) M_Reader_read_deed1
 have M_Reader_read_try2 : ef l.prog w K mg base (⟨CReader, ["world", "words", "place", "many"]⟩ : Cl) "read_try" 8 ["self", "tries_left"] (dR (⟨CReader, ["world", "words", "place", "many"]⟩ : Cl) (qt (⟨CReader, ["world", "words", "place", "many"]⟩ : Cl) 1)) := cg (P := l.prog) (w := w) (base := base) (k := 7) F_Reader_read_try bi_Reader_read_try mt_Reader_read_try B TReader (M_Reader_check.mono (by decide)) (M_Reader_go_on.mono (by decide)) M_Reader_read_run1
 have M_Reader_read_deed2 : ef l.prog w K mg base (⟨CReader, ["world", "words", "place", "many"]⟩ : Cl) "read_deed" 9 ["self", "tries_left"] (dC (⟨CReader, ["world", "words", "place", "many"]⟩ : Cl) (dR (⟨CReader, ["world", "words", "place", "many"]⟩ : Cl) (qt (⟨CReader, ["world", "words", "place", "many"]⟩ : Cl) 1))) := b3 (P := l.prog) (w := w) (base := base) (k := 8) F_Reader_read_deed bi_Reader_read_deed mt_Reader_read_deed B TReader (Has.mono dE (by decide)) (M_Reader_word.mono (by decide)) M_Reader_read_try2 (M_Reader_check.mono (by decide)) (M_Reader_go_on.mono (by decide)) (M_Reader_read_number.mono (by decide))
 have M_Reader_read_run2 : ef l.prog w K mg base (⟨CReader, ["world", "words", "place", "many"]⟩ : Cl) "read_run" 10 ["self", "tries_left"] (qt (⟨CReader, ["world", "words", "place", "many"]⟩ : Cl) 2) := cq (P := l.prog) (w := w) (base := base) (k := 9) (fuel := 100) F_Reader_read_run bi_Reader_read_run mt_Reader_read_run B C_MOST_IN_TUPLE C_MOST_IN_ALL TReader (M_Reader_check.mono (by decide)) (M_Reader_word.mono (by decide)) (M_Reader_go_on.mono (by decide)) M_Reader_read_deed2
 have M_Reader_read_try3 : ef l.prog w K mg base (⟨CReader, ["world", "words", "place", "many"]⟩ : Cl) "read_try" 11 ["self", "tries_left"] (dR (⟨CReader, ["world", "words", "place", "many"]⟩ : Cl) (qt (⟨CReader, ["world", "words", "place", "many"]⟩ : Cl) 2)) := cg (P := l.prog) (w := w) (base := base) (k := 10) F_Reader_read_try bi_Reader_read_try mt_Reader_read_try B TReader (M_Reader_check.mono (by decide)) (M_Reader_go_on.mono (by decide)) M_Reader_read_run2
 have M_Reader_read_deed3 : ef l.prog w K mg base (⟨CReader, ["world", "words", "place", "many"]⟩ : Cl) "read_deed" 12 ["self", "tries_left"] (dC (⟨CReader, ["world", "words", "place", "many"]⟩ : Cl) (dR (⟨CReader, ["world", "words", "place", "many"]⟩ : Cl) (qt (⟨CReader, ["world", "words", "place", "many"]⟩ : Cl) 2))) := b3 (P := l.prog) (w := w) (base := base) (k := 11) F_Reader_read_deed bi_Reader_read_deed mt_Reader_read_deed B TReader (Has.mono dE (by decide)) (M_Reader_word.mono (by decide)) M_Reader_read_try3 (M_Reader_check.mono (by decide)) (M_Reader_go_on.mono (by decide)) (M_Reader_read_number.mono (by decide))
 have M_Reader_read_run3 : ef l.prog w K mg base (⟨CReader, ["world", "words", "place", "many"]⟩ : Cl) "read_run" 13 ["self", "tries_left"] (qt (⟨CReader, ["world", "words", "place", "many"]⟩ : Cl) 3) := cq (P := l.prog) (w := w) (base := base) (k := 12) (fuel := 100) F_Reader_read_run bi_Reader_read_run mt_Reader_read_run B C_MOST_IN_TUPLE C_MOST_IN_ALL TReader (M_Reader_check.mono (by decide)) (M_Reader_word.mono (by decide)) (M_Reader_go_on.mono (by decide)) M_Reader_read_deed3
 have M_Reader_read_all := gH (P := l.prog) (w := w) (base := base) (k := 13) F_Reader_read_all bi_Reader_read_all mt_Reader_read_all B C_MOST_TRIES TReader M_Reader_read_run3 (M_Reader_check.mono (by decide))
 have eN := kq (P := l.prog) (w := w) (base := base) (k := 13) D_read_dealing B TReader M_Reader_read_all (M_Reader_init.mono (by decide))
 have oQ : dn l.prog w K mg base "words_of" 1 ["dealing"] (iA 0) := fK (P := l.prog) (w := w) (base := base) (k := 0) D_words_of B (D_words_of.no)
 have oP : dn l.prog w K mg base "words_of" 2 ["dealing"] (iA 1) := fK (P := l.prog) (w := w) (base := base) (k := 1) D_words_of B oQ
 have oO : dn l.prog w K mg base "words_of" 3 ["dealing"] (iA 2) := fK (P := l.prog) (w := w) (base := base) (k := 2) D_words_of B oP
 have oN : dn l.prog w K mg base "words_of" 4 ["dealing"] (iA 3) := fK (P := l.prog) (w := w) (base := base) (k := 3) D_words_of B oO
 have dJ := kr (P := l.prog) (w := w) (base := base) (k := 4) D_dealing_text B oN
 have mf : dn l.prog w K mg base "_law_words" 1 ["dealing"] (LwJ 0) := eG (P := l.prog) (w := w) (base := base) (k := 0) D__law_words B (D__law_words.no)
 have me : dn l.prog w K mg base "_law_words" 2 ["dealing"] (LwJ 1) := eG (P := l.prog) (w := w) (base := base) (k := 1) D__law_words B mf
 have md : dn l.prog w K mg base "_law_words" 3 ["dealing"] (LwJ 2) := eG (P := l.prog) (w := w) (base := base) (k := 2) D__law_words B me
 have ma : dn l.prog w K mg base "_law_words" 4 ["dealing"] (LwJ 3) := eG (P := l.prog) (w := w) (base := base) (k := 3) D__law_words B md
 have nI : dn l.prog w K mg base "_law_same" 1 ["found", "due"] (dq 1) := bR (P := l.prog) (w := w) (base := base) (k := 0) D__law_same B (D__law_same.no)
 have nH : dn l.prog w K mg base "_law_same" 2 ["found", "due"] (dq 2) := bR (P := l.prog) (w := w) (base := base) (k := 1) D__law_same B nI
 have nG : dn l.prog w K mg base "_law_same" 3 ["found", "due"] (dq 3) := bR (P := l.prog) (w := w) (base := base) (k := 2) D__law_same B nH
 have nF : dn l.prog w K mg base "_law_same" 4 ["found", "due"] (dq 4) := bR (P := l.prog) (w := w) (base := base) (k := 3) D__law_same B nG
 have nE : dn l.prog w K mg base "_law_same" 5 ["found", "due"] (dq 5) := bR (P := l.prog) (w := w) (base := base) (k := 4) D__law_same B nF
 have nD : dn l.prog w K mg base "_law_same" 6 ["found", "due"] (dq 6) := bR (P := l.prog) (w := w) (base := base) (k := 5) D__law_same B nE
 have nC : dn l.prog w K mg base "_law_same" 7 ["found", "due"] (dq 7) := bR (P := l.prog) (w := w) (base := base) (k := 6) D__law_same B nD
 have nB : dn l.prog w K mg base "_law_same" 8 ["found", "due"] (dq 8) := bR (P := l.prog) (w := w) (base := base) (k := 7) D__law_same B nC
 have nA : dn l.prog w K mg base "_law_same" 9 ["found", "due"] (dq 9) := bR (P := l.prog) (w := w) (base := base) (k := 8) D__law_same B nB
 exact DM (P := l.prog) (w := w) (base := base) (k := 15) F_law B (Has.mono Gp (by decide)) (Has.mono fF (by decide)) (Has.mono jZ (by decide)) (Has.mono ma (by decide)) (Has.mono nA (by decide)) (Has.mono dJ (by decide)) eN fun ns a c ha hc => A0 (cR := ⟨CReader, _⟩) rfl ns a c ha hc
theorem ET {l : PySem.W.OpenLaw} {q : Program} {loose : List Str} {XP : (Str → Option Value) → Heap → Prop} {YP : World → Heap → Prop} {d : DefRec} {K : Params → PySem.W.Frag} (hn : l.most = some 63) (hdf : d.params.defaults = [])
  (hY : ∀ (w : World) (h : Heap), YP w h → (K w.params).In h)
  (F : ∀ (w : World) (mg : Str → Option Value) (fa : Addr) (h : Heap), (K w.params).In h → h.Ns mainGlobals mg → mg d.name = some (.ref fa) →
   ∃ fd : FuncData, (∀ (s : Shared) (u : Value), BindsTo s fd ⟨[u], []⟩ [("script", u)]) ∧ ∀ base : Heap, (K w.params).In base → base.Ns mainGlobals mg → iU l.prog w (K w.params) mg base CX0 16 fa fd ["script"] (uf (K w.params))) :
  PySem.W.WalkO q loose XP YP l.row.toRowW d [] (fun f vs => PySem.call f vs) :=
 L2.xm (n := 63) (k := 16) (x := "script") (CX := fun _ => CX0) (sp := fun w => uf (K w.params)) hn (by decide) hdf ⟨rfl, by decide, by decide⟩ hY F (fun _ _ a ns hl _ hS => ⟨a, ns, rfl, hS, hl, fun _ => rfl⟩) fun _ _ _ _ _ z => z
end OL
open PySem PySem.W PyProof.Rows
set_option maxRecDepth 100000 in
set_option maxHeartbeats 0 in
theorem PySem.Challenge.cw_oneglance_k60_dealings_written_holds : PySem.Challenge.rw_oneglance_k60_dealings_written.Holds := by
 w_on; o_law; k_head; (case hw => w_witness2)
 k_fill
 refine OL.ET (l := PySem.Challenge.rw_oneglance_k60_dealings_written) rfl rfl (fun w h Y => PySem.W.kIn_of Y) ?F
 case F =>
  intro w mg fa h KX G hmg
  refine' OL.Bu KX G hmg ?a1 ?l1 ?c1 ?k1 ?a2 ?l2 ?c2 ?k2 ?a3 ?l3 ?c3 ?k3 ?a4 ?l4 ?c4 ?k4 ?a5 ?l5 ?c5 ?k5 ?a6 ?l6 ?c6 ?k6 ?a7 ?l7 ?c7 ?k7 ?a8 ?l8 ?c8 ?k8 ?a9 ?l9 ?c9 ?k9 ?a10 ?l10 ?c10 ?k10 ?a11 ?l11 ?c11 ?k11 ?a12 ?l12 ?c12 ?k12 ?a13 ?l13 ?c13 ?k13 ?a14 ?l14 ?c14 ?k14 ?aCReader ?pgReader ?hdReader ?poReader ?saReader ?mkReader ?kcReader ?nfReader0 ?nfReader1 ?nfReader2 ?nfReader3 ?a15 ?i15 ?l15 ?c15 ?k15 ?a16 ?i16 ?l16 ?c16 ?k16 ?a17 ?i17 ?l17 ?c17 ?k17 ?a18 ?i18 ?l18 ?c18 ?k18 ?a19 ?i19 ?l19 ?c19 ?k19 ?a20 ?i20 ?l20 ?c20 ?k20 ?a21 ?i21 ?l21 ?c21 ?k21 ?a22 ?i22 ?l22 ?c22 ?k22 ?a23 ?i23 ?l23 ?c23 ?k23 ?g24 ?h24 ?g25 ?h25 ?g26 ?g27 ?g28 ?g29 ?g30 ?z31 ?z32 ?z33 ?z34 ?z35 ?z36 ?z37 ?z38 ?z39 ?z40 ?z41 ?z42 ?z43 ?z44 ?z45 ?z46 ?z47 ?z48
  (case a1 => k_is)
  (case l1 => k_is)
  (case c1 => k_is)
  (case k1 => k_is)
  (case a2 => k_is)
  (case l2 => k_is)
  (case c2 => k_is)
  (case k2 => k_is)
  (case a3 => k_is)
  (case l3 => k_is)
  (case c3 => k_is)
  (case k3 => k_is)
  (case a4 => k_is)
  (case l4 => k_is)
  (case c4 => k_is)
  (case k4 => k_is)
  (case a5 => k_is)
  (case l5 => k_is)
  (case c5 => k_is)
  (case k5 => k_is)
  (case a6 => k_is)
  (case l6 => k_is)
  (case c6 => k_is)
  (case k6 => k_is)
  (case a7 => k_is)
  (case l7 => k_is)
  (case c7 => k_is)
  (case k7 => k_is)
  (case a8 => k_is)
  (case l8 => k_is)
  (case c8 => k_is)
  (case k8 => k_is)
  (case a9 => k_is)
  (case l9 => k_is)
  (case c9 => k_is)
  (case k9 => k_is)
  (case a10 => k_is)
  (case l10 => k_is)
  (case c10 => k_is)
  (case k10 => k_is)
  (case a11 => k_is)
  (case l11 => k_is)
  (case c11 => k_is)
  (case k11 => k_is)
  (case a12 => k_is)
  (case l12 => k_is)
  (case c12 => k_is)
  (case k12 => k_is)
  (case a13 => k_is)
  (case l13 => k_is)
  (case c13 => k_is)
  (case k13 => k_is)
  (case a14 => k_is)
  (case l14 => k_is)
  (case c14 => k_is)
  (case k14 => k_is)
  (case aCReader => k_is)
  (case pgReader => k_is)
  (case hdReader => k_is)
  (case poReader => k_is)
  (case saReader => k_is)
  (case mkReader => k_is)
  (case kcReader => k_is)
  (case nfReader0 => k_is)
  (case nfReader1 => k_is)
  (case nfReader2 => k_is)
  (case nfReader3 => k_is)
  (case a15 => k_is)
  (case i15 => k_is)
  (case l15 => k_is)
  (case c15 => k_is)
  (case k15 => k_is)
  (case a16 => k_is)
  (case i16 => k_is)
  (case l16 => k_is)
  (case c16 => k_is)
  (case k16 => k_is)
  (case a17 => k_is)
  (case i17 => k_is)
  (case l17 => k_is)
  (case c17 => k_is)
  (case k17 => k_is)
  (case a18 => k_is)
  (case i18 => k_is)
  (case l18 => k_is)
  (case c18 => k_is)
  (case k18 => k_is)
  (case a19 => k_is)
  (case i19 => k_is)
  (case l19 => k_is)
  (case c19 => k_is)
  (case k19 => k_is)
  (case a20 => k_is)
  (case i20 => k_is)
  (case l20 => k_is)
  (case c20 => k_is)
  (case k20 => k_is)
  (case a21 => k_is)
  (case i21 => k_is)
  (case l21 => k_is)
  (case c21 => k_is)
  (case k21 => k_is)
  (case a22 => k_is)
  (case i22 => k_is)
  (case l22 => k_is)
  (case c22 => k_is)
  (case k22 => k_is)
  (case a23 => k_is)
  (case i23 => k_is)
  (case l23 => k_is)
  (case c23 => k_is)
  (case k23 => k_is)
  (case g24 => k_is)
  (case h24 => k_is)
  (case g25 => k_is)
  (case h25 => k_is)
  (case g26 => k_is)
  (case g27 => k_is)
  (case g28 => k_is)
  (case g29 => k_is)
  (case g30 => k_is)
  (case z31 => k_is)
  (case z32 => k_is)
  (case z33 => k_is)
  (case z34 => k_is)
  (case z35 => k_is)
  (case z36 => k_is)
  (case z37 => k_is)
  (case z38 => k_is)
  (case z39 => k_is)
  (case z40 => k_is)
  (case z41 => k_is)
  (case z42 => k_is)
  (case z43 => k_is)
  (case z44 => k_is)
  (case z45 => k_is)
  (case z46 => k_is)
  (case z47 => k_is)
  (case z48 => k_is)
