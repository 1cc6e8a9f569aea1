import PyProof.Rows.All
import Wide.All
import OpenK.AllK
import Wide.FinOn
import Lean
import PyProof.EqAt
import PyProof.EqKinds
import PyProof.TupleCall
import PySem.Challenge.RW_oneglance_k11_what_is_a_log
set_option maxHeartbeats 4000000
set_option Elab.async false
set_option linter.all false
set_option maxRecDepth 100000
namespace L2
open PySem PySem.Spec PyProof.Rows
noncomputable abbrev Key := Sum Int Str
noncomputable def qB : Key → Value → Bool
 | .inl k, v => Value.isInt k v
 | .inr x, v => Value.isStrOf x v
noncomputable def IF (w : World) : Key → Int
 | .inl k => hashInt k
 | .inr x => hashStr w x
theorem cE : ∀ {k : Key} {v : Value}, qB k v = true → (∃ i t, k = Sum.inl i ∧ v = Value.int i t) ∨ (∃ x t, k = Sum.inr x ∧ v = Value.str x t)
 | .inl i, v, h => by
  obtain ⟨t, e⟩ := Value.isInt_shape (k := i) (v := v) h
  exact .inl ⟨i, t, rfl, e⟩
 | .inr x, v, h => by
  obtain ⟨t, e⟩ := Value.isStrOf_shape (x := x) (v := v) h
  exact .inr ⟨x, t, rfl, e⟩
theorem vI (i : Int) (t : Tok) : qB (.inl i) (.int i t) = true := by simp [qB, Value.isInt]
theorem vH (x : Str) (t : Tok) : qB (.inr x) (.str x t) = true := by simp [qB, Value.isStrOf]
theorem DZ (a b : Int) : decide ((Sum.inl a : Key) = Sum.inl b) = (a == b) := by
 by_cases e : a = b
 ·subst e; simp
 ·have h : ¬ (Sum.inl a : Key) = Sum.inl b := fun q => e (Sum.inl.inj q)
  rw [decide_eq_false h]
  exact (beq_eq_false_iff_ne.mpr e).symm
theorem DW (a b : Str) : decide ((Sum.inr a : Key) = Sum.inr b) = decide (a = b) := by
 by_cases e : a = b
 ·subst e; simp
 ·have h : ¬ (Sum.inr a : Key) = Sum.inr b := fun q => e (Sum.inr.inj q)
  rw [decide_eq_false h, decide_eq_false e]
theorem DY (a : Int) (b : Str) : decide ((Sum.inl a : Key) = Sum.inr b) = false := decide_eq_false (fun q => nomatch q)
theorem DX (a : Str) (b : Int) : decide ((Sum.inr a : Key) = Sum.inl b) = false := decide_eq_false (fun q => nomatch q)
noncomputable def cD (prog : Program) (w : World) : PySem.KeyKind prog w Key where
 is := qB
 hash := IF w
 inj := fun v a b ha hb => by
  rcases cE ha with ⟨i, t, rfl, rfl⟩ | ⟨x, t, rfl, rfl⟩
  ·rcases cE hb with ⟨j, u, rfl, e⟩ | ⟨y, u, rfl, e⟩
   ·injection e with e1 _; rw [e1]
   ·exact nomatch e
  ·rcases cE hb with ⟨j, u, rfl, e⟩ | ⟨y, u, rfl, e⟩
   ·exact nomatch e
   ·injection e with e1 _; rw [e1]
 byValue := fun k v h => by
  rcases cE h with ⟨i, t, rfl, rfl⟩ | ⟨x, t, rfl, rfl⟩ <;> rfl
 pyHash := fun hv h => by
  rcases cE hv with ⟨i, t, rfl, rfl⟩ | ⟨x, t, rfl, rfl⟩
  ·exact wpAny_pyHash_int h
  ·exact wpAny_pyHash_str h
 eqBool := fun hu hv h => by
  rcases cE hu with ⟨i, t, rfl, rfl⟩ | ⟨x, t, rfl, rfl⟩
  ·rcases cE hv with ⟨j, u, rfl, rfl⟩ | ⟨y, u, rfl, rfl⟩
   ·rw [DZ] at h; exact wpAny_eqBool_int h
   ·rw [DY] at h; exact SeqAt.EqAt.int_str i t y u _ _ _ _ h
  ·rcases cE hv with ⟨j, u, rfl, rfl⟩ | ⟨y, u, rfl, rfl⟩
   ·rw [DX] at h; exact SeqAt.EqAt.str_int x t j u _ _ _ _ h
   ·rw [DW] at h; exact wpAny_eqBool_str h
 «strs» := fun k x t v h => by
  rcases cE h with ⟨i, u, rfl, e⟩ | ⟨y, u, rfl, e⟩
  ·exact nomatch e
  ·injection e with e1 _
   subst e1
   cases v <;> rfl
theorem qw (prog : Program) (w : World) (i : Int) (t : Tok) : (cD prog w).is (.inl i) (.int i t) = true := vI i t
theorem qv (prog : Program) (w : World) (x : Str) (t : Tok) : (cD prog w).is (.inr x) (.str x t) = true := vH x t
inductive V where
 | non | bl (b : Bool) | int (i : Int) | str (x : Str) | byt (b : Array UInt8) | flt (b : UInt64) | ref (a : Addr) | ty (n : String)
 deriving DecidableEq
noncomputable def dk : V → Value → Prop
 | .non, u => u = Value.none
 | .bl b, u => u = Value.bool b
 | .int i, u => ∃ t, u = Value.int i t
 | .str x, u => ∃ t, u = Value.str x t
 | .byt b, u => ∃ t, u = Value.bytes b t
 | .flt b, u => ∃ t, u = Value.float b t
 | .ref a, u => u = Value.ref a
 | .ty n, u => u = Value.type n
noncomputable abbrev cL : List V → List Value → Prop := Paired dk
theorem cL.length {xs : List V} {us : List Value} (r : cL xs us) : xs.length = us.length := Paired.length r
theorem cL.get : ∀ {xs : List V} {us : List Value} {i : Nat} {x : V}, cL xs us → xs[i]? = some x → ∃ u, us[i]? = some u ∧ dk x u
 | _, _, _, _, .nil, e => by simp at e
 | _, _, 0, _, .cons r _, e => by simp at e; subst e; exact ⟨_, rfl, r⟩
 | _, _, i + 1, x, .cons _ t, e => by
  obtain ⟨u, h1, h2⟩ := cL.get (i := i) (x := x) t (by simpa using e)
  exact ⟨u, by simpa using h1, h2⟩
theorem cL.set {x : V} {u : Value} (r : dk x u) : ∀ {xs : List V} {us : List Value} (i : Nat), cL xs us → cL (xs.set i x) (us.set i u)
 | _, _, _, .nil => .nil
 | _, _, 0, .cons _ t => .cons r t
 | _, _, i + 1, .cons q t => .cons q (cL.set r i t)
theorem cL.append : ∀ {xs ys : List V} {us ws : List Value}, cL xs us → cL ys ws → cL (xs ++ ys) (us ++ ws)
 | _, _, _, _, .nil, s => s
 | _, _, _, _, .cons r t, s => .cons r (cL.append t s)
theorem cL.take : ∀ {xs : List V} {us : List Value} (n : Nat), cL xs us → cL (xs.take n) (us.take n)
 | _, _, 0, _ => .nil
 | _, _, _ + 1, .nil => .nil
 | _, _, n + 1, .cons r t => .cons r (cL.take n t)
theorem cL.drop : ∀ {xs : List V} {us : List Value} (n : Nat), cL xs us → cL (xs.drop n) (us.drop n)
 | _, _, 0, r => r
 | _, _, _ + 1, .nil => .nil
 | _, _, n + 1, .cons _ t => cL.drop n t
noncomputable def oQ : Option V → Option Value → Prop
 | some v, some u => dk v u
 | none, none => True
 | _, _ => False
noncomputable def KV {κ : Type} : List (κ × V) → List (κ × Value) → Prop := Paired fun (p : κ × V) (q : κ × Value) => p.1 = q.1 ∧ dk p.2 q.2
noncomputable def kV : Key → V
 | .inl i => .int i
 | .inr x => .str x
inductive HO where
 | lst (xs : List V)
 | tup (xs : List V)
 | dK (kvs : List (Key × V)) | dT (kvs : List (List Key × V))
 | set (S : Int → Bool) (n : Nat)
 | ins (C dx : Addr) (fs : List (Str × V))
 | own (x : Addr)
 | xd (fs : List (Str × V))
 | met (f x : Addr)
 | rng (lo hi : Int)
 | frz (o : Obj) (u : HO)
 | tbl (ps : Array Value)
 | ext (φ : Heap → Prop)
noncomputable abbrev Hp := Addr → Option HO
noncomputable def upd (H : Hp) (a : Addr) (o : HO) : Hp := fun b => if b = a then some o else H b
theorem aK {H : Hp} {a : Addr} {o : HO} : upd H a o a = some o := by unfold upd; rw [if_pos rfl]
theorem bF {H : Hp} {a b : Addr} {o : HO} (h : b ≠ a) : upd H a o b = H b := by unfold upd; rw [if_neg h]
theorem GC {H : Hp} {a b : Addr} {o u : HO} (h : H a = some o) (h' : H b = some u) (d : o ≠ u) : a ≠ b := by
 intro e; subst e; rw [h] at h'; exact d (Option.some.inj h')
theorem dj {H : Hp} {a b : Addr} {o : HO} (h : H a = some o) (h' : H b = none) : a ≠ b := by
 intro e; subst e; rw [h] at h'; cases h'
section
variable (P : Program) (w : World)
noncomputable def dM (H : Hp) (h : Heap) (a : Addr) : HO → Prop
 | .lst xs => xs.length ≤ sizeLine ∧ ∃ (its : List Value) (n : Nat), cL xs its ∧ h.get? a = some { cls := .type "list", data := .seq its.toArray n }
 | .tup xs => xs.length ≤ sizeLine ∧ ∃ its : List Value, cL xs its ∧ IsTup h a its.toArray
 | .dK kvs => kvs.length ≤ sizeLine ∧ (a == sysModules) = false ∧ ∃ vs, KV kvs vs ∧ h.DictOf (cD P w) a vs
 | .dT kvs => kvs.length ≤ sizeLine ∧ (a == sysModules) = false ∧ ∃ xs : List (List Key × Addr × Value),
   Paired (fun (p : List Key × V) (q : List Key × Addr × Value) => p.1 = q.1 ∧ H q.2.1 = some (.tup (p.1.map kV)) ∧ dk p.2 q.2.2) kvs xs ∧
   ∃ o es ep, h.get? a = some o ∧ o.ExactDict ∧ o.data = .dict es ep ∧ es.toList = xs.map (entryOfKey (tupleKind (cD P w))) ∧ (xs.map (·.1)).Nodup
 | .set S n => h.SetOf (intKind P w) a S n
 | .ins C dx fs => H dx = some (.own a) ∧ fs.length ≤ 1000 ∧ dx ≠ a ∧ h.get? a = some (PySem.W.instObj C dx) ∧
   ∃ mA, h.Ns1 dx mA ∧ (∀ f, oQ (fs.lookup f) (mA f)) ∧ PySem.Within mA (fs.map (·.1))
 | .own _ => ∃ o, h.get? a = some o
 | .xd fs => ∃ mA, h.Ns1 a mA ∧ ∀ f, oQ (fs.lookup f) (mA f)
 | .rng lo hi => ∃ t u v, h.get? a = some { cls := .type "range", data := .fields #[.int lo t, .int hi u, .int 1 v] }
 | .frz o u => h.get? a = some o ∧ dM H h a u
 | .tbl ps => h.get? a = some { cls := .none, data := .fields ps }
 | .met f x => h.get? a = some (PySem.W.methodObj (.ref f) (.ref x))
 | .ext φ => φ h ∧ (∃ o, h.get? a = some o) ∧ ∀ h1 h2 : Heap, φ h1 → (∀ o, h1.get? a = some o → h2.get? a = some o) → φ h2
noncomputable def HOk (H : Hp) (h : Heap) : Prop := ∀ a o, H a = some o → dM P w H h a o
end
section
variable {P : Program} {w : World} {H H' : Hp} {h h' : Heap} {a : Addr} {o : HO}
theorem dM.lt (x : dM P w H h a o) : a < h.objs.size := by
 cases o with
 | lst xs => obtain ⟨_, _, _, _, e⟩ := x; exact Heap.lt_size e
 | tup xs => obtain ⟨_, _, _, p⟩ := x; exact p.lt
 | dK kvs => obtain ⟨_, _, _, _, o, _, _, e, _⟩ := x; exact Heap.lt_size e
 | dT kvs => obtain ⟨_, _, _, _, o, _, _, e, _⟩ := x; exact Heap.lt_size e
 | set S n => obtain ⟨o, _, _, _, e, _⟩ := x; exact Heap.lt_size e
 | ins C dx fs => obtain ⟨_, _, _, e, _⟩ := x; exact Heap.lt_size e
 | own y => obtain ⟨_, e⟩ := x; exact Heap.lt_size e
 | xd fs => obtain ⟨_, ⟨_, _, _, e, _⟩, _⟩ := x; exact Heap.lt_size e
 | rng lo hi => obtain ⟨_, _, _, e⟩ := x; exact Heap.lt_size e
 | frz ob u => obtain ⟨e, _⟩ := x; exact Heap.lt_size e
 | tbl ps => exact Heap.lt_size (show h.get? a = some _ from x)
 | met f y => exact Heap.lt_size (show h.get? a = some _ from x)
 | ext φ => obtain ⟨_, ⟨_, e⟩, _⟩ := x; exact Heap.lt_size e
theorem Paired.mapP {α β : Type} {F G : α → β → Prop} : ∀ {l₁ : List α} {l₂ : List β}, Paired F l₁ l₂ → (∀ a b, F a b → G a b) → Paired G l₁ l₂
 | _, _, .nil, _ => .nil
 | _, _, .cons r t, f => .cons (f _ _ r) (Paired.mapP t f)
theorem dM.stay (x : dM P w H h a o) (k : ∀ b u, (b = a ∨ H b = some (.own a)) → h.get? b = some u → h'.get? b = some u)
  (ho : ∀ b, H b = some (.own a) → H' b = some (.own a)) (ht : ∀ b xs, H b = some (.tup xs) → H' b = some (.tup xs)) : dM P w H' h' a o := by
 induction o with
 | lst xs => obtain ⟨z, its, n, r, e⟩ := x; exact ⟨z, its, n, r, k _ _ (.inl rfl) e⟩
 | tup xs => obtain ⟨z, its, r, ob, e, c⟩ := x; exact ⟨z, its, r, ob, k _ _ (.inl rfl) e, c⟩
 | dK kvs => obtain ⟨z, y, vs, r, ob, es, ep, e, c⟩ := x; exact ⟨z, y, vs, r, ob, es, ep, k _ _ (.inl rfl) e, c⟩
 | dT kvs =>
  obtain ⟨z, y, xs, r, ob, es, ep, e, c⟩ := x
  exact ⟨z, y, xs, Paired.mapP r fun p q z => ⟨z.1, ht _ _ z.2.1, z.2.2⟩, ob, es, ep, k _ _ (.inl rfl) e, c⟩
 | set S n => obtain ⟨ob, es, ep, t, e, c⟩ := x; exact ⟨ob, es, ep, t, k _ _ (.inl rfl) e, c⟩
 | ins C dx fs =>
  obtain ⟨d, z, ne, e, mA, ⟨od, es, ep, e2, c⟩, r⟩ := x
  exact ⟨ho _ d, z, ne, k _ _ (.inl rfl) e, mA, ⟨od, es, ep, k _ _ (.inr d) e2, c⟩, r⟩
 | own y => obtain ⟨ob, e⟩ := x; exact ⟨ob, k _ _ (.inl rfl) e⟩
 | xd fs => obtain ⟨mA, ⟨od, es, ep, e, c⟩, r⟩ := x; exact ⟨mA, ⟨od, es, ep, k _ _ (.inl rfl) e, c⟩, r⟩
 | rng lo hi => obtain ⟨t, u, v, e⟩ := x; exact ⟨t, u, v, k _ _ (.inl rfl) e⟩
 | frz ob u ih => obtain ⟨e, q⟩ := x; exact ⟨k _ _ (.inl rfl) e, ih q⟩
 | tbl ps =>
  have e : h.get? a = some { cls := .none, data := .fields ps } := x
  show h'.get? a = some { cls := .none, data := .fields ps }
  exact k a _ (.inl rfl) e
 | met f y =>
  have e : h.get? a = some (PySem.W.methodObj (.ref f) (.ref y)) := x
  show h'.get? a = some (PySem.W.methodObj (.ref f) (.ref y))
  exact k a _ (.inl rfl) e
 | ext φ => obtain ⟨p, ⟨o, e⟩, st⟩ := x; exact ⟨st _ _ p fun o q => k _ _ (.inl rfl) q, ⟨o, k _ _ (.inl rfl) e⟩, st⟩
theorem HOk.lt (x : HOk P w H h) (e : H a = some o) : a < h.objs.size := (x a o e).lt
theorem HOk.fresh (x : HOk P w H h) (e : h.objs.size ≤ a) : H a = none := by
 cases q : H a with
 | none => rfl
 | some u => exact absurd (Nat.lt_of_lt_of_le (x.lt q) e) (Nat.lt_irrefl _)
theorem HOk.kept (x : HOk P w H h) (k : ∀ b u, h.get? b = some u → h'.get? b = some u) : HOk P w H h' := fun a o e =>
 (x a o e).stay (fun b u _ q => k b u q) (fun _ q => q) fun _ _ q => q
theorem HOk.laid (x : HOk P w H h) (k : ∀ b u, h.get? b = some u → h'.get? b = some u) (hp : h.objs.size ≤ a) (new : dM P w (upd H a o) h' a o) : HOk P w (upd H a o) h' := fun b u e => by
 have hn := x.fresh hp
 by_cases hb : b = a
 ·subst hb; rw [aK] at e; cases e; exact new
 ·rw [bF hb] at e
  exact (x b u e).stay (fun c v _ q => k c v q) (fun c q => by rw [bF (dj q hn)]; exact q) fun c xs q => by rw [bF (dj q hn)]; exact q
end
noncomputable def Rd (H : Hp) (a : Addr) (u : HO) : Prop := H a = some u ∨ ∃ o, H a = some (.frz o u)
theorem Rd.ok {P : Program} {w : World} {H : Hp} {h : Heap} {a : Addr} {u : HO} (r : Rd H a u) (x : HOk P w H h) : dM P w H h a u := by
 rcases r with r | ⟨o, r⟩
 ·exact x a u r
 ·obtain ⟨_, q⟩ := x a _ r
  exact q
noncomputable def Mut : Option HO → Prop
 | some (.lst _) => True
 | some (.dK _) => True
 | some (.dT _) => True
 | some (.set _ _) => True
 | some (.ins _ _ _) => True
 | some (.ext _) => True
 | _ => False
section
variable {P : Program} {w : World} {H : Hp} {h h' : Heap} {x e : Addr} {o' : HO}
theorem HOk.write (ok : HOk P w H h) (mu : Mut (H x)) (he : e = x ∨ H e = some (.own x)) (k : ∀ b u, b ≠ e → h.get? b = some u → h'.get? b = some u) (heo : ∃ u, h'.get? e = some u)
  (new : dM P w (upd H x o') h' x o') : HOk P w (upd H x o') h' := fun b u q => by
 have nown : ∀ c y, H c = some (.own y) → c ≠ x := fun c y r z => by subst z; rw [r] at mu; exact mu
 have ntup : ∀ c xs, H c = some (.tup xs) → c ≠ x := fun c xs r z => by subst z; rw [r] at mu; exact mu
 by_cases hb : b = x
 ·subst hb; rw [aK] at q; cases q; exact new
 ·rw [bF hb] at q
  by_cases hbe : b = e
  ·have q' : H b = some (.own x) := by
    rcases he with z | z
    ·exact absurd (hbe.trans z) hb
    ·rw [hbe]; exact z
   rw [q] at q'; cases q'
   obtain ⟨v, hv⟩ := heo
   exact ⟨v, by rw [hbe]; exact hv⟩
  ·refine (ok b u q).stay (fun c v hc r => k c v ?_ r) (fun c r => by rw [bF (nown c b r)]; exact r) fun c xs r => by rw [bF (ntup c xs r)]; exact r
   rcases hc with rfl | hc
   ·exact hbe
   ·rintro rfl
    rcases he with z | z
    ·exact nown c b hc z
    ·rw [hc] at z; cases z; exact hb rfl
end
structure Un (fs ex : List Addr) (H H' : Hp) (h h' : Heap) : Prop where
 keep : ∀ b o, h.get? b = some o → H b = none → b ∉ fs → b ∉ ex → h'.get? b = some o
 slot : ∀ b o, h.get? b = some o → H b = none → b ∈ fs → b ∉ ex → ∃ sl, h'.get? b = some { o with slots := sl }
 free : ∀ b o, h.get? b = some o → H b = none → b ∉ ex → H' b = none
 there : ∀ b o, h.get? b = some o → b ∉ ex → ∃ o', h'.get? b = some o'
 tups : ∀ b xs, H b = some (.tup xs) → H' b = some (.tup xs)
 frzs : ∀ b o u, H b = some (.frz o u) → H' b = some (.frz o u)
 tbls : ∀ b ps, H b = some (.tbl ps) → ∃ more, H' b = some (.tbl (ps ++ more))
section
variable {fs fs' ex ex' : List Addr} {H H1 H2 : Hp} {h h1 h2 h' : Heap} {a x e : Addr} {o : HO}
theorem Un.any (u : Un fs ex H H1 h h1) {b : Addr} {ob : Obj} (q : h.get? b = some ob) (n : H b = none) (hx : b ∉ ex) : ∃ sl, h1.get? b = some { ob with slots := sl } := by
 by_cases hb : b ∈ fs
 ·exact u.slot b ob q n hb hx
 ·exact ⟨ob.slots, u.keep b ob q n hb hx⟩
theorem Un.kept (k : ∀ b u, h.get? b = some u → h'.get? b = some u) : Un fs ex H H h h' :=
 ⟨fun b ob q _ _ _ => k b ob q, fun b ob q _ _ _ => ⟨ob.slots, k b ob q⟩, fun _ _ _ n _ => n, fun b ob q _ => ⟨ob, k b ob q⟩, fun _ _ q => q, fun _ _ _ q => q, fun _ ps q => ⟨#[], by rw [q]; simp⟩⟩
theorem Un.refl : Un fs ex H H h h := Un.kept fun _ _ q => q
theorem Un.laid (k : ∀ b u, h.get? b = some u → h'.get? b = some u) (hp : h.objs.size ≤ a) (hn : H a = none) : Un fs ex H (upd H a o) h h' where
 keep := fun b u q _ _ _ => k b u q
 slot := fun b u q _ _ _ => ⟨u.slots, k b u q⟩
 free := fun b u q n _ => by rw [bF (Nat.ne_of_lt (Nat.lt_of_lt_of_le (Heap.lt_size q) hp))]; exact n
 there := fun b u q _ => ⟨u, k b u q⟩
 tups := fun b xs q => by rw [bF (dj q hn)]; exact q
 frzs := fun b u xs q => by rw [bF (dj q hn)]; exact q
 tbls := fun b ps q => ⟨#[], by rw [bF (dj q hn), q]; simp⟩
theorem Un.write (mu : Mut (H x)) (he : e = x ∨ H e = some (.own x)) (k : ∀ b u, b ≠ e → h.get? b = some u → h'.get? b = some u) (heo : ∃ u, h'.get? e = some u) : Un fs ex H (upd H x o) h h' := by
 have hx : ∀ b, H b = none → b ≠ x := fun b n z => by subst z; rw [n] at mu; exact mu
 have hb : ∀ b, H b = none → b ≠ e := fun b n z => by
  subst z
  rcases he with r | r
  ·exact hx b n r
  ·rw [n] at r; cases r
 have hm : ∀ b u, H b = some u → ¬ Mut (some u) → b ≠ x := fun b u q nm z => by subst z; rw [q] at mu; exact nm mu
 refine ⟨fun b u q n _ _ => k b u (hb b n) q, fun b u q n _ _ => ⟨u.slots, k b u (hb b n) q⟩, fun b u q n _ => by rw [bF (hx b n)]; exact n, fun b u q _ => ?_,
  fun b xs q => by rw [bF (hm b _ q fun z => z)]; exact q, fun b u xs q => by rw [bF (hm b _ q fun z => z)]; exact q, fun b ps q => ⟨#[], by rw [bF (hm b _ q fun z => z), q]; simp⟩⟩
 by_cases hbe : b = e
 ·subst hbe; exact heo
 ·exact ⟨u, k b u hbe q⟩
end
noncomputable def trk (h : Heap) (H : Hp) : List Addr := (List.range h.objs.size).filter fun a => (H a).isSome
noncomputable def yw (h : Heap) (H : Hp) : Heap := PySem.W.hideAll h (trk h H)
theorem vT (h : Heap) (H : Hp) : (yw h H).objs.size = h.objs.size := PySem.W.hideAll_size _ _
theorem yv {h : Heap} {H : Hp} {b : Addr} {o : Obj} (e : h.get? b = some o) (n : H b = none) : (yw h H).get? b = some o :=
 PySem.W.hideAll_get _ e fun hm => by
  have q : (H b).isSome = true := (List.mem_filter.mp hm).2
  rw [n] at q; simp at q
theorem Bd {h : Heap} {H : Hp} {b : Addr} {o : Obj} (e : (yw h H).get? b = some o) : h.get? b = some o ∧ H b = none := by
 have e' : h.get? b = some o := PySem.W.of_hideAll (trk h H) e
 refine ⟨e', ?_⟩
 cases q : H b with
 | none => rfl
 | some x =>
  have hm : b ∈ trk h H := List.mem_filter.mpr ⟨List.mem_range.mpr (Heap.lt_size e'), by simp [q]⟩
  have z : (yw h H).get? b = none := PySem.W.hideAll_none (trk h H) hm
  rw [z] at e; cases e
structure Mod (K : PySem.W.Frag) (mg : Str → Option Value) (base : Heap) : Prop where
 kin : K.In base
 glob : base.Ns mainGlobals mg
 blt : ∃ mb, base.Ns builtinsNs mb ∧ ∀ x : Str, x ≠ "__name__" → mb x = bootBuiltins x
 nolimit : base.NoLimit
structure Cx where
 prog : Program
 w : World
 K : PySem.W.Frag
 mg : Str → Option Value
 base : Heap
 A : Around
 N : List Str
 s₀ : Shared
 H₀ : Hp
 env : Env
 outer : List Env
 stack : List Env
 ex : List Addr
 fn : Str → Bool
 calm : Bool
 pn : List (Addr × Obj)
 xe : Value → Shared → Prop
noncomputable def frs (l : List Env) : List Addr := l.filterMap (·.frame)
noncomputable abbrev Cx.fs (X : Cx) : List Addr := frs X.outer
noncomputable def Vis (sc : Scope) (x : Str) : Prop := sc.names.lookup x = some .local ∨ sc.names.lookup x = some .cell ∨ sc.names.lookup x = some .free
noncomputable def Loc (sc : Scope) (x : Str) : Prop := sc.names.lookup x = some .local ∨ sc.names.lookup x = some .cell
noncomputable def IQ (env : Env) (h : Heap) (m : Str → Option Value) (x : Str) (u : Value) : Prop :=
 (env.kindOf x = some .local ∧ m x = some u) ∨ ((env.kindOf x = some .cell ∨ env.kindOf x = some .free) ∧ ∃ c, env.cells.lookup x = some c ∧ h.IsCell c (some u))
structure Cx.Ok (X : Cx) : Prop where
 mod : Mod X.K X.mg X.base
 kind : X.env.scope.kind = .function
 glob : X.env.globals = mainGlobals
 blt : X.env.builtins = builtinsNs
 above : X.s₀.heap.objs.size ≤ X.env.locals
 inj : ∀ x y c, X.env.cells.lookup x = some c → X.env.cells.lookup y = some c → x = y
 has : ∀ x, (X.env.kindOf x = some .cell ∨ X.env.kindOf x = some .free) → ∃ c, X.env.cells.lookup x = some c
 cab : ∀ x c, X.fn x = true → X.env.cells.lookup x = some c → X.s₀.heap.objs.size ≤ c
 hd : X.calm = true → X.A.handled = none
 frames : X.A.frames = some X.stack
 stk : X.stack = X.outer ∨ (X.stack = X.env :: X.outer ∧ X.env.frame = some X.env.locals)
 exf : ∀ b ∈ X.ex, b ≠ X.env.locals ∧ ∀ x c, X.env.cells.lookup x = some c → c ≠ b
 bs : ∀ b o, X.base.get? b = some o → X.s₀.heap.get? b = some o ∧ X.H₀ b = none
 bsz : X.base.objs.size ≤ X.s₀.heap.objs.size
 noex : ∀ b o, X.base.get? b = some o → b ∉ X.ex
 exfs : ∀ b ∈ X.ex, b ∉ X.fs
 funs : X.s₀.heap.FunFrames X.base X.outer
 frf : ∀ b ∈ X.fs, X.H₀ b = none
structure Inv (X : Cx) (pins : List (Addr × Obj)) (σ : List (Option V)) (H : Hp) (s : Shared) : Prop where
 ok : X.Ok
 os : s.os = X.s₀.os
 bare : AllBare s.gens
 base : Un X.fs X.ex X.H₀ H X.s₀.heap s.heap
 loc : ∃ m, s.heap.Ns X.env.locals m ∧ ∀ (i : Nat) (x : Str) (v : V), X.N[i]? = some x → σ[i]? = some (some v) → Vis X.env.scope x → ∃ u, dk v u ∧ IQ X.env s.heap m x u
 cell : ∀ x c, X.env.cells.lookup x = some c → ∃ v, s.heap.IsCell c v
 free : H X.env.locals = none
 freeC : ∀ x c, X.env.cells.lookup x = some c → H c = none
 pin : ∀ p ∈ X.pn ++ pins, s.heap.get? p.1 = some p.2 ∧ H p.1 = none ∧ p.1 ≠ X.env.locals ∧ p.1 ∉ X.fs ∧ ∀ v, p.2.data ≠ .cell v
 hok : HOk X.prog X.w H s.heap
 len : σ.length = X.N.length
section
variable {X : Cx} {pins : List (Addr × Obj)} {σ : List (Option V)} {H H' : Hp} {s : Shared} {h' : Heap}
theorem Cx.Ok.nofr (ok : X.Ok) {b : Addr} {o : Obj} (e : X.base.get? b = some o) : b ∉ X.fs := fun hb => by
 have := (ok.funs.mem hb).1
 rw [e] at this; cases this
theorem Inv.bs (I : Inv X pins σ H s) : ∀ b o, X.base.get? b = some o → s.heap.get? b = some o ∧ H b = none := fun b o e =>
 ⟨I.base.keep b o (I.ok.bs b o e).1 (I.ok.bs b o e).2 (I.ok.nofr e) (I.ok.noex b o e), I.base.free b o (I.ok.bs b o e).1 (I.ok.bs b o e).2 (I.ok.noex b o e)⟩
theorem Inv.bk (I : Inv X pins σ H s) : ∀ b o, X.base.get? b = some o → s.heap.get? b = some o := fun b o e => (I.bs b o e).1
theorem Inv.mod (I : Inv X pins σ H s) : Mod X.K X.mg X.base := I.ok.mod
theorem Inv.kIn (I : Inv X pins σ H s) : X.K.In s.heap := I.ok.mod.kin.keeps I.bk
theorem Inv.lt (I : Inv X pins σ H s) : X.env.locals < s.heap.objs.size := let ⟨_, hn, _⟩ := I.loc; hn.lt
theorem Inv.sz (I : Inv X pins σ H s) : X.s₀.heap.objs.size ≤ s.heap.objs.size := Nat.le_trans I.ok.above (Nat.le_of_lt I.lt)
theorem Inv.nofs (I : Inv X pins σ H s) {a : Addr} (h : s.heap.objs.size ≤ a) : a ∉ X.fs := fun hb => by
 obtain ⟨_, o, ho, _⟩ := I.ok.funs.mem hb
 exact absurd (Nat.lt_of_lt_of_le (Heap.lt_size ho) (Nat.le_trans I.sz h)) (Nat.lt_irrefl _)
theorem Inv.cne (I : Inv X pins σ H s) : ∀ x c, X.env.cells.lookup x = some c → c ≠ X.env.locals := fun x c e z => by
 obtain ⟨v, o, ho, hd⟩ := I.cell x c e
 obtain ⟨m, ⟨o', es, ep, ho', hd', _⟩, _⟩ := I.loc
 rw [z, ho'] at ho; cases ho; rw [hd'] at hd; cases hd
theorem Inv.funs (I : Inv X pins σ H s) : s.heap.FunFrames X.base X.outer := by
 have all : ∀ (l : List Env), (∀ b ∈ frs l, b ∈ X.fs) → X.s₀.heap.FunFrames X.base l → s.heap.FunFrames X.base l := by
  intro l
  induction l with
  | nil => intro _ _; trivial
  | cons env r ih =>
   intro hs hl
   obtain ⟨hk, ⟨L, o, hf, hn, ho, hd⟩, hr⟩ := hl
   have hL : L ∈ X.fs := hs L (by unfold frs; rw [List.filterMap_cons, hf]; exact List.mem_cons_self)
   obtain ⟨sl, e⟩ := I.base.slot L o ho (I.ok.frf L hL) hL fun z => I.ok.exfs L z hL
   exact ⟨hk, ⟨L, _, hf, hn, e, hd⟩, ih (fun b hb => hs b (by unfold frs; rw [List.filterMap_cons, hf]; exact List.mem_cons_of_mem _ hb)) hr⟩
 exact all X.outer (fun _ hb => hb) I.ok.funs
theorem Inv.stack (I : Inv X pins σ H s) : s.heap.FunFrames X.base X.stack := by
 rcases I.ok.stk with e | ⟨e, hf⟩
 ·rw [e]; exact I.funs
 ·rw [e]
  obtain ⟨m, hn, _⟩ := I.loc
  refine .cons (by rw [I.ok.kind]; decide) hf hn ?_ I.funs
  exact Heap.get?_none_of_le (Nat.le_trans I.ok.bsz I.ok.above)
theorem Inv.stkSub (I : Inv X pins σ H s) : ∀ b ∈ frs X.stack, b ∈ X.env.locals :: X.fs := fun b hb => by
 rcases I.ok.stk with e | ⟨e, hf⟩
 ·rw [e] at hb; exact List.mem_cons_of_mem _ hb
 ·rw [e] at hb
  unfold frs at hb
  rw [List.filterMap_cons, hf] at hb
  exact hb
theorem Inv.stkFree (I : Inv X pins σ H s) : ∀ b ∈ frs X.stack, H b = none := fun b hb => by
 rcases List.mem_cons.mp (I.stkSub b hb) with e | hb
 ·rw [e]; exact I.free
 ·obtain ⟨_, o, ho, _⟩ := I.ok.funs.mem hb
  exact I.base.free b o ho (I.ok.frf b hb) fun z => I.ok.exfs b z hb
theorem Inv.step {g' : Array GenState} {t' : Nat} {d' : Drawn} {ch : List Addr} (I : Inv X pins σ H s)
  (hch : ∀ b ∈ ch, (b ∈ X.ex ∨ X.s₀.heap.objs.size ≤ b) ∧ b ≠ X.env.locals ∧ (∀ x c, X.env.cells.lookup x = some c → c ≠ b) ∧ ∀ p ∈ X.pn ++ pins, p.1 ≠ b)
  (keep : ∀ b o, b ≠ X.env.locals → b ∉ X.fs → b ∉ ch → s.heap.get? b = some o → H b = none → h'.get? b = some o)
  (slot : ∀ b o, b ≠ X.env.locals → b ∈ X.fs → b ∉ ch → s.heap.get? b = some o → H b = none → ∃ sl, h'.get? b = some { o with slots := sl }) (free : ∀ b o, b ∉ ch → s.heap.get? b = some o → H b = none → H' b = none)
  (there : ∀ b o, b ∉ ch → s.heap.get? b = some o → ∃ o', h'.get? b = some o')
  (tups : ∀ b xs, H b = some (.tup xs) → H' b = some (.tup xs)) (frzs : ∀ b o u, H b = some (.frz o u) → H' b = some (.frz o u)) (tbls : ∀ b ps, H b = some (.tbl ps) → ∃ more, H' b = some (.tbl (ps ++ more)))
  (ns : ∀ m, s.heap.Ns X.env.locals m → h'.Ns X.env.locals m) (hok : HOk X.prog X.w H' h') (hg : AllBare g') :
  Inv X pins σ H' { s with heap := h', gens := g', drawn := d', toks := t' } := by
 have neL : ∀ b o, X.s₀.heap.get? b = some o → b ≠ X.env.locals := fun b o e => Nat.ne_of_lt (Nat.lt_of_lt_of_le (Heap.lt_size e) I.ok.above)
 have neC : ∀ b o, X.s₀.heap.get? b = some o → b ∉ X.ex → b ∉ ch := fun b o e hx hb => by
  rcases (hch b hb).1 with z | z
  ·exact hx z
  ·exact absurd (Nat.lt_of_lt_of_le (Heap.lt_size e) z) (Nat.lt_irrefl _)
 have cellK : ∀ x c, X.env.cells.lookup x = some c → ∀ v, s.heap.IsCell c v → h'.IsCell c v := fun x c e v ⟨o, ho, hd⟩ => by
  have nch : c ∉ ch := fun z => (hch c z).2.2.1 x c e rfl
  by_cases hc : c ∈ X.fs
  ·obtain ⟨sl, q⟩ := slot c o (I.cne x c e) hc nch ho (I.freeC x c e)
   exact ⟨_, q, hd⟩
  ·exact ⟨o, keep c o (I.cne x c e) hc nch ho (I.freeC x c e), hd⟩
 refine ⟨I.ok, I.os, hg, ⟨fun b o e n hb hx => ?_, fun b o e n hb hx => ?_, fun b o e n hx => ?_, fun b o e hx => ?_, fun b xs e => tups b xs (I.base.tups b xs e), fun b o xs e => frzs b o xs (I.base.frzs b o xs e), fun b ps e => ?_⟩, ?_, fun x c e => ?_, ?_, fun x c e => ?_, fun p hp => ?_, hok, I.len⟩
 ·exact keep b o (neL b o e) hb (neC b o e hx) (I.base.keep b o e n hb hx) (I.base.free b o e n hx)
 ·obtain ⟨sl, e1⟩ := I.base.slot b o e n hb hx
  obtain ⟨sl', e2⟩ := slot b _ (neL b o e) hb (neC b o e hx) e1 (I.base.free b o e n hx)
  exact ⟨sl', e2⟩
 ·obtain ⟨o', e1⟩ := I.base.there b o e hx
  exact free b o' (neC b o e hx) e1 (I.base.free b o e n hx)
 ·obtain ⟨o', e1⟩ := I.base.there b o e hx
  exact there b o' (neC b o e hx) e1
 ·obtain ⟨m1, e1⟩ := I.base.tbls b ps e
  obtain ⟨m2, e2⟩ := tbls b _ e1
  exact ⟨m1 ++ m2, by rw [e2, Array.append_assoc]⟩
 ·obtain ⟨m, hn, hl⟩ := I.loc
  refine ⟨m, ns m hn, fun i x v e1 e2 e3 => ?_⟩
  obtain ⟨u, r, l⟩ := hl i x v e1 e2 e3
  refine ⟨u, r, ?_⟩
  rcases l with l | ⟨k, c, e, z⟩
  ·exact .inl l
  ·exact .inr ⟨k, c, e, cellK x c e _ z⟩
 ·obtain ⟨v, z⟩ := I.cell x c e
  exact ⟨v, cellK x c e v z⟩
 ·obtain ⟨m, ⟨o, _, _, ho, _⟩, _⟩ := I.loc
  exact free _ o (fun z => (hch _ z).2.1 rfl) ho I.free
 ·obtain ⟨v, o, ho, hd⟩ := I.cell x c e
  exact free c o (fun z => (hch c z).2.2.1 x c e rfl) ho (I.freeC x c e)
 ·obtain ⟨e, n, ne, nf, d⟩ := I.pin p hp
  have nch : p.1 ∉ ch := fun z => (hch p.1 z).2.2.2 p hp rfl
  exact ⟨keep p.1 p.2 ne nf nch e n, free p.1 p.2 nch e n, ne, nf, d⟩
theorem Inv.un {t' : Nat} (I : Inv X pins σ H s) (u : Un X.fs [] H H' s.heap h') (hok : HOk X.prog X.w H' h') : Inv X pins σ H' { s with heap := h', toks := t' } := by
 obtain ⟨m, ⟨o, es, ep, ho, r⟩, _⟩ := id I.loc
 obtain ⟨sl, hL⟩ := u.any ho I.free (by simp)
 exact I.step (g' := s.gens) (d' := s.drawn) (ch := []) (fun _ z => nomatch z) (fun b o _ hb _ e n => u.keep b o e n hb (by simp)) (fun b o _ hb _ e n => u.slot b o e n hb (by simp)) (fun b o _ e n => u.free b o e n (by simp)) (fun b o _ e => u.there b o e (by simp)) u.tups u.frzs u.tbls (fun m' hm => by
  obtain ⟨o', es', ep', ho', r'⟩ := hm
  rw [ho] at ho'; cases ho'
  exact ⟨_, es', ep', hL, r'⟩) hok I.bare
theorem Inv.call {g' : Array GenState} {t' : Nat} {d' : Drawn} {ch : List Addr} (I : Inv X pins σ H s) (u : Un (frs X.stack) ch H H' s.heap h') (hok : HOk X.prog X.w H' h') (hg : AllBare g')
  (hch : ∀ b ∈ ch, (b ∈ X.ex ∨ X.s₀.heap.objs.size ≤ b) ∧ b ≠ X.env.locals ∧ (∀ x c, X.env.cells.lookup x = some c → c ≠ b) ∧ ∀ p ∈ X.pn ++ pins, p.1 ≠ b) :
  Inv X pins σ H' { s with heap := h', gens := g', drawn := d', toks := t' } := by
 obtain ⟨m, ⟨o, es, ep, ho, r⟩, _⟩ := id I.loc
 obtain ⟨sl, hL⟩ := u.any ho I.free fun z => (hch _ z).2.1 rfl
 exact I.step (ch := ch) hch (fun b o hL hb hc e n => u.keep b o e n (fun z => (List.mem_cons.mp (I.stkSub b z)).elim hL hb) hc) (fun b o _ _ hc e n => u.any e n hc) (fun b o hc e n => u.free b o e n hc) (fun b o hc e => u.there b o e hc) u.tups u.frzs u.tbls (fun m' hm => by
  obtain ⟨o', es', ep', ho', r'⟩ := hm
  rw [ho] at ho'; cases ho'
  exact ⟨_, es', ep', hL, r'⟩) hok hg
theorem Inv.turned {t' : Nat} {it : Addr} (I : Inv X pins σ H s) (k : ∀ b o, b ≠ it → s.heap.get? b = some o → h'.get? b = some o) (hn : H it = none) (hL : it ≠ X.env.locals)
  (h1 : it ∈ X.ex ∨ X.s₀.heap.objs.size ≤ it) (h2 : ∀ x c, X.env.cells.lookup x = some c → c ≠ it) (h3 : ∀ p ∈ X.pn ++ pins, p.1 ≠ it) : Inv X pins σ H { s with heap := h', toks := t' } := by
 have nit : ∀ b u, H b = some u → b ≠ it := fun b u e z => by rw [z, hn] at e; cases e
 refine I.step (g' := s.gens) (d' := s.drawn) (ch := [it]) (fun b hb => ?_) (fun b o _ _ hc e _ => k b o (fun z => hc (by simp [z])) e) (fun b o _ _ hc e _ => ⟨o.slots, k b o (fun z => hc (by simp [z])) e⟩) (fun _ _ _ _ n => n)
  (fun b o hc e => ⟨o, k b o (fun z => hc (by simp [z])) e⟩) (fun _ _ e => e) (fun _ _ _ e => e) (fun b ps e => ⟨#[], by rw [e]; simp⟩) (fun m hm => ?_) (fun b u e => ?_) I.bare
 ·have e : b = it := by simpa using hb
  subst e
  exact ⟨h1, hL, h2, h3⟩
 ·obtain ⟨o, es, ep, ho, r⟩ := hm
  exact ⟨o, es, ep, k _ o (Ne.symm hL) ho, r⟩
 ·refine (I.hok b u e).stay (fun c v hc q => k c v ?_ q) (fun _ q => q) fun _ _ q => q
  rcases hc with z | z
  ·rw [z]; exact nit b u e
  ·exact nit c _ z
theorem Inv.tok (I : Inv X pins σ H s) (t : Nat) : Inv X pins σ H { s with toks := t } := I.un (h' := s.heap) (t' := t) Un.refl I.hok
theorem Inv.kept {t' : Nat} (I : Inv X pins σ H s) (k : ∀ b u, s.heap.get? b = some u → h'.get? b = some u) : Inv X pins σ H { s with heap := h', toks := t' } := I.un (Un.kept k) (I.hok.kept k)
theorem Inv.laid {a : Addr} {o : HO} {t' : Nat} (I : Inv X pins σ H s) (k : ∀ b u, s.heap.get? b = some u → h'.get? b = some u) (hp : s.heap.objs.size ≤ a) (new : dM X.prog X.w (upd H a o) h' a o) :
  Inv X pins σ (upd H a o) { s with heap := h', toks := t' } := I.un (Un.laid k hp (I.hok.fresh hp)) (I.hok.laid k hp new)
theorem Inv.write {x e : Addr} {o : HO} {t' : Nat} (I : Inv X pins σ H s) (mu : Mut (H x)) (he : e = x ∨ H e = some (.own x)) (k : ∀ b u, b ≠ e → s.heap.get? b = some u → h'.get? b = some u) (heo : ∃ u, h'.get? e = some u)
  (new : dM X.prog X.w (upd H x o) h' x o) : Inv X pins σ (upd H x o) { s with heap := h', toks := t' } := I.un (Un.write mu he k heo) (I.hok.write mu he k heo new)
theorem Inv.pins_of {pins' : List (Addr × Obj)} (I : Inv X pins σ H s) (h : ∀ p ∈ pins', s.heap.get? p.1 = some p.2 ∧ H p.1 = none ∧ p.1 ≠ X.env.locals ∧ p.1 ∉ X.fs ∧ ∀ v, p.2.data ≠ .cell v) : Inv X pins' σ H s :=
 ⟨I.ok, I.os, I.bare, I.base, I.loc, I.cell, I.free, I.freeC, fun p hp => (List.mem_append.mp hp).elim (fun z => I.pin p (List.mem_append_left _ z)) (h p), I.hok, I.len⟩
theorem rF {N : List Str} (hN : N.Nodup) {i j : Nat} {x : Str} (a : N[i]? = some x) (b : N[j]? = some x) : i = j := by
 obtain ⟨h1, e1⟩ := List.getElem?_eq_some_iff.mp a
 obtain ⟨h2, e2⟩ := List.getElem?_eq_some_iff.mp b
 exact (List.getElem_inj hN).mp (e1.trans e2.symm)
theorem o8 {M : Model} {A : Around} {E : Value → Shared → Prop} {i : Nat} {x : Str} {v : V} {u : Value} {Q : Unit → Shared → Prop} (I : Inv X pins σ H s) (hN : X.N.Nodup) (hi : X.N[i]? = some x) (hx : Loc X.env.scope x) (r : dk v u)
  (h : ∀ s', Inv X pins (σ.set i (some v)) H s' → (∃ a, Heap.SameBut a s.heap s'.heap ∧ (a = X.env.locals ∨ X.env.cells.lookup x = some a)) → Q () s') (hf : X.fn x = true ∨ X.env.scope.names.lookup x = some .local := by first | exact .inl rfl | exact .inr rfl | assumption) : wpAny M A (storeName X.env x u) Q E s := by
 obtain ⟨m, hn, hl⟩ := id I.loc
 have hcls : (X.env.scope.kind == .class || (X.env.scope.kind == .module && X.env.locals != X.env.globals)) = false := by rw [I.ok.kind]; rfl
 have hiσ : i < σ.length := by rw [I.len]; exact (List.getElem?_eq_some_iff.mp hi).1
 have cne := I.cne
 have tracked : ∀ {a : Addr} {h' : Heap}, (∃ o, s.heap.get? a = some o ∧ H a = none) → Heap.SameBut a s.heap h' → HOk X.prog X.w H h' := fun {a h'} ha hs b ob e => by
  obtain ⟨_, _, hfree⟩ := ha
  refine (I.hok b ob e).stay (fun c w' hc q => (hs.2 c ?_).trans q) (fun _ q => q) fun _ _ q => q
  rintro rfl
  rcases hc with rfl | hc
  ·rw [hfree] at e; cases e
  ·rw [hfree] at hc; cases hc
 rcases hx with hk | hk
 ·refine wpAny_storeName_local hk hn (fun h' hn' hs => ?_) hcls
  obtain ⟨oL, _, _, hoL, _⟩ := id hn
  refine h _ ⟨I.ok, I.os, I.bare, ⟨fun b o e n hb hx => ?_, fun b o e n hb hx => ?_, I.base.free, fun b o e hx => ?_, I.base.tups, I.base.frzs, I.base.tbls⟩, ⟨_, hn', fun j y v' e1 e2 e3 => ?_⟩, fun y c e => ?_, I.free, I.freeC, fun p hp => ?_, tracked ⟨oL, hoL, I.free⟩ hs, by simpa using I.len⟩ ⟨_, hs, .inl rfl⟩
  ·exact (hs.2 b (Nat.ne_of_lt (Nat.lt_of_lt_of_le (Heap.lt_size e) I.ok.above))).trans (I.base.keep b o e n hb hx)
  ·obtain ⟨sl, e1⟩ := I.base.slot b o e n hb hx
   exact ⟨sl, (hs.2 b (Nat.ne_of_lt (Nat.lt_of_lt_of_le (Heap.lt_size e) I.ok.above))).trans e1⟩
  ·obtain ⟨o', e1⟩ := I.base.there b o e hx
   exact ⟨o', (hs.2 b (Nat.ne_of_lt (Nat.lt_of_lt_of_le (Heap.lt_size e) I.ok.above))).trans e1⟩
  ·by_cases hj : j = i
   ·subst hj
    rw [hi] at e1; cases e1
    rw [List.getElem?_set_self hiσ] at e2
    cases e2
    exact ⟨u, r, .inl ⟨hk, by simp⟩⟩
   ·rw [List.getElem?_set_ne (Ne.symm hj)] at e2
    obtain ⟨u', r', q⟩ := hl j y v' e1 e2 e3
    refine ⟨u', r', ?_⟩
    rcases q with ⟨k, e⟩ | ⟨k, c, e, z⟩
    ·refine .inl ⟨k, ?_⟩
     have : y ≠ x := fun e => hj (rF hN e1 (e ▸ hi))
     simp [this, e]
    ·exact .inr ⟨k, c, e, z.sameBut hs (cne y c e)⟩
  ·obtain ⟨w', z⟩ := I.cell y c e
   exact ⟨w', z.sameBut hs (cne y c e)⟩
  ·obtain ⟨e, n, ne, nf, d⟩ := I.pin p hp
   exact ⟨(hs.2 p.1 ne).trans e, n, ne, nf, d⟩
 ·have hfn : X.fn x = true := by
   rcases hf with z | z
   ·exact z
   ·rw [z] at hk; cases hk
  obtain ⟨c, hc⟩ := I.ok.has x (.inl hk)
  obtain ⟨w', z⟩ := I.cell x c hc
  refine wpAny_storeName_cell I.ok.kind hk hc z (fun h' hc' hs => ?_)
  obtain ⟨oc, hoc, hocd⟩ := id z
  refine h { s with heap := h' } ⟨I.ok, I.os, I.bare, ⟨fun b o e n hb hx => ?_, fun b o e n hb hx => ?_, I.base.free, fun b o e hx => ?_, I.base.tups, I.base.frzs, I.base.tbls⟩, ⟨m, hn.sameBut hs (Ne.symm (cne x c hc)), fun j y v' e1 e2 e3 => ?_⟩, fun y c' e => ?_, I.free, I.freeC, fun p hp => ?_, tracked ⟨oc, hoc, I.freeC x c hc⟩ hs, by simpa using I.len⟩ ⟨c, hs, .inr hc⟩
  ·exact (hs.2 b (Nat.ne_of_lt (Nat.lt_of_lt_of_le (Heap.lt_size e) (I.ok.cab x c hfn hc)))).trans (I.base.keep b o e n hb hx)
  ·obtain ⟨sl, e1⟩ := I.base.slot b o e n hb hx
   exact ⟨sl, (hs.2 b (Nat.ne_of_lt (Nat.lt_of_lt_of_le (Heap.lt_size e) (I.ok.cab x c hfn hc)))).trans e1⟩
  ·obtain ⟨o', e1⟩ := I.base.there b o e hx
   exact ⟨o', (hs.2 b (Nat.ne_of_lt (Nat.lt_of_lt_of_le (Heap.lt_size e) (I.ok.cab x c hfn hc)))).trans e1⟩
  ·by_cases hj : j = i
   ·subst hj
    rw [hi] at e1; cases e1
    rw [List.getElem?_set_self hiσ] at e2
    cases e2
    exact ⟨u, r, .inr ⟨.inl hk, c, hc, hc'⟩⟩
   ·rw [List.getElem?_set_ne (Ne.symm hj)] at e2
    obtain ⟨u', r', q⟩ := hl j y v' e1 e2 e3
    refine ⟨u', r', ?_⟩
    rcases q with q | ⟨k, c', e, z'⟩
    ·exact .inl q
    ·refine .inr ⟨k, c', e, z'.sameBut hs ?_⟩
     rintro rfl
     exact hj (rF hN e1 (I.ok.inj _ _ _ e hc ▸ hi))
  ·by_cases hcc : c' = c
   ·subst hcc; exact ⟨_, hc'⟩
   ·obtain ⟨w2, z2⟩ := I.cell y c' e
    exact ⟨w2, z2.sameBut hs hcc⟩
  ·obtain ⟨e, n, ne, nf, d⟩ := I.pin p hp
   refine ⟨(hs.2 p.1 ?_).trans e, n, ne, nf, d⟩
   intro q
   rw [q, hoc] at e
   have q' : oc = p.2 := Option.some.inj e
   exact d w' (by rw [← q']; exact hocd)
theorem rm {M : Model} {A : Around} {E : Value → Shared → Prop} {i : Nat} {x : Str} {v : V} {u : Value} {Q : Unit → Shared → Prop} (I : Inv X pins σ H s) (hN : X.N.Nodup) (hi : X.N[i]? = some x) (hx : Loc X.env.scope x) (r : dk v u)
  (h : ∀ s', Inv X pins (σ.set i (some v)) H s' → Q () s') (hf : X.fn x = true ∨ X.env.scope.names.lookup x = some .local := by first | exact .inl rfl | exact .inr rfl | assumption) : wpAny M A (storeName X.env x u) Q E s :=
 o8 I hN hi hx r (fun s' I' _ => h s' I') hf
theorem Inv.call' {s' : Shared} {ch : List Addr} (I : Inv X pins σ H s) (ho : s'.os = s.os) (u : Un (frs X.stack) ch H H' s.heap s'.heap) (hok : HOk X.prog X.w H' s'.heap) (hg : AllBare s'.gens)
  (hch : ∀ b ∈ ch, (b ∈ X.ex ∨ X.s₀.heap.objs.size ≤ b) ∧ b ≠ X.env.locals ∧ (∀ x c, X.env.cells.lookup x = some c → c ≠ b) ∧ ∀ p ∈ X.pn ++ pins, p.1 ≠ b) : Inv X pins σ H' s' := by
 obtain ⟨h', g', d', t', o'⟩ := s'
 have e : o' = s.os := ho
 subst e
 exact I.call (g' := g') (t' := t') (d' := d') u hok hg hch
end
noncomputable abbrev XK := Value → Option Addr → Hp → Prop
noncomputable abbrev St := List (Option V)
noncomputable abbrev VK := V → Hp → Prop
noncomputable abbrev TE := St → Hp → VK → Prop
noncomputable abbrev TT := St → Hp → (Bool → Hp → Prop) → Prop
noncomputable abbrev TA := St → Hp → (List V → Hp → Prop) → Prop
structure zP where
 nx : St → Hp → Prop
 rt : VK
 bk : St → Hp → Prop := fun _ _ => False
 ct : St → Hp → Prop := fun _ _ => False
noncomputable abbrev TS := zP → St → Hp → Prop
noncomputable def EP (X : Cx) (pins : List (Addr × Obj)) (σ : St) (Q : VK) (u : Value) (s' : Shared) : Prop := ∃ v H', Inv X pins σ H' s' ∧ dk v u ∧ Q v H'
noncomputable def TP (X : Cx) (pins : List (Addr × Obj)) (σ : St) (Q : Bool → Hp → Prop) (b : Bool) (s' : Shared) : Prop := ∃ H', Inv X pins σ H' s' ∧ Q b H'
noncomputable def AP (X : Cx) (pins : List (Addr × Obj)) (σ : St) (Q : List V → Hp → Prop) (us : List Value) (s' : Shared) : Prop := ∃ vs H', Inv X pins σ H' s' ∧ cL vs us ∧ Q vs H'
noncomputable def SP (X : Cx) (pins : List (Addr × Obj)) (D : zP) (f : Flow) (s' : Shared) : Prop :=
 match f with
 | .next => ∃ σ' H', Inv X pins σ' H' s' ∧ D.nx σ' H'
 | .brk => ∃ σ' H', Inv X pins σ' H' s' ∧ D.bk σ' H'
 | .cont => ∃ σ' H', Inv X pins σ' H' s' ∧ D.ct σ' H'
 | .ret u => ∃ v σ' H', Inv X pins σ' H' s' ∧ dk v u ∧ D.rt v H'
noncomputable def PE (X : Cx) (e : Expr) (t : TE) : Prop :=
 ∀ (pins : List (Addr × Obj)) (s : Shared) (σ : St) (H : Hp) (Q : VK), Inv X pins σ H s → t σ H Q → wpAny (model X.prog X.w) X.A (eval e X.env) (EP X pins σ Q) X.xe s
noncomputable def PT (X : Cx) (e : Expr) (t : TT) : Prop :=
 ∀ (pins : List (Addr × Obj)) (s : Shared) (σ : St) (H : Hp) (Q : Bool → Hp → Prop), Inv X pins σ H s → t σ H Q → wpAny (model X.prog X.w) X.A (isTrue e X.env (eval e X.env)) (TP X pins σ Q) X.xe s
noncomputable def PW (X : Cx) (e : Expr) (t : TT) : Prop :=
 ∀ (whole : Sem Value) (pins : List (Addr × Obj)) (s : Shared) (σ : St) (H : Hp) (Q : Bool → Hp → Prop), Inv X pins σ H s → t σ H Q → wpAny (model X.prog X.w) X.A (isTrue e X.env whole) (TP X pins σ Q) X.xe s
theorem PW.pt {X : Cx} {e : Expr} {t : TT} (h : PW X e t) : PT X e t := h _
noncomputable def PA (X : Cx) (es : List Expr) (t : TA) : Prop :=
 ∀ (pos : Pos) (pins : List (Addr × Obj)) (s : Shared) (σ : St) (H : Hp) (Q : List V → Hp → Prop), Inv X pins σ H s → t σ H Q → wpAny (model X.prog X.w) X.A (spliced (backTo pos (starEach es X.env))) (AP X pins σ Q) X.xe s
noncomputable def PS (X : Cx) (st : Stmt) (t : TS) : Prop :=
 ∀ (pins : List (Addr × Obj)) (s : Shared) (σ : St) (H : Hp) (D : zP), Inv X pins σ H s → t D σ H → wpAny (model X.prog X.w) X.A (exec st X.env) (SP X pins D) X.xe s
noncomputable def PSs (X : Cx) (st : List Stmt) (t : TS) : Prop :=
 ∀ (pins : List (Addr × Obj)) (s : Shared) (σ : St) (H : Hp) (D : zP), Inv X pins σ H s → t D σ H → wpAny (model X.prog X.w) X.A (execs st X.env) (SP X pins D) X.xe s
theorem thn {α : Type} {t : Sem α} {Q Q' : α → Shared → Prop} {M : Model} {A : Around} {E : Value → Shared → Prop} {s : Shared} (h : wpAny M A t Q E s) (hQ : ∀ a s, Q a s → Q' a s) : wpAny M A t Q' E s := wpAny_mono h hQ fun _ _ x => x
section
variable {X : Cx}
noncomputable def EG (i : Nat) : TE := fun σ H Q => ∃ v, σ[i]? = some (some v) ∧ Q v H
noncomputable def tC (v : V) : TE := fun _ H Q => Q v H
theorem Du {i : Nat} {x : Str} {pos : Pos} (hN : X.N[i]? = some x) (hv : Vis X.env.scope x) (hd : (x == ("__debug__" : Str)) = false := by decide) (hcd : (x == ("__classdict__" : Str)) = false := by decide) : PE X (.Name x pos) (EG i) := by
 intro pins s σ H Q I h
 obtain ⟨v, e, h⟩ := h
 obtain ⟨m, hn, hl⟩ := I.loc
 obtain ⟨u, r, l⟩ := hl i x v hN e hv
 have fin : EP X pins σ Q u s := ⟨v, H, I, r, h⟩
 rcases l with ⟨hk, hm⟩ | ⟨hk, c, hc, hcell⟩
 ·exact wpAny_Name (wpAny_loadName_local I.ok.kind hk hn hm fin) hd
 ·rcases hk with hk | hk
  ·exact wpAny_Name (wpAny_loadName_cell I.ok.kind hk hc hcell fin) hd
  ·exact wpAny_Name (wpAny_loadName_free I.ok.kind hk hc hcell fin hcd) hd
theorem DC {i j pos} : PE X (.Constant (.int i) j pos) (tC (.int i)) := fun _ _ _ H _ I h => wpAny_Constant_int ⟨.int i, H, I.tok _, ⟨_, rfl⟩, h⟩
theorem Gw {b j pos} : PE X (.Constant (.bool b) j pos) (tC (.bl b)) := fun _ _ _ H _ I h => Constant_bool ⟨.bl b, H, I, rfl, h⟩
theorem Dz {j pos} : PE X (.Constant .none j pos) (tC .non) := fun _ _ _ H _ I h => Constant_none ⟨.non, H, I, rfl, h⟩
theorem Dw {x j pos} : PE X (.Constant (.str x) j pos) (tC (.str x)) := fun _ _ _ H _ I h => Calls.Constant_str ⟨.str x, H, I.tok _, ⟨_, rfl⟩, h⟩
noncomputable def Gl (X : Cx) (x : Str) : Prop := X.env.kindOf x = some .globalImplicit
theorem qA {E : Value → Shared → Prop} {pins : List (Addr × Obj)} {s : Shared} {σ : St} {H : Hp} {x : Str} {u : Value} {pos : Pos} {Q : Value → Shared → Prop} (I : Inv X pins σ H s) (hg : Gl X x) (hm : X.mg x = some u) (h : Q u s)
  (hd : (x == ("__debug__" : Str)) = false := by decide) : wpAny (model X.prog X.w) X.A (eval (.Name x pos) X.env) Q E s :=
 Calls.Name_function_global I.ok.kind hg (Calls.loadGlobal_global (by rw [I.ok.glob]; exact I.mod.glob.keeps I.bk) hm h) hd
theorem lZ {E : Value → Shared → Prop} {pins : List (Addr × Obj)} {s : Shared} {σ : St} {H : Hp} {x : Str} {u : Value} {pos : Pos} {Q : Value → Shared → Prop} (I : Inv X pins σ H s) (hg : Gl X x) (hm : X.mg x = none) (hv : bootBuiltins x = some u) (h : Q u s)
  (hn : x ≠ "__name__" := by decide) (hd : (x == ("__debug__" : Str)) = false := by decide) : wpAny (model X.prog X.w) X.A (eval (.Name x pos) X.env) Q E s := by
 obtain ⟨mb, h1, h2⟩ := I.mod.blt
 exact Calls.Name_function_global I.ok.kind hg (Calls.loadGlobal_builtin (by rw [I.ok.glob]; exact I.mod.glob.keeps I.bk) hm (by rw [I.ok.blt]; exact h1.keeps I.bk) ((h2 x hn).trans hv) h) hd
theorem AZ {x : Str} {v : V} {u : Value} {pos : Pos} (hg : Gl X x) (hm : X.mg x = some u) (r : dk v u) (hd : (x == ("__debug__" : Str)) = false := by decide) : PE X (.Name x pos) (tC v) :=
 fun _ _ _ H _ I h => qA I hg hm ⟨v, H, I, r, h⟩ hd
theorem A3 {x : Str} {v : V} {u : Value} {pos : Pos} (hg : Gl X x) (hm : X.mg x = none) (hv : bootBuiltins x = some u) (r : dk v u) (hn : x ≠ "__name__" := by decide) (hd : (x == ("__debug__" : Str)) = false := by decide) : PE X (.Name x pos) (tC v) :=
 fun _ _ _ H _ I h => lZ I hg hm hv ⟨v, H, I, r, h⟩ hn hd
variable {a b : Expr} {ta tb : TE} {pos : Pos}
noncomputable def PC (X : Cx) (op : CmpOp) (a b : Expr) (t : TE) : Prop :=
 ∀ (pins : List (Addr × Obj)) (s : Shared) (σ : St) (H : Hp) (Q : VK), Inv X pins σ H s → t σ H Q →
  wpAny (model X.prog X.w) X.A (eval a X.env) (fun v s₁ => wpAny (model X.prog X.w) X.A (eval b X.env) (fun u s₂ => wpAny (model X.prog X.w) X.A (compareOp op v u) (EP X pins σ Q) X.xe s₂) X.xe s₁) X.xe s
noncomputable def tB (t : TE) : TT := fun σ H Q => t σ H fun x H1 => ∃ c, x = .bl c ∧ Q c H1
theorem DG {op : CmpOp} {t : TE} (h : PC X op a b t) (h1 : behindInMarks op b = false := by first | exact nobehind _ (by decide) (by decide) | rfl) : PE X (.Compare a [op] [b] pos) t := fun pins s σ H Q I hw => wpAny_Compare1 (h pins s σ H Q I hw) h1
theorem Dh {op : CmpOp} {t : TE} (h : PC X op a b t) (h1 : behindInMarks op b = false := by first | exact nobehind _ (by decide) (by decide) | rfl) : PT X (.Compare a [op] [b] pos) (tB t) := by
 intro pins s σ H Q I hw
 refine wpAny_isTrue_Compare1 (thn (h pins s σ H _ I hw) fun v s1 h1 => thn h1 fun u s2 h2 => thn h2 fun c s3 hz => ?_) h1
 obtain ⟨x, H1, I1, r1, q1⟩ := hz
 obtain ⟨d, rfl, q⟩ := q1
 cases r1
 exact wpAny_truthy_bool ⟨H1, I1, q⟩
theorem Df {e : Expr} {t : TE} (h : PE X e t) (he : ∀ whole, isTrue e X.env whole = (do let v ← whole; standAt e.pos; holding [v] (truthy v)) := by intro _; rfl) : PT X e (tB t) := by
 intro pins s σ H Q I hw
 refine isTrue_plain (thn (h pins s σ H _ I hw) fun v s1 ⟨x, H1, I1, r1, q1⟩ => ?_) (he _)
 obtain ⟨d, rfl, q⟩ := q1
 cases r1
 exact wpAny_truthy_bool ⟨H1, I1, q⟩
variable {tA tB' : TT} {rest : List Expr}
noncomputable def Ht (t u : TT) : TT := fun σ H Q => t σ H fun c H1 => if c = true then u σ H1 Q else Q false H1
noncomputable def tOr (t u : TT) : TT := fun σ H Q => t σ H fun c H1 => if c = true then Q true H1 else u σ H1 Q
noncomputable def Hn (t : TT) : TT := fun σ H Q => t σ H fun c H1 => Q (!c) H1
theorem AK (ha : PT X a tA) : PW X (.BoolOp .And [a] pos) tA := by
 intro wh pins s σ H Q I h
 refine isTrue_and (thn (ha pins s σ H Q I h) fun c s1 e => ?_)
 cases c with
 | true => exact isTrue_and_nil e
 | false => exact e
theorem Dd (ha : PT X a tA) : PW X (.BoolOp .Or [a] pos) tA := by
 intro wh pins s σ H Q I h
 refine isTrue_or (thn (ha pins s σ H Q I h) fun c s1 e => ?_)
 cases c with
 | false => exact isTrue_or_nil e
 | true => exact e
theorem De (ha : PT X a tA) (hb : PW X (.BoolOp .And (b :: rest) pos) tB') : PW X (.BoolOp .And (a :: b :: rest) pos) (Ht tA tB') := by
 intro wh pins s σ H Q I h
 refine isTrue_and (thn (ha pins s σ H _ I h) fun c s1 ⟨H1, I1, q1⟩ => ?_)
 cases c with
 | true => exact hb wh pins s1 σ H1 Q I1 q1
 | false => exact ⟨H1, I1, q1⟩
theorem Gm (ha : PT X a tA) (hb : PW X (.BoolOp .Or (b :: rest) pos) tB') : PW X (.BoolOp .Or (a :: b :: rest) pos) (tOr tA tB') := by
 intro wh pins s σ H Q I h
 refine isTrue_or (thn (ha pins s σ H _ I h) fun c s1 ⟨H1, I1, q1⟩ => ?_)
 cases c with
 | true => exact ⟨H1, I1, q1⟩
 | false => exact hb wh pins s1 σ H1 Q I1 q1
theorem Dg (ha : PT X a tA) : PT X (.UnaryOp .Not a pos) (Hn tA) := by
 intro pins s σ H Q I h
 exact isTrue_not (ha pins s σ H (fun c H1 => Q (!c) H1) I h)
noncomputable def C4 (ta tb : TE) : TE := fun σ H Q => ta σ H fun x H1 => ∃ c, x = .bl c ∧ if c = true then tb σ H1 Q else Q (.bl false) H1
noncomputable def CV (ta : TE) : TE := fun σ H Q => ta σ H fun x H1 => ∃ c, x = .bl c ∧ Q (.bl (!c)) H1
theorem Dx {op} {t : TE} (h : PE X a t) : PE X (.BoolOp op [a] pos) t := fun pins s σ H Q I hw => BoolOp_one (h pins s σ H Q I hw)
theorem DI (ha : PE X a ta) (hb : PE X (.BoolOp .And (b :: rest) pos) tb) : PE X (.BoolOp .And (a :: b :: rest) pos) (C4 ta tb) := by
 intro pins s σ H Q I h
 refine BoolOp_and (thn (ha pins s σ H _ I h) fun v s1 hz => ?_)
 obtain ⟨x, H1, I1, r1, q1⟩ := hz
 obtain ⟨c, rfl, q1⟩ := q1
 cases r1
 refine wpAny_truthy_bool ?_
 cases c with
 | true => exact hb pins s1 σ H1 Q I1 q1
 | false => exact ⟨.bl false, H1, I1, rfl, q1⟩
theorem Dy (ha : PE X a ta) : PE X (.UnaryOp .Not a pos) (CV ta) := by
 intro pins s σ H Q I h
 refine UnaryOp_ (thn (ha pins s σ H _ I h) fun v s1 hz => ?_)
 obtain ⟨x, H1, I1, r1, q1⟩ := hz
 obtain ⟨c, rfl, q1⟩ := q1
 cases r1
 exact not_of (wpAny_truthy_bool ⟨.bl (!c), H1, I1, rfl, q1⟩)
end
noncomputable def SqL (K : PySem.W.Frag) (H : Hp) (a : Addr) (xs : List V) : Prop :=
 Rd H a (.lst xs) ∨
  ∃ (o : Obj) (its : Array Value) (n : Nat), K.lookup a = some o ∧ o.cls = .type "list" ∧ o.dict = none ∧ o.data = .seq its n ∧ its.size ≤ sizeLine ∧ cL xs its.toList
noncomputable def SqT (K : PySem.W.Frag) (H : Hp) (a : Addr) (xs : List V) : Prop :=
 Rd H a (.tup xs) ∨
  ∃ (o : Obj) (its : Array Value) (n : Nat), K.lookup a = some o ∧ o.cls = .type "tuple" ∧ o.data = .seq its n ∧ its.size ≤ sizeLine ∧ cL xs its.toList
noncomputable def IP : Value → Option V
 | .none => some .non
 | .bool b => some (.bl b)
 | .int i _ => some (.int i)
 | .str x _ => some (.str x)
 | .bytes b _ => some (.byt b)
 | .float b _ => some (.flt b)
 | .ref a => some (.ref a)
 | .type n => some (.ty n)
 | _ => none
theorem dk.abs {x : V} {u : Value} (r : dk x u) : IP u = some x := by
 cases x with
 | non => cases r; rfl
 | bl _ => cases r; rfl
 | int _ => obtain ⟨t, rfl⟩ := r; rfl
 | str _ => obtain ⟨t, rfl⟩ := r; rfl
 | byt _ => obtain ⟨t, rfl⟩ := r; rfl
 | flt _ => obtain ⟨t, rfl⟩ := r; rfl
 | ref _ => cases r; rfl
 | ty _ => cases r; rfl
theorem dk.inj {x y : V} {u : Value} (r : dk x u) (q : dk y u) : x = y := Option.some.inj (r.abs.symm.trans q.abs)
theorem cL.inj : ∀ {xs ys : List V} {us : List Value}, cL xs us → cL ys us → xs = ys
 | _, _, _, .nil, .nil => rfl
 | _, _, _, .cons r t, .cons r' t' => by rw [r.inj r', cL.inj t t']
section
variable {X : Cx} {pins : List (Addr × Obj)} {σ : St} {H : Hp} {s : Shared} {a : Addr} {xs ys : List V}
theorem SqL.of {K : PySem.W.Frag} (h : H a = some (.lst xs)) : SqL K H a xs := .inl (.inl h)
theorem SqT.of {K : PySem.W.Frag} (h : H a = some (.tup xs)) : SqT K H a xs := .inl (.inl h)
theorem Inv.list (I : Inv X pins σ H s) (h : SqL X.K H a xs) : ∃ its : List Value, cL xs its ∧ PlainL s.heap a its.toArray ∧ xs.length ≤ sizeLine := by
 rcases h with h | ⟨o, its, n, hk, hc, hd, hs, hz, r⟩
 ·obtain ⟨z, its, n, r, e⟩ := h.ok I.hok
  exact ⟨its, r, ⟨_, n, e, rfl, rfl, rfl⟩, z⟩
 ·refine ⟨its.toList, r, ⟨o, n, I.kIn a o hk, hc, hd, by simpa using hs⟩, ?_⟩
  have e := r.length
  simp only [Array.length_toList] at e
  omega
theorem Inv.tuple (I : Inv X pins σ H s) (h : SqT X.K H a xs) : ∃ its : List Value, cL xs its ∧ IsTup s.heap a its.toArray ∧ xs.length ≤ sizeLine := by
 rcases h with h | ⟨o, its, n, hk, hc, hs, hz, r⟩
 ·obtain ⟨z, its, r, p⟩ := h.ok I.hok
  exact ⟨its, r, p, z⟩
 ·refine ⟨its.toList, r, ⟨o, I.kIn a o hk, hc, n, by simpa using hs⟩, ?_⟩
  have e := r.length
  simp only [Array.length_toList] at e
  omega
theorem Inv.list_inj (I : Inv X pins σ H s) (h : SqL X.K H a xs) (h' : SqL X.K H a ys) : xs = ys := by
 obtain ⟨its, r, ⟨o, n, e, _, _, d⟩, _⟩ := I.list h
 obtain ⟨its', r', ⟨o', n', e', _, _, d'⟩, _⟩ := I.list h'
 rw [e] at e'; cases e'
 rw [d] at d'
 injection d' with d1 _
 have : its = its' := by simpa using congrArg Array.toList d1
 subst this
 exact r.inj r'
theorem Inv.tuple_inj (I : Inv X pins σ H s) (h : SqT X.K H a xs) (h' : SqT X.K H a ys) : xs = ys := by
 obtain ⟨its, r, ⟨o, e, _, n, d⟩, _⟩ := I.tuple h
 obtain ⟨its', r', ⟨o', e', _, n', d'⟩, _⟩ := I.tuple h'
 rw [e] at e'; cases e'
 rw [d] at d'
 injection d' with d1 _
 have : its = its' := by simpa using congrArg Array.toList d1
 subst this
 exact r.inj r'
end
noncomputable abbrev Cx.wish (X : Cx) (E : Value → Shared → Prop) : Cx := { X with xe := E }
noncomputable abbrev Cx.nox (X : Cx) : Cx := X.wish fun _ _ => False
theorem Cx.Ok.wish {X : Cx} (ok : X.Ok) (E : Value → Shared → Prop) : (X.wish E).Ok :=
 ⟨ok.mod, ok.kind, ok.glob, ok.blt, ok.above, ok.inj, ok.has, ok.cab, ok.hd, ok.frames, ok.stk, ok.exf, ok.bs, ok.bsz, ok.noex, ok.exfs, ok.funs, ok.frf⟩
theorem Cx.Ok.unwish {X : Cx} {E : Value → Shared → Prop} (ok : (X.wish E).Ok) : X.Ok :=
 ⟨ok.mod, ok.kind, ok.glob, ok.blt, ok.above, ok.inj, ok.has, ok.cab, ok.hd, ok.frames, ok.stk, ok.exf, ok.bs, ok.bsz, ok.noex, ok.exfs, ok.funs, ok.frf⟩
section
variable {X : Cx} {pins : List (Addr × Obj)} {σ : St} {H : Hp} {s : Shared} {E : Value → Shared → Prop}
theorem Inv.wish (I : Inv X pins σ H s) (E : Value → Shared → Prop) : Inv (X.wish E) pins σ H s := ⟨I.ok.wish E, I.os, I.bare, I.base, I.loc, I.cell, I.free, I.freeC, I.pin, I.hok, I.len⟩
theorem Inv.unwish (I : Inv (X.wish E) pins σ H s) : Inv X pins σ H s := ⟨I.ok.unwish, I.os, I.bare, I.base, I.loc, I.cell, I.free, I.freeC, I.pin, I.hok, I.len⟩
theorem SP.unwish {D : zP} {f : Flow} {s' : Shared} (h : SP (X.wish E) pins D f s') : SP X pins D f s' := by
 cases f with
 | next => obtain ⟨σ', H', I, q⟩ := h; exact ⟨σ', H', I.unwish, q⟩
 | brk => obtain ⟨σ', H', I, q⟩ := h; exact ⟨σ', H', I.unwish, q⟩
 | cont => obtain ⟨σ', H', I, q⟩ := h; exact ⟨σ', H', I.unwish, q⟩
 | ret u => obtain ⟨v, σ', H', I, r, q⟩ := h; exact ⟨v, σ', H', I.unwish, r, q⟩
theorem PSs.nox {st : List Stmt} {t : TS} (h : PSs X.nox st t) : PSs X st t := fun pins s σ H D I hw =>
 wpAny_mono (h pins s σ H D (I.wish _) hw) (fun _ _ q => q.unwish) fun _ _ z => False.elim z
end
section
variable {X : Cx} {st : Stmt} {rest : List Stmt} {t u : TS} {e : Expr} {te : TE} {pos : Pos}
noncomputable def CW : TS := fun D σ H => D.nx σ H
noncomputable def Hl (t u : TS) : TS := fun D σ H => t { D with nx := u D } σ H
theorem AN : PSs X [] CW := fun _ _ σ H _ I h => wpAny_execs_nil ⟨σ, H, I, h⟩
theorem xN (h1 : PS X st t) (h2 : PSs X rest u) : PSs X (st :: rest) (Hl t u) := by
 intro pins s σ H D I h
 refine wpAny_execs_cons (thn (h1 pins s σ H { D with nx := u D } I h) fun f s1 q => ?_)
 cases f with
 | next =>
  obtain ⟨σ', H', I', q⟩ := q
  exact h2 pins s1 σ' H' D I' q
 | ret v => exact q
 | brk => exact q
 | cont => exact q
theorem AM (h1 : PS X st t) : PSs X [st] t := by
 intro pins s σ H D I h
 refine wpAny_execs_cons (thn (h1 pins s σ H D I h) fun f s1 q => ?_)
 cases f with
 | next => exact wpAny_execs_nil q
 | ret v => exact q
 | brk => exact q
 | cont => exact q
theorem Inv.quiet {pins : List (Addr × Obj)} {σ : St} {H : Hp} {s : Shared} (I : Inv X pins σ H s) : interactive X.env = false := by simp [interactive, I.ok.kind]
noncomputable def CY (te : TE) : TS := fun D σ H => te σ H fun _ H1 => D.nx σ H1
theorem AO (he : PE X e te) (hs : swapsWith e none pos.line X.env = pure false := by rfl) : PS X (.Expr e pos) (CY te) := by
 intro pins s σ H D I h
 exact wpAny_Expr_any (thn (he pins s σ H _ I h) fun v s1 ⟨x, H1, I1, r1, q1⟩ => ⟨σ, H1, I1, q1⟩) I.quiet hs
noncomputable def Hm (te : TE) : TS := fun D σ H => te σ H D.rt
theorem Dj (he : PE X e te) : PS X (.Return (some e) pos) (Hm te) := by
 intro pins s σ H D I h
 exact wpAny_Return_some (thn (he pins s σ H _ I h) fun v s1 ⟨x, H1, I1, r1, q1⟩ => ⟨x, σ, H1, I1, r1, q1⟩)
noncomputable def Hq (c : TT) (t u : TS) : TS := fun D σ H => c σ H fun b H1 => if b = true then t D σ H1 else u D σ H1
theorem Gn {c : Expr} {a b : List Stmt} {tc : TT} (hc : PT X c tc) (ha : PSs X a t) (hb : PSs X b u) : PS X (.If c a b pos) (Hq tc t u) := by
 intro pins s σ H D I h
 refine wpAny_If (thn (hc pins s σ H _ I h) fun d s1 ⟨H1, I1, q1⟩ => ?_)
 cases d with
 | true => exact ha pins s1 σ H1 D I1 q1
 | false => exact hb pins s1 σ H1 D I1 q1
end
noncomputable abbrev TG := V → St → Hp → (St → Hp → Prop) → Prop
noncomputable abbrev TGs := List V → St → Hp → (St → Hp → Prop) → Prop
noncomputable def PG (X : Cx) (target : Expr) (t : TG) : Prop :=
 ∀ (pins : List (Addr × Obj)) (s : Shared) (σ : St) (H : Hp) (v : V) (u : Value) (Q : St → Hp → Prop), Inv X pins σ H s → dk v u → t v σ H Q →
  wpAny (model X.prog X.w) X.A (assign target X.env u) (fun _ s' => ∃ σ' H', Inv X pins σ' H' s' ∧ Q σ' H') X.xe s
noncomputable def PGs (X : Cx) (ts : List Expr) (t : TGs) : Prop :=
 ∀ (pins : List (Addr × Obj)) (s : Shared) (σ : St) (H : Hp) (vs : List V) (us : List Value) (Q : St → Hp → Prop), Inv X pins σ H s → cL vs us → t vs σ H Q →
  wpAny (model X.prog X.w) X.A (assignInOrder ((assignEach ts X.env).map (·.2)) us) (fun _ s' => ∃ σ' H', Inv X pins σ' H' s' ∧ Q σ' H') X.xe s
noncomputable abbrev EV := V → V → V → Hp → (Hp → Prop) → Prop
noncomputable def Hh (X : Cx) (t : EV) : Prop :=
 ∀ (pins : List (Addr × Obj)) (s : Shared) (σ : St) (H : Hp) (o i v : V) (ov iv u : Value) (Q : Hp → Prop), Inv X pins σ H s → dk o ov → dk i iv → dk v u → t o i v H Q →
  wpAny (model X.prog X.w) X.A (setItem ov iv u) (fun _ s' => ∃ H', Inv X pins σ H' s' ∧ Q H') X.xe s
section
variable {X : Cx} {pos : Pos}
noncomputable def tw (i : Nat) : TG := fun v σ H Q => Q (σ.set i (some v)) H
theorem AX {i : Nat} {x : Str} (hN : X.N.Nodup) (hi : X.N[i]? = some x) (hx : Loc X.env.scope x) (hf : X.fn x = true ∨ X.env.scope.names.lookup x = some .local := by first | exact .inl rfl | exact .inr rfl | assumption) : PG X (.Name x pos) (tw i) := by
 intro pins s σ H v u Q I r h
 exact wpAny_assign_Name (rm I hN hi hx r (fun s' I' => ⟨_, H, I', h⟩) hf)
noncomputable def HL : TGs := fun vs σ H Q => vs = [] ∧ Q σ H
noncomputable def Ek (t : TG) (u : TGs) : TGs := fun vs σ H Q => ∃ v r, vs = v :: r ∧ t v σ H fun σ' H' => u r σ' H' Q
theorem AW : PGs X [] HL := by
 intro pins s σ H vs us Q I r h
 obtain ⟨e, h⟩ := h
 subst e
 cases r
 exact assignInOrder_nil ⟨σ, H, I, h⟩
theorem xP {e : Expr} {es : List Expr} {t : TG} {u : TGs} (h1 : PG X e t) (h2 : PGs X es u)
  (hs : (assignEach (e :: es) X.env).map (·.2) = assign e X.env :: (assignEach es X.env).map (·.2) := by rfl) : PGs X (e :: es) (Ek t u) := by
 intro pins s σ H vs us Q I r h
 obtain ⟨v, vr, e1, h⟩ := h
 subst e1
 cases r with
 | cons r rr =>
  rw [hs]
  refine assignInOrder_cons (thn (h1 pins s σ H _ _ _ I r h) fun _ s1 hz => ?_)
  obtain ⟨σ1, H1, I1, q1⟩ := hz
  exact h2 pins s1 σ1 H1 _ _ Q I1 rr q1
noncomputable def HJ (K : PySem.W.Frag) (n : Nat) (t : TGs) : TG := fun v σ H Q => ∃ a xs, v = .ref a ∧ SqT K H a xs ∧ xs.length = n ∧ t xs σ H Q
theorem Dr {es : List Expr} {k : Nat} {t : TGs} {n : Nat} (hc : X.calm = true) (h : PGs X es t)
  (hn : (assignEach es X.env).length = n := by rfl) (hst : (assignEach es X.env).findIdx? (·.1) = none := by rfl) : PG X (.Tuple es k pos) (HJ X.K n t) := by
 intro pins s σ H v u Q I r hw
 obtain ⟨a, xs, e1, hq, hl, hw⟩ := hw
 subst e1
 cases r
 obtain ⟨its, rv, ht, hz⟩ := I.tuple hq
 refine assign_Tuple_tuple (I.ok.hd hc) ht (by simp [hn, ← hl, rv.length]) hst fun h' hx => ?_
 have I1 : Inv X pins σ H { s with heap := h' } := I.kept (t' := s.toks) fun b o e => hx b o (Nat.ne_of_lt (Heap.lt_size e)) e
 exact h pins _ σ H xs _ Q I1 (by simpa using rv) hw
noncomputable def HK (to ti : TE) (t : EV) : TG := fun v σ H Q => to σ H fun o H1 => ti σ H1 fun i H2 => t o i v H2 fun H3 => Q σ H3
theorem Ds {o i : Expr} {to ti : TE} {t : EV} (ho : PE X o to) (hi : PE X i ti) (hs : Hh X t)
  (ha : ∀ v, assign (.Subscript o i pos) X.env v = (do
   let ov ← holding [v] (eval o X.env)
   let iv ← holding [v, ov] (eval i X.env)
   standAt pos
   holding [v, ov, iv] (setItem ov iv v)
   release [v, ov, iv] []) := by intro _; rfl) : PG X (.Subscript o i pos) (HK to ti t) := by
 intro pins s σ H v u Q I r h
 rw [ha]
 refine wpAny_bind (wpAny_holding (thn (ho pins s σ H _ I h) fun ov s1 hz => ?_))
 obtain ⟨x, H1, I1, r1, q1⟩ := hz
 refine wpAny_bind (wpAny_holding (thn (hi pins s1 σ H1 _ I1 q1) fun iv s2 hz => ?_))
 obtain ⟨y, H2, I2, r2, q2⟩ := hz
 refine wpAny_bind (wpAny_standAt (wpAny_bind (wpAny_holding (thn (hs pins s2 σ H2 x y v ov iv u _ I2 r1 r2 r q2) fun _ s3 ⟨H3, I3, q3⟩ => ?_))))
 exact wpAny_release ⟨σ, H3, I3, q3⟩
noncomputable def C3 (te : TE) (g : TG) : TS := fun D σ H => te σ H fun x H1 => g x σ H1 D.nx
theorem Dp {tg e : Expr} {te : TE} {g : TG} (he : PE X e te) (hg : PG X tg g) (hs : swapsWithSole [tg] e pos.line X.env = pure false := by rfl) (hw : swappedStores [tg] e X.env = pure none := by rfl)
  (h1 : (assignEach [tg] X.env).map (·.2) = [assign tg X.env] := by rfl) : PS X (.Assign [tg] e pos) (C3 te g) := by
 intro pins s σ H D I h
 refine wpAny_Assign_stores (thn (he pins s σ H _ I h) fun v s1 hz => ?_) hs hw
 obtain ⟨x, H1, I1, r1, q1⟩ := hz
 rw [h1]
 exact thn (hg pins s1 σ H1 x v _ I1 r1 q1) fun _ s2 q => q
theorem Di {i : Nat} {x : Str} {e : Expr} {te : TE} {pos' : Pos} (hN : X.N.Nodup) (hi : X.N[i]? = some x) (hx : Loc X.env.scope x) (he : PE X e te) (hs : swapsWith e (some (.Name x pos')) pos.line X.env = pure false := by rfl) (hf : X.fn x = true ∨ X.env.scope.names.lookup x = some .local := by first | exact .inl rfl | exact .inr rfl | assumption) :
  PS X (.Assign [.Name x pos'] e pos) (C3 te (tw i)) := by
 intro pins s σ H D I h
 refine wpAny_Assign_Name (thn (he pins s σ H _ I h) fun v s1 hz => ?_) hs
 obtain ⟨y, H1, I1, r1, q1⟩ := hz
 exact rm I1 hN hi hx r1 (fun s2 I2 => ⟨_, H1, I2, q1⟩) hf
end
structure It where
 go : Nat → Hp → Prop
 yld : Nat → Hp → V → Hp → Prop
 stop : Nat → Hp → Prop
noncomputable def t7 (X : Cx) (pins : List (Addr × Obj)) (H : Hp) (b : Addr) : Prop :=
 H b = none ∧ b ≠ X.env.locals ∧ b ∉ X.fs ∧ (b ∈ X.ex ∨ X.s₀.heap.objs.size ≤ b) ∧ (∀ x c, X.env.cells.lookup x = some c → c ≠ b) ∧ ∀ p ∈ X.pn ++ pins, p.1 ≠ b
theorem Inv.fpOk {X : Cx} {pins : List (Addr × Obj)} {σ : St} {H H' : Hp} {s : Shared} {b : Addr} (I : Inv X pins σ H s) (hb : s.heap.objs.size ≤ b) (hn : H' b = none) : t7 X pins H' b := by
 refine ⟨hn, Nat.ne_of_gt (Nat.lt_of_lt_of_le I.lt hb), I.nofs hb, .inr (Nat.le_trans I.sz hb), fun x c e z => ?_, fun p hp z => ?_⟩
 ·obtain ⟨v, q⟩ := I.cell x c e
  exact absurd (Nat.lt_of_lt_of_le q.lt (by rw [z]; exact hb)) (Nat.lt_irrefl _)
 ·exact absurd (Nat.lt_of_lt_of_le (Heap.lt_size (I.pin p hp).1) (by rw [z]; exact hb)) (Nat.lt_irrefl _)
structure BV (P : Program) (w : World) (K : PySem.W.Frag) (tg : Expr) (J : It) (fp : List Addr) (it : Addr) (tn : Nat → Heap → Prop) : Prop where
 mem : it ∈ fp
 obj : ∀ i h, tn i h → ∀ b ∈ fp, ∃ o, h.get? b = some o ∧ ∀ v, o.data ≠ .cell v
 keep : ∀ i h h', tn i h → (∀ b ∈ fp, ∀ o, h.get? b = some o → h'.get? b = some o) → tn i h'
 item : ∀ (X : Cx), X.prog = P → X.w = w → X.K = K → X.calm = true → ∀ (i : Nat) (pins : List (Addr × Obj)) (s : Shared) (σ : St) (H : Hp) (E : Value → Shared → Prop), Inv X pins σ H s → (∀ b ∈ fp, t7 X pins H b) → tn i s.heap → J.go i H →
  wpAny (model P w) X.A (pyNext (.ref it)) (fun r s1 => ∃ u, r = some u ∧
   wpAny (model P w) X.A (letOwnedTupleGo tg (.ref it) u) (fun _ s2 => ∃ x H', Inv X pins σ H' s2 ∧ dk x u ∧ J.yld i H x H' ∧ tn (i + 1) s2.heap ∧ ∀ b ∈ fp, H' b = none) E s1) E s
 done : ∀ (X : Cx), X.prog = P → X.w = w → X.K = K → X.calm = true → ∀ (i : Nat) (pins : List (Addr × Obj)) (s : Shared) (σ : St) (H : Hp) (E : Value → Shared → Prop), Inv X pins σ H s → (∀ b ∈ fp, t7 X pins H b) → tn i s.heap → J.stop i H →
  wpAny (model P w) X.A (pyNext (.ref it)) (fun r s1 => r = none ∧ Inv X pins σ H s1) E s
 self : ∀ (A : Around) (i : Nat) (s : Shared) (Q : Value → Shared → Prop) (E : Value → Shared → Prop), tn i s.heap → Q (.ref it) s → wpAny (model P w) A (pyIter (.ref it)) Q E s
noncomputable abbrev TI := St → Hp → (It → Hp → Prop) → Prop
noncomputable def PIE (X : Cx) (pins : List (Addr × Obj)) (σ : St) (tg : Expr) (R : It → Hp → Prop) (itv : Value) (s2 : Shared) : Prop :=
 ∃ (it : Addr) (fp : List Addr) (tn : Nat → Heap → Prop) (J : It) (H' : Hp), itv = .ref it ∧ Inv X pins σ H' s2 ∧ BV X.prog X.w X.K tg J fp it tn ∧ tn 0 s2.heap ∧ (∀ b ∈ fp, t7 X pins H' b) ∧ R J H'
noncomputable def PI (X : Cx) (tg iter : Expr) (wi : TI) : Prop :=
 ∀ (pins : List (Addr × Obj)) (s : Shared) (σ : St) (H : Hp) (R : It → Hp → Prop), Inv X pins σ H s → wi σ H R →
  wpAny (model X.prog X.w) X.A (eval iter X.env) (fun v s1 => wpAny (model X.prog X.w) X.A (pyIter v) (PIE X pins σ tg R) X.xe s1) X.xe s
theorem yy {M : Model} {A : Around} {E : Value → Shared → Prop} {s : Shared} {tg : Expr} {it : Addr} {u : Value} {o : Obj} {n : String} {vs : Array Value} {Q : Unit → Shared → Prop} (ho : s.heap.get? it = some o) (hc : o.cls = .type n) (hd : o.data = .fields vs)
    (hn : ["enumerate", "zip", "dict_itemiterator", "dict_reverseitemiterator", "odict_iterator", "itertools.zip_longest", "itertools.pairwise"].contains n = false) (hQ : Q () s) : wpAny M A (letOwnedTupleGo tg (.ref it) u) Q E s := by
  unfold letOwnedTupleGo
  cases tg <;> first
    | exact wpAny_pure hQ
    | (cases u <;> first
        | exact wpAny_pure hQ
        | (refine wpAny_bind (wpAny_load ho ?_)
           rw [hc, hd]
           show wpAny M A (if (["enumerate", "zip", "dict_itemiterator", "dict_reverseitemiterator", "odict_iterator", "itertools.zip_longest", "itertools.pairwise"].contains n && vs[0]? == some (rawInt _)) = true then _ else _) Q E s
           rw [if_neg (by intro h; rw [hn, Bool.false_and] at h; cases h)]
           exact wpAny_pure hQ))
noncomputable def Itl (K : PySem.W.Frag) (a : Addr) : It :=
 ⟨fun i H => ∃ xs x, SqL K H a xs ∧ xs[i]? = some x, fun i H x H' => H' = H ∧ ∀ xs, SqL K H a xs → xs[i]? = some x, fun i H => ∃ xs, SqL K H a xs ∧ xs.length ≤ i⟩
noncomputable def Itt (K : PySem.W.Frag) (a : Addr) : It :=
 ⟨fun i H => ∃ xs x, SqT K H a xs ∧ xs[i]? = some x, fun i H x H' => H' = H ∧ ∀ xs, SqT K H a xs → xs[i]? = some x, fun i H => ∃ xs, SqT K H a xs ∧ xs.length ≤ i⟩
noncomputable def Itr (lo : Int) (n : Nat) : It := ⟨fun i _ => i < n, fun i H x H' => H' = H ∧ x = .int (lo + i), fun i _ => n ≤ i⟩
theorem uF {P : Program} {w : World} {K : PySem.W.Frag} {tg : Expr} (a it : Addr) : BV P w K tg (Itl K a) [it] it (fun i h => h.IsListIter it a i) where
 mem := by simp
 obj := fun i h st b hb => by
  have e : b = it := by simpa using hb
  subst e
  obtain ⟨o, e, c, d⟩ := st
  exact ⟨o, e, fun v z => by rw [d] at z; cases z⟩
 keep := fun i h h' st k => st.at fun o e => k it (by simp) o e
 item := by
  intro X hP hw hK hc i pins s σ H E I hf st hg
  subst hP hw hK
  obtain ⟨xs, x, hq, hx⟩ := hg
  obtain ⟨its, rv, p, hz⟩ := I.list hq
  obtain ⟨u, hu, ru⟩ := rv.get hx
  obtain ⟨f0, f1, f2, f3, f4, f5⟩ := hf it (by simp)
  refine wpAny_pyNext_list_item st p.isList (x := u) (by simpa using hu) fun h' st' sb => ?_
  have I1 : Inv X pins σ H { s with heap := h' } := I.turned (t' := s.toks) (fun b o hb e => (sb.2 b hb).trans e) f0 f1 f3 f4 f5
  obtain ⟨o, e, c, d⟩ := id st'
  exact ⟨u, rfl, yy (s := { s with heap := h' }) e c d (by decide) ⟨x, H, I1, ru, ⟨rfl, fun ys hy => by rw [I.list_inj hy hq]; exact hx⟩, st', fun b hb => (hf b hb).1⟩⟩
 done := by
  intro X hP hw hK hc i pins s σ H E I hf st hg
  subst hP hw hK
  obtain ⟨xs, hq, hx⟩ := hg
  obtain ⟨its, rv, p, hz⟩ := I.list hq
  obtain ⟨f0, f1, f2, f3, f4, f5⟩ := hf it (by simp)
  have hl := rv.length
  exact wpAny_pyNext_list_end (I.ok.hd hc) st p.isList (by simp; omega) fun h' eb => ⟨rfl, I.turned (t' := s.toks) (fun b o hb e => eb b o hb e) f0 f1 f3 f4 f5⟩
 self := fun _ _ _ _ _ st h => wpAny_pyIter_listiter st h
theorem sM {P : Program} {w : World} {K : PySem.W.Frag} {tg : Expr} (a it : Addr) : BV P w K tg (Itt K a) [it] it (fun i h => h.IsTupleIter it a i) where
 mem := by simp
 obj := fun i h st b hb => by
  have e : b = it := by simpa using hb
  subst e
  obtain ⟨o, e, c, d⟩ := st
  exact ⟨o, e, fun v z => by rw [d] at z; cases z⟩
 keep := fun i h h' st k => st.at fun o e => k it (by simp) o e
 item := by
  intro X hP hw hK hc i pins s σ H E I hf st hg
  subst hP hw hK
  obtain ⟨xs, x, hq, hx⟩ := hg
  obtain ⟨its, rv, p, hz⟩ := I.tuple hq
  obtain ⟨u, hu, ru⟩ := rv.get hx
  obtain ⟨f0, f1, f2, f3, f4, f5⟩ := hf it (by simp)
  refine wpAny_pyNext_tuple_item st (show s.heap.IsTuple a its.toArray from p) (x := u) (by simpa using hu) fun h' st' sb => ?_
  have I1 : Inv X pins σ H { s with heap := h' } := I.turned (t' := s.toks) (fun b o hb e => (sb.2 b hb).trans e) f0 f1 f3 f4 f5
  obtain ⟨o, e, c, d⟩ := id st'
  exact ⟨u, rfl, yy (s := { s with heap := h' }) e c d (by decide) ⟨x, H, I1, ru, ⟨rfl, fun ys hy => by rw [I.tuple_inj hy hq]; exact hx⟩, st', fun b hb => (hf b hb).1⟩⟩
 done := by
  intro X hP hw hK hc i pins s σ H E I hf st hg
  subst hP hw hK
  obtain ⟨xs, hq, hx⟩ := hg
  obtain ⟨its, rv, p, hz⟩ := I.tuple hq
  obtain ⟨f0, f1, f2, f3, f4, f5⟩ := hf it (by simp)
  have hl := rv.length
  exact wpAny_pyNext_tuple_end (I.ok.hd hc) st (show s.heap.IsTuple a its.toArray from p) (by simp; omega) fun h' eb => ⟨rfl, I.turned (t' := s.toks) (fun b o hb e => eb b o hb e) f0 f1 f3 f4 f5⟩
 self := fun _ _ _ _ _ st h => wpAny_pyIter_tupleiter st h
theorem sN {P : Program} {w : World} {K : PySem.W.Frag} {tg : Expr} (it : Addr) (lo : Int) (n : Nat) : BV P w K tg (Itr lo n) [it] it (fun i h => IsRangeIter h it (lo + (i : Nat) * 1) ((n : Int) - (i : Nat)) 1) where
 mem := by simp
 obj := fun i h st b hb => by
  have e : b = it := by simpa using hb
  subst e
  exact ⟨_, st, fun v z => by
   have z' : Data.fields _ = Data.cell v := z
   cases z'⟩
 keep := fun i h h' st k => k it (by simp) _ st
 item := by
  intro X hP hw hK hc i pins s σ H E I hf st hg
  subst hP hw hK
  obtain ⟨f0, f1, f2, f3, f4, f5⟩ := hf it (by simp)
  have W := Walks.range (prog := X.prog) (w := X.w) (I.ok.hd hc) it lo 1 n
  refine W.item i s _ _ hg st fun v h' tk hv st' kk => ?_
  obtain ⟨t, rfl⟩ := hv
  have I1 : Inv X pins σ H { s with heap := h', toks := tk } := I.turned (fun b o hb e => kk b o (by simpa using hb) e) f0 f1 f3 f4 f5
  refine ⟨_, rfl, yy (s := { s with heap := h', toks := tk }) (n := "range_iterator") st' rfl rfl (by decide) ⟨.int (lo + i), H, I1, ⟨t, ?_⟩, ⟨rfl, rfl⟩, st', fun b hb => (hf b hb).1⟩⟩
  rw [Int.mul_one]
 done := by
  intro X hP hw hK hc i pins s σ H E I hf st hg
  subst hP hw hK
  obtain ⟨f0, f1, f2, f3, f4, f5⟩ := hf it (by simp)
  exact wpAny_pyNext_range_end (I.ok.hd hc) st (by have : n ≤ i := hg; omega) fun h' eb => ⟨rfl, I.turned (t' := s.toks) (fun b o hb e => eb b o hb e) f0 f1 f3 f4 f5⟩
 self := fun _ _ _ _ _ st h => wpAny_pyIter_rangeiter st h
section
variable {X : Cx} {tg : Expr}
noncomputable def Eg (K : PySem.W.Frag) (tl : TE) : TI := fun σ H R => tl σ H fun x H1 => ∃ a, x = .ref a ∧ (∃ xs, SqL K H1 a xs) ∧ R (Itl K a) H1
noncomputable def HI (K : PySem.W.Frag) (tl : TE) : TI := fun σ H R => tl σ H fun x H1 => ∃ a, x = .ref a ∧ (∃ xs, SqT K H1 a xs) ∧ R (Itt K a) H1
theorem AV {l : Expr} {tl : TE} (hl : PE X l tl) : PI X tg l (Eg X.K tl) := by
 intro pins s σ H R I h
 refine thn (hl pins s σ H _ I h) fun v s1 hz => ?_
 obtain ⟨x, H1, I1, r1, q1⟩ := hz
 obtain ⟨a, e, ⟨xs, hq⟩, q⟩ := q1
 subst e
 cases r1
 obtain ⟨its, rv, p, hz⟩ := I1.list hq
 refine wpAny_pyIter_list p.isList ?_
 refine ⟨s1.heap.objs.size, [s1.heap.objs.size], _, _, H1, rfl, I1.kept (t' := s1.toks) fun b o e => Heap.get?_push_of_some _ e, uF a _, ⟨_, Heap.get?_push_size _ rfl, rfl, rfl⟩, fun b hb => ?_, q⟩
 have e : b = s1.heap.objs.size := by simpa using hb
 subst e
 exact I1.fpOk (Nat.le_refl _) (I1.hok.fresh (Nat.le_refl _))
theorem Dq {l : Expr} {tl : TE} (hl : PE X l tl) : PI X tg l (HI X.K tl) := by
 intro pins s σ H R I h
 refine thn (hl pins s σ H _ I h) fun v s1 hz => ?_
 obtain ⟨x, H1, I1, r1, q1⟩ := hz
 obtain ⟨a, e, ⟨xs, hq⟩, q⟩ := q1
 subst e
 cases r1
 obtain ⟨its, rv, p, hz⟩ := I1.tuple hq
 refine wpAny_pyIter_tuple (show s1.heap.IsTuple a its.toArray from p) ?_
 refine ⟨s1.heap.objs.size, [s1.heap.objs.size], _, _, H1, rfl, I1.kept (t' := s1.toks) fun b o e => Heap.get?_push_of_some _ e, sM a _, ⟨_, Heap.get?_push_size _ rfl, rfl, rfl⟩, fun b hb => ?_, q⟩
 have e : b = s1.heap.objs.size := by simpa using hb
 subst e
 exact I1.fpOk (Nat.le_refl _) (I1.hok.fresh (Nat.le_refl _))
theorem xE {pins : List (Addr × Obj)} {σ : St} {H : Hp} {s : Shared} {R : It → Hp → Prop} {E : Value → Shared → Prop} {lo hi : Int} {t u v : Tok} {tk : Nat} (I : Inv X pins σ H s) (h1 : -(2 ^ 62) ≤ lo) (h2 : lo < 2 ^ 62) (h3 : -(2 ^ 62) ≤ hi) (h4 : hi < 2 ^ 62)
  (q : R (Itr lo (hi - lo).toNat) H) : wpAny (model X.prog X.w) X.A (pyIter (.ref s.heap.objs.size)) (PIE X pins σ tg R) E { s with heap := s.heap.push { cls := .type "range", data := .fields #[.int lo t, .int hi u, .int 1 v] }, toks := tk } := by
 refine wpAny_pyIter_range (IsRange.new ..) (small_one h1 h2 h3 h4) ?_
 have I1 : Inv X pins σ H { s with heap := s.heap.push { cls := .type "range", data := .fields #[.int lo t, .int hi u, .int 1 v] }, toks := tk } := I.kept fun b o e => Heap.get?_push_of_some _ e
 refine ⟨(s.heap.push { cls := .type "range", data := .fields #[.int lo t, .int hi u, .int 1 v] }).objs.size, [(s.heap.push { cls := .type "range", data := .fields #[.int lo t, .int hi u, .int 1 v] }).objs.size], _, _, H, rfl,
  I1.kept (t' := tk) fun b o e => Heap.get?_push_of_some _ e, sN _ lo (hi - lo).toNat, ?_, fun b hb => ?_, q⟩
 ·have e1 : lo + ((0 : Nat) : Int) * 1 = lo := by simp
  have e2 : (((hi - lo).toNat : Nat) : Int) - ((0 : Nat) : Int) = Builtin.Range.rangeSize lo hi 1 := by rw [rangeSize_one]; split <;> omega
  show IsRangeIter _ _ (lo + ((0 : Nat) : Int) * 1) ((((hi - lo).toNat : Nat) : Int) - ((0 : Nat) : Int)) 1
  rw [e1, e2]
  exact Heap.get?_push_size _ rfl
 ·have e : b = (s.heap.push { cls := .type "range", data := .fields #[.int lo t, .int hi u, .int 1 v] }).objs.size := by simpa using hb
  subst e
  exact I1.fpOk (Nat.le_refl _) (I1.hok.fresh (Nat.le_refl _))
noncomputable def Ef (ta : TA) : TI := fun σ H R => ta σ H fun vs H1 => ∃ j : Int, vs = [.int j] ∧ -(2 ^ 62) ≤ j ∧ j < 2 ^ 62 ∧ R (Itr 0 j.toNat) H1
theorem vc {a : Expr} {ta : TA} {p pos : Pos} (hg : Gl X "range") (hm : X.mg "range" = none) (ha : PA X [a] ta) (hs : starEach [a] X.env = [(false, eval a X.env)] := by rfl) : PI X tg (.Call (.Name "range" p) [a] [] pos) (Ef ta) := by
 intro pins s σ H R I h
 refine Call_ (lZ I hg hm boot_range (PyProof.Rows.callWith_type1 (thn (ha pos pins s σ H _ I h) fun us s1 ⟨vs, H1, I1, r1, q1⟩ => ?_) hs rfl))
 obtain ⟨j, e, q1, q2, q⟩ := q1
 subst e
 cases r1 with
 | cons r rr =>
  cases rr
  obtain ⟨t, rfl⟩ := r
  exact call_range_1 (xE I1 (by omega) (by omega) q1 q2 (by simpa using q))
noncomputable def Gb (wi : TI) (g : TG) (tb : TS) : TS := fun D σ H => wi σ H fun J H1 => ∃ W : Nat → Nat → St → Hp → Prop, (∃ m, W 0 m σ H1) ∧ ∀ i m σ H, W i m σ H →
 (J.stop i H ∧ D.nx σ H) ∨ (J.go i H ∧ ∃ N : St → Hp → Prop, (∀ σ' H', N σ' H' → ∃ m', m' < m ∧ W (i + 1) m' σ' H') ∧ ∀ x H', J.yld i H x H' → g x σ H' fun σ2 H2 => tb { D with nx := N, ct := N, bk := D.nx } σ2 H2)
noncomputable def rD (fp : List Addr) (h : Heap) : List (Addr × Obj) := fp.filterMap fun b => (h.get? b).map fun o => (b, o)
theorem fD {fp : List Addr} {h : Heap} {b : Addr} {o : Obj} (hb : b ∈ fp) (e : h.get? b = some o) : (b, o) ∈ rD fp h := List.mem_filterMap.mpr ⟨b, hb, by rw [e]; rfl⟩
theorem vq {fp : List Addr} {h : Heap} {p : Addr × Obj} (hp : p ∈ rD fp h) : p.1 ∈ fp ∧ h.get? p.1 = some p.2 := by
 obtain ⟨b, hb, e⟩ := List.mem_filterMap.mp hp
 cases q : h.get? b with
 | none => rw [q] at e; cases e
 | some o =>
  rw [q] at e
  have e' : (b, o) = p := Option.some.inj e
  subst e'
  exact ⟨hb, q⟩
theorem Inv.pinned {pins : List (Addr × Obj)} {σ : St} {H : Hp} {s : Shared} {fp : List Addr} (I : Inv X pins σ H s) (hf : ∀ b ∈ fp, t7 X pins H b) (ho : ∀ b ∈ fp, ∃ o, s.heap.get? b = some o ∧ ∀ v, o.data ≠ .cell v) : Inv X (pins ++ rD fp s.heap) σ H s :=
 I.pins_of fun p hp => (List.mem_append.mp hp).elim (fun z => I.pin p (List.mem_append_right _ z)) fun z => by
  obtain ⟨hb, e⟩ := vq z
  obtain ⟨f0, f1, f2, _⟩ := hf p.1 hb
  obtain ⟨o, e', d⟩ := ho p.1 hb
  rw [e] at e'; cases e'
  exact ⟨e, f0, f1, f2, d⟩
theorem Inv.unpinned {pins pl : List (Addr × Obj)} {σ : St} {H : Hp} {s : Shared} (I : Inv X (pins ++ pl) σ H s) : Inv X pins σ H s := I.pins_of fun p hp => I.pin p (List.mem_append_right _ (List.mem_append_left _ hp))
theorem Dk {iter : Expr} {body : List Stmt} {wi : TI} {g : TG} {tb : TS} {pos : Pos} (hp : PassesOwn (model X.prog X.w) X.A X.env X.xe) (hc : X.calm = true) (hi : PI X tg iter wi) (hg : PG X tg g) (hb : PSs X body tb)
  (hs : ∀ x, foldedSetIterable iter X.env x = pure x := by intro _; rfl) : PS X (.For tg iter body [] pos) (Gb wi g tb) := by
 intro pins s σ H D I h
 refine wpAny_For (thn (hi pins s σ H _ I h) fun v s1 h1 => thn h1 fun itv s2 h2 => ?_) hs
 obtain ⟨it, fp, tn, J, H2, e, I2, T, st2, f2, W, ⟨m0, w0⟩, turn⟩ := h2
 subst e
 have stat : ∀ {H' : Hp}, (∀ b ∈ fp, H' b = none) → ∀ b ∈ fp, t7 X pins H' b := fun hn b hb => ⟨hn b hb, (f2 b hb).2⟩
 refine codeAny_forLoop_any (fun n s' => ∃ i σ' H', Inv X pins σ' H' s' ∧ tn i s'.heap ∧ (∀ b ∈ fp, H' b = none) ∧ W i n σ' H') ?_ m0 ⟨0, σ, H2, I2, st2, fun b hb => (f2 b hb).1, w0⟩
 rintro n s3 ⟨i, σ3, H3, I3, st3, fr3, w3⟩
 rcases turn i n σ3 H3 w3 with ⟨stop, qn⟩ | ⟨go, N, hN, step⟩
 ·refine wpAny_passesOwn hp (thn (T.done X rfl rfl rfl hc i pins s3 σ3 H3 X.xe I3 (stat fr3) st3 stop) fun r s4 ⟨hr, I4⟩ => ?_)
  subst hr
  exact wpAny_execs_nil ⟨σ3, H3, I4, qn⟩
 ·refine wpAny_passesOwn hp (thn (T.item X rfl rfl rfl hc i pins s3 σ3 H3 X.xe I3 (stat fr3) st3 go) fun r s4 ⟨u, hr, h4⟩ => ?_)
  subst hr
  refine wpAny_passesOwn hp (thn h4 fun _ s5 hz => ?_)
  obtain ⟨x, H5, I5, r5, y5, st5, fr5⟩ := hz
  have I5' := I5.pinned (stat fr5) (T.obj _ _ st5)
  refine wpAny_passesOwn hp (thn (hg _ s5 σ3 H5 x u _ I5' r5 (step x H5 y5)) fun _ s6 hz => ?_)
  obtain ⟨σ6, H6, I6, q6⟩ := hz
  refine wpAny_passesOwn hp (thn (hb _ s6 σ6 H6 _ I6 q6) fun f s7 q7 => ?_)
  have again : ∀ {σ7 : St} {H7 : Hp}, Inv X (pins ++ rD fp s5.heap) σ7 H7 s7 → N σ7 H7 → ∃ m, m < n ∧ ∃ i σ' H', Inv X pins σ' H' s7 ∧ tn i s7.heap ∧ (∀ b ∈ fp, H' b = none) ∧ W i m σ' H' := fun {σ7 H7} I7 n7 => by
   obtain ⟨m', hm, w7⟩ := hN σ7 H7 n7
   refine ⟨m', hm, i + 1, σ7, H7, I7.unpinned, T.keep _ _ _ st5 fun b hb o e => (I7.pin (b, o) (List.mem_append_right _ (List.mem_append_right _ (fD hb e)))).1, fun b hb => ?_, w7⟩
   obtain ⟨o, e, d⟩ := T.obj _ _ st5 b hb
   exact (I7.pin (b, o) (List.mem_append_right _ (List.mem_append_right _ (fD hb e)))).2.1
  cases f with
  | next => obtain ⟨σ7, H7, I7, n7⟩ := q7; exact again I7 n7
  | cont => obtain ⟨σ7, H7, I7, n7⟩ := q7; exact again I7 n7
  | brk => obtain ⟨σ7, H7, I7, q7⟩ := q7; exact ⟨σ7, H7, I7.unpinned, q7⟩
  | ret v => obtain ⟨x7, σ7, H7, I7, r7, q7⟩ := q7; exact ⟨x7, σ7, H7, I7.unpinned, r7, q7⟩
end
noncomputable abbrev R2 := V → V → Hp → VK → Prop
noncomputable def OpR (X : Cx) (f : Value → Value → Sem Value) (r : R2) : Prop :=
 ∀ (pins : List (Addr × Obj)) (s : Shared) (σ : St) (H : Hp) (x y : V) (v u : Value) (Q : VK), Inv X pins σ H s → dk x v → dk y u → r x y H Q →
  wpAny (model X.prog X.w) X.A (f v u) (EP X pins σ Q) X.xe s
noncomputable def UnR (X : Cx) (f : Value → Sem Value) (r : V → Hp → VK → Prop) : Prop :=
 ∀ (pins : List (Addr × Obj)) (s : Shared) (σ : St) (H : Hp) (x : V) (v : Value) (Q : VK), Inv X pins σ H s → dk x v → r x H Q →
  wpAny (model X.prog X.w) X.A (f v) (EP X pins σ Q) X.xe s
noncomputable def iP (X : Cx) (f : Value) (r : List V → Hp → VK → Prop) : Prop :=
 ∀ (pins : List (Addr × Obj)) (s : Shared) (σ : St) (H : Hp) (xs : List V) (us : List Value) (Q : VK), Inv X pins σ H s → cL xs us → r xs H Q →
  wpAny (model X.prog X.w) X.A (call f us) (EP X pins σ Q) X.xe s
noncomputable def tOp (r : R2) (ta tb : TE) : TE := fun σ H Q => ta σ H fun x H1 => tb σ H1 fun y H2 => r x y H2 Q
noncomputable def tUn (r : V → Hp → VK → Prop) (ta : TE) : TE := fun σ H Q => ta σ H fun x H1 => r x H1 Q
noncomputable def rI (C : Int → Int → Prop) (g : Int → Int → V) : R2 := fun x y H Q => ∃ i j, x = .int i ∧ y = .int j ∧ C i j ∧ Q (g i j) H
noncomputable def rI0 (g : Int → Int → V) : R2 := fun x y H Q => ∃ i j, x = .int i ∧ y = .int j ∧ Q (g i j) H
noncomputable def rU (g : Int → V) : V → Hp → VK → Prop := fun x H Q => ∃ i, x = .int i ∧ Q (g i) H
section
variable {X : Cx} {a b c : Expr} {ta tb tc : TE} {pos : Pos}
theorem Hc (ha : PE X a ta) (hb : PE X b tb) {pins : List (Addr × Obj)} {s : Shared} {σ : St} {H : Hp} {R : V → V → Hp → Prop} (I : Inv X pins σ H s)
  (h : ta σ H fun x H1 => tb σ H1 fun y H2 => R x y H2) {Q : Value → Shared → Prop} {f : Value → Value → Sem Value}
  (hf : ∀ v u s2 x y H2, Inv X pins σ H2 s2 → dk x v → dk y u → R x y H2 → wpAny (model X.prog X.w) X.A (f v u) Q X.xe s2) :
  wpAny (model X.prog X.w) X.A (eval a X.env) (fun v s₁ => wpAny (model X.prog X.w) X.A (eval b X.env) (fun u s₂ => wpAny (model X.prog X.w) X.A (f v u) Q X.xe s₂) X.xe s₁) X.xe s := by
 refine thn (ha pins s σ H _ I h) fun v s1 hz => ?_
 obtain ⟨x, H1, I1, r1, q1⟩ := hz
 refine thn (hb pins s1 σ H1 _ I1 q1) fun u s2 hz => ?_
 obtain ⟨y, H2, I2, r2, q2⟩ := hz
 exact hf v u s2 x y H2 I2 r1 r2 q2
theorem Gs {op : Operator} {r : R2} (ho : OpR X (binaryOp op) r) (ha : PE X a ta) (hb : PE X b tb) : PE X (.BinOp a op b pos) (tOp r ta tb) := by
 intro pins s σ H Q I h
 exact wpAny_BinOp (Hc ha hb I h fun v u s2 x y H2 I2 rx ry q => ho pins s2 σ H2 x y v u Q I2 rx ry q)
theorem Gr {op : UnaryOp} {r : V → Hp → VK → Prop} (ho : UnR X (unaryOp op) r) (ha : PE X a ta) : PE X (.UnaryOp op a pos) (tUn r ta) := by
 intro pins s σ H Q I h
 exact UnaryOp_ (thn (ha pins s σ H _ I h) fun v s1 ⟨x, H1, I1, r1, q1⟩ => ho pins s1 σ H1 x v Q I1 r1 q1)
theorem opI {f : Value → Value → Sem Value} {C : Int → Int → Prop} {g : Int → Int → Int}
  (rule : ∀ (i j : Int) (t u : Tok) (s : Shared) (Q : Value → Shared → Prop) (E : Value → Shared → Prop), C i j → Q (.int (g i j) s.toks) { s with toks := s.toks + 1 } → wpAny (model X.prog X.w) X.A (f (.int i t) (.int j u)) Q E s) :
  OpR X f (rI C fun i j => .int (g i j)) := by
 intro pins s σ H x y v u Q I rx ry h
 obtain ⟨i, j, rfl, rfl, hc, q⟩ := h
 obtain ⟨t, rfl⟩ := rx
 obtain ⟨t', rfl⟩ := ry
 exact rule i j t t' s _ _ hc ⟨.int (g i j), H, I.tok _, ⟨_, rfl⟩, q⟩
theorem HA {f : Value → Value → Sem Value} {g : Int → Int → Int}
  (rule : ∀ (i j : Int) (t u : Tok) (s : Shared) (Q : Value → Shared → Prop) (E : Value → Shared → Prop), Q (.int (g i j) s.toks) { s with toks := s.toks + 1 } → wpAny (model X.prog X.w) X.A (f (.int i t) (.int j u)) Q E s) :
  OpR X f (rI0 fun i j => .int (g i j)) := by
 intro pins s σ H x y v u Q I rx ry h
 obtain ⟨i, j, rfl, rfl, q⟩ := h
 obtain ⟨t, rfl⟩ := rx
 obtain ⟨t', rfl⟩ := ry
 exact rule i j t t' s _ _ ⟨.int (g i j), H, I.tok _, ⟨_, rfl⟩, q⟩
theorem EN {f : Value → Value → Sem Value} {g : Int → Int → Bool}
  (rule : ∀ (i j : Int) (t u : Tok) (s : Shared) (Q : Value → Shared → Prop) (E : Value → Shared → Prop), Q (.bool (g i j)) s → wpAny (model X.prog X.w) X.A (f (.int i t) (.int j u)) Q E s) :
  OpR X f (rI0 fun i j => .bl (g i j)) := by
 intro pins s σ H x y v u Q I rx ry h
 obtain ⟨i, j, rfl, rfl, q⟩ := h
 obtain ⟨t, rfl⟩ := rx
 obtain ⟨t', rfl⟩ := ry
 exact rule i j t t' s _ _ ⟨.bl (g i j), H, I, rfl, q⟩
noncomputable def BW (i j : Int) : Prop := 0 ≤ j ∧ j ≤ 1000000 ∧ i.natAbs < 2 ^ 64
noncomputable def zQ (i j : Int) : Prop := (-(2 ^ 64) < i ∧ i < 2 ^ 64) ∨ (-(2 ^ 64) < j ∧ j < 2 ^ 64)
theorem zQ.ok {i j : Int} (h : zQ i j) : IntMulOk i j := by
 rcases h with ⟨h1, h2⟩ | ⟨h1, h2⟩
 ·exact .of_left (intBits_le_64 h1 h2)
 ·exact .of_right (intBits_le_64 h1 h2)
theorem DP : OpR X (binaryOp .Add) (rI0 fun i j => .int (i + j)) := HA fun _ _ _ _ _ _ _ q => add_int q
theorem kB : OpR X (binaryOp .Sub) (rI0 fun i j => .int (i - j)) := HA fun _ _ _ _ _ _ _ q => sub_int q
theorem kE : OpR X (binaryOp .Mult) (rI zQ fun i j => .int (i * j)) := opI fun _ _ _ _ _ _ _ hc q => mul_int q hc.ok
theorem kF : OpR X (binaryOp .Mod) (rI (fun _ j => 0 < j) fun i j => .int (i % j)) := opI fun i j _ _ _ _ _ hc q => by
 have h1 : (0 : Int) < j := hc
 exact mod_int' (by omega) (by rw [Int.fmod_eq_emod_of_nonneg i (by omega)]; exact q)
theorem vj : OpR X (binaryOp .Pow) (rI BW fun i j => .int (i ^ j.toNat)) := opI fun _ _ _ _ _ _ _ hc q => pow_int_small hc.1 hc.2.1 hc.2.2 q
theorem unI {f : Value → Sem Value} {g : Int → Int}
  (rule : ∀ (i : Int) (t : Tok) (s : Shared) (Q : Value → Shared → Prop) (E : Value → Shared → Prop), Q (.int (g i) s.toks) { s with toks := s.toks + 1 } → wpAny (model X.prog X.w) X.A (f (.int i t)) Q E s) :
  UnR X f (rU fun i => .int (g i)) := by
 intro pins s σ H x v Q I rx h
 obtain ⟨i, rfl, q⟩ := h
 obtain ⟨t, rfl⟩ := rx
 exact rule i t s _ _ ⟨.int (g i), H, I.tok _, ⟨_, rfl⟩, q⟩
theorem zd : UnR X (unaryOp .USub) (rU fun i => .int (-i)) := unI fun _ _ _ _ _ q => neg_int q
end
noncomputable def Gf : V → V → Bool
 | .non, .non => true | .non, .int _ => true | .int _, .non => true | .non, .bl _ => true | .bl _, .non => true | .non, .str _ => true | .str _, .non => true
 | .int _, .int _ => true | .bl _, .bl _ => true | .str _, .str _ => true | .byt _, .byt _ => true
 | .int _, .str _ => true | .str _, .int _ => true | .bl _, .str _ => true | .str _, .bl _ => true
 | _, _ => false
noncomputable def rEq : R2 := fun x y H Q => Gf x y = true ∧ Q (.bl (decide (x = y))) H
noncomputable def rNe : R2 := fun x y H Q => Gf x y = true ∧ Q (.bl (!decide (x = y))) H
theorem wt {i j : Int} : decide (V.int i = V.int j) = (i == j) := by
 rw [Bool.eq_iff_iff]
 simp
theorem zJ {i j : Bool} : decide (V.bl i = V.bl j) = (i == j) := by
 rw [Bool.eq_iff_iff]
 simp
theorem wq {i j : Str} : decide (V.str i = V.str j) = (i == j) := by
 rw [Bool.eq_iff_iff]
 simp
theorem wu {i j : Array UInt8} : decide (V.byt i = V.byt j) = (i.toList == j.toList) := by
 rw [Bool.eq_iff_iff]
 cases i
 cases j
 simp
section
variable {X : Cx} {a b c : Expr} {ta tb tc : TE} {pos : Pos}
theorem bW {pins : List (Addr × Obj)} {σ : St} {H : Hp} {s : Shared} {Q : VK} {k k' : Bool} (I : Inv X pins σ H s) (q : Q (.bl k) H) (e : k = k') : EP X pins σ Q (.bool k') s := by
 subst e
 exact ⟨.bl k, H, I, rfl, q⟩
theorem fg : OpR X (compareOp .Eq) rEq := by
 intro pins s σ H x y v u Q I rx ry h
 obtain ⟨hs, q⟩ := h
 cases x with
 | non =>
  cases rx
  cases y with
  | non => cases ry; exact PySem.EqNone.eq_none_none (bW I q (by simp))
  | bl j => cases ry; exact PySem.EqNone.eq_none_bool (bW I q (by simp))
  | int j => obtain ⟨t', rfl⟩ := ry; exact PySem.EqNone.eq_none_int (bW I q (by simp))
  | str j => obtain ⟨t', rfl⟩ := ry; exact PySem.EqNone.eq_none_str (bW I q (by simp))
  | _ => exact absurd (show false = true from hs) Bool.false_ne_true
 | bl i =>
  cases rx
  cases y with
  | non => cases ry; exact PySem.EqNone.eq_bool_none (bW I q (by simp))
  | bl j => cases ry; exact eq_bool (bW I q zJ)
  | str j => obtain ⟨t', rfl⟩ := ry; exact PySem.EqMixed.eq_bool_str (bW I q (by simp))
  | _ => exact absurd (show false = true from hs) Bool.false_ne_true
 | int i =>
  obtain ⟨t, rfl⟩ := rx
  cases y with
  | non => cases ry; exact PySem.EqNone.eq_int_none (bW I q (by simp))
  | int j => obtain ⟨t', rfl⟩ := ry; exact eq_int (bW I q wt)
  | str j => obtain ⟨t', rfl⟩ := ry; exact PySem.EqMixed.eq_int_str (bW I q (by simp))
  | _ => exact absurd (show false = true from hs) Bool.false_ne_true
 | str i =>
  obtain ⟨t, rfl⟩ := rx
  cases y with
  | non => cases ry; exact PySem.EqNone.eq_str_none (bW I q (by simp))
  | bl j => cases ry; exact PySem.EqMixed.eq_str_bool (bW I q (by simp))
  | int j => obtain ⟨t', rfl⟩ := ry; exact PySem.EqMixed.eq_str_int (bW I q (by simp))
  | str j => obtain ⟨t', rfl⟩ := ry; exact eq_str (bW I q wq)
  | _ => exact absurd (show false = true from hs) Bool.false_ne_true
 | byt i =>
  obtain ⟨t, rfl⟩ := rx
  cases y with
  | byt j => obtain ⟨t', rfl⟩ := ry; exact PySem.W.eq_bytes (bW I q wu)
  | _ => exact absurd (show false = true from hs) Bool.false_ne_true
 | _ => cases y <;> exact absurd (show false = true from hs) Bool.false_ne_true
theorem ye : OpR X (compareOp .NotEq) rNe := by
 intro pins s σ H x y v u Q I rx ry h
 obtain ⟨hs, q⟩ := h
 cases x with
 | non =>
  cases rx
  cases y with
  | non => cases ry; exact PySem.EqNone.ne_none_none (bW I q (by simp))
  | bl j => cases ry; exact PySem.EqNone.ne_none_bool (bW I q (by simp))
  | int j => obtain ⟨t', rfl⟩ := ry; exact PySem.EqNone.ne_none_int (bW I q (by simp))
  | str j => obtain ⟨t', rfl⟩ := ry; exact PySem.EqNone.ne_none_str (bW I q (by simp))
  | _ => exact absurd (show false = true from hs) Bool.false_ne_true
 | bl i =>
  cases rx
  cases y with
  | non => cases ry; exact PySem.EqNone.ne_bool_none (bW I q (by simp))
  | bl j => cases ry; exact ne_bool (bW I q (congrArg not zJ))
  | str j => obtain ⟨t', rfl⟩ := ry; exact PySem.EqMixed.ne_bool_str (bW I q (by simp))
  | _ => exact absurd (show false = true from hs) Bool.false_ne_true
 | int i =>
  obtain ⟨t, rfl⟩ := rx
  cases y with
  | non => cases ry; exact PySem.EqNone.ne_int_none (bW I q (by simp))
  | int j => obtain ⟨t', rfl⟩ := ry; exact ne_int (bW I q (congrArg not wt))
  | str j => obtain ⟨t', rfl⟩ := ry; exact PySem.EqMixed.ne_int_str (bW I q (by simp))
  | _ => exact absurd (show false = true from hs) Bool.false_ne_true
 | str i =>
  obtain ⟨t, rfl⟩ := rx
  cases y with
  | non => cases ry; exact PySem.EqNone.ne_str_none (bW I q (by simp))
  | bl j => cases ry; exact PySem.EqMixed.ne_str_bool (bW I q (by simp))
  | int j => obtain ⟨t', rfl⟩ := ry; exact PySem.EqMixed.ne_str_int (bW I q (by simp))
  | str j => obtain ⟨t', rfl⟩ := ry; exact ne_str (bW I q (congrArg not wq))
  | _ => exact absurd (show false = true from hs) Bool.false_ne_true
 | byt i =>
  obtain ⟨t, rfl⟩ := rx
  cases y with
  | byt j => obtain ⟨t', rfl⟩ := ry; exact PySem.W.ne_bytes (bW I q (congrArg not wu))
  | _ => exact absurd (show false = true from hs) Bool.false_ne_true
 | _ => cases y <;> exact absurd (show false = true from hs) Bool.false_ne_true
theorem vn : OpR X (compareOp .Lt) (rI0 fun i j => .bl (decide (i < j))) := EN fun _ _ _ _ _ _ _ q => lt_int q
theorem yf : OpR X (compareOp .LtE) (rI0 fun i j => .bl (decide (i ≤ j))) := EN fun _ _ _ _ _ _ _ q => le_int q
theorem Ba : OpR X (compareOp .Gt) (rI0 fun i j => .bl (decide (j < i))) := EN fun _ _ _ _ _ _ _ q => gt_int q
theorem GA : OpR X (compareOp .GtE) (rI0 fun i j => .bl (decide (j ≤ i))) := EN fun _ _ _ _ _ _ _ q => ge_int q
theorem OpR.or {f : Value → Value → Sem Value} {r r' : R2} (h : OpR X f r) (h' : OpR X f r') : OpR X f (fun x y H Q => r x y H Q ∨ r' x y H Q) := by
 intro pins s σ H x y v u Q I rx ry q
 rcases q with q | q
 ·exact h pins s σ H x y v u Q I rx ry q
 ·exact h' pins s σ H x y v u Q I rx ry q
theorem aQ (b : Expr) {op : CmpOp} (h : op ≠ .In := by decide) (h2 : op ≠ .NotIn := by decide) : behindInMarks op b = false := by
 have e1 : (op == CmpOp.In) = false := by cases op <;> first | rfl | exact absurd rfl h
 have e2 : (op == CmpOp.NotIn) = false := by cases op <;> first | rfl | exact absurd rfl h2
 cases b <;> simp [behindInMarks, e1, e2]
theorem A1 {op : CmpOp} {r : R2} (ho : OpR X (compareOp op) r) (ha : PE X a ta) (hb : PE X b tb) (hm : behindInMarks op b = false) : PE X (.Compare a [op] [b] pos) (tOp r ta tb) := by
 intro pins s σ H Q I h
 exact wpAny_Compare1 (Hc ha hb I h fun v u s2 x y H2 I2 rx ry q => ho pins s2 σ H2 x y v u Q I2 rx ry q) hm
noncomputable def CQ (t : TE) : TT := fun σ H Q => t σ H fun x H' => ∃ k, x = .bl k ∧ Q k H'
theorem AL {op : CmpOp} {r : R2} (ho : OpR X (compareOp op) r) (ha : PE X a ta) (hb : PE X b tb) (hm : behindInMarks op b = false) : PT X (.Compare a [op] [b] pos) (CQ (tOp r ta tb)) := by
 intro pins s σ H Q I h
 refine wpAny_isTrue_Compare1 (thn (ha pins s σ H _ I h) fun v s1 ⟨x, H1, I1, r1, q1⟩ => thn (hb pins s1 σ H1 _ I1 q1) fun u s2 ⟨y, H2, I2, r2, q2⟩ =>
  thn (ho pins s2 σ H2 x y v u _ I2 r1 r2 q2) fun c s3 ⟨z, H3, I3, r3, k, e, q3⟩ => ?_) hm
 subst e
 cases r3
 exact wpAny_truthy_bool ⟨H3, I3, q3⟩
noncomputable def uK (r r' : R2) (ta tb tc : TE) : TE := fun σ H Q => ta σ H fun x H1 => tb σ H1 fun y H2 => r x y H2 fun z H3 => ∃ k, z = .bl k ∧
 (if k = true then tc σ H3 fun w' H4 => r' y w' H4 Q else Q (.bl false) H3)
theorem xW {op op' : CmpOp} {r r' : R2} (ho : OpR X (compareOp op) r) (ho' : OpR X (compareOp op') r') (ha : PE X a ta) (hb : PE X b tb) (hc : PE X c tc)
  (hm : lastMarks [op, op'] [b, c] = false := by with_unfolding_all rfl) : PE X (.Compare a [op, op'] [b, c] pos) (uK r r' ta tb tc) := by
 intro pins s σ H Q I h
 refine Compare_chain (thn (ha pins s σ H _ I h) fun v s1 ⟨x, H1, I1, r1, q1⟩ => chain_link (thn (hb pins s1 σ H1 _ I1 q1) fun u s2 ⟨y, H2, I2, r2, q2⟩ =>
  thn (ho pins s2 σ H2 x y v u _ I2 r1 r2 q2) fun d s3 ⟨z, H3, I3, r3, k, e, q3⟩ => ?_)) hm
 subst e
 cases r3
 refine wpAny_truthy_bool ?_
 cases k with
 | false => exact ite_ff ⟨.bl false, H3, I3, rfl, q3⟩
 | true => exact ite_tt (chain_last (thn (hc pins s3 σ H3 _ I3 q3) fun w' s4 ⟨z', H4, I4, r4, q4⟩ => ho' pins s4 σ H4 y z' u w' Q I4 r2 r4 q4))
theorem rJ : (sizeLine : Nat) < 2 ^ 63 := by rw [sizeLine_eq]; decide
theorem sT : OpR X (binaryOp .Add) (fun x y H Q => ∃ i j, x = .str i ∧ y = .str j ∧ i.length + j.length ≤ sizeLine ∧ Q (.str (i ++ j)) H) := by
 intro pins s σ H x y v u Q I rx ry h
 obtain ⟨i, j, rfl, rfl, hz, q⟩ := h
 obtain ⟨t, rfl⟩ := rx
 obtain ⟨t', rfl⟩ := ry
 exact add_str (fun t' tk => ⟨.str (i ++ j), H, I.tok _, ⟨_, rfl⟩, q⟩) hz
theorem uE {x : V} {us : List Value} (r : cL [x] us) : ∃ u, us = [u] ∧ dk x u := by
 cases r with
 | cons r1 r2 => cases r2; exact ⟨_, rfl, r1⟩
theorem CO {x y : V} {us : List Value} (r : cL [x, y] us) : ∃ u w', us = [u, w'] ∧ dk x u ∧ dk y w' := by
 cases r with
 | cons r1 r2 =>
  cases r2 with
  | cons r3 r4 => cases r4; exact ⟨_, _, rfl, r1, r3⟩
end
structure BN (h : Heap) (x dx C : Addr) (mA : Str → Option Value) : Prop where
 obj : h.get? x = some (PySem.W.instObj C dx)
 ns : h.Ns1 dx mA
 ne : dx ≠ x
theorem vA {h : Heap} {dx : Addr} {mA : Str → Option Value} (n : h.Ns1 dx mA) : ∃ od, h.get? dx = some od ∧ ∀ name, PySem.W.lookIn name od = some (mA name) := by
 obtain ⟨o, es, ep, ho, hd, hk, _, hm⟩ := n
 refine ⟨o, ho, fun name => ?_⟩
 have e := hm name
 unfold nsFind findBy at e
 rw [← Array.find?_toList] at e
 unfold PySem.W.lookIn
 rw [hd]
 dsimp only
 split
 ·rename_i y q
  rw [q] at e
  exact congrArg some e
 ·rename_i q
  rw [q] at e
  have a : es.toList.any (·.refKey) = false := by
   rw [List.any_eq_false]
   intro y hy
   obtain ⟨z, t, hkey⟩ := hk y (Array.mem_toList_iff.mp hy)
   simp [DictEntry.refKey, hkey]
  have a' : ¬ es.toList.any (·.refKey) = true := by rw [a]; exact Bool.false_ne_true
  rw [if_neg a']
  exact congrArg some e
theorem BN.look {h : Heap} {x dx C : Addr} {mA : Str → Option Value} (I : BN h x dx C mA) : ∃ od, PySem.W.InstAt h x (PySem.W.instObj C dx) C (some od) ∧ ∀ name, PySem.W.lookIn name od = some (mA name) :=
 let ⟨od, ho, hl⟩ := vA I.ns
 ⟨od, ⟨I.obj, rfl, rfl, ho⟩, hl⟩
section
variable {prog : Program} {w : World} {A : Around} {E : Value → Shared → Prop} {s : Shared} {K : PySem.W.Frag} {x dx C f : Addr} {mA : Str → Option Value} {name : Str} {v : Value}
theorem Bw {expr : Bool} {Q : Value → Shared → Prop} (X : K.In s.heap) (I : BN s.heap x dx C mA) (hg : PySem.W.plainGet K C name = true) (hh : PySem.W.hasDictIn K C = true)
  (ha : PySem.W.findIn K (.ref C) name = some none) (hv : mA name = some v) (hv' : PySem.W.handedIn v = true) (h : Q v { s with toks := s.toks + 1 }) :
  wpAny (model prog w) A (getAttr (.ref x) name expr) Q E s := by
 obtain ⟨od, J, hl⟩ := I.look
 exact PySem.W.get_value X J (PySem.W.plainGet_of hg).1 (PySem.W.findObj_own hh ha rfl (by rw [hl, hv])) hv' h
theorem yz {pl : Sem Bool} {Q : Value × List Value → Shared → Prop} (X : K.In s.heap) (I : BN s.heap x dx C mA) (hg : PySem.W.plainGet K C name = true)
  (hf : PySem.W.findIn K (.ref C) name = some (some (.ref f))) (ht : PySem.W.isFn K (.ref f) = true) (hv : mA name = none) (h : Q (.ref f, [.ref x]) s) :
  wpAny (model prog w) A (getMethod (.ref x) name pl) Q E s := by
 obtain ⟨od, J, hl⟩ := I.look
 exact PySem.W.method_fn X J (PySem.W.plainGet_of hg).1 (PySem.W.plainGet_of hg).2 hf (beq_iff_eq.mp ht) (by show (PySem.W.lookIn name od).map (·.isSome) = some false; rw [hl, hv]; rfl) h
theorem AB {ns : List Str} {Q : Unit → Shared → Prop} (X : K.In s.heap) (I : BN s.heap x dx C mA)
  (hs : PySem.W.findIn K (.ref C) "__setattr__" = some (some (.builtin "object.__setattr__"))) (hp : PySem.W.plainOver K C = true) (ht : PySem.W.takerIn K C name = some none) (hh : PySem.W.hasDictIn K C = true)
  (hw : PySem.Within mA ns) (hsz : ns.length ≤ sizeLine)
  (h : ∀ h', BN h' x dx C (fun y => if y = name then some v else mA y) → Heap.SameBut dx s.heap h' → Q () { s with heap := h', toks := s.toks + 2 }) :
  wpAny (model prog w) A (setAttr (.ref x) name v) Q E s := by
 obtain ⟨od, J, hl⟩ := I.look
 refine PySem.W.set_plain X J hs (PySem.W.osa_open (s := { s with toks := s.toks + 1 }) (r := none) X J hp ht fun b => ?_)
 obtain ⟨cd, hc, hd'⟩ := PySem.W.any_some hh
 have hx : s.heap.get? x = some ⟨.ref C, some dx, .plain, #[]⟩ := I.obj
 refine wpAny_bind (wpAny_pure (wpAny_bind (wpAny_bind (wpAny_loadPart hx (wpAny_bind (PySem.W.Looks.here (s := { s with toks := s.toks + 1 }) (PySem.W.looks_clsIn X hc) ?_))))))
 rw [hd']
 refine wpAny_pure (a := some dx) (wpAny_bind (wpAny_pure (wpAny_bind ?_)))
 refine wpAny_nsSet1 (s := { s with toks := s.toks + 1 }) I.ns fun h' hn2 hs2 => ?_
 obtain ⟨oD, esD, epD, hoD, hdD, hcD⟩ := hn2.count (PySem.Within.cons name v hw)
 refine wpAny_bind (wpAny_lookBehind hoD (by rw [hdD]; exact pastItsLine_dict (Nat.le_trans hcD (by rw [List.length_cons]; omega))) ?_)
 exact wpAny_pure (h _ ⟨(hs2.2 _ (Ne.symm I.ne)).trans I.obj, hn2, I.ne⟩ hs2)
theorem yl {R : Result → Shared → Prop} {vs : List Value} {kw : List (Str × Value)} (X : K.In s.heap) (hm : PySem.W.makesIn K C = true)
  (hi : PySem.W.findIn K (.ref C) "__init__" = some (some (.ref f))) (hf : PySem.W.typeIn K (.ref f) = some (.type "function"))
  (h : codeAny (model prog w) (A.under (.builtin "type.__call__" ⟨.ref C :: vs, kw⟩)) (.call (.ref f) ⟨.ref (s.heap.objs.size + 1) :: vs, kw⟩) (PySem.W.InitBack (s.heap.objs.size + 1) R)
   { s with heap := (s.heap.push PySem.W.emptyDict).push (PySem.W.instObj C s.heap.objs.size) }) :
  codeAny (model prog w) A (.call (.ref C) ⟨vs, kw⟩) R s := by
 obtain ⟨hh, g, d, t, os⟩ := s
 exact PySem.W.make_core (PySem.W.makes_of X hm) (PySem.W.looks_findIn X hi) (fun self => PySem.W.bind_fn X self hf) (.inl rfl) h
end
noncomputable def m8 (f : Str) (v : V) : List (Str × V) → List (Str × V)
 | [] => [(f, v)]
 | (g, x) :: r => if g = f then (g, v) :: r else (g, x) :: m8 f v r
theorem ju (f g : Str) (v : V) : ∀ fs : List (Str × V), (m8 f v fs).lookup g = if g = f then some v else fs.lookup g
 | [] => by
  show List.lookup g [(f, v)] = _
  by_cases h : g = f
  ·have hb : (g == f) = true := beq_iff_eq.mpr h
   simp only [List.lookup, hb, if_pos h]
  ·have hb : (g == f) = false := beq_eq_false_iff_ne.mpr h
   simp only [List.lookup, hb, if_neg h]
 | (k, x) :: r => by
  have ih := ju f g v r
  rw [show m8 f v ((k, x) :: r) = (if k = f then (k, v) :: r else (k, x) :: m8 f v r) from rfl]
  by_cases hk : k = f
  ·rw [if_pos hk]
   by_cases h : g = k
   ·have hb : (g == k) = true := beq_iff_eq.mpr h
    simp only [List.lookup, hb, if_pos (h.trans hk)]
   ·have hb : (g == k) = false := beq_eq_false_iff_ne.mpr h
    simp only [List.lookup, hb, if_neg (fun e : g = f => h (e.trans hk.symm))]
  ·rw [if_neg hk]
   by_cases h : g = k
   ·have hb : (g == k) = true := beq_iff_eq.mpr h
    simp only [List.lookup, hb, if_neg (fun e : g = f => hk (h.symm.trans e))]
   ·have hb : (g == k) = false := beq_eq_false_iff_ne.mpr h
    simp only [List.lookup, hb]
    exact ih
theorem fH (f : Str) (v : V) : ∀ fs : List (Str × V), f ∈ (m8 f v fs).map (·.1) ∧ ∀ g, g ∈ fs.map (·.1) → g ∈ (m8 f v fs).map (·.1)
 | [] => ⟨by simp [m8], fun g h => by simp at h⟩
 | (k, x) :: r => by
  obtain ⟨i1, i2⟩ := fH f v r
  rw [show m8 f v ((k, x) :: r) = (if k = f then (k, v) :: r else (k, x) :: m8 f v r) from rfl]
  by_cases hk : k = f
  ·rw [if_pos hk]
   subst hk
   exact ⟨by simp, fun g h => by simpa using h⟩
  ·rw [if_neg hk]
   refine ⟨?_, fun g h => ?_⟩
   ·rw [List.map_cons]
    exact List.mem_cons_of_mem _ i1
   ·rw [List.map_cons] at h ⊢
    rcases List.mem_cons.mp h with e | e
    ·exact List.mem_cons.mpr (.inl e)
    ·exact List.mem_cons_of_mem _ (i2 g e)
theorem lY (f : Str) (v : V) : ∀ fs : List (Str × V), (m8 f v fs).length ≤ fs.length + 1
 | [] => by simp [m8]
 | (k, x) :: r => by
  have ih := lY f v r
  rw [show m8 f v ((k, x) :: r) = (if k = f then (k, v) :: r else (k, x) :: m8 f v r) from rfl]
  by_cases hk : k = f
  ·rw [if_pos hk, List.length_cons, List.length_cons]; omega
  ·rw [if_neg hk, List.length_cons, List.length_cons]; omega
theorem oQ.some_of {v : V} {o : Option Value} (r : oQ (some v) o) : ∃ u, o = some u ∧ dk v u := by
 cases o with
 | none => exact (show False from r).elim
 | some u => exact ⟨u, rfl, r⟩
theorem oQ.none_of {o : Option Value} (r : oQ none o) : o = none := by
 cases o with
 | none => rfl
 | some u => exact (show False from r).elim
theorem vU {v : V} {u : Value} (r : dk v u) : PySem.W.handedIn u = true := by
 cases v with
 | non => cases (show u = Value.none from r); rfl
 | bl b => cases (show u = Value.bool b from r); rfl
 | int i => obtain ⟨t, e⟩ := (show ∃ t, u = Value.int i t from r); cases e; rfl
 | str x => obtain ⟨t, e⟩ := (show ∃ t, u = Value.str x t from r); cases e; rfl
 | byt b => obtain ⟨t, e⟩ := (show ∃ t, u = Value.bytes b t from r); cases e; rfl
 | flt b => obtain ⟨t, e⟩ := (show ∃ t, u = Value.float b t from r); cases e; rfl
 | ref a => cases (show u = Value.ref a from r); rfl
 | ty n => cases (show u = Value.type n from r); rfl
section
variable {P : Program} {w : World} {H H' : Hp} {h h' : Heap} {a C dx : Addr} {fs fs' : List (Str × V)}
theorem oh (hok : HOk P w H h) (e : H a = some (.ins C dx fs)) : ∃ mA, BN h a dx C mA ∧ (∀ f, oQ (fs.lookup f) (mA f)) ∧ PySem.Within mA (fs.map (·.1)) ∧ fs.length ≤ 1000 ∧ H dx = some (.own a) := by
 obtain ⟨d, z, ne, ob, mA, n, r, q⟩ := (show dM P w H h a (.ins C dx fs) from hok a _ e)
 exact ⟨mA, ⟨ob, n, ne⟩, r, q, z, d⟩
end
structure Cls (K : PySem.W.Frag) (C : Addr) : Prop where
 pg : PySem.W.plainGet K C Str.empty = true
 hd : PySem.W.hasDictIn K C = true
 po : PySem.W.plainOver K C = true
 sa : PySem.W.findIn K (.ref C) "__setattr__" = some (some (.builtin "object.__setattr__"))
theorem Cls.get {K : PySem.W.Frag} {C : Addr} (c : Cls K C) (f : Str) : PySem.W.plainGet K C f = true := c.pg
noncomputable def jk (K : PySem.W.Frag) (C : Addr) (f : Str) : Prop := PySem.W.findIn K (.ref C) f = some none
theorem jk.taker {K : PySem.W.Frag} {C : Addr} {f : Str} (n : jk K C f) : PySem.W.takerIn K C f = some none := by
 unfold PySem.W.takerIn
 rw [show PySem.W.findIn K (.ref C) f = some none from n]
 rfl
structure t5 (K : PySem.W.Frag) (C : Addr) (m : Str) (f : Addr) : Prop where
 at_ : PySem.W.findIn K (.ref C) m = some (some (.ref f))
 fn : PySem.W.isFn K (.ref f) = true
 kp : PySem.W.keepIn K (.ref f) = true
section
variable {X : Cx} {pins : List (Addr × Obj)} {σ : St} {H : Hp} {s : Shared} {a C dx : Addr} {fs : List (Str × V)} {f : Str} {v : V} {A : Around} {E : Value → Shared → Prop}
theorem tu {b : Bool} {Q : Value → Shared → Prop} (I : Inv X pins σ H s) (e : H a = some (.ins C dx fs)) (c : Cls X.K C) (n : jk X.K C f) (l : fs.lookup f = some v)
  (h : ∀ u s', Inv X pins σ H s' → dk v u → Q u s') : wpAny (model X.prog X.w) A (getAttr (.ref a) f b) Q E s := by
 obtain ⟨mA, O, r, _, _, _⟩ := oh I.hok e
 obtain ⟨u, hu, ru⟩ := oQ.some_of (v := v) (o := mA f) (by rw [← l]; exact r f)
 exact Bw I.kIn O (c.get f) c.hd n hu (vU ru) (h u _ (I.tok _) ru)
theorem tq {m : Str} {g : Addr} {pl : Sem Bool} {Q : Value × List Value → Shared → Prop} (I : Inv X pins σ H s) (e : H a = some (.ins C dx fs)) (c : Cls X.K C) (k : t5 X.K C m g) (l : fs.lookup m = none)
  (h : Q (.ref g, [.ref a]) s) : wpAny (model X.prog X.w) A (getMethod (.ref a) m pl) Q E s := by
 obtain ⟨mA, O, r, _, _, _⟩ := oh I.hok e
 have hn : mA m = none := oQ.none_of (by rw [← l]; exact r m)
 exact yz I.kIn O (c.get m) k.at_ k.fn hn h
theorem sO {y : V} {u : Value} {Q : Unit → Shared → Prop} (I : Inv X pins σ H s) (e : H a = some (.ins C dx fs)) (c : Cls X.K C) (n : jk X.K C f) (hl : fs.length < 1000) (ry : dk y u)
  (h : ∀ s', Inv X pins σ (upd H a (.ins C dx (m8 f y fs))) s' → Q () s') : wpAny (model X.prog X.w) A (setAttr (.ref a) f u) Q E s := by
 obtain ⟨mA, O, r, wi, _, ho⟩ := oh I.hok e
 have hz : (fs.map (·.1)).length ≤ sizeLine := by rw [List.length_map, sizeLine_eq]; omega
 refine AB I.kIn O c.sa c.po n.taker c.hd wi hz fun h' O' sb => h _ ?_
 have hd : ∃ o, h'.get? dx = some o := let ⟨o, _, _, e', _⟩ := O'.ns; ⟨o, e'⟩
 refine I.write (x := a) (e := dx) (by rw [e]; exact True.intro) (.inr ho) (fun b q hb z => (sb.2 b hb).trans z) hd ?_
 refine ⟨by rw [bF O.ne]; exact ho, ?_, O.ne, O'.obj, _, O'.ns, fun g => ?_, fun g hg => ?_⟩
 ·have := lY f y fs; omega
 ·show oQ ((m8 f y fs).lookup g) (if g = f then some u else mA g)
  rw [ju]
  by_cases q : g = f
  ·rw [if_pos q, if_pos q]; exact ry
  ·rw [if_neg q, if_neg q]; exact r g
 ·by_cases q : g = f
  ·rw [q]; exact (fH f y fs).1
  ·refine (fH f y fs).2 g (wi g fun z => hg ?_)
   show (if g = f then some u else mA g) = none
   rw [if_neg q]; exact z
theorem Inv.made (I : Inv X pins σ H s) : Inv X pins σ (upd (upd H s.heap.objs.size (.own (s.heap.objs.size + 1))) (s.heap.objs.size + 1) (.ins C s.heap.objs.size []))
  { s with heap := (s.heap.push PySem.W.emptyDict).push (PySem.W.instObj C s.heap.objs.size) } := by
 have e1 : (s.heap.push PySem.W.emptyDict).get? s.heap.objs.size = some PySem.W.emptyDict := Heap.get?_push_size s.heap rfl
 have e2 : ((s.heap.push PySem.W.emptyDict).push (PySem.W.instObj C s.heap.objs.size)).get? (s.heap.objs.size + 1) = some (PySem.W.instObj C s.heap.objs.size) := by
  have := Heap.get?_push_size (s.heap.push PySem.W.emptyDict) (o := PySem.W.instObj C s.heap.objs.size) rfl
  rwa [Heap.size_push] at this
 have e3 : (s.heap.push PySem.W.emptyDict).Ns s.heap.objs.size (fun _ => none) := ⟨PySem.W.emptyDict, #[], _, e1, rfl, (fun e he => absurd he (by simp)), fun _ => rfl⟩
 have I1 := I.laid (a := s.heap.objs.size) (o := .own (s.heap.objs.size + 1)) (h' := s.heap.push PySem.W.emptyDict) (t' := s.toks) (fun b u q => Heap.get?_push_of_some _ q) (Nat.le_refl _) ⟨_, e1⟩
 refine I1.laid (a := s.heap.objs.size + 1) (o := .ins C s.heap.objs.size []) (t' := s.toks) (fun b u q => Heap.get?_push_of_some _ q) (Nat.le_of_eq (Heap.size_push _ _)) ?_
 have ne : s.heap.objs.size ≠ s.heap.objs.size + 1 := Nat.ne_of_lt (Nat.lt_succ_self _)
 refine ⟨by rw [bF ne, aK], Nat.zero_le _, ne, e2, fun _ => none, (Heap.Ns1.of_empty e3).at fun o q => Heap.get?_push_of_some _ q, fun _ => True.intro, fun y hy => absurd rfl hy⟩
theorem BL {prog : Program} {w : World} {env : Env} {e : Expr} {f : Str} {pos : Pos} {s : Shared} {Q : Value → Shared → Prop} (hb : attributeBase e f env (eval e env) = eval e env)
  (h : wpAny (model prog w) A (eval e env) (fun o s₁ => wpAny (model prog w) A (getAttr o f true) Q E s₁) E s) : wpAny (model prog w) A (eval (.Attribute e f pos) env) Q E s :=
 Attribute_any_ h (by rw [arm_eval_Attribute, hb])
end
noncomputable def Hr (K : PySem.W.Frag) (ta : TE) (f : Str) : TE := fun σ H Q => ta σ H fun x H1 => ∃ a C dx fs v, x = .ref a ∧ H1 a = some (.ins C dx fs) ∧ Cls K C ∧ jk K C f ∧ fs.lookup f = some v ∧ Q v H1
noncomputable def Hv (K : PySem.W.Frag) (ta tv : TE) (f : Str) : TS := fun D σ H => tv σ H fun y H1 => ta σ H1 fun x H2 => ∃ a C dx fs, x = .ref a ∧ H2 a = some (.ins C dx fs) ∧ Cls K C ∧ jk K C f ∧ fs.length < 1000 ∧
 D.nx σ (upd H2 a (.ins C dx (m8 f y fs)))
section
variable {X : Cx} {o e value : Expr} {f : Str} {pos pos' tpos : Pos} {ta tv : TE}
theorem DD (he : PE X e ta) (hb : attributeBase e f X.env (eval e X.env) = eval e X.env) : PE X (.Attribute e f pos) (Hr X.K ta f) := by
 intro pins s σ H Q I h
 refine BL hb (thn (he pins s σ H _ I h) fun u s1 hz => ?_)
 obtain ⟨x, H1, I1, rx, a, C, dx, fs, v, ex, ea, c, n, l, q⟩ := hz
 subst ex
 obtain rfl : u = Value.ref a := rx
 exact tu I1 ea c n l fun u' s2 I2 ru => ⟨v, H1, I2, ru, q⟩
theorem Dm (ha : PE X o ta) (hv : PE X value tv) (hs : swapsWith value (some (.Attribute o f pos')) pos.line X.env = pure false) : PS X (.Assign [.Attribute o f pos'] value pos) (Hv X.K ta tv f) := by
 intro pins s σ H D I h
 refine plainObj_wpAny_Assign_Attribute (thn (hv pins s σ H _ I h) fun u s1 ⟨y, H1, I1, ry, q⟩ => thn (ha pins s1 σ H1 _ I1 q) fun ov s2 hz => ?_) hs
 obtain ⟨x, H2, I2, rx, a, C, dx, fs, ex, ea, c, n, l, q2⟩ := hz
 subst ex
 obtain rfl : ov = Value.ref a := rx
 exact sO I2 ea c n l ry fun s3 I3 => ⟨σ, _, I3, q2⟩
end
section
variable {X : Cx} {pins : List (Addr × Obj)} {σ : St} {H : Hp} {s : Shared} {A : Around} {E : Value → Shared → Prop} {Q : Value → Shared → Prop} {c : Value} {b : Bool}
inductive sC (K : PySem.W.Frag) (H : Hp) : V → Value → Prop where
 | non : sC K H .non (.type "NoneType")
 | bl (x : Bool) : sC K H (.bl x) (.type "bool")
 | int (i : Int) : sC K H (.int i) (.type "int")
 | str (x : Str) : sC K H (.str x) (.type "str")
 | flt (x : UInt64) : sC K H (.flt x) (.type "float")
 | lst {a : Addr} {xs : List V} (e : H a = some (.lst xs)) : sC K H (.ref a) (.type "list")
 | frz {a : Addr} {o : Obj} {xs : List V} (e : H a = some (.frz o (.lst xs))) : sC K H (.ref a) (.type "list")
 | tup {a : Addr} {xs : List V} (e : H a = some (.tup xs)) : sC K H (.ref a) (.type "tuple")
 | dK {a : Addr} {kvs : List (Key × V)} (e : H a = some (.dK kvs)) : sC K H (.ref a) (.type "dict")
 | dT {a : Addr} {kvs : List (List Key × V)} (e : H a = some (.dT kvs)) : sC K H (.ref a) (.type "dict")
 | ins {a C dx : Addr} {fs : List (Str × V)} (e : H a = some (.ins C dx fs)) (cl : Cls K C) (ha : PySem.W.findIn K (.ref C) "__class__" = some (some (.builtin "object.__class__")))
   (hn : PySem.W.specialIn K (.builtin "object.__class__") "__get__" = some (some (.builtin "getset_descriptor.__get__"))) (htk : PySem.W.takesIn K (.builtin "object.__class__") = some true)
   (hm : PySem.W.mroIn K C (.type "object") = some true) : sC K H (.ref a) (.ref C)
theorem vM {x : V} {u t : Value} (I : Inv X pins σ H s) (rx : dk x u) (ty : sC X.K H x t) (e : PySem.W.kitOne X.K t c = some b) (h : ∀ tk, Q (.bool b) { s with toks := tk }) :
  wpAny (model X.prog X.w) A (call (.builtin "isinstance") [u, c]) Q E s := by
 cases ty with
 | non => cases (show u = Value.none from rx); exact PySem.W.kia_one PySem.W.kitx_none I.kIn True.intro e (fun z => nomatch z) h
 | bl y => cases (show u = Value.bool y from rx); exact PySem.W.kia_one PySem.W.kitx_bool I.kIn True.intro e (fun z => nomatch z) h
 | int i => obtain ⟨t, q⟩ := (show ∃ t, u = Value.int i t from rx); cases q; exact PySem.W.kia_one PySem.W.kitx_int I.kIn True.intro e (fun z => nomatch z) h
 | str y => obtain ⟨t, q⟩ := (show ∃ t, u = Value.str y t from rx); cases q; exact PySem.W.kia_one PySem.W.kitx_str I.kIn True.intro e (fun z => nomatch z) h
 | flt y => obtain ⟨t, q⟩ := (show ∃ t, u = Value.float y t from rx); cases q; exact PySem.W.kia_one PySem.W.kitx_float I.kIn True.intro e (fun z => nomatch z) h
 | @lst a xs ea =>
  cases (show u = Value.ref a from rx)
  obtain ⟨_, _, n, _, h1⟩ := (show dM X.prog X.w H s.heap a (.lst xs) from I.hok a _ ea)
  exact PySem.W.kia_one PySem.W.kitx_list I.kIn ⟨_, h1, rfl⟩ e (fun z => nomatch z) h
 | @frz a ob xs ea =>
  cases (show u = Value.ref a from rx)
  obtain ⟨_, _, _, n, _, h1⟩ := (show dM X.prog X.w H s.heap a (.frz ob (.lst xs)) from I.hok a _ ea)
  exact PySem.W.kia_one PySem.W.kitx_list I.kIn ⟨_, h1, rfl⟩ e (fun z => nomatch z) h
 | @tup a xs ea =>
  cases (show u = Value.ref a from rx)
  obtain ⟨_, _, _, p⟩ := (show dM X.prog X.w H s.heap a (.tup xs) from I.hok a _ ea)
  obtain ⟨o, h1, h2, _⟩ := p
  exact PySem.W.kia_one PySem.W.kitx_tuple I.kIn ⟨o, h1, h2⟩ e (fun z => nomatch z) h
 | @dK a kvs ea =>
  cases (show u = Value.ref a from rx)
  obtain ⟨_, _, vs, _, p⟩ := (show dM X.prog X.w H s.heap a (.dK kvs) from I.hok a _ ea)
  obtain ⟨o, es, ep, h1, h2, _⟩ := p
  exact PySem.W.kia_one PySem.W.kitx_dict I.kIn ⟨o, h1, h2.1⟩ e (fun z => nomatch z) h
 | @dT a kvs ea =>
  cases (show u = Value.ref a from rx)
  obtain ⟨_, _, xs, _, o, es, ep, h1, h2, _⟩ := (show dM X.prog X.w H s.heap a (.dT kvs) from I.hok a _ ea)
  exact PySem.W.kia_one PySem.W.kitx_dict I.kIn ⟨o, h1, h2.1⟩ e (fun z => nomatch z) h
 | @ins a C dx fs ea cl ha hn htk hm =>
  cases (show u = Value.ref a from rx)
  obtain ⟨mA, O, _⟩ := oh I.hok ea
  obtain ⟨od, J, _⟩ := O.look
  exact PySem.W.kia_one (PySem.W.kitx_own (cl.get _) cl.hd ha hn htk hm) I.kIn J e (fun z => nomatch z) h
end
structure iX (k : Nat) (A : Around) : Prop where
 hd : A.handled = none
 dp : A.depth + 3 * k + 5 < recursionLimit
 un : A.units + 16 * k + 200 < cLine
 gd : A.guards = some []
theorem iX.mono {j k : Nat} {A : Around} (r : iX k A) (h : j ≤ k) : iX j A := ⟨r.hd, by have := r.dp; omega, by have := r.un; omega, r.gd⟩
theorem iX.deeper {k : Nat} {A : Around} (r : iX (k + 1) A) (env : Env) : iX k (A.deeper env) :=
 ⟨r.hd, by have := r.dp; show A.depth + 1 + 3 * k + 5 < _; omega, by have := r.un; show A.units + 3 + 16 * k + 200 < _; omega, r.gd⟩
theorem sW {A : Around} {C : Addr} {us : List Value} {kw : List (Str × Value)} : (A.under (.builtin "type.__call__" ⟨.ref C :: us, kw⟩)).depth = A.depth + 1 := by
 first | rfl | simp [Around.under, Code.weight, Code.isCreation, Code.isGuard, Code.isCaller, Code.frames, Code.isFrame, guardIds]
theorem sV {A : Around} {C : Addr} {us : List Value} {kw : List (Str × Value)} : (A.under (.builtin "type.__call__" ⟨.ref C :: us, kw⟩)).units = A.units + 1 := by
 first | rfl | simp [Around.under, Code.cUnits, Code.frames, Code.isFrame]
theorem iX.make {k : Nat} {A : Around} (r : iX (k + 1) A) (C : Addr) (us : List Value) (kw : List (Str × Value)) : iX k (A.under (.builtin "type.__call__" ⟨.ref C :: us, kw⟩)) :=
 ⟨r.hd, by have := r.dp; rw [sW]; omega, by have := r.un; rw [sV]; omega, r.gd⟩
theorem iX.depth {k : Nat} {A : Around} (r : iX k A) : A.depth < recursionLimit := by have := r.dp; omega
theorem iX.units {k : Nat} {A : Around} (r : iX k A) : A.units + 64 < cLine := by have := r.un; omega
noncomputable def EH : TA := fun _ H Q => Q [] H
noncomputable def C1 (ta : TE) (tr : TA) : TA := fun σ H Q => ta σ H fun x H1 => tr σ H1 fun xs H2 => Q (x :: xs) H2
section
variable {X : Cx} {e : Expr} {es : List Expr} {te : TE} {t : TA} {pos : Pos}
theorem DK : PA X [] EH := fun _ _ _ _ H Q I h => Calls.spliced_nil ⟨[], H, I, .nil, h⟩
theorem A5 (ha : PE X e te) (hr : PA X es t) (hs : starEach (e :: es) X.env = (false, eval e X.env) :: starEach es X.env := by rfl) : PA X (e :: es) (C1 te t) := by
 intro pos pins s σ H Q I h
 rw [hs]
 show wpAny _ _ (spliced ((false, eval e X.env) :: backTo pos (starEach es X.env))) _ _ s
 refine Calls.spliced_cons (thn (ha pins s σ H _ I h) fun u s1 hz => ?_)
 obtain ⟨x, H1, I1, r1, q1⟩ := hz
 exact thn (hr pos pins s1 σ H1 _ I1 q1) fun us s2 ⟨xs, H2, I2, r2, q2⟩ => ⟨x :: xs, H2, I2, .cons r1 r2, q2⟩
noncomputable def Hk (t : TA) : TE := fun σ H Q => t σ H fun xs H1 => xs.length ≤ sizeLine ∧ ∀ p, H1 p = none → Q (.ref p) (upd H1 p (.tup xs))
noncomputable def Ho (t : TA) : TE := fun σ H Q => t σ H fun xs H1 => xs.length ≤ sizeLine ∧ ∀ p, H1 p = none → Q (.ref p) (upd H1 p (.lst xs))
theorem Dv {x1} (h : PA X es t) : PE X (.Tuple es x1 pos) (Hk t) := by
 intro pins s σ H Q I hq
 refine wpAny_Tuple_spliced (thn (h pos pins s σ H _ I hq) fun us s1 ⟨xs, H1, I1, r, z, q⟩ => ⟨by rw [← r.length]; exact z, ?_⟩)
 have hf : H1 s1.heap.objs.size = none := I1.hok.fresh (Nat.le_refl _)
 refine ⟨.ref s1.heap.objs.size, upd H1 s1.heap.objs.size (.tup xs), I1.laid (t' := s1.toks) (fun b u e => Heap.get?_push_of_some _ e) (Nat.le_refl _) ?_, rfl, q _ hf⟩
 exact ⟨z, us, r, ⟨_, Heap.get?_push_size _ rfl, rfl, _, rfl⟩⟩
theorem DB (h : PA X es t) : PE X (.List es pos) (Ho t) := by
 intro pins s σ H Q I hq
 refine wpAny_List_spliced (thn (h pos pins s σ H _ I hq) fun us s1 ⟨xs, H1, I1, r, z, q⟩ => ⟨by rw [← r.length]; exact z, ?_⟩)
 have hf : H1 s1.heap.objs.size = none := I1.hok.fresh (Nat.le_refl _)
 refine ⟨.ref s1.heap.objs.size, upd H1 s1.heap.objs.size (.lst xs), I1.laid (t' := s1.toks) (fun b u e => Heap.get?_push_of_some _ e) (Nat.le_refl _) ?_, rfl, q _ hf⟩
 exact ⟨z, us, 0, r, Heap.get?_push_size _ rfl⟩
end
noncomputable abbrev Sp := List V → Hp → VK → XK → Prop
noncomputable abbrev CXT := List Env → Hp → Shared → XK → Value → Shared → Prop
structure BQ (P : Program) (w : World) (K : PySem.W.Frag) (mg : Str → Option Value) (base : Heap) (A : Around) (outer : List Env) (s : Shared) (H : Hp) : Prop where
 frames : A.frames = some outer
 mod : Mod K mg base
 bs : ∀ b o, base.get? b = some o → s.heap.get? b = some o ∧ H b = none
 bsz : base.objs.size ≤ s.heap.objs.size
 funs : s.heap.FunFrames base outer
 frf : ∀ b ∈ frs outer, H b = none
 hok : HOk P w H s.heap
 bare : AllBare s.gens
noncomputable def CE (outer : List Env) (P : Program) (w : World) (H : Hp) (s : Shared) (Q : VK) (u : Value) (s' : Shared) : Prop :=
 ∃ v H', s'.os = s.os ∧ AllBare s'.gens ∧ Un (frs outer) [] H H' s.heap s'.heap ∧ HOk P w H' s'.heap ∧ dk v u ∧ Q v H'
noncomputable def CR (CX : CXT) (outer : List Env) (P : Program) (w : World) (H : Hp) (s : Shared) (Q : VK) (E : XK) (r : Result) (s' : Shared) : Prop :=
 match r with
 | .ok (.ret u) => CE outer P w H s Q u s'
 | .ok _ => False
 | .error e => CX outer H s E e s'
structure mX (P : Program) (w : World) (K : PySem.W.Frag) (mg : Str → Option Value) (base : Heap) (CX : CXT) (k : Nat) (f : Addr) (fd : FuncData) (ps : List Str) (sp : Sp) : Prop where
 len : ∀ vs H Q E, sp vs H Q E → vs.length = ps.length
 run : ∀ (A : Around) (outer : List Env) (s : Shared) (H : Hp) (args : Args) (us : List Value) (vs : List V) (Q : VK) (E : XK), iX k A → BQ P w K mg base A outer s H → BindsTo s fd args (ps.zip us) → cL vs us → sp vs H Q E →
  codeAny (model P w) A (.call (.ref f) args) (CR CX outer P w H s Q E) s
theorem mX.mono {P : Program} {w : World} {K : PySem.W.Frag} {mg : Str → Option Value} {base : Heap} {CX : CXT} {j k : Nat} {f : Addr} {fd : FuncData} {ps : List Str} {sp : Sp} (F : mX P w K mg base CX j f fd ps sp) (h : j ≤ k) :
  mX P w K mg base CX k f fd ps sp := ⟨F.len, fun A outer s H args us vs Q E hr => F.run A outer s H args us vs Q E (hr.mono h)⟩
theorem BQ.make {P : Program} {w : World} {K : PySem.W.Frag} {mg : Str → Option Value} {base : Heap} {A : Around} {outer : List Env} {s : Shared} {H : Hp} (e : BQ P w K mg base A outer s H) (C : Addr) (us : List Value) (kw : List (Str × Value)) :
  BQ P w K mg base (A.under (.builtin "type.__call__" ⟨.ref C :: us, kw⟩)) outer s H := ⟨by first | exact e.frames | (simpa [Around.under, Code.envs, Code.isFrame, pushEnvs] using e.frames), e.mod, e.bs, e.bsz, e.funs, e.frf, e.hok, e.bare⟩
section
variable {X : Cx} {pins : List (Addr × Obj)} {σ : St} {H : Hp} {s s' : Shared}
theorem Inv.env0 (I : Inv X pins σ H s) : BQ X.prog X.w X.K X.mg X.base X.A X.stack s H :=
 ⟨I.ok.frames, I.ok.mod, I.bs, Nat.le_trans I.ok.bsz I.sz, I.stack, I.stkFree, I.hok, I.bare⟩
theorem Inv.after {Q : VK} {u : Value} (I : Inv X pins σ H s) (h : CE X.stack X.prog X.w H s Q u s') : EP X pins σ Q u s' := by
 obtain ⟨v, H', os, bare, un, hok, r, q⟩ := h
 obtain ⟨hh, g, d, t, os'⟩ := s'
 obtain rfl : os' = s.os := os
 exact ⟨v, H', I.call (h' := hh) (g' := g) (d' := d) (t' := t) (ch := []) un hok bare (fun b z => absurd z (by simp)), r, q⟩
end
noncomputable def C2 (sp : Sp) (dvs : List V) (E : XK) (t : TA) : TE := fun σ H Q => t σ H fun vs H1 => sp (vs ++ dvs) H1 Q E
noncomputable def Av (C : Addr) (m : Str) (sp : Sp) (dvs : List V) (E : XK) (ta : TE) (t : TA) : TE := fun σ H Q => ta σ H fun x H1 => ∃ a dx fs, x = .ref a ∧ H1 a = some (.ins C dx fs) ∧ fs.lookup m = none ∧
 t σ H1 fun vs H2 => sp (x :: (vs ++ dvs)) H2 Q E
noncomputable def Aw (C : Addr) (sp : Sp) (dvs : List V) (E : XK) (t : TA) : TE := fun σ H Q => t σ H fun vs H1 => ∀ x dx, H1 x = none → H1 dx = none → dx ≠ x →
 sp (.ref x :: (vs ++ dvs)) (upd (upd H1 dx (.own x)) x (.ins C dx [])) (fun v H2 => v = .non ∧ Q (.ref x) H2) E
noncomputable def ib (K : PySem.W.Frag) (fd : FuncData) (ps : List Str) (ds : List Value) : Prop :=
 ∀ (s : Shared) (us : List Value), K.In s.heap → (us ++ ds).length = ps.length → BindsTo s fd ⟨us, []⟩ (ps.zip (us ++ ds))
theorem ib.all {K : PySem.W.Frag} {fd : FuncData} {ps : List Str} (h : ∀ us : List Value, us.length = ps.length → bindArgs fd ⟨us, []⟩ = pure (ps.zip us)) : ib K fd ps [] := fun s us _ hl => by
 rw [List.append_nil] at hl ⊢
 exact .of_eq (h us hl)
noncomputable def kK (CX : CXT) (X : Cx) (E : XK) : Prop := ∀ (pins : List (Addr × Obj)) (σ : St) (H : Hp) (s : Shared) (e : Value) (s' : Shared), Inv X pins σ H s → CX X.stack H s E e s' → X.xe e s'
section
variable {X : Cx} {CX : CXT} {k : Nat} {f C : Addr} {fd : FuncData} {ps : List Str} {sp : Sp} {dvs : List V} {ds : List Value} {E : XK} {x m : Str} {p pos apos : Pos} {e o : Expr} {es : List Expr} {ta : TE} {t : TA}
theorem zp {pins : List (Addr × Obj)} {σ : St} {H : Hp} {s : Shared} {Q : VK} {us : List Value} {vs : List V} (F : mX X.prog X.w X.K X.mg X.base CX k f fd ps sp) (hr : iX k X.A) (hb : ib X.K fd ps ds) (hd : cL dvs ds) (hx : kK CX X E)
  (I : Inv X pins σ H s) (r : cL vs us) (h : sp (vs ++ dvs) H Q E) : wpAny (model X.prog X.w) X.A (call (.ref f) us) (EP X pins σ Q) X.xe s := by
 have r2 : cL (vs ++ dvs) (us ++ ds) := r.append hd
 have hl : (us ++ ds).length = ps.length := by rw [← r2.length]; exact F.len _ _ _ _ h
 refine wpAny_call (codeAny_mono (F.run X.A X.stack s H ⟨us, []⟩ (us ++ ds) (vs ++ dvs) Q E hr I.env0 (hb s us I.kIn hl) r2 h) fun r s' hq => ?_)
 cases r with
 | error e => exact hx pins σ H s e s' I hq
 | ok fl =>
  cases fl with
  | ret u => exact I.after hq
  | next => exact False.elim hq
  | brk => exact False.elim hq
  | cont => exact False.elim hq
theorem A2 (F : mX X.prog X.w X.K X.mg X.base CX k f fd ps sp) (hr : iX k X.A) (hg : Gl X x) (hm : X.mg x = some (.ref f)) (hk : PySem.W.keepIn X.K (.ref f) = true) (hb : ib X.K fd ps ds) (hd : cL dvs ds) (hx : kK CX X E)
  (ha : PA X (e :: es) t) (hdb : (x == ("__debug__" : Str)) = false := by decide) (he : starEach (e :: es) X.env = (false, eval e X.env) :: starEach es X.env := by rfl) (hpl : (backTo pos (starEach es X.env)).any (·.1) = false := by rfl) :
  PE X (.Call (.Name x p) (e :: es) [] pos) (C2 sp dvs E t) := by
 intro pins s σ H Q I h
 refine wpAny_Call_Name_kw (qA I hg hm ?_ hdb)
 refine PySem.W.callWith_K (h₀ := X.base) I.ok.mod.kin hk (thn (ha pos pins s σ H _ I h) fun us s1 ⟨vs, H1, I1, r, q⟩ => ⟨I1.kIn, ?_⟩) he hpl
 exact zp F hr hb hd hx I1 r q
theorem AY {pl : Sem Bool} (he : PE X o ta) (c : Cls X.K C) (hm : t5 X.K C m f) (F : mX X.prog X.w X.K X.mg X.base CX k f fd ps sp) (hr : iX k X.A) (hb : ib X.K fd ps ds) (hd : cL dvs ds) (hx : kK CX X E) (ha : PA X (e :: es) t)
  (hst : starEach (e :: es) X.env = (false, eval e X.env) :: starEach es X.env := by rfl) (hpl : (backTo pos (starEach es X.env)).any (·.1) = false := by rfl)
  (ht : eval (.Call (.Attribute o m apos) (e :: es) [] pos) X.env = (do
   let ov ← eval o X.env
   standAt apos.atName
   let (f, first) ← holding [ov] (getMethod ov m pl)
   callWith pos f first (backTo pos (starEach (e :: es) X.env)) (backToKw pos (keywordEach [] X.env))) := by rfl) :
  PE X (.Call (.Attribute o m apos) (e :: es) [] pos) (Av C m sp dvs E ta t) := by
 intro pins s σ H Q I h
 refine PySem.W.methodCall_KW (pl := pl) (thn (he pins s σ H _ I h) fun u s1 hz => ?_) ht
 obtain ⟨x, H1, I1, rx, a, dx, fs, ex, ea, l, q⟩ := hz
 subst ex
 obtain rfl : u = Value.ref a := rx
 refine tq I1 ea c hm l ?_
 refine PySem.W.callWith_K (first := [.ref a]) (h₀ := X.base) I.ok.mod.kin hm.kp (thn (ha pos pins s1 σ H1 _ I1 q) fun us s2 ⟨vs, H2, I2, r, q2⟩ => ⟨I2.kIn, ?_⟩) hst hpl
 exact zp (us := .ref a :: us) (vs := .ref a :: vs) F hr hb hd hx I2 (.cons rfl r) q2
structure Mk (K : PySem.W.Frag) (C f : Addr) : Prop where
 makes : PySem.W.makesIn K C = true
 init : PySem.W.findIn K (.ref C) "__init__" = some (some (.ref f))
 fn : PySem.W.isFn K (.ref f) = true
 kp : PySem.W.keepIn K (.ref C) = true
theorem xD {pins : List (Addr × Obj)} {σ : St} {H : Hp} {s : Shared} {Q : VK} {us : List Value} {vs : List V} (M : Mk X.K C f) (F : mX X.prog X.w X.K X.mg X.base CX k f fd ps sp) (hr : iX (k + 1) X.A) (hb : ib X.K fd ps ds) (hd : cL dvs ds)
  (hx : kK CX X E) (I : Inv X pins σ H s) (r : cL vs us)
  (h : ∀ x dx, H x = none → H dx = none → dx ≠ x → sp (.ref x :: (vs ++ dvs)) (upd (upd H dx (.own x)) x (.ins C dx [])) (fun v H2 => v = .non ∧ Q (.ref x) H2) E) :
  wpAny (model X.prog X.w) X.A (call (.ref C) us) (EP X pins σ Q) X.xe s := by
 have hq := h (s.heap.objs.size + 1) s.heap.objs.size (I.hok.fresh (Nat.le_succ _)) (I.hok.fresh (Nat.le_refl _)) (Nat.ne_of_lt (Nat.lt_succ_self _))
 have I2 := Inv.made (C := C) I
 have r2 : cL (V.ref (s.heap.objs.size + 1) :: (vs ++ dvs)) (Value.ref (s.heap.objs.size + 1) :: (us ++ ds)) := .cons rfl (r.append hd)
 have hl : (Value.ref (s.heap.objs.size + 1) :: us ++ ds).length = ps.length := by
  have e := r2.length
  rw [F.len _ _ _ _ hq] at e
  exact e.symm
 refine wpAny_call (yl (f := f) I.kIn M.makes M.init (beq_iff_eq.mp M.fn) (codeAny_mono (F.run _ X.stack _ _ ⟨Value.ref (s.heap.objs.size + 1) :: us, []⟩ (Value.ref (s.heap.objs.size + 1) :: (us ++ ds)) _ _ E (hr.make C us [])
  (I2.env0.make C us []) (hb _ (Value.ref (s.heap.objs.size + 1) :: us) I2.kIn hl) r2 hq) fun r s' hq' => ?_))
 cases r with
 | error e => exact hx pins σ _ _ e s' I2 hq'
 | ok fl =>
  cases fl with
  | ret u =>
   obtain ⟨v, H', I3, rv, ev, q3⟩ := I2.after hq'
   subst ev
   exact ⟨rv, ⟨V.ref (s.heap.objs.size + 1), H', I3, rfl, q3⟩⟩
  | next => exact False.elim hq'
  | brk => exact False.elim hq'
  | cont => exact False.elim hq'
theorem xR (M : Mk X.K C f) (F : mX X.prog X.w X.K X.mg X.base CX k f fd ps sp) (hr : iX (k + 1) X.A) (hg : Gl X x) (hm : X.mg x = some (.ref C)) (hb : ib X.K fd ps ds) (hd : cL dvs ds) (hx : kK CX X E)
  (hdb : (x == ("__debug__" : Str)) = false := by decide) : PE X (.Call (.Name x p) [] [] pos) (Aw C sp dvs E EH) := by
 intro pins s σ H Q I h
 refine wpAny_Call_Name_kw (qA I hg hm ?_ hdb)
 exact PySem.W.callWith_K0 I.kIn M.kp (xD (us := []) M F hr hb hd hx I .nil h)
end
structure aW (N P : List Str) (sc : Scope) : Prop where
 kind : sc.kind = .function
 co : sc.isCoroutine = false
 gen : sc.isGenerator = false
 nd : N.Nodup
 pre : N.take P.length = P
 par : ∀ x ∈ P, sc.names.lookup x = some .local ∨ sc.names.lookup x = some .cell
 nofree : ∀ y ∈ sc.names, y.2 ≠ .free
theorem pZ {kindOf : Str → Option NameKind} {x : Str} : ∀ {binds : List (Str × Value)} {m : Str → Option Value}, (∀ v, (x, v) ∉ binds) → bindL kindOf binds m x = m x
 | [], _, _ => rfl
 | (n, v) :: r, m, h => by
  unfold bindL
  rw [pZ fun w hw => h w (List.mem_cons_of_mem _ hw)]
  split
  ·have : x ≠ n := by rintro rfl; exact h v List.mem_cons_self
   simp [this]
  ·rfl
theorem p6 {kindOf : Str → Option NameKind} {x : Str} : ∀ {binds : List (Str × Value)} {m : Str → Option Value}, (∀ v, (x, v) ∉ binds) → bindC kindOf binds m x = m x
 | [], _, _ => rfl
 | (n, v) :: r, m, h => by
  unfold bindC
  rw [p6 fun w hw => h w (List.mem_cons_of_mem _ hw)]
  split
  ·rfl
  ·have : x ≠ n := by rintro rfl; exact h v List.mem_cons_self
   simp [this]
theorem p5 {kindOf : Str → Option NameKind} {x : Str} {v : Value} : ∀ {P : List Str} {vs : List Value} {i : Nat} {m : Str → Option Value}, P.Nodup → P[i]? = some x → vs[i]? = some v → kindOf x = some .local →
  bindL kindOf (P.zip vs) m x = some v
 | [], _, _, _, _, h, _, _ => by simp at h
 | _ :: _, [], _, _, _, _, h, _ => by simp at h
 | p :: P, w :: vs, 0, m, nd, h1, h2, hk => by
  simp at h1 h2; subst h1; subst h2
  show bindL kindOf ((p, w) :: P.zip vs) m p = _
  unfold bindL
  rw [pZ fun v hv => (List.nodup_cons.mp nd).1 (List.of_mem_zip hv).1, if_pos hk]
  simp
 | p :: P, w :: vs, i + 1, m, nd, h1, h2, hk => by
  show bindL kindOf ((p, w) :: P.zip vs) m x = _
  unfold bindL
  exact p5 (i := i) (List.nodup_cons.mp nd).2 (by simpa using h1) (by simpa using h2) hk
theorem p7 {kindOf : Str → Option NameKind} {x : Str} {v : Value} : ∀ {P : List Str} {vs : List Value} {i : Nat} {m : Str → Option Value}, P.Nodup → P[i]? = some x → vs[i]? = some v → kindOf x ≠ some .local →
  bindC kindOf (P.zip vs) m x = some v
 | [], _, _, _, _, h, _, _ => by simp at h
 | _ :: _, [], _, _, _, _, h, _ => by simp at h
 | p :: P, w :: vs, 0, m, nd, h1, h2, hk => by
  simp at h1 h2; subst h1; subst h2
  show bindC kindOf ((p, w) :: P.zip vs) m p = _
  unfold bindC
  rw [p6 fun v hv => (List.nodup_cons.mp nd).1 (List.of_mem_zip hv).1, if_neg hk]
  simp
 | p :: P, w :: vs, i + 1, m, nd, h1, h2, hk => by
  show bindC kindOf ((p, w) :: P.zip vs) m x = _
  unfold bindC
  exact p7 (i := i) (List.nodup_cons.mp nd).2 (by simpa using h1) (by simpa using h2) hk
noncomputable def jF (N : List Str) (vs : List V) : St := vs.map some ++ List.replicate (N.length - vs.length) none
noncomputable def t4 (CX : CXT) (P : Program) (w : World) (K : PySem.W.Frag) (mg : Str → Option Value) (base : Heap) (N : List Str) (qual : Str) (scope : Scope) (f : Addr) (cd : Value) (A : Around) (outer : List Env) (s : Shared) (H : Hp) (E : XK) : Cx where
 prog := P
 w := w
 K := K
 mg := mg
 base := base
 A := A.deeper (envOfC qual scope s.heap.objs.size f cd)
 N := N
 s₀ := s
 H₀ := H
 env := envOfC qual scope s.heap.objs.size f cd
 outer := outer
 stack := envOfC qual scope s.heap.objs.size f cd :: outer
 ex := []
 calm := true
 fn := fun _ => true
 pn := []
 xe := fun e s' => wpAny (model P w) (A.deeper (envOfC qual scope s.heap.objs.size f cd)) (leaving (envOfC qual scope s.heap.objs.size f cd) e) (fun _ s'' => CX outer H s E e s'') (fun e' s'' => CX outer H s E e' s'') s'
theorem so {sc : Scope} {n : Nat} {x : Str} (h : sc.names.lookup x = some .cell) : ∃ c, (cellsFrom n sc.names []).lookup x = some c := by
 have q := PySem.W.cellsFrom_some sc.names n [] (.inl h)
 exact Option.isSome_iff_exists.mp q
theorem vR {CX : CXT} {P : Program} {w : World} {K : PySem.W.Frag} {mg : Str → Option Value} {base : Heap} {N ps : List Str} {qual : Str} {scope : Scope} {f : Addr} {cd : Value} {A : Around} {outer : List Env} {s s1 : Shared} {H : Hp} {E : XK} {us : List Value} {vs : List V}
  (S : aW N ps scope) (hd : A.handled = none) (e0 : BQ P w K mg base A outer s H) (hl : vs.length = ps.length) (r : cL vs us)
  (x : InCallC s s.heap.objs.size (bindL (envOfC qual scope s.heap.objs.size f cd).kindOf (ps.zip us) fun _ => none) (cellsFrom (s.heap.objs.size + 1) scope.names []) (bindC (envOfC qual scope s.heap.objs.size f cd).kindOf (ps.zip us) fun _ => none) s1) :
  Inv (t4 CX P w K mg base N qual scope f cd A outer s H E) [] (jF N vs) H s1 := by
 have hpl : ps.length ≤ N.length := by have := congrArg List.length S.pre; rw [List.length_take] at this; omega
 obtain ⟨h1, tk, rfl, hk⟩ := x.done
 have noA : ∀ b : Addr, b ∉ (t4 CX P w K mg base N qual scope f cd A outer s H E).ex := fun b z => absurd (show b ∈ ([] : List Addr) from z) (by simp)
 refine ⟨⟨e0.mod, S.kind, rfl, rfl, Nat.le_refl _, fun y z c h1 h2 => ?_, fun y hy => ?_, fun y c _ h => ?_, fun _ => hd, Around.frames_deeper e0.frames, .inr ⟨rfl, rfl⟩, fun b z => absurd z (noA b), e0.bs, e0.bsz, fun b _ _ => noA b, fun b z => absurd z (noA b), e0.funs, e0.frf⟩,
  rfl, e0.bare, Un.kept hk, ⟨_, x.toInCall.ns, fun i y v h1 h2 h3 => ?_⟩, fun y c h => ⟨_, x.cell y c h⟩, e0.hok.fresh (Nat.le_refl _), fun y c h => ?_, fun p hp => absurd (show p ∈ ([] : List (Addr × Obj)) from hp) (by simp), e0.hok.kept hk, ?_⟩
 ·exact name_of_addr x.apart (PySem.mem_of_lookup h1) (PySem.mem_of_lookup h2)
 ·have hy : scope.names.lookup y = some .cell ∨ scope.names.lookup y = some .free := hy
  rcases hy with hy | hy
  ·exact so hy
  ·exact absurd rfl (S.nofree _ (PySem.mem_of_lookup hy))
 ·exact Nat.le_of_lt (x.above y c (PySem.mem_of_lookup h))
 ·have hi : i < vs.length := by
   unfold jF at h2
   by_cases hi : i < vs.length
   ·exact hi
   ·rw [List.getElem?_append_right (by simpa using hi)] at h2
    rw [List.getElem?_replicate] at h2
    split at h2 <;> cases h2
  have ha : vs[i]? = some v := by
   unfold jF at h2
   rw [List.getElem?_append_left (by simpa using hi), List.getElem?_map] at h2
   cases e : vs[i]? with
   | none => rw [e] at h2; cases h2
   | some a => rw [e] at h2; cases h2; rfl
  obtain ⟨u, hu, rv⟩ := r.get ha
  have hp : ps[i]? = some y := by
   rw [← S.pre, List.getElem?_take_of_lt (by omega)]; exact h1
  have ndP : ps.Nodup := by rw [← S.pre]; exact S.nd.sublist (List.take_sublist _ _)
  refine ⟨u, rv, ?_⟩
  rcases S.par y (List.mem_of_getElem? hp) with k | k
  ·exact .inl ⟨k, p5 ndP hp hu k⟩
  ·obtain ⟨c, e⟩ := so (n := s.heap.objs.size + 1) k
   refine .inr ⟨.inl k, c, e, ?_⟩
   have q := x.cell y c e
   rw [p7 ndP hp hu (by show scope.names.lookup y ≠ _; rw [k]; decide)] at q
   exact q
 ·exact e0.hok.fresh (Nat.le_of_lt (x.above y c (PySem.mem_of_lookup h)))
 ·unfold jF
  show _ = N.length
  rw [List.length_append, List.length_map, List.length_replicate]
  omega
theorem GZ {CX : CXT} {P : Program} {w : World} {K : PySem.W.Frag} {mg : Str → Option Value} {base : Heap} {k : Nat} {f : Addr} {name qual : Str} {params : Arguments} {body : List Stmt} {scope : Scope} {dV kV doc pm cdv ct oc : Value} {an od : Option Addr}
  {osl : Array (Option Value)} {N ps : List Str} {sp : Sp} (lk : K.lookup f = some ⟨oc, od, .func (PySem.W.fnOf name qual params body scope dV kV doc pm an cdv ct), osl⟩) (hcd : PySem.W.codeIn K cdv qual = true) (S : aW N ps scope)
  (len : ∀ vs H Q E, sp vs H Q E → vs.length = ps.length)
  (hbody : ∀ (A : Around) (outer : List Env) (s : Shared) (H : Hp) (vs : List V) (Q : VK) (E : XK), iX k (A.deeper (envOfC qual scope s.heap.objs.size f cdv)) → sp vs H Q E →
   ∃ t, PSs (t4 CX P w K mg base N qual scope f cdv A outer s H E) body t ∧ t { nx := fun _ H' => Q .non H', rt := Q } (jF N vs) H) :
  mX P w K mg base CX (k + 1) f (PySem.W.fnOf name qual params body scope dV kV doc pm an cdv ct) ps sp := by
 refine ⟨len, fun A outer s H args us vs Q E hr e0 hb r hsp => ?_⟩
 have hl := len _ _ _ _ hsp
 have KX : K.In s.heap := e0.mod.kin.keeps fun b o e => (e0.bs b o e).1
 have lim : s.heap.NoLimit := e0.mod.nolimit.keeps fun b o e => (e0.bs b o e).1
 have hkind : ∀ y ∈ ps.zip us, scope.names.lookup y.1 = some .local ∨ (scope.names.lookup y.1 = some .cell ∧ ((cellsFrom (s.heap.objs.size + 1) scope.names []).lookup y.1).isSome = true) := fun ⟨n, v⟩ hy => by
  rcases S.par n (List.of_mem_zip hy).1 with q | q
  ·exact .inl q
  ·exact .inr ⟨q, PySem.W.cellsFrom_some _ _ _ (.inl q)⟩
 refine codeAny_call_function hr.depth (KX _ _ lk) rfl S.co S.gen rfl (PySem.W.codeRec_of KX hcd) (hb _ _ _ _ ?_)
 refine wpAny_newFunctionEnv_cells S.kind hkind fun env he s1 x => ?_
 subst he
 refine ⟨lim.keeps x.toInCall.keep, codeAny_func ?_⟩
 obtain ⟨t, ht, hq⟩ := hbody A outer s H vs Q E (hr.deeper _) hsp
 have I : Inv (t4 CX P w K mg base N qual scope f cdv A outer s H E) [] (jF N vs) H s1 := vR S hr.hd e0 hl r x
 refine wpAny_mono (ht [] s1 (jF N vs) H _ I hq) (fun fl s' hs => ?_) fun e s' hs => hs
 have fin : ∀ {σ' : St} {H' : Hp} {v : V} {u : Value}, Inv (t4 CX P w K mg base N qual scope f cdv A outer s H E) [] σ' H' s' → dk v u → Q v H' → CE outer P w H s Q u s' :=
  fun {σ' H' v u} J rv q => ⟨v, H', J.os, J.bare, J.base, J.hok, rv, q⟩
 cases fl with
 | ret u =>
  obtain ⟨v, σ', H', J, rv, q⟩ := hs
  exact fin J rv q
 | next =>
  obtain ⟨σ', H', J, q⟩ := hs
  exact fin (v := V.non) (u := Value.none) J rfl q
 | brk =>
  obtain ⟨_, _, _, q⟩ := hs
  exact False.elim q
 | cont =>
  obtain ⟨_, _, _, q⟩ := hs
  exact False.elim q
section
variable {X : Cx} {x : Str} {p pos : Pos} {e : Expr} {es : List Expr} {t : TA} {id T : String} {r : List V → Hp → VK → Prop}
noncomputable def tCB (r : List V → Hp → VK → Prop) (t : TA) : TE := fun σ H Q => t σ H fun vs H1 => r vs H1 Q
theorem xX (hc : iP X (.builtin id) r) (hg : Gl X x) (hm : X.mg x = none) (hv : bootBuiltins x = some (.builtin id)) (ha : PA X (e :: es) t) (hn : x ≠ "__name__" := by decide) (hdb : (x == ("__debug__" : Str)) = false := by decide)
  (he : starEach (e :: es) X.env = (false, eval e X.env) :: starEach es X.env := by rfl) (hpl : (backTo pos (starEach es X.env)).any (·.1) = false := by rfl) : PE X (.Call (.Name x p) (e :: es) [] pos) (tCB r t) := by
 intro pins s σ H Q I h
 refine wpAny_Call_Name_kw (lZ I hg hm hv ?_ hn hdb)
 exact PyProof.Rows.callWith_builtin1 (thn (ha pos pins s σ H _ I h) fun us s1 ⟨vs, H1, I1, r1, q1⟩ => hc pins s1 σ H1 vs us Q I1 r1 q1) he hpl
theorem vd (hc : iP X (.type T) r) (hg : Gl X x) (hm : X.mg x = none) (hv : bootBuiltins x = some (.type T)) (ha : PA X (e :: es) t) (hn : x ≠ "__name__" := by decide) (hdb : (x == ("__debug__" : Str)) = false := by decide)
  (he : starEach (e :: es) X.env = (false, eval e X.env) :: starEach es X.env := by rfl) (hpl : (backTo pos (starEach es X.env)).any (·.1) = false := by rfl) : PE X (.Call (.Name x p) (e :: es) [] pos) (tCB r t) := by
 intro pins s σ H Q I h
 refine wpAny_Call_Name_kw (lZ I hg hm hv ?_ hn hdb)
 exact PyProof.Rows.callWith_type1 (thn (ha pos pins s σ H _ I h) fun us s1 ⟨vs, H1, I1, r1, q1⟩ => hc pins s1 σ H1 vs us Q I1 r1 q1) he hpl
end
end L2
namespace HT
open PySem PyProof.Rows
section
variable {prog : Program} {w : World} {A : Around} {E : Value → Shared → Prop} {s : Shared}
theorem cat_tup {t b : Addr} {vs ws : List Value} {Q : Value → Shared → Prop} (ht : IsTup s.heap t vs.toArray) (hb : IsTup s.heap b ws.toArray) (hv : vs ≠ [])
  (h1 : ws = [] → Q (.ref t) s) (h2 : ws ≠ [] → Q (.ref s.heap.objs.size) { s with heap := s.heap.push { cls := .type "tuple", data := .seq (vs ++ ws).toArray } })
  (hsz : vs.length + ws.length ≤ sizeLine) : wpAny (model prog w) A (binaryOp .Add (.ref t) (.ref b)) Q E s := by
 obtain ⟨⟨cls, dd, data, sl⟩, ho, hc, n, hd⟩ := id ht
 obtain ⟨⟨cls2, dd2, data2, sl2⟩, ho2, hc2, n2, hd2⟩ := id hb
 simp only at hc hd hc2 hd2
 subst hc hd hc2 hd2
 have e : vs.toArray ++ ws.toArray = (vs ++ ws).toArray := by simp
 by_cases hw : ws = []
 ·exact concat_meets ⟨_, ho, rfl⟩ ⟨_, ho2, rfl⟩ noFill_tuple_add seq_tuple_add PySem.F.slot_tuple_add PySem.F.entry_tuple_add (PySem.F.args_tuple_add_2 _ _)
   (tuple_addW1 t b vs.toArray ws.toArray n n2 dd dd2 sl sl2 (by simpa using hv) (by simp [hw])) ⟨ho, ho2, h1 hw⟩
 ·refine concat_meets ⟨_, ho, rfl⟩ ⟨_, ho2, rfl⟩ noFill_tuple_add seq_tuple_add PySem.F.slot_tuple_add PySem.F.entry_tuple_add (PySem.F.args_tuple_add_2 _ _)
   (tuple_addW2 t b vs.toArray ws.toArray n n2 dd dd2 sl sl2 (by simpa using hv) (by simpa using hw) (by rw [List.size_toArray, List.size_toArray]; exact hsz)) ⟨ho, ho2, ?_⟩
  rw [e]
  exact h2 hw
noncomputable def sIx (n d : Nat) : Option Int → Nat
 | none => d
 | some v => if v < 0 then (v + (n : Int)).toNat else min v.toNat n
theorem sIx_none (n d : Nat) : sIx n d none = d := rfl
theorem sIx_nat (n d k : Nat) : sIx n d (some (k : Int)) = min k n := by
 show (if (k : Int) < 0 then ((k : Int) + (n : Int)).toNat else min (k : Int).toNat n) = min k n
 rw [if_neg (by omega), Int.toNat_natCast]
theorem C7 (n d : Nat) (hd : d ≤ n) (o : Option Int) : sIx n d o ≤ n := by
 cases o with
 | none => exact hd
 | some v =>
  show (if v < 0 then (v + (n : Int)).toNat else min v.toNat n) ≤ n
  by_cases hv : v < 0
  ·rw [if_pos hv]; omega
  ·rw [if_neg hv]; exact Nat.min_le_right _ _
theorem wG (v : Int) (n d : Nat) : (if v < 0 then max (v + (n : Int)) 0 else min v (n : Int)) = ((sIx n d (some v) : Nat) : Int) := by
 show (if v < 0 then max (v + (n : Int)) 0 else min v (n : Int)) = (((if v < 0 then (v + (n : Int)).toNat else min v.toNat n) : Nat) : Int)
 by_cases hv : v < 0
 ·simp only [if_pos hv]; omega
 ·simp only [if_neg hv]; omega
theorem tP (lo hi : Option Int) (n : Nat) : Builtin.Slice.sliceAdjust lo hi 1 (n : Int) = (((sIx n 0 lo : Nat) : Int), ((sIx n n hi : Nat) : Int)) := by
 have h1 : ¬ ((1 : Int) < 0) := by omega
 unfold Builtin.Slice.sliceAdjust
 simp only [h1, if_false]
 refine Prod.ext ?_ ?_
 ·cases lo with
  | none => rfl
  | some v => exact wG v n 0
 ·cases hi with
  | none => rfl
  | some v => exact wG v n n
theorem sS (i j : Nat) : Builtin.Slice.slicePlaces (i : Int) (j : Int) 1 = j - i := by
 unfold Builtin.Slice.slicePlaces
 have h1 : (1 : Int) > 0 := by omega
 simp only [h1, if_true, Int.ediv_one]
 split <;> omega
theorem nA {v : Value} {o : Option Int} {Q : Option Int → Shared → Prop} (p : IsPart v o) (h : Q o s) : wpAny (model prog w) A (Builtin.Slice.slicePartIndex v) Q E s := by
 cases p with
 | none => exact slicePart_none h
 | int i t => exact slicePart_int h
theorem kL {sl : Addr} {vl vu : Value} {lo hi : Option Int} {n : Nat} {Q : Int × Int × Nat → Shared → Prop} (hs : s.heap.IsSliceOf sl vl vu .none) (pl : IsPart vl lo) (pu : IsPart vu hi)
  (h : Q (((sIx n 0 lo : Nat) : Int), 1, sIx n n hi - sIx n 0 lo) s) : wpAny (model prog w) A (Builtin.Slice.sliceApplied (.ref sl) (pure (n : Int))) Q E s := by
 obtain ⟨os, hos, hcs, hds⟩ := id hs
 unfold Builtin.Slice.sliceApplied Builtin.Slice.sliceFields
 refine wpAny_bind (wpAny_bind (wpAny_field hos hds (x := vl) rfl (wpAny_bind (wpAny_field hos hds (x := vu) rfl (wpAny_bind (wpAny_field hos hds (x := .none) rfl (wpAny_pure ?_)))))))
 refine wpAny_bind (slicePart_none ?_)
 show wpAny _ _ (if ((1 : Int) == 0) = true then _ else _) _ _ s
 rw [if_neg (by decide)]
 refine wpAny_bind (nA pl (wpAny_bind (nA pu (wpAny_bind (wpAny_pure ?_)))))
 show wpAny _ _ (match Builtin.Slice.sliceAdjust lo hi 1 (n : Int) with | (lo, hi) => pure (lo, (1 : Int), Builtin.Slice.slicePlaces lo hi 1)) _ _ s
 rw [tP lo hi n]
 show wpAny _ _ (pure (((sIx n 0 lo : Nat) : Int), (1 : Int), Builtin.Slice.slicePlaces ((sIx n 0 lo : Nat) : Int) ((sIx n n hi : Nat) : Int) 1)) _ _ s
 rw [sS]
 exact wpAny_pure h
theorem xO (xs : Array Value) (i k : Nat) : ((List.range k).filterMap fun (m : Nat) => xs[((i : Int) + (m : Int) * 1).toNat]?).toArray = ((xs.toList.drop i).take k).toArray := by
 have e : (fun (m : Nat) => xs[((i : Int) + (m : Int) * 1).toNat]?) = fun m => xs[i + m]? := by
  funext m
  have : ((i : Int) + (m : Int) * 1).toNat = i + m := by omega
  rw [this]
 rw [e]
 have := pick_run xs i k
 rw [List.filterMap_map] at this
 have e2 : ((fun x => xs[x]?) ∘ fun x => i + x) = fun m => xs[i + m]? := rfl
 rw [e2] at this
 rw [this]
theorem getItem_tuple_cut {t sl : Addr} {items : Array Value} {vl vu : Value} {lo hi : Option Int} {Q : Value → Shared → Prop} (ht : IsTup s.heap t items) (hs : s.heap.IsSliceOf sl vl vu .none) (pl : IsPart vl lo) (pu : IsPart vu hi)
  (hw : ¬ (sIx items.size 0 lo = 0 ∧ sIx items.size items.size hi = items.size))
  (h : Q (.ref s.heap.objs.size) { s with heap := s.heap.push { cls := .type "tuple", data := .seq ((items.toList.drop (sIx items.size 0 lo)).take (sIx items.size items.size hi - sIx items.size 0 lo)).toArray } })
  (hsz : items.size ≤ sizeLine) : wpAny (model prog w) A (getItem (.ref t) (.ref sl)) Q E s := by
 have htake : sizeOk (.seq ((items.toList.drop (sIx items.size 0 lo)).take (sIx items.size items.size hi - sIx items.size 0 lo)).toArray) := by
  show ((items.toList.drop (sIx items.size 0 lo)).take (sIx items.size items.size hi - sIx items.size 0 lo)).toArray.size ≤ sizeLine
  rw [List.size_toArray, List.length_take, List.length_drop, Array.length_toList]
  omega
 have hj : sIx items.size items.size hi ≤ items.size := C7 _ _ (Nat.le_refl _) hi
 obtain ⟨os, hos, hcs, hds⟩ := id hs
 have hTs : s.TypeIs (.ref sl) "slice" := ⟨os, hos, hcs⟩
 unfold getItem
 try with_reducible refine wpAny_holding ?_
 first | refine wpAny_bind (wpAny_pure ?_) | skip
 refine wpAny_bind (wpAny_sequenceKey ht.typeIs (by decide) ?_)
 refine wpAny_bind (wpAny_callSpecial?_slot (name := Str.ofString "__getitem__") ht.typeIs PyProof.Rows.slot_tuple_getitem
  (wpAny_call_entry PyProof.Rows.slot_tuple_getitem ht.typeIs entry_tuple_getitem ?_ (args_tuple_getitem _ _)))
 show wpAny _ _ (Builtin.Tuple.tupleItemsOf (.ref t) >>= _) _ _ s
 refine wpAny_bind (tupleItemsOf_ ht ?_)
 refine wpAny_bind (wpAny_typeOf hTs ?_)
 rw [if_pos (by decide)]
 refine wpAny_bind (kL hs pl pu ?_)
 have hno : ¬ ((((sIx items.size 0 lo : Nat) : Int) == 0 && (1 : Int) == 1 && (sIx items.size items.size hi - sIx items.size 0 lo) == items.size) = true) := by
  intro q
  rw [Bool.and_eq_true, Bool.and_eq_true] at q
  have q1 : ((sIx items.size 0 lo : Nat) : Int) = 0 := eq_of_beq q.1.1
  have q2 : sIx items.size items.size hi - sIx items.size 0 lo = items.size := eq_of_beq q.2
  exact hw ⟨by omega, by omega⟩
 show wpAny _ _ (if (((sIx items.size 0 lo : Nat) : Int) == 0 && (1 : Int) == 1 && (sIx items.size items.size hi - sIx items.size 0 lo) == items.size) = true then _ else _) _ _ s
 rw [if_neg hno, xO]
 first
  | exact wpAny_bind (m := Builtin.Tuple.tupleExact _) (wpAny_newObj_type (wpAny_pure ⟨_, rfl, wpAny_pure h⟩) htake)
  | exact wpAny_bind (m := Builtin.Tuple.tupleExact _) (wpAny_newObj_type (wpAny_bind (wpAny_pure (wpAny_pure ⟨_, rfl, wpAny_pure h⟩))) htake)
  | exact wpAny_bind (wpAny_bind (m := Builtin.Tuple.tupleExact _) (wpAny_newObj_type (wpAny_pure (wpAny_pure ⟨_, rfl, wpAny_pure h⟩)) htake))
  | exact wpAny_bind (wpAny_bind (m := Builtin.Tuple.tupleExact _) (wpAny_newObj_type (wpAny_pure ⟨_, rfl, wpAny_pure h⟩) htake))
end
end HT
namespace L2
open PySem PySem.Spec PyProof.Rows
noncomputable abbrev TO := St → Hp → (Option Int → Hp → Prop) → Prop
noncomputable def PO (X : Cx) (e : Option Expr) (t : TO) : Prop :=
 ∀ (pins : List (Addr × Obj)) (s : Shared) (σ : St) (H : Hp) (Q : Option Int → Hp → Prop), Inv X pins σ H s → t σ H Q →
  wpAny (model X.prog X.w) X.A (evalPart e X.env) (fun u s' => ∃ o H', Inv X pins σ H' s' ∧ IsPart u o ∧ Q o H') X.xe s
noncomputable def uJ : TO := fun _ H Q => Q none H
noncomputable def CU (t : TE) : TO := fun σ H Q => t σ H fun x H1 => ∃ i, x = .int i ∧ Q (some i) H1
section
variable {X : Cx} {e : Expr} {te : TE} {lo hi : Option Expr} {tl th : TO} {pos p2 : Pos}
theorem AS : PO X none uJ := by
 intro pins s σ H Q I h
 rw [evalPart_none]
 exact wpAny_pure ⟨none, H, I, .none, h⟩
theorem AR (h : PE X e te) : PO X (some e) (CU te) := by
 intro pins s σ H Q I hw
 rw [evalPart_some]
 refine thn (h pins s σ H _ I hw) fun u s1 hz => ?_
 obtain ⟨x, H1, I1, r1, q1⟩ := hz
 obtain ⟨i, rfl, q⟩ := q1
 obtain ⟨t, rfl⟩ := r1
 exact ⟨some i, H1, I1, .int i t, q⟩
noncomputable def SlR (X : Cx) (r : V → Option Int → Option Int → Hp → VK → Prop) : Prop :=
 ∀ (pins : List (Addr × Obj)) (s : Shared) (σ : St) (H : Hp) (x : V) (v vl vu : Value) (lo hi : Option Int) (sl : Addr) (Q : VK), Inv X pins σ H s → dk x v → s.heap.IsSliceOf sl vl vu .none → IsPart vl lo → IsPart vu hi → r x lo hi H Q →
  ∃ T id, typeLookup (.type T) "__getitem__" = pure (some (.builtin id)) ∧ s.TypeIs v T ∧ wpAny (model X.prog X.w) X.A (getItem v (.ref sl)) (EP X pins σ Q) X.xe s
theorem SlR.or {r r' : V → Option Int → Option Int → Hp → VK → Prop} (h : SlR X r) (h' : SlR X r') : SlR X (fun x lo hi H Q => r x lo hi H Q ∨ r' x lo hi H Q) := by
 intro pins s σ H x v vl vu lo hi sl Q I rx hs pl pu q
 rcases q with q | q
 ·exact h pins s σ H x v vl vu lo hi sl Q I rx hs pl pu q
 ·exact h' pins s σ H x v vl vu lo hi sl Q I rx hs pl pu q
noncomputable def tSl (r : V → Option Int → Option Int → Hp → VK → Prop) (te : TE) (tl th : TO) : TE := fun σ H Q => te σ H fun x H1 => tl σ H1 fun l H2 => th σ H2 fun u H3 => r x l u H3 Q
theorem xQ {r : V → Option Int → Option Int → Hp → VK → Prop} (hr : SlR X r) (he : PE X e te) (hl : PO X lo tl) (hu : PO X hi th) : PE X (.Subscript e (.Slice lo hi none p2) pos) (tSl r te tl th) := by
 intro pins s σ H Q I h
 refine Subscript_ (thn (he pins s σ H _ I h) fun v s1 hz => ?_)
 obtain ⟨x, H1, I1, r1, q1⟩ := hz
 refine wpAny_Slice (thn (hl pins s1 σ H1 _ I1 q1) fun vl s2 ⟨l, H2, I2, pl, q2⟩ => thn (hu pins s2 σ H2 _ I2 q2) fun vu s3 hz => ?_)
 obtain ⟨u, H3, I3, pu, q3⟩ := hz
 rw [evalPart_none]
 refine wpAny_pure ?_
 have I4 : Inv X pins σ H3 { s3 with heap := s3.heap.push { cls := .type "slice", data := .fields #[vl, vu, .none] } } := I3.kept (t' := s3.toks) fun b ob q => Heap.get?_push_of_some _ q
 obtain ⟨T, id, hT, ht, hg⟩ := hr pins { s3 with heap := s3.heap.push { cls := .type "slice", data := .fields #[vl, vu, .none] } } σ H3 x v vl vu l u s3.heap.objs.size Q I4 r1 (Heap.IsSliceOf.new ..) pl pu q3
 show wpAny (model X.prog X.w) X.A (subscriptTail e (.Slice lo hi none p2) v (.ref s3.heap.objs.size)) (EP X pins σ Q) X.xe { s3 with heap := s3.heap.push { cls := .type "slice", data := .fields #[vl, vu, .none] } }
 exact tail_any (ops := [.ref s3.heap.objs.size, v]) ht hT hg (by with_unfolding_all rfl)
noncomputable def wD (xs : List V) (lo hi : Option Int) : List V := (xs.drop (HT.sIx xs.length 0 lo)).take (HT.sIx xs.length xs.length hi - HT.sIx xs.length 0 lo)
theorem mH (xs : List V) (lo hi : Option Int) : (wD xs lo hi).length ≤ xs.length := by
 unfold wD
 rw [List.length_take, List.length_drop]
 omega
noncomputable def Iu (K : PySem.W.Frag) : V → Option Int → Option Int → Hp → VK → Prop := fun x lo hi H Q => ∃ a xs, x = .ref a ∧ SqT K H a xs ∧
 ¬ (HT.sIx xs.length 0 lo = 0 ∧ HT.sIx xs.length xs.length hi = xs.length) ∧ ∀ p, H p = none → Q (.ref p) (upd H p (.tup (wD xs lo hi)))
theorem zm : SlR X (Iu X.K) := by
 intro pins s σ H x v vl vu lo hi sl Q I rx hs pl pu h
 obtain ⟨a, xs, rfl, hx, hw, q⟩ := h
 cases rx
 obtain ⟨its, r, ht, hz⟩ := I.tuple hx
 have gW : its.toArray.size = xs.length := by rw [List.size_toArray]; exact r.length.symm
 refine ⟨"tuple", _, PyProof.Rows.slot_tuple_getitem.lookup, ht.typeIs, ?_⟩
 refine HT.getItem_tuple_cut ht hs pl pu (by rw [gW]; exact hw) ?_ (by rw [gW]; exact hz)
 rw [gW]
 refine ⟨.ref s.heap.objs.size, _, I.laid (t' := s.toks) (o := .tup (wD xs lo hi)) (fun b ob q => Heap.get?_push_of_some _ q) (Nat.le_refl _) ?_, rfl, q _ (I.hok.fresh (Nat.le_refl _))⟩
 exact ⟨Nat.le_trans (mH xs lo hi) hz, _, (r.drop (HT.sIx xs.length 0 lo)).take (HT.sIx xs.length xs.length hi - HT.sIx xs.length 0 lo), IsTup.new _ _⟩
noncomputable def Gi (K : PySem.W.Frag) : R2 := fun x y H Q => ∃ a b xs ys, x = .ref a ∧ y = .ref b ∧ SqT K H a xs ∧ SqT K H b ys ∧ xs ≠ [] ∧ xs.length + ys.length ≤ sizeLine ∧
 (ys = [] → Q (.ref a) H) ∧ (ys ≠ [] → ∀ p, H p = none → Q (.ref p) (upd H p (.tup (xs ++ ys))))
theorem cL.nil_iff {xs : List V} {us : List Value} (r : cL xs us) : us = [] ↔ xs = [] := by
 cases r with
 | nil => simp
 | cons _ _ => simp
theorem Bb : OpR X (binaryOp .Add) (Gi X.K) := by
 intro pins s σ H x y v u Q I rx ry h
 obtain ⟨a, b, xs, ys, rfl, rfl, ha, hb, hx, hz, q1, q2⟩ := h
 cases rx
 cases ry
 obtain ⟨its, r1, p1, _⟩ := I.tuple ha
 obtain ⟨its2, r2, p2, _⟩ := I.tuple hb
 refine HT.cat_tup p1 p2 (fun z => hx (r1.nil_iff.mp z)) (fun z => ⟨.ref a, H, I, rfl, q1 (r2.nil_iff.mp z)⟩) (fun z => ?_) (by rw [← r1.length, ← r2.length]; exact hz)
 refine ⟨.ref s.heap.objs.size, _, I.laid (t' := s.toks) (o := .tup (xs ++ ys)) (fun b ob q => Heap.get?_push_of_some _ q) (Nat.le_refl _) ?_, rfl, q2 (fun w => z (r2.nil_iff.mpr w)) _ (I.hok.fresh (Nat.le_refl _))⟩
 exact ⟨by rw [List.length_append]; exact hz, _, r1.append r2, IsTup.new _ _⟩
end
noncomputable def ixN (n : Nat) (i : Int) : Option Nat := if 0 ≤ i then (if i < n then some i.toNat else none) else if -(n : Int) ≤ i then some (i + n).toNat else none
noncomputable def atI {α : Type} (xs : List α) (i : Int) : Option α := (ixN xs.length i).bind fun j => xs[j]?
theorem vL {n : Nat} {i : Int} {j : Nat} (h : ixN n i = some j) : seqIndex? i n = some j ∧ j < n ∧ -(n : Int) ≤ i ∧ i < n := by
 unfold ixN at h
 by_cases h0 : 0 ≤ i
 ·rw [if_pos h0] at h
  by_cases h1 : i < n
  ·rw [if_pos h1] at h
   have e : i.toNat = j := Option.some.inj h
   exact ⟨by rw [seqIndex_of h0 h1, e], by omega, by omega, h1⟩
  ·rw [if_neg h1] at h; cases h
 ·rw [if_neg h0] at h
  by_cases h1 : -(n : Int) ≤ i
  ·rw [if_pos h1] at h
   have e : (i + n).toNat = j := Option.some.inj h
   exact ⟨by rw [seqIndex_neg (by omega) h1, e], by omega, h1, by omega⟩
  ·rw [if_neg h1] at h; cases h
theorem wU {α : Type} {xs : List α} {i : Int} {v : α} (h : atI xs i = some v) : ∃ j, seqIndex? i xs.length = some j ∧ xs[j]? = some v ∧ j < xs.length ∧ -(xs.length : Int) ≤ i ∧ i < xs.length := by
 unfold atI at h
 cases e : ixN xs.length i with
 | none => rw [e] at h; cases h
 | some j =>
  rw [e] at h
  obtain ⟨h1, h2, h3, h4⟩ := vL e
  exact ⟨j, h1, h, h2, h3, h4⟩
theorem cS {α : Type} {xs : List α} {j : Nat} {v : α} (h : xs[j]? = some v) : atI xs (j : Int) = some v := by
 have hj : j < xs.length := (List.getElem?_eq_some_iff.mp h).1
 have e : ixN xs.length (j : Int) = some j := by
  unfold ixN
  rw [if_pos (by omega), if_pos (by omega)]; simp
 unfold atI; rw [e]; exact h
noncomputable def qU (b : Expr) : Prop := ∀ o i, subscripted b false o i = operate [o, i] (getItem o i)
noncomputable def IxR (X : Cx) (r : R2) : Prop :=
 ∀ (value slice : Expr) (pins : List (Addr × Obj)) (s : Shared) (σ : St) (H : Hp) (x y : V) (v u : Value) (Q : VK), Inv X pins σ H s → dk x v → dk y u → r x y H Q →
  subscripted slice false v u = operate [v, u] (getItem v u) → wpAny (model X.prog X.w) X.A (subscriptTail value slice v u) (EP X pins σ Q) X.xe s
noncomputable def MtR (X : Cx) (id : String) (r : V → List V → Hp → VK → Prop) : Prop :=
 ∀ (pins : List (Addr × Obj)) (s : Shared) (σ : St) (H : Hp) (x : V) (xs : List V) (v : Value) (us : List Value) (Q : VK), Inv X pins σ H s → dk x v → cL xs us → r x xs H Q →
  wpAny (model X.prog X.w) X.A (call (.builtin id) (v :: us)) (EP X pins σ Q) X.xe s
section
variable {X : Cx} {a b : Expr} {ta tb : TE} {pos : Pos}
theorem IxR.or {r r' : R2} (h : IxR X r) (h' : IxR X r') : IxR X (fun x y H Q => r x y H Q ∨ r' x y H Q) := by
 intro value slice pins s σ H x y v u Q I rx ry q hs
 rcases q with q | q
 ·exact h value slice pins s σ H x y v u Q I rx ry q hs
 ·exact h' value slice pins s σ H x y v u Q I rx ry q hs
theorem Gu {r : R2} (hr : IxR X r) (ha : PE X a ta) (hb : PE X b tb) (hs : qU b) : PE X (.Subscript a b pos) (tOp r ta tb) := by
 intro pins s σ H Q I h
 exact Subscript_ (Hc ha hb I h fun v u s2 x y H2 I2 rx ry q => hr a b pins s2 σ H2 x y v u Q I2 rx ry q (hs _ _))
noncomputable def IA (K : PySem.W.Frag) : R2 := fun x y H Q => ∃ p xs i v, x = .ref p ∧ y = .int i ∧ SqL K H p xs ∧ atI xs i = some v ∧ Q v H
noncomputable def Iy (K : PySem.W.Frag) : R2 := fun x y H Q => ∃ p xs i v, x = .ref p ∧ y = .int i ∧ SqT K H p xs ∧ atI xs i = some v ∧ Q v H
theorem Bo : IxR X (IA X.K) := by
 intro value slice pins s σ H x y v u Q I rx ry h hs
 obtain ⟨p, xs, i, z, rfl, rfl, hq, he, q⟩ := h
 cases rx
 obtain ⟨t, rfl⟩ := ry
 obtain ⟨its, r, pl, hz⟩ := I.list hq
 obtain ⟨j, h1, h2, h3, h4, h5⟩ := wU he
 obtain ⟨w, ew, rw'⟩ := r.get h2
 have hl := r.length
 have hn := rJ
 have fin : EP X pins σ Q w s := ⟨z, H, I, rw', q⟩
 by_cases h0 : 0 ≤ i
 ·have hj : i.toNat = j := by
   rw [seqIndex_of h0 h5] at h1
   exact Option.some.inj h1
  exact item_listR pl.isList h0 (by omega) (by rw [hj]; simpa using ew) fin hs
 ·have hj : (i + (its.toArray.size : Int)).toNat = j := by
   rw [seqIndex_neg (by omega) h4] at h1
   rw [List.size_toArray, ← hl]
   exact Option.some.inj h1
  exact subscriptTail_builtinR (x := w) pl.isList.typeIs slot_list_getitem.lookup
   (wpAny_getItem_list_neg (Q := fun r s' => r = w ∧ EP X pins σ Q r s') pl.isList (by omega) (by rw [List.size_toArray] <;> omega) (by omega) (by rw [hj]; simpa using ew) ⟨rfl, fin⟩) hs
theorem D7 : IxR X (Iy X.K) := by
 intro value slice pins s σ H x y v u Q I rx ry h hs
 obtain ⟨p, xs, i, z, rfl, rfl, hq, he, q⟩ := h
 cases rx
 obtain ⟨t, rfl⟩ := ry
 obtain ⟨its, r, pl, hz⟩ := I.tuple hq
 obtain ⟨j, h1, h2, h3, h4, h5⟩ := wU he
 obtain ⟨w, ew, rw'⟩ := r.get h2
 have hl := r.length
 have hn := rJ
 have fin : EP X pins σ Q w s := ⟨z, H, I, rw', q⟩
 exact subscriptTail_builtinR (x := w) pl.typeIs slot_tuple_getitem.lookup
  (getItem_tuple (j := j) (Q := fun r s' => r = w ∧ EP X pins σ Q r s') pl (by omega) (by omega) (by rw [List.size_toArray, ← hl]; exact h1) (by simpa using ew) ⟨rfl, fin⟩) hs
theorem sU (its : List Value) (n j : Nat) (u : Value) : Obj.mapSeq (·.setIfInBounds j u) { cls := .type "list", data := .seq its.toArray n } = { cls := .type "list", data := .seq (its.set j u).toArray n } := by
 simp [Obj.mapSeq]
theorem Inv.lst {pins : List (Addr × Obj)} {σ : St} {H : Hp} {s : Shared} {p : Addr} {xs : List V} (I : Inv X pins σ H s) (h : H p = some (.lst xs)) :
  ∃ (its : List Value) (n : Nat), cL xs its ∧ s.heap.get? p = some { cls := .type "list", data := .seq its.toArray n } ∧ xs.length ≤ sizeLine := by
 obtain ⟨z, its, n, r, e⟩ := I.hok p _ h
 exact ⟨its, n, r, e, z⟩
theorem Inv.lstUpd {pins : List (Addr × Obj)} {σ : St} {H : Hp} {s : Shared} {p : Addr} {xs ys : List V} {its its' : List Value} {n n' : Nat} {f : Obj → Obj} (I : Inv X pins σ H s) (h : H p = some (.lst xs))
  (ho : s.heap.get? p = some { cls := .type "list", data := .seq its.toArray n }) (hf : f { cls := .type "list", data := .seq its.toArray n } = { cls := .type "list", data := .seq its'.toArray n' }) (r : cL ys its') (hz : ys.length ≤ sizeLine) (t : Nat) :
  Inv X pins σ (upd H p (.lst ys)) { s with heap := s.heap.update p f, toks := t } := by
 have e : (s.heap.update p f).get? p = some { cls := .type "list", data := .seq its'.toArray n' } := by
  rw [Heap.get?_update_self f ho (by rw [hf] <;> rfl), hf]
 refine I.write (x := p) (e := p) (by rw [h]; trivial) (.inl rfl) (fun b u hb q => (Heap.get?_update_other _ _ (Ne.symm hb)).trans q) ⟨_, e⟩ ?_
 exact ⟨hz, its', n', r, e⟩
noncomputable def Gg : V → V → V → Hp → (Hp → Prop) → Prop := fun o i v H Q => ∃ p xs k j, o = .ref p ∧ i = .int k ∧ H p = some (.lst xs) ∧ ixN xs.length k = some j ∧ Q (upd H p (.lst (xs.set j v)))
theorem xC : Hh X Gg := by
 intro pins s σ H o i v ov iv u Q I ro ri rv h
 obtain ⟨p, xs, k, j, rfl, rfl, hp, hj, q⟩ := h
 cases ro
 obtain ⟨t, rfl⟩ := ri
 obtain ⟨its, n, r, ho, hz⟩ := I.lst hp
 obtain ⟨h1, h2, h3, h4⟩ := vL hj
 have hl := r.length
 have hn := rJ
 have I' : Inv X pins σ (upd H p (.lst (xs.set j v))) { s with heap := s.heap.update p (Obj.mapSeq (·.setIfInBounds j u)) } :=
  I.lstUpd hp ho (sU its n j u) (r.set rv j) (by rw [List.length_set]; exact hz) s.toks
 by_cases h0 : 0 ≤ k
 ·have hk : k.toNat = j := by
   rw [seqIndex_of h0 h4] at h1
   exact Option.some.inj h1
  exact PySem.W.ki_setAt ho h0 (by omega) (by rw [List.size_toArray, ← hl]; exact h4) (by rw [hk]; exact ⟨_, I', q⟩)
 ·have hk : (k + (its.toArray.size : Int)).toNat = j := by
   rw [seqIndex_neg (by omega) h3] at h1
   rw [List.size_toArray, ← hl]
   exact Option.some.inj h1
  exact PySem.W.ki_setBack ho (by omega) (by rw [List.size_toArray, ← hl]; exact h3) (by omega) (by rw [hk]; exact ⟨_, I', q⟩)
theorem pd (lo hi : Option Int) (n : Nat) : (sliceBounds lo hi none n).1 = ((HT.sIx n 0 lo : Nat) : Int) ∧ (sliceBounds lo hi none n).2.1 = ((HT.sIx n n hi : Nat) : Int) ∧ (sliceBounds lo hi none n).2.2 = 1 := by
 refine ⟨?_, ?_, rfl⟩
 ·cases lo with
  | none => simp [sliceBounds, HT.sIx]
  | some i =>
   simp only [sliceBounds, HT.sIx, Option.getD_none, show (1 : Int) > 0 by decide, if_true]
   by_cases h : i < 0
   ·simp only [h, if_true] <;> omega
   ·simp only [h, if_false] <;> omega
 ·cases hi with
  | none => simp [sliceBounds, HT.sIx]
  | some i =>
   simp only [sliceBounds, HT.sIx, Option.getD_none, show (1 : Int) > 0 by decide, if_true]
   by_cases h : i < 0
   ·simp only [h, if_true] <;> omega
   ·simp only [h, if_false] <;> omega
theorem nV (its : List Value) (lo hi : Option Int) : slicePick its.toArray lo hi none = ((its.drop (HT.sIx its.length 0 lo)).take (HT.sIx its.length its.length hi - HT.sIx its.length 0 lo)).toArray := by
 obtain ⟨h1, h2, h3⟩ := pd lo hi its.toArray.size
 unfold slicePick
 rw [h1, h2, h3]
 simp only [sliceRange_one, pick_run, List.size_toArray] <;> rfl
noncomputable def Iw (K : PySem.W.Frag) : V → Option Int → Option Int → Hp → VK → Prop := fun x lo hi H Q => ∃ a xs, x = .ref a ∧ SqL K H a xs ∧ ∀ p, H p = none → Q (.ref p) (upd H p (.lst (wD xs lo hi)))
theorem uN : SlR X (Iw X.K) := by
 intro pins s σ H x v vl vu lo hi sl Q I rx hs pl pu h
 obtain ⟨a, xs, rfl, hx, q⟩ := h
 cases rx
 obtain ⟨its, r, ht, hz⟩ := I.list hx
 have gW := r.length
 refine ⟨"list", _, slot_list_getitem.lookup, ht.isList.typeIs, ?_⟩
 refine wpAny_getItem_list_slice ht.isList hs pl pu .none (by simp) ?_ (by rw [List.size_toArray] <;> omega)
 rw [nV, ← gW]
 refine ⟨.ref s.heap.objs.size, _, I.laid (t' := s.toks) (o := .lst (wD xs lo hi)) (fun b ob q => Heap.get?_push_of_some _ q) (Nat.le_refl _) ?_, rfl, q _ (I.hok.fresh (Nat.le_refl _))⟩
 exact ⟨Nat.le_trans (mH xs lo hi) hz, _, 0, (r.drop (HT.sIx xs.length 0 lo)).take (HT.sIx xs.length xs.length hi - HT.sIx xs.length 0 lo), Heap.get?_push_size _ rfl⟩
noncomputable def ng : V → Bool
 | .non => true
 | .bl _ => true
 | .int _ => true
 | .str _ => true
 | _ => false
noncomputable def eqV : V → V → Bool
 | .non, .non => true
 | .bl a, .bl b => a == b
 | .bl a, .int b => (if a then 1 else 0) == b
 | .int a, .bl b => a == (if b then 1 else 0)
 | .int a, .int b => a == b
 | .str a, .str b => a == b
 | _, _ => false
theorem Es {A : Around} {s : Shared} {y x : V} {u v : Value} (ry : dk y u) (rx : dk x v) (fy : ng y = true) (fx : ng x = true) : SeqAt.EqAt A s u v (eqV y x) := by
 cases y with
 | non =>
  cases ry
  cases x with
  | non => cases rx; exact SeqAt.EqAt.same _
  | bl b => cases rx; exact SeqAt.EqAt.none_bool b
  | int b => obtain ⟨t, rfl⟩ := rx; exact SeqAt.EqAt.none_int b t
  | str b => obtain ⟨t, rfl⟩ := rx; exact SeqAt.EqAt.none_str b t
  | _ => exact absurd (show false = true from fx) Bool.false_ne_true
 | bl a =>
  cases ry
  cases x with
  | non => cases rx; exact SeqAt.EqAt.bool_none a
  | bl b => cases rx; exact SeqAt.EqAt.bool_bool a b
  | int b => obtain ⟨t, rfl⟩ := rx; exact SeqAt.EqAt.bool_int a b t
  | str b => obtain ⟨t, rfl⟩ := rx; exact SeqAt.EqAt.bool_str a b t
  | _ => exact absurd (show false = true from fx) Bool.false_ne_true
 | int a =>
  obtain ⟨t', rfl⟩ := ry
  cases x with
  | non => cases rx; exact SeqAt.EqAt.int_none a t'
  | bl b => cases rx; exact SeqAt.EqAt.int_bool a t' b
  | int b => obtain ⟨t, rfl⟩ := rx; exact SeqAt.EqAt.int_int a t' b t
  | str b => obtain ⟨t, rfl⟩ := rx; exact SeqAt.EqAt.int_str a t' b t
  | _ => exact absurd (show false = true from fx) Bool.false_ne_true
 | str a =>
  obtain ⟨t', rfl⟩ := ry
  cases x with
  | non => cases rx; exact SeqAt.EqAt.str_none a t'
  | bl b => cases rx; exact SeqAt.EqAt.str_bool a t' b
  | int b => obtain ⟨t, rfl⟩ := rx; exact SeqAt.EqAt.str_int a t' b t
  | str b => obtain ⟨t, rfl⟩ := rx; exact SeqAt.EqAt.str_str a t' b t
  | _ => exact absurd (show false = true from fx) Bool.false_ne_true
 | _ => exact absurd (show false = true from fy) Bool.false_ne_true
noncomputable def eqU (x : V) (u : Value) : Bool := match u with
 | .none => eqV .non x
 | .bool b => eqV (.bl b) x
 | .int i _ => eqV (.int i) x
 | .str z _ => eqV (.str z) x
 | _ => false
theorem zH {x y : V} {u : Value} (r : dk y u) (f : ng y = true) : eqU x u = eqV y x := by
 cases y with
 | non => cases r; rfl
 | bl b => cases r; rfl
 | int i => obtain ⟨t, rfl⟩ := r; rfl
 | str z => obtain ⟨t, rfl⟩ := r; rfl
 | _ => exact absurd (show false = true from f) Bool.false_ne_true
theorem mR {x : V} : ∀ {xs : List V} {us : List Value}, cL xs us → xs.all ng = true → us.any (eqU x) = xs.any fun y => eqV y x
 | _, _, .nil, _ => rfl
 | y :: xs, u :: us, .cons r t, f => by
  rw [List.all_cons, Bool.and_eq_true] at f
  rw [List.any_cons, List.any_cons, zH r f.1, mR t f.2]
theorem jM {A : Around} {s : Shared} {x : V} {v : Value} (rx : dk x v) (fx : ng x = true) : ∀ {xs : List V} {us : List Value}, cL xs us → xs.all ng = true → ∀ u ∈ us, SeqAt.EqAt A s u v (eqU x u)
 | _, _, .nil, _ => fun u hu => by cases hu
 | y :: xs, u :: us, .cons r t, f => fun u' hu => by
  rw [List.all_cons, Bool.and_eq_true] at f
  rcases List.mem_cons.mp hu with rfl | hu
  ·rw [zH r f.1]; exact Es r rx f.1 fx
  ·exact jM rx fx t f.2 u' hu
noncomputable def inV (x : V) (xs : List V) : Bool := xs.any fun y => eqV y x
noncomputable def rIn (K : PySem.W.Frag) (neg : Bool) : R2 := fun x y H Q => ∃ p xs, y = .ref p ∧ (SqL K H p xs ∨ SqT K H p xs) ∧ ng x = true ∧ xs.all ng = true ∧ Q (.bl (if neg then !inV x xs else inV x xs)) H
theorem pA : OpR X (compareOp .In) (rIn X.K false) := by
 intro pins s σ H x y v u Q I rx ry h
 obtain ⟨p, xs, rfl, hq, fx, fs, q⟩ := h
 cases ry
 rcases hq with hq | hq
 ·obtain ⟨its, r, pl, hz⟩ := I.list hq
  refine SeqAt.in_listAt (eqU x) pl.isList (fun w hw => jM rx fx r fs w (by simpa using hw)) ⟨.bl _, H, I, rfl, ?_⟩
  rw [show its.toArray.any (eqU x) = its.any (eqU x) by simp, mR r fs]
  exact q
 ·obtain ⟨its, r, pl, hz⟩ := I.tuple hq
  refine SeqAt.in_tupleAt (eqU x) pl (fun w hw => jM rx fx r fs w (by simpa using hw)) ⟨.bl _, H, I, rfl, ?_⟩
  rw [show its.toArray.any (eqU x) = its.any (eqU x) by simp, mR r fs]
  exact q
theorem kC : OpR X (compareOp .NotIn) (rIn X.K true) := by
 intro pins s σ H x y v u Q I rx ry h
 obtain ⟨p, xs, rfl, hq, fx, fs, q⟩ := h
 cases ry
 rcases hq with hq | hq
 ·obtain ⟨its, r, pl, hz⟩ := I.list hq
  refine SeqAt.notIn_listAt (eqU x) pl.isList (fun w hw => jM rx fx r fs w (by simpa using hw)) ⟨.bl _, H, I, rfl, ?_⟩
  rw [show its.toArray.any (eqU x) = its.any (eqU x) by simp, mR r fs]
  exact q
 ·obtain ⟨its, r, pl, hz⟩ := I.tuple hq
  refine SeqAt.notIn_tupleAt (eqU x) pl (fun w hw => jM rx fx r fs w (by simpa using hw)) ⟨.bl _, H, I, rfl, ?_⟩
  rw [show its.toArray.any (eqU x) = its.any (eqU x) by simp, mR r fs]
  exact q
theorem pV : iP X (.builtin "len") (fun xs H Q => ∃ p ys, xs = [.ref p] ∧ (SqL X.K H p ys ∨ SqT X.K H p ys) ∧ Q (.int ys.length) H) := by
 intro pins s σ H xs us Q I r h
 obtain ⟨p, ys, rfl, hq, q⟩ := h
 obtain ⟨u, rfl, rx⟩ := uE r
 cases rx
 have hn := rJ
 rcases hq with hq | hq
 ·obtain ⟨its, r', pl, hz⟩ := I.list hq
  have gW := r'.length
  exact Calls.call_len_list pl.isList (by simp only [List.size_toArray] <;> omega) ⟨.int ys.length, H, I.tok _, ⟨s.toks + 1, by rw [List.size_toArray, gW]⟩, q⟩
 ·obtain ⟨its, r', pl, hz⟩ := I.tuple hq
  have gW := r'.length
  exact len_tuple pl (by simp only [List.size_toArray] <;> omega) ⟨.int ys.length, H, I.tok _, ⟨s.toks + 1, by rw [List.size_toArray, gW]⟩, q⟩
theorem iP.or {f : Value} {r r' : List V → Hp → VK → Prop} (h : iP X f r) (h' : iP X f r') : iP X f (fun xs H Q => r xs H Q ∨ r' xs H Q) := by
 intro pins s σ H xs us Q I rs q
 rcases q with q | q
 ·exact h pins s σ H xs us Q I rs q
 ·exact h' pins s σ H xs us Q I rs q
theorem fY : iP X (.type "list") (fun xs H Q => ∃ p ys, xs = [.ref p] ∧ (SqL X.K H p ys ∨ SqT X.K H p ys) ∧ ∀ l, H l = none → Q (.ref l) (upd H l (.lst ys))) := by
 intro pins s σ H xs us Q I r h
 obtain ⟨p, ys, rfl, hq, q⟩ := h
 obtain ⟨u, rfl, rx⟩ := uE r
 cases rx
 have fin : ∀ (its : List Value), cL ys its → ys.length ≤ sizeLine → ∀ (h' : Heap) (c' : Nat), (∀ b o', s.heap.get? b = some o' → h'.get? b = some o') →
   h'.get? s.heap.objs.size = some { cls := .type "list", dict := none, data := .seq its.toArray c', slots := #[] } → EP X pins σ Q (.ref s.heap.objs.size) { s with heap := h' } := fun its r' hz h' c' kp e =>
  ⟨.ref s.heap.objs.size, _, I.laid (t' := s.toks) kp (Nat.le_refl _) (show dM X.prog X.w _ h' _ (.lst ys) from ⟨hz, its, c', r', e⟩), rfl, q _ (I.hok.fresh (Nat.le_refl _))⟩
 rcases hq with hq | hq
 ·obtain ⟨its, r', pl, hz⟩ := I.list hq
  have gW := r'.length
  obtain ⟨o, ho, hc, n, hd⟩ := pl.isList
  exact call_list_seq p (.inl rfl) ho hc hd (fun h' c' kp e => fin its r' hz h' c' kp e) (by simp only [List.size_toArray] <;> omega)
 ·obtain ⟨its, r', pl, hz⟩ := I.tuple hq
  have gW := r'.length
  obtain ⟨o, ho, hc, n, hd⟩ := pl
  exact call_list_seq p (.inr rfl) ho hc hd (fun h' c' kp e => fin its r' hz h' c' kp e) (by simp only [List.size_toArray] <;> omega)
theorem gY : iP X (.type "tuple") (fun xs H Q => ∃ p ys, xs = [.ref p] ∧ ((SqL X.K H p ys ∧ ∀ l, H l = none → Q (.ref l) (upd H l (.tup ys))) ∨ (SqT X.K H p ys ∧ Q (.ref p) H))) := by
 intro pins s σ H xs us Q I r h
 obtain ⟨p, ys, rfl, h⟩ := h
 obtain ⟨u, rfl, rx⟩ := uE r
 cases rx
 rcases h with ⟨hq, q⟩ | ⟨hq, q⟩
 ·obtain ⟨its, r', pl, hz⟩ := I.list hq
  have gW := r'.length
  refine call_tuple_list pl.isList (fun h' kp => ?_) (by simp only [List.size_toArray] <;> omega)
  have I1 : Inv X pins σ H { s with heap := h' } := I.kept (t' := s.toks) kp
  have I2 : Inv X pins σ (upd H h'.objs.size (.tup ys)) { s with heap := h'.push { cls := .type "tuple", data := .seq its.toArray } } :=
   I1.laid (t' := s.toks) (fun b o e => Heap.get?_push_of_some _ e) (Nat.le_refl _) (show dM X.prog X.w _ _ _ (.tup ys) from ⟨hz, its, r', IsTup.new _ _⟩)
  exact ⟨.ref h'.objs.size, _, I2, rfl, q _ (I1.hok.fresh (Nat.le_refl _))⟩
 ·obtain ⟨its, r', pl, hz⟩ := I.tuple hq
  exact call_tuple_same pl ⟨.ref p, H, I, rfl, q⟩
noncomputable def tyV (K : PySem.W.Frag) (T : String) (x : V) (H : Hp) : Prop := match x with
 | .str _ => T = "str"
 | .int _ => T = "int"
 | .ref p => (T = "list" ∧ ∃ xs, SqL K H p xs) ∨ (T = "tuple" ∧ ∃ o, K.lookup p = some o ∧ o.cls = .type "tuple" ∧ o.dict = none) ∨
   (T = "dict" ∧ ((∃ kvs, H p = some (.dK kvs)) ∨ ∃ kvs, H p = some (.dT kvs))) ∨ (T = "set" ∧ ∃ S n, H p = some (.set S n))
 | _ => False
theorem ze {pins : List (Addr × Obj)} {σ : St} {H : Hp} {s : Shared} {T : String} {x : V} {v : Value} (I : Inv X pins σ H s) (r : dk x v) (ty : tyV X.K T x H) :
  s.TypeIs v T ∧ ∀ a, v = .ref a → ∃ ob, s.heap.get? a = some ob ∧ ob.dict = none := by
 cases x with
 | str z =>
  obtain ⟨t, rfl⟩ := r
  cases (show T = "str" from ty)
  exact ⟨typeIs_str s z t, fun _ e => nomatch e⟩
 | int i =>
  obtain ⟨t, rfl⟩ := r
  cases (show T = "int" from ty)
  exact ⟨typeIs_int s i t, fun _ e => nomatch e⟩
 | ref p =>
  cases r
  rcases ty with ⟨rfl, xs, hq⟩ | ⟨rfl, o, hk, hc, hd⟩ | ⟨rfl, hk⟩ | ⟨rfl, S, n, hk⟩
  ·obtain ⟨its, _, pl, _⟩ := I.list hq
   refine ⟨pl.isList.typeIs, fun a e => ?_⟩
   cases e
   obtain ⟨o, n, e, c, hd, _⟩ := pl
   exact ⟨o, e, hd⟩
  ·refine ⟨⟨o, I.kIn p o hk, hc⟩, fun a e => ?_⟩
   cases e
   exact ⟨o, I.kIn _ o hk, hd⟩
  ·have z : ∃ o, s.heap.get? p = some o ∧ o.ExactDict := by
    rcases hk with ⟨kvs, hk⟩ | ⟨kvs, hk⟩
    ·obtain ⟨_, _, _, _, o, _, _, e, ex, _⟩ := I.hok p _ hk
     exact ⟨o, e, ex⟩
    ·obtain ⟨_, _, _, _, o, _, _, e, ex, _⟩ := I.hok p _ hk
     exact ⟨o, e, ex⟩
   obtain ⟨o, e, ex⟩ := z
   refine ⟨⟨o, e, ex.1⟩, fun a e2 => ?_⟩
   cases e2
   exact ⟨o, e, ex.2.1⟩
  ·obtain ⟨o, _, _, _, e, ex, _⟩ := I.hok p _ hk
   refine ⟨⟨o, e, ex.1⟩, fun a e2 => ?_⟩
   cases e2
   exact ⟨o, e, ex.2.1⟩
 | _ => exact False.elim ty
noncomputable def Hs (K : PySem.W.Frag) (T : String) (r : V → List V → Hp → VK → Prop) (to : TE) : TE := fun σ H Q => to σ H fun x H1 => tyV K T x H1 ∧ r x [] H1 Q
noncomputable def tBM (K : PySem.W.Frag) (T : String) (r : V → List V → Hp → VK → Prop) (to : TE) (t : TA) : TE := fun σ H Q => to σ H fun x H1 => tyV K T x H1 ∧ t σ H1 fun xs H2 => r x xs H2 Q
variable {o e : Expr} {es : List Expr} {to : TE} {t : TA} {name : Str} {apos cpos : Pos} {T id : String} {r : V → List V → Hp → VK → Prop}
theorem DH (pa : PlainAttrs T) (slot : Slot T name id) (hty : typeOf (.builtin id) = pure (.type "method_descriptor")) (hm : MtR X id r) (ho : PE X o to)
  (hbase : attributeBase o name X.env (eval o X.env) = eval o X.env := by rfl) (hline : (apos.endLine == cpos.line) = true := by rfl) : PE X (.Call (.Attribute o name apos) [] [] cpos) (Hs X.K T r to) := by
 intro pins s σ H Q I h
 refine wpAny_Call_method0_late hbase hline (thn (ho pins s σ H _ I h) fun v s1 hz => ?_)
 obtain ⟨x, H1, I1, r1, ty, q1⟩ := hz
 obtain ⟨h1, h2⟩ := ze I1 r1 ty
 exact ⟨T, id, pa, slot, hty, h1, h2, Calls.callWith_builtin rfl (PySem.evalArgs_none (hm pins s1 σ H1 x [] v [] Q I1 r1 .nil q1))⟩
theorem Gv (pa : PlainAttrs T) (slot : Slot T name id) (hty : typeOf (.builtin id) = pure (.type "method_descriptor")) (hm : MtR X id r) (ho : PE X o to) (ha : PA X (e :: es) t)
  (hbase : attributeBase o name X.env (eval o X.env) = eval o X.env := by rfl)
  (hfew : ((backTo cpos (starEach (e :: es) X.env)).all (fun x => !x.1) && (backToKw cpos (keywordEach [] X.env)).all (fun x => x.1.isSome)
   && decide ((e :: es).length + ([] : List Keyword).length + (if ([] : List Keyword).isEmpty then 0 else 1) < 30)) = true := by rfl)
  (hline : (apos.endLine == cpos.line) = true := by rfl) (hs : starEach (e :: es) X.env = (false, eval e X.env) :: starEach es X.env := by rfl) (hplain : (backTo cpos (starEach es X.env)).any (·.1) = false := by rfl) :
  PE X (.Call (.Attribute o name apos) (e :: es) [] cpos) (tBM X.K T r to t) := by
 intro pins s σ H Q I h
 refine wpAny_Call_method_late hbase hfew hline rfl (thn (ho pins s σ H _ I h) fun v s1 hz => ?_)
 obtain ⟨x, H1, I1, r1, ty, q1⟩ := hz
 obtain ⟨h1, h2⟩ := ze I1 r1 ty
 refine ⟨T, id, pa, slot, hty, h1, h2, ?_⟩
 have hA := ha cpos pins s1 σ H1 _ I1 q1
 rw [hs] at hA ⊢
 refine Calls.callWith_builtin (by show (false || (backTo cpos (starEach es X.env)).any (·.1)) = false; rw [hplain] <;> rfl) (Calls.evalArgs_plain ?_)
 exact thn hA fun us s2 ⟨vs, H2, I2, r2, q2⟩ => hm pins s2 σ H2 x vs v us Q I2 r1 r2 q2
end
noncomputable def MtM (X : Cx) (id : String) (r : V → List V → Hp → VK → Prop) : Prop :=
 ∀ (pins : List (Addr × Obj)) (s : Shared) (σ : St) (H : Hp) (x : V) (xs : List V) (v : Value) (us : List Value) (Q : VK), Inv X pins σ H s → dk x v → cL xs us → r x xs H Q →
  wpAny (model X.prog X.w) X.A (call (.builtin id) (v :: us)) (EP X pins σ Q) X.xe s
theorem cL.one : ∀ {x : V} {us : List Value}, cL [x] us → ∃ u, us = [u] ∧ dk x u
 | _, _, .cons r .nil => ⟨_, rfl, r⟩
theorem cL.zero : ∀ {us : List Value}, cL [] us → us = []
 | _, .nil => rfl
theorem cL.dropLast {xs : List V} {us : List Value} (h : cL xs us) : cL xs.dropLast us.dropLast := by
 induction h with
 | nil => exact .nil
 | cons r t ih =>
  cases t with
  | nil => exact .nil
  | cons q t' => exact .cons r ih
theorem cL.eraseIdx : ∀ {xs : List V} {us : List Value} (i : Nat), cL xs us → cL (xs.eraseIdx i) (us.eraseIdx i)
 | _, _, _, .nil => .nil
 | _, _, 0, .cons _ t => t
 | _, _, i + 1, .cons r t => .cons r (cL.eraseIdx i t)
theorem tH {α : Type} (l : List α) : l.eraseIdx (l.length - 1) = l.dropLast := by
 induction l with
 | nil => rfl
 | cons a r ih =>
  cases r with
  | nil => rfl
  | cons b r =>
   have e : (a :: b :: r).length - 1 = ((b :: r).length - 1) + 1 := by
    have h1 : (a :: b :: r).length = r.length + 2 := rfl
    have h2 : (b :: r).length = r.length + 1 := rfl
    omega
   rw [e, List.eraseIdx_cons_succ, ih]
   all_goals rfl
theorem pE {α : Type} : ∀ (l : List α) (i : Nat), (l.eraseIdx i).length ≤ l.length
 | [], _ => Nat.le_refl _
 | _ :: _, 0 => Nat.le_succ _
 | _ :: r, i + 1 => Nat.succ_le_succ (pE r i)
section
variable {X : Cx} {pins : List (Addr × Obj)} {σ : St} {H : Hp} {s : Shared} {l b : Addr} {xs ys zs : List V}
theorem Inv.lset {its its' : List Value} {n : Nat} {f : Array Value → Array Value} {t' : Nat} (I : Inv X pins σ H s) (hH : H l = some (.lst xs))
  (e : s.heap.get? l = some { cls := .type "list", data := .seq its.toArray n }) (hf : f its.toArray = its'.toArray) (hv : cL ys its') (hz : ys.length ≤ sizeLine) :
  Inv X pins σ (upd H l (.lst ys)) { s with heap := s.heap.update l (Obj.mapSeq f), toks := t' } := by
 have q := PySem.IsL.update e f
 rw [hf] at q
 refine I.write (x := l) (e := l) (by rw [hH]; exact trivial) (.inl rfl) (fun b' u hb hu => (Heap.get?_update_other s.heap (Obj.mapSeq f) (Ne.symm hb)).trans hu) ⟨_, q⟩ ?_
 exact ⟨hz, its', _, hv, q⟩
theorem Inv.lnew {its : List Value} {t' : Nat} (I : Inv X pins σ H s) (hv : cL ys its) (hz : ys.length ≤ sizeLine) :
  Inv X pins σ (upd H s.heap.objs.size (.lst ys)) { s with heap := s.heap.push { cls := .type "list", data := .seq its.toArray }, toks := t' } :=
 I.laid (fun _ _ q => Heap.get?_push_of_some _ q) (Nat.le_refl _) ⟨hz, its, 0, hv, Heap.get?_push_size _ rfl⟩
theorem Inv.fresh (I : Inv X pins σ H s) : H s.heap.objs.size = none := I.hok.fresh (Nat.le_refl _)
theorem Inv.lstM (I : Inv X pins σ H s) (hH : H l = some (.lst xs)) : xs.length ≤ sizeLine ∧ ∃ (its : List Value) (n : Nat), cL xs its ∧ xs.length = its.length ∧ s.heap.get? l = some { cls := .type "list", data := .seq its.toArray n } := by
 obtain ⟨z, its, n, r, e⟩ := I.hok l _ hH
 exact ⟨z, its, n, r, r.length, e⟩
end
section
variable {X : Cx}
noncomputable def uR : V → List V → Hp → VK → Prop := fun x vs H Q => ∃ l xs y, x = .ref l ∧ vs = [y] ∧ H l = some (.lst xs) ∧ xs.length < sizeLine ∧ Q .non (upd H l (.lst (xs ++ [y])))
theorem lT : MtM X "list.append" uR := by
 intro pins s σ H x vs v us Q I rx rv h
 obtain ⟨l, xs, y, rfl, rfl, hH, hz, q⟩ := h
 cases rx
 obtain ⟨u, rfl, ru⟩ := rv.one
 obtain ⟨z, its, n, r, hl, e⟩ := I.lstM hH
 refine call_meets F.slot_list_append ⟨_, e, rfl⟩ F.entry_list_append (F.args_list_append_2 _ _) (PySem.list_append l its.toArray n u (by rw [List.size_toArray]; omega)) ⟨e, ?_⟩
 refine ⟨.non, _, I.lset (its' := its ++ [u]) hH e (by simp) (r.append (.cons ru .nil)) ?_, rfl, q⟩
 rw [List.length_append, List.length_singleton]
 omega
noncomputable def Hw : V → List V → Hp → VK → Prop := fun x vs H Q => ∃ l xs y, x = .ref l ∧ vs = [] ∧ H l = some (.lst xs) ∧ xs[xs.length - 1]? = some y ∧ Q y (upd H l (.lst xs.dropLast))
theorem DR : MtM X "list.pop" Hw := by
 intro pins s σ H x vs v us Q I rx rv h
 obtain ⟨l, xs, y, rfl, rfl, hH, hy, q⟩ := h
 cases rx
 have hus := rv.zero
 subst hus
 obtain ⟨z, its, n, r, hl, e⟩ := I.lstM hH
 obtain ⟨u, hu, ru⟩ := r.get hy
 have hy' : its.toArray[its.toArray.size - 1]? = some u := by
  show its.toArray[its.length - 1]? = some u
  rw [← Array.getElem?_toList, ← hl]
  exact hu
 refine call_meets F.slot_list_pop ⟨_, e, rfl⟩ F.entry_list_pop (F.args_list_pop_1 _) (MeetsSeq.list_pop_last l its.toArray n u hy' (by rw [List.size_toArray]; omega)) ⟨e, ?_⟩
 refine ⟨y, _, I.lset (its' := its.dropLast) hH e ?_ r.dropLast ?_, ru, q⟩
 ·show its.toArray.eraseIdxIfInBounds (its.toArray.size - 1) = its.dropLast.toArray
  rw [List.size_toArray, List.eraseIdxIfInBounds_toArray, tH]
 ·rw [List.length_dropLast]
  omega
noncomputable def zr : V → List V → Hp → VK → Prop := fun x vs H Q => ∃ l xs i k y, x = .ref l ∧ vs = [.int i] ∧ H l = some (.lst xs) ∧ -(2 ^ 63) ≤ i ∧ i < 2 ^ 63 ∧ seqIndex? i xs.length = some k ∧ xs[k]? = some y ∧ Q y (upd H l (.lst (xs.eraseIdx k)))
theorem yi : MtM X "list.pop" zr := by
 intro pins s σ H x vs v us Q I rx rv h
 obtain ⟨l, xs, i, k, y, rfl, rfl, hH, h1, h2, hk, hy, q⟩ := h
 cases rx
 obtain ⟨u, rfl, ru⟩ := rv.one
 obtain ⟨t, rfl⟩ := ru
 obtain ⟨z, its, n, r, hl, e⟩ := I.lstM hH
 obtain ⟨w, hw, rw'⟩ := r.get hy
 refine call_meets F.slot_list_pop ⟨_, e, rfl⟩ F.entry_list_pop (F.args_list_pop_2 _ _)
  (MeetsSeq.list_pop_at l its.toArray n i t k w (fitsIndex_both h1 h2) (by rw [List.size_toArray, ← hl]; exact hk) (by rw [← Array.getElem?_toList]; exact hw) (by rw [List.size_toArray]; omega)) ⟨e, ?_⟩
 refine ⟨y, _, I.lset (its' := its.eraseIdx k) hH e ?_ (r.eraseIdx k) ?_, rw', q⟩
 ·show its.toArray.eraseIdxIfInBounds k = (its.eraseIdx k).toArray
  rw [List.eraseIdxIfInBounds_toArray]
 ·have := pE xs k
  omega
noncomputable def EJ : R2 := fun x y H Q => ∃ l b xs zs, x = .ref l ∧ y = .ref b ∧ H l = some (.lst xs) ∧ H b = some (.lst zs) ∧ xs.length + zs.length ≤ sizeLine ∧ ∀ p, H p = none → Q (.ref p) (upd H p (.lst (xs ++ zs)))
theorem DO : OpR X (binaryOp .Add) EJ := by
 intro pins s σ H x y v u Q I rx ry h
 obtain ⟨l, b, xs, zs, rfl, rfl, hH, hB, hz, q⟩ := h
 cases rx
 cases ry
 obtain ⟨z, its, n, r, hl, e⟩ := I.lstM hH
 obtain ⟨z2, its2, n2, r2, hl2, e2⟩ := I.lstM hB
 refine PySem.P.add_list e e2 ?_ (by rw [List.size_toArray, List.size_toArray]; omega)
 have ea : its.toArray ++ its2.toArray = (its ++ its2).toArray := by simp
 rw [ea]
 exact ⟨.ref _, _, I.lnew (t' := s.toks) (r.append r2) (by rw [List.length_append]; omega), rfl, q _ I.fresh⟩
end
section
variable {κ : Type} [DecidableEq κ]
noncomputable def mT (kvs : List (κ × V)) (k : κ) : Option V := (kvs.find? fun kv => decide (kv.1 = k)).map (·.2)
noncomputable def pj (kvs : List (κ × V)) (k : κ) (v : V) : List (κ × V) :=
 if (kvs.any fun kv => decide (kv.1 = k)) = true then kvs.map (fun kv => if kv.1 = k then (kv.1, v) else kv) else kvs ++ [(k, v)]
theorem nR {p : κ × V} {r : List (κ × V)} {k : κ} (e : p.1 = k) : mT (p :: r) k = some p.2 := by simp [mT, List.find?_cons, e]
theorem nS {p : κ × V} {r : List (κ × V)} {k : κ} (e : ¬ p.1 = k) : mT (p :: r) k = mT r k := by simp [mT, List.find?_cons, e]
theorem rl (k : κ) : ∀ kvs : List (κ × V), (kvs.any fun kv => decide (kv.1 = k)) = (mT kvs k).isSome
 | [] => rfl
 | p :: r => by
  rw [List.any_cons]
  by_cases e : p.1 = k
  ·simp only [nR e, decide_eq_true e, Bool.true_or, Option.isSome_some]
  ·rw [nS e, decide_eq_false e, Bool.false_or]; exact rl k r
theorem lX (kvs : List (κ × V)) (k : κ) (v : V) : (pj kvs k v).length ≤ kvs.length + 1 := by
 unfold pj
 split
 ·rw [List.length_map]; omega
 ·rw [List.length_append, List.length_cons, List.length_nil]; omega
theorem oQ.isSome_eq {o : Option V} {u : Option Value} (r : oQ o u) : o.isSome = u.isSome := by
 cases o with
 | none => cases u with
  | none => rfl
  | some _ => exact (show False from r).elim
 | some _ => cases u with
  | none => exact (show False from r).elim
  | some _ => rfl
theorem oQ.getD {o : Option V} {u : Option Value} {d : V} {d' : Value} (r : oQ o u) (rd : dk d d') : dk (o.getD d) (u.getD d') := by
 cases o with
 | none => cases u with
  | none => exact rd
  | some _ => exact (show False from r).elim
 | some _ => cases u with
  | none => exact (show False from r).elim
  | some _ => exact r
theorem KV.val {kvs : List (κ × V)} {vs : List (κ × Value)} (r : KV kvs vs) (k : κ) : oQ (mT kvs k) (valueAt vs k) := by
 unfold KV at r
 induction r with
 | nil => exact True.intro
 | @cons p q ps qs h t ih =>
  obtain ⟨h1, h2⟩ := h
  by_cases e : p.1 = k
  ·have e' : q.1 = k := h1.symm.trans e
   have b : valueAt (q :: qs) k = some q.2 := by simp [valueAt, List.find?_cons, e']
   rw [nR e, b]; exact h2
  ·have e' : ¬ q.1 = k := fun z => e (h1.trans z)
   have b : valueAt (q :: qs) k = valueAt qs k := by simp [valueAt, List.find?_cons, e']
   rw [nS e, b]; exact ih
theorem KV.any {kvs : List (κ × V)} {vs : List (κ × Value)} (r : KV kvs vs) (k : κ) : (kvs.any fun kv => decide (kv.1 = k)) = vs.any fun kv => decide (kv.1 = k) := by
 unfold KV at r
 induction r with
 | nil => rfl
 | cons h t ih => rw [List.any_cons, List.any_cons, ih, h.1]
theorem KV.repl {kvs : List (κ × V)} {vs : List (κ × Value)} (r : KV kvs vs) (k : κ) {y : V} {u : Value} (ry : dk y u) :
  KV (kvs.map fun kv => if kv.1 = k then (kv.1, y) else kv) (vs.map fun kv => if kv.1 = k then (kv.1, u) else kv) := by
 unfold KV at r ⊢
 induction r with
 | nil => exact .nil
 | @cons p q ps qs h t ih =>
  rw [List.map_cons, List.map_cons]
  refine .cons ?_ ih
  obtain ⟨h1, h2⟩ := h
  by_cases e : p.1 = k
  ·rw [if_pos e, if_pos (h1.symm.trans e)]; exact ⟨h1, ry⟩
  ·rw [if_neg e, if_neg (fun z => e (h1.trans z))]; exact ⟨h1, h2⟩
theorem KV.put {kvs : List (κ × V)} {vs : List (κ × Value)} (r : KV kvs vs) (k : κ) {y : V} {u : Value} (ry : dk y u) : KV (pj kvs k y) (stored vs k u) := by
 unfold pj stored
 rw [r.any k]
 by_cases e : (vs.any fun kv => decide (kv.1 = k)) = true
 ·rw [if_pos e, if_pos e]; exact r.repl k ry
 ·rw [if_neg e, if_neg e]; exact Paired.snoc r ⟨rfl, ry⟩
theorem KV.length {kvs : List (κ × V)} {vs : List (κ × Value)} (r : KV kvs vs) : kvs.length = vs.length := Paired.length r
end
theorem qC {P : Program} {w : World} {k : Key} {u : Value} (r : dk (kV k) u) : (cD P w).is k u = true := by
 cases k with
 | inl i => obtain ⟨t, e⟩ := (show ∃ t, u = Value.int i t from r); subst e; exact qw P w i t
 | inr x => obtain ⟨t, e⟩ := (show ∃ t, u = Value.str x t from r); subst e; exact qv P w x t
theorem me {P : Program} {w : World} : ∀ {ks : List Key} {us : List Value}, cL (ks.map kV) us → ItemsAre (cD P w) ks us
 | [], _, r => by rw [List.map_nil] at r; cases r; exact .nil
 | k :: ks, _, r => by
  rw [List.map_cons] at r
  cases r with
  | cons h t => exact .cons (qC h) (me t)
noncomputable abbrev KT (H : Hp) : List (List Key × V) → List (List Key × Addr × Value) → Prop := Paired fun p q => p.1 = q.1 ∧ H q.2.1 = some (.tup (p.1.map kV)) ∧ dk p.2 q.2.2
theorem KT.val {H : Hp} {kvs : List (List Key × V)} {xs : List (List Key × Addr × Value)} (r : KT H kvs xs) (k : List Key) : oQ (mT kvs k) ((atKey xs k).map (·.2)) := by
 induction r with
 | nil => exact True.intro
 | @cons p q ps qs h t ih =>
  obtain ⟨h1, _, h2⟩ := h
  by_cases e : p.1 = k
  ·have e' : q.1 = k := h1.symm.trans e
   have b : atKey (q :: qs) k = some q.2 := by simp [atKey, List.find?_cons, e']
   rw [nR e, b]; exact h2
  ·have e' : ¬ q.1 = k := fun z => e (h1.trans z)
   have b : atKey (q :: qs) k = atKey qs k := by simp [atKey, List.find?_cons, e']
   rw [nS e, b]; exact ih
theorem KT.repl {H : Hp} {kvs : List (List Key × V)} {xs : List (List Key × Addr × Value)} (r : KT H kvs xs) (k : List Key) {y : V} {u : Value} (ry : dk y u) :
  KT H (kvs.map fun kv => if kv.1 = k then (kv.1, y) else kv) (xs.map (putAt k u)) := by
 induction r with
 | nil => exact .nil
 | @cons p q ps qs h t ih =>
  rw [List.map_cons, List.map_cons]
  refine .cons ?_ ih
  obtain ⟨h1, h2, h3⟩ := h
  unfold putAt
  by_cases e : p.1 = k
  ·rw [if_pos e, if_pos (h1.symm.trans e)]; exact ⟨h1, h2, ry⟩
  ·rw [if_neg e, if_neg (fun z => e (h1.trans z))]; exact ⟨h1, h2, h3⟩
theorem KT.put {H : Hp} {kvs : List (List Key × V)} {xs : List (List Key × Addr × Value)} (r : KT H kvs xs) (k : List Key) {b : Addr} {y : V} {u : Value} (hb : H b = some (.tup (k.map kV))) (ry : dk y u) :
  KT H (pj kvs k y) (storedH xs k b u) := by
 have e : (kvs.any fun kv => decide (kv.1 = k)) = (atKey xs k).isSome := by
  rw [rl, (r.val k).isSome_eq, Option.isSome_map]
 unfold pj storedH
 rw [e]
 by_cases q : (atKey xs k).isSome = true
 ·rw [if_pos q, if_pos q]; exact r.repl k ry
 ·rw [if_neg q, if_neg q]; exact Paired.snoc r ⟨rfl, hb, ry⟩
theorem KT.keeps {H H' : Hp} {kvs : List (List Key × V)} {xs : List (List Key × Addr × Value)} (r : KT H kvs xs) (ht : ∀ b ys, H b = some (.tup ys) → H' b = some (.tup ys)) : KT H' kvs xs :=
 Paired.mapP r fun _ _ z => ⟨z.1, ht _ _ z.2.1, z.2.2⟩
section
variable {P : Program} {w : World} {H : Hp} {h : Heap} {a : Addr}
theorem C9 {u : HO} (ok : HOk P w H h) (e : Rd H a u) : dM P w H h a u := e.ok ok
theorem oF {kvs : List (Key × V)} (ok : HOk P w H h) (e : Rd H a (.dK kvs)) : kvs.length ≤ sizeLine ∧ (a == sysModules) = false ∧ ∃ vs, KV kvs vs ∧ h.DictOf (cD P w) a vs :=
 show dM P w H h a (.dK kvs) from C9 ok e
theorem Eu {kvs : List (Key × V)} (ok : HOk P w H h) (e : H a = some (.dK kvs)) : kvs.length ≤ sizeLine ∧ (a == sysModules) = false ∧ ∃ vs, KV kvs vs ∧ h.DictOf (cD P w) a vs := oF ok (.inl e)
theorem md {ks : List Key} (ok : HOk P w H h) (e : H a = some (.tup (ks.map kV))) : (tupleKind (cD P w)).is h ks a := by
 obtain ⟨_, its, r, o, h1, h2, n, h3⟩ := (show dM P w H h a (.tup (ks.map kV)) from ok a _ e)
 exact ⟨o, its.toArray, n, h1, h2, h3, by simpa using me r⟩
theorem oE {kvs : List (List Key × V)} (ok : HOk P w H h) (e : Rd H a (.dT kvs)) : kvs.length ≤ sizeLine ∧ (a == sysModules) = false ∧
  ∃ xs, KT H kvs xs ∧ h.DictOfH (tupleKind (cD P w)) a xs := by
 obtain ⟨z, y, xs, r, o, es, ep, h1, h2, h3, h4, h5⟩ := (show dM P w H h a (.dT kvs) from C9 ok e)
 refine ⟨z, y, xs, r, o, es, ep, h1, h2, h3, h4, fun x hx => ?_, h5⟩
 have all : ∀ {l : List (List Key × V)} {m : List (List Key × Addr × Value)}, KT H l m → ∀ x ∈ m, (tupleKind (cD P w)).is h x.1 x.2.1 := by
  intro l m q
  induction q with
  | nil => intro x hx; exact nomatch hx
  | @cons p q ps qs hq t ih =>
   intro x hx
   rcases List.mem_cons.mp hx with e | hx
   ·subst e
    exact md ok (by rw [← hq.1]; exact hq.2.1)
   ·exact ih x hx
 exact all r x hx
theorem Ha {kvs : List (List Key × V)} (ok : HOk P w H h) (e : H a = some (.dT kvs)) : kvs.length ≤ sizeLine ∧ (a == sysModules) = false ∧
  ∃ xs, KT H kvs xs ∧ h.DictOfH (tupleKind (cD P w)) a xs := oE ok (.inl e)
end
noncomputable def DGet (H : Hp) (a : Addr) (y : V) (r : Option V) : Prop :=
 (∃ kvs k, Rd H a (.dK kvs) ∧ y = kV k ∧ r = mT kvs k) ∨ ∃ kvs k b, Rd H a (.dT kvs) ∧ y = .ref b ∧ H b = some (.tup (k.map kV)) ∧ r = mT kvs k
noncomputable def yX (H : Hp) (a : Addr) (y v : V) (H' : Hp) : Prop :=
 (∃ kvs k, H a = some (.dK kvs) ∧ y = kV k ∧ kvs.length < sizeLine ∧ H' = upd H a (.dK (pj kvs k v))) ∨
 ∃ kvs k b, H a = some (.dT kvs) ∧ y = .ref b ∧ H b = some (.tup (k.map kV)) ∧ kvs.length < sizeLine ∧ H' = upd H a (.dT (pj kvs k v))
theorem DGet.k {H : Hp} {a : Addr} {kvs : List (Key × V)} {k : Key} (e : H a = some (.dK kvs)) : DGet H a (kV k) (mT kvs k) := .inl ⟨kvs, k, .inl e, rfl, rfl⟩
theorem yX.k {H : Hp} {a : Addr} {kvs : List (Key × V)} {k : Key} {v : V} (e : H a = some (.dK kvs)) (hl : kvs.length < sizeLine) : yX H a (kV k) v (upd H a (.dK (pj kvs k v))) := .inl ⟨kvs, k, e, rfl, hl, rfl⟩
theorem yX.t {H : Hp} {a b : Addr} {kvs : List (List Key × V)} {k : List Key} {v : V} (e : H a = some (.dT kvs)) (eb : H b = some (.tup (k.map kV))) (hl : kvs.length < sizeLine) :
  yX H a (.ref b) v (upd H a (.dT (pj kvs k v))) := .inr ⟨kvs, k, b, e, rfl, eb, hl, rfl⟩
section
variable {X : Cx} {pins : List (Addr × Obj)} {σ : St} {H : Hp} {s : Shared} {a : Addr} {y v : V} {u r : Value} {o : Option V} {A : Around} {E : Value → Shared → Prop}
theorem Inv.big (I : Inv X pins σ H s) : sysModules < s.heap.objs.size := by
 have h : mainGlobals < s.heap.objs.size := (I.mod.glob.keeps I.bk).lt
 exact Nat.lt_trans (by decide) h
theorem wB {Q : Value → Shared → Prop} (hu : A.units + 1 < cLine) (I : Inv X pins σ H s) (g : DGet H a y (some v)) (ry : dk y u) (h : ∀ w' s', Inv X pins σ H s' → dk v w' → Q w' s') :
  wpAny (model X.prog X.w) A (getItem (.ref a) u) Q E s := by
 rcases g with ⟨kvs, k, e, ey, l⟩ | ⟨kvs, k, b, e, ey, eb, l⟩
 ·subst ey
  obtain ⟨z, hd, vs, rel, dd⟩ := oF I.hok e
  obtain ⟨w', hw, rw'⟩ := oQ.some_of (v := v) (o := valueAt vs k) (by rw [l]; exact rel.val k)
  exact wpAny_getItem_of (qC ry) dd.mapOf hw (h w' _ (I.tok _) rw')
 ·subst ey
  cases (show u = Value.ref b from ry)
  obtain ⟨z, hd, xs, rel, dd⟩ := oE I.hok e
  obtain ⟨w', hw, rw'⟩ := oQ.some_of (v := v) (o := (atKey xs k).map (·.2)) (by rw [l]; exact rel.val k)
  obtain ⟨p, hp, hp2⟩ := Option.map_eq_some_iff.mp hw
  refine wpAny_getItem_heap (tupleKind_room_in1 hu) (md I.hok eb) dd hp ?_
  rw [hp2]
  exact h w' _ (I.tok _) rw'
theorem IJ {Q : Value → Shared → Prop} (hu : A.units + 1 < cLine) (I : Inv X pins σ H s) (g : DGet H a y o) (ry : dk y u) (h : ∀ s', Inv X pins σ H s' → Q (.bool o.isSome) s') :
  wpAny (model X.prog X.w) A (compareOp .In u (.ref a)) Q E s := by
 rcases g with ⟨kvs, k, e, ey, l⟩ | ⟨kvs, k, b, e, ey, eb, l⟩
 ·subst ey
  obtain ⟨z, hd, vs, rel, dd⟩ := oF I.hok e
  refine wpAny_in_of (qC ry) hd dd.mapOf ?_
  rw [← (rel.val k).isSome_eq, ← l]
  exact h _ (I.tok _)
 ·subst ey
  cases (show u = Value.ref b from ry)
  obtain ⟨z, hd, xs, rel, dd⟩ := oE I.hok e
  refine wpAny_in_heap (tupleKind_room_in1 hu) (md I.hok eb) hd dd ?_
  have q := (rel.val k).isSome_eq
  rw [Option.isSome_map] at q
  rw [← q, ← l]
  exact h _ (I.tok _)
theorem BG {Q : Value → Shared → Prop} (hu : A.units + 1 < cLine) (I : Inv X pins σ H s) (g : DGet H a y o) (ry : dk y u) (h : ∀ s', Inv X pins σ H s' → Q (.bool (!o.isSome)) s') :
  wpAny (model X.prog X.w) A (compareOp .NotIn u (.ref a)) Q E s := by
 rcases g with ⟨kvs, k, e, ey, l⟩ | ⟨kvs, k, b, e, ey, eb, l⟩
 ·subst ey
  obtain ⟨z, hd, vs, rel, dd⟩ := oF I.hok e
  refine wpAny_notIn_of (qC ry) hd dd.mapOf ?_
  rw [← (rel.val k).isSome_eq, ← l]
  exact h _ (I.tok _)
 ·subst ey
  cases (show u = Value.ref b from ry)
  obtain ⟨z, hd, xs, rel, dd⟩ := oE I.hok e
  refine wpAny_notIn_heap (tupleKind_room_in1 hu) (md I.hok eb) hd dd ?_
  have q := (rel.val k).isSome_eq
  rw [Option.isSome_map] at q
  rw [← q, ← l]
  exact h _ (I.tok _)
theorem wy {h' : Heap} {t' : Nat} {ob : HO} (I : Inv X pins σ H s) (mu : Mut (H a)) (hs : Heap.SameBut a s.heap h') (he : ∃ q, h'.get? a = some q) (new : dM X.prog X.w (upd H a ob) h' a ob) :
  Inv X pins σ (upd H a ob) { s with heap := h', toks := t' } :=
 I.write (x := a) (e := a) mu (.inl rfl) (fun b q hb z => (hs.2 b hb).trans z) he new
theorem Ew {P : Program} {w : World} {H' : Hp} {h' : Heap} {kvs : List (Key × V)} {vs : List (Key × Value)} (z : kvs.length ≤ sizeLine) (hd : (a == sysModules) = false) (rel : KV kvs vs) (dd : h'.DictOf (cD P w) a vs) :
  dM P w H' h' a (.dK kvs) := ⟨z, hd, vs, rel, dd⟩
theorem wz {H' : Hp} {Q : Unit → Shared → Prop} (hu : A.units + 1 < cLine) (I : Inv X pins σ H s) (g : yX H a y v H') (ry : dk y u) (rv : dk v r) (h : ∀ s', Inv X pins σ H' s' → Q () s') :
  wpAny (model X.prog X.w) A (setItem (.ref a) u r) Q E s := by
 rcases g with ⟨kvs, k, e, ey, l, eH⟩ | ⟨kvs, k, b, e, ey, eb, l, eH⟩
 ·subst ey eH
  obtain ⟨z, hd, vs, rel, dd⟩ := Eu I.hok e
  have hz : vs.length ≤ sizeLine := by rw [← rel.length]; exact z
  have hl : (pj kvs k v).length ≤ sizeLine := by have := lX kvs k v; omega
  refine wpAny_setItem_pairs (hsz := hz) (qC ry) dd fun h' dd' hs => h _ ?_
  have he : ∃ q, h'.get? a = some q := let ⟨q, _, _, hq, _⟩ := dd'; ⟨q, hq⟩
  exact wy I (by rw [e]; exact True.intro) hs he (Ew hl hd (rel.put k rv) dd')
 ·subst ey eH
  cases (show u = Value.ref b from ry)
  obtain ⟨z, hd, xs, rel, dd⟩ := Ha I.hok e
  have hz : xs.length ≤ sizeLine := by rw [← Paired.length rel]; exact z
  have hl : (pj kvs k v).length ≤ sizeLine := by have := lX kvs k v; omega
  refine wpAny_setItem_heap (hsz := hz) (tupleKind_room_in1 hu) (md I.hok eb) dd fun h' dd' hs => h _ ?_
  obtain ⟨q, es, ep, hq, h2, h3, h4, _, h5⟩ := dd'
  refine wy I (by rw [e]; exact True.intro) hs ⟨q, hq⟩ ⟨hl, hd, _, (rel.put k eb rv).keeps fun c ys ec => ?_, q, es, ep, hq, h2, h3, h4, h5⟩
  rw [bF (GC ec e (fun z => nomatch z))]
  exact ec
end
section
variable {X : Cx} {pins : List (Addr × Obj)} {σ : St} {H : Hp} {s : Shared} {a : Addr} {kvs : List (Key × V)} {k : Key} {u : Value} {A : Around} {E : Value → Shared → Prop}
theorem Hb {Q : Value → Shared → Prop} (I : Inv X pins σ H s) (e : Rd H a (.dK kvs)) (h : ∀ t s', Inv X pins σ H s' → Q (.int kvs.length t) s') : wpAny (model X.prog X.w) A (call (.builtin "len") [.ref a]) Q E s := by
 obtain ⟨z, hd, vs, rel, dd⟩ := oF I.hok e
 refine call_len_dict hd dd (by rw [← rel.length]; rw [sizeLine_eq] at z; omega) ?_
 rw [← rel.length]
 exact h _ _ (I.tok _)
end
noncomputable def EW (i : Expr) : Prop := ∀ ov iv, subscripted i false ov iv = operate [ov, iv] (getItem ov iv)
theorem Ay {prog : Program} {w : World} {A : Around} {E : Value → Shared → Prop} {s : Shared} {env : Env} {value slice : Expr} {pos : Pos} {T id : String} {Q : Value → Shared → Prop}
  (hl : typeLookup (.type T) "__getitem__" = pure (some (.builtin id))) (hs : EW slice)
  (h : wpAny (model prog w) A (eval value env) (fun o s₁ => wpAny (model prog w) A (eval slice env) (fun i s₂ => s₂.TypeIs o T ∧ wpAny (model prog w) A (getItem o i) Q E s₂) E s₁) E s) :
  wpAny (model prog w) A (eval (.Subscript value slice pos) env) Q E s := by
 refine Subscript_ (wpAny_mono h (fun o s₁ h₁ => wpAny_mono h₁ (fun i s₂ h₂ => ?_) fun _ _ x => x) fun _ _ x => x)
 obtain ⟨hT, h₂⟩ := h₂
 unfold subscriptTail
 refine wpAny_bind ?_
 rw [getitemInPython_of_ne hT.not_modules]
 refine wpAny_bind (wpAny_specialOf hT hl ?_)
 have fin : wpAny (model prog w) A (subscripted slice false o i) (fun r s₃ => wpAny (model prog w) A (letTemporaryGo value o r >>= fun _ => pure r) Q E s₃) E s₂ := by
  rw [hs o i]
  exact wpAny_operating (wpAny_mono h₂ (fun r s₃ h₃ => wpAny_bind (wpAny_letTemporaryGo (wpAny_pure h₃))) fun _ _ x => x)
 first
  | exact wpAny_pure (wpAny_bind fin)
  | exact wpAny_bind (wpAny_pure (wpAny_bind fin))
  | exact wpAny_bind fin
theorem qN {X : Cx} {pins : List (Addr × Obj)} {σ : St} {H : Hp} {s : Shared} {a : Addr} {y : V} {o : Option V} (I : Inv X pins σ H s) (g : DGet H a y o) : s.TypeIs (.ref a) "dict" := by
 rcases g with ⟨kvs, k, e, _, _⟩ | ⟨kvs, k, b, e, _, _, _⟩
 ·obtain ⟨_, _, vs, _, dd⟩ := oF I.hok e
  exact dd.typeIs
 ·obtain ⟨_, _, xs, _, dd⟩ := oE I.hok e
  exact dd.typeIs
noncomputable def CZ (td ty : TE) : TE := fun σ H Q => td σ H fun x H1 => ty σ H1 fun y H2 => ∃ a v, x = .ref a ∧ DGet H2 a y (some v) ∧ Q v H2
noncomputable def EI (ty td : TE) : TE := fun σ H Q => ty σ H fun y H1 => td σ H1 fun x H2 => ∃ a o, x = .ref a ∧ DGet H2 a y o ∧ Q (.bl o.isSome) H2
noncomputable def nU (ty td : TE) : TE := fun σ H Q => ty σ H fun y H1 => td σ H1 fun x H2 => ∃ a o, x = .ref a ∧ DGet H2 a y o ∧ Q (.bl (!o.isSome)) H2
noncomputable def C8 (td ty tv : TE) : TS := fun D σ H => tv σ H fun v H1 => td σ H1 fun x H2 => ty σ H2 fun y H3 => ∃ a H4, x = .ref a ∧ yX H3 a y v H4 ∧ D.nx σ H4
section
variable {X : Cx} {o i e value : Expr} {pos pos' tpos : Pos} {td ty tv : TE}
theorem A0 (hu : X.A.units + 1 < cLine) (ho : PE X o td) (hi : PE X i ty) (hs : EW i) : PE X (.Subscript o i pos) (CZ td ty) := by
 intro pins s σ H Q I h
 refine Ay PySem.F.slot_dict_getitem.lookup hs (thn (ho pins s σ H _ I h) fun u s1 ⟨x, H1, I1, rx, q1⟩ => thn (hi pins s1 σ H1 _ I1 q1) fun iv s2 hz => ?_)
 obtain ⟨y, H2, I2, ry, a, v, ex, g, q2⟩ := hz
 subst ex
 obtain rfl : u = Value.ref a := rx
 exact ⟨qN I2 g, wB hu I2 g ry fun w' s3 I3 rw' => ⟨v, H2, I3, rw', q2⟩⟩
theorem DJ (hu : X.A.units + 1 < cLine) (hi : PE X i ty) (ho : PE X o td) : PC X .In i o (EI ty td) := by
 intro pins s σ H Q I h
 refine thn (hi pins s σ H _ I h) fun iv s1 ⟨y, H1, I1, ry, q1⟩ => thn (ho pins s1 σ H1 _ I1 q1) fun u s2 hz => ?_
 obtain ⟨x, H2, I2, rx, a, ov, ex, g, q2⟩ := hz
 subst ex
 obtain rfl : u = Value.ref a := rx
 exact IJ hu I2 g ry fun s3 I3 => ⟨.bl ov.isSome, H2, I3, rfl, q2⟩
theorem ve (hu : X.A.units + 1 < cLine) (hi : PE X i ty) (ho : PE X o td) : PC X .NotIn i o (nU ty td) := by
 intro pins s σ H Q I h
 refine thn (hi pins s σ H _ I h) fun iv s1 ⟨y, H1, I1, ry, q1⟩ => thn (ho pins s1 σ H1 _ I1 q1) fun u s2 hz => ?_
 obtain ⟨x, H2, I2, rx, a, ov, ex, g, q2⟩ := hz
 subst ex
 obtain rfl : u = Value.ref a := rx
 exact BG hu I2 g ry fun s3 I3 => ⟨.bl (!ov.isSome), H2, I3, rfl, q2⟩
theorem AQ (hu : X.A.units + 1 < cLine) (ho : PE X o td) (hi : PE X i ty) (hv : PE X value tv) (hs : swapsWith value (some (.Subscript o i pos')) pos.line X.env = pure false) :
  PS X (.Assign [.Subscript o i pos'] value pos) (C8 td ty tv) := by
 intro pins s σ H D I h
 refine wpAny_Assign_Subscript (thn (hv pins s σ H _ I h) fun r s1 ⟨v, H1, I1, rv, q1⟩ => thn (ho pins s1 σ H1 _ I1 q1) fun u s2 ⟨x, H2, I2, rx, q2⟩ => thn (hi pins s2 σ H2 _ I2 q2) fun iv s3 hz => ?_) hs
 obtain ⟨y, H3, I3, ry, a, H4, ex, g, q3⟩ := hz
 subst ex
 obtain rfl : u = Value.ref a := rx
 exact wz hu I3 g ry rv fun s4 I4 => ⟨σ, H4, I4, q3⟩
end
theorem yL {P : Program} {w : World} {H : Hp} (h : Heap) (hb : sysModules < h.objs.size) : dM P w H (h.push { cls := .type "dict", data := .dict #[] }) h.objs.size (.dK []) :=
 ⟨Nat.zero_le _, beq_eq_false_iff_ne.mpr (Ne.symm (Nat.ne_of_lt hb)), [], .nil, Heap.DictOf.new h⟩
theorem yK {P : Program} {w : World} {H : Hp} (h : Heap) (hb : sysModules < h.objs.size) : dM P w H (h.push { cls := .type "dict", data := .dict #[] }) h.objs.size (.dT []) :=
 ⟨Nat.zero_le _, beq_eq_false_iff_ne.mpr (Ne.symm (Nat.ne_of_lt hb)), [], .nil, _, #[], 0, Heap.get?_push_size _ rfl, ⟨rfl, rfl, rfl⟩, rfl, rfl, List.nodup_nil⟩
noncomputable def zg : TE := fun _ H Q => ∀ p, H p = none → Q (.ref p) (upd H p (.dK []))
noncomputable def zf : TE := fun _ H Q => ∀ p, H p = none → Q (.ref p) (upd H p (.dT []))
section
variable {X : Cx} {pos : Pos}
theorem xT : PE X (.Dict [] [] pos) zg := fun pins s σ H Q I h =>
 wpAny_Dict_empty ⟨.ref s.heap.objs.size, _, I.laid (a := s.heap.objs.size) (o := .dK []) (t' := s.toks) (fun _ _ q => Heap.get?_push_of_some _ q) (Nat.le_refl _) (yL s.heap I.big), rfl, h _ (I.hok.fresh (Nat.le_refl _))⟩
theorem xS : PE X (.Dict [] [] pos) zf := fun pins s σ H Q I h =>
 wpAny_Dict_empty ⟨.ref s.heap.objs.size, _, I.laid (a := s.heap.objs.size) (o := .dT []) (t' := s.toks) (fun _ _ q => Heap.get?_push_of_some _ q) (Nat.le_refl _) (yK s.heap I.big), rfl, h _ (I.hok.fresh (Nat.le_refl _))⟩
end
structure M1 (X : Cx) (o : Expr) (m : Str) (apos : Pos) (e : Expr) (cpos : Pos) : Prop where
 base : attributeBase o m X.env (eval o X.env) = eval o X.env
 few : ((backTo cpos (starEach [e] X.env)).all (fun x => !x.1) && (backToKw cpos (keywordEach [] X.env)).all (fun x => x.1.isSome)
  && decide (([e] : List Expr).length + ([] : List Keyword).length + (if ([] : List Keyword).isEmpty then 0 else 1) < 30)) = true
 line : (apos.endLine == cpos.line) = true
 trees : backTo cpos (starEach [e] X.env) = [(false, eval e X.env)]
structure M2 (X : Cx) (o : Expr) (m : Str) (apos : Pos) (e f : Expr) (cpos : Pos) : Prop where
 base : attributeBase o m X.env (eval o X.env) = eval o X.env
 few : ((backTo cpos (starEach [e, f] X.env)).all (fun x => !x.1) && (backToKw cpos (keywordEach [] X.env)).all (fun x => x.1.isSome)
  && decide (([e, f] : List Expr).length + ([] : List Keyword).length + (if ([] : List Keyword).isEmpty then 0 else 1) < 30)) = true
 line : (apos.endLine == cpos.line) = true
 trees : backTo cpos (starEach [e, f] X.env) = [(false, eval e X.env), (false, eval f X.env)]
noncomputable def IsD (H : Hp) (a : Addr) : Prop := (∃ kvs, Rd H a (.dK kvs)) ∨ ∃ kvs, Rd H a (.dT kvs)
theorem vQ {X : Cx} {pins : List (Addr × Obj)} {σ : St} {H : Hp} {s : Shared} {a : Addr} (I : Inv X pins σ H s) (d : IsD H a) :
  s.TypeIs (.ref a) "dict" ∧ (∀ b, Value.ref a = .ref b → ∃ ob, s.heap.get? b = some ob ∧ ob.dict = none) ∧ (a == sysModules) = false := by
 rcases d with ⟨kvs, e⟩ | ⟨kvs, e⟩
 ·obtain ⟨_, hd, vs, _, dd⟩ := oF I.hok e
  refine ⟨dd.typeIs, fun b q => ?_, hd⟩
  cases q
  obtain ⟨ob, _, _, h1, h2, _⟩ := dd
  exact ⟨ob, h1, h2.2.1⟩
 ·obtain ⟨_, hd, xs, _, dd⟩ := oE I.hok e
  refine ⟨dd.typeIs, fun b q => ?_, hd⟩
  cases q
  obtain ⟨ob, _, _, h1, h2, _⟩ := dd
  exact ⟨ob, h1, h2.2.1⟩
section
variable {X : Cx} {pins : List (Addr × Obj)} {σ : St} {H : Hp} {s : Shared} {a : Addr} {y d : V} {u r : Value} {o : Option V} {A : Around} {E : Value → Shared → Prop}
theorem Ez {Q : Value → Shared → Prop} (hu : A.units + 1 < cLine) (I : Inv X pins σ H s) (g : DGet H a y o) (ry : dk y u) (h : ∀ w' s', Inv X pins σ H s' → dk (o.getD .non) w' → Q w' s') :
  wpAny (model X.prog X.w) A (call (.builtin "dict.get") [.ref a, u]) Q E s := by
 rcases g with ⟨kvs, k, e, ey, l⟩ | ⟨kvs, k, b, e, ey, eb, l⟩
 ·subst ey
  obtain ⟨z, hd, vs, rel, dd⟩ := oF I.hok e
  refine call_meetsIn PySem.F.slot_dict_get dd.typeIs PySem.F.entry_dict_get (PySem.F.args_dict_get_2 _ _) (meets_dict_get (cD X.prog X.w) a (qC ry) hd) ⟨_, dd.mapOf, h _ _ (I.tok _) ?_⟩
  rw [l]
  exact (rel.val k).getD rfl
 ·subst ey
  cases (show u = Value.ref b from ry)
  obtain ⟨z, hd, xs, rel, dd⟩ := oE I.hok e
  refine call_meetsIn PySem.F.slot_dict_get dd.typeIs PySem.F.entry_dict_get (PySem.F.args_dict_get_2 _ _) (meetsH_dict_get (tupleKind (cD X.prog X.w)) a b hd) ⟨tupleKind_room_in1 hu, k, xs, md I.hok eb, dd, h _ _ (I.tok _) ?_⟩
  rw [l]
  exact (rel.val k).getD rfl
theorem Ey {Q : Value → Shared → Prop} (hu : A.units + 1 < cLine) (I : Inv X pins σ H s) (g : DGet H a y o) (ry : dk y u) (rd : dk d r) (h : ∀ w' s', Inv X pins σ H s' → dk (o.getD d) w' → Q w' s') :
  wpAny (model X.prog X.w) A (call (.builtin "dict.get") [.ref a, u, r]) Q E s := by
 rcases g with ⟨kvs, k, e, ey, l⟩ | ⟨kvs, k, b, e, ey, eb, l⟩
 ·subst ey
  obtain ⟨z, hd, vs, rel, dd⟩ := oF I.hok e
  refine call_meetsIn PySem.F.slot_dict_get dd.typeIs PySem.F.entry_dict_get (PySem.F.args_dict_get_3 _ _ _) (meets_dict_get_default (cD X.prog X.w) a (qC ry) hd r) ⟨_, dd.mapOf, h _ _ (I.tok _) ?_⟩
  rw [l]
  exact (rel.val k).getD rd
 ·subst ey
  cases (show u = Value.ref b from ry)
  obtain ⟨z, hd, xs, rel, dd⟩ := oE I.hok e
  refine call_meetsIn PySem.F.slot_dict_get dd.typeIs PySem.F.entry_dict_get (PySem.F.args_dict_get_3 _ _ _) (meetsH_dict_get_default (tupleKind (cD X.prog X.w)) a b hd r) ⟨tupleKind_room_in1 hu, k, xs, md I.hok eb, dd, h _ _ (I.tok _) ?_⟩
  rw [l]
  exact (rel.val k).getD rd
end
noncomputable def zi (td ty : TE) : TE := fun σ H Q => td σ H fun x H1 => ∃ a, x = .ref a ∧ IsD H1 a ∧ ty σ H1 fun y H2 => ∃ o, DGet H2 a y o ∧ Q (o.getD .non) H2
noncomputable def zh (td ty tx : TE) : TE := fun σ H Q => td σ H fun x H1 => ∃ a, x = .ref a ∧ IsD H1 a ∧ ty σ H1 fun y H2 => tx σ H2 fun z H3 => ∃ o, DGet H3 a y o ∧ Q (o.getD z) H3
section
variable {X : Cx} {o e f : Expr} {apos cpos : Pos} {td ty tx : TE}
theorem xV (hu : X.A.units + 1 < cLine) (ho : PE X o td) (he : PE X e ty) (m : M1 X o "get" apos e cpos) : PE X (.Call (.Attribute o "get" apos) [e] [] cpos) (zi td ty) := by
 intro pins s σ H Q I h
 refine wpAny_Call_method m.base m.few m.line PySem.F.plainAttrs_dict PySem.F.slot_dict_get PySem.F.type_dict_get (thn (ho pins s σ H _ I h) fun u s1 hz => ?_)
 obtain ⟨x, H1, I1, rx, a, ex, d, q1⟩ := hz
 subst ex
 obtain rfl : u = Value.ref a := rx
 obtain ⟨t1, t2, _⟩ := vQ I1 d
 refine ⟨t1, t2, ?_⟩
 rw [m.trees]
 refine Calls.callWith_builtin rfl (Calls.evalArgs_plain (Calls.spliced_cons (thn (he pins s1 σ H1 _ I1 q1) fun iv s2 ⟨y, H2, I2, ry, ov, g, q2⟩ => Calls.spliced_nil ?_)))
 exact Ez hu I2 g ry fun w' s3 I3 rw' => ⟨_, H2, I3, rw', q2⟩
theorem xU (hu : X.A.units + 1 < cLine) (ho : PE X o td) (he : PE X e ty) (hf : PE X f tx) (m : M2 X o "get" apos e f cpos) : PE X (.Call (.Attribute o "get" apos) [e, f] [] cpos) (zh td ty tx) := by
 intro pins s σ H Q I h
 refine wpAny_Call_method m.base m.few m.line PySem.F.plainAttrs_dict PySem.F.slot_dict_get PySem.F.type_dict_get (thn (ho pins s σ H _ I h) fun u s1 hz => ?_)
 obtain ⟨x, H1, I1, rx, a, ex, d, q1⟩ := hz
 subst ex
 obtain rfl : u = Value.ref a := rx
 obtain ⟨t1, t2, _⟩ := vQ I1 d
 refine ⟨t1, t2, ?_⟩
 rw [m.trees]
 refine Calls.callWith_builtin rfl (Calls.evalArgs_plain (Calls.spliced_cons (thn (he pins s1 σ H1 _ I1 q1) fun iv s2 ⟨y, H2, I2, ry, q2⟩ =>
  Calls.spliced_cons (thn (hf pins s2 σ H2 _ I2 q2) fun fv s3 ⟨z, H3, I3, rz, ov, g, q3⟩ => Calls.spliced_nil ?_))))
 exact Ey hu I3 g ry rz fun w' s4 I4 rw' => ⟨_, H3, I4, rw', q3⟩
end
end L2
namespace Att
open PySem PySem.W PySem.Calls PyProof.Rows
theorem mf {P : Params} {h : Heap} : ∀ (ns : List Int) (vs : List Value), WellAll P h vs (ns.map WData.int) → IntsAre vs ns := by
 intro ns
 induction ns with
 | nil =>
  intro vs w
  rw [List.map_nil] at w
  cases w
  exact .nil
 | cons n ns ih =>
  intro vs w
  rw [List.map_cons] at w
  cases w with
  | cons a b =>
   cases a
   exact .cons _ _ (ih _ b)
theorem uO {l : OpenLaw} {n : Nat} (hn : l.most = some n) {P : Params} {h : Heap} {args : List WData} {vals : List Value}
  (hpre : l.row.toRowW.claim.pre args = true) (hwl : WellAll P h vals args) :
  ∃ a vs ns, vals = [Value.ref a] ∧ args = [WData.list (ns.map WData.int)] ∧ h.get? a = some { cls := .type "list", data := .seq vs.toArray } ∧ IntsAre vs ns ∧ ns.length ≤ n := by
 have hsh : WShape.hasAll [] args [.list .int] = true := (pre_splitW hpre).1
 have hc : l.pre.holds [] { args := args } = true := (pre_splitW hpre).2
 obtain ⟨d, r, rfl, h1, h2⟩ := hasAllW_cons hsh
 obtain rfl := hasAllW_nil h2
 obtain ⟨xs, rfl, h3⟩ := hasW_list h1
 obtain ⟨ns, rfl⟩ := items_int h3
 have gW : ns.length ≤ n := by
  unfold OpenLaw.pre at hc
  have h4 : (WTm.not (.lt (.lit (.int (n : Int))) (.len (.arg 0)))).holds [] { args := [.list (ns.map .int)] } = true := by
   have h4 := (holds_andW hc).1
   rw [hn] at h4
   exact h4
  have h5 := condW_of h4 (w_not (w_lt w_lit (w_len_list (w_arg rfl))))
  rw [List.length_map] at h5
  refine Nat.le_of_not_lt fun q => ?_
  have q' : (n : Int) < ((ns.length : Nat) : Int) := by omega
  first
   | (rw [decide_eq_true q'] at h5; exact absurd h5 (by decide))
   | (simp at h5; omega)
 cases hwl with
 | cons w1 w2 =>
  cases w2
  cases w1 with
  | list ho hall => exact ⟨_, _, ns, rfl, rfl, ho, mf ns _ hall, gW⟩
theorem vb (l : OpenLaw) (args : List WData) : l.row.toRowW.claim.post args (.bool true) args = true :=
 postW_of (r := l.row.toRowW) (X := (true == true))
  (show WShape.has [] (.bool true) .bool = true by first | rfl | decide | simp [WShape.has, WShape.arms, WShape.armsAll])
  (show (WTm.eq .res (.lit (.bool true))).value [] { args := args, res := some (.bool true), after := args } = some (.bool (true == true)) from w_eq_bool (w_res rfl) w_lit) rfl
theorem attach_call {l : OpenLaw} {n : Nat} {q : Program} {loose : List Str} {XP : (Str → Option Value) → Heap → Prop} {YP : World → Heap → Prop} {d : DefRec}
  (hn : l.most = some n) (hdf : d.params.defaults = [])
  (call : ∀ (w : World) (s₀ s₁ : Shared) (mg mb : Str → Option Value) (fa : Addr) (o : Obj) (pm cd doc : Value) (a : Addr) (vs : List Value) (ns : List Int),
   Ground q loose [] XP w s₀ mg mb s₁.heap → YP w s₁.heap →
   s₁.heap.get? fa = some o → o.data = .func (docDef d.name d.params d.body d.scope pm cd doc) → s₁.heap.CodeRec cd d.name → mg d.name = some (.ref fa) →
   s₁.heap.get? a = some { cls := .type "list", data := .seq vs.toArray } → IntsAre vs ns → ns.length ≤ n → s₁.gens = #[] →
   codeAny (model l.prog w) callerA (.call (.ref fa) ⟨[.ref a], []⟩) (fun r s' => r = .ok (.ret (.bool true)) ∧ OldK s₁.heap s'.heap ∧ s'.os = s₁.os ∧ AllBare s'.gens) s₁) :
  WalkO q loose XP YP l.row.toRowW d [] (fun f vs => PySem.call f vs) := by
 intro w s₀ s₁ mg mb G Y fa o pm cd doc dV kV ho hd hcd hD hmg hg args vals as hpre hlay hrd hwl hlo
 obtain rfl : dV = .none := Dflts.none hD hdf
 obtain rfl : kV = .none := Dflts.noKw hD
 obtain ⟨a, vs, ns, rfl, rfl, hobj, hints, gW⟩ := uO hn hpre hwl
 refine enter_call (codeAny_mono (call w s₀ s₁ mg mb fa o pm cd doc a vs ns G Y ho (fd_plain hd) hcd hmg hobj hints gW hg) fun r s' hq => ?_)
 obtain ⟨rfl, h2, h3, h4⟩ := hq
 exact ⟨.inl ⟨.bool true, .bool true, [], rfl, fun _ => rfl, .bool true, vb l _, fun _ => ⟨List.Pairwise.nil, fun _ hm => (nomatch hm)⟩⟩, h2, h3, h4⟩
end Att
namespace L2
open PySem PySem.Spec PyProof.Rows
theorem jC : ∀ {vs : List Value} {ns : List Int}, IntsAre vs ns → cL (ns.map V.int) vs
 | _, _, .nil => .nil
 | _, _, .cons n t h => .cons ⟨t, rfl⟩ (jC h)
noncomputable def Hi (H : Hp) : Prop := ∀ b, H b = none ∨ ∃ o xs, H b = some (.frz o (.lst xs))
theorem yq {P : Program} {w : World} {K : PySem.W.Frag} {mg mb : Str → Option Value} {CX : CXT} {k : Nat} {fa a : Addr} {fd : FuncData} {x : Str} {sp : Sp} {s₁ : Shared} {vs : List Value} {ns : List Int}
  (KX : K.In s₁.heap) (hns : s₁.heap.Ns mainGlobals mg) (hb : s₁.heap.Ns builtinsNs mb) (hbb : ∀ x : Str, x ≠ "__name__" → mb x = bootBuiltins x) (hlim : s₁.heap.NoLimit) (hg : s₁.gens = #[])
  (ha : s₁.heap.get? a = some { cls := .type "list", data := .seq vs.toArray }) (hi : IntsAre vs ns) (hl : ns.length ≤ sizeLine) (hr : iX k callerA)
  (F : ∀ base : Heap, K.In base → base.Ns mainGlobals mg → mX P w K mg base CX k fa fd [x] sp) (hbind : ∀ (s : Shared) (u : Value), BindsTo s fd ⟨[u], []⟩ [(x, u)])
  (hsp : ∀ H : Hp, Hi H → SqL K H a (ns.map V.int) → sp [.ref a] H (fun v _ => v = .bl true) fun _ _ _ => False)
  (hCX : ∀ H e s', CX [] H s₁ (fun _ _ _ => False) e s' → False) :
  codeAny (model P w) callerA (.call (.ref fa) ⟨[.ref a], []⟩) (fun r s' => r = .ok (.ret (.bool true)) ∧ OldK s₁.heap s'.heap ∧ s'.os = s₁.os ∧ AllBare s'.gens) s₁ := by
 have rv := jC hi
 have lenV := hi.length
 have core : ∀ H : Hp, Hi H → SqL K H a (ns.map V.int) → HOk P w H s₁.heap → (∀ b, H b ≠ none → b = a) → (H a ≠ none → K.lookup a = none) →
   codeAny (model P w) callerA (.call (.ref fa) ⟨[.ref a], []⟩) (fun r s' => r = .ok (.ret (.bool true)) ∧ OldK s₁.heap s'.heap ∧ s'.os = s₁.os ∧ AllBare s'.gens) s₁ := by
  intro H hO hS hok hA hK
  have base_of : ∀ {b : Addr} {o : Obj}, s₁.heap.get? b = some o → H b = none → (yw s₁.heap H).get? b = some o := fun e n => yv e n
  have noA : ∀ {b : Addr} {o : Obj} {es : Array DictEntry} {ep : Nat}, s₁.heap.get? b = some o → o.data = .dict es ep → H b = none := fun {b o es ep} e d => by
   cases q : H b with
   | none => rfl
   | some u =>
    have e' : b = a := hA b (by rw [q]; simp)
    subst e'
    rw [ha] at e; cases e
    have d' : Data.seq vs.toArray _ = Data.dict es ep := d
    cases d'
  have nsK : ∀ {b : Addr} {m : Str → Option Value}, s₁.heap.Ns b m → (yw s₁.heap H).Ns b m := fun {b m} ⟨o, es, ep, e, d, r⟩ => ⟨o, es, ep, base_of e (noA e d), d, r⟩
  have hKb : K.In (yw s₁.heap H) := fun b o e => base_of (KX b o e) (by
   cases q : H b with
   | none => rfl
   | some u =>
    have e' : b = a := hA b (by rw [q]; simp)
    subst e'
    rw [hK (by rw [q]; simp)] at e; cases e)
  have hM : Mod K mg (yw s₁.heap H) := ⟨hKb, nsK hns, ⟨mb, nsK hb, hbb⟩, let ⟨mc, h1, h2⟩ := hlim; ⟨mc, nsK h1, h2⟩⟩
  have e0 : BQ P w K mg (yw s₁.heap H) callerA [] s₁ H := ⟨rfl, hM, fun b o e => Bd e, Nat.le_of_eq (vT _ _), trivial, fun b hb => absurd (show b ∈ ([] : List Addr) from hb) (by simp), hok, .of_eq hg⟩
  refine codeAny_mono ((F _ hKb (nsK hns)).run callerA [] s₁ H ⟨[.ref a], []⟩ [.ref a] [.ref a] _ _ hr e0 (hbind s₁ (.ref a)) (.cons rfl .nil) (hsp H hO hS)) fun r s' h => ?_
  cases r with
  | error e => exact (hCX H e s' h).elim
  | ok fl =>
   cases fl with
   | next => exact False.elim h
   | brk => exact False.elim h
   | cont => exact False.elim h
   | ret u =>
    obtain ⟨v, H', os, bare, un, hok', r', q⟩ := h
    have q' : v = .bl true := q
    subst q'
    obtain rfl : u = Value.bool true := r'
    refine ⟨rfl, OldK.of_keep fun b o e => ?_, os, bare⟩
    cases q : H b with
    | none => exact un.keep b o e q (by intro z; exact absurd (show b ∈ ([] : List Addr) from z) (by simp)) (by simp)
    | some u =>
     rcases hO b with z | ⟨ob, xs, z⟩
     ·rw [q] at z; cases z
     ·have z2 := un.frzs b ob _ z
      obtain ⟨e1, _⟩ := hok b _ z
      obtain ⟨e2, _⟩ := hok' b _ z2
      rw [e] at e1; cases e1
      exact e2
 cases hk : K.lookup a with
 | some o =>
  have e := KX a o hk
  rw [ha] at e
  cases e
  refine core (fun _ => none) (fun _ => .inl rfl) (.inr ⟨_, vs.toArray, _, hk, rfl, rfl, rfl, by rw [List.size_toArray, lenV]; exact hl, by simpa using rv⟩) (fun b u z => by have z' : (none : Option HO) = some u := z; cases z') (fun b z => absurd rfl z) fun z => absurd rfl z
 | none =>
  refine core (fun b => if b = a then some (.frz { cls := .type "list", data := .seq vs.toArray } (.lst (ns.map V.int))) else none) (fun b => ?_) (.inl (.inr ⟨{ cls := .type "list", data := .seq vs.toArray }, if_pos rfl⟩)) (fun b u z => ?_) (fun b z => ?_) fun _ => hk
  ·by_cases hb : b = a
   ·exact .inr ⟨_, _, if_pos hb⟩
   ·exact .inl (if_neg hb)
  ·by_cases hb : b = a
   ·have z' := (if_pos hb).symm.trans z
    cases z'
    subst hb
    exact ⟨ha, by rw [List.length_map]; exact hl, vs, _, rv, ha⟩
   ·have z' := (if_neg hb).symm.trans z
    cases z'
  ·by_cases hb : b = a
   ·exact hb
   ·exact absurd (if_neg hb) z
theorem As {l : PySem.W.OpenLaw} {n k : Nat} {q : Program} {loose : List Str} {XP : (Str → Option Value) → Heap → Prop} {YP : World → Heap → Prop} {d : DefRec} {K : Params → PySem.W.Frag} {CX : World → CXT} {sp : World → Sp} {x : Str}
  (hn : l.most = some n) (hn2 : n ≤ sizeLine) (hdf : d.params.defaults = []) (hr : iX k callerA)
  (hY : ∀ (w : World) (h : Heap), YP w h → (K w.params).In h)
  (F : ∀ (w : World) (mg : Str → Option Value) (fa : Addr) (h : Heap), (K w.params).In h → h.Ns mainGlobals mg → mg d.name = some (.ref fa) →
   ∃ fd : FuncData, (∀ (s : Shared) (u : Value), BindsTo s fd ⟨[u], []⟩ [(x, u)]) ∧
    ∀ base : Heap, (K w.params).In base → base.Ns mainGlobals mg → mX l.prog w (K w.params) mg base (CX w) k fa fd [x] (sp w))
  (hsp : ∀ (w : World) (H : Hp) (a : Addr) (ns : List Int), ns.length ≤ n → Hi H → SqL (K w.params) H a (ns.map V.int) → sp w [.ref a] H (fun v _ => v = .bl true) fun _ _ _ => False)
  (hCX : ∀ (w : World) (H : Hp) (s : Shared) (e : Value) (s' : Shared), CX w [] H s (fun _ _ _ => False) e s' → False) :
  PySem.W.WalkO q loose XP YP l.row.toRowW d [] (fun f vs => PySem.call f vs) := by
 refine Att.attach_call hn hdf fun w s₀ s₁ mg mb fa o pm cd doc a vs ns G Y ho hd hcd hmg hobj hints gW hg => ?_
 have KX := hY w _ Y
 obtain ⟨fd, hb, hF⟩ := F w mg fa _ KX G.T.g hmg
 exact yq KX G.T.g G.T.b G.T.builtins G.T.nolimit hg hobj hints (Nat.le_trans gW hn2) hr hF hb (fun H hO hS => hsp w H a ns gW hO hS) fun H e s' => hCX w H s₁ e s'
noncomputable def mi (s : Stmt) (j : Nat) : Stmt := match s with
 | .ClassDef _ _ _ body _ _ _ _ _ _ _ => body.getD j (.Pass ⟨0, 0, 0, 0⟩)
 | _ => .Pass ⟨0, 0, 0, 0⟩
noncomputable def ba (s : Stmt) : Arguments := match s with
 | .FunctionDef _ a _ _ _ _ _ _ _ _ => a
 | _ => { posonlyargs := [], args := [], vararg := none, kwonlyargs := [], kw_defaults := [], kwarg := none, defaults := [] }
noncomputable def aR (s : Stmt) : List Stmt := match s with
 | .FunctionDef _ _ b _ _ _ _ _ _ _ => b
 | _ => []
noncomputable def ax (s : Stmt) : Scope := match s with
 | .FunctionDef _ _ _ _ _ _ sc _ _ _ => sc
 | _ => { kind := .function, names := [], isGenerator := false, isCoroutine := false }
noncomputable abbrev CX0 : CXT := fun _ _ _ _ _ _ => False
noncomputable abbrev E0 : XK := fun _ _ _ => False
theorem A4 {X : Cx} : kK CX0 X E0 := fun _ _ _ _ _ _ _ h => h.elim
structure Fun (K : PySem.W.Frag) (x qual : Str) (st : Stmt) (f : Addr) (fd : FuncData) : Prop where
 ex : ∃ (oc : Value) (od : Option Addr) (kV doc pm : Value) (an : Option Addr) (cdv ct : Value) (osl : Array (Option Value)),
  fd = PySem.W.fnOf x qual (ba st) (aR st) (ax st) .none kV doc pm an cdv ct ∧ K.lookup f = some ⟨oc, od, .func fd, osl⟩ ∧ PySem.W.codeIn K cdv qual = true
 kp : PySem.W.keepIn K (.ref f) = true
section
variable {P : Program} {w : World} {K : PySem.W.Frag} {mg : Str → Option Value} {base : Heap}
theorem Fun.ok {x qual : Str} {st : Stmt} {f : Addr} {fd : FuncData} {N ps : List Str} {k : Nat} {sp : Sp} (F : Fun K x qual st f fd) (S : aW N ps (ax st)) (len : ∀ vs H Q E, sp vs H Q E → vs.length = ps.length)
  (hbody : ∀ (cdv : Value) (A : Around) (outer : List Env) (s : Shared) (H : Hp) (vs : List V) (Q : VK) (E : XK), iX k (A.deeper (envOfC qual (ax st) s.heap.objs.size f cdv)) → sp vs H Q E →
   ∃ t, PSs (t4 CX0 P w K mg base N qual (ax st) f cdv A outer s H E).nox (aR st) t ∧ t { nx := fun _ H' => Q .non H', rt := Q } (jF N vs) H) : mX P w K mg base CX0 (k + 1) f fd ps sp := by
 obtain ⟨oc, od, kV, doc, pm, an, cdv, ct, osl, rfl, lk, hcd⟩ := F.ex
 refine GZ lk hcd S len fun A outer s H vs Q E hr hsp => ?_
 obtain ⟨t, h, q⟩ := hbody cdv A outer s H vs Q E hr hsp
 exact ⟨t, h.nox, q⟩
theorem Fun.binds {x qual : Str} {st : Stmt} {f : Addr} {fd : FuncData} {ps : List Str} (F : Fun K x qual st f fd)
  (h : ∀ (kV doc pm : Value) (an : Option Addr) (cdv ct : Value) (us : List Value), us.length = ps.length → bindArgs (PySem.W.fnOf x qual (ba st) (aR st) (ax st) .none kV doc pm an cdv ct) ⟨us, []⟩ = pure (ps.zip us)) : ib K fd ps [] := by
 obtain ⟨oc, od, kV, doc, pm, an, cdv, ct, osl, rfl, lk, hcd⟩ := F.ex
 exact .all (h kV doc pm an cdv ct)
theorem de {x qual : Str} {st : Stmt} {f : Addr} {oc : Value} {od an : Option Addr} {osl : Array (Option Value)} {kV doc pm cdv ct : Value} (l : K.lookup f = some ⟨oc, od, .func (PySem.W.fnOf x qual (ba st) (aR st) (ax st) .none kV doc pm an cdv ct), osl⟩)
  (c : PySem.W.codeIn K cdv qual = true) (k : PySem.W.keepIn K (.ref f) = true) : Fun K x qual st f (PySem.W.fnOf x qual (ba st) (aR st) (ax st) .none kV doc pm an cdv ct) := ⟨⟨oc, od, kV, doc, pm, an, cdv, ct, osl, rfl, l, c⟩, k⟩
end
theorem fB {A : Around} {k : Nat} (hr : iX k A) : A.units + 1 < cLine := Nat.lt_of_le_of_lt (Nat.add_le_add_left (by decide : 1 ≤ 64) _) hr.units
theorem uL {n : Nat} (h : n ≤ 1000) : n < sizeLine := Nat.lt_of_le_of_lt h (by decide)
section
variable {X : Cx}
theorem pv (i : Nat) {x : Str} {pos : Pos} (hN : X.N[i]? = some x := by rfl) (hv : Vis X.env.scope x := by first | exact Or.inl rfl | exact Or.inr (Or.inl rfl) | exact Or.inr (Or.inr rfl)) (hd : (x == ("__debug__" : Str)) = false := by decide)
  (hcd : (x == ("__classdict__" : Str)) = false := by decide) : PE X (.Name x pos) (EG i) := Du hN hv hd hcd
theorem wJ : iP X (.builtin "len") (fun xs H Q => ∃ a kvs, xs = [V.ref a] ∧ H a = some (.dK kvs) ∧ Q (.int kvs.length) H) := by
 intro pins s σ H xs us Q I r h
 obtain ⟨a, kvs, rfl, ha, q⟩ := h
 obtain ⟨u, rfl, ru⟩ := uE r
 cases ru
 exact Hb I (.inl ha) fun t s' I' => ⟨.int kvs.length, H, I', ⟨t, rfl⟩, q⟩
end
theorem D9 {A B : Prop} (h : B) : if false = true then A else B := by
 rw [if_neg Bool.false_ne_true]
 exact h
theorem D8 {A B : Prop} (h : A) : if true = true then A else B := by
 rw [if_pos rfl]
 exact h
noncomputable def qc (H H' : Hp) : Prop := ∀ b o, H b = some o → H' b = some o
theorem qc.refl (H : Hp) : qc H H := fun _ _ h => h
theorem qc.trans {H H1 H2 : Hp} (a : qc H H1) (b : qc H1 H2) : qc H H2 := fun c o h => b c o (a c o h)
theorem qc.free {H H' : Hp} (e : qc H H') {l : Addr} (h : H' l = Option.none) : H l = Option.none := by
 cases q : H l with
 | none => rfl
 | some o =>
  rw [e l o q] at h
  cases h
end L2
namespace OG
open PySem PySem.Spec PyProof.Rows L2
structure WE (X : Cx) (e : Expr) (t : TE) : Prop where
 h : PE X e t
structure WT (X : Cx) (e : Expr) (t : TT) : Prop where
 h : PT X e t
structure WW (X : Cx) (e : Expr) (t : TT) : Prop where
 h : PW X e t
structure WA (X : Cx) (es : List Expr) (t : TA) : Prop where
 h : PA X es t
structure WS (X : Cx) (st : Stmt) (t : TS) : Prop where
 h : PS X st t
structure WSs (X : Cx) (st : List Stmt) (t : TS) : Prop where
 h : PSs X st t
structure WI (X : Cx) (tg iter : Expr) (wi : TI) : Prop where
 h : PI X tg iter wi
structure WG (X : Cx) (target : Expr) (t : TG) : Prop where
 h : PG X target t
structure WGs (X : Cx) (ts : List Expr) (t : TGs) : Prop where
 h : PGs X ts t
structure WC (X : Cx) (op : CmpOp) (a b : Expr) (t : TE) : Prop where
 h : PC X op a b t
structure WO (X : Cx) (e : Option Expr) (t : TO) : Prop where
 h : PO X e t
section
variable {X : Cx}
theorem af {i j pos} : WE X (.Constant (.int i) j pos) (tC (.int i)) := ⟨DC ⟩
end
section
variable {X : Cx}
theorem dc {b j pos} : WE X (.Constant (.bool b) j pos) (tC (.bl b)) := ⟨Gw ⟩
end
section
variable {X : Cx}
theorem lC {j pos} : WE X (.Constant .none j pos) (tC .non) := ⟨Dz ⟩
end
section
variable {X : Cx}
theorem aA {x j pos} : WE X (.Constant (.str x) j pos) (tC (.str x)) := ⟨Dw ⟩
end
section
variable {X : Cx}
variable {a b : Expr} {ta tb : TE} {pos : Pos}
theorem ux {op : CmpOp} {t : TE} (h : WC X op a b t) (h1 : behindInMarks op b = false := by first | exact nobehind _ (by decide) (by decide) | rfl) : WE X (.Compare a [op] [b] pos) t := ⟨DG h.h h1⟩
end
section
variable {X : Cx}
variable {a b : Expr} {ta tb : TE} {pos : Pos}
theorem ug {op : CmpOp} {t : TE} (h : WC X op a b t) (h1 : behindInMarks op b = false := by first | exact nobehind _ (by decide) (by decide) | rfl) : WT X (.Compare a [op] [b] pos) (tB t) := ⟨Dh h.h h1⟩
end
section
variable {X : Cx}
variable {a b : Expr} {ta tb : TE} {pos : Pos}
theorem Ac {e : Expr} {t : TE} (h : WE X e t) (he : ∀ whole, isTrue e X.env whole = (do let v ← whole; standAt e.pos; holding [v] (truthy v)) := by intro _; rfl) : WT X e (tB t) := ⟨Df h.h he⟩
end
section
variable {X : Cx}
variable {a b : Expr} {ta tb : TE} {pos : Pos}
variable {tA tB' : TT} {rest : List Expr}
theorem xg (ha : WT X a tA) : WW X (.BoolOp .And [a] pos) tA := ⟨AK ha.h⟩
end
section
variable {X : Cx}
variable {a b : Expr} {ta tb : TE} {pos : Pos}
variable {tA tB' : TT} {rest : List Expr}
theorem Aa (ha : WT X a tA) : WW X (.BoolOp .Or [a] pos) tA := ⟨Dd ha.h⟩
end
section
variable {X : Cx}
variable {a b : Expr} {ta tb : TE} {pos : Pos}
variable {tA tB' : TT} {rest : List Expr}
theorem Ab (ha : WT X a tA) (hb : WW X (.BoolOp .And (b :: rest) pos) tB') : WW X (.BoolOp .And (a :: b :: rest) pos) (Ht tA tB') := ⟨De ha.h hb.h⟩
end
section
variable {X : Cx}
variable {a b : Expr} {ta tb : TE} {pos : Pos}
variable {tA tB' : TT} {rest : List Expr}
theorem CF (ha : WT X a tA) (hb : WW X (.BoolOp .Or (b :: rest) pos) tB') : WW X (.BoolOp .Or (a :: b :: rest) pos) (tOr tA tB') := ⟨Gm ha.h hb.h⟩
end
section
variable {X : Cx}
variable {a b : Expr} {ta tb : TE} {pos : Pos}
variable {tA tB' : TT} {rest : List Expr}
theorem Ad (ha : WT X a tA) : WT X (.UnaryOp .Not a pos) (Hn tA) := ⟨Dg ha.h⟩
end
section
variable {X : Cx}
variable {a b : Expr} {ta tb : TE} {pos : Pos}
variable {tA tB' : TT} {rest : List Expr}
theorem Aj {op} {t : TE} (h : WE X a t) : WE X (.BoolOp op [a] pos) t := ⟨Dx h.h⟩
end
section
variable {X : Cx}
variable {a b : Expr} {ta tb : TE} {pos : Pos}
variable {tA tB' : TT} {rest : List Expr}
theorem An (ha : WE X a ta) (hb : WE X (.BoolOp .And (b :: rest) pos) tb) : WE X (.BoolOp .And (a :: b :: rest) pos) (C4 ta tb) := ⟨DI ha.h hb.h⟩
end
section
variable {X : Cx}
variable {a b : Expr} {ta tb : TE} {pos : Pos}
variable {tA tB' : TT} {rest : List Expr}
theorem Ak (ha : WE X a ta) : WE X (.UnaryOp .Not a pos) (CV ta) := ⟨Dy ha.h⟩
end
section
variable {X : Cx} {st : Stmt} {rest : List Stmt} {t u : TS} {e : Expr} {te : TE} {pos : Pos}
theorem xi  : WSs X [] CW := ⟨AN ⟩
end
section
variable {X : Cx} {st : Stmt} {rest : List Stmt} {t u : TS} {e : Expr} {te : TE} {pos : Pos}
theorem oW (h1 : WS X st t) (h2 : WSs X rest u) : WSs X (st :: rest) (Hl t u) := ⟨xN h1.h h2.h⟩
end
section
variable {X : Cx} {st : Stmt} {rest : List Stmt} {t u : TS} {e : Expr} {te : TE} {pos : Pos}
theorem qZ (h1 : WS X st t) : WSs X [st] t := ⟨AM h1.h⟩
end
section
variable {X : Cx} {st : Stmt} {rest : List Stmt} {t u : TS} {e : Expr} {te : TE} {pos : Pos}
theorem xj (he : WE X e te) (hs : swapsWith e none pos.line X.env = pure false := by rfl) : WS X (.Expr e pos) (CY te) := ⟨AO he.h hs⟩
end
section
variable {X : Cx} {st : Stmt} {rest : List Stmt} {t u : TS} {e : Expr} {te : TE} {pos : Pos}
theorem ui (he : WE X e te) : WS X (.Return (some e) pos) (Hm te) := ⟨Dj he.h⟩
end
section
variable {X : Cx} {st : Stmt} {rest : List Stmt} {t u : TS} {e : Expr} {te : TE} {pos : Pos}
theorem CH {c : Expr} {a b : List Stmt} {tc : TT} (hc : WT X c tc) (ha : WSs X a t) (hb : WSs X b u) : WS X (.If c a b pos) (Hq tc t u) := ⟨Gn hc.h ha.h hb.h⟩
end
section
variable {X : Cx} {pos : Pos}
theorem bO {i : Nat} {x : Str} (hN : X.N.Nodup) (hi : X.N[i]? = some x) (hx : Loc X.env.scope x) (hf : X.fn x = true ∨ X.env.scope.names.lookup x = some .local := by first | exact .inl rfl | exact .inr rfl | assumption) : WG X (.Name x pos) (tw i) := ⟨AX hN hi hx hf⟩
end
section
variable {X : Cx} {pos : Pos}
theorem xl  : WGs X [] HL := ⟨AW ⟩
end
section
variable {X : Cx} {pos : Pos}
theorem uk {e : Expr} {es : List Expr} {t : TG} {u : TGs} (h1 : WG X e t) (h2 : WGs X es u) (hs : (assignEach (e :: es) X.env).map (·.2) = assign e X.env :: (assignEach es X.env).map (·.2) := by rfl) : WGs X (e :: es) (Ek t u) := ⟨xP h1.h h2.h hs⟩
end
section
variable {X : Cx} {pos : Pos}
theorem Ah {es : List Expr} {k : Nat} {t : TGs} {n : Nat} (hc : X.calm = true) (h : WGs X es t) (hn : (assignEach es X.env).length = n := by rfl) (hst : (assignEach es X.env).findIdx? (·.1) = none := by rfl) : WG X (.Tuple es k pos) (HJ X.K n t) := ⟨Dr hc h.h hn hst⟩
end
section
variable {X : Cx} {pos : Pos}
theorem Ai {o i : Expr} {to ti : TE} {t : EV} (ho : WE X o to) (hi : WE X i ti) (hs : Hh X t) (ha : ∀ v, assign (.Subscript o i pos) X.env v = (do
   let ov ← holding [v] (eval o X.env)
   let iv ← holding [v, ov] (eval i X.env)
   standAt pos
   holding [v, ov, iv] (setItem ov iv v)
   release [v, ov, iv] []) := by intro _; rfl) : WG X (.Subscript o i pos) (HK to ti t) := ⟨Ds ho.h hi.h hs ha⟩
end
section
variable {X : Cx} {pos : Pos}
theorem uj {tg e : Expr} {te : TE} {g : TG} (he : WE X e te) (hg : WG X tg g) (hs : swapsWithSole [tg] e pos.line X.env = pure false := by rfl) (hw : swappedStores [tg] e X.env = pure none := by rfl) (h1 : (assignEach [tg] X.env).map (·.2) = [assign tg X.env] := by rfl) : WS X (.Assign [tg] e pos) (C3 te g) := ⟨Dp he.h hg.h hs hw h1⟩
end
section
variable {X : Cx} {pos : Pos}
theorem uh {i : Nat} {x : Str} {e : Expr} {te : TE} {pos' : Pos} (hN : X.N.Nodup) (hi : X.N[i]? = some x) (hx : Loc X.env.scope x) (he : WE X e te) (hs : swapsWith e (some (.Name x pos')) pos.line X.env = pure false := by rfl) (hf : X.fn x = true ∨ X.env.scope.names.lookup x = some .local := by first | exact .inl rfl | exact .inr rfl | assumption) : WS X (.Assign [.Name x pos'] e pos) (C3 te (tw i)) := ⟨Di hN hi hx he.h hs hf⟩
end
section
variable {X : Cx} {tg : Expr}
theorem xk {l : Expr} {tl : TE} (hl : WE X l tl) : WI X tg l (Eg X.K tl) := ⟨AV hl.h⟩
end
section
variable {X : Cx} {tg : Expr}
theorem Ag {l : Expr} {tl : TE} (hl : WE X l tl) : WI X tg l (HI X.K tl) := ⟨Dq hl.h⟩
end
section
variable {X : Cx} {tg : Expr}
theorem sJ {a : Expr} {ta : TA} {p pos : Pos} (hg : Gl X "range") (hm : X.mg "range" = none) (ha : WA X [a] ta) (hs : starEach [a] X.env = [(false, eval a X.env)] := by rfl) : WI X tg (.Call (.Name "range" p) [a] [] pos) (Ef ta) := ⟨vc hg hm ha.h hs⟩
end
section
variable {X : Cx} {tg : Expr}
theorem Ae {iter : Expr} {body : List Stmt} {wi : TI} {g : TG} {tb : TS} {pos : Pos} (hp : PassesOwn (model X.prog X.w) X.A X.env X.xe) (hc : X.calm = true) (hi : WI X tg iter wi) (hg : WG X tg g) (hb : WSs X body tb) (hs : ∀ x, foldedSetIterable iter X.env x = pure x := by intro _; rfl) : WS X (.For tg iter body [] pos) (Gb wi g tb) := ⟨Dk hp hc hi.h hg.h hb.h hs⟩
end
section
variable {X : Cx} {a b c : Expr} {ta tb tc : TE} {pos : Pos}
theorem CK {op : Operator} {r : R2} (ho : OpR X (binaryOp op) r) (ha : WE X a ta) (hb : WE X b tb) : WE X (.BinOp a op b pos) (tOp r ta tb) := ⟨Gs ho ha.h hb.h⟩
end
section
variable {X : Cx} {a b c : Expr} {ta tb tc : TE} {pos : Pos}
theorem CJ {op : UnaryOp} {r : V → Hp → VK → Prop} (ho : UnR X (unaryOp op) r) (ha : WE X a ta) : WE X (.UnaryOp op a pos) (tUn r ta) := ⟨Gr ho ha.h⟩
end
section
variable {X : Cx} {a b c : Expr} {ta tb tc : TE} {pos : Pos}
theorem nQ {op : CmpOp} {r : R2} (ho : OpR X (compareOp op) r) (ha : WE X a ta) (hb : WE X b tb) (hm : behindInMarks op b = false) : WE X (.Compare a [op] [b] pos) (tOp r ta tb) := ⟨A1 ho ha.h hb.h hm⟩
end
section
variable {X : Cx} {a b c : Expr} {ta tb tc : TE} {pos : Pos}
theorem nO {op : CmpOp} {r : R2} (ho : OpR X (compareOp op) r) (ha : WE X a ta) (hb : WE X b tb) (hm : behindInMarks op b = false) : WT X (.Compare a [op] [b] pos) (CQ (tOp r ta tb)) := ⟨AL ho ha.h hb.h hm⟩
end
section
variable {X : Cx} {a b c : Expr} {ta tb tc : TE} {pos : Pos}
theorem uy {op op' : CmpOp} {r r' : R2} (ho : OpR X (compareOp op) r) (ho' : OpR X (compareOp op') r') (ha : WE X a ta) (hb : WE X b tb) (hc : WE X c tc) (hm : lastMarks [op, op'] [b, c] = false := by with_unfolding_all rfl) : WE X (.Compare a [op, op'] [b, c] pos) (uK r r' ta tb tc) := ⟨xW ho ho' ha.h hb.h hc.h hm⟩
end
section
variable {X : Cx} {o e value : Expr} {f : Str} {pos pos' tpos : Pos} {ta tv : TE}
theorem Am (he : WE X e ta) (hb : attributeBase e f X.env (eval e X.env) = eval e X.env) : WE X (.Attribute e f pos) (Hr X.K ta f) := ⟨DD he.h hb⟩
end
section
variable {X : Cx} {o e value : Expr} {f : Str} {pos pos' tpos : Pos} {ta tv : TE}
theorem Af (ha : WE X o ta) (hv : WE X value tv) (hs : swapsWith value (some (.Attribute o f pos')) pos.line X.env = pure false) : WS X (.Assign [.Attribute o f pos'] value pos) (Hv X.K ta tv f) := ⟨Dm ha.h hv.h hs⟩
end
section
variable {X : Cx} {e : Expr} {es : List Expr} {te : TE} {t : TA} {pos : Pos}
theorem jW  : WA X [] EH := ⟨DK ⟩
end
section
variable {X : Cx} {e : Expr} {es : List Expr} {te : TE} {t : TA} {pos : Pos}
theorem fz (ha : WE X e te) (hr : WA X es t) (hs : starEach (e :: es) X.env = (false, eval e X.env) :: starEach es X.env := by rfl) : WA X (e :: es) (C1 te t) := ⟨A5 ha.h hr.h hs⟩
end
section
variable {X : Cx} {e : Expr} {es : List Expr} {te : TE} {t : TA} {pos : Pos}
theorem um {x1} (h : WA X es t) : WE X (.Tuple es x1 pos) (Hk t) := ⟨Dv h.h⟩
end
section
variable {X : Cx} {e : Expr} {es : List Expr} {te : TE} {t : TA} {pos : Pos}
theorem uq (h : WA X es t) : WE X (.List es pos) (Ho t) := ⟨DB h.h⟩
end
section
variable {X : Cx} {CX : CXT} {k : Nat} {f C : Addr} {fd : FuncData} {ps : List Str} {sp : Sp} {dvs : List V} {ds : List Value} {E : XK} {x m : Str} {p pos apos : Pos} {e o : Expr} {es : List Expr} {ta : TE} {t : TA}
theorem xm {pl : Sem Bool} (he : WE X o ta) (c : Cls X.K C) (hm : t5 X.K C m f) (F : mX X.prog X.w X.K X.mg X.base CX k f fd ps sp) (hr : iX k X.A) (hb : ib X.K fd ps ds) (hd : cL dvs ds) (hx : kK CX X E) (ha : WA X (e :: es) t) (hst : starEach (e :: es) X.env = (false, eval e X.env) :: starEach es X.env := by rfl) (hpl : (backTo pos (starEach es X.env)).any (·.1) = false := by rfl) (ht : eval (.Call (.Attribute o m apos) (e :: es) [] pos) X.env = (do
   let ov ← eval o X.env
   standAt apos.atName
   let (f, first) ← holding [ov] (getMethod ov m pl)
   callWith pos f first (backTo pos (starEach (e :: es) X.env)) (backToKw pos (keywordEach [] X.env))) := by rfl) : WE X (.Call (.Attribute o m apos) (e :: es) [] pos) (Av C m sp dvs E ta t) := ⟨AY he.h c hm F hr hb hd hx ha.h hst hpl ht⟩
end
section
variable {X : Cx} {CX : CXT} {k : Nat} {f C : Addr} {fd : FuncData} {ps : List Str} {sp : Sp} {dvs : List V} {ds : List Value} {E : XK} {x m : Str} {p pos apos : Pos} {e o : Expr} {es : List Expr} {ta : TE} {t : TA}
theorem uo (M : Mk X.K C f) (F : mX X.prog X.w X.K X.mg X.base CX k f fd ps sp) (hr : iX (k + 1) X.A) (hg : Gl X x) (hm : X.mg x = some (.ref C)) (hb : ib X.K fd ps ds) (hd : cL dvs ds) (hx : kK CX X E) (hdb : (x == ("__debug__" : Str)) = false := by decide) : WE X (.Call (.Name x p) [] [] pos) (Aw C sp dvs E EH) := ⟨xR M F hr hg hm hb hd hx hdb⟩
end
section
variable {X : Cx} {x : Str} {p pos : Pos} {e : Expr} {es : List Expr} {t : TA} {id T : String} {r : List V → Hp → VK → Prop}
theorem oX (hc : iP X (.builtin id) r) (hg : Gl X x) (hm : X.mg x = none) (hv : bootBuiltins x = some (.builtin id)) (ha : WA X (e :: es) t) (hn : x ≠ "__name__" := by decide) (hdb : (x == ("__debug__" : Str)) = false := by decide) (he : starEach (e :: es) X.env = (false, eval e X.env) :: starEach es X.env := by rfl) (hpl : (backTo pos (starEach es X.env)).any (·.1) = false := by rfl) : WE X (.Call (.Name x p) (e :: es) [] pos) (tCB r t) := ⟨xX hc hg hm hv ha.h hn hdb he hpl⟩
end
section
variable {X : Cx} {x : Str} {p pos : Pos} {e : Expr} {es : List Expr} {t : TA} {id T : String} {r : List V → Hp → VK → Prop}
theorem nu (hc : iP X (.type T) r) (hg : Gl X x) (hm : X.mg x = none) (hv : bootBuiltins x = some (.type T)) (ha : WA X (e :: es) t) (hn : x ≠ "__name__" := by decide) (hdb : (x == ("__debug__" : Str)) = false := by decide) (he : starEach (e :: es) X.env = (false, eval e X.env) :: starEach es X.env := by rfl) (hpl : (backTo pos (starEach es X.env)).any (·.1) = false := by rfl) : WE X (.Call (.Name x p) (e :: es) [] pos) (tCB r t) := ⟨vd hc hg hm hv ha.h hn hdb he hpl⟩
end
section
variable {X : Cx} {e : Expr} {te : TE} {lo hi : Option Expr} {tl th : TO} {pos p2 : Pos}
theorem rb  : WO X none uJ := ⟨AS ⟩
end
section
variable {X : Cx} {e : Expr} {te : TE} {lo hi : Option Expr} {tl th : TO} {pos p2 : Pos}
theorem q5 (h : WE X e te) : WO X (some e) (CU te) := ⟨AR h.h⟩
end
section
variable {X : Cx} {e : Expr} {te : TE} {lo hi : Option Expr} {tl th : TO} {pos p2 : Pos}
theorem lA {r : V → Option Int → Option Int → Hp → VK → Prop} (hr : SlR X r) (he : WE X e te) (hl : WO X lo tl) (hu : WO X hi th) : WE X (.Subscript e (.Slice lo hi none p2) pos) (tSl r te tl th) := ⟨xQ hr he.h hl.h hu.h⟩
end
section
variable {X : Cx} {a b : Expr} {ta tb : TE} {pos : Pos}
theorem CL {r : R2} (hr : IxR X r) (ha : WE X a ta) (hb : WE X b tb) (hs : qU b) : WE X (.Subscript a b pos) (tOp r ta tb) := ⟨Gu hr ha.h hb.h hs⟩
end
section
variable {X : Cx} {a b : Expr} {ta tb : TE} {pos : Pos}
variable {o e : Expr} {es : List Expr} {to : TE} {t : TA} {name : Str} {apos cpos : Pos} {T id : String} {r : V → List V → Hp → VK → Prop}
theorem uz (pa : PlainAttrs T) (slot : Slot T name id) (hty : typeOf (.builtin id) = pure (.type "method_descriptor")) (hm : MtR X id r) (ho : WE X o to) (hbase : attributeBase o name X.env (eval o X.env) = eval o X.env := by rfl) (hline : (apos.endLine == cpos.line) = true := by rfl) : WE X (.Call (.Attribute o name apos) [] [] cpos) (Hs X.K T r to) := ⟨DH pa slot hty hm ho.h hbase hline⟩
end
section
variable {X : Cx} {a b : Expr} {ta tb : TE} {pos : Pos}
variable {o e : Expr} {es : List Expr} {to : TE} {t : TA} {name : Str} {apos cpos : Pos} {T id : String} {r : V → List V → Hp → VK → Prop}
theorem uA (pa : PlainAttrs T) (slot : Slot T name id) (hty : typeOf (.builtin id) = pure (.type "method_descriptor")) (hm : MtR X id r) (ho : WE X o to) (ha : WA X (e :: es) t) (hbase : attributeBase o name X.env (eval o X.env) = eval o X.env := by rfl) (hfew : ((backTo cpos (starEach (e :: es) X.env)).all (fun x => !x.1) && (backToKw cpos (keywordEach [] X.env)).all (fun x => x.1.isSome)
   && decide ((e :: es).length + ([] : List Keyword).length + (if ([] : List Keyword).isEmpty then 0 else 1) < 30)) = true := by rfl) (hline : (apos.endLine == cpos.line) = true := by rfl) (hs : starEach (e :: es) X.env = (false, eval e X.env) :: starEach es X.env := by rfl) (hplain : (backTo cpos (starEach es X.env)).any (·.1) = false := by rfl) : WE X (.Call (.Attribute o name apos) (e :: es) [] cpos) (tBM X.K T r to t) := ⟨Gv pa slot hty hm ho.h ha.h hbase hfew hline hs hplain⟩
end
section
variable {X : Cx} {o i e value : Expr} {pos pos' tpos : Pos} {td ty tv : TE}
theorem xn (hu : X.A.units + 1 < cLine) (ho : WE X o td) (hi : WE X i ty) (hs : EW i) : WE X (.Subscript o i pos) (CZ td ty) := ⟨A0 hu ho.h hi.h hs⟩
end
section
variable {X : Cx} {o i e value : Expr} {pos pos' tpos : Pos} {td ty tv : TE}
theorem uB (hu : X.A.units + 1 < cLine) (hi : WE X i ty) (ho : WE X o td) : WC X .In i o (EI ty td) := ⟨DJ hu hi.h ho.h⟩
end
section
variable {X : Cx} {o i e value : Expr} {pos pos' tpos : Pos} {td ty tv : TE}
theorem nv (hu : X.A.units + 1 < cLine) (hi : WE X i ty) (ho : WE X o td) : WC X .NotIn i o (nU ty td) := ⟨ve hu hi.h ho.h⟩
end
section
variable {X : Cx} {o i e value : Expr} {pos pos' tpos : Pos} {td ty tv : TE}
theorem nP (hu : X.A.units + 1 < cLine) (ho : WE X o td) (hi : WE X i ty) (hv : WE X value tv) (hs : swapsWith value (some (.Subscript o i pos')) pos.line X.env = pure false) : WS X (.Assign [.Subscript o i pos'] value pos) (C8 td ty tv) := ⟨AQ hu ho.h hi.h hv.h hs⟩
end
section
variable {X : Cx} {pos : Pos}
theorem uu  : WE X (.Dict [] [] pos) zg := ⟨xT ⟩
end
section
variable {X : Cx} {pos : Pos}
theorem ur  : WE X (.Dict [] [] pos) zf := ⟨xS ⟩
end
section
variable {X : Cx} {o e f : Expr} {apos cpos : Pos} {td ty tx : TE}
theorem uw (hu : X.A.units + 1 < cLine) (ho : WE X o td) (he : WE X e ty) (m : M1 X o "get" apos e cpos) : WE X (.Call (.Attribute o "get" apos) [e] [] cpos) (zi td ty) := ⟨xV hu ho.h he.h m⟩
end
section
variable {X : Cx} {o e f : Expr} {apos cpos : Pos} {td ty tx : TE}
theorem uv (hu : X.A.units + 1 < cLine) (ho : WE X o td) (he : WE X e ty) (hf : WE X f tx) (m : M2 X o "get" apos e f cpos) : WE X (.Call (.Attribute o "get" apos) [e, f] [] cpos) (zh td ty tx) := ⟨xU hu ho.h he.h hf.h m⟩
end
section
variable {X : Cx}
theorem wpv (i : Nat) {x : Str} {pos : Pos} (hN : X.N[i]? = some x := by rfl) (hv : Vis X.env.scope x := by first | exact Or.inl rfl | exact Or.inr (Or.inl rfl) | exact Or.inr (Or.inr rfl)) (hd : (x == ("__debug__" : Str)) = false := by decide) (hcd : (x == ("__classdict__" : Str)) = false := by decide) : WE X (.Name x pos) (EG i) := ⟨pv i hN hv hd hcd⟩
end
theorem WW.pt {X : Cx} {e : Expr} {t : TT} (h : WW X e t) : WT X e t := ⟨h.h.pt⟩
section
variable {X : Cx} {a b c e : Expr} {ta tb tc : TE} {pos : Pos}
noncomputable def tW (i j : Int) : Prop := 0 < j ∧ j.natAbs.log2 < 9000
theorem n5 : OpR X (binaryOp .FloorDiv) (rI tW fun i j => .int (i / j)) := opI fun i j _ _ _ _ _ hc q => by
 refine PyProof.Rows.floordiv_int (by have := hc.1; omega) ?_ (.inl (PyProof.noPylong_of_log2 hc.2))
 rw [Int.fdiv_eq_ediv_of_nonneg i (Int.le_of_lt hc.1)]
 exact q
theorem lO : OpR X (compareOp .IsNot) (fun x y H Q => ∃ k l, x = .bl k ∧ y = .bl l ∧ Q (.bl (k != l)) H) := by
 rintro pins s σ H x y v u Q I rx ry ⟨k, l, rfl, rfl, q⟩
 cases rx; cases ry
 exact PyProof.Rows.isnot_bool ⟨.bl (k != l), H, I, rfl, q⟩
theorem qP : iP X (.builtin "isinstance") (fun xs H Q => ∃ (x : V) (T : String) (t : Value) (k : Bool), xs = [x, .ty T] ∧ sC X.K H x t ∧ PySem.W.kitOne X.K t (.type T) = some k ∧ Q (.bl k) H) := by
 rintro pins s σ H xs us Q I r ⟨x, T, t, k, rfl, ty, e, q⟩
 obtain ⟨u, w', rfl, ru, rw'⟩ := CO r
 cases rw'
 exact vM I ru ty e fun tk => ⟨.bl k, H, I.tok tk, rfl, q⟩
end
theorem dQ {H : Hp} {p : Addr} (h : H p = none) (o : HO) : qc H (upd H p o) := fun b u q => by rw [bF (dj q h)]; exact q
noncomputable def Def (K : PySem.W.Frag) (mg : Str → Option Value) (x : Str) (st : Stmt) (ps : List Str) : Prop :=
 ∃ f fd, Fun K x x st f fd ∧ ib K fd ps [] ∧ mg x = some (.ref f)
noncomputable def Has (P : Program) (w : World) (K : PySem.W.Frag) (mg : Str → Option Value) (base : Heap) (x : Str) (k : Nat) (ps : List Str) (sp : Sp) : Prop :=
 ∃ f fd, mX P w K mg base CX0 k f fd ps sp ∧ ib K fd ps [] ∧ PySem.W.keepIn K (.ref f) = true ∧ mg x = some (.ref f)
section
variable {P : Program} {w : World} {K : PySem.W.Frag} {mg : Str → Option Value} {base : Heap} {x : Str} {st : Stmt} {ps N : List Str} {k j : Nat} {sp sp' : Sp}
theorem Has.mono (h : Has P w K mg base x j ps sp) (l : j ≤ k) : Has P w K mg base x k ps sp := by
 obtain ⟨f, fd, a, b, c, d⟩ := h
 exact ⟨f, fd, a.mono l, b, c, d⟩
theorem Def.has (d : Def K mg x st ps) (S : aW N ps (ax st)) (len : ∀ vs H Q E, sp vs H Q E → vs.length = ps.length)
  (hbody : ∀ (f : Addr) (cdv : Value) (A : Around) (outer : List Env) (s : Shared) (H : Hp) (vs : List V) (Q : VK) (E : XK), iX k (A.deeper (envOfC x (ax st) s.heap.objs.size f cdv)) → sp vs H Q E →
   ∃ t, WSs (t4 CX0 P w K mg base N x (ax st) f cdv A outer s H E).nox (aR st) t ∧ t { nx := fun _ H' => Q .non H', rt := Q } (jF N vs) H) : Has P w K mg base x (k + 1) ps sp := by
 obtain ⟨f, fd, F, b, m⟩ := d
 exact ⟨f, fd, F.ok S len (fun cdv A outer s H vs Q E hr h => let ⟨t, a, b⟩ := hbody f cdv A outer s H vs Q E hr h; ⟨t, a.h, b⟩), b, F.kp, m⟩
end
theorem zc {X : Cx} {k : Nat} {ps : List Str} {sp : Sp} {x : Str} {p pos : Pos} {e : Expr} {es : List Expr} {t : TA} (F : Has X.prog X.w X.K X.mg X.base x k ps sp) (hr : iX k X.A) (hg : Gl X x)
  (ha : WA X (e :: es) t) (hdb : (x == ("__debug__" : Str)) = false := by decide) (he : starEach (e :: es) X.env = (false, eval e X.env) :: starEach es X.env := by rfl) (hpl : (backTo pos (starEach es X.env)).any (·.1) = false := by rfl) :
  WE X (.Call (.Name x p) (e :: es) [] pos) (C2 sp [] E0 t) := by
 obtain ⟨f, fd, a, b, c, d⟩ := F
 exact ⟨A2 a hr hg d c b .nil A4 ha.h hdb he hpl⟩
structure Blt (mg : Str → Option Value) : Prop where
 len : mg "len" = none
 isinstance : mg "isinstance" = none
 int : mg "int" = none
 bool : mg "bool" = none
 str : mg "str" = none
 tuple : mg "tuple" = none
 list : mg "list" = none
 range : mg "range" = none
 min : mg "min" = none
 sum : mg "sum" = none
 all : mg "all" = none
 zip : mg "zip" = none
 sorted : mg "sorted" = none
 dict : mg "dict" = none
 enumerate : mg "enumerate" = none
 any : mg "any" = none
 max : mg "max" = none
 set : mg "set" = none
theorem zk {n : Nat} (h : n ≤ 1000) : n ≤ sizeLine := Nat.le_of_lt (uL h)
theorem sX {n : Nat} (h : n < 2 ^ 60) : n.log2 < 1920 := by
 by_cases e : n = 0
 ·subst e; decide
 ·have := (Nat.log2_lt e).mpr h; omega
theorem yM (ns : List Int) (lo hi : Option Int) : wD (ns.map V.int) lo hi = ((ns.drop (HT.sIx (ns.map V.int).length 0 lo)).take (HT.sIx (ns.map V.int).length (ns.map V.int).length hi - HT.sIx (ns.map V.int).length 0 lo)).map V.int := by
 unfold wD
 rw [List.map_take, List.map_drop]
noncomputable def xB (K : PySem.W.Frag) : Sp := fun vs H Q _ => ∃ (a : Addr) (ns : List Int), vs = [.ref a] ∧ SqL K H a (ns.map V.int) ∧ ns.length ≤ 63 ∧ ∀ H', Q (.bl true) H'
theorem sx : bootBuiltins "int" = some (.type "int") := rfl
theorem mN : bootBuiltins "bool" = some (.type "bool") := rfl
theorem yP : bootBuiltins "str" = some (.type "str") := rfl
theorem gO : bootBuiltins "tuple" = some (.type "tuple") := rfl
theorem fK : bootBuiltins "list" = some (.type "list") := rfl
theorem mM : bootBuiltins "isinstance" = some (.builtin "isinstance") := rfl
theorem i9 {X : Cx} {x : Str} {T : String} {pos : Pos} (hg : Gl X x) (hm : X.mg x = none) (hv : bootBuiltins x = some (.type T)) (hn : x ≠ "__name__" := by decide) (hd : (x == ("__debug__" : Str)) = false := by decide) : WE X (.Name x pos) (tC (.ty T)) :=
 ⟨A3 hg hm hv rfl hn hd⟩
theorem rg {X : Cx} {x : Str} {i : Int} {pos : Pos} (hg : Gl X x) (hm : ∃ t, X.mg x = some (.int i t)) (hd : (x == ("__debug__" : Str)) = false := by decide) : WE X (.Name x pos) (tC (.int i)) := by
 obtain ⟨t, hm⟩ := hm
 exact ⟨AZ hg hm ⟨t, rfl⟩ hd⟩
theorem wR {α : Type} {xs : List α} {k : Int} {v : α} (h0 : 0 ≤ k) (h : xs[k.toNat]? = some v) : atI xs k = some v := by
 have ek : k = ((k.toNat : Nat) : Int) := by omega
 rw [ek]; exact cS h
theorem Fun.okW {P : Program} {w : World} {K : PySem.W.Frag} {mg : Str → Option Value} {base : Heap} {x qual : Str} {st : Stmt} {f : Addr} {fd : FuncData} {N ps : List Str} {k : Nat} {sp : Sp} (F : Fun K x qual st f fd) (S : aW N ps (ax st)) (len : ∀ vs H Q E, sp vs H Q E → vs.length = ps.length)
  (hbody : ∀ (cdv : Value) (A : Around) (outer : List Env) (s : Shared) (H : Hp) (vs : List V) (Q : VK) (E : XK), iX k (A.deeper (envOfC qual (ax st) s.heap.objs.size f cdv)) → sp vs H Q E →
   ∃ t, WSs (t4 CX0 P w K mg base N qual (ax st) f cdv A outer s H E).nox (aR st) t ∧ t { nx := fun _ H' => Q .non H', rt := Q } (jF N vs) H) : mX P w K mg base CX0 (k + 1) f fd ps sp :=
 F.ok S len fun cdv A outer s H vs Q E hr h => let ⟨t, a, b⟩ := hbody cdv A outer s H vs Q E hr h; ⟨t, a.h, b⟩
noncomputable def sD (env : Env) : List (Str × Addr) → Prop
 | [] => True
 | p :: r => env.cells.lookup p.1 = some p.2 ∧ sD env r
theorem sD.look {env : Env} : ∀ {cl : List (Str × Addr)} {y : Str} {c : Addr}, sD env cl → cl.lookup y = some c → env.cells.lookup y = some c
 | [], _, _, _, h => by simp at h
 | (n, d) :: r, y, c, a, h => by
  obtain ⟨a1, a2⟩ := a
  rw [List.lookup_cons] at h
  by_cases e : (y == n) = true
  ·rw [e] at h
   have e' : y = n := by simpa using e
   subst e'
   cases h
   exact a1
  ·have e' : (y == n) = false := by simpa using e
   rw [e'] at h
   exact sD.look a2 h
noncomputable abbrev cxC (X : Cx) (Nc : List Str) (scope : Scope) (cl : List (Str × Addr)) (s3 : Shared) (H3 : Hp) (fp : List Addr) : Cx where
 prog := X.prog
 w := X.w
 K := X.K
 mg := X.mg
 base := X.base
 A := X.A
 N := Nc
 s₀ := s3
 H₀ := H3
 env := compEnvC scope cl s3.heap.objs.size X.env
 outer := X.stack
 stack := X.stack
 ex := fp
 fn := fun _ => false
 calm := X.calm
 pn := []
 xe := fun _ _ => False
noncomputable def stC (n : Nat) (caps : List Nat) (σ : L2.St) : L2.St := List.replicate n none ++ caps.map fun i => (σ[i]?).getD none
noncomputable def xx (wi : TI) (g : TG) (te : TE) (n : Nat) (caps : List Nat) : TE := fun σ H Q => wi σ H fun J H1 => ∀ l, H1 l = none → ∃ W : Nat → Nat → L2.St → Hp → Prop, (∃ m, W 0 m (stC n caps σ) (upd H1 l (.lst []))) ∧
 ∀ i m σ' H2, W i m σ' H2 → (J.stop i H2 ∧ Q (.ref l) H2) ∨ (J.go i H2 ∧ ∃ N : L2.St → Hp → Prop, (∀ σ'' H', N σ'' H' → ∃ m', m' < m ∧ W (i + 1) m' σ'' H') ∧
  ∀ x H3, J.yld i H2 x H3 → g x σ' H3 fun σ2 H4 => te σ2 H4 fun v H5 => ∃ ys, H5 l = some (.lst ys) ∧ ys.length < sizeLine ∧ N σ2 (upd H5 l (.lst (ys ++ [v]))))
theorem pS {prog : Program} {w : World} {A : Around} {R : Result → Shared → Prop} {s : Shared} {elt target iter : Expr} {scope : Scope} {pos : Pos} {it acc : Value} {env : Env} (I : Nat → Shared → Prop)
  (turn : ∀ n s, I n s → wpAny (model prog w) A (pyNext it) (fun r s₁ => match r with
   | none => R (.ok .next) s₁
   | some v => wpAny (model prog w) A (letOwnedTupleGo target it v) (fun _ s₁' => wpAny (model prog w) A (assign target env v) (fun _ s₂ => wpAny (model prog w) A (eval elt env) (fun x s₃ =>
     wpAny (model prog w) A (call (.builtin "list.append") [acc, x]) (fun _ s₄ => ∃ m, m < n ∧ I m s₄) (fun _ _ => False) s₃)
     (fun _ _ => False) s₂) (fun _ _ => False) s₁') (fun _ _ => False) s₁) (fun _ _ => False) s)
  (n : Nat) (h : I n s) :
  codeAny (model prog w) A (.compLoop (.ListComp elt [⟨target, iter, [], 0⟩] scope pos) 0 it acc env) R s := by
 refine codeAny_loop rfl I (fun n s hI => ?_) n h
 show wpAny _ _ ((compTurn (.ListComp elt [⟨target, iter, [], 0⟩] scope pos) 0 it acc env).onRaise (fun x => do noteFrame x env; theTreesLotGoes x)) _ _ s
 refine wpAny_noted ?_
 rw [compTurn_list1]
 refine wpAny_bind (wpAny_standAt (wpAny_bind (wpAny_mono (turn n s hI) (fun r s₁ h₁ => ?_) fun _ _ h' => h'.elim)))
 cases r with
 | none => exact wpAny_pure h₁
 | some v =>
  refine wpAny_bind (wpAny_mono h₁ (fun _ s₁' h₁' => ?_) fun _ _ h' => h'.elim)
  exact wpAny_bind (wpAny_mono h₁' (fun _ s₂ h₂ => wpAny_bind (wpAny_bind (wpAny_mono h₂ (fun x s₃ h₃ => wpAny_bind (wpAny_mono h₃
   (fun _ s₄ h₄ => wpAny_pure (wpAny_pure ⟨rfl, h₄⟩)) fun _ _ h' => h'.elim)) fun _ _ h' => h'.elim))) fun _ _ h' => h'.elim)
section
variable {X : Cx} {pins : List (Addr × Obj)} {σ : L2.St} {H : Hp} {s : Shared} {Nc capN : List Str} {scope : Scope} {cl : List (Str × Addr)} {fp : List Addr} {n : Nat} {caps : List Nat} {tg iter elt : Expr} {pos : Pos} {wi : TI} {g : TG} {te : TE}
noncomputable def Cap (X : Cx) (scope : Scope) (cl : List (Str × Addr)) (i : Nat) (y : Str) : Prop := X.N[i]? = some y ∧ X.env.scope.names.lookup y = some .cell ∧ (relabel scope X.env).names.lookup y = some .cell ∧ ∃ c, cl.lookup y = some c
theorem Inv.comp {h1 : Heap} {t' : Nat} (I : Inv X pins σ H s) (hc : X.calm = true) (f2 : ∀ b ∈ fp, t7 X pins H b) (fo : ∀ b ∈ fp, b < s.heap.objs.size) (hkind : scope.kind = .function) (hcl : sD X.env cl)
  (hhas : ((relabel scope X.env).names.all fun p => !(p.2 == .cell || p.2 == .free) || (cl.lookup p.1).isSome) = true)
  (hcap : Paired (Cap X scope cl) caps capN) (tn : List Str) (hN : Nc = tn ++ capN) (hn : tn.length = n)
  (hns : h1.Ns s.heap.objs.size (fun _ => none)) (hk : ∀ b o, s.heap.get? b = some o → h1.get? b = some o) :
  Inv (cxC X Nc scope cl s H fp) [] (stC n caps σ) H { s with heap := h1, toks := t' } := by
 have lkc : ∀ y c, cl.lookup y = some c → X.env.cells.lookup y = some c := fun y c e => hcl.look e
 refine ⟨⟨I.ok.mod, ?_, I.ok.glob, I.ok.blt, Nat.le_refl _, fun x y c a b => I.ok.inj x y c (lkc _ _ a) (lkc _ _ b), fun x hx => ?_, fun x c z => (nomatch z), I.ok.hd, I.ok.frames, .inl rfl, fun b hb => ⟨Nat.ne_of_lt (fo b hb), fun x c e => (f2 b hb).2.2.2.2.1 x c (lkc _ _ e)⟩, I.bs, Nat.le_trans I.ok.bsz I.sz,
  fun b o e hb => ?_, fun b hb z => ?_, I.stack, I.stkFree⟩, rfl, I.bare, Un.kept hk, ⟨_, hns, fun i y v h1' h2 h3 => ?_⟩, fun y c e => ?_, I.hok.fresh (Nat.le_refl _), fun y c e => I.freeC y c (lkc _ _ e), fun p hp => (by simp at hp), I.hok.kept hk, ?_⟩
 ·exact hkind
 ·have hx' : (relabel scope X.env).names.lookup x = some .cell ∨ (relabel scope X.env).names.lookup x = some .free := hx
  have mem : ∀ {k}, (relabel scope X.env).names.lookup x = some k → (x, k) ∈ (relabel scope X.env).names := fun {k} e => by
   generalize (relabel scope X.env).names = L at e
   induction L with
   | nil => simp at e
   | cons p r ih =>
    obtain ⟨a, b⟩ := p
    rw [List.lookup_cons] at e
    by_cases q : (x == a) = true
    ·rw [q] at e; cases e
     have : x = a := by simpa using q
     subst this; exact List.mem_cons_self
    ·rw [show (x == a) = false by simpa using q] at e
     exact List.mem_cons_of_mem _ (ih e)
  have fin : ∀ {k}, (k = NameKind.cell ∨ k = .free) → (relabel scope X.env).names.lookup x = some k → ∃ c, cl.lookup x = some c := fun {k} hk' e => by
   have := List.all_eq_true.mp hhas _ (mem e)
   dsimp only at this
   have q : (cl.lookup x).isSome = true := by
    rcases hk' with z | z <;> subst z <;> simpa using this
   exact Option.isSome_iff_exists.mp q
  rcases hx' with e | e
  ·exact fin (.inl rfl) e
  ·exact fin (.inr rfl) e
 ·rcases (f2 b hb).2.2.2.1 with z | z
  ·exact I.ok.noex b o e z
  ·exact absurd (Nat.lt_of_lt_of_le (Heap.lt_size e) I.ok.bsz) (Nat.not_lt.mpr z)
 ·rcases List.mem_cons.mp (I.stkSub b z) with q | q
  ·exact (f2 b hb).2.1 q
  ·exact (f2 b hb).2.2.1 q
 ·obtain ⟨m, hm, hl⟩ := I.loc
  have h2' : (stC n caps σ)[i]? = some (some v) := h2
  have h1'' : Nc[i]? = some y := h1'
  unfold stC at h2'
  by_cases hi : i < n
  ·rw [List.getElem?_append_left (by simpa using hi), List.getElem?_replicate, if_pos hi] at h2'
   cases h2'
  ·rw [List.getElem?_append_right (by simp; omega), List.length_replicate, List.getElem?_map] at h2'
   rw [hN, List.getElem?_append_right (by omega), hn] at h1''
   have key : ∀ (j : Nat) {caps : List Nat} {capN : List Str}, Paired (Cap X scope cl) caps capN → capN[j]? = some y → (Option.map (fun i => (σ[i]?).getD none) caps[j]?) = some (some v) → ∃ k, Cap X scope cl k y ∧ σ[k]? = some (some v) := by
    intro j
    induction j with
    | zero =>
     intro caps capN P e1 e2
     cases P with
     | nil => simp at e1
     | @cons a b l r p t =>
      simp at e1 e2
      subst e1
      cases q : σ[a]? with
      | none => rw [q] at e2; simp at e2
      | some w' => rw [q] at e2; simp at e2; subst e2; exact ⟨a, p, q⟩
    | succ j ih =>
     intro caps capN P e1 e2
     cases P with
     | nil => simp at e1
     | cons p t => exact ih t (by simpa using e1) (by simpa using e2)
   obtain ⟨k, ⟨c1, c2, c3, c, c4⟩, e⟩ := key _ hcap h1'' h2'
   obtain ⟨u, r, lk⟩ := hl k y v c1 e (.inr (.inl c2))
   refine ⟨u, r, .inr ⟨.inl c3, c, c4, ?_⟩⟩
   rcases lk with ⟨z, _⟩ | ⟨_, c', e', o, ho, hd⟩
   ·have z' : X.env.scope.names.lookup y = some .local := z
    rw [c2] at z'; cases z'
   ·rw [lkc _ _ c4] at e'
    cases e'
    exact ⟨o, hk _ _ ho, hd⟩
 ·obtain ⟨v, o, ho, hd⟩ := I.cell y c (lkc _ _ e)
  exact ⟨v, o, hk _ _ ho, hd⟩
 ·show (stC n caps σ).length = Nc.length
  have pl : caps.length = capN.length := Paired.length hcap
  unfold stC
  rw [List.length_append, List.length_replicate, List.length_map, hN, List.length_append, hn, pl]
end
theorem sk {X : Cx} {Nc capN tn : List Str} {scope : Scope} {cl : List (Str × Addr)} {n : Nat} {caps : List Nat} {tg iter elt : Expr} {pos : Pos} {wi : TI} {g : TG} {te : TE}
  (hc : X.calm = true) (hi : WI X tg iter wi) (hg : ∀ s3 H3 fp, WG (cxC X Nc scope cl s3 H3 fp) tg g) (he : ∀ s3 H3 fp, WE (cxC X Nc scope cl s3 H3 fp) elt te)
  (hclos : closureFor scope X.env = pure cl) (hkind : scope.kind = .function) (hnl : ∀ x ∈ scope.names, x.2 = .local → scope.names.lookup x.1 = some .local) (hcell : ∀ x ∈ scope.names, x.2 ≠ .cell)
  (hcl : sD X.env cl) (hhas : ((relabel scope X.env).names.all fun p => !(p.2 == .cell || p.2 == .free) || (cl.lookup p.1).isSome) = true)
  (hcap : Paired (Cap X scope cl) caps capN) (hN : Nc = tn ++ capN) (hn : tn.length = n)
  {use : Option (Value → Sem Unit)} {pins : List (Addr × Obj)} {σ : L2.St} {H : Hp} {s : Shared} {Q : VK} {Qf : Value → Shared → Prop} (I : Inv X pins σ H s) (h : xx wi g te n caps σ H Q)
  (hend : ∀ (D C : Addr) (s6 : Shared) (H5 : Hp) (m : Str → Option Value), Inv X pins σ H5 s6 → s6.heap.Ns C m → H5 C = none → C ≠ X.env.locals → X.s₀.heap.objs.size ≤ C → (∀ x c, X.env.cells.lookup x = some c → c ≠ C) → (∀ p ∈ X.pn ++ pins, p.1 ≠ C) → Q (.ref D) H5 → compPost (model X.prog X.w) X.A X.xe use Qf (.ref D) C (.ok .next) s6)
  (hs : ∀ x, foldedSetIterable iter X.env x = pure x) :
  wpAny (model X.prog X.w) X.A (comprehension (.ListComp elt [⟨tg, iter, [], 0⟩] scope pos) scope X.env (firstIterPos [⟨tg, iter, [], 0⟩] pos) (newList []) (firstAsync [⟨tg, iter, [], 0⟩]) (firstIter [⟨tg, iter, [], 0⟩] X.env) use) Qf X.xe s := by
 refine wpAny_comprehension_free (use := use) (g := ⟨tg, iter, [], 0⟩) (gs := []) rfl hs hclos hkind hnl (thn (hi.h pins s σ H _ I h) fun v s1 h1 => thn h1 fun itv s2 h2 => ?_)
 obtain ⟨it, fp, tnn, J, H2, rfl, I2, T, st2, f2, hW⟩ := h2
 have hD := I2.fresh
 obtain ⟨W, ⟨m0, w0⟩, turn⟩ := hW _ hD
 refine wpAny_newObj_type (wpAny_newFunctionEnv hcell (by intro y hy; simp at hy) (fun h₁ hns₁ hsb₁ => ?_) hkind)
 dsimp only at hns₁ hsb₁ ⊢
 have I3 : Inv X pins σ (upd H2 s2.heap.objs.size (.lst [])) { s2 with heap := s2.heap.push { cls := .type "list", dict := none, data := .seq ([] : List Value).toArray }, toks := s2.toks } := I2.lnew (its := []) .nil (Nat.zero_le _)
 generalize hs3 : ({ s2 with heap := s2.heap.push { cls := .type "list", dict := none, data := .seq ([] : List Value).toArray }, toks := s2.toks } : Shared) = s3 at I3
 have es3 : s3.heap = s2.heap.push { cls := .type "list", dict := none, data := .seq ([] : List Value).toArray } := by rw [← hs3]
 generalize hDD : s2.heap.objs.size = D at *
 have kept : ∀ b o, s3.heap.get? b = some o → h₁.get? b = some o := fun b o e => by
  have lt := Heap.lt_size e
  rw [es3] at lt e
  exact hsb₁.extBut b o (Nat.ne_of_lt lt) (Heap.get?_push_of_some _ e)
 have old : ∀ b o, s2.heap.get? b = some o → s3.heap.get? b = some o := fun b o e => by rw [es3]; exact Heap.get?_push_of_some _ e
 have ltD : ∀ b ∈ fp, b < D := fun b hb => by
  obtain ⟨o, e, _⟩ := T.obj 0 _ st2 b hb
  rw [← hDD]; exact Heap.lt_size e
 have fo : ∀ b ∈ fp, b < s3.heap.objs.size := fun b hb => by
  obtain ⟨o, e, _⟩ := T.obj 0 _ st2 b hb
  exact Heap.lt_size (old _ _ e)
 have f3 : ∀ b ∈ fp, t7 X pins (upd H2 D (.lst [])) b := fun b hb => by
  refine ⟨?_, (f2 b hb).2⟩
  rw [bF (Nat.ne_of_lt (ltD b hb))]
  exact (f2 b hb).1
 rw [← es3] at hns₁ hsb₁ ⊢
 have Ic := fun t' => Inv.comp (h1 := h₁) (t' := t') (Nc := Nc) (n := n) I3 hc f3 fo hkind hcl hhas hcap tn hN hn hns₁ kept
 have stat : ∀ {H' : Hp}, (∀ b ∈ fp, H' b = none) → ∀ b ∈ fp, t7 (cxC X Nc scope cl s3 (upd H2 D (.lst [])) fp) [] H' b := fun hn' b hb => by
  refine ⟨hn' b hb, Nat.ne_of_lt (fo b hb), fun z => ?_, .inl hb, fun x c e => (f2 b hb).2.2.2.2.1 x c (hcl.look e), fun p hp => (by simp at hp)⟩
  rcases List.mem_cons.mp (I3.stkSub b z) with q | q
  ·exact (f2 b hb).2.1 q
  ·exact (f2 b hb).2.2.1 q
 have loop : ∀ s4 : Shared, (∃ t', s4 = { s3 with heap := h₁, toks := t' }) → codeAny (model X.prog X.w) X.A (.compLoop (.ListComp elt [⟨tg, iter, [], 0⟩] scope pos) 0 (.ref it) (.ref D) (compEnvC scope cl s3.heap.objs.size X.env))
   (compPost (model X.prog X.w) X.A X.xe use Qf (.ref D) s3.heap.objs.size) s4 := by
  rintro s4 ⟨t', rfl⟩
  refine pS (fun n' s' => ∃ i σ' H', Inv (cxC X Nc scope cl s3 (upd H2 D (.lst [])) fp) [] σ' H' s' ∧ tnn i s'.heap ∧ (∀ b ∈ fp, H' b = none) ∧ W i n' σ' H') ?_ m0
   ⟨0, _, _, Ic t', T.keep 0 _ _ st2 fun b hb o e => kept _ _ (old _ _ e), fun b hb => (f3 b hb).1, w0⟩
  rintro n' s5 ⟨i, σ5, H5, I5, st5, fr5, w5⟩
  rcases turn i n' σ5 H5 w5 with ⟨stop, qn⟩ | ⟨go, N, hN', step⟩
  ·refine thn (T.done (cxC X Nc scope cl s3 (upd H2 D (.lst [])) fp) rfl rfl rfl hc i [] s5 σ5 H5 (fun _ _ => False) I5 (stat fr5) st5 stop) fun r s6 ⟨hr, I6⟩ => ?_
   subst hr
   obtain ⟨m, hm, _⟩ := I6.loc
   have I7 : Inv X pins σ H5 s6 := Inv.call' (ch := fp) I3 I6.os I6.base I6.hok I6.bare fun b hb => ⟨(f2 b hb).2.2.2.1, (f2 b hb).2.1, (f2 b hb).2.2.2.2.1, (f2 b hb).2.2.2.2.2⟩
   exact hend D _ s6 H5 m I7 hm I6.free (Ne.symm (Nat.ne_of_lt I3.lt)) I3.sz (fun x c e => by
     obtain ⟨v', o, ho, _⟩ := I3.cell x c e
     exact Nat.ne_of_lt (Heap.lt_size ho)) (fun p hp => Nat.ne_of_lt (Heap.lt_size (I3.pin p hp).1)) qn
  ·refine thn (T.item (cxC X Nc scope cl s3 (upd H2 D (.lst [])) fp) rfl rfl rfl hc i [] s5 σ5 H5 (fun _ _ => False) I5 (stat fr5) st5 go) fun r s6 ⟨u, hr, h6⟩ => ?_
   subst hr
   refine thn h6 fun _ s7 hz => ?_
   obtain ⟨x, H7, I7, r7, y7, st7, fr7⟩ := hz
   have I7' := I7.pinned (stat fr7) (T.obj _ _ st7)
   refine thn ((hg s3 (upd H2 D (.lst [])) fp).h _ s7 σ5 H7 x u _ I7' r7 (step x H7 y7)) fun _ s8 hz => ?_
   obtain ⟨σ8, H8, I8, q8⟩ := hz
   refine thn ((he s3 (upd H2 D (.lst [])) fp).h _ s8 σ8 H8 _ I8 q8) fun v9 s9 hz => ?_
   obtain ⟨x9, H9, I9, r9, ys, hy, hlt, q9⟩ := hz
   refine thn (lT (X := cxC X Nc scope cl s3 (upd H2 D (.lst [])) fp) _ s9 σ8 H9 (.ref D) [x9] (.ref D) [v9] (fun _ H' => N σ8 H') I9 rfl (.cons r9 .nil) ⟨D, ys, x9, rfl, rfl, hy, hlt, q9⟩) fun _ s10 hz => ?_
   obtain ⟨_, H10, I10, _, q10⟩ := hz
   obtain ⟨m', hm, w10⟩ := hN' σ8 H10 q10
   refine ⟨m', hm, i + 1, σ8, H10, I10.unpinned, T.keep _ _ _ st7 fun b hb o e => (I10.pin (b, o) (List.mem_append_right _ (List.mem_append_right _ (fD hb e)))).1, fun b hb => ?_, w10⟩
   obtain ⟨o, e, d⟩ := T.obj _ _ st7 b hb
   exact (I10.pin (b, o) (List.mem_append_right _ (List.mem_append_right _ (fD hb e)))).2.1
 have e4 : ∀ t', ({ s2 with heap := h₁, toks := t' } : Shared) = { s3 with heap := h₁, toks := t' } := fun t' => by rw [← hs3]
 refine codeAny_compStart_list (loop _ ⟨_, e4 _⟩) (T.self _ 0 _ _ _ (T.keep 0 _ _ st2 fun b hb o e => kept _ _ (old _ _ e)) (loop _ ⟨_, e4 _⟩))
theorem xo {X : Cx} {Nc capN tn : List Str} {scope : Scope} {cl : List (Str × Addr)} {n : Nat} {caps : List Nat} {tg iter elt : Expr} {pos : Pos} {wi : TI} {g : TG} {te : TE}
  (hc : X.calm = true) (hi : WI X tg iter wi) (hg : ∀ s3 H3 fp, WG (cxC X Nc scope cl s3 H3 fp) tg g) (he : ∀ s3 H3 fp, WE (cxC X Nc scope cl s3 H3 fp) elt te)
  (hclos : closureFor scope X.env = pure cl) (hkind : scope.kind = .function) (hnl : ∀ x ∈ scope.names, x.2 = .local → scope.names.lookup x.1 = some .local) (hcell : ∀ x ∈ scope.names, x.2 ≠ .cell)
  (hcl : sD X.env cl) (hhas : ((relabel scope X.env).names.all fun p => !(p.2 == .cell || p.2 == .free) || (cl.lookup p.1).isSome) = true)
  (hcap : Paired (Cap X scope cl) caps capN) (hN : Nc = tn ++ capN) (hn : tn.length = n)
  (hs : ∀ x, foldedSetIterable iter X.env x = pure x := by intro _; rfl) :
  WE X (.ListComp elt [⟨tg, iter, [], 0⟩] scope pos) (xx wi g te n caps) := by
 constructor
 intro pins s σ H Q I h
 rw [eval_ListComp]
 refine sk hc hi hg he hclos hkind hnl hcell hcl hhas hcap hN hn I h (fun D C s6 H5 m I7 hm fr nl sz cn pn qn => ⟨m, hm, fun h' hs' => ?_⟩) hs
 exact ⟨.ref D, H5, I7.turned (t' := s6.toks) (it := C) (fun b o hb e => hs'.extBut b o hb e) fr nl (.inr sz) cn pn, rfl, qn⟩
open PySem.AutoSeq1 (wpAny_loadPart')
theorem yO {prog : Program} {w : World} {A : Around} {E : Value → Shared → Prop} {s : Shared} {t b : Addr} {vs ws : List Value} {Q : Value → Shared → Prop} (ht : IsTup s.heap t vs.toArray) (hb : IsTup s.heap b ws.toArray) (hv : vs = [])
  (h1 : Q (.ref b) s) : wpAny (model prog w) A (binaryOp .Add (.ref t) (.ref b)) Q E s := by
 obtain ⟨⟨cls, dd, data, sl⟩, ho, hc, n, hd⟩ := id ht
 obtain ⟨⟨cls2, dd2, data2, sl2⟩, ho2, hc2, n2, hd2⟩ := id hb
 simp only at hc hd hc2 hd2
 subst hc hd hc2 hd2
 exact concat_meets ⟨_, ho, rfl⟩ ⟨_, ho2, rfl⟩ noFill_tuple_add seq_tuple_add PySem.F.slot_tuple_add PySem.F.entry_tuple_add (PySem.F.args_tuple_add_2 _ _)
   (tuple_addW0 t b vs.toArray ws.toArray n n2 dd dd2 sl sl2 (by simp [hv])) ⟨ho, ho2, h1⟩
structure HP (H : Hp) (p xs : Addr) : Prop where
 ex : ∃ (ns : List Int) (at' cur : Int), H p = some (.lst [.ref xs, .int at', .int cur]) ∧ H xs = some (.lst (ns.map V.int)) ∧ xs ≠ p ∧ 0 ≤ at' ∧ 0 ≤ cur
noncomputable def zj (K : PySem.W.Frag) : Sp := fun vs H Q _ => ∃ (a : Addr) (ns : List Int), vs = [.ref a] ∧ SqL K H a (ns.map V.int) ∧ ∀ (q xs : Addr) (H' : Hp), qc H H' → HP H' q xs → H q = none → Q (.ref q) H'
theorem vB {m : Int} (h0 : 0 ≤ m) (h : m < 2 ^ 60) : m.natAbs.log2 < 9000 := by
 have := sX (n := m.natAbs) (by omega)
 omega
end OG
namespace OP
open PySem PySem.Spec PyProof.Rows L2 OG
inductive U where
 | non | bl (b : Bool) | int (i : Int) | str (x : Str) | tup (us : List U) | ref (l : Nat) | kl (ns : List Int)
structure Cl where
 C : Addr
 ns : List Str
inductive O where
 | lst (us : List U) | dic (kvs : List (Key × U)) | ins (c : Cl) (fs : List (Option U)) | fdc (ep : Nat) (kvs : List (Key × U)) | dit (kvs : List (List Key × U)) | fdt (ep : Nat) (kvs : List (List Key × U))
noncomputable abbrev Sto := List O
noncomputable abbrev Rho := List (Option U)
noncomputable def KL (K : PySem.W.Frag) (H : Hp) (a : Addr) (ns : List Int) : Prop :=
 (∃ o, H a = some (.frz o (.lst (ns.map V.int)))) ∨
  ∃ (o : Obj) (its : Array Value) (n : Nat), K.lookup a = some o ∧ o.cls = .type "list" ∧ o.dict = none ∧ o.data = .seq its n ∧ its.size ≤ sizeLine ∧ cL (ns.map V.int) its.toList
theorem KL.sq {K : PySem.W.Frag} {H : Hp} {a : Addr} {ns : List Int} (h : KL K H a ns) : SqL K H a (ns.map V.int) := by
 rcases h with h | h
 ·exact .inl (.inr h)
 ·exact .inr h
mutual
noncomputable def Is (K : PySem.W.Frag) (m : List Addr) (H : Hp) : V → U → Prop
 | v, .non => v = .non
 | v, .bl b => v = .bl b
 | v, .int i => v = .int i
 | v, .str x => v = .str x
 | v, .tup us => ∃ a xs, v = .ref a ∧ SqT K H a xs ∧ IsL K m H xs us
 | v, .ref l => ∃ a, m[l]? = some a ∧ v = .ref a
 | v, .kl ns => ∃ a, v = .ref a ∧ KL K H a ns
noncomputable def IsL (K : PySem.W.Frag) (m : List Addr) (H : Hp) : List V → List U → Prop
 | xs, [] => xs = []
 | xs, u :: us => ∃ x r, xs = x :: r ∧ Is K m H x u ∧ IsL K m H r us
end
structure zN (K : PySem.W.Frag) (H H' : Hp) : Prop where
 t : ∀ a xs, SqT K H a xs → SqT K H' a xs
 l : ∀ a ns, KL K H a ns → KL K H' a ns
structure Ext (K : PySem.W.Frag) (m : List Addr) (H : Hp) (m' : List Addr) (H' : Hp) : Prop where
 pre : ∃ t, m' = m ++ t
 keep : zN K H H'
section
variable {K : PySem.W.Frag} {m m' m'' : List Addr} {H H' H'' : Hp} {v x : V} {u : U} {xs ys : List V} {us ws : List U} {a q : Addr} {o : HO}
theorem Ext.refl : Ext K m H m H := ⟨⟨[], by simp⟩, fun _ _ h => h, fun _ _ h => h⟩
theorem Ext.trans (a : Ext K m H m' H') (b : Ext K m' H' m'' H'') : Ext K m H m'' H'' := by
 obtain ⟨t, rfl⟩ := a.pre
 obtain ⟨t', rfl⟩ := b.pre
 exact ⟨⟨t ++ t', by simp⟩, fun c ys h => b.keep.t c ys (a.keep.t c ys h), fun c ys h => b.keep.l c ys (a.keep.l c ys h)⟩
theorem Ext.of (k : zN K H H') : Ext K m H m H' := ⟨⟨[], by simp⟩, k⟩
theorem Ext.new (k : zN K H H') : Ext K m H (m ++ [q]) H' := ⟨⟨[q], rfl⟩, k⟩
theorem Ext.get {l : Nat} (e : Ext K m H m' H') (h : m[l]? = some a) : m'[l]? = some a := by
 obtain ⟨t, rfl⟩ := e.pre
 rw [List.getElem?_append_left (List.getElem?_eq_some_iff.mp h).1]
 exact h
mutual
theorem Is.mono (e : Ext K m H m' H') : ∀ {v : V} {u : U}, Is K m H v u → Is K m' H' v u
 | v, .non, h => by unfold Is at h ⊢; exact h
 | v, .bl b, h => by unfold Is at h ⊢; exact h
 | v, .int i, h => by unfold Is at h ⊢; exact h
 | v, .str x, h => by unfold Is at h ⊢; exact h
 | v, .tup us, h => by
  unfold Is at h ⊢
  obtain ⟨a, xs, e1, k, l⟩ := h
  exact ⟨a, xs, e1, e.keep.t _ _ k, IsL.mono e l⟩
 | v, .ref l, h => by
  unfold Is at h ⊢
  obtain ⟨a, k, e1⟩ := h
  exact ⟨a, e.get k, e1⟩
 | v, .kl ns, h => by
  unfold Is at h ⊢
  obtain ⟨a, e1, k⟩ := h
  exact ⟨a, e1, e.keep.l _ _ k⟩
theorem IsL.mono (e : Ext K m H m' H') : ∀ {xs : List V} {us : List U}, IsL K m H xs us → IsL K m' H' xs us
 | xs, [], h => by unfold IsL at h ⊢; exact h
 | xs, u :: us, h => by
  unfold IsL at h ⊢
  obtain ⟨x, r, e1, k, l⟩ := h
  exact ⟨x, r, e1, Is.mono e k, IsL.mono e l⟩
end
theorem Is.int_ {i : Int} : Is K m H (.int i) (.int i) := by unfold Is; rfl
theorem Is.bl_ {b : Bool} : Is K m H (.bl b) (.bl b) := by unfold Is; rfl
theorem Is.non_ : Is K m H .non .non := by unfold Is; rfl
theorem Is.str_ {x : Str} : Is K m H (.str x) (.str x) := by unfold Is; rfl
theorem Is.of_int {i : Int} (h : Is K m H v (.int i)) : v = .int i := by unfold Is at h; exact h
theorem Is.of_bl {b : Bool} (h : Is K m H v (.bl b)) : v = .bl b := by unfold Is at h; exact h
theorem Is.of_non (h : Is K m H v .non) : v = .non := by unfold Is at h; exact h
theorem Is.of_str {x : Str} (h : Is K m H v (.str x)) : v = .str x := by unfold Is at h; exact h
theorem Is.of_tup (h : Is K m H v (.tup us)) : ∃ a xs, v = .ref a ∧ SqT K H a xs ∧ IsL K m H xs us := by unfold Is at h; exact h
theorem Is.of_ref {l : Nat} (h : Is K m H v (.ref l)) : ∃ a, m[l]? = some a ∧ v = .ref a := by unfold Is at h; exact h
theorem Is.of_kl {ns : List Int} (h : Is K m H v (.kl ns)) : ∃ a, v = .ref a ∧ KL K H a ns := by unfold Is at h; exact h
theorem Is.tup_ (e : SqT K H a xs) (h : IsL K m H xs us) : Is K m H (.ref a) (.tup us) := by unfold Is; exact ⟨a, xs, rfl, e, h⟩
theorem Is.ref_ {l : Nat} (e : m[l]? = some a) : Is K m H (.ref a) (.ref l) := by unfold Is; exact ⟨a, e, rfl⟩
theorem IsL.nil_ : IsL K m H [] [] := by unfold IsL; rfl
theorem IsL.cons_ (h : Is K m H x u) (t : IsL K m H xs us) : IsL K m H (x :: xs) (u :: us) := by unfold IsL; exact ⟨x, xs, rfl, h, t⟩
theorem IsL.of_nil (h : IsL K m H xs []) : xs = [] := by unfold IsL at h; exact h
theorem IsL.of_cons (h : IsL K m H xs (u :: us)) : ∃ x r, xs = x :: r ∧ Is K m H x u ∧ IsL K m H r us := by unfold IsL at h; exact h
theorem IsL.length : ∀ {xs : List V} {us : List U}, IsL K m H xs us → xs.length = us.length
 | xs, [], h => by rw [h.of_nil]; rfl
 | xs, d :: ds, h => by
  obtain ⟨x, r, rfl, _, t⟩ := h.of_cons
  rw [List.length_cons, List.length_cons, IsL.length t]
theorem IsL.getD : ∀ {xs : List V} {us : List U} {i : Nat} {u : U}, IsL K m H xs us → us[i]? = some u → ∃ x, xs[i]? = some x ∧ Is K m H x u
 | xs, [], i, x, h, e => by simp at e
 | xs, d :: ds, 0, x, h, e => by
  obtain ⟨y, r, rfl, k, t⟩ := h.of_cons
  simp at e; subst e; exact ⟨y, by simp, k⟩
 | xs, d :: ds, i + 1, x, h, e => by
  obtain ⟨y, r, rfl, k, t⟩ := h.of_cons
  obtain ⟨d', e1, e2⟩ := IsL.getD (i := i) (u := x) t (by simpa using e)
  exact ⟨d', by simpa using e1, e2⟩
theorem IsL.append : ∀ {xs : List V} {us : List U}, IsL K m H xs us → IsL K m H ys ws → IsL K m H (xs ++ ys) (us ++ ws)
 | xs, [], h, k => by rw [h.of_nil]; exact k
 | xs, d :: ds, h, k => by
  obtain ⟨y, r, rfl, z, t⟩ := h.of_cons
  exact .cons_ z (IsL.append t k)
theorem IsL.set : ∀ {xs : List V} {us : List U} {j : Nat}, IsL K m H xs us → Is K m H x u → IsL K m H (xs.set j x) (us.set j u)
 | xs, [], j, h, k => by rw [h.of_nil]; exact .nil_
 | xs, d :: ds, 0, h, k => by
  obtain ⟨y, r, rfl, z, t⟩ := h.of_cons
  exact .cons_ k t
 | xs, d :: ds, j + 1, h, k => by
  obtain ⟨y, r, rfl, z, t⟩ := h.of_cons
  exact .cons_ z (IsL.set t k)
theorem IsL.drop : ∀ {xs : List V} {us : List U} (n : Nat), IsL K m H xs us → IsL K m H (xs.drop n) (us.drop n)
 | xs, us, 0, h => h
 | xs, [], n + 1, h => by rw [h.of_nil]; exact .nil_
 | xs, d :: ds, n + 1, h => by
  obtain ⟨y, r, rfl, z, t⟩ := h.of_cons
  exact IsL.drop n t
theorem IsL.take : ∀ {xs : List V} {us : List U} (n : Nat), IsL K m H xs us → IsL K m H (xs.take n) (us.take n)
 | xs, us, 0, h => .nil_
 | xs, [], n + 1, h => by rw [h.of_nil]; exact .nil_
 | xs, d :: ds, n + 1, h => by
  obtain ⟨y, r, rfl, z, t⟩ := h.of_cons
  exact .cons_ z (IsL.take n t)
theorem IsL.erase : ∀ {xs : List V} {us : List U} (n : Nat), IsL K m H xs us → IsL K m H (xs.eraseIdx n) (us.eraseIdx n)
 | xs, [], n, h => by rw [h.of_nil]; exact .nil_
 | xs, d :: ds, 0, h => by
  obtain ⟨y, r, rfl, z, t⟩ := h.of_cons
  exact t
 | xs, d :: ds, n + 1, h => by
  obtain ⟨y, r, rfl, z, t⟩ := h.of_cons
  exact .cons_ z (IsL.erase n t)
theorem rL (h : H a = some o) (nt : ∀ xs, o ≠ .tup xs) (nf : ∀ ob xs, o ≠ .frz ob (.tup xs)) (nl : ∀ ob xs, o ≠ .frz ob (.lst xs)) (o' : HO) : zN K H (upd H a o') := by
 refine ⟨fun b xs q => ?_, fun b ns q => ?_⟩
 ·rcases q with (q | ⟨ob, q⟩) | q
  ·have n : b ≠ a := fun z => by subst z; rw [q] at h; cases h; exact nt _ rfl
   exact .inl (.inl (by rw [bF n]; exact q))
  ·have n : b ≠ a := fun z => by subst z; rw [q] at h; cases h; exact nf _ _ rfl
   exact .inl (.inr ⟨ob, by rw [bF n]; exact q⟩)
  ·exact .inr q
 ·rcases q with ⟨ob, q⟩ | q
  ·have n : b ≠ a := fun z => by subst z; rw [q] at h; cases h; exact nl _ _ rfl
   exact .inl ⟨ob, by rw [bF n]; exact q⟩
  ·exact .inr q
theorem gJ (s : qc H H') : zN K H H' := by
 refine ⟨fun b xs q => ?_, fun b ns q => ?_⟩
 ·rcases q with (q | ⟨ob, q⟩) | q
  ·exact .inl (.inl (s _ _ q))
  ·exact .inl (.inr ⟨ob, s _ _ q⟩)
  ·exact .inr q
 ·rcases q with ⟨ob, q⟩ | q
  ·exact .inl ⟨ob, s _ _ q⟩
  ·exact .inr q
theorem b8 (h : H q = none) (o' : HO) : zN K H (upd H q o') := gJ (dQ h o')
end
noncomputable def IsP {κ : Type} (K : PySem.W.Frag) (m : List Addr) (H : Hp) (kvs : List (κ × V)) (kus : List (κ × U)) : Prop := kvs.map (·.1) = kus.map (·.1) ∧ IsL K m H (kvs.map (·.2)) (kus.map (·.2))
noncomputable def Rf (K : PySem.W.Frag) (m : List Addr) (H : Hp) : Option V → Option U → Prop
 | some v, some u => Is K m H v u
 | none, none => True
 | _, _ => False
structure InF (K : PySem.W.Frag) (m : List Addr) (H : Hp) (c : Cl) (fs : List (Str × V)) (fus : List (Option U)) : Prop where
 nd : c.ns.Nodup
 few : c.ns.length < 1000
 knd : (fs.map (·.1)).Nodup
 sub : ∀ x ∈ fs.map (·.1), x ∈ c.ns
 len : fus.length = c.ns.length
 at_ : ∀ (i : Nat) (x : Str), c.ns[i]? = some x → Rf K m H (fs.lookup x) ((fus[i]?).join)
theorem Rf.mono {K : PySem.W.Frag} {m m' : List Addr} {H H' : Hp} {v : Option V} {u : Option U} (e : Ext K m H m' H') (h : Rf K m H v u) : Rf K m' H' v u := by
 cases v with
 | none => cases u with
  | none => trivial
  | some u => exact h.elim
 | some v => cases u with
  | none => exact h.elim
  | some u => exact Is.mono e h
theorem InF.mono {K : PySem.W.Frag} {m m' : List Addr} {H H' : Hp} {c : Cl} {fs : List (Str × V)} {fus : List (Option U)} (e : Ext K m H m' H') (h : InF K m H c fs fus) : InF K m' H' c fs fus := ⟨h.nd, h.few, h.knd, h.sub, h.len, fun i x q => (h.at_ i x q).mono e⟩
noncomputable def Ob (K : PySem.W.Frag) (m : List Addr) (H : Hp) (a : Addr) : O → Prop
 | .lst us => ∃ xs, H a = some (.lst xs) ∧ IsL K m H xs us
 | .dic kus => ∃ kvs, H a = some (.dK kvs) ∧ IsP K m H kvs kus
 | .ins c fus => ∃ dx fs, H a = some (.ins c.C dx fs) ∧ InF K m H c fs fus
 | .fdc ep kus => ∃ ob es kvs, H a = some (.frz ob (.dK kvs)) ∧ ob.data = .dict es ep ∧ IsP K m H kvs kus
 | .dit kus => ∃ kvs, H a = some (.dT kvs) ∧ IsP K m H kvs kus
 | .fdt ep kus => ∃ ob es kvs, H a = some (.frz ob (.dT kvs)) ∧ ob.data = .dict es ep ∧ IsP K m H kvs kus
structure Sr (K : PySem.W.Frag) (m : List Addr) (S : Sto) (H : Hp) : Prop where
 len : m.length = S.length
 nd : m.Nodup
 ob : ∀ (l : Nat) (a : Addr) (o : O), m[l]? = some a → S[l]? = some o → Ob K m H a o
structure Lr (K : PySem.W.Frag) (m : List Addr) (H : Hp) (ρ : Rho) (σ : L2.St) : Prop where
 len : ρ.length = σ.length
 at_ : ∀ (i : Nat) (u : U), ρ[i]? = some (some u) → ∃ v, σ[i]? = some (some v) ∧ Is K m H v u
section
variable {κ : Type} {K : PySem.W.Frag} {m m' : List Addr} {H H' : Hp} {S S' : Sto} {ρ : Rho} {σ : L2.St} {a q : Addr} {l : Nat} {o : O} {ho : HO} {us : List U} {v : V} {u : U} {kvs : List (κ × V)} {kus : List (κ × U)}
theorem IsP.mono (e : Ext K m H m' H') (h : IsP K m H kvs kus) : IsP K m' H' kvs kus := ⟨h.1, h.2.mono e⟩
theorem IsP.length (h : IsP K m H kvs kus) : kvs.length = kus.length := by have := h.2.length; simpa using this
theorem IsP.nil_ : IsP (κ := κ) K m H [] [] := ⟨rfl, .nil_⟩
theorem IsP.cons_ {k : κ} (h : Is K m H v u) (t : IsP K m H kvs kus) : IsP K m H ((k, v) :: kvs) ((k, u) :: kus) := ⟨by simp [t.1], .cons_ h t.2⟩
theorem IsP.ind {P : List (κ × V) → List (κ × U) → Prop} (h0 : P [] []) (h1 : ∀ k v u kvs kus, Is K m H v u → IsP K m H kvs kus → P kvs kus → P ((k, v) :: kvs) ((k, u) :: kus)) : ∀ {kvs : List (κ × V)} {kus : List (κ × U)}, IsP K m H kvs kus → P kvs kus
 | [], [], _ => h0
 | [], p :: r, h => by have := h.length; simp at this
 | p :: r, [], h => by have := h.length; simp at this
 | (k, v) :: r, (k', u) :: r', h => by
  obtain ⟨e, i⟩ := h
  simp only [List.map_cons, List.cons.injEq] at e
  obtain ⟨e1, e2⟩ := e
  subst e1
  obtain ⟨x, t, e3, iu, it⟩ := i.of_cons
  cases e3
  exact h1 k v u r r' iu ⟨e2, it⟩ (IsP.ind h0 h1 (⟨e2, it⟩ : IsP K m H r r'))
theorem Ob.mono (e : Ext K m H m' H') (h1 : H' a = H a) (h : Ob K m H a o) : Ob K m' H' a o := by
 cases o with
 | lst us => obtain ⟨xs, k, i⟩ := h; exact ⟨xs, h1.trans k, i.mono e⟩
 | dic kus => obtain ⟨xs, k, i⟩ := h; exact ⟨xs, h1.trans k, i.mono e⟩
 | ins C fus => obtain ⟨dx, fs, k, i⟩ := h; exact ⟨dx, fs, h1.trans k, i.mono e⟩
 | fdc ep kus => obtain ⟨ob, es, kvs, k, d, i⟩ := h; exact ⟨ob, es, kvs, h1.trans k, d, i.mono e⟩
 | dit kus => obtain ⟨xs, k, i⟩ := h; exact ⟨xs, h1.trans k, i.mono e⟩
 | fdt ep kus => obtain ⟨ob, es, kvs, k, d, i⟩ := h; exact ⟨ob, es, kvs, h1.trans k, d, i.mono e⟩
theorem Ob.some (h : Ob K m H a o) : ∃ ho, H a = some ho ∧ (∀ xs, ho ≠ .tup xs) ∧ (∀ ob xs, ho ≠ .frz ob (.tup xs)) ∧ (∀ ob xs, ho ≠ .frz ob (.lst xs)) := by
 cases o with
 | lst us => obtain ⟨xs, k, i⟩ := h; exact ⟨_, k, by simp, by simp, by simp⟩
 | dic kus => obtain ⟨xs, k, i⟩ := h; exact ⟨_, k, by simp, by simp, by simp⟩
 | ins C fus => obtain ⟨dx, fs, k, i⟩ := h; exact ⟨_, k, by simp, by simp, by simp⟩
 | fdc ep kus => obtain ⟨ob, es, kvs, k, d, i⟩ := h; exact ⟨_, k, by simp, by simp, by simp⟩
 | dit kus => obtain ⟨xs, k, i⟩ := h; exact ⟨_, k, by simp, by simp, by simp⟩
 | fdt ep kus => obtain ⟨ob, es, kvs, k, d, i⟩ := h; exact ⟨_, k, by simp, by simp, by simp⟩
theorem Lr.mono (e : Ext K m H m' H') (h : Lr K m H ρ σ) : Lr K m' H' ρ σ := ⟨h.len, fun i u e1 => let ⟨v, e2, e3⟩ := h.at_ i u e1; ⟨v, e2, e3.mono e⟩⟩
theorem Lr.set (h : Lr K m H ρ σ) (i : Nat) (hv : Is K m H v u) : Lr K m H (ρ.set i (some u)) (σ.set i (some v)) := by
 refine ⟨by simp [h.len], fun j w e => ?_⟩
 by_cases c : i = j
 ·subst c
  rw [List.getElem?_set_self' ] at e
  rw [List.getElem?_set_self']
  have hl := h.len
  cases e1 : ρ[i]? with
  | none => rw [e1] at e; simp at e
  | some z =>
   rw [e1] at e
   simp at e
   subst e
   have : i < σ.length := by rw [← hl]; exact (List.getElem?_eq_some_iff.mp e1).1
   rw [List.getElem?_eq_getElem this]
   exact ⟨v, rfl, hv⟩
 ·rw [List.getElem?_set_ne c] at e
  rw [List.getElem?_set_ne c]
  exact h.at_ j w e
theorem Sr.get (r : Sr K m S H) (h : S[l]? = some o) : ∃ a, m[l]? = some a ∧ Ob K m H a o := by
 have hl : l < m.length := by rw [r.len]; exact (List.getElem?_eq_some_iff.mp h).1
 exact ⟨_, List.getElem?_eq_getElem hl, r.ob _ _ _ (List.getElem?_eq_getElem hl) h⟩
theorem Sr.at_ (r : Sr K m S H) (h : m[l]? = some a) : ∃ o, S[l]? = some o ∧ Ob K m H a o := by
 have hl : l < S.length := by rw [← r.len]; exact (List.getElem?_eq_some_iff.mp h).1
 exact ⟨_, List.getElem?_eq_getElem hl, r.ob _ _ _ h (List.getElem?_eq_getElem hl)⟩
theorem Sr.same (r : Sr K m S H) (s : qc H H') : Sr K m S H' := ⟨r.len, r.nd, fun l a o h1 h2 => by
 have q := r.ob l a o h1 h2
 obtain ⟨ho, e, _⟩ := q.some
 exact q.mono (.of (gJ s)) (by rw [s _ _ e, e])⟩
theorem Sr.new (r : Sr K m S H) (h : H q = none) (n : Ob K (m ++ [q]) (upd H q ho) q o) : Sr K (m ++ [q]) (S ++ [o]) (upd H q ho) := by
 have hq : q ∉ m := fun z => by
  obtain ⟨l, e⟩ := List.getElem?_of_mem z
  obtain ⟨o, _, k⟩ := r.at_ e
  obtain ⟨ho, e2, _⟩ := k.some
  rw [h] at e2; cases e2
 refine ⟨by simp [r.len], ?_, fun l a o' h1 h2 => ?_⟩
 ·rw [List.nodup_append]
  exact ⟨r.nd, by simp, fun x hx y hy z => by simp at hy; subst hy; subst z; exact hq hx⟩
 ·by_cases c : l < m.length
  ·rw [List.getElem?_append_left c] at h1
   rw [List.getElem?_append_left (by rw [← r.len]; exact c)] at h2
   have q' := r.ob l a o' h1 h2
   obtain ⟨ho', e, _⟩ := q'.some
   exact q'.mono (.new (b8 h _)) (by rw [bF (dj e h)])
  ·have e : l = m.length := by
    have := (List.getElem?_eq_some_iff.mp h1).1
    simp at this; omega
   subst e
   rw [List.getElem?_append_right (Nat.le_refl _)] at h1
   rw [List.getElem?_append_right (by rw [r.len]; exact Nat.le_refl _)] at h2
   simp [r.len] at h1 h2
   subst h1; subst h2
   exact n
theorem Sr.put (r : Sr K m S H) (h : m[l]? = some a) (n : Ob K m (upd H a ho) a o) : Sr K m (S.set l o) (upd H a ho) := by
 obtain ⟨o0, h0, k0⟩ := r.at_ h
 obtain ⟨ho', e, nt, nf, nl⟩ := k0.some
 refine ⟨by simp [r.len], r.nd, fun l' a' o' h1 h2 => ?_⟩
 by_cases c : l = l'
 ·subst c
  rw [h] at h1; cases h1
  rw [List.getElem?_set_self (List.getElem?_eq_some_iff.mp h0).1] at h2
  cases h2
  exact n
 ·rw [List.getElem?_set_ne c] at h2
  have na : a' ≠ a := fun z => by
   subst z
   obtain ⟨p1, e1⟩ := List.getElem?_eq_some_iff.mp h
   obtain ⟨p2, e2⟩ := List.getElem?_eq_some_iff.mp h1
   exact c ((List.getElem_inj r.nd).mp (e1.trans e2.symm))
  exact (r.ob l' a' o' h1 h2).mono (.of (rL e nt nf nl _)) (by rw [bF na])
theorem Sr.keep (r : Sr K m S H) (h : m[l]? = some a) (ho : HO) : zN K H (upd H a ho) := by
 obtain ⟨o0, h0, k0⟩ := r.at_ h
 obtain ⟨ho', e, nt, nf, nl⟩ := k0.some
 exact rL e nt nf nl _
end
noncomputable def kh (K : PySem.W.Frag) (m : List Addr) (H : Hp) (Q : VK) (u : U) (S' : Sto) : Prop := ∀ m' v H', Ext K m H m' H' → Sr K m' S' H' → Is K m' H' v u → Q v H'
noncomputable abbrev CE := Rho → Sto → Option (U × Sto)
noncomputable abbrev CT := Rho → Sto → Option (Bool × Sto)
noncomputable abbrev CA := Rho → Sto → Option (List U × Sto)
inductive Out where
 | nx | rt (u : U) | bk | ct
noncomputable abbrev CS := Rho → Sto → Option (Out × Rho × Sto)
noncomputable def yU (K : PySem.W.Frag) (m : List Addr) (H : Hp) (Q : Bool → Hp → Prop) (b : Bool) (S' : Sto) : Prop := ∀ m' H', Ext K m H m' H' → Sr K m' S' H' → Q b H'
noncomputable def Hg (K : PySem.W.Frag) (m : List Addr) (H : Hp) (Q : List V → Hp → Prop) (us : List U) (S' : Sto) : Prop := ∀ m' vs H', Ext K m H m' H' → Sr K m' S' H' → IsL K m' H' vs us → Q vs H'
noncomputable def jT (K : PySem.W.Frag) (m : List Addr) (H : Hp) (Q : L2.St → Hp → Prop) (ρ' : Rho) (S' : Sto) : Prop := ∀ m' σ' H', Ext K m H m' H' → Sr K m' S' H' → Lr K m' H' ρ' σ' → Q σ' H'
noncomputable def tQ (K : PySem.W.Frag) (m : List Addr) (H : Hp) (D : zP) : Out → Rho → Sto → Prop
 | .nx, ρ', S' => jT K m H D.nx ρ' S'
 | .bk, ρ', S' => jT K m H D.bk ρ' S'
 | .ct, ρ', S' => jT K m H D.ct ρ' S'
 | .rt u, _, S' => kh K m H D.rt u S'
theorem kI {α β γ δ ε : Type} {A B C D : α → β → γ → δ → ε → Prop} {p : Prop} (h : ∃ a b c d e, A a b c d e ∧ B a b c d e ∧ C a b c d e ∧ D a b c d e) (f : ∀ a b c d e, A a b c d e → B a b c d e → C a b c d e → D a b c d e → p) : p := by
 obtain ⟨a, b, c, d, e, h1, h2, h3, h4⟩ := h
 exact f a b c d e h1 h2 h3 h4
theorem sd {α β γ δ ε ζ : Type} {A B C D : α → β → γ → δ → ε → ζ → Prop} {p : Prop} (h : ∃ a b c d e g, A a b c d e g ∧ B a b c d e g ∧ C a b c d e g ∧ D a b c d e g) (f : ∀ a b c d e g, A a b c d e g → B a b c d e g → C a b c d e g → D a b c d e g → p) : p := by
 obtain ⟨a, b, c, d, e, g, h1, h2, h3, h4⟩ := h
 exact f a b c d e g h1 h2 h3 h4
theorem HM {α β γ δ ε ζ : Type} {A B C D E : α → β → γ → δ → ε → ζ → Prop} {p : Prop} (h : ∃ a b c d e g, A a b c d e g ∧ B a b c d e g ∧ C a b c d e g ∧ D a b c d e g ∧ E a b c d e g) (f : ∀ a b c d e g, A a b c d e g → B a b c d e g → C a b c d e g → D a b c d e g → E a b c d e g → p) : p := by
 obtain ⟨a, b, c, d, e, g, h1, h2, h3, h4, h5⟩ := h
 exact f a b c d e g h1 h2 h3 h4 h5
noncomputable def tE (K : PySem.W.Frag) (c : CE) : TE := fun σ H Q => ∃ m ρ S u S', Sr K m S H ∧ Lr K m H ρ σ ∧ c ρ S = some (u, S') ∧ kh K m H Q u S'
noncomputable def tT (K : PySem.W.Frag) (c : CT) : TT := fun σ H Q => ∃ m ρ S u S', Sr K m S H ∧ Lr K m H ρ σ ∧ c ρ S = some (u, S') ∧ yU K m H Q u S'
noncomputable def tA (K : PySem.W.Frag) (c : CA) : TA := fun σ H Q => ∃ m ρ S u S', Sr K m S H ∧ Lr K m H ρ σ ∧ c ρ S = some (u, S') ∧ Hg K m H Q u S'
noncomputable def tS (K : PySem.W.Frag) (c : CS) : TS := fun D σ H => ∃ m ρ S o ρ' S', Sr K m S H ∧ Lr K m H ρ σ ∧ c ρ S = some (o, ρ', S') ∧ tQ K m H D o ρ' S'
noncomputable abbrev QE (X : Cx) (e : Expr) (c : CE) : Prop := WE X e (tE X.K c)
noncomputable abbrev QT (X : Cx) (e : Expr) (c : CT) : Prop := WT X e (tT X.K c)
noncomputable abbrev QW (X : Cx) (e : Expr) (c : CT) : Prop := WW X e (tT X.K c)
noncomputable abbrev QS (X : Cx) (e : Stmt) (c : CS) : Prop := WS X e (tS X.K c)
noncomputable abbrev QSs (X : Cx) (e : List Stmt) (c : CS) : Prop := WSs X e (tS X.K c)
structure QA (X : Cx) (es : List Expr) (c : CA) : Prop where
 h : WA X es (tA X.K c)
 len : ∀ ρ S us S', c ρ S = some (us, S') → us.length = es.length
section
variable {X : Cx} {e : Expr} {es : List Expr} {st : Stmt} {sts : List Stmt}
theorem _root_.OG.WE.imp {t t' : TE} (h : WE X e t) (i : ∀ σ H Q, t' σ H Q → t σ H Q) : WE X e t' := ⟨fun pins s σ H Q I k => h.h pins s σ H Q I (i σ H Q k)⟩
theorem _root_.OG.WT.imp {t t' : TT} (h : WT X e t) (i : ∀ σ H Q, t' σ H Q → t σ H Q) : WT X e t' := ⟨fun pins s σ H Q I k => h.h pins s σ H Q I (i σ H Q k)⟩
theorem _root_.OG.WW.imp {t t' : TT} (h : WW X e t) (i : ∀ σ H Q, t' σ H Q → t σ H Q) : WW X e t' := ⟨fun wh pins s σ H Q I k => h.h wh pins s σ H Q I (i σ H Q k)⟩
theorem _root_.OG.WA.imp {t t' : TA} (h : WA X es t) (i : ∀ σ H Q, t' σ H Q → t σ H Q) : WA X es t' := ⟨fun pos pins s σ H Q I k => h.h pos pins s σ H Q I (i σ H Q k)⟩
theorem _root_.OG.WS.imp {t t' : TS} (h : WS X st t) (i : ∀ D σ H, t' D σ H → t D σ H) : WS X st t' := ⟨fun pins s σ H D I k => h.h pins s σ H D I (i D σ H k)⟩
theorem _root_.OG.WSs.imp {t t' : TS} (h : WSs X sts t) (i : ∀ D σ H, t' D σ H → t D σ H) : WSs X sts t' := ⟨fun pins s σ H D I k => h.h pins s σ H D I (i D σ H k)⟩
theorem _root_.OG.WI.imp {tg : Expr} {t t' : TI} (h : WI X tg e t) (i : ∀ σ H R, t' σ H R → t σ H R) : WI X tg e t' := ⟨fun pins s σ H R I k => h.h pins s σ H R I (i σ H R k)⟩
theorem _root_.OG.WG.imp {t t' : TG} (h : WG X e t) (i : ∀ v σ H Q, t' v σ H Q → t v σ H Q) : WG X e t' := ⟨fun pins s σ H v u Q I r k => h.h pins s σ H v u Q I r (i v σ H Q k)⟩
theorem _root_.OG.WGs.imp {t t' : TGs} (h : WGs X es t) (i : ∀ v σ H Q, t' v σ H Q → t v σ H Q) : WGs X es t' := ⟨fun pins s σ H v u Q I r k => h.h pins s σ H v u Q I r (i v σ H Q k)⟩
theorem _root_.OG.WE.or {t t' : TE} (h : WE X e t) (h' : WE X e t') : WE X e (fun σ H Q => t σ H Q ∨ t' σ H Q) := ⟨fun pins s σ H Q I k => k.elim (h.h pins s σ H Q I) (h'.h pins s σ H Q I)⟩
theorem _root_.OG.WT.or {t t' : TT} (h : WT X e t) (h' : WT X e t') : WT X e (fun σ H Q => t σ H Q ∨ t' σ H Q) := ⟨fun pins s σ H Q I k => k.elim (h.h pins s σ H Q I) (h'.h pins s σ H Q I)⟩
theorem _root_.OG.WS.or {t t' : TS} (h : WS X st t) (h' : WS X st t') : WS X st (fun D σ H => t D σ H ∨ t' D σ H) := ⟨fun pins s σ H D I k => k.elim (h.h pins s σ H D I) (h'.h pins s σ H D I)⟩
theorem _root_.OG.WI.or {tg : Expr} {t t' : TI} (h : WI X tg e t) (h' : WI X tg e t') : WI X tg e (fun σ H D => t σ H D ∨ t' σ H D) := ⟨fun pins s σ H D I k => k.elim (h.h pins s σ H D I) (h'.h pins s σ H D I)⟩
end
section
variable {K : PySem.W.Frag} {m m' : List Addr} {H H' : Hp} {Q : VK} {R : L2.St → Hp → Prop} {D : zP} {u : U} {o : Out} {S' : Sto} {ρ' : Rho}
theorem kh.mono (e : Ext K m H m' H') (p : kh K m H Q u S') : kh K m' H' Q u S' := fun m2 v H2 e2 r i => p m2 v H2 (e.trans e2) r i
theorem yU.mono {Q : Bool → Hp → Prop} {b : Bool} (e : Ext K m H m' H') (p : yU K m H Q b S') : yU K m' H' Q b S' := fun m2 H2 e2 r => p m2 H2 (e.trans e2) r
theorem jT.mono (e : Ext K m H m' H') (p : jT K m H R ρ' S') : jT K m' H' R ρ' S' := fun m2 v H2 e2 r i => p m2 v H2 (e.trans e2) r i
theorem tQ.mono (e : Ext K m H m' H') (p : tQ K m H D o ρ' S') : tQ K m' H' D o ρ' S' := by
 cases o with
 | nx => exact jT.mono e p
 | rt u => exact kh.mono e p
 | bk => exact jT.mono e p
 | ct => exact jT.mono e p
end
noncomputable def LIM : Nat := 100000
theorem lim {n : Nat} (h : n ≤ LIM) : n ≤ sizeLine := Nat.le_trans h (by unfold LIM sizeLine; decide)
theorem BS {n : Nat} (h : n < LIM) : n < sizeLine := Nat.lt_of_lt_of_le h (by unfold LIM sizeLine; decide)
noncomputable def ak (i : Nat) : CE := fun ρ S => match ρ[i]? with
 | some (some u) => some (u, S)
 | _ => none
noncomputable def cC (u : U) : CE := fun _ S => some (u, S)
section
variable {X : Cx} {e a b c : Expr} {ca cb cc : CE} {pos : Pos}
theorem ah {i : Nat} (h : WE X e (EG i)) : QE X e (ak i) := h.imp fun σ H Q hz => kI hz fun m ρ S u S' sr lr hc post => by
 unfold ak at hc
 split at hc
 ·rename_i u' e
  cases hc
  obtain ⟨v, e1, e2⟩ := lr.at_ i u e
  exact ⟨v, e1, post m v H .refl sr e2⟩
 ·cases hc
theorem q_c {v : V} {u : U} (h : WE X e (tC v)) (hi : ∀ m H, Is X.K m H v u) : QE X e (cC u) := h.imp fun σ H Q hz => kI hz fun m ρ S u' S' sr lr hc post => by
 cases hc
 exact post m v H .refl sr (hi m H)
theorem ao {i : Int} (h : WE X e (tC (.int i))) : QE X e (cC (.int i)) := q_c h fun _ _ => .int_
theorem kM {i : Bool} (h : WE X e (tC (.bl i))) : QE X e (cC (.bl i)) := q_c h fun _ _ => .bl_
theorem aM {i : Str} (h : WE X e (tC (.str i))) : QE X e (cC (.str i)) := q_c h fun _ _ => .str_
theorem uW (h : WE X e (tC .non)) : QE X e (cC .non) := q_c h fun _ _ => .non_
noncomputable def cOp (f : U → U → Sto → Option (U × Sto)) (ca cb : CE) : CE := fun ρ S => (ca ρ S).bind fun p => (cb ρ p.2).bind fun q => f p.1 q.1 q.2
noncomputable def OpP (K : PySem.W.Frag) (r : R2) (f : U → U → Sto → Option (U × Sto)) : Prop :=
 ∀ m S H x y v w u S' Q, Sr K m S H → Is K m H v x → Is K m H w y → f x y S = some (u, S') → kh K m H Q u S' → r v w H Q
theorem vo {K : PySem.W.Frag} {r : R2} {f : U → U → Sto → Option (U × Sto)} (hp : OpP K r f) : ∀ σ H Q, tE K (cOp f ca cb) σ H Q → tOp r (tE K ca) (tE K cb) σ H Q := by
 rintro σ H Q ⟨m, ρ, S, u, S', sr, lr, hc, post⟩
 obtain ⟨⟨x, S1⟩, h1, h⟩ := Option.bind_eq_some_iff.mp hc
 obtain ⟨⟨y, S2⟩, h2, h3⟩ := Option.bind_eq_some_iff.mp h
 exact ⟨m, ρ, S, x, S1, sr, lr, h1, fun m1 v1 H1 e1 sr1 i1 => ⟨m1, ρ, S1, y, S2, sr1, lr.mono e1, h2, fun m2 v2 H2 e2 sr2 i2 => hp m2 S2 H2 x y v1 v2 u S' Q sr2 (i1.mono e2) i2 h3 (post.mono (e1.trans e2))⟩⟩
theorem cK {op : Operator} {r : R2} {f : U → U → Sto → Option (U × Sto)} (ho : OpR X (binaryOp op) r) (hp : OpP X.K r f) (ha : QE X a ca) (hb : QE X b cb) : QE X (.BinOp a op b pos) (cOp f ca cb) := (CK ho ha hb).imp (vo hp)
theorem u0 {op : CmpOp} {r : R2} {f : U → U → Sto → Option (U × Sto)} (ho : OpR X (compareOp op) r) (hp : OpP X.K r f) (ha : QE X a ca) (hb : QE X b cb) (hm : behindInMarks op b = false) : QE X (.Compare a [op] [b] pos) (cOp f ca cb) := (nQ ho ha hb hm).imp (vo hp)
noncomputable def aG (c : CE) : CT := fun ρ S => (c ρ S).bind fun p => match p.1 with
 | .bl b => some (b, p.2)
 | _ => none
theorem kX {K : PySem.W.Frag} {c : CE} {t : TE} (h : ∀ σ H Q, tE K c σ H Q → t σ H Q) : ∀ σ H Q, tT K (aG c) σ H Q → t σ H fun x H' => ∃ k, x = .bl k ∧ Q k H' := by
 rintro σ H Q ⟨m, ρ, S, u, S', sr, lr, hc, post⟩
 obtain ⟨⟨x, S1⟩, h1, h2⟩ := Option.bind_eq_some_iff.mp hc
 refine h σ H _ ⟨m, ρ, S, x, S1, sr, lr, h1, fun m1 v1 H1 e1 sr1 i1 => ?_⟩
 cases x <;> simp at h2
 obtain ⟨rfl, rfl⟩ := h2
 exact ⟨_, i1.of_bl, post m1 H1 e1 sr1⟩
theorem aT {op : CmpOp} {r : R2} {f : U → U → Sto → Option (U × Sto)} (ho : OpR X (compareOp op) r) (hp : OpP X.K r f) (ha : QE X a ca) (hb : QE X b cb) (hm : behindInMarks op b = false) : QT X (.Compare a [op] [b] pos) (aG (cOp f ca cb)) := (nO ho ha hb hm).imp (kX (vo hp))
theorem gH (h : QE X e ca) (he : ∀ whole, isTrue e X.env whole = (do let v ← whole; standAt e.pos; holding [v] (truthy v)) := by intro _; rfl) : QT X e (aG ca) := (Ac h he).imp (kX fun _ _ _ z => z)
variable {ta tb : CT} {rest : List Expr}
noncomputable def BU (ta tb : CT) : CT := fun ρ S => (ta ρ S).bind fun p => if p.1 = true then tb ρ p.2 else some (false, p.2)
noncomputable def cOr (ta tb : CT) : CT := fun ρ S => (ta ρ S).bind fun p => if p.1 = true then some (true, p.2) else tb ρ p.2
noncomputable def p9 (ta : CT) : CT := fun ρ S => (ta ρ S).bind fun p => some (!p.1, p.2)
theorem sQ (h : QW X e ta) : QT X e ta := WW.pt h
theorem va (ha : QT X a ta) : QW X (.BoolOp .And [a] pos) ta := xg ha
theorem m6 (ha : QT X a ta) : QW X (.BoolOp .Or [a] pos) ta := Aa ha
theorem AJ (ha : QT X a ta) (hb : QW X (.BoolOp .And (b :: rest) pos) tb) : QW X (.BoolOp .And (a :: b :: rest) pos) (BU ta tb) := (Ab ha hb).imp fun σ H Q hz => kI hz fun m ρ S u S' sr lr hc post => by
 obtain ⟨⟨x, S1⟩, h1, h2⟩ := Option.bind_eq_some_iff.mp hc
 refine ⟨m, ρ, S, x, S1, sr, lr, h1, fun m1 H1 e1 sr1 => ?_⟩
 cases x with
 | true => exact D8 ⟨m1, ρ, S1, u, S', sr1, lr.mono e1, h2, post.mono e1⟩
 | false => cases h2; exact D9 (post m1 H1 e1 sr1)
theorem sR (ha : QT X a ta) (hb : QW X (.BoolOp .Or (b :: rest) pos) tb) : QW X (.BoolOp .Or (a :: b :: rest) pos) (cOr ta tb) := (CF ha hb).imp fun σ H Q hz => kI hz fun m ρ S u S' sr lr hc post => by
 obtain ⟨⟨x, S1⟩, h1, h2⟩ := Option.bind_eq_some_iff.mp hc
 refine ⟨m, ρ, S, x, S1, sr, lr, h1, fun m1 H1 e1 sr1 => ?_⟩
 cases x with
 | true => cases h2; exact D8 (post m1 H1 e1 sr1)
 | false => exact D9 ⟨m1, ρ, S1, u, S', sr1, lr.mono e1, h2, post.mono e1⟩
theorem gI (ha : QT X a ta) : QT X (.UnaryOp .Not a pos) (p9 ta) := (Ad ha).imp fun σ H Q hz => kI hz fun m ρ S u S' sr lr hc post => by
 obtain ⟨⟨x, S1⟩, h1, h2⟩ := Option.bind_eq_some_iff.mp hc
 cases h2
 exact ⟨m, ρ, S, x, _, sr, lr, h1, fun m1 H1 e1 sr1 => post m1 H1 e1 sr1⟩
noncomputable def mL (ca cb : CE) : CE := fun ρ S => (ca ρ S).bind fun p => match p.1 with
 | .bl true => cb ρ p.2
 | .bl false => some (.bl false, p.2)
 | _ => none
noncomputable def HN (ca cb : CE) : CE := fun ρ S => (ca ρ S).bind fun p => match p.1 with
 | .bl false => cb ρ p.2
 | .bl true => some (.bl true, p.2)
 | _ => none
noncomputable def wM (ca : CE) : CE := fun ρ S => (ca ρ S).bind fun p => match p.1 with
 | .bl b => some (.bl (!b), p.2)
 | _ => none
theorem qo {op} (h : QE X a ca) : QE X (.BoolOp op [a] pos) ca := Aj h
theorem ky (ha : QE X a ca) (hb : QE X (.BoolOp .And (b :: rest) pos) cb) : QE X (.BoolOp .And (a :: b :: rest) pos) (mL ca cb) := (An ha hb).imp fun σ H Q hz => kI hz fun m ρ S u S' sr lr hc post => by
 obtain ⟨⟨x, S1⟩, h1, h2⟩ := Option.bind_eq_some_iff.mp hc
 refine ⟨m, ρ, S, x, S1, sr, lr, h1, fun m1 v1 H1 e1 sr1 i1 => ?_⟩
 cases x with
 | bl k =>
  refine ⟨k, i1.of_bl, ?_⟩
  cases k with
  | true => exact D8 ⟨m1, ρ, S1, u, S', sr1, lr.mono e1, h2, post.mono e1⟩
  | false => cases h2; exact D9 (post m1 _ H1 e1 sr1 .bl_)
 | _ => simp at h2
theorem zu (ha : QE X a ca) : QE X (.UnaryOp .Not a pos) (wM ca) := (Ak ha).imp fun σ H Q hz => kI hz fun m ρ S u S' sr lr hc post => by
 obtain ⟨⟨x, S1⟩, h1, h2⟩ := Option.bind_eq_some_iff.mp hc
 refine ⟨m, ρ, S, x, S1, sr, lr, h1, fun m1 v1 H1 e1 sr1 i1 => ?_⟩
 cases x with
 | bl k => cases h2; exact ⟨k, i1.of_bl, post m1 _ H1 e1 sr1 .bl_⟩
 | _ => simp at h2
noncomputable def cIf (t : CT) (ca cb : CE) : CE := fun ρ S => (t ρ S).bind fun p => if p.1 = true then ca ρ p.2 else cb ρ p.2
noncomputable def nL (f f' : U → U → Sto → Option (U × Sto)) (ca cb cc : CE) : CE := fun ρ S => (ca ρ S).bind fun p => (cb ρ p.2).bind fun q => (f p.1 q.1 q.2).bind fun r => match r.1 with
 | .bl true => (cc ρ r.2).bind fun z => f' q.1 z.1 z.2
 | .bl false => some (.bl false, r.2)
 | _ => none
theorem wH {K : PySem.W.Frag} {r r' : R2} {f f' : U → U → Sto → Option (U × Sto)} (hp : OpP K r f) (hp' : OpP K r' f') : ∀ σ H Q, tE K (nL f f' ca cb cc) σ H Q → uK r r' (tE K ca) (tE K cb) (tE K cc) σ H Q := by
 rintro σ H Q ⟨m, ρ, S, u, S', sr, lr, hc, post⟩
 obtain ⟨⟨x, S1⟩, h1, h⟩ := Option.bind_eq_some_iff.mp hc
 obtain ⟨⟨y, S2⟩, h2, h⟩ := Option.bind_eq_some_iff.mp h
 obtain ⟨⟨z, S3⟩, h3, h4⟩ := Option.bind_eq_some_iff.mp h
 refine ⟨m, ρ, S, x, S1, sr, lr, h1, fun m1 v1 H1 e1 sr1 i1 => ⟨m1, ρ, S1, y, S2, sr1, lr.mono e1, h2, fun m2 v2 H2 e2 sr2 i2 => hp m2 S2 H2 x y v1 v2 z S3 _ sr2 (i1.mono e2) i2 h3 fun m3 v3 H3 e3 sr3 i3 => ?_⟩⟩
 have e03 := (e1.trans e2).trans e3
 cases z with
 | bl k =>
  refine ⟨k, i3.of_bl, ?_⟩
  cases k with
  | true =>
   obtain ⟨⟨w, S4⟩, h5, h6⟩ := Option.bind_eq_some_iff.mp h4
   exact D8 ⟨m3, ρ, S3, w, S4, sr3, lr.mono e03, h5, fun m4 v4 H4 e4 sr4 i4 => hp' m4 S4 H4 y w v2 v4 u S' Q sr4 (i2.mono (e3.trans e4)) i4 h6 (post.mono (e03.trans e4))⟩
  | false => cases h4; exact D9 (post m3 _ H3 e03 sr3 .bl_)
 | _ => simp at h4
theorem u9 {op op' : CmpOp} {r r' : R2} {f f' : U → U → Sto → Option (U × Sto)} (ho : OpR X (compareOp op) r) (hp : OpP X.K r f) (ho' : OpR X (compareOp op') r') (hp' : OpP X.K r' f') (ha : QE X a ca) (hb : QE X b cb) (hc : QE X c cc)
  (hm : lastMarks [op, op'] [b, c] = false := by with_unfolding_all rfl) : QE X (.Compare a [op, op'] [b, c] pos) (nL f f' ca cb cc) := (uy ho ho' ha hb hc hm).imp (wH hp hp')
variable {es : List Expr} {cr : CA}
noncomputable def aq : CA := fun _ S => some ([], S)
noncomputable def ab (ca : CE) (cr : CA) : CA := fun ρ S => (ca ρ S).bind fun p => (cr ρ p.2).bind fun q => some (p.1 :: q.1, q.2)
theorem av : QA X [] aq := ⟨jW.imp fun σ H Q hz => kI hz fun m ρ S u S' sr lr hc post => by cases hc; exact post m [] H .refl sr .nil_, fun ρ S us S' h => by cases h; rfl⟩
theorem ae (ha : QE X e ca) (hr : QA X es cr) (hs : starEach (e :: es) X.env = (false, eval e X.env) :: starEach es X.env := by rfl) : QA X (e :: es) (ab ca cr) := ⟨(fz ha hr.h hs).imp fun σ H Q hz => kI hz fun m ρ S u S' sr lr hc post => by
 obtain ⟨⟨x, S1⟩, h1, h⟩ := Option.bind_eq_some_iff.mp hc
 obtain ⟨⟨y, S2⟩, h2, h3⟩ := Option.bind_eq_some_iff.mp h
 cases h3
 exact ⟨m, ρ, S, x, S1, sr, lr, h1, fun m1 v1 H1 e1 sr1 i1 => ⟨m1, ρ, S1, y, S2, sr1, lr.mono e1, h2, fun m2 v2 H2 e2 sr2 i2 => post m2 _ H2 (e1.trans e2) sr2 (.cons_ (i1.mono e2) i2)⟩⟩,
 fun ρ S us S' h => by
 obtain ⟨⟨x, S1⟩, h1, h⟩ := Option.bind_eq_some_iff.mp h
 obtain ⟨⟨y, S2⟩, h2, h3⟩ := Option.bind_eq_some_iff.mp h
 cases h3
 simp [hr.len ρ S1 y S2 h2]⟩
noncomputable def aN (cr : CA) : CE := fun ρ S => (cr ρ S).bind fun p => some (.tup p.1, p.2)
noncomputable def bE (cr : CA) : CE := fun ρ S => (cr ρ S).bind fun p => some (.ref p.2.length, p.2 ++ [.lst p.1])
theorem eU {m : List Addr} {S : Sto} {q : Addr} (h : m.length = S.length) : (m ++ [q])[S.length]? = some q := by rw [List.getElem?_append_right (by omega)]; simp [h]
theorem nZ {K : PySem.W.Frag} {m : List Addr} {H : Hp} {S : Sto} {us : List U} {xs : List V} {Q : VK} {p : Addr} (sr : Sr K m S H) (i : IsL K m H xs us) (post : kh K m H Q (.tup us) S) (hp : H p = none) : Q (.ref p) (upd H p (.tup xs)) :=
 post m _ _ (.of (b8 hp _)) (sr.same (dQ hp _)) (.tup_ (SqT.of aK) (i.mono (.of (b8 hp _))))
theorem iT {K : PySem.W.Frag} {m : List Addr} {H : Hp} {S : Sto} {us : List U} {xs : List V} {Q : VK} {p : Addr} (sr : Sr K m S H) (i : IsL K m H xs us) (post : kh K m H Q (.ref S.length) (S ++ [.lst us])) (hp : H p = none) : Q (.ref p) (upd H p (.lst xs)) :=
 post (m ++ [p]) _ _ (.new (b8 hp _)) (sr.new hp ⟨xs, aK, i.mono (.new (b8 hp _))⟩) (.ref_ (eU sr.len))
theorem bc {x1} (h : QA X es cr) (hl : es.length ≤ 1000 := by exact Nat.le_of_ble_eq_true rfl) : QE X (.Tuple es x1 pos) (aN cr) := (um h.h).imp fun σ H Q hz => kI hz fun m ρ S u S' sr lr hc post => by
 obtain ⟨⟨us, S1⟩, h1, h2⟩ := Option.bind_eq_some_iff.mp hc
 cases h2
 refine ⟨m, ρ, S, us, _, sr, lr, h1, fun m1 v1 H1 e1 sr1 i1 => ⟨zk ?_, fun p hp => nZ sr1 i1 (post.mono e1) hp⟩⟩
 rw [i1.length, h.len _ _ _ _ h1]; exact hl
theorem cy (h : QA X es cr) (hl : es.length ≤ 1000 := by exact Nat.le_of_ble_eq_true rfl) : QE X (.List es pos) (bE cr) := (uq h.h).imp fun σ H Q hz => kI hz fun m ρ S u S' sr lr hc post => by
 obtain ⟨⟨us, S1⟩, h1, h2⟩ := Option.bind_eq_some_iff.mp hc
 cases h2
 refine ⟨m, ρ, S, us, _, sr, lr, h1, fun m1 v1 H1 e1 sr1 i1 => ⟨zk ?_, fun p hp => iT sr1 i1 (post.mono e1) hp⟩⟩
 rw [i1.length, h.len _ _ _ _ h1]; exact hl
noncomputable def cCB (f : List U → Sto → Option (U × Sto)) (cr : CA) : CE := fun ρ S => (cr ρ S).bind fun p => f p.1 p.2
noncomputable def tV (K : PySem.W.Frag) (r : List V → Hp → VK → Prop) (f : List U → Sto → Option (U × Sto)) : Prop :=
 ∀ m S H us vs u S' Q, Sr K m S H → IsL K m H vs us → f us S = some (u, S') → kh K m H Q u S' → r vs H Q
theorem zK {K : PySem.W.Frag} {r : List V → Hp → VK → Prop} {f : List U → Sto → Option (U × Sto)} (hp : tV K r f) : ∀ σ H Q, tE K (cCB f cr) σ H Q → tCB r (tA K cr) σ H Q := by
 rintro σ H Q ⟨m, ρ, S, u, S', sr, lr, hc, post⟩
 obtain ⟨⟨us, S1⟩, h1, h2⟩ := Option.bind_eq_some_iff.mp hc
 exact ⟨m, ρ, S, us, S1, sr, lr, h1, fun m1 v1 H1 e1 sr1 i1 => hp m1 S1 H1 us v1 u S' Q sr1 i1 h2 (post.mono e1)⟩
theorem d8 {id : String} {x : Str} {p : Pos} {r : List V → Hp → VK → Prop} {f : List U → Sto → Option (U × Sto)} (hc : iP X (.builtin id) r) (hp : tV X.K r f) (hg : Gl X x) (hm : X.mg x = none) (hv : bootBuiltins x = some (.builtin id)) (ha : QA X (e :: es) cr) (hn : x ≠ "__name__" := by decide) (hdb : (x == ("__debug__" : Str)) = false := by decide) (he : starEach (e :: es) X.env = (false, eval e X.env) :: starEach es X.env := by rfl) (hpl : (backTo pos (starEach es X.env)).any (·.1) = false := by rfl) :
  QE X (.Call (.Name x p) (e :: es) [] pos) (cCB f cr) := (oX hc hg hm hv ha.h hn hdb he hpl).imp (zK hp)
theorem iS {id : String} {x : Str} {p : Pos} {r : List V → Hp → VK → Prop} {f : List U → Sto → Option (U × Sto)} (hc : iP X (.type id) r) (hp : tV X.K r f) (hg : Gl X x) (hm : X.mg x = none) (hv : bootBuiltins x = some (.type id)) (ha : QA X (e :: es) cr) (hn : x ≠ "__name__" := by decide) (hdb : (x == ("__debug__" : Str)) = false := by decide) (he : starEach (e :: es) X.env = (false, eval e X.env) :: starEach es X.env := by rfl) (hpl : (backTo pos (starEach es X.env)).any (·.1) = false := by rfl) :
  QE X (.Call (.Name x p) (e :: es) [] pos) (cCB f cr) := (nu hc hg hm hv ha.h hn hdb he hpl).imp (zK hp)
end
noncomputable def xA (K : PySem.W.Frag) (f : List U → Sto → Option (U × Sto)) : Sp := fun vs H Q _ => ∃ m us S u S', IsL K m H vs us ∧ Sr K m S H ∧ f us S = some (u, S') ∧ kh K m H Q u S'
noncomputable abbrev Fn := List U → Sto → Option (U × Sto)
noncomputable abbrev fO (P : Program) (w : World) (K : PySem.W.Frag) (mg : Str → Option Value) (base : Heap) (x : Str) (k : Nat) (ps : List Str) (f : Fn) : Prop := Has P w K mg base x k ps (xA K f)
noncomputable def o9 (n : Nat) (us : List U) : Rho := us.map some ++ List.replicate (n - us.length) none
noncomputable def fnU (n k : Nat) (c : CS) : Fn := fun us S => if us.length = k then (c (o9 n us) S).bind fun r => match r.1 with
 | .rt u => some (u, r.2.2)
 | .nx => some (.non, r.2.2)
 | _ => none else none
section
variable {P : Program} {w : World} {K : PySem.W.Frag} {mg : Str → Option Value} {base : Heap} {x : Str} {st : Stmt} {ps N : List Str} {k : Nat} {c : CS} {f : Fn}
theorem yn {m : List Addr} {H : Hp} {vs : List V} {us : List U} (i : IsL K m H vs us) : Lr K m H (o9 N.length us) (L2.jF N vs) := by
 have hl := i.length
 refine ⟨by simp [o9, L2.jF, hl], fun j u e => ?_⟩
 unfold o9 at e
 unfold L2.jF
 by_cases c : j < us.length
 ·rw [List.getElem?_append_left (by simpa using c), List.getElem?_map] at e
  rw [List.getElem?_append_left (by simpa [hl] using c), List.getElem?_map]
  rw [List.getElem?_eq_getElem c] at e
  simp at e
  obtain ⟨v, e1, e2⟩ := i.getD (List.getElem?_eq_getElem c)
  rw [e1]
  subst e
  exact ⟨v, rfl, e2⟩
 ·rw [List.getElem?_append_right (by simpa using c), List.getElem?_replicate] at e
  split at e <;> cases e
theorem vX {X : Cx} {body : List Stmt} {Q : VK} {E : XK} {vs : List V} {H : Hp} (hK : X.K = K) (h : xA K (fnU N.length ps.length c) vs H Q E) : tS X.K c { nx := fun _ H' => Q .non H', rt := Q } (L2.jF N vs) H := by
 subst hK
 obtain ⟨m, us, S, u, S', i, sr, hf, post⟩ := h
 unfold fnU at hf
 split at hf
 ·obtain ⟨⟨o, ρ', S2⟩, h1, h2⟩ := Option.bind_eq_some_iff.mp hf
  refine ⟨m, _, S, o, ρ', S2, sr, yn i, h1, ?_⟩
  cases o with
  | rt v => cases h2; exact post
  | nx => cases h2; exact fun m1 σ1 H1 e1 sr1 _ => post m1 _ H1 e1 sr1 .non_
  | bk => simp at h2
  | ct => simp at h2
 ·cases hf
theorem rn {vs : List V} {H : Hp} {Q : VK} {E : XK} {n k : Nat} (h : xA K (fnU n k c) vs H Q E) : vs.length = k := by
 obtain ⟨m, us, S, u, S', i, sr, hf, post⟩ := h
 unfold fnU at hf
 split at hf
 ·rename_i e
  rw [i.length, e]
 ·cases hf
theorem _root_.OG.Def.pure (d : Def K mg x st ps) (S : aW N ps (ax st))
  (hb : ∀ (f : Addr) (cdv : Value) (A : Around) (outer : List Env) (s : Shared) (H : Hp) (E : XK), iX k (A.deeper (envOfC x (ax st) s.heap.objs.size f cdv)) →
   WSs (t4 CX0 P w K mg base N x (ax st) f cdv A outer s H E).nox (aR st) (tS K c)) : fO P w K mg base x (k + 1) ps (fnU N.length ps.length c) :=
 d.has S (fun vs H Q E h => rn h) fun f cdv A outer s H vs Q E hr h => ⟨_, hb f cdv A outer s H E hr, vX (X := (t4 CX0 P w K mg base N x (ax st) f cdv A outer s H E).nox) (body := []) (ps := ps) rfl h⟩
theorem aH {X : Cx} {e : Expr} {es : List Expr} {cr : CA} {p pos : Pos} (F : Has X.prog X.w X.K X.mg X.base x k ps (xA X.K f)) (hr : iX k X.A) (hg : Gl X x) (ha : QA X (e :: es) cr)
  (hdb : (x == ("__debug__" : Str)) = false := by decide) (he : starEach (e :: es) X.env = (false, eval e X.env) :: starEach es X.env := by rfl) (hpl : (backTo pos (starEach es X.env)).any (·.1) = false := by rfl) :
  QE X (.Call (.Name x p) (e :: es) [] pos) (cCB f cr) := (zc F hr hg ha.h hdb he hpl).imp fun σ H Q hz => kI hz fun m ρ S u S' sr lr hc post => by
 obtain ⟨⟨us, S1⟩, h1, h2⟩ := Option.bind_eq_some_iff.mp hc
 exact ⟨m, ρ, S, us, S1, sr, lr, h1, fun m1 v1 H1 e1 sr1 i1 => ⟨m1, us, S1, u, S', by simpa using i1, sr1, h2, post.mono e1⟩⟩
end
section
variable {X : Cx} {e a b c : Expr} {ca cb cc : CE} {pos : Pos} {st : Stmt} {sts : List Stmt} {c1 c2 : CS}
noncomputable def bM : CS := fun ρ S => some (.nx, ρ, S)
noncomputable def aZ (c1 c2 : CS) : CS := fun ρ S => (c1 ρ S).bind fun r => match r.1 with
 | .nx => c2 r.2.1 r.2.2
 | o => some (o, r.2.1, r.2.2)
theorem bt : QSs X [] bM := xi.imp fun D σ H hz => sd hz fun m ρ S o ρ' S' sr lr hc post => by cases hc; exact post m σ H .refl sr lr
theorem ar (h1 : QS X st c1) (h2 : QSs X sts c2) : QSs X (st :: sts) (aZ c1 c2) := (oW h1 h2).imp fun D σ H hz => sd hz fun m ρ S o ρ' S' sr lr hc post => by
 obtain ⟨⟨o1, ρ1, S1⟩, h1, h2⟩ := Option.bind_eq_some_iff.mp hc
 refine ⟨m, ρ, S, o1, ρ1, S1, sr, lr, h1, ?_⟩
 cases o1 with
 | nx => exact fun m1 σ1 H1 e1 sr1 lr1 => ⟨m1, ρ1, S1, o, ρ', S', sr1, lr1, h2, post.mono e1⟩
 | rt u => cases h2; exact post
 | bk => cases h2; exact post
 | ct => cases h2; exact post
theorem aB (h1 : QS X st c1) : QSs X [st] c1 := qZ h1
noncomputable def fC (ca : CE) : CS := fun ρ S => (ca ρ S).bind fun p => some (.nx, ρ, p.2)
theorem dZ (he : QE X e ca) (hs : swapsWith e none pos.line X.env = pure false := by rfl) : QS X (.Expr e pos) (fC ca) := (xj he hs).imp fun D σ H hz => sd hz fun m ρ S o ρ' S' sr lr hc post => by
 obtain ⟨⟨u, S1⟩, h1, h2⟩ := Option.bind_eq_some_iff.mp hc
 cases h2
 exact ⟨m, ρ, S, u, _, sr, lr, h1, fun m1 v1 H1 e1 sr1 i1 => post m1 σ H1 e1 sr1 (lr.mono e1)⟩
noncomputable def ed (ca : CE) : CS := fun ρ S => (ca ρ S).bind fun p => some (.rt p.1, ρ, p.2)
theorem aP (he : QE X e ca) : QS X (.Return (some e) pos) (ed ca) := (ui he).imp fun D σ H hz => sd hz fun m ρ S o ρ' S' sr lr hc post => by
 obtain ⟨⟨u, S1⟩, h1, h2⟩ := Option.bind_eq_some_iff.mp hc
 cases h2
 exact ⟨m, ρ, S, u, _, sr, lr, h1, post⟩
noncomputable def d9 (t : CT) (c1 c2 : CS) : CS := fun ρ S => (t ρ S).bind fun p => if p.1 = true then c1 ρ p.2 else c2 ρ p.2
theorem bX {t : CT} {s1 s2 : List Stmt} (hc : QT X c t) (h1 : QSs X s1 c1) (h2 : QSs X s2 c2) : QS X (.If c s1 s2 pos) (d9 t c1 c2) := (CH hc h1 h2).imp fun D σ H hz => sd hz fun m ρ S o ρ' S' sr lr hc post => by
 obtain ⟨⟨x, S1⟩, h1, h2⟩ := Option.bind_eq_some_iff.mp hc
 refine ⟨m, ρ, S, x, S1, sr, lr, h1, fun m1 H1 e1 sr1 => ?_⟩
 cases x with
 | true => exact D8 ⟨m1, ρ, S1, o, ρ', S', sr1, lr.mono e1, h2, post.mono e1⟩
 | false => exact D9 ⟨m1, ρ, S1, o, ρ', S', sr1, lr.mono e1, h2, post.mono e1⟩
noncomputable abbrev CG := U → Rho → Sto → Option (Rho × Sto)
noncomputable def tG (K : PySem.W.Frag) (g : CG) : TG := fun v σ H Q => ∃ m ρ S u ρ' S', Sr K m S H ∧ Lr K m H ρ σ ∧ Is K m H v u ∧ g u ρ S = some (ρ', S') ∧ jT K m H Q ρ' S'
noncomputable abbrev QG (X : Cx) (e : Expr) (g : CG) : Prop := WG X e (tG X.K g)
noncomputable def gNm (i : Nat) : CG := fun u ρ S => some (ρ.set i (some u), S)
theorem eg {i : Nat} (h : WG X e (tw i)) : QG X e (gNm i) := h.imp fun v σ H Q hz => HM hz fun m ρ S u ρ' S' sr lr iu hc post => by
 cases hc
 exact post m _ H .refl sr (lr.set i iu)
noncomputable def ic : List Nat → List U → Rho → Option Rho
 | [], [], ρ => some ρ
 | i :: is, u :: us, ρ => ic is us (ρ.set i (some u))
 | _, _, _ => none
noncomputable def tGs (K : PySem.W.Frag) (is : List Nat) : TGs := fun vs σ H Q => ∃ m ρ S us ρ', Sr K m S H ∧ Lr K m H ρ σ ∧ IsL K m H vs us ∧ ic is us ρ = some ρ' ∧ jT K m H Q ρ' S
noncomputable abbrev QGs (X : Cx) (es : List Expr) (is : List Nat) : Prop := WGs X es (tGs X.K is)
theorem uU : QGs X [] [] := xl.imp fun v σ H Q ⟨m, ρ, S, us, ρ', sr, lr, iu, hc, post⟩ => by
 cases us with
 | nil => cases hc; exact ⟨iu.of_nil, post m σ H .refl sr lr⟩
 | cons a r => simp [ic] at hc
theorem jK {i : Nat} {is : List Nat} {es : List Expr} (h : WG X e (tw i)) (h2 : QGs X es is) (hs : (assignEach (e :: es) X.env).map (·.2) = assign e X.env :: (assignEach es X.env).map (·.2) := by rfl) : QGs X (e :: es) (i :: is) := (uk h h2 hs).imp fun v σ H Q ⟨m, ρ, S, us, ρ', sr, lr, iu, hc, post⟩ => by
 cases us with
 | nil => simp [ic] at hc
 | cons u r =>
  obtain ⟨x, xr, rfl, i1, i2⟩ := iu.of_cons
  exact ⟨x, xr, rfl, m, ρ.set i (some u), S, r, ρ', sr, lr.set i i1, i2, hc, post⟩
noncomputable def gTp (is : List Nat) : CG := fun u ρ S => match u with
 | .tup us => (ic is us ρ).bind fun ρ' => some (ρ', S)
 | _ => none
theorem nB : ∀ {is : List Nat} {us : List U} {ρ ρ' : Rho}, ic is us ρ = some ρ' → us.length = is.length
 | [], [], _, _, _ => rfl
 | [], _ :: _, _, _, h => by simp [ic] at h
 | _ :: _, [], _, _, h => by simp [ic] at h
 | i :: is, u :: us, ρ, ρ', h => by
  have := nB (is := is) (us := us) h
  simp [this]
theorem zt {is : List Nat} {es : List Expr} {k : Nat} (hc : X.calm = true) (h : QGs X es is) (hn : (assignEach es X.env).length = is.length := by rfl) (hst : (assignEach es X.env).findIdx? (·.1) = none := by rfl) : QG X (.Tuple es k pos) (gTp is) := (Ah hc h hn hst).imp fun v σ H Q hz => HM hz fun m ρ S u ρ' S' sr lr iu hc post => by
 cases u with
 | tup us =>
  obtain ⟨ρ2, h1, h2⟩ := Option.bind_eq_some_iff.mp hc
  cases h2
  obtain ⟨a, xs, rfl, sq, il⟩ := iu.of_tup
  refine ⟨a, xs, rfl, sq, ?_, m, ρ, S, us, ρ', sr, lr, il, h1, post⟩
  rw [il.length]; exact nB h1
 | _ => simp [gTp] at hc
noncomputable def EB (ca : CE) (g : CG) : CS := fun ρ S => (ca ρ S).bind fun p => (g p.1 ρ p.2).bind fun q => some (.nx, q.1, q.2)
theorem BM {K : PySem.W.Frag} {g : CG} : ∀ D σ H, tS K (EB ca g) D σ H → C3 (tE K ca) (tG K g) D σ H := by
 rintro D σ H ⟨m, ρ, S, o, ρ', S', sr, lr, hc, post⟩
 obtain ⟨⟨u, S1⟩, h1, h2⟩ := Option.bind_eq_some_iff.mp hc
 obtain ⟨⟨ρ2, S2⟩, h3, h4⟩ := Option.bind_eq_some_iff.mp h2
 cases h4
 exact ⟨m, ρ, S, u, S1, sr, lr, h1, fun m1 v1 H1 e1 sr1 i1 => ⟨m1, ρ, S1, u, _, _, sr1, lr.mono e1, i1, h3, jT.mono e1 post⟩⟩
theorem Dc {tg : Expr} {g : CG} (he : QE X e ca) (hg : QG X tg g) (hs : swapsWithSole [tg] e pos.line X.env = pure false := by rfl) (hw : swappedStores [tg] e X.env = pure none := by rfl)
  (h1 : (assignEach [tg] X.env).map (·.2) = [assign tg X.env] := by rfl) : QS X (.Assign [tg] e pos) (EB ca g) := (uj he hg hs hw h1).imp BM
noncomputable def bZ (i : Nat) (ca : CE) : CS := fun ρ S => (ca ρ S).bind fun p => some (.nx, ρ.set i (some p.1), p.2)
theorem aJ {i : Nat} {x : Str} {pos' : Pos} (hN : X.N.Nodup) (hi : X.N[i]? = some x) (hx : Loc X.env.scope x) (he : QE X e ca) (hs : swapsWith e (some (.Name x pos')) pos.line X.env = pure false := by rfl) (hf : X.fn x = true ∨ X.env.scope.names.lookup x = some .local := by first | exact .inl rfl | exact .inr rfl | assumption) :
  QS X (.Assign [.Name x pos'] e pos) (bZ i ca) := (uh hN hi hx he hs hf).imp fun D σ H hz => sd hz fun m ρ S o ρ' S' sr lr hc post => by
 obtain ⟨⟨u, S1⟩, h1, h2⟩ := Option.bind_eq_some_iff.mp hc
 cases h2
 exact ⟨m, ρ, S, u, _, sr, lr, h1, fun m1 v1 H1 e1 sr1 i1 => post m1 _ H1 e1 sr1 ((lr.mono e1).set i i1)⟩
noncomputable abbrev CI := Rho → Sto → Option (List U × (Sto → Prop) × Sto)
noncomputable def yW (K : PySem.W.Frag) (J : It) (m : List Addr) (H : Hp) (us : List U) (ok : Sto → Prop) : Prop := ∀ m2 S2 H2 i, Ext K m H m2 H2 → Sr K m2 S2 H2 → ok S2 →
 (∀ u, us[i]? = some u → J.go i H2 ∧ ∀ x H3, J.yld i H2 x H3 → Ext K m2 H2 m2 H3 ∧ Sr K m2 S2 H3 ∧ Is K m2 H3 x u) ∧ (us.length ≤ i → J.stop i H2)
noncomputable def tI (K : PySem.W.Frag) (ci : CI) : TI := fun σ H R => ∃ m ρ S us ok S', Sr K m S H ∧ Lr K m H ρ σ ∧ ci ρ S = some (us, ok, S') ∧ ∀ m' H' J, Ext K m H m' H' → Sr K m' S' H' → yW K J m' H' us ok → R J H'
noncomputable abbrev QI (X : Cx) (tg iter : Expr) (ci : CI) : Prop := WI X tg iter (tI X.K ci)
open Classical in
noncomputable def fP (ok : Sto → Prop) (g : CG) (cb : CS) : List U → CS
 | [] => fun ρ S => if ok S then some (.nx, ρ, S) else none
 | u :: us => fun ρ S => if ok S then (g u ρ S).bind fun p => (cb p.1 p.2).bind fun r => match r.1 with
  | .nx => fP ok g cb us r.2.1 r.2.2
  | .ct => fP ok g cb us r.2.1 r.2.2
  | .bk => some (.nx, r.2.1, r.2.2)
  | .rt v => some (.rt v, r.2.1, r.2.2) else none
noncomputable def mW (ci : CI) (g : CG) (cb : CS) : CS := fun ρ S => (ci ρ S).bind fun p => fP p.2.1 g cb p.1 ρ p.2.2
theorem mG {α : Type} {us : List α} {i : Nat} {u : α} (h : us[i]? = some u) : us.drop i = u :: us.drop (i + 1) := by
 obtain ⟨hl, e⟩ := List.getElem?_eq_some_iff.mp h
 rw [List.drop_eq_getElem_cons hl, e]
theorem yo {K : PySem.W.Frag} {g : CG} {cb : CS} {J : It} {us : List U} {ok : Sto → Prop} {D : zP} {m1 : List Addr} {H1 : Hp} {ρ ρ' : Rho} {σ : L2.St} {S1 S' : Sto} {o : Out} (sr1 : Sr K m1 S1 H1) (lr1 : Lr K m1 H1 ρ σ) (ito : yW K J m1 H1 us ok) (h2 : fP ok g cb us ρ S1 = some (o, ρ', S')) (post : tQ K m1 H1 D o ρ' S') :
  ∃ W : Nat → Nat → L2.St → Hp → Prop, (∃ n, W 0 n σ H1) ∧ ∀ i n σ H, W i n σ H →
   (J.stop i H ∧ D.nx σ H) ∨ (J.go i H ∧ ∃ N : L2.St → Hp → Prop, (∀ σ' H', N σ' H' → ∃ n', n' < n ∧ W (i + 1) n' σ' H') ∧ ∀ x H', J.yld i H x H' → tG K g x σ H' fun σ2 H2 => tS K cb { D with nx := N, ct := N, bk := D.nx } σ2 H2) := by
 let W : Nat → Nat → L2.St → Hp → Prop := fun i n σ2 H2 => n = us.length - i ∧ i ≤ us.length ∧ ∃ m2 ρ2 S2, Ext K m1 H1 m2 H2 ∧ Sr K m2 S2 H2 ∧ Lr K m2 H2 ρ2 σ2 ∧ fP ok g cb (us.drop i) ρ2 S2 = some (o, ρ', S')
 refine ⟨W, ⟨us.length, by simp, Nat.zero_le _, m1, ρ, S1, .refl, sr1, lr1, by simpa using h2⟩, ?_⟩
 rintro i n σ2 H2 ⟨rfl, hi, m2, ρ2, S2, e2, sr2, lr2, hl⟩
 by_cases hlt : i < us.length
 ·have hu := List.getElem?_eq_getElem hlt
  rw [mG hu] at hl
  unfold fP at hl
  split at hl
  ·rename_i hok
   obtain ⟨⟨ρ3, S3⟩, h3, hl⟩ := Option.bind_eq_some_iff.mp hl
   obtain ⟨⟨o4, ρ4, S4⟩, h4, hl⟩ := Option.bind_eq_some_iff.mp hl
   obtain ⟨hgo, hy⟩ := (ito m2 S2 H2 i e2 sr2 hok).1 _ hu
   refine .inr ⟨hgo, W (i + 1) (us.length - (i + 1)), fun σ' H' w' => ⟨_, by omega, w'⟩, fun x H3 y => ?_⟩
   obtain ⟨e3, sr3, ix⟩ := hy x H3 y
   refine ⟨m2, ρ2, S2, _, ρ3, S3, sr3, lr2.mono e3, ix, h3, fun m4 σ4 H4 e4 sr4 lr4 => ⟨m4, ρ3, S3, o4, ρ4, S4, sr4, lr4, h4, ?_⟩⟩
   have e14 := (e2.trans e3).trans e4
   have nxt : fP ok g cb (us.drop (i + 1)) ρ4 S4 = some (o, ρ', S') → jT K m4 H4 (W (i + 1) (us.length - (i + 1))) ρ4 S4 := fun hn m5 σ5 H5 e5 sr5 lr5 => ⟨rfl, hlt, m5, ρ4, S4, e14.trans e5, sr5, lr5, hn⟩
   cases o4 with
   | nx => exact nxt hl
   | ct => exact nxt hl
   | bk => cases hl; exact jT.mono e14 post
   | rt v => cases hl; exact kh.mono e14 post
  ·cases hl
 ·have e : i = us.length := by omega
  subst e
  rw [List.drop_length] at hl
  unfold fP at hl
  split at hl
  ·rename_i hok
   cases hl
   exact .inl ⟨(ito m2 _ H2 _ e2 sr2 hok).2 (Nat.le_refl _), post m2 σ2 H2 e2 sr2 lr2⟩
  ·cases hl
theorem Bx {K : PySem.W.Frag} {ci : CI} {g : CG} {cb : CS} : ∀ D σ H, tS K (mW ci g cb) D σ H → Gb (tI K ci) (tG K g) (tS K cb) D σ H := by
 rintro D σ H ⟨m, ρ, S, o, ρ', S', sr, lr, hc, post⟩
 obtain ⟨⟨us, ok, S1⟩, h1, h2⟩ := Option.bind_eq_some_iff.mp hc
 exact ⟨m, ρ, S, us, ok, S1, sr, lr, h1, fun m1 H1 J e1 sr1 ito => yo sr1 (lr.mono e1) ito h2 (tQ.mono e1 post)⟩
theorem lL {tg iter : Expr} {body : List Stmt} {ci : CI} {g : CG} {cb : CS} (hp : PassesOwn (model X.prog X.w) X.A X.env X.xe) (hc : X.calm = true) (hi : QI X tg iter ci) (hg : QG X tg g) (hb : QSs X body cb) (hs : ∀ x, foldedSetIterable iter X.env x = pure x := by intro _; rfl) : QS X (.For tg iter body [] pos) (mW ci g cb) := (Ae hp hc hi hg hb hs).imp Bx
noncomputable def iTp (ca : CE) : CI := fun ρ S => (ca ρ S).bind fun p => match p.1 with
 | .tup us => some (us, fun _ => True, p.2)
 | .ref l => match p.2[l]? with
  | some (.lst us) => some (us, fun S => S[l]? = some (.lst us), p.2)
  | _ => none
 | _ => none
theorem Ea {K : PySem.W.Frag} {m : List Addr} {H : Hp} {us : List U} {a : Addr} {xs : List V} (sq : SqT K H a xs) (il : IsL K m H xs us) : yW K (Itt K a) m H us (fun _ => True) := by
 intro m2 S2 H2 i e2 sr2 _
 have sq2 := e2.keep.t _ _ sq
 have il2 := il.mono e2
 refine ⟨fun u hu => ?_, fun hi => ⟨xs, sq2, by rw [il2.length]; exact hi⟩⟩
 obtain ⟨x, hx, ix⟩ := il2.getD hu
 refine ⟨⟨xs, x, sq2, hx⟩, fun y H3 hy => ?_⟩
 obtain ⟨rfl, hy⟩ := hy
 have := hy xs sq2
 rw [hx] at this; cases this
 exact ⟨.refl, sr2, ix⟩
theorem Eb {K : PySem.W.Frag} {m : List Addr} {H : Hp} {us : List U} {a : Addr} {l : Nat} (hl : m[l]? = some a) : yW K (Itl K a) m H us (fun S => S[l]? = some (.lst us)) := by
 intro m2 S2 H2 i e2 sr2 hok
 obtain ⟨a', ha', xs, hx, il⟩ := sr2.get hok
 rw [e2.get hl] at ha'
 cases ha'
 refine ⟨fun u hu => ?_, fun hi => ⟨xs, SqL.of hx, by rw [il.length]; exact hi⟩⟩
 obtain ⟨x, hx', ix⟩ := il.getD hu
 refine ⟨⟨xs, x, SqL.of hx, hx'⟩, fun y H3 hy => ?_⟩
 obtain ⟨rfl, hy⟩ := hy
 have := hy xs (SqL.of hx)
 rw [hx'] at this; cases this
 exact ⟨.refl, sr2, ix⟩
theorem nC {tg : Expr} (h : QE X e ca) : QI X tg e (iTp ca) := ((Ag h).or (xk h)).imp fun σ H R hz => sd hz fun m ρ S us ok S' sr lr hc post => by
 obtain ⟨⟨u, S1⟩, h1, h2⟩ := Option.bind_eq_some_iff.mp hc
 cases u with
 | tup ws =>
  cases h2
  refine .inl ⟨m, ρ, S, .tup us, _, sr, lr, h1, fun m1 v1 H1 e1 sr1 i1 => ?_⟩
  obtain ⟨a, xs, rfl, sq, il⟩ := i1.of_tup
  exact ⟨a, rfl, ⟨xs, sq⟩, post m1 H1 _ e1 sr1 (Ea sq il)⟩
 | ref l =>
  simp only at h2
  split at h2
  ·rename_i us' hS
   cases h2
   refine .inr ⟨m, ρ, S, .ref l, _, sr, lr, h1, fun m1 v1 H1 e1 sr1 i1 => ?_⟩
   obtain ⟨a, hl, rfl⟩ := i1.of_ref
   obtain ⟨a', ha', xs, hx, il⟩ := sr1.get hS
   rw [hl] at ha'; cases ha'
   exact ⟨a, rfl, ⟨xs, SqL.of hx⟩, post m1 H1 _ e1 sr1 (Eb hl)⟩
  ·cases h2
 | _ => simp at h2
noncomputable def bV (lo : Int) (n : Nat) : List U := (List.range n).map fun i => .int (lo + (i : Nat))
theorem yt {K : PySem.W.Frag} {m : List Addr} {H : Hp} {lo : Int} {n : Nat} : yW K (Itr lo n) m H (bV lo n) (fun _ => True) := by
 intro m2 S2 H2 i e2 sr2 _
 refine ⟨fun u hu => ?_, fun hi => by show n ≤ i; simpa [bV] using hi⟩
 unfold bV at hu
 rw [List.getElem?_map] at hu
 by_cases c : i < n
 ·rw [List.getElem?_range c] at hu
  simp at hu
  subst hu
  refine ⟨c, fun y H3 hy => ?_⟩
  obtain ⟨rfl, rfl⟩ := hy
  exact ⟨.refl, sr2, .int_⟩
 ·rw [List.getElem?_eq_none (by simpa using c)] at hu
  cases hu
noncomputable def bY (cr : CA) : CI := fun ρ S => (cr ρ S).bind fun p => match p.1 with
 | [.int j] => if -(2 ^ 62) ≤ j ∧ j < 2 ^ 62 then some (bV 0 j.toNat, fun _ => True, p.2) else none
 | _ => none
theorem fG {tg : Expr} {cr : CA} {p : Pos} (hg : Gl X "range") (hm : X.mg "range" = none) (ha : QA X [a] cr) (hs : starEach [a] X.env = [(false, eval a X.env)] := by rfl) : QI X tg (.Call (.Name "range" p) [a] [] pos) (bY cr) := (sJ hg hm ha.h hs).imp fun σ H R hz => sd hz fun m ρ S us ok S' sr lr hc post => by
 obtain ⟨⟨ws, S1⟩, h1, h2⟩ := Option.bind_eq_some_iff.mp hc
 simp only at h2
 split at h2
 ·rename_i j
  split at h2
  ·rename_i hj
   cases h2
   refine ⟨m, ρ, S, _, S', sr, lr, h1, fun m1 v1 H1 e1 sr1 i1 => ?_⟩
   obtain ⟨x, r, rfl, ix, ir⟩ := i1.of_cons
   rw [ir.of_nil, ix.of_int]
   exact ⟨j, rfl, hj.1, hj.2, post m1 H1 _ e1 sr1 yt⟩
  ·cases h2
 ·cases h2
end
noncomputable def fI (g : Int → Int → Option U) : U → U → Sto → Option (U × Sto)
 | .int i, .int j, S => (g i j).bind fun u => some (u, S)
 | _, _, _ => none
section
variable {X : Cx} {K : PySem.W.Frag}
theorem EK {C : Int → Int → Prop} {gV : Int → Int → V} {g : Int → Int → Option U} (h : ∀ i j u, g i j = some u → C i j ∧ ∀ m H, Is K m H (gV i j) u) : OpP K (rI C gV) (fI g) := by
 intro m S H x y v w u S' Q sr ix iy hf post
 cases x <;> cases y <;> simp only [fI] at hf <;> try cases hf
 rename_i i j
 obtain ⟨u1, h1, h2⟩ := Option.bind_eq_some_iff.mp hf
 cases h2
 obtain ⟨hc, hi⟩ := h i j u h1
 exact ⟨i, j, ix.of_int, iy.of_int, hc, post m _ H .refl sr (hi m H)⟩
theorem vf {gV : Int → Int → V} {g : Int → Int → Option U} (h : ∀ i j u, g i j = some u → ∀ m H, Is K m H (gV i j) u) : OpP K (rI0 gV) (fI g) := by
 intro m S H x y v w u S' Q sr ix iy hf post
 cases x <;> cases y <;> simp only [fI] at hf <;> try cases hf
 rename_i i j
 obtain ⟨u1, h1, h2⟩ := Option.bind_eq_some_iff.mp hf
 cases h2
 exact ⟨i, j, ix.of_int, iy.of_int, post m _ H .refl sr (h i j u h1 m H)⟩
noncomputable def xF (K : PySem.W.Frag) : R2 := fun x y H Q => ∃ a b xs ys, x = .ref a ∧ y = .ref b ∧ SqT K H a xs ∧ SqT K H b ys ∧ xs.length + ys.length ≤ sizeLine ∧ ∀ q H', qc H H' → SqT K H' q (xs ++ ys) → Q (.ref q) H'
theorem Bc : OpR X (binaryOp .Add) (xF X.K) := by
 intro pins s σ H x y v u Q I rx ry h
 obtain ⟨a, b, xs, ys, rfl, rfl, ha, hb, hz, q⟩ := h
 by_cases e : xs = []
 ·cases rx
  cases ry
  obtain ⟨its, r1, p1, _⟩ := I.tuple ha
  obtain ⟨its2, r2, p2, _⟩ := I.tuple hb
  refine yO p1 p2 (r1.nil_iff.mpr e) ⟨.ref b, H, I, rfl, q b H (.refl _) (by rw [e]; exact hb)⟩
 ·refine Bb pins s σ H _ _ v u Q I rx ry ⟨a, b, xs, ys, rfl, rfl, ha, hb, e, hz, fun z => q a H (.refl _) (by rw [z, List.append_nil]; exact ha), fun _ p hp => q p _ (dQ hp _) (SqT.of aK)⟩
noncomputable def vZ : U → U → Sto → Option (U × Sto)
 | .tup a, .tup b, S => if a.length + b.length ≤ LIM then some (.tup (a ++ b), S) else none
 | _, _, _ => none
theorem xZ : OpP K (xF K) vZ := by
 intro m S H x y v w u S' Q sr ix iy hf post
 cases x <;> cases y <;> simp only [vZ] at hf <;> try cases hf
 split at hf <;> try cases hf
 rename_i hl
 obtain ⟨a, xs, rfl, sa, la⟩ := ix.of_tup
 obtain ⟨b, ys, rfl, sb, lb⟩ := iy.of_tup
 refine ⟨a, b, xs, ys, rfl, rfl, sa, sb, lim (by rw [la.length, lb.length]; exact hl), fun q H' s sq => ?_⟩
 exact post m _ H' (.of (gJ s)) (sr.same s) (.tup_ sq ((la.append lb).mono (.of (gJ s))))
noncomputable def jv : U → U → Sto → Option (U × Sto)
 | .ref l, .ref k, S => match S[l]?, S[k]? with
  | some (.lst a), some (.lst b) => if a.length + b.length ≤ LIM then some (.ref S.length, S ++ [.lst (a ++ b)]) else none
  | _, _ => none
 | _, _, _ => none
theorem yb : OpP K EJ jv := by
 intro m S H x y v w u S' Q sr ix iy hf post
 cases x <;> cases y <;> simp only [jv] at hf <;> try cases hf
 rename_i l k
 split at hf <;> try cases hf
 rename_i a b h1 h2
 split at hf <;> try cases hf
 rename_i hl
 obtain ⟨p, hp, rfl⟩ := ix.of_ref
 obtain ⟨q, hq, rfl⟩ := iy.of_ref
 obtain ⟨p', hp', xs, hx, il⟩ := sr.get h1
 obtain ⟨q', hq', ys, hy, il'⟩ := sr.get h2
 rw [hp] at hp'; cases hp'
 rw [hq] at hq'; cases hq'
 exact ⟨p, q, xs, ys, rfl, rfl, hx, hy, lim (by rw [il.length, il'.length]; exact hl), fun r hr => iT sr (il.append il') post hr⟩
noncomputable def v7 : U → U → Sto → Option (U × Sto)
 | .str a, .str b, S => if a.length + b.length ≤ LIM then some (.str (a ++ b), S) else none
 | _, _, _ => none
theorem ya : OpP K (fun x y H Q => ∃ i j, x = .str i ∧ y = .str j ∧ i.length + j.length ≤ sizeLine ∧ Q (.str (i ++ j)) H) v7 := by
 intro m S H x y v w u S' Q sr ix iy hf post
 cases x <;> cases y <;> simp only [v7] at hf <;> try cases hf
 split at hf <;> try cases hf
 rename_i hl
 exact ⟨_, _, ix.of_str, iy.of_str, lim hl, post m _ H .refl sr .str_⟩
noncomputable def bD : U → U → Sto → Option (U × Sto)
 | .int i, .int j, S => some (.int (i + j), S)
 | .tup a, .tup b, S => if a.length + b.length ≤ LIM then some (.tup (a ++ b), S) else none
 | .str a, .str b, S => if a.length + b.length ≤ LIM then some (.str (a ++ b), S) else none
 | .ref l, .ref k, S => jv (.ref l) (.ref k) S
 | _, _, _ => none
theorem bA : OpR X (binaryOp .Add) (fun x y H Q => rI0 (fun i j => .int (i + j)) x y H Q ∨ (EJ x y H Q ∨ (xF X.K x y H Q ∨ ∃ i j, x = .str i ∧ y = .str j ∧ i.length + j.length ≤ sizeLine ∧ Q (.str (i ++ j)) H))) := DP.or (DO.or (Bc.or sT))
theorem bw : OpP K (fun x y H Q => rI0 (fun i j => .int (i + j)) x y H Q ∨ (EJ x y H Q ∨ (xF K x y H Q ∨ ∃ i j, x = .str i ∧ y = .str j ∧ i.length + j.length ≤ sizeLine ∧ Q (.str (i ++ j)) H))) bD := by
 intro m S H x y v w u S' Q sr ix iy hf post
 cases x <;> cases y <;> simp only [bD] at hf <;> try cases hf
 ·exact .inl ⟨_, _, ix.of_int, iy.of_int, post m _ H .refl sr .int_⟩
 ·exact .inr (.inr (.inr (ya m S H _ _ v w u S' Q sr ix iy hf post)))
 ·exact .inr (.inr (.inl (xZ m S H _ _ v w u S' Q sr ix iy hf post)))
 ·exact .inr (.inl (yb m S H _ _ v w u S' Q sr ix iy hf post))
noncomputable def tY := fI fun i j => some (.int (i - j))
theorem pw : OpP K (rI0 fun i j => .int (i - j)) tY := vf fun i j u h m H => by cases h; exact .int_
instance {i j : Int} : Decidable (zQ i j) := by unfold zQ; exact inferInstance
noncomputable def mv := fI fun i j => if zQ i j then some (.int (i * j)) else none
theorem px : OpP K (rI zQ fun i j => .int (i * j)) mv := EK fun i j u h => by
 split at h
 ·rename_i c; cases h; exact ⟨c, fun m H => .int_⟩
 ·cases h
instance {i j : Int} : Decidable (tW i j) := by unfold tW; exact inferInstance
noncomputable def yB := fI fun i j => if tW i j then some (.int (i / j)) else none
theorem A9 : OpP K (rI tW fun i j => .int (i / j)) yB := EK fun i j u h => by
 split at h
 ·rename_i c; cases h; exact ⟨c, fun m H => .int_⟩
 ·cases h
noncomputable def mw := fI fun i j => if 0 < j then some (.int (i % j)) else none
theorem pz : OpP K (rI (fun _ j => 0 < j) fun i j => .int (i % j)) mw := EK fun i j u h => by
 split at h
 ·rename_i c; cases h; exact ⟨c, fun m H => .int_⟩
 ·cases h
instance {i j : Int} : Decidable (BW i j) := by unfold BW; exact inferInstance
noncomputable def yA := fI fun i j => if BW i j then some (.int (i ^ j.toNat)) else none
theorem A7 : OpP K (rI BW fun i j => .int (i ^ j.toNat)) yA := EK fun i j u h => by
 split at h
 ·rename_i c; cases h; exact ⟨c, fun m H => .int_⟩
 ·cases h
noncomputable def fLt := fI fun i j => some (.bl (decide (i < j)))
noncomputable def fLe := fI fun i j => some (.bl (decide (i ≤ j)))
noncomputable def fGt := fI fun i j => some (.bl (decide (j < i)))
noncomputable def fGe := fI fun i j => some (.bl (decide (j ≤ i)))
theorem DL : OpP K (rI0 fun i j => .bl (decide (i < j))) fLt := vf fun i j u h m H => by cases h; exact .bl_
theorem EM : OpP K (rI0 fun i j => .bl (decide (i ≤ j))) fLe := vf fun i j u h m H => by cases h; exact .bl_
theorem Gy : OpP K (rI0 fun i j => .bl (decide (j < i))) fGt := vf fun i j u h m H => by cases h; exact .bl_
theorem IE : OpP K (rI0 fun i j => .bl (decide (j ≤ i))) fGe := vf fun i j u h m H => by cases h; exact .bl_
noncomputable def eqS : U → U → Option Bool
 | .int i, .int j => some (decide (i = j))
 | .bl i, .bl j => some (decide (i = j))
 | .str i, .str j => some (decide (i = j))
 | .non, .non => some true
 | .non, .int _ => some false | .int _, .non => some false
 | .non, .bl _ => some false | .bl _, .non => some false
 | .non, .str _ => some false | .str _, .non => some false
 | .int _, .str _ => some false | .str _, .int _ => some false
 | .bl _, .str _ => some false | .str _, .bl _ => some false
 | _, _ => none
noncomputable def fEq : U → U → Sto → Option (U × Sto) := fun x y S => (eqS x y).bind fun b => some (.bl b, S)
noncomputable def fNe : U → U → Sto → Option (U × Sto) := fun x y S => (eqS x y).bind fun b => some (.bl (!b), S)
theorem zI {m : List Addr} {H : Hp} {x y : U} {v w : V} {b : Bool} (ix : Is K m H v x) (iy : Is K m H w y) (h : eqS x y = some b) : Gf v w = true ∧ decide (v = w) = b := by
 cases x <;> cases y <;> simp only [eqS] at h <;> (first | cases h | skip)
 all_goals
  (first | (have e1 := ix.of_int) | (have e1 := ix.of_bl) | (have e1 := ix.of_str) | (have e1 := ix.of_non))
  (first | (have e2 := iy.of_int) | (have e2 := iy.of_bl) | (have e2 := iy.of_str) | (have e2 := iy.of_non))
  subst e1 e2
  exact ⟨rfl, by simp⟩
theorem kA : OpP K rEq fEq := by
 intro m S H x y v w u S' Q sr ix iy hf post
 obtain ⟨b, h1, h2⟩ := Option.bind_eq_some_iff.mp hf
 cases h2
 obtain ⟨e1, e2⟩ := zI ix iy h1
 exact ⟨e1, by rw [e2]; exact post m _ H .refl sr .bl_⟩
theorem EL : OpP K rNe fNe := by
 intro m S H x y v w u S' Q sr ix iy hf post
 obtain ⟨b, h1, h2⟩ := Option.bind_eq_some_iff.mp hf
 cases h2
 obtain ⟨e1, e2⟩ := zI ix iy h1
 exact ⟨e1, by rw [e2]; exact post m _ H .refl sr .bl_⟩
noncomputable def iJ : U → U → Sto → Option (U × Sto)
 | .bl a, .bl b, S => some (.bl (a != b), S)
 | _, _, _ => none
theorem rE : OpP K (fun x y H Q => ∃ k l, x = .bl k ∧ y = .bl l ∧ Q (.bl (k != l)) H) iJ := by
 intro m S H x y v w u S' Q sr ix iy hf post
 cases x <;> cases y <;> simp only [iJ] at hf <;> cases hf
 exact ⟨_, _, ix.of_bl, iy.of_bl, post m _ H .refl sr .bl_⟩
section
variable {κ : Type} [DecidableEq κ]
noncomputable def aX {α : Type} (kvs : List (κ × α)) (k : κ) : Option α := (kvs.find? fun kv => decide (kv.1 = k)).map (·.2)
noncomputable def iE {α : Type} (kvs : List (κ × α)) (k : κ) (v : α) : List (κ × α) :=
 if (kvs.any fun kv => decide (kv.1 = k)) = true then kvs.map (fun kv => if kv.1 = k then (kv.1, v) else kv) else kvs ++ [(k, v)]
variable {m : List Addr} {H : Hp} {kvs : List (κ × V)} {kus : List (κ × U)} {k : κ} {v : V} {u : U}
theorem IsP.val (h : IsP K m H kvs kus) : Rf K m H (mT kvs k) (aX kus k) := by
 refine IsP.ind (P := fun kvs kus => Rf K m H (mT kvs k) (aX kus k)) trivial (fun k' v u kvs kus i _ ih => ?_) h
 by_cases e : k' = k
 ·subst e
  simp [mT, aX, List.find?_cons, Rf, i]
 ·simp only [mT, aX, List.find?_cons, decide_eq_false e] at ih ⊢
  exact ih
theorem IsP.any_ (h : IsP K m H kvs kus) : (kvs.any fun kv => decide (kv.1 = k)) = (kus.any fun kv => decide (kv.1 = k)) :=
 IsP.ind (P := fun kvs kus => (kvs.any fun kv => decide (kv.1 = k)) = (kus.any fun kv => decide (kv.1 = k))) rfl (fun k' v u kvs kus i _ ih => by simp only [List.any_cons, ih]) h
theorem IsP.append {kvs' : List (κ × V)} {kus' : List (κ × U)} (h : IsP K m H kvs kus) (h' : IsP K m H kvs' kus') : IsP K m H (kvs ++ kvs') (kus ++ kus') := ⟨by simp [h.1, h'.1], by simpa using h.2.append h'.2⟩
theorem IsP.put (h : IsP K m H kvs kus) (i : Is K m H v u) : IsP K m H (pj kvs k v) (iE kus k u) := by
 unfold pj iE
 rw [h.any_]
 split
 ·refine IsP.ind (P := fun kvs kus => IsP K m H (kvs.map fun kv => if kv.1 = k then (kv.1, v) else kv) (kus.map fun kv => if kv.1 = k then (kv.1, u) else kv)) .nil_ (fun k' v' u' kvs kus i' _ ih => ?_) h
  simp only [List.map_cons]
  by_cases e : k' = k
  ·simp only [e, if_true]; exact .cons_ i ih
  ·simp only [e, if_false]; exact .cons_ i' ih
 ·exact h.append (.cons_ i .nil_)
end
noncomputable def kG : U → Option Key
 | .int i => some (.inl i)
 | .str x => some (.inr x)
 | _ => none
theorem iI {m : List Addr} {H : Hp} {x : U} {v : V} {k : Key} (ix : Is K m H v x) (h : kG x = some k) : v = kV k := by
 cases x <;> simp only [kG] at h <;> cases h
 ·exact ix.of_int
 ·exact ix.of_str
noncomputable def i7 : U → Bool
 | .non => true | .bl _ => true | .int _ => true | .str _ => true | _ => false
noncomputable def eqF : U → U → Bool
 | .non, .non => true
 | .bl a, .bl b => a == b
 | .bl a, .int b => (if a then 1 else 0) == b
 | .int a, .bl b => a == (if b then 1 else 0)
 | .int a, .int b => a == b
 | .str a, .str b => a == b
 | _, _ => false
noncomputable def inU (x : U) (us : List U) : Bool := us.any fun y => eqF y x
theorem qH {m : List Addr} {H : Hp} {x : U} {v : V} (ix : Is K m H v x) (h : i7 x = true) : ng v = true := by
 cases x with
 | non => rw [ix.of_non]; rfl
 | bl b => rw [ix.of_bl]; rfl
 | int i => rw [ix.of_int]; rfl
 | str i => rw [ix.of_str]; rfl
 | tup us => cases h
 | ref l => cases h
 | kl l => cases h
theorem Er {m : List Addr} {H : Hp} {x y : U} {v w : V} (ix : Is K m H v x) (iy : Is K m H w y) (hx : i7 x = true) (hy : i7 y = true) : eqV v w = eqF x y := by
 cases x <;> (first | cases hx | skip) <;> cases y <;> (first | cases hy | skip)
 all_goals
  (first | (have e1 := ix.of_int) | (have e1 := ix.of_bl) | (have e1 := ix.of_str) | (have e1 := ix.of_non))
  (first | (have e2 := iy.of_int) | (have e2 := iy.of_bl) | (have e2 := iy.of_str) | (have e2 := iy.of_non))
  subst e1 e2
  rfl
theorem ox {m : List Addr} {H : Hp} : ∀ {xs : List V} {us : List U}, IsL K m H xs us → us.all i7 = true → xs.all ng = true
 | xs, [], h, _ => by rw [h.of_nil]; rfl
 | xs, u :: us, h, k => by
  obtain ⟨x, r, rfl, i, t⟩ := h.of_cons
  rw [List.all_cons, Bool.and_eq_true] at k ⊢
  exact ⟨qH i k.1, ox t k.2⟩
theorem vS {m : List Addr} {H : Hp} {x : U} {v : V} (ix : Is K m H v x) (hx : i7 x = true) : ∀ {xs : List V} {us : List U}, IsL K m H xs us → us.all i7 = true → inV v xs = inU x us
 | xs, [], h, _ => by rw [h.of_nil]; rfl
 | xs, u :: us, h, k => by
  obtain ⟨y, r, rfl, i, t⟩ := h.of_cons
  rw [List.all_cons, Bool.and_eq_true] at k
  have ih := vS ix hx t k.2
  unfold inV inU at ih ⊢
  rw [List.any_cons, List.any_cons, ih, Er i ix k.1 hx]
theorem _root_.L2.DGet.kz {H : Hp} {a : Addr} {ob : Obj} {kvs : List (Key × V)} {k : Key} (e : H a = some (.frz ob (.dK kvs))) : DGet H a (kV k) (mT kvs k) := .inl ⟨kvs, k, .inr ⟨ob, e⟩, rfl, rfl⟩
noncomputable def fIn (neg : Bool) : U → U → Sto → Option (U × Sto) := fun x y S => match y with
 | .tup us => if i7 x = true ∧ us.all i7 = true then some (.bl (if neg then !inU x us else inU x us), S) else none
 | .ref l => match S[l]? with
  | some (.lst us) => if i7 x = true ∧ us.all i7 = true then some (.bl (if neg then !inU x us else inU x us), S) else none
  | some (.dic kus) => (kG x).bind fun k => some (.bl (if neg then !(aX kus k).isSome else (aX kus k).isSome), S)
  | some (.fdc ep kus) => (kG x).bind fun k => some (.bl (if neg then !(aX kus k).isSome else (aX kus k).isSome), S)
  | _ => none
 | _ => none
theorem Rf.isSome {m : List Addr} {H : Hp} {v : Option V} {u : Option U} (h : Rf K m H v u) : v.isSome = u.isSome := by
 cases v <;> cases u <;> first | rfl | exact h.elim
theorem rV {ca cb : CE} {neg : Bool} (t2 : TE → TE → TE) (h2 : ∀ ta tb σ H Q, (ta σ H fun y H1 => tb σ H1 fun x H2 => ∃ a o, x = .ref a ∧ DGet H2 a y o ∧ Q (.bl (if neg then !o.isSome else o.isSome)) H2) → t2 ta tb σ H Q) : ∀ σ H Q, tE K (cOp (fIn neg) ca cb) σ H Q → tOp (rIn K neg) (tE K ca) (tE K cb) σ H Q ∨ t2 (tE K ca) (tE K cb) σ H Q := by
 rintro σ H Q ⟨m, ρ, S, u, S', sr, lr, hc, post⟩
 obtain ⟨⟨x, S1⟩, h1, h⟩ := Option.bind_eq_some_iff.mp hc
 obtain ⟨⟨y, S2⟩, h3, h4⟩ := Option.bind_eq_some_iff.mp h
 cases y with
 | tup us =>
  simp only [fIn] at h4
  split at h4 <;> try cases h4
  rename_i hf
  refine .inl ⟨m, ρ, S, x, S1, sr, lr, h1, fun m1 v1 H1 e1 sr1 i1 => ⟨m1, ρ, S1, .tup us, S', sr1, lr.mono e1, h3, fun m2 v2 H2 e2 sr2 i2 => ?_⟩⟩
  obtain ⟨a, xs, rfl, sa, la⟩ := i2.of_tup
  refine ⟨a, xs, rfl, .inr sa, qH (i1.mono e2) hf.1, ox la hf.2, ?_⟩
  rw [vS (i1.mono e2) hf.1 la hf.2]
  exact post m2 _ H2 (e1.trans e2) sr2 .bl_
 | ref l =>
  simp only [fIn] at h4
  split at h4 <;> try cases h4
  ·rename_i us hS
   split at h4 <;> try cases h4
   rename_i hf
   refine .inl ⟨m, ρ, S, x, S1, sr, lr, h1, fun m1 v1 H1 e1 sr1 i1 => ⟨m1, ρ, S1, .ref l, S', sr1, lr.mono e1, h3, fun m2 v2 H2 e2 sr2 i2 => ?_⟩⟩
   obtain ⟨a, ha, rfl⟩ := i2.of_ref
   obtain ⟨a', ha', xs, hx, la⟩ := sr2.get hS
   rw [ha] at ha'; cases ha'
   refine ⟨a, xs, rfl, .inl (SqL.of hx), qH (i1.mono e2) hf.1, ox la hf.2, ?_⟩
   rw [vS (i1.mono e2) hf.1 la hf.2]
   exact post m2 _ H2 (e1.trans e2) sr2 .bl_
  ·rename_i kus hS
   obtain ⟨k, hk, h5⟩ := Option.bind_eq_some_iff.mp h4
   cases h5
   refine .inr (h2 _ _ _ _ _ ⟨m, ρ, S, x, S1, sr, lr, h1, fun m1 v1 H1 e1 sr1 i1 => ⟨m1, ρ, S1, .ref l, S', sr1, lr.mono e1, h3, fun m2 v2 H2 e2 sr2 i2 => ?_⟩⟩)
   obtain ⟨a, ha, rfl⟩ := i2.of_ref
   obtain ⟨a', ha', kvs, hx, ip⟩ := sr2.get hS
   rw [ha] at ha'; cases ha'
   have ek := iI (i1.mono e2) hk
   subst ek
   refine ⟨a, _, rfl, DGet.k hx, ?_⟩
   rw [(IsP.val ip).isSome]
   exact post m2 _ H2 (e1.trans e2) sr2 .bl_
  ·rename_i ep kus hS
   obtain ⟨k, hk, h5⟩ := Option.bind_eq_some_iff.mp h4
   cases h5
   refine .inr (h2 _ _ _ _ _ ⟨m, ρ, S, x, S1, sr, lr, h1, fun m1 v1 H1 e1 sr1 i1 => ⟨m1, ρ, S1, .ref l, S', sr1, lr.mono e1, h3, fun m2 v2 H2 e2 sr2 i2 => ?_⟩⟩)
   obtain ⟨a, ha, rfl⟩ := i2.of_ref
   obtain ⟨a', ha', ob, es, kvs, hx, hd, ip⟩ := sr2.get hS
   rw [ha] at ha'; cases ha'
   have ek := iI (i1.mono e2) hk
   subst ek
   refine ⟨a, _, rfl, DGet.kz hx, ?_⟩
   rw [(IsP.val ip).isSome]
   exact post m2 _ H2 (e1.trans e2) sr2 .bl_
 | _ => simp [fIn] at h4
variable {e a b c : Expr} {ca cb cc : CE} {pos : Pos}
theorem IC (hu : X.A.units + 1 < cLine) (ha : QE X a ca) (hb : QE X b cb) (hm : behindInMarks .In b = false) : QE X (.Compare a [.In] [b] pos) (cOp (fIn false) ca cb) :=
 ((nQ pA ha hb hm).or (ux (uB hu ha hb) hm)).imp (rV (neg := false) EI fun _ _ _ _ _ h => h)
theorem xG (hu : X.A.units + 1 < cLine) (ha : QE X a ca) (hb : QE X b cb) (hm : behindInMarks .In b = false) : QT X (.Compare a [.In] [b] pos) (aG (cOp (fIn false) ca cb)) :=
 ((nO pA ha hb hm).or (ug (uB hu ha hb) hm)).imp (kX (rV (neg := false) EI fun _ _ _ _ _ h => h))
theorem AF (hu : X.A.units + 1 < cLine) (ha : QE X a ca) (hb : QE X b cb) (hm : behindInMarks .NotIn b = false) : QE X (.Compare a [.NotIn] [b] pos) (cOp (fIn true) ca cb) :=
 ((nQ kC ha hb hm).or (ux (nv hu ha hb) hm)).imp (rV (neg := true) nU fun _ _ _ _ _ h => h)
theorem nW (hu : X.A.units + 1 < cLine) (ha : QE X a ca) (hb : QE X b cb) (hm : behindInMarks .NotIn b = false) : QT X (.Compare a [.NotIn] [b] pos) (aG (cOp (fIn true) ca cb)) :=
 ((nO kC ha hb hm).or (ug (nv hu ha hb) hm)).imp (kX (rV (neg := true) nU fun _ _ _ _ _ h => h))
noncomputable def fIx : U → U → Sto → Option (U × Sto) := fun x y S => match x with
 | .tup us => match y with
  | .int i => (atI us i).bind fun u => some (u, S)
  | _ => none
 | .ref l => match S[l]? with
  | some (.lst us) => (match y with
   | .int i => (atI us i).bind fun u => some (u, S)
   | _ => none)
  | some (.dic kus) => (kG y).bind fun k => (aX kus k).bind fun u => some (u, S)
  | some (.fdc ep kus) => (kG y).bind fun k => (aX kus k).bind fun u => some (u, S)
  | _ => none
 | .kl ns => match y with
  | .int i => (atI (ns.map U.int) i).bind fun u => some (u, S)
  | _ => none
 | _ => none
theorem rR {K : PySem.W.Frag} {m : List Addr} {H : Hp} : ∀ ns : List Int, IsL K m H (ns.map V.int) (ns.map U.int)
 | [] => .nil_
 | n :: ns => .cons_ .int_ (rR ns)
theorem wQ {m : List Addr} {H : Hp} {xs : List V} {us : List U} {i : Int} {u : U} (l : IsL K m H xs us) (h : atI us i = some u) : ∃ v, atI xs i = some v ∧ Is K m H v u := by
 unfold atI at h ⊢
 rw [l.length]
 obtain ⟨j, e1, e2⟩ := Option.bind_eq_some_iff.mp h
 rw [e1]
 obtain ⟨v, e3, e4⟩ := l.getD e2
 exact ⟨v, e3, e4⟩
theorem bN (hu : X.A.units + 1 < cLine) (ha : QE X a ca) (hb : QE X b cb) (hs : qU b) (hs2 : EW b) : QE X (.Subscript a b pos) (cOp fIx ca cb) :=
 ((CL (Bo.or D7) ha hb hs).or (xn hu ha hb hs2)).imp fun σ H Q hz => kI hz fun m ρ S u S' sr lr hc post => by
 obtain ⟨⟨x, S1⟩, h1, h⟩ := Option.bind_eq_some_iff.mp hc
 obtain ⟨⟨y, S2⟩, h3, h4⟩ := Option.bind_eq_some_iff.mp h
 cases x with
 | tup us =>
  simp only [fIx] at h4
  split at h4 <;> try cases h4
  rename_i i
  obtain ⟨w, hw, h5⟩ := Option.bind_eq_some_iff.mp h4
  cases h5
  refine .inl ⟨m, ρ, S, _, S1, sr, lr, h1, fun m1 v1 H1 e1 sr1 i1 => ⟨m1, ρ, S1, _, S', sr1, lr.mono e1, h3, fun m2 v2 H2 e2 sr2 i2 => .inr ?_⟩⟩
  obtain ⟨a, xs, rfl, sa, la⟩ := (i1.mono e2).of_tup
  obtain ⟨z, ez, iz⟩ := wQ la hw
  exact ⟨a, xs, i, z, rfl, i2.of_int, sa, ez, post m2 _ H2 (e1.trans e2) sr2 iz⟩
 | ref l =>
  simp only [fIx] at h4
  split at h4 <;> try cases h4
  ·rename_i us hS
   split at h4 <;> try cases h4
   rename_i i
   obtain ⟨w, hw, h5⟩ := Option.bind_eq_some_iff.mp h4
   cases h5
   refine .inl ⟨m, ρ, S, _, S1, sr, lr, h1, fun m1 v1 H1 e1 sr1 i1 => ⟨m1, ρ, S1, _, S', sr1, lr.mono e1, h3, fun m2 v2 H2 e2 sr2 i2 => .inl ?_⟩⟩
   obtain ⟨a, ha, rfl⟩ := (i1.mono e2).of_ref
   obtain ⟨a', ha', xs, hx, la⟩ := sr2.get hS
   rw [ha] at ha'; cases ha'
   obtain ⟨z, ez, iz⟩ := wQ la hw
   exact ⟨a, xs, i, z, rfl, i2.of_int, SqL.of hx, ez, post m2 _ H2 (e1.trans e2) sr2 iz⟩
  ·rename_i kus hS
   obtain ⟨k, hk, h5⟩ := Option.bind_eq_some_iff.mp h4
   obtain ⟨w, hw, h6⟩ := Option.bind_eq_some_iff.mp h5
   cases h6
   refine .inr ⟨m, ρ, S, _, S1, sr, lr, h1, fun m1 v1 H1 e1 sr1 i1 => ⟨m1, ρ, S1, _, S', sr1, lr.mono e1, h3, fun m2 v2 H2 e2 sr2 i2 => ?_⟩⟩
   obtain ⟨a, ha, rfl⟩ := (i1.mono e2).of_ref
   obtain ⟨a', ha', kvs, hx, ip⟩ := sr2.get hS
   rw [ha] at ha'; cases ha'
   have ek := iI i2 hk
   subst ek
   have rf := IsP.val (k := k) ip
   rw [hw] at rf
   cases hv : mT kvs k with
   | none => rw [hv] at rf; exact rf.elim
   | some z =>
    rw [hv] at rf
    exact ⟨a, z, rfl, by have := DGet.k (k := k) hx; rw [hv] at this; exact this, post m2 _ H2 (e1.trans e2) sr2 rf⟩
  ·rename_i ep kus hS
   obtain ⟨k, hk, h5⟩ := Option.bind_eq_some_iff.mp h4
   obtain ⟨w, hw, h6⟩ := Option.bind_eq_some_iff.mp h5
   cases h6
   refine .inr ⟨m, ρ, S, _, S1, sr, lr, h1, fun m1 v1 H1 e1 sr1 i1 => ⟨m1, ρ, S1, _, S', sr1, lr.mono e1, h3, fun m2 v2 H2 e2 sr2 i2 => ?_⟩⟩
   obtain ⟨a, ha, rfl⟩ := (i1.mono e2).of_ref
   obtain ⟨a', ha', ob, es, kvs, hx, hd, ip⟩ := sr2.get hS
   rw [ha] at ha'; cases ha'
   have ek := iI i2 hk
   subst ek
   have rf := IsP.val (k := k) ip
   rw [hw] at rf
   cases hv : mT kvs k with
   | none => rw [hv] at rf; exact rf.elim
   | some z =>
    rw [hv] at rf
    exact ⟨a, z, rfl, by have := DGet.kz (k := k) hx; rw [hv] at this; exact this, post m2 _ H2 (e1.trans e2) sr2 rf⟩
 | kl ns =>
  simp only [fIx] at h4
  split at h4 <;> try cases h4
  rename_i i
  obtain ⟨w, hw, h5⟩ := Option.bind_eq_some_iff.mp h4
  cases h5
  refine .inl ⟨m, ρ, S, _, S1, sr, lr, h1, fun m1 v1 H1 e1 sr1 i1 => ⟨m1, ρ, S1, _, S', sr1, lr.mono e1, h3, fun m2 v2 H2 e2 sr2 i2 => .inl ?_⟩⟩
  obtain ⟨a, rfl, ka⟩ := (i1.mono e2).of_kl
  obtain ⟨z, ez, iz⟩ := wQ (rR (K := X.K) (m := m2) (H := H2) ns) hw
  exact ⟨a, _, i, z, rfl, i2.of_int, ka.sq, ez, post m2 _ H2 (e1.trans e2) sr2 iz⟩
 | _ => simp [fIx] at h4
noncomputable def mr : U → U → U → Sto → Option Sto := fun o i v S => match o with
 | .ref l => match S[l]? with
  | some (.lst us) => (match i with
   | .int k => (ixN us.length k).bind fun j => some (S.set l (.lst (us.set j v)))
   | _ => none)
  | some (.dic kus) => (kG i).bind fun k => if kus.length < LIM then some (S.set l (.dic (iE kus k v))) else none
  | _ => none
 | _ => none
noncomputable def fJ (co ci cv : CE) : CS := fun ρ S => (cv ρ S).bind fun p => (co ρ p.2).bind fun q => (ci ρ q.2).bind fun r => (mr q.1 r.1 p.1 r.2).bind fun S' => some (.nx, ρ, S')
theorem dR {o i : Expr} {co ci cv : CE} {pos' : Pos} (hu : X.A.units + 1 < cLine) (ho : QE X o co) (hi : QE X i ci) (hv : QE X e cv)
  (hs0 : swapsWithSole [.Subscript o i pos'] e pos.line X.env = pure false := by rfl) (hw : swappedStores [.Subscript o i pos'] e X.env = pure none := by rfl)
  (h1 : (assignEach [.Subscript o i pos'] X.env).map (·.2) = [assign (.Subscript o i pos') X.env] := by rfl)
  (hs : swapsWith e (some (.Subscript o i pos')) pos.line X.env = pure false := by rfl)
  (ha : ∀ v, assign (.Subscript o i pos') X.env v = (do
   let ov ← holding [v] (eval o X.env)
   let iv ← holding [v, ov] (eval i X.env)
   standAt pos'
   holding [v, ov, iv] (setItem ov iv v)
   release [v, ov, iv] []) := by intro _; rfl) : QS X (.Assign [.Subscript o i pos'] e pos) (fJ co ci cv) :=
 ((uj hv (Ai ho hi xC ha) hs0 hw h1).or (nP hu ho hi hv hs)).imp fun D σ H hz => sd hz fun m ρ S o ρ' S' sr lr hc post => by
 obtain ⟨⟨v, S1⟩, h1, h⟩ := Option.bind_eq_some_iff.mp hc
 obtain ⟨⟨ou, S2⟩, h2, h⟩ := Option.bind_eq_some_iff.mp h
 obtain ⟨⟨iu, S3⟩, h3, h⟩ := Option.bind_eq_some_iff.mp h
 obtain ⟨S4, h4, h⟩ := Option.bind_eq_some_iff.mp h
 cases h
 cases ou with
 | ref l =>
  simp only [mr] at h4
  split at h4 <;> try cases h4
  ·rename_i us hS
   split at h4 <;> try cases h4
   rename_i k
   obtain ⟨j, hj, h5⟩ := Option.bind_eq_some_iff.mp h4
   cases h5
   refine .inl ⟨m, ρ, S, v, S1, sr, lr, h1, fun m1 v1 H1 e1 sr1 i1 => ⟨m1, ρ, S1, _, S2, sr1, lr.mono e1, h2, fun m2 v2 H2 e2 sr2 i2 => ⟨m2, ρ, S2, _, S3, sr2, lr.mono (e1.trans e2), h3, fun m3 v3 H3 e3 sr3 i3 => ?_⟩⟩⟩
   obtain ⟨a, ha, rfl⟩ := (i2.mono e3).of_ref
   obtain ⟨a', ha', xs, hx, la⟩ := sr3.get hS
   rw [ha] at ha'; cases ha'
   have e13 := (e1.trans e2).trans e3
   have ek : Ext X.K m3 H3 m3 (upd H3 a (.lst (xs.set j v1))) := .of (sr3.keep ha _)
   refine ⟨a, xs, k, j, rfl, i3.of_int, hx, by rw [la.length]; exact hj, post m3 σ _ (e13.trans ek) (sr3.put ha ⟨_, aK, ((la.set (i1.mono (e2.trans e3)))).mono ek⟩) (lr.mono (e13.trans ek))⟩
  ·rename_i kus hS
   obtain ⟨k, hk, h5⟩ := Option.bind_eq_some_iff.mp h4
   split at h5 <;> try cases h5
   have gW : kus.length < LIM := by assumption
   refine .inr ⟨m, ρ, S, v, S1, sr, lr, h1, fun m1 v1 H1 e1 sr1 i1 => ⟨m1, ρ, S1, _, S2, sr1, lr.mono e1, h2, fun m2 v2 H2 e2 sr2 i2 => ⟨m2, ρ, S2, _, S3, sr2, lr.mono (e1.trans e2), h3, fun m3 v3 H3 e3 sr3 i3 => ?_⟩⟩⟩
   obtain ⟨a, ha, rfl⟩ := (i2.mono e3).of_ref
   obtain ⟨a', ha', kvs, hx, ip⟩ := sr3.get hS
   rw [ha] at ha'; cases ha'
   have ek := iI i3 hk
   subst ek
   have e13 := (e1.trans e2).trans e3
   have ee : Ext X.K m3 H3 m3 (upd H3 a (.dK (pj kvs k v1))) := .of (sr3.keep ha _)
   exact ⟨a, _, rfl, yX.k hx (BS (by rw [IsP.length ip]; exact gW)), post m3 σ _ (e13.trans ee) (sr3.put ha ⟨_, aK, (IsP.put ip (i1.mono (e2.trans e3))).mono ee⟩) (lr.mono (e13.trans ee))⟩
 | _ => simp [mr] at h4
end
theorem jL {α : Type} [DecidableEq α] : ∀ {l l' : List α}, l.Nodup → (∀ x ∈ l, x ∈ l') → l.length ≤ l'.length
 | [], _, _, _ => Nat.zero_le _
 | x :: r, l', nd, s => by
  obtain ⟨h1, h2⟩ := List.nodup_cons.mp nd
  have hx := s x List.mem_cons_self
  have := jL (l := r) (l' := l'.erase x) h2 fun y hy => (List.mem_erase_of_ne (fun z => h1 (by rw [← z]; exact hy))).mpr (s y (List.mem_cons_of_mem _ hy))
  rw [List.length_erase_of_mem hx] at this
  have hp := List.length_pos_of_mem hx
  rw [List.length_cons]
  omega
theorem fH (f : Str) (v : V) : ∀ fs : List (Str × V), (m8 f v fs).map (·.1) = if f ∈ fs.map (·.1) then fs.map (·.1) else fs.map (·.1) ++ [f]
 | [] => by simp [m8]
 | (g, x) :: r => by
  unfold m8
  by_cases e : g = f
  ·simp [e]
  ·have ih := fH f v r
   rw [if_neg e, List.map_cons, List.map_cons, ih]
   by_cases c : f ∈ r.map (·.1)
   ·rw [if_pos c, if_pos (List.mem_cons_of_mem _ c)]
   ·rw [if_neg c, if_neg (fun z => by rcases List.mem_cons.mp z with z | z; exact e z.symm; exact c z)]
    rfl
section
variable {X : Cx} {K : PySem.W.Frag} {m : List Addr} {H : Hp} {c : Cl} {fs : List (Str × V)} {fus : List (Option U)}
theorem InF.room (h : InF K m H c fs fus) : fs.length < 1000 := by
 have := jL h.knd h.sub
 rw [List.length_map] at this
 have := h.few
 omega
theorem lV {f : Str} : ∀ {fs : List (Str × V)}, f ∉ fs.map (·.1) → fs.lookup f = none
 | [], _ => rfl
 | (g, x) :: r, h => by
  rw [List.lookup_cons]
  have h1 : (f == g) = false := by
   apply beq_eq_false_iff_ne.mpr
   intro z; exact h (by rw [z]; exact List.mem_cons_self)
  rw [h1]
  exact lV fun z => h (List.mem_cons_of_mem _ z)
theorem InF.none_ {f : Str} (h : InF K m H c fs fus) (hf : f ∉ c.ns) : fs.lookup f = none := lV fun z => hf (h.sub f z)
theorem InF.put {f : Str} {i : Nat} {v : V} {u : U} (h : InF K m H c fs fus) (hi : c.ns[i]? = some f) (hv : Is K m H v u) : InF K m H c (m8 f v fs) (fus.set i (some u)) := by
 have hfm : f ∈ c.ns := List.mem_of_getElem? hi
 refine ⟨h.nd, h.few, ?_, fun x hx => ?_, by simp [h.len], fun j x hj => ?_⟩
 ·rw [fH]
  split
  ·exact h.knd
  ·rename_i hn
   rw [List.nodup_append]
   exact ⟨h.knd, by simp, fun a ha b hb z => by simp at hb; subst hb; subst z; exact hn ha⟩
 ·rw [fH] at hx
  split at hx
  ·exact h.sub x hx
  ·rcases List.mem_append.mp hx with z | z
   ·exact h.sub x z
   ·simp at z; subst z; exact hfm
 ·rw [ju]
  by_cases e : i = j
  ·subst e
   rw [hi] at hj; cases hj
   rw [if_pos rfl]
   have : i < fus.length := by rw [h.len]; exact (List.getElem?_eq_some_iff.mp hi).1
   rw [List.getElem?_set_self this]
   exact hv
  ·have ne : x ≠ f := fun z => by
    subst z
    obtain ⟨p1, e1⟩ := List.getElem?_eq_some_iff.mp hi
    obtain ⟨p2, e2⟩ := List.getElem?_eq_some_iff.mp hj
    exact e ((List.getElem_inj h.nd).mp (e1.trans e2.symm))
   rw [if_neg ne, List.getElem?_set_ne e]
   exact h.at_ j x hj
theorem InF.new (nd : c.ns.Nodup) (few : c.ns.length < 1000) : InF K m H c [] (List.replicate c.ns.length none) := by
 refine ⟨nd, few, by simp, fun x hx => by simp at hx, by simp, fun i x hi => ?_⟩
 rw [List.getElem?_replicate]
 split <;> exact trivial
open Classical in
noncomputable def Em (c : Cl) (i : Nat) (x : U) (S : Sto) : Option (U × Sto) := match x with
 | .ref l => match S[l]? with
  | some (.ins c' fus) => if c' = c then (fus[i]?).join.bind fun u => some (u, S) else none
  | _ => none
 | _ => none
noncomputable def kJ (c : Cl) (i : Nat) (ca : CE) : CE := fun ρ S => (ca ρ S).bind fun p => Em c i p.1 p.2
open Classical in
noncomputable def v8 (c : Cl) (i : Nat) (x v : U) (S : Sto) : Option Sto := match x with
 | .ref l => match S[l]? with
  | some (.ins c' fus) => if c' = c then some (S.set l (.ins c (fus.set i (some v)))) else none
  | _ => none
 | _ => none
noncomputable def qQ (c : Cl) (i : Nat) (ca cv : CE) : CS := fun ρ S => (cv ρ S).bind fun p => (ca ρ p.2).bind fun q => (v8 c i q.1 p.1 q.2).bind fun S' => some (.nx, ρ, S')
variable {e : Expr} {ca cv : CE} {pos : Pos} {f : Str} {i : Nat}
theorem jq (hcl : Cls X.K c.C) (hna : jk X.K c.C f) (hi : c.ns[i]? = some f) (h : QE X e ca) (hb : attributeBase e f X.env (eval e X.env) = eval e X.env := by rfl) : QE X (.Attribute e f pos) (kJ c i ca) := (Am h hb).imp fun σ H Q hz => kI hz fun m ρ S u S' sr lr hc post => by
 obtain ⟨⟨x, S1⟩, h1, h2⟩ := Option.bind_eq_some_iff.mp hc
 refine ⟨m, ρ, S, x, S1, sr, lr, h1, fun m1 v1 H1 e1 sr1 i1 => ?_⟩
 cases x with
 | ref l =>
  simp only [Em] at h2
  split at h2 <;> try cases h2
  rename_i c' fus hS
  split at h2 <;> try cases h2
  rename_i hc'
  subst hc'
  obtain ⟨w, hw, h3⟩ := Option.bind_eq_some_iff.mp h2
  cases h3
  obtain ⟨a, ha, rfl⟩ := i1.of_ref
  obtain ⟨a', ha', dx, fs, hx, inf⟩ := sr1.get hS
  rw [ha] at ha'; cases ha'
  have rf := inf.at_ i f hi
  rw [hw] at rf
  cases hv : fs.lookup f with
  | none => rw [hv] at rf; exact rf.elim
  | some z =>
   rw [hv] at rf
   exact ⟨a, _, dx, fs, z, rfl, hx, hcl, hna, hv, post m1 _ H1 e1 sr1 rf⟩
 | _ => simp [Em] at h2
theorem lK {o : Expr} {co : CE} {pos' : Pos} (hcl : Cls X.K c.C) (hna : jk X.K c.C f) (hi : c.ns[i]? = some f) (ho : QE X o co) (hv : QE X e cv) (hs : swapsWith e (some (.Attribute o f pos')) pos.line X.env = pure false := by rfl) : QS X (.Assign [.Attribute o f pos'] e pos) (qQ c i co cv) := (Af ho hv hs).imp fun D σ H hz => sd hz fun m ρ S o ρ' S' sr lr hc post => by
 obtain ⟨⟨v, S1⟩, h1, h⟩ := Option.bind_eq_some_iff.mp hc
 obtain ⟨⟨x, S2⟩, h2, h⟩ := Option.bind_eq_some_iff.mp h
 obtain ⟨S3, h3, h⟩ := Option.bind_eq_some_iff.mp h
 cases h
 refine ⟨m, ρ, S, v, S1, sr, lr, h1, fun m1 v1 H1 e1 sr1 i1 => ⟨m1, ρ, S1, x, S2, sr1, lr.mono e1, h2, fun m2 v2 H2 e2 sr2 i2 => ?_⟩⟩
 cases x with
 | ref l =>
  simp only [v8] at h3
  split at h3 <;> try cases h3
  rename_i c' fus hS
  split at h3 <;> try cases h3
  have hc' : c' = c := by assumption
  subst hc'
  obtain ⟨a, ha, rfl⟩ := i2.of_ref
  obtain ⟨a', ha', dx, fs, hx, inf⟩ := sr2.get hS
  rw [ha] at ha'; cases ha'
  have ee : Ext X.K m2 H2 m2 (upd H2 a (.ins c'.C dx (m8 f v1 fs))) := .of (sr2.keep ha _)
  have e12 := e1.trans e2
  exact ⟨a, _, dx, fs, rfl, hx, hcl, hna, inf.room, post m2 σ _ (e12.trans ee) (sr2.put ha ⟨dx, _, aK, (inf.put hi (i1.mono e2)).mono ee⟩) (lr.mono (e12.trans ee))⟩
 | _ => simp [v8] at h3
structure t6 (P : Program) (w : World) (K : PySem.W.Frag) (mg : Str → Option Value) (base : Heap) (c : Cl) (mn : Str) (k : Nat) (ps : List Str) (f : Fn) : Prop where
 ex : ∃ fa fd, t5 K c.C mn fa ∧ mX P w K mg base CX0 k fa fd ps (xA K f) ∧ ib K fd ps []
theorem t6.mono {P : Program} {w : World} {mg : Str → Option Value} {base : Heap} {mn : Str} {j k : Nat} {ps : List Str} {f : Fn} (h : t6 P w K mg base c mn j ps f) (l : j ≤ k) : t6 P w K mg base c mn k ps f := by
 obtain ⟨fa, fd, a, b, d⟩ := h.ex
 exact ⟨fa, fd, a, b.mono l, d⟩
open Classical in
noncomputable def wa (c : Cl) (f : Fn) (x : U) (S : Sto) (args : Sto → Option (List U × Sto)) : Option (U × Sto) := match x with
 | .ref l => match S[l]? with
  | some (.ins c' _) => if c' = c then (args S).bind fun q => f (.ref l :: q.1) q.2 else none
  | _ => none
 | _ => none
noncomputable def qR (c : Cl) (f : Fn) (ca : CE) (cr : CA) : CE := fun ρ S => (ca ρ S).bind fun p => wa c f p.1 p.2 (cr ρ)
theorem yj {mn : Str} {g : Fn} {co : CE} {cr : CA} (hmn : mn ∉ c.ns) : ∀ σ H Q, tE K (qR c g co cr) σ H Q → Av c.C mn (xA K g) [] E0 (tE K co) (tA K cr) σ H Q := by
 rintro σ H Q ⟨m, ρ, S, u, S', sr, lr, hc, post⟩
 obtain ⟨⟨x, S1⟩, h1, h2⟩ := Option.bind_eq_some_iff.mp hc
 refine ⟨m, ρ, S, x, S1, sr, lr, h1, fun m1 v1 H1 e1 sr1 i1 => ?_⟩
 cases x with
 | ref l =>
  simp only [wa] at h2
  split at h2 <;> try cases h2
  rename_i c' fus hS
  split at h2 <;> try cases h2
  rename_i hc'
  subst hc'
  obtain ⟨⟨us, S2⟩, h3, h4⟩ := Option.bind_eq_some_iff.mp h2
  obtain ⟨a, ha, rfl⟩ := i1.of_ref
  obtain ⟨a', ha', dx, fs, hx, inf⟩ := sr1.get hS
  rw [ha] at ha'; cases ha'
  refine ⟨a, dx, fs, rfl, hx, inf.none_ hmn, m1, ρ, S1, us, S2, sr1, lr.mono e1, h3, fun m2 vs H2 e2 sr2 i2 => ?_⟩
  exact ⟨m2, _, S2, u, S', .cons_ (i1.mono e2) (by simpa using i2), sr2, h4, post.mono (e1.trans e2)⟩
 | _ => simp [wa] at h2
theorem rp {mn : Str} {g : Fn} {k : Nat} {ps : List Str} {o : Expr} {es : List Expr} {co : CE} {cr : CA} {apos : Pos} {pl : Sem Bool} (hcl : Cls X.K c.C) (F : t6 X.prog X.w X.K X.mg X.base c mn k ps g) (hr : iX k X.A) (hmn : mn ∉ c.ns) (ho : QE X o co) (ha : QA X (e :: es) cr)
  (hst : starEach (e :: es) X.env = (false, eval e X.env) :: starEach es X.env := by rfl) (hpl : (backTo pos (starEach es X.env)).any (·.1) = false := by rfl) (ht : eval (.Call (.Attribute o mn apos) (e :: es) [] pos) X.env = (do
   let ov ← eval o X.env
   standAt apos.atName
   let (f, first) ← holding [ov] (getMethod ov mn pl)
   callWith pos f first (backTo pos (starEach (e :: es) X.env)) (backToKw pos (keywordEach [] X.env))) := by rfl) : QE X (.Call (.Attribute o mn apos) (e :: es) [] pos) (qR c g co cr) := by
 obtain ⟨fa, fd, hm, F, hb⟩ := F.ex
 exact (xm ho hcl hm F hr hb .nil A4 ha.h hst hpl ht).imp (yj hmn)
structure CMk (P : Program) (w : World) (K : PySem.W.Frag) (mg : Str → Option Value) (base : Heap) (c : Cl) (x : Str) (k : Nat) (ps : List Str) (f : Fn) : Prop where
 ex : ∃ fa fd, Mk K c.C fa ∧ mX P w K mg base CX0 k fa fd ps (xA K f) ∧ ib K fd ps [] ∧ mg x = some (.ref c.C)
 nd : c.ns.Nodup
 few : c.ns.length < 1000
theorem CMk.mono {P : Program} {w : World} {mg : Str → Option Value} {base : Heap} {x : Str} {j k : Nat} {ps : List Str} {f : Fn} (h : CMk P w K mg base c x j ps f) (l : j ≤ k) : CMk P w K mg base c x k ps f := by
 obtain ⟨fa, fd, a, b, d⟩ := h.ex
 exact ⟨⟨fa, fd, a, b.mono l, d⟩, h.nd, h.few⟩
noncomputable def tF (c : Cl) (f : Fn) : Fn := fun us S => (f (.ref S.length :: us) (S ++ [.ins c (List.replicate c.ns.length none)])).bind fun p => match p.1 with
 | .non => some (.ref S.length, p.2)
 | _ => none
theorem ym {g : Fn} {cr : CA} (nd : c.ns.Nodup) (few : c.ns.length < 1000) : ∀ σ H Q, tE K (cCB (tF c g) cr) σ H Q → Aw c.C (xA K g) [] E0 (tA K cr) σ H Q := by
 rintro σ H Q ⟨m, ρ, S, u, S', sr, lr, hc, post⟩
 obtain ⟨⟨us, S1⟩, h1, h2⟩ := Option.bind_eq_some_iff.mp hc
 obtain ⟨⟨w, S2⟩, h3, h4⟩ := Option.bind_eq_some_iff.mp h2
 refine ⟨m, ρ, S, us, S1, sr, lr, h1, fun m1 vs H1 e1 sr1 i1 x dx hx hdx ne => ?_⟩
 cases w with
 | non =>
  cases h4
  have s1 : qc H1 (upd H1 dx (.own x)) := dQ hdx _
  have hx2 : (upd H1 dx (.own x)) x = none := by rw [bF (Ne.symm ne)]; exact hx
  have ee : Ext K m1 H1 (m1 ++ [x]) (upd (upd H1 dx (.own x)) x (.ins c.C dx [])) := .new ⟨fun b xs q => (b8 hx2 _).t b xs ((gJ s1).t b xs q), fun b xs q => (b8 hx2 _).l b xs ((gJ s1).l b xs q)⟩
  refine ⟨m1 ++ [x], .ref S1.length :: us, S1 ++ [.ins c (List.replicate c.ns.length none)], .non, S2, .cons_ (.ref_ (eU sr1.len)) (by simpa using i1.mono ee), (sr1.same s1).new (o := .ins c (List.replicate c.ns.length none)) hx2 ⟨dx, [], aK, InF.new nd few⟩, h3, fun m2 v2 H2 e2 sr2 i2 => ⟨i2.of_non, ?_⟩⟩
  exact post m2 _ H2 ((e1.trans ee).trans e2) sr2 (.ref_ (e2.get (eU sr1.len)))
 | _ => simp at h4
theorem AG {x : Str} {g : Fn} {k : Nat} {ps : List Str} {p : Pos} (M : CMk X.prog X.w X.K X.mg X.base c x k ps g) (hr : iX (k + 1) X.A) (hg : Gl X x)
  (hdb : (x == ("__debug__" : Str)) = false := by decide) : QE X (.Call (.Name x p) [] [] pos) (cCB (tF c g) aq) := by
 obtain ⟨fa, fd, hm, F, hb, hx⟩ := M.ex
 refine (uo hm F hr hg hx hb .nil A4 hdb).imp fun σ H Q h => ?_
 obtain ⟨m, ρ, S, us, S', sr, lr, hc, k⟩ := ym M.nd M.few σ H Q h
 cases hc
 exact k m [] H .refl sr .nil_
noncomputable def nq : CE := fun _ S => some (.ref S.length, S ++ [.dic []])
theorem lM : QE X (.Dict [] [] pos) nq := uu.imp fun σ H Q hz => kI hz fun m ρ S u S' sr lr hc post => by
 cases hc
 exact fun p hp => post (m ++ [p]) _ _ (.new (b8 hp _)) (sr.new hp ⟨[], aK, .nil_⟩) (.ref_ (eU sr.len))
noncomputable def qS (cd ck cx : CE) : CE := fun ρ S => (cd ρ S).bind fun p => match p.1 with
 | .ref l => match p.2[l]? with
  | some (.dic _) => (ck ρ p.2).bind fun q => (cx ρ q.2).bind fun r => match r.2[l]? with
   | some (.dic kus) => (kG q.1).bind fun k => some ((aX kus k).getD r.1, r.2)
   | _ => none
  | _ => none
 | _ => none
theorem uY {o e f : Expr} {cd ck cx : CE} {apos : Pos} (hu : X.A.units + 1 < cLine) (ho : QE X o cd) (he : QE X e ck) (hf : QE X f cx) (hm : M2 X o "get" apos e f pos) : QE X (.Call (.Attribute o "get" apos) [e, f] [] pos) (qS cd ck cx) := (uv hu ho he hf hm).imp fun σ H Q hz => kI hz fun m ρ S u S' sr lr hc post => by
 obtain ⟨⟨x, S1⟩, h1, h⟩ := Option.bind_eq_some_iff.mp hc
 refine ⟨m, ρ, S, x, S1, sr, lr, h1, fun m1 v1 H1 e1 sr1 i1 => ?_⟩
 cases x with
 | ref l =>
  simp only at h
  split at h <;> try cases h
  rename_i kus0 hS
  obtain ⟨⟨ku, S2⟩, h2, h⟩ := Option.bind_eq_some_iff.mp h
  obtain ⟨⟨xu, S3⟩, h3, h⟩ := Option.bind_eq_some_iff.mp h
  simp only at h
  split at h <;> try cases h
  rename_i kus hS3
  obtain ⟨k, hk, h⟩ := Option.bind_eq_some_iff.mp h
  cases h
  obtain ⟨a, ha, rfl⟩ := i1.of_ref
  obtain ⟨a', ha', kvs0, hx0, _⟩ := sr1.get hS
  rw [ha] at ha'; cases ha'
  refine ⟨a, rfl, .inl ⟨kvs0, .inl hx0⟩, m1, ρ, S1, ku, S2, sr1, lr.mono e1, h2, fun m2 v2 H2 e2 sr2 i2 => ⟨m2, ρ, S2, xu, _, sr2, lr.mono (e1.trans e2), h3, fun m3 v3 H3 e3 sr3 i3 => ?_⟩⟩
  obtain ⟨a', ha', kvs, hx, ip⟩ := sr3.get hS3
  rw [(e2.trans e3).get ha] at ha'; cases ha'
  have ek := iI (i2.mono e3) hk
  subst ek
  have rf := IsP.val (k := k) ip
  refine ⟨_, DGet.k hx, post m3 _ H3 ((e1.trans e2).trans e3) sr3 ?_⟩
  cases hv : mT kvs k with
  | none =>
   cases hw : aX kus k with
   | none => exact i3
   | some w => rw [hv, hw] at rf; exact rf.elim
  | some v =>
   cases hw : aX kus k with
   | none => rw [hv, hw] at rf; exact rf.elim
   | some w => rw [hv, hw] at rf; exact rf
 | _ => simp at h
end
noncomputable def qm (n : Nat) (caps : List Nat) (ρ : Rho) : Rho := List.replicate n none ++ caps.map fun i => (ρ[i]?).getD none
open Classical in
noncomputable def iC (ok : Sto → Prop) (g : CG) (ce : CE) (l : Nat) : List U → Rho → Sto → Option Sto
 | [], _, S => if ok S then some S else none
 | u :: us, ρ, S => if ok S then (g u ρ S).bind fun p => (ce p.1 p.2).bind fun r => match r.2[l]? with
  | some (.lst ys) => if ys.length < LIM then iC ok g ce l us p.1 (r.2.set l (.lst (ys ++ [r.1]))) else none
  | _ => none else none
noncomputable def g9 (ci : CI) (g : CG) (ce : CE) (n : Nat) (caps : List Nat) : CE := fun ρ S => (ci ρ S).bind fun p => (iC p.2.1 g ce p.2.2.length p.1 (qm n caps ρ) (p.2.2 ++ [.lst []])).bind fun S' => some (.ref p.2.2.length, S')
section
variable {X : Cx} {K : PySem.W.Frag}
theorem vy {m : List Addr} {H : Hp} {ρ : Rho} {σ : L2.St} {n : Nat} {caps : List Nat} (lr : Lr K m H ρ σ) : Lr K m H (qm n caps ρ) (OG.stC n caps σ) := by
 refine ⟨by simp [qm, OG.stC], fun j u e => ?_⟩
 unfold qm at e
 unfold OG.stC
 by_cases c : j < n
 ·rw [List.getElem?_append_left (by simpa using c), List.getElem?_replicate] at e
  split at e <;> cases e
 ·rw [List.getElem?_append_right (by simp; omega), List.getElem?_map] at e ⊢
  simp only [List.length_replicate] at e ⊢
  cases q : caps[j - n]? with
  | none => rw [q] at e; simp at e
  | some i =>
   rw [q] at e
   simp only [Option.map_some, Option.some.injEq] at e ⊢
   have e2 : ρ[i]? = some (some u) := by
    cases z : ρ[i]? with
    | none => rw [z] at e; simp at e
    | some y => rw [z] at e; simp at e; rw [e]
   obtain ⟨v, h1, h2⟩ := lr.at_ i u e2
   exact ⟨v, by rw [h1]; rfl, h2⟩
theorem wF {g : CG} {ce : CE} {n : Nat} {caps : List Nat} {J : It} {us : List U} {ok : Sto → Prop} {Q : VK} {m1 : List Addr} {H1 : Hp} {S1 S' : Sto} {ρ : Rho} {σ : L2.St} {l : Addr} (sr1 : Sr K m1 S1 H1) (lr : Lr K m1 H1 ρ σ) (ito : yW K J m1 H1 us ok) (hl : H1 l = none) (h2 : iC ok g ce S1.length us (qm n caps ρ) (S1 ++ [.lst []]) = some S')
  (post : ∀ m2 H2, Ext K (m1 ++ [l]) (upd H1 l (.lst [])) m2 H2 → Sr K m2 S' H2 → Q (.ref l) H2) :
  ∃ W : Nat → Nat → L2.St → Hp → Prop, (∃ m, W 0 m (OG.stC n caps σ) (upd H1 l (.lst []))) ∧
 ∀ i m σ' H2, W i m σ' H2 → (J.stop i H2 ∧ Q (.ref l) H2) ∨ (J.go i H2 ∧ ∃ N : L2.St → Hp → Prop, (∀ σ'' H', N σ'' H' → ∃ m', m' < m ∧ W (i + 1) m' σ'' H') ∧
  ∀ x H3, J.yld i H2 x H3 → tG K g x σ' H3 fun σ2 H4 => tE K ce σ2 H4 fun v H5 => ∃ ys, H5 l = some (.lst ys) ∧ ys.length < sizeLine ∧ N σ2 (upd H5 l (.lst (ys ++ [v])))) := by
 have ee : Ext K m1 H1 (m1 ++ [l]) (upd H1 l (.lst [])) := .new (b8 hl _)
 let W : Nat → Nat → L2.St → Hp → Prop := fun i k σ2 H2 => k = us.length - i ∧ i ≤ us.length ∧ ∃ m2 ρ2 S2, Ext K (m1 ++ [l]) (upd H1 l (.lst [])) m2 H2 ∧ Sr K m2 S2 H2 ∧ Lr K m2 H2 ρ2 σ2 ∧ iC ok g ce S1.length (us.drop i) ρ2 S2 = some S'
 refine ⟨W, ⟨us.length, by simp, Nat.zero_le _, m1 ++ [l], qm n caps ρ, S1 ++ [.lst []], .refl, sr1.new (o := .lst []) hl ⟨[], aK, .nil_⟩, vy (lr.mono ee), by simpa using h2⟩, ?_⟩
 rintro i k σ2 H2 ⟨rfl, hi, m2, ρ2, S2, e2, sr2, lr2, hl2⟩
 by_cases hlt : i < us.length
 ·have hu := List.getElem?_eq_getElem hlt
  rw [mG hu] at hl2
  unfold iC at hl2
  split at hl2
  ·rename_i hok
   obtain ⟨⟨ρ3, S3⟩, h3, hl2⟩ := Option.bind_eq_some_iff.mp hl2
   obtain ⟨⟨u4, S4⟩, h4, hl2⟩ := Option.bind_eq_some_iff.mp hl2
   simp only at hl2
   split at hl2 <;> try cases hl2
   rename_i ys hys
   split at hl2 <;> try cases hl2
   rename_i gW
   obtain ⟨hgo, hy⟩ := (ito m2 S2 H2 i (ee.trans e2) sr2 hok).1 _ hu
   refine .inr ⟨hgo, W (i + 1) (us.length - (i + 1)), fun σ' H' w' => ⟨_, by omega, w'⟩, fun x H3 y => ?_⟩
   obtain ⟨e3, sr3, ix⟩ := hy x H3 y
   refine ⟨m2, ρ2, S2, _, ρ3, S3, sr3, lr2.mono e3, ix, h3, fun m4 σ4 H4 e4 sr4 lr4 => ⟨m4, ρ3, S3, u4, S4, sr4, lr4, h4, fun m5 v5 H5 e5 sr5 i5 => ?_⟩⟩
   obtain ⟨a', ha', xs, hx, il⟩ := sr5.get hys
   have ha : m5[S1.length]? = some l := (((e2.trans e3).trans e4).trans e5).get (eU sr1.len)
   rw [ha] at ha'; cases ha'
   have eu : Ext K m5 H5 m5 (upd H5 l (.lst (xs ++ [v5]))) := .of (sr5.keep ha _)
   refine ⟨xs, hx, BS (by rw [il.length]; exact gW), rfl, hlt, m5, ρ3, _, ((((e2.trans e3).trans e4).trans e5).trans eu), sr5.put (o := .lst (ys ++ [u4])) ha ⟨_, aK, (il.append (.cons_ i5 .nil_)).mono eu⟩, (lr4.mono (e5.trans eu)), hl2⟩
  ·cases hl2
 ·have e : i = us.length := by omega
  subst e
  rw [List.drop_length] at hl2
  unfold iC at hl2
  split at hl2
  ·rename_i hok
   cases hl2
   exact .inl ⟨(ito m2 _ H2 _ (ee.trans e2) sr2 hok).2 (Nat.le_refl _), post m2 H2 e2 sr2⟩
  ·cases hl2
theorem sj {ci : CI} {g : CG} {ce : CE} {n : Nat} {caps : List Nat} : ∀ σ H Q, tE K (g9 ci g ce n caps) σ H Q → xx (tI K ci) (tG K g) (tE K ce) n caps σ H Q := by
 rintro σ H Q ⟨m, ρ, S, u, S', sr, lr, hc, post⟩
 obtain ⟨⟨us, ok, S1⟩, h1, h2⟩ := Option.bind_eq_some_iff.mp hc
 obtain ⟨S2, h2, h3⟩ := Option.bind_eq_some_iff.mp h2
 cases h3
 refine ⟨m, ρ, S, us, ok, S1, sr, lr, h1, fun m1 H1 J e1 sr1 ito l hl => ?_⟩
 have ee : Ext K m1 H1 (m1 ++ [l]) (upd H1 l (.lst [])) := .new (b8 hl _)
 exact wF sr1 (lr.mono e1) ito hl h2 fun m2 H2 e2 sr2 => post m2 _ H2 ((e1.trans ee).trans e2) sr2 (.ref_ (e2.get (eU sr1.len)))
theorem rA {Nc capN tn : List Str} {scope : Scope} {cl : List (Str × Addr)} {n : Nat} {caps : List Nat} {tg iter elt : Expr} {pos : Pos} {ci : CI} {g : CG} {ce : CE}
  (hc : X.calm = true) (hi : QI X tg iter ci) (hg : ∀ s3 H3 fp, WG (cxC X Nc scope cl s3 H3 fp) tg (tG X.K g)) (he : ∀ s3 H3 fp, WE (cxC X Nc scope cl s3 H3 fp) elt (tE X.K ce))
  (hclos : closureFor scope X.env = pure cl) (hkind : scope.kind = .function) (hnl : ∀ x ∈ scope.names, x.2 = .local → scope.names.lookup x.1 = some .local) (hcell : ∀ x ∈ scope.names, x.2 ≠ .cell)
  (hcl : sD X.env cl) (hhas : ((relabel scope X.env).names.all fun p => !(p.2 == .cell || p.2 == .free) || (cl.lookup p.1).isSome) = true)
  (hcap : Paired (Cap X scope cl) caps capN) (hN : Nc = tn ++ capN) (hn : tn.length = n)
  (hs : ∀ x, foldedSetIterable iter X.env x = pure x := by intro _; rfl) :
  QE X (.ListComp elt [⟨tg, iter, [], 0⟩] scope pos) (g9 ci g ce n caps) := (xo hc hi hg he hclos hkind hnl hcell hcl hhas hcap hN hn hs).imp sj
noncomputable def jd : Fn
 | [.tup us], S => some (.int us.length, S)
 | [.ref l], S => match S[l]? with
  | some (.lst us) => some (.int us.length, S)
  | some (.dic us) => some (.int us.length, S)
  | _ => none
 | [.kl ns], S => some (.int ns.length, S)
 | _, _ => none
noncomputable abbrev Hx (K : PySem.W.Frag) : List V → Hp → VK → Prop := fun xs H Q => (∃ p ys, xs = [.ref p] ∧ (SqL K H p ys ∨ SqT K H p ys) ∧ Q (.int ys.length) H) ∨ ∃ a kvs, xs = [V.ref a] ∧ H a = some (.dK kvs) ∧ Q (.int kvs.length) H
theorem js : iP X (.builtin "len") (Hx X.K) := pV.or wJ
theorem IsL.one {m : List Addr} {H : Hp} {vs : List V} {u : U} (h : IsL K m H vs [u]) : ∃ v, vs = [v] ∧ Is K m H v u := by
 obtain ⟨x, r, rfl, i, t⟩ := h.of_cons
 rw [t.of_nil]; exact ⟨x, rfl, i⟩
theorem jr : tV K (Hx K) jd := by
 intro m S H us vs u S' Q sr i hf post
 match us, hf with
 | [.tup ws], hf =>
  cases hf
  obtain ⟨v, rfl, iv⟩ := i.one
  obtain ⟨a, xs, rfl, sa, la⟩ := iv.of_tup
  exact .inl ⟨a, xs, rfl, .inr sa, by rw [la.length]; exact post m _ H .refl sr .int_⟩
 | [.ref l], hf =>
  obtain ⟨v, rfl, iv⟩ := i.one
  obtain ⟨a, ha, rfl⟩ := iv.of_ref
  simp only [jd] at hf
  split at hf <;> try cases hf
  ·rename_i ws hS
   obtain ⟨a', ha', xs, hx, la⟩ := sr.get hS
   rw [ha] at ha'; cases ha'
   exact .inl ⟨a, xs, rfl, .inl (SqL.of hx), by rw [la.length]; exact post m _ H .refl sr .int_⟩
  ·rename_i ws hS
   obtain ⟨a', ha', xs, hx, la⟩ := sr.get hS
   rw [ha] at ha'; cases ha'
   exact .inr ⟨a, xs, rfl, hx, by rw [IsP.length la]; exact post m _ H .refl sr .int_⟩
 | [.kl ns], hf =>
  cases hf
  obtain ⟨v, rfl, iv⟩ := i.one
  obtain ⟨a, rfl, ka⟩ := iv.of_kl
  exact .inl ⟨a, _, rfl, .inl ka.sq, by rw [List.length_map]; exact post m _ H .refl sr .int_⟩
noncomputable def j7 : Fn
 | [.tup us], S => some (.ref S.length, S ++ [.lst us])
 | [.ref l], S => match S[l]? with
  | some (.lst us) => some (.ref S.length, S ++ [.lst us])
  | _ => none
 | _, _ => none
theorem vh : tV K (fun xs H Q => ∃ p ys, xs = [.ref p] ∧ (SqL K H p ys ∨ SqT K H p ys) ∧ ∀ l, H l = none → Q (.ref l) (upd H l (.lst ys))) j7 := by
 intro m S H us vs u S' Q sr i hf post
 match us, hf with
 | [.tup ws], hf =>
  cases hf
  obtain ⟨v, rfl, iv⟩ := i.one
  obtain ⟨a, xs, rfl, sa, la⟩ := iv.of_tup
  exact ⟨a, xs, rfl, .inr sa, fun l hl => iT sr la post hl⟩
 | [.ref l], hf =>
  obtain ⟨v, rfl, iv⟩ := i.one
  obtain ⟨a, ha, rfl⟩ := iv.of_ref
  simp only [j7] at hf
  split at hf <;> try cases hf
  rename_i ws hS
  obtain ⟨a', ha', xs, hx, la⟩ := sr.get hS
  rw [ha] at ha'; cases ha'
  exact ⟨a, xs, rfl, .inl (SqL.of hx), fun l hl => iT sr la post hl⟩
noncomputable def gK : Fn
 | [.tup us], S => some (.tup us, S)
 | [.ref l], S => match S[l]? with
  | some (.lst us) => some (.tup us, S)
  | _ => none
 | _, _ => none
theorem qt : tV K (fun xs H Q => ∃ p ys, xs = [.ref p] ∧ ((SqL K H p ys ∧ ∀ l, H l = none → Q (.ref l) (upd H l (.tup ys))) ∨ (SqT K H p ys ∧ Q (.ref p) H))) gK := by
 intro m S H us vs u S' Q sr i hf post
 match us, hf with
 | [.tup ws], hf =>
  cases hf
  obtain ⟨v, rfl, iv⟩ := i.one
  obtain ⟨a, xs, rfl, sa, la⟩ := iv.of_tup
  exact ⟨a, xs, rfl, .inr ⟨sa, post m _ H .refl sr iv⟩⟩
 | [.ref l], hf =>
  obtain ⟨v, rfl, iv⟩ := i.one
  obtain ⟨a, ha, rfl⟩ := iv.of_ref
  simp only [gK] at hf
  split at hf <;> try cases hf
  rename_i ws hS
  obtain ⟨a', ha', xs, hx, la⟩ := sr.get hS
  rw [ha] at ha'; cases ha'
  exact ⟨a, xs, rfl, .inl ⟨SqL.of hx, fun l hl => nZ sr la post hl⟩⟩
noncomputable def II : Fn
 | [.int i], S => some (.int i, S)
 | [.bl b], S => some (.int (if b then 1 else 0), S)
 | _, _ => none
theorem rQ {m : List Addr} {H : Hp} : ∀ (ns : List Int), IsL K m H (ns.map V.int) (ns.map U.int)
 | [] => .nil_
 | n :: ns => .cons_ .int_ (rQ ns)
inductive Ty where
 | non | bool | int | str | tuple | list | dict
noncomputable def Ty.nm : Ty → String
 | .non => "NoneType" | .bool => "bool" | .int => "int" | .str => "str" | .tuple => "tuple" | .list => "list" | .dict => "dict"
noncomputable def tyU : U → Sto → Option Ty
 | .non, _ => some .non | .bl _, _ => some .bool | .int _, _ => some .int | .str _, _ => some .str | .tup _, _ => some .tuple
 | .ref l, S => match S[l]? with
  | some (.lst _) => some .list
  | some (.dic _) => some .dict
  | _ => none
 | .kl _, _ => none
noncomputable def o7 : Ty → Ty → Bool
 | .non, .non => true | .bool, .bool => true | .bool, .int => true | .int, .int => true | .str, .str => true | .tuple, .tuple => true | .list, .list => true | .dict, .dict => true
 | _, _ => false
theorem ma (a b : Ty) (hb : b ≠ .non) : PySem.W.kitOne K (.type a.nm) (.type b.nm) = some (o7 a b) := by
 cases b <;> first | exact absurd rfl hb | (cases a <;> rfl)
noncomputable abbrev IB (K : PySem.W.Frag) : List V → Hp → VK → Prop := fun xs H Q => (∃ (x : V) (T : String) (t : Value) (k : Bool), xs = [x, .ty T] ∧ sC K H x t ∧ PySem.W.kitOne K t (.type T) = some k ∧ Q (.bl k) H) ∨
 ∃ (a : Addr) (ys : List V) (T : String) (k : Bool), xs = [.ref a, .ty T] ∧ SqT K H a ys ∧ PySem.W.kitOne K (.type "tuple") (.type T) = some k ∧ Q (.bl k) H
theorem GB : iP X (.builtin "isinstance") (IB X.K) := by
 refine qP.or ?_
 rintro pins s σ H xs us Q I r ⟨a, ys, T, k, rfl, sq, e, q⟩
 obtain ⟨u, w', rfl, ru, rw'⟩ := CO r
 cases rw'
 cases ru
 obtain ⟨its, rv, ht, hz⟩ := I.tuple sq
 obtain ⟨o, h1, h2, _⟩ := ht
 exact PySem.W.kia_one PySem.W.kitx_tuple I.kIn ⟨o, h1, h2⟩ e (fun z => nomatch z) fun tk => ⟨.bl k, H, I.tok tk, rfl, q⟩
noncomputable def pX (T : Ty) (ca : CE) : CE := fun ρ S => (ca ρ S).bind fun p => (tyU p.1 p.2).bind fun t => some (.bl (o7 t T), p.2)
theorem m7 {T : Ty} {e eT : Expr} {ca : CE} {p pos : Pos} (hT0 : T ≠ .non) (he : QE X e ca) (hT : WE X eT (tC (.ty T.nm))) (hg : Gl X "isinstance") (hm : X.mg "isinstance" = none)
  (h1 : starEach [e, eT] X.env = (false, eval e X.env) :: starEach [eT] X.env := by rfl) (h2 : starEach [eT] X.env = (false, eval eT X.env) :: starEach [] X.env := by rfl) (hpl : (backTo pos (starEach [eT] X.env)).any (·.1) = false := by rfl) :
  QE X (.Call (.Name "isinstance" p) [e, eT] [] pos) (pX T ca) := (oX GB hg hm OG.mM (fz he (fz hT jW h2) h1) (by decide) (by decide) h1 hpl).imp fun σ H Q hz => kI hz fun m ρ S u S' sr lr hc post => by
 obtain ⟨⟨x, S1⟩, h1, h2⟩ := Option.bind_eq_some_iff.mp hc
 obtain ⟨t, ht, h3⟩ := Option.bind_eq_some_iff.mp h2
 cases h3
 refine ⟨m, ρ, S, x, _, sr, lr, h1, fun m1 v1 H1 e1 sr1 i1 => ?_⟩
 have fin := post m1 _ H1 e1 sr1 (Is.bl_ (b := o7 t T))
 cases x with
 | non => cases ht; rw [i1.of_non]; exact .inl ⟨_, _, _, _, rfl, .non, ma .non T hT0, fin⟩
 | bl b => cases ht; rw [i1.of_bl]; exact .inl ⟨_, _, _, _, rfl, .bl b, ma .bool T hT0, fin⟩
 | int i => cases ht; rw [i1.of_int]; exact .inl ⟨_, _, _, _, rfl, .int i, ma .int T hT0, fin⟩
 | str i => cases ht; rw [i1.of_str]; exact .inl ⟨_, _, _, _, rfl, .str i, ma .str T hT0, fin⟩
 | tup us =>
  cases ht
  obtain ⟨a, xs, rfl, sa, la⟩ := i1.of_tup
  exact .inr ⟨a, xs, _, _, rfl, sa, ma .tuple T hT0, fin⟩
 | ref l =>
  obtain ⟨a, ha, rfl⟩ := i1.of_ref
  simp only [tyU] at ht
  split at ht <;> try cases ht
  ·rename_i ws hS
   obtain ⟨a', ha', xs, hx, la⟩ := sr1.get hS
   rw [ha] at ha'; cases ha'
   exact .inl ⟨_, _, _, _, rfl, .lst hx, ma .list T hT0, fin⟩
  ·rename_i ws hS
   obtain ⟨a', ha', xs, hx, la⟩ := sr1.get hS
   rw [ha] at ha'; cases ha'
   exact .inl ⟨_, _, _, _, rfl, .dK hx, ma .dict T hT0, fin⟩
 | kl ns => cases ht
noncomputable def cBM (f : U → List U → Sto → Option (U × Sto)) (co : CE) (cr : CA) : CE := fun ρ S => (co ρ S).bind fun p => match p.1 with
 | .ref l => match p.2[l]? with
  | some (.lst _) => (cr ρ p.2).bind fun q => f p.1 q.1 q.2
  | _ => none
 | _ => none
noncomputable def MtP (K : PySem.W.Frag) (r : V → List V → Hp → VK → Prop) (f : U → List U → Sto → Option (U × Sto)) : Prop :=
 ∀ m S H x v us vs u S' Q, Sr K m S H → Is K m H v x → IsL K m H vs us → f x us S = some (u, S') → kh K m H Q u S' → r v vs H Q
theorem sy {r : V → List V → Hp → VK → Prop} {f : U → List U → Sto → Option (U × Sto)} {co : CE} {cr : CA} (hp : MtP K r f) : ∀ σ H Q, tE K (cBM f co cr) σ H Q → tBM K "list" r (tE K co) (tA K cr) σ H Q := by
 rintro σ H Q ⟨m, ρ, S, u, S', sr, lr, hc, post⟩
 obtain ⟨⟨x, S1⟩, h1, h2⟩ := Option.bind_eq_some_iff.mp hc
 refine ⟨m, ρ, S, x, S1, sr, lr, h1, fun m1 v1 H1 e1 sr1 i1 => ?_⟩
 cases x with
 | ref l =>
  simp only at h2
  split at h2 <;> try cases h2
  rename_i ws hS
  obtain ⟨⟨us, S2⟩, h3, h4⟩ := Option.bind_eq_some_iff.mp h2
  obtain ⟨a, ha, rfl⟩ := id i1.of_ref
  obtain ⟨a', ha', xs, hx, la⟩ := sr1.get hS
  rw [ha] at ha'; cases ha'
  exact ⟨.inl ⟨rfl, xs, SqL.of hx⟩, m1, ρ, S1, us, S2, sr1, lr.mono e1, h3, fun m2 vs H2 e2 sr2 i2 => hp m2 S2 H2 _ _ us vs u S' Q sr2 (i1.mono e2) i2 h4 (post.mono (e1.trans e2))⟩
 | _ => simp at h2
noncomputable def dB : U → List U → Sto → Option (U × Sto)
 | .ref l, [u], S => match S[l]? with
  | some (.lst us) => if us.length < LIM then some (.non, S.set l (.lst (us ++ [u]))) else none
  | _ => none
 | _, _, _ => none
theorem yd : MtP K uR dB := by
 intro m S H x v us vs u S' Q sr ix i hf post
 match x, us, hf with
 | .ref l, [w], hf =>
  simp only [dB] at hf
  split at hf <;> try cases hf
  rename_i ws hS
  split at hf <;> try cases hf
  rename_i hl
  obtain ⟨a, ha, rfl⟩ := ix.of_ref
  obtain ⟨a', ha', xs, hx, la⟩ := sr.get hS
  rw [ha] at ha'; cases ha'
  obtain ⟨y, rfl, iy⟩ := i.one
  have eu : Ext K m H m (upd H a (.lst (xs ++ [y]))) := .of (sr.keep ha _)
  exact ⟨a, xs, y, rfl, rfl, hx, BS (by rw [la.length]; exact hl), post m _ _ eu (sr.put ha ⟨_, aK, (la.append (.cons_ iy .nil_)).mono eu⟩) .non_⟩
variable {e : Expr} {es : List Expr} {co : CE} {cr : CA} {o : Expr} {apos cpos : Pos}
theorem fU (ho : QE X o co) (ha : QA X (e :: es) cr) (hbase : attributeBase o "append" X.env (eval o X.env) = eval o X.env := by rfl) (hfew : ((backTo cpos (starEach (e :: es) X.env)).all (fun x => !x.1) && (backToKw cpos (keywordEach [] X.env)).all (fun x => x.1.isSome)
   && decide ((e :: es).length + ([] : List Keyword).length + (if ([] : List Keyword).isEmpty then 0 else 1) < 30)) = true := by rfl) (hline : (apos.endLine == cpos.line) = true := by rfl) (hs : starEach (e :: es) X.env = (false, eval e X.env) :: starEach es X.env := by rfl) (hplain : (backTo cpos (starEach es X.env)).any (·.1) = false := by rfl) :
  QE X (.Call (.Attribute o "append" apos) (e :: es) [] cpos) (cBM dB co cr) := (uA PySem.F.plainAttrs_list PySem.F.slot_list_append PySem.F.type_list_append lT ho ha.h hbase hfew hline hs hplain).imp (sy yd)
end
structure TC (K : PySem.W.Frag) (c : Cl) (NS : List Str) : Prop where
 cl : Cls K c.C
 ns : c.ns = NS
 nas : ∀ f ∈ NS, jk K c.C f
section
variable {K : PySem.W.Frag} {c : Cl} {NS : List Str}
theorem TC.ix (T : TC K c NS) {i : Nat} {f : Str} (h : NS[i]? = some f) : c.ns[i]? = some f := by rw [T.ns]; exact h
theorem TC.na (T : TC K c NS) (i : Nat) {f : Str} (h : NS[i]? = some f) : jk K c.C f := T.nas f (List.mem_of_getElem? h)
theorem TC.nm (T : TC K c NS) {f : Str} (h : f ∉ NS) : f ∉ c.ns := by rw [T.ns]; exact h
end
theorem _root_.L2.Fun.pure {P : Program} {w : World} {K : PySem.W.Frag} {mg : Str → Option Value} {base : Heap} {x qual : Str} {st : Stmt} {f : Addr} {fd : FuncData} {N ps : List Str} {k : Nat} {c : CS} (F : Fun K x qual st f fd) (S : aW N ps (ax st))
  (hb : ∀ (cdv : Value) (A : Around) (outer : List Env) (s : Shared) (H : Hp) (E : XK), iX k (A.deeper (envOfC qual (ax st) s.heap.objs.size f cdv)) →
   WSs (t4 CX0 P w K mg base N qual (ax st) f cdv A outer s H E).nox (aR st) (tS K c)) : mX P w K mg base CX0 (k + 1) f fd ps (xA K (fnU N.length ps.length c)) :=
 Fun.okW F S (fun vs H Q E h => rn h) fun cdv A outer s H vs Q E hr h => ⟨_, hb cdv A outer s H E hr, vX (X := (t4 CX0 P w K mg base N qual (ax st) f cdv A outer s H E).nox) (body := []) (ps := ps) rfl h⟩
noncomputable def SI : Bool → Heap → Addr → Addr → Nat → Prop
 | true, h, it, a, i => h.IsListIter it a i
 | false, h, it, a, i => h.IsTupleIter it a i
noncomputable def SA : Bool → Heap → Addr → Array Value → Prop
 | true, h, a, xs => h.IsList a xs
 | false, h, a, xs => h.IsTuple a xs
theorem SI.at_ {b : Bool} {h h' : Heap} {it a : Addr} {i : Nat} (x : SI b h it a i) (k : ∀ o, h.get? it = some o → h'.get? it = some o) : SI b h' it a i := by
 cases b with
 | true => obtain ⟨o, e, r⟩ := x; exact ⟨o, k o e, r⟩
 | false => obtain ⟨o, e, r⟩ := x; exact ⟨o, k o e, r⟩
theorem SA.at_ {b : Bool} {h h' : Heap} {a : Addr} {xs : Array Value} (x : SA b h a xs) (k : ∀ o, h.get? a = some o → h'.get? a = some o) : SA b h' a xs := by
 cases b with
 | true => obtain ⟨o, e, r⟩ := x; exact ⟨o, k o e, r⟩
 | false => obtain ⟨o, e, r⟩ := x; exact ⟨o, k o e, r⟩
theorem SI.obj {b : Bool} {h : Heap} {it a : Addr} {i : Nat} (x : SI b h it a i) : ∃ o, h.get? it = some o ∧ ∀ v, o.data ≠ .cell v := by
 cases b with
 | true => obtain ⟨o, e, c, d⟩ := x; exact ⟨o, e, fun v z => by rw [d] at z; cases z⟩
 | false => obtain ⟨o, e, c, d⟩ := x; exact ⟨o, e, fun v z => by rw [d] at z; cases z⟩
theorem SA.lt {b : Bool} {h : Heap} {a : Addr} {xs : Array Value} (x : SA b h a xs) : a < h.objs.size := by
 cases b with
 | true => obtain ⟨o, e, _⟩ := x; exact Heap.lt_size e
 | false => obtain ⟨o, e, _⟩ := x; exact Heap.lt_size e
section
variable {prog : Program} {w : World} {A : Around} {E : Value → Shared → Prop} {s : Shared}
theorem xw {I t : Addr} {j : Nat} {ys : Array Value} {y : Value} {Q : Value → Shared → Prop} (hI : s.heap.IsTupleIter I t j) (hT : s.heap.IsTuple t ys) (hy : ys[j]? = some y)
  (k : ∀ h', h'.IsTupleIter I t (j + 1) → Heap.SameBut I s.heap h' → Q y { s with heap := h' }) : wpAny (model prog w) A (Builtin.SmallTypes.nextOf (.ref I)) Q E s := by
 obtain ⟨oi, gi, ci, di⟩ := id hI
 obtain ⟨ot, gt, _, nt, dt⟩ := hT
 unfold Builtin.SmallTypes.nextOf
 refine wpAny_bind (wpAny_callSpecial?_slot (name := Str.ofString "__next__") hI.typeIs PySem.F.slot_tuple_iterator_next (wpAny_call_entry PySem.F.slot_tuple_iterator_next hI.typeIs PySem.F.entry_tuple_iterator_next ?_ (PySem.F.args_tuple_iterator_next_1 _)))
 show wpAny _ _ (field (.ref I) 0 >>= _) _ _ s
 refine wpAny_bind (wpAny_field gi di (x := .ref t) rfl ?_)
 show wpAny _ _ (ite ((Value.ref t == Value.none) = true) _ _) _ _ s
 rw [if_neg (by exact Bool.false_ne_true)]
 show wpAny _ _ (field (.ref I) 1 >>= _) _ _ s
 refine wpAny_bind (wpAny_field gi di (x := .int j 0) rfl ?_)
 show wpAny _ _ (seqItems? (.ref t) >>= _) _ _ s
 refine wpAny_bind (wpAny_seqItems gt dt ?_)
 simp only [hy, Int.toNat_natCast]
 refine wpAny_bind (wpAny_setField gi di (by simp) (wpAny_pure ⟨y, rfl, wpAny_pure (k _ ⟨_, Heap.get?_update_self _ gi (Obj.isFreed_of_fields (Obj.data_mapFields di _)), (Obj.cls_mapFields ..).trans ci, ?_⟩ (Heap.SameBut.update ..))⟩))
 rw [Obj.data_mapFields di]; simp [rawInt]
theorem o6 {I t : Addr} {j : Nat} {ys : Array Value} {Q : Value → Shared → Prop} (hh : A.handled = none) (hI : s.heap.IsTupleIter I t j) (hT : s.heap.IsTuple t ys) (hy : ys[j]? = none)
  (k : ∀ h' e, Heap.ExtBut I s.heap h' → (∃ o, h'.get? e = some o ∧ o.cls = .type "StopIteration") → E (.ref e) { s with heap := h' }) : wpAny (model prog w) A (Builtin.SmallTypes.nextOf (.ref I)) Q E s := by
 obtain ⟨oi, gi, ci, di⟩ := id hI
 obtain ⟨ot, gt, _, nt, dt⟩ := hT
 unfold Builtin.SmallTypes.nextOf
 refine wpAny_bind (wpAny_callSpecial?_slot (name := Str.ofString "__next__") hI.typeIs PySem.F.slot_tuple_iterator_next (wpAny_call_entry PySem.F.slot_tuple_iterator_next hI.typeIs PySem.F.entry_tuple_iterator_next ?_ (PySem.F.args_tuple_iterator_next_1 _)))
 show wpAny _ _ (field (.ref I) 0 >>= _) _ _ s
 refine wpAny_bind (wpAny_field gi di (x := .ref t) rfl ?_)
 show wpAny _ _ (ite ((Value.ref t == Value.none) = true) _ _) _ _ s
 rw [if_neg (by exact Bool.false_ne_true)]
 show wpAny _ _ (field (.ref I) 1 >>= _) _ _ s
 refine wpAny_bind (wpAny_field gi di (x := .int j 0) rfl ?_)
 show wpAny _ _ (seqItems? (.ref t) >>= _) _ _ s
 refine wpAny_bind (wpAny_seqItems gt dt ?_)
 simp only [hy, Int.toNat_natCast]
 refine wpAny_bind (wpAny_rule (wpAny_bind (wpAny_setField gi di (by simp) ?_)))
 show wpAny _ _ (newExc (.type "StopIteration") [] >>= _) _ _ _
 simp only [newExc, newTuple]; refine wpAny_bind ?_
 refine wpAny_bind (wpAny_newObj_type ?_ (by (size_fits)))
 refine wpAny_bind (m := firstArgMember _ _) (wpAny_of_eq (a := Value.none) (by simp only [firstArgMember] <;> rfl) ?_)
 refine wpAny_newObj_type ?_ (by (size_fits))
 simp only [raiseNew]
 refine wpAny_bind (wpAny_handled ?_)
 rw [show A.in1.handled = none from hh]
 exact wpAny_bind (wpAny_pure (wpAny_throw (k _ _ (((Heap.SameBut.update ..).extBut.push _).push _) ⟨_, Heap.get?_push_size _ rfl, rfl⟩)))
theorem Az {b : Bool} {I t : Addr} {j : Nat} {ys : Array Value} {y : Value} {Q : Value → Shared → Prop} (hI : SI b s.heap I t j) (hT : SA b s.heap t ys) (hy : ys[j]? = some y)
  (k : ∀ h', SI b h' I t (j + 1) → Heap.SameBut I s.heap h' → Q y { s with heap := h' }) : wpAny (model prog w) A (Builtin.SmallTypes.nextOf (.ref I)) Q E s := by
 cases b with
 | true => exact wpAny_nextOf_list_item hI hT hy k
 | false => exact xw hI hT hy k
theorem lF {b : Bool} {I t : Addr} {j : Nat} {ys : Array Value} {Q : Value → Shared → Prop} (hh : A.handled = none) (hI : SI b s.heap I t j) (hT : SA b s.heap t ys) (hy : ys[j]? = none)
  (k : ∀ h' e, Heap.ExtBut I s.heap h' → (∃ o, h'.get? e = some o ∧ o.cls = .type "StopIteration") → E (.ref e) { s with heap := h' }) : wpAny (model prog w) A (Builtin.SmallTypes.nextOf (.ref I)) Q E s := by
 cases b with
 | true => exact wpAny_nextOf_list_end hh hI hT hy k
 | false => exact o6 hh hI hT hy k
noncomputable def itO (b : Bool) (a : Addr) : Obj := { cls := .type (if b then "list_iterator" else "tuple_iterator"), data := .fields #[.ref a, .int 0 0] }
theorem Ec {b : Bool} {a i : Addr} {h : Heap} (e : h.get? i = some (itO b a)) : SI b h i a 0 := by
 cases b with
 | true => exact ⟨_, e, rfl, rfl⟩
 | false => exact ⟨_, e, rfl, rfl⟩
end
noncomputable def Sq (K : PySem.W.Frag) : Bool → Hp → Addr → List V → Prop
 | true, H, a, xs => SqL K H a xs
 | false, H, a, xs => SqT K H a xs
section
variable {X : Cx} {pins : List (Addr × Obj)} {σ : L2.St} {H : Hp} {s : Shared} {h' : Heap}
theorem _root_.L2.Inv.turnedL {t' : Nat} {ch : List Addr} (I : Inv X pins σ H s) (k : ∀ b o, b ∉ ch → s.heap.get? b = some o → h'.get? b = some o) (hf : ∀ b ∈ ch, t7 X pins H b) : Inv X pins σ H { s with heap := h', toks := t' } := by
 have nit : ∀ b u, H b = some u → b ∉ ch := fun b u e z => by rw [(hf b z).1] at e; cases e
 refine I.step (g' := s.gens) (d' := s.drawn) (ch := ch) (fun b hb => ⟨(hf b hb).2.2.2.1, (hf b hb).2.1, (hf b hb).2.2.2.2.1, (hf b hb).2.2.2.2.2⟩) (fun b o _ _ hc e _ => k b o hc e) (fun b o _ _ hc e _ => ⟨o.slots, k b o hc e⟩) (fun _ _ _ _ n => n)
  (fun b o hc e => ⟨o, k b o hc e⟩) (fun _ _ e => e) (fun _ _ _ e => e) (fun b ps e => ⟨#[], by rw [e]; simp⟩) (fun m hm => ?_) (fun b u e => ?_) I.bare
 ·obtain ⟨o, es, ep, ho, r⟩ := hm
  exact ⟨o, es, ep, k _ o (fun z => (hf _ z).2.1 rfl) ho, r⟩
 ·refine (I.hok b u e).stay (fun c v hc q => k c v ?_ q) (fun _ q => q) fun _ _ q => q
  rcases hc with z | z
  ·rw [z]; exact nit b u e
  ·exact nit c _ z
theorem _root_.L2.Inv.sq {b : Bool} {a : Addr} {xs : List V} (I : Inv X pins σ H s) (h : Sq X.K b H a xs) : ∃ its : List Value, cL xs its ∧ SA b s.heap a its.toArray := by
 cases b with
 | true => obtain ⟨its, r, p, _⟩ := I.list h; exact ⟨its, r, p.isList⟩
 | false => obtain ⟨its, r, p, _⟩ := I.tuple h; exact ⟨its, r, p⟩
theorem _root_.L2.Inv.sq_inj {b : Bool} {a : Addr} {xs ys : List V} (I : Inv X pins σ H s) (h : Sq X.K b H a xs) (h2 : Sq X.K b H a ys) : xs = ys := by
 cases b with
 | true => exact I.list_inj h h2
 | false => exact I.tuple_inj h h2
end
theorem xM {h : Heap} {ob o : Obj} {e : Addr} (q : (h.push ob).get? e = some o) (ne : e ≠ h.objs.size) : h.get? e = some o := (Heap.get?_push_ne h e ob ne).symm.trans q
theorem xY {P : Program} {w : World} {H : Hp} {h : Heap} {a : Addr} {x y : V} {u v : Value} (e : h.get? a = some { cls := .type "tuple", data := .seq #[u, v] }) (rx : dk x u) (ry : dk y v) : dM P w H h a (.tup [x, y]) :=
 ⟨by show 2 ≤ sizeLine; decide, [u, v], .cons rx (.cons ry .nil), ⟨_, e, rfl, _, rfl⟩⟩
section
variable {X : Cx} {pos : Pos}
noncomputable def C6 : U → Sto → Option (List U × (Sto → Prop))
 | .tup us, _ => some (us, fun _ => True)
 | .ref l, S => match S[l]? with
  | some (.lst us) => some (us, fun S => S[l]? = some (.lst us))
  | _ => none
 | _, _ => none
theorem C5 {K : PySem.W.Frag} {m : List Addr} {S : Sto} {H : Hp} {u : U} {v : V} {us : List U} {ok : Sto → Prop} (sr : Sr K m S H) (iu : Is K m H v u) (h : C6 u S = some (us, ok)) :
  ∃ b a, v = .ref a ∧ (∃ xs, Sq K b H a xs) ∧ ∀ m2 S2 H2, Ext K m H m2 H2 → Sr K m2 S2 H2 → ok S2 → ∃ xs, Sq K b H2 a xs ∧ IsL K m2 H2 xs us := by
 cases u with
 | tup ws =>
  cases h
  obtain ⟨a, xs, rfl, sq, il⟩ := iu.of_tup
  exact ⟨false, a, rfl, ⟨xs, sq⟩, fun m2 S2 H2 e _ _ => ⟨xs, e.keep.t _ _ sq, il.mono e⟩⟩
 | ref l =>
  simp only [C6] at h
  split at h <;> try cases h
  rename_i us hS
  obtain ⟨a, ha, rfl⟩ := iu.of_ref
  obtain ⟨a', ha', xs, hx, il⟩ := sr.get hS
  rw [ha] at ha'; cases ha'
  refine ⟨true, a, rfl, ⟨xs, SqL.of hx⟩, fun m2 S2 H2 e sr2 hok => ?_⟩
  obtain ⟨a', ha', xs, hx, il⟩ := sr2.get hok
  rw [e.get ha] at ha'; cases ha'
  exact ⟨xs, SqL.of hx, il⟩
 | _ => simp [C6] at h
end
theorem BF {b : Bool} {prog : Program} {w : World} {A : Around} (hh : A.handled = none) (it a : Addr) (hne : a ≠ it) (ys : Array Value) :
  Draws prog w A it [it, a] ys.size (fun i v => ys[i]? = some v) (fun i h => SI b h it a i ∧ SA b h a ys) where
 live := fun _ _ st => let ⟨o, ho, _⟩ := st.1.obj; ⟨o, ho⟩
 frame := fun _ _ _ st hk => ⟨st.1.at_ fun o e => hk it (by simp) o e, st.2.at_ fun o e => hk a (by simp) o e⟩
 item := fun i s Q E hi st hQ => Az st.1 st.2 (y := ys[i]) (by simp [hi]) fun h' it' s' => hQ _ h' s.toks (by simp [hi]) ⟨it', st.2.at_ fun o e => s'.extBut _ _ hne e⟩ s'
 done := fun s Q E st hE => lF hh st.1 st.2 (by simp) hE
structure ESt (b : Bool) (h : Heap) (e it a : Addr) (n : Nat) : Prop where
 he : ∃ old, IsEnum h e it n old
 hi : SI b h it a n
theorem wd (l : Addr) (ys : Array Value) (n : Nat) (dct : Option Addr) (sl : Array (Option Value)) :
  Meets (Builtin.«enumerate.__new__» ⟨[.type "enumerate", .ref l], []⟩) (fun _ R s => s.heap.get? l = some { cls := .type "tuple", dict := dct, data := .seq ys n, slots := sl } ∧
   R (.ok (.ret (.ref (s.heap.push (itO false l)).objs.size))) { s with heap := (s.heap.push (itO false l)).push { cls := .type "enumerate", data := .fields #[.none, .bool false, .ref s.heap.objs.size, rawInt 0, .none, .none] } }) :=
 .of_wp fun prog w A R s q => by
  obtain ⟨hp, g, d, tk, os⟩ := s
  obtain ⟨gl, q⟩ := q
  have sb := sub_enumerate
  have tl : Heap.IsTuple (Shared.heap ⟨hp, g, d, tk, os⟩) l ys := ⟨_, gl, rfl, n, rfl⟩
  wp_walk using wpAny_loadPart' gl
  refine wpAny_stack_any (fun st => wpAny_pure ?_)
  split
  ·rename_i c _ _ _ _ _
   cases (c == Value.type "enumerate") <;> (wp_walk using wpAny_loadPart' gl, wpAny_pyIter_tuple tl; exact ⟨_, rfl, q⟩)
  ·wp_walk using wpAny_loadPart' gl, wpAny_pyIter_tuple tl
   exact ⟨_, rfl, q⟩
theorem wg {b : Bool} {prog : Program} {w : World} {A : Around} {E : Value → Shared → Prop} {s : Shared} {a : Addr} {ys : Array Value} {Q : Value → Shared → Prop} (ha : SA b s.heap a ys)
  (k : ∀ h' e it, e ≠ it → s.heap.objs.size ≤ e → s.heap.objs.size ≤ it → ESt b h' e it a 0 → (∀ c o, s.heap.get? c = some o → h'.get? c = some o) → Q (.ref e) { s with heap := h' }) :
  wpAny (model prog w) A (call (.type "enumerate") [.ref a]) Q E s := by
 cases b with
 | true => exact call_enumerate_list ha fun h' e1 e2 sz up => k h' _ _ (by omega) (Nat.le_add_right _ _) (Nat.le_refl _) ⟨⟨_, e1⟩, e2⟩ up
 | false =>
  obtain ⟨⟨c, dct, dt, sl⟩, gl, hc, n, hd⟩ := ha
  simp only at hc hd
  subst hc hd
  refine callType_new PySem.F.called_enumerate (by decide) (PySem.F.typeCall_enumerate_1 _) (PySem.F.newCall_enumerate_1 _) (fun obj => PySem.F.args_object_init_2 obj _) PySem.F.entry_enumerate_new (wd a ys n dct sl) ⟨gl, ?_⟩
  have n1 : (s.heap.push (itO false a)).objs.size = s.heap.objs.size + 1 := Heap.size_push ..
  have p2 := Heap.get?_push_size (s.heap.push (itO false a)) (o := { cls := .type "enumerate", data := .fields #[.none, .bool false, .ref s.heap.objs.size, rawInt 0, .none, .none] }) rfl
  have p1 : ((s.heap.push (itO false a)).push { cls := .type "enumerate", data := .fields #[.none, .bool false, .ref s.heap.objs.size, rawInt 0, .none, .none] }).get? s.heap.objs.size = some (itO false a) := Heap.get?_push_of_some _ (Heap.get?_push_size _ rfl)
  rw [n1] at p2
  show _ ∧ _
  rw [n1]
  exact ⟨⟨_, p2, rfl⟩, k _ (s.heap.objs.size + 1) s.heap.objs.size (Nat.ne_of_gt (Nat.lt_succ_self _)) (Nat.le_add_right _ _) (Nat.le_refl _) ⟨⟨_, p2⟩, Ec p1⟩ fun c o x => Heap.get?_push_of_some _ (Heap.get?_push_of_some _ x)⟩
theorem yH {b : Bool} {prog : Program} {w : World} {A : Around} {E : Value → Shared → Prop} {s : Shared} {e it a : Addr} {i : Int} {j : Nat} {ys : Array Value} {old : Value} {Q : Option Value → Shared → Prop} (hh : A.in1.handled = none) (he : IsEnum s.heap e it i old) (hi : SI b s.heap it a j) (ha : SA b s.heap a ys) (hx : ys[j]? = none)
  (k : ∀ h', Heap.ExtBut it s.heap h' → Q none { s with heap := h' }) : wpAny (model prog w) A (pyNext (.ref e)) Q E s := by
 have ty : s.TypeIs (.ref e) "enumerate" := ⟨_, he, rfl⟩
 unfold pyNext
 refine wpAny_bind (wpAny_attempt (wpAny_callSpecial?_slot (name := Str.ofString "__next__") ty PySem.F.slot_enumerate_next (wpAny_call_entry PySem.F.slot_enumerate_next ty PySem.F.entry_enumerate_next ?_ (PySem.F.args_enumerate_next_1 _))))
 show wpAny _ _ (field (.ref e) 2 >>= fun _ => _) _ _ _
 refine wpAny_bind (wpAny_field he rfl (x := .ref it) rfl (wpAny_bind (lF hh hi ha hx fun h' x he' hx' => ?_)))
 obtain ⟨o, ho, co⟩ := hx'
 exact wpAny_bind (wpAny_isInstance (T := "StopIteration") (b := true) ⟨o, ho, co⟩ isSubtype_stop (wpAny_pure (k _ he')))
noncomputable def Ite (K : PySem.W.Frag) (b : Bool) (a : Addr) : It :=
  ⟨fun i H => ∃ xs x, Sq K b H a xs ∧ xs[i]? = some x,
   fun i H v H' => ∃ p x, v = .ref p ∧ H p = none ∧ H' = upd H p (.tup [.int i, x]) ∧ ∀ xs, Sq K b H a xs → xs[i]? = some x,
   fun i H => ∃ xs, Sq K b H a xs ∧ xs.length ≤ i⟩
theorem uG {P : Program} {w : World} {K : PySem.W.Frag} {es : List Expr} {k : Nat} {pos : Pos} {b : Bool} {e it a : Addr} (ne : e ≠ it) (nae : a ≠ e) (nai : a ≠ it) :
  BV P w K (.Tuple es k pos) (Ite K b a) [e, it] e (fun n h => ESt b h e it a n) where
 mem := by simp
 obj := fun n h st c hc => by
  obtain ⟨⟨old, he⟩, hi⟩ := st
  simp only [List.mem_cons, List.not_mem_nil, or_false] at hc
  rcases hc with rfl | rfl
  ·exact ⟨_, he, fun v q => by cases q⟩
  ·exact hi.obj
 keep := fun n h h' st kp => let ⟨old, he⟩ := st.he; ⟨⟨old, kp e (by simp) _ he⟩, st.hi.at_ fun o q => kp it (by simp) o q⟩
 item := by
  intro X hP hw hK hc n pins s σ H E Iv hf st hg
  subst hP hw hK
  obtain ⟨xs, x, qa, hx⟩ := hg
  obtain ⟨ia, ra, sa⟩ := Iv.sq qa
  obtain ⟨u, hu, ru⟩ := ra.get hx
  obtain ⟨⟨old, he⟩, hi⟩ := st
  have hlt : n < ia.toArray.size := by simpa using (List.getElem?_eq_some_iff.mp hu).1
  refine wpAny_pyNext_enum_itemD (BF (b := b) (show X.A.in1.handled = none from Iv.ok.hd hc) it a nai ia.toArray) he ⟨hi, sa⟩ hlt ne (by simp [ne, Ne.symm nae]) fun y h1 tk py out1 st1 T1 sz1 up1 => ⟨_, rfl, wpAny_letOwnedTupleGo_enum out1 fun h2 e2 s2 => ?_⟩
  have ey : y = u := by
   have p' : ia.toArray[n]? = some y := py
   rw [List.getElem?_toArray, hu] at p'; cases p'; rfl
  subst ey
  have hfr : H s.heap.objs.size = none := Iv.hok.fresh (Nat.le_refl _)
  have elt : e < s.heap.objs.size := Heap.lt_size he
  have ilt : it < s.heap.objs.size := by obtain ⟨o, q, _⟩ := hi.obj; exact Heap.lt_size q
  have sz : ∀ c ∈ [e, it], c < s.heap.objs.size := fun c hc => by
   simp only [List.mem_cons, List.not_mem_nil, or_false] at hc
   rcases hc with rfl | rfl
   ·exact elt
   ·exact ilt
  have T2 : h2.get? s.heap.objs.size = some { cls := .type "tuple", data := .seq #[.int n tk, y] } := s2.extBut _ _ (Nat.ne_of_gt elt) T1
  have I1 : Inv X pins σ (upd H s.heap.objs.size (.tup [.int n, x])) { s with heap := s.heap.push { cls := .type "tuple", data := .seq #[.int n tk, y] }, toks := s.toks } :=
   Iv.laid (fun b o e => Heap.get?_push_of_some _ e) (Nat.le_refl _) (xY (Heap.get?_push_size _ rfl) ⟨tk, rfl⟩ ru)
  have fr2 : ∀ c ∈ [e, it], (upd H s.heap.objs.size (.tup [.int n, x])) c = none := fun c hc => by rw [bF (Nat.ne_of_lt (sz c hc))]; exact (hf c hc).1
  have I2 : Inv X pins σ (upd H s.heap.objs.size (.tup [.int n, x])) { s with heap := h2, toks := tk + 1 } :=
   Inv.turnedL (s := { s with heap := s.heap.push { cls := .type "tuple", data := .seq #[.int n tk, y] }, toks := s.toks }) (h' := h2) (t' := tk + 1) (ch := [e, it]) I1 (fun c o hn q => by
    by_cases ce : c = s.heap.objs.size
    ·subst ce
     have q' : (s.heap.push { cls := .type "tuple", data := .seq #[.int n tk, y] }).get? s.heap.objs.size = some o := q
     rw [Heap.get?_push_size _ rfl] at q'
     cases q'; exact T2
    ·have q' : s.heap.get? c = some o := xM q ce
     simp only [List.mem_cons, List.not_mem_nil, or_false, not_or] at hn
     exact s2.extBut _ _ hn.1 (up1 c o hn.1 hn.2 q')) fun c hc => ⟨fr2 c hc, (hf c hc).2⟩
  refine ⟨.ref s.heap.objs.size, _, I2, rfl, ⟨_, x, rfl, hfr, rfl, fun xs' q => by rw [Iv.sq_inj q qa]; exact hx⟩, ⟨⟨_, by simpa using e2⟩, st1.1.at_ fun o q => s2.extBut _ _ (Ne.symm ne) q⟩, fr2⟩
 done := by
  intro X hP hw hK hc n pins s σ H E Iv hf st hg
  subst hP hw hK
  obtain ⟨xs, qa, hx⟩ := hg
  obtain ⟨ia, ra, sa⟩ := Iv.sq qa
  have la := ra.length
  obtain ⟨⟨old, he⟩, hi⟩ := st
  refine yH (show X.A.in1.handled = none from Iv.ok.hd hc) he hi sa (by simp; omega) fun h1 up1 => ⟨rfl, ?_⟩
  exact Iv.turnedL (t' := s.toks) (ch := [e, it]) (fun c o hn q => by
   simp only [List.mem_cons, List.not_mem_nil, or_false, not_or] at hn
   exact up1 c o hn.2 q) hf
 self := fun _ _ _ _ _ st h => let ⟨old, he⟩ := st.he; wpAny_pyIter_enum he h
noncomputable def Eh (K : PySem.W.Frag) (ta : TA) : TI := fun σ H R => ta σ H fun vs H2 => ∃ b a, vs = [.ref a] ∧ (∃ xs, Sq K b H2 a xs) ∧ R (Ite K b a) H2
theorem wN : bootBuiltins "enumerate" = some (.type "enumerate") := rfl
section
variable {X : Cx} {pos : Pos}
theorem Ao {es : List Expr} {k : Nat} {tp p : Pos} {a : Expr} {ta : TA} (hg : Gl X "enumerate") (hm : X.mg "enumerate" = none) (ha : WA X [a] ta)
  (hs : starEach [a] X.env = (false, eval a X.env) :: starEach [] X.env := by rfl) (hpl : (backTo pos (starEach [] X.env)).any (·.1) = false := by rfl) : WI X (.Tuple es k tp) (.Call (.Name "enumerate" p) [a] [] pos) (Eh X.K ta) := by
 constructor
 intro pins s σ H R I h
 refine wpAny_Call_Name_kw (lZ I hg hm OP.wN ?_)
 refine PyProof.Rows.callWith_type1 (thn (ha.h pos pins s σ H _ I h) fun us s1 hz => ?_) hs hpl
 obtain ⟨vs, H1, I1, r1, q1⟩ := hz
 obtain ⟨b, aa, rfl, ⟨xs, qa⟩, q⟩ := q1
 obtain ⟨u, rfl, ru⟩ := uE r1
 cases ru
 obtain ⟨ia, ra, sa⟩ := I1.sq qa
 refine wg sa fun h1 e it ne he hi st up => ?_
 obtain ⟨old, hE⟩ := st.he
 refine wpAny_pyIter_enum hE ⟨e, [e, it], _, _, H1, rfl, I1.kept (t' := s1.toks) up, uG ne (Nat.ne_of_lt (Nat.lt_of_lt_of_le sa.lt he)) (Nat.ne_of_lt (Nat.lt_of_lt_of_le sa.lt hi)), st, fun c hc => ?_, q⟩
 simp only [List.mem_cons, List.not_mem_nil, or_false] at hc
 rcases hc with rfl | rfl
 ·exact I1.fpOk he (I1.hok.fresh he)
 ·exact I1.fpOk hi (I1.hok.fresh hi)
noncomputable def yI (us : List U) : List U := us.zipIdx.map fun p => .tup [.int p.2, p.1]
noncomputable def Bu (ca : CE) : CI := fun ρ S => (ca ρ S).bind fun p => (C6 p.1 p.2).bind fun x => some (yI x.1, x.2, p.2)
theorem AD {es : List Expr} {k : Nat} {tp p : Pos} {a : Expr} {ca : CE} (hg : Gl X "enumerate") (hm : X.mg "enumerate" = none) (ha : QE X a ca)
  (hs : starEach [a] X.env = (false, eval a X.env) :: starEach [] X.env := by rfl) (hpl : (backTo pos (starEach [] X.env)).any (·.1) = false := by rfl) :
  QI X (.Tuple es k tp) (.Call (.Name "enumerate" p) [a] [] pos) (Bu ca) := (Ao hg hm (fz ha jW hs) hs hpl).imp fun σ H R hz => sd hz fun m ρ S us ok S' sr lr hf post => by
 obtain ⟨⟨x, S1⟩, h1, h⟩ := Option.bind_eq_some_iff.mp hf
 obtain ⟨⟨xs, okx⟩, h3, h⟩ := Option.bind_eq_some_iff.mp h
 cases h
 refine ⟨m, ρ, S, x, _, sr, lr, h1, fun m1 v1 H1 e1 sr1 i1 => ?_⟩
 obtain ⟨b, aa, rfl, q1, k1⟩ := C5 sr1 i1 h3
 refine ⟨b, aa, rfl, q1, post m1 H1 _ e1 sr1 fun m3 S3 H3 i e3 sr3 hok => ?_⟩
 obtain ⟨vs, sq1, l1⟩ := k1 m3 S3 H3 e3 sr3 hok
 have n1 := l1.length
 refine ⟨fun u hu => ?_, fun hi => ⟨vs, sq1, ?_⟩⟩
 ·simp only [yI, List.getElem?_map, Option.map_eq_some_iff, List.getElem?_zipIdx] at hu
  obtain ⟨⟨p, q⟩, ⟨y, hp, e⟩, rfl⟩ := hu
  cases e
  obtain ⟨vp, ep, ip⟩ := l1.getD hp
  refine ⟨⟨vs, vp, sq1, ep⟩, fun v H4 hy => ?_⟩
  obtain ⟨r, x', rfl, hr, rfl, f1⟩ := hy
  have := f1 vs sq1
  rw [ep] at this; cases this
  have ee : Ext X.K m3 H3 m3 (upd H3 r (.tup [.int i, vp])) := .of (b8 hr _)
  exact ⟨ee, sr3.same (dQ hr _), .tup_ (SqT.of aK) (.cons_ (by simp only [Nat.zero_add]; exact .int_) (.cons_ (ip.mono ee) .nil_))⟩
 ·simp only [yI, List.length_map, List.length_zipIdx] at hi
  omega
noncomputable def lN : List (CE × CE) → Rho → Sto → Option (List (Key × U) × Sto)
 | [], _, S => some ([], S)
 | (ck, cv) :: r, ρ, S => (ck ρ S).bind fun p => (cv ρ p.2).bind fun q => (kG p.1).bind fun k => (lN r ρ q.2).bind fun z => some ((k, q.1) :: z.1, z.2)
noncomputable def DS (kus : List (Key × U)) (au : List (Key × U)) : List (Key × U) := kus.foldl (fun acc kv => iE acc kv.1 kv.2) au
noncomputable def vx (kus : List (Key × U)) : List (Key × U) := DS kus []
noncomputable def EA (prs : List (CE × CE)) : CE := fun ρ S => (lN prs ρ (S ++ [.dic []])).bind fun q => match q.2[S.length]? with
 | some (.dic []) => some (.ref S.length, q.2.set S.length (.dic (vx q.1)))
 | _ => none
end
theorem jC : ∀ {ns : List Int} {vs : List Value}, cL (ns.map V.int) vs → IntsAre vs ns
 | [], _, h => by cases h; exact .nil
 | n :: ns, _, .cons r t => by
  obtain ⟨k, rfl⟩ := r
  exact .cons n k (jC t)
section
variable {ρ : Rho} {S : Sto} {c1 c2 : CS} {t ta tb : CT} {ca cb cc : CE} {cr : CA} {u x y : U} {us : List U} {i l : Nat} {f g : U → U → Sto → Option (U × Sto)} {b : Bool}
noncomputable def HB (S : Sto) : Option (Option U) → Option (U × Sto)
 | some (some u) => some (u, S)
 | _ => none
theorem EY : ak i ρ S = HB S (ρ[i]?) := rfl
theorem BX : HB S (some (some u)) = some (u, S) := rfl
theorem x_c : cC u ρ S = some (u, S) := rfl
noncomputable def GJ (f : U → U → Sto → Option (U × Sto)) (x : U) (q : U × Sto) := f x q.1 q.2
noncomputable def GK (f : U → U → Sto → Option (U × Sto)) (cb : CE) (ρ : Rho) (p : U × Sto) := (cb ρ p.2).bind (GJ f p.1)
theorem mY : cOp f ca cb ρ S = (ca ρ S).bind (GK f cb ρ) := rfl
theorem iZ : GK f cb ρ (x, S) = (cb ρ S).bind (GJ f x) := rfl
theorem iY : GJ f x (y, S) = f x y S := rfl
noncomputable def D1 : U × Sto → Option (Bool × Sto)
 | (.bl b, S) => some (b, S)
 | _ => none
theorem i8 : aG ca ρ S = (ca ρ S).bind D1 := by
 unfold aG; congr 1; funext p; obtain ⟨u, S⟩ := p; cases u <;> rfl
theorem qe : D1 (.bl b, S) = some (b, S) := rfl
noncomputable def GU (tb : CT) (ρ : Rho) (p : Bool × Sto) := if p.1 = true then tb ρ p.2 else some (false, p.2)
noncomputable def kOr (tb : CT) (ρ : Rho) (p : Bool × Sto) := if p.1 = true then some (true, p.2) else tb ρ p.2
noncomputable def HE (p : Bool × Sto) : Option (Bool × Sto) := some (!p.1, p.2)
theorem F7 : BU ta tb ρ S = (ta ρ S).bind (GU tb ρ) := rfl
theorem CB : GU tb ρ (true, S) = tb ρ S := rfl
theorem Cz : GU tb ρ (false, S) = some (false, S) := rfl
theorem EF : cOr ta tb ρ S = (ta ρ S).bind (kOr tb ρ) := rfl
theorem Cd : kOr tb ρ (true, S) = some (true, S) := rfl
theorem zR : kOr tb ρ (false, S) = tb ρ S := rfl
theorem Fj : p9 ta ρ S = (ta ρ S).bind HE := rfl
theorem Cg : HE (b, S) = some (!b, S) := rfl
noncomputable def Bn (cb : CE) (ρ : Rho) : U × Sto → Option (U × Sto)
 | (.bl true, S) => cb ρ S
 | (.bl false, S) => some (.bl false, S)
 | _ => none
noncomputable def GI (cb : CE) (ρ : Rho) : U × Sto → Option (U × Sto)
 | (.bl false, S) => cb ρ S
 | (.bl true, S) => some (.bl true, S)
 | _ => none
noncomputable def D4 : U × Sto → Option (U × Sto)
 | (.bl b, S) => some (.bl (!b), S)
 | _ => none
theorem Cy : mL ca cb ρ S = (ca ρ S).bind (Bn cb ρ) := by
 unfold mL; congr 1; funext p; obtain ⟨u, S⟩ := p; cases u with
 | bl b => cases b <;> rfl
 | _ => rfl
theorem z9 : Bn cb ρ (.bl true, S) = cb ρ S := rfl
theorem z8 : Bn cb ρ (.bl false, S) = some (.bl false, S) := rfl
theorem Fi : HN ca cb ρ S = (ca ρ S).bind (GI cb ρ) := by
 unfold HN; congr 1; funext p; obtain ⟨u, S⟩ := p; cases u with
 | bl b => cases b <;> rfl
 | _ => rfl
theorem Cc : GI cb ρ (.bl false, S) = cb ρ S := rfl
theorem Cb : GI cb ρ (.bl true, S) = some (.bl true, S) := rfl
theorem Ce : wM ca ρ S = (ca ρ S).bind D4 := by
 unfold wM; congr 1; funext p; obtain ⟨u, S⟩ := p; cases u <;> rfl
theorem zS : D4 (.bl b, S) = some (.bl (!b), S) := rfl
noncomputable def vK (u : U) (q : List U × Sto) : Option (List U × Sto) := some (u :: q.1, q.2)
noncomputable def zD (cr : CA) (ρ : Rho) (p : U × Sto) := (cr ρ p.2).bind (vK p.1)
theorem Fl : aq ρ S = some ([], S) := rfl
theorem eF : ab ca cr ρ S = (ca ρ S).bind (zD cr ρ) := rfl
theorem dI : zD cr ρ (u, S) = (cr ρ S).bind (vK u) := rfl
theorem jl : vK u (us, S) = some (u :: us, S) := rfl
noncomputable def HC (p : List U × Sto) : Option (U × Sto) := some (.tup p.1, p.2)
noncomputable def HF (p : List U × Sto) : Option (U × Sto) := some (.ref p.2.length, p.2 ++ [.lst p.1])
theorem sE : aN cr ρ S = (cr ρ S).bind HC := rfl
theorem oR : HC (us, S) = some (.tup us, S) := rfl
theorem nN : bE cr ρ S = (cr ρ S).bind HF := rfl
theorem qY : HF (us, S) = some (.ref S.length, S ++ [.lst us]) := rfl
noncomputable def kCB (f : Fn) (p : List U × Sto) := f p.1 p.2
theorem Cu {f : Fn} : cCB f cr ρ S = (cr ρ S).bind (kCB f) := rfl
theorem FW {f : Fn} : kCB f (us, S) = f us S := rfl
noncomputable def HG (T : Ty) (p : U × Sto) : Option (U × Sto) := (tyU p.1 p.2).bind fun t => some (.bl (o7 t T), p.2)
theorem ud {T : Ty} : pX T ca ρ S = (ca ρ S).bind (HG T) := rfl
theorem oV {T : Ty} : HG T (u, S) = (tyU u S).bind fun t => some (.bl (o7 t T), S) := rfl
noncomputable def D2 (c2 : CS) : Out × Rho × Sto → Option (Out × Rho × Sto)
 | (.nx, ρ, S) => c2 ρ S
 | (o, ρ, S) => some (o, ρ, S)
theorem B1 : bM ρ S = some (.nx, ρ, S) := rfl
theorem ua : aZ c1 c2 ρ S = (c1 ρ S).bind (D2 c2) := by
 unfold aZ; congr 1; funext p; obtain ⟨o, ρ, S⟩ := p; cases o <;> rfl
theorem yZ : D2 c2 (.nx, ρ, S) = c2 ρ S := rfl
theorem B6 : D2 c2 (.rt u, ρ, S) = some (.rt u, ρ, S) := rfl
theorem B5 : D2 c2 (.bk, ρ, S) = some (.bk, ρ, S) := rfl
theorem B4 : D2 c2 (.ct, ρ, S) = some (.ct, ρ, S) := rfl
noncomputable def D6 (ρ : Rho) (p : U × Sto) : Option (Out × Rho × Sto) := some (.nx, ρ, p.2)
noncomputable def GH (ρ : Rho) (p : U × Sto) : Option (Out × Rho × Sto) := some (.rt p.1, ρ, p.2)
theorem Cr : fC ca ρ S = (ca ρ S).bind (D6 ρ) := rfl
theorem z4 : D6 ρ (u, S) = some (.nx, ρ, S) := rfl
theorem sF : ed ca ρ S = (ca ρ S).bind (GH ρ) := rfl
theorem B7 : GH ρ (u, S) = some (.rt u, ρ, S) := rfl
noncomputable def GL (c1 c2 : CS) (ρ : Rho) (p : Bool × Sto) := if p.1 = true then c1 ρ p.2 else c2 ρ p.2
theorem xf : d9 t c1 c2 ρ S = (t ρ S).bind (GL c1 c2 ρ) := rfl
theorem uf : GL c1 c2 ρ (true, S) = c1 ρ S := rfl
theorem y8 : GL c1 c2 ρ (false, S) = c2 ρ S := rfl
noncomputable def kIf (ca cb : CE) (ρ : Rho) (p : Bool × Sto) := if p.1 = true then ca ρ p.2 else cb ρ p.2
theorem Ik : cIf t ca cb ρ S = (t ρ S).bind (kIf ca cb ρ) := rfl
theorem FG : kIf ca cb ρ (true, S) = ca ρ S := rfl
theorem FF : kIf ca cb ρ (false, S) = cb ρ S := rfl
noncomputable def zC (i : Nat) (ρ : Rho) (p : U × Sto) : Option (Out × Rho × Sto) := some (.nx, ρ.set i (some p.1), p.2)
theorem gR : bZ i ca ρ S = (ca ρ S).bind (zC i ρ) := rfl
theorem oS : zC i ρ (u, S) = some (.nx, ρ.set i (some u), S) := rfl
noncomputable def Bl (q : Rho × Sto) : Option (Out × Rho × Sto) := some (.nx, q.1, q.2)
noncomputable def HH (g : CG) (ρ : Rho) (p : U × Sto) := (g p.1 ρ p.2).bind Bl
theorem F5 {g : CG} : EB ca g ρ S = (ca ρ S).bind (HH g ρ) := rfl
theorem Cw {g : CG} : HH g ρ (u, S) = (g u ρ S).bind Bl := rfl
theorem Cv : Bl (ρ, S) = some (.nx, ρ, S) := rfl
theorem FI : gNm i u ρ S = some (ρ.set i (some u), S) := rfl
theorem FH {is : List Nat} : gTp is (.tup us) ρ S = (ic is us ρ).bind fun ρ' => some (ρ', S) := rfl
theorem CD : ic [] [] ρ = some ρ := rfl
theorem CC {is : List Nat} : ic (i :: is) (u :: us) ρ = ic is us (ρ.set i (some u)) := rfl
noncomputable def D3 (ρ : Rho) (S' : Sto) : Option (Out × Rho × Sto) := some (.nx, ρ, S')
noncomputable def GF (o v : U) (ρ : Rho) (r : U × Sto) := (mr o r.1 v r.2).bind (D3 ρ)
noncomputable def GG (ci : CE) (v : U) (ρ : Rho) (q : U × Sto) := (ci ρ q.2).bind (GF q.1 v ρ)
noncomputable def kSI (co ci : CE) (ρ : Rho) (p : U × Sto) := (co ρ p.2).bind (GG ci p.1 ρ)
theorem HQ : fJ ca cb cc ρ S = (cc ρ S).bind (kSI ca cb ρ) := rfl
theorem Fd : kSI ca cb ρ (u, S) = (ca ρ S).bind (GG cb u ρ) := rfl
theorem Fc : GG cb y ρ (u, S) = (cb ρ S).bind (GF u y ρ) := rfl
theorem Fb : GF x y ρ (u, S) = (mr x u y S).bind (D3 ρ) := rfl
theorem E9 : D3 ρ S = some (.nx, ρ, S) := rfl
noncomputable def kIx (y : U) (S : Sto) : Option O → Option (U × Sto)
 | some (.lst us) => (match y with
   | .int i => (atI us i).bind fun u => some (u, S)
   | _ => none)
 | some (.dic kus) => (kG y).bind fun k => (aX kus k).bind fun u => some (u, S)
 | some (.fdc _ kus) => (kG y).bind fun k => (aX kus k).bind fun u => some (u, S)
 | _ => none
theorem xc {j : Int} : fIx (.tup us) (.int j) S = (atI us j).bind fun u => some (u, S) := rfl
theorem sG : fIx (.ref l) y S = kIx y S S[l]? := by
 unfold fIx kIx; dsimp only <;> (generalize S[l]? = q; rcases q with _ | o <;> first | rfl | (cases o <;> rfl))
theorem sH {j : Int} : kIx (.int j) S (some (.lst us)) = (atI us j).bind fun u => some (u, S) := rfl
theorem Fz {ep : Nat} {kus : List (Key × U)} : kIx y S (some (.fdc ep kus)) = (kG y).bind fun k => (aX kus k).bind fun u => some (u, S) := rfl
theorem FA {kus : List (Key × U)} : kIx y S (some (.dic kus)) = (kG y).bind fun k => (aX kus k).bind fun u => some (u, S) := rfl
noncomputable def EO (l : Nat) (i v : U) (S : Sto) : Option O → Option Sto
 | some (.lst us) => (match i with
   | .int k => (ixN us.length k).bind fun j => some (S.set l (.lst (us.set j v)))
   | _ => none)
 | some (.dic kus) => (kG i).bind fun k => if kus.length < LIM then some (S.set l (.dic (iE kus k v))) else none
 | _ => none
theorem E7 : mr (.ref l) x y S = EO l x y S S[l]? := by
 unfold mr EO; dsimp only <;> (generalize S[l]? = q; rcases q with _ | o <;> first | rfl | (cases o <;> rfl))
theorem B2 {j : Int} : EO l (.int j) y S (some (.lst us)) = (ixN us.length j).bind fun j => some (S.set l (.lst (us.set j y))) := rfl
theorem B3 {kus : List (Key × U)} : EO l x y S (some (.dic kus)) = (kG x).bind fun k => if kus.length < LIM then some (S.set l (.dic (iE kus k y))) else none := rfl
theorem at0 {α : Type} {a : α} {r : List α} : atI (a :: r) 0 = some a := by show atI _ ((0 : Nat) : Int) = _; exact cS rfl
theorem at1 {α : Type} {a b : α} {r : List α} : atI (a :: b :: r) 1 = some b := by show atI _ ((1 : Nat) : Int) = _; exact cS rfl
theorem at2 {α : Type} {a b c : α} {r : List α} : atI (a :: b :: c :: r) 2 = some c := by show atI _ ((2 : Nat) : Int) = _; exact cS rfl
theorem at3 {α : Type} {a b c d : α} {r : List α} : atI (a :: b :: c :: d :: r) 3 = some d := by show atI _ ((3 : Nat) : Int) = _; exact cS rfl
theorem ix0 {n : Nat} : ixN (n + 1) 0 = some 0 := by simp [ixN]
theorem ix1 {n : Nat} : ixN (n + 1 + 1) 1 = some 1 := by simp [ixN]; omega
theorem ix2 {n : Nat} : ixN (n + 1 + 1 + 1) 2 = some 2 := by simp [ixN]; omega
noncomputable def EU (S : Sto) : Option O → Option (U × Sto)
 | some (.lst us) => some (.int us.length, S)
 | some (.dic us) => some (.int us.length, S)
 | _ => none
theorem y4 : jd [.ref l] S = EU S S[l]? := by
 unfold jd EU; dsimp only <;> (generalize S[l]? = q; rcases q with _ | o <;> first | rfl | (cases o <;> rfl))
theorem y6 : EU S (some (.lst us)) = some (.int us.length, S) := rfl
theorem Cn {kus : List (Key × U)} : EU S (some (.dic kus)) = some (.int kus.length, S) := rfl
theorem Cm : jd [.tup us] S = some (.int us.length, S) := rfl
variable {j k : Int}
theorem F8 : bD (.int j) (.int k) S = some (.int (j + k), S) := rfl
theorem EZ : tY (.int j) (.int k) S = some (.int (j - k), S) := rfl
theorem Ci (h : zQ j k) : mv (.int j) (.int k) S = some (.int (j * k), S) := by simp [mv, fI, h]
theorem z5 (h : tW j k) : yB (.int j) (.int k) S = some (.int (j / k), S) := by simp [yB, fI, h]
theorem qg (h : 0 < k) : mw (.int j) (.int k) S = some (.int (j % k), S) := by simp [mw, fI, h]
theorem B8 (h : BW j k) : yA (.int j) (.int k) S = some (.int (j ^ k.toNat), S) := by simp [yA, fI, h]
theorem Ih : fLt (.int j) (.int k) S = some (.bl (decide (j < k)), S) := rfl
theorem Fx : fLe (.int j) (.int k) S = some (.bl (decide (j ≤ k)), S) := rfl
theorem Il : fGt (.int j) (.int k) S = some (.bl (decide (k < j)), S) := rfl
theorem Im : fGe (.int j) (.int k) S = some (.bl (decide (k ≤ j)), S) := rfl
theorem zZ : fEq (.int j) (.int k) S = some (.bl (decide (j = k)), S) := rfl
theorem Fo : fNe (.int j) (.int k) S = some (.bl (!decide (j = k)), S) := rfl
theorem FL {a c : Str} : fEq (.str a) (.str c) S = some (.bl (decide (a = c)), S) := rfl
theorem Fm {a c : Str} : fNe (.str a) (.str c) S = some (.bl (!decide (a = c)), S) := rfl
theorem FN {a c : Bool} : fEq (.bl a) (.bl c) S = some (.bl (decide (a = c)), S) := rfl
theorem Fp {a c : Bool} : fNe (.bl a) (.bl c) S = some (.bl (!decide (a = c)), S) := rfl
noncomputable def kFn : Out × Rho × Sto → Option (U × Sto)
 | (.rt u, _, S) => some (u, S)
 | (.nx, _, S) => some (.non, S)
 | _ => none
theorem lq {n k : Nat} (h : us.length = k) : fnU n k c1 us S = (c1 (o9 n us) S).bind kFn := by
 unfold fnU; rw [if_pos h]; congr 1; funext p; obtain ⟨o, ρ, S⟩ := p; cases o <;> rfl
theorem FK : kFn (.rt u, ρ, S) = some (u, S) := rfl
theorem FJ : kFn (.nx, ρ, S) = some (.non, S) := rfl
end
section
variable {ρ : Rho} {S : Sto} {c1 c2 : CS} {t ta tb : CT} {ca cb cc : CE} {cr : CA} {u x y : U} {us : List U} {i l : Nat} {b : Bool} {c : Cl} {fus : List (Option U)} {g : Fn}
open Classical in
noncomputable def yr (c : Cl) (i : Nat) (S : Sto) : Option O → Option (U × Sto)
 | some (.ins c' fus) => if c' = c then (fus[i]?).join.bind fun u => some (u, S) else none
 | _ => none
noncomputable def oa (c : Cl) (i : Nat) (p : U × Sto) := Em c i p.1 p.2
theorem Cq : kJ c i ca ρ S = (ca ρ S).bind (oa c i) := rfl
theorem zb : oa c i (.ref l, S) = yr c i S S[l]? := by
 unfold oa Em yr; dsimp only <;> (generalize S[l]? = q; rcases q with _ | o <;> first | rfl | (cases o <;> rfl))
theorem za : yr c i S (some (.ins c fus)) = ((fus[i]?).join).bind fun u => some (u, S) := by
 unfold yr; dsimp only; rw [if_pos rfl]
open Classical in
noncomputable def ER (c : Cl) (i l : Nat) (v : U) (S : Sto) : Option O → Option Sto
 | some (.ins c' fus) => if c' = c then some (S.set l (.ins c (fus.set i (some v)))) else none
 | _ => none
noncomputable def ES (c : Cl) (i : Nat) (v : U) (ρ : Rho) (q : U × Sto) := (v8 c i q.1 v q.2).bind (D3 ρ)
noncomputable def HD (c : Cl) (i : Nat) (ca : CE) (ρ : Rho) (p : U × Sto) := (ca ρ p.2).bind (ES c i p.1 ρ)
theorem HR : qQ c i ca cb ρ S = (cb ρ S).bind (HD c i ca ρ) := rfl
theorem Fg : HD c i ca ρ (u, S) = (ca ρ S).bind (ES c i u ρ) := rfl
theorem Ff : ES c i u ρ (.ref l, S) = (ER c i l u S S[l]?).bind (D3 ρ) := by
 unfold ES v8 ER; dsimp only <;> (generalize S[l]? = q; rcases q with _ | o <;> first | rfl | (cases o <;> rfl))
theorem Fe : ER c i l u S (some (.ins c fus)) = some (S.set l (.ins c (fus.set i (some u)))) := by
 unfold ER; dsimp only; rw [if_pos rfl]
noncomputable def vJ (g : Fn) (l : Nat) (q : List U × Sto) := g (.ref l :: q.1) q.2
open Classical in
noncomputable def rN (c : Cl) (g : Fn) (cr : CA) (ρ : Rho) (l : Nat) (S : Sto) : Option O → Option (U × Sto)
 | some (.ins c' _) => if c' = c then (cr ρ S).bind (vJ g l) else none
 | _ => none
noncomputable def Bk (c : Cl) (g : Fn) (cr : CA) (ρ : Rho) (p : U × Sto) := wa c g p.1 p.2 (cr ρ)
theorem Cj : qR c g ca cr ρ S = (ca ρ S).bind (Bk c g cr ρ) := rfl
theorem zV : Bk c g cr ρ (.ref l, S) = rN c g cr ρ l S S[l]? := by
 unfold Bk wa rN; dsimp only <;> (generalize S[l]? = q; rcases q with _ | o <;> first | rfl | (cases o <;> rfl))
theorem zU : rN c g cr ρ l S (some (.ins c fus)) = (cr ρ S).bind (vJ g l) := by
 unfold rN; dsimp only; rw [if_pos rfl]
theorem zT : vJ g l (us, S) = g (.ref l :: us) S := rfl
noncomputable def D5 (n : Nat) : U × Sto → Option (U × Sto)
 | (.non, S) => some (.ref n, S)
 | _ => none
theorem Ck : tF c g us S = (g (.ref S.length :: us) (S ++ [.ins c (List.replicate c.ns.length none)])).bind (D5 S.length) := by
 unfold tF; congr 1; funext p; obtain ⟨u, S⟩ := p; cases u <;> rfl
theorem zW : D5 i (.non, S) = some (.ref i, S) := rfl
noncomputable def kIn (neg : Bool) (x : U) (S : Sto) : Option O → Option (U × Sto)
 | some (.lst us) => if i7 x = true ∧ us.all i7 = true then some (.bl (if neg then !inU x us else inU x us), S) else none
 | some (.dic kus) => (kG x).bind fun k => some (.bl (if neg then !(aX kus k).isSome else (aX kus k).isSome), S)
 | some (.fdc _ kus) => (kG x).bind fun k => some (.bl (if neg then !(aX kus k).isSome else (aX kus k).isSome), S)
 | _ => none
theorem FC {neg : Bool} : fIn neg x (.ref l) S = kIn neg x S S[l]? := by
 unfold fIn kIn; dsimp only <;> (generalize S[l]? = q; rcases q with _ | o <;> first | rfl | (cases o <;> rfl))
theorem FE {neg : Bool} {kus : List (Key × U)} : kIn neg x S (some (.dic kus)) = (kG x).bind fun k => some (.bl (if neg then !(aX kus k).isSome else (aX kus k).isSome), S) := rfl
theorem FD {neg : Bool} (h : i7 x = true ∧ us.all i7 = true) : kIn neg x S (some (.lst us)) = some (.bl (if neg then !inU x us else inU x us), S) := by
 unfold kIn; dsimp only; rw [if_pos h]
theorem Fy {j : Int} : kG (.int j) = some (.inl j) := rfl
theorem Co {z : Str} : kG (.str z) = some (.inr z) := rfl
noncomputable def GR (f : U → List U → Sto → Option (U × Sto)) (x : U) (q : List U × Sto) := f x q.1 q.2
noncomputable def GS (f : U → List U → Sto → Option (U × Sto)) (cr : CA) (ρ : Rho) (x : U) (S : Sto) : Option O → Option (U × Sto)
 | some (.lst _) => (cr ρ S).bind (GR f x)
 | _ => none
noncomputable def kBM (f : U → List U → Sto → Option (U × Sto)) (cr : CA) (ρ : Rho) : U × Sto → Option (U × Sto)
 | (.ref l, S) => GS f cr ρ (.ref l) S S[l]?
 | _ => none
variable {fm : U → List U → Sto → Option (U × Sto)}
theorem Ip : cBM fm ca cr ρ S = (ca ρ S).bind (kBM fm cr ρ) := by
 unfold cBM; congr 1; funext p; obtain ⟨u, S⟩ := p
 cases u <;> try rfl
theorem FZ : kBM fm cr ρ (.ref l, S) = GS fm cr ρ (.ref l) S S[l]? := rfl
theorem FY : GS fm cr ρ x S (some (.lst us)) = (cr ρ S).bind (GR fm x) := rfl
theorem FX : GR fm x (us, S) = fm x us S := rfl
noncomputable def Bm (l : Nat) (u : U) (S : Sto) : Option O → Option (U × Sto)
 | some (.lst us) => if us.length < LIM then some (.non, S.set l (.lst (us ++ [u]))) else none
 | _ => none
theorem F6 : dB (.ref l) [u] S = Bm l u S S[l]? := by
 unfold dB Bm; dsimp only <;> (generalize S[l]? = q; rcases q with _ | o <;> first | rfl | (cases o <;> rfl))
theorem ko (h : us.length < LIM) : Bm l u S (some (.lst us)) = some (.non, S.set l (.lst (us ++ [u]))) := by
 unfold Bm; dsimp only; rw [if_pos h]
noncomputable def GN (ku xu : U) (S : Sto) : Option O → Option (U × Sto)
 | some (.dic kus) => (kG ku).bind fun k => some ((aX kus k).getD xu, S)
 | _ => none
noncomputable def GO (l : Nat) (ku : U) (r : U × Sto) := GN ku r.1 r.2 r.2[l]?
noncomputable def GP (l : Nat) (cx : CE) (ρ : Rho) (q : U × Sto) := (cx ρ q.2).bind (GO l q.1)
noncomputable def GQ (l : Nat) (ck cx : CE) (ρ : Rho) (S : Sto) : Option O → Option (U × Sto)
 | some (.dic _) => (ck ρ S).bind (GP l cx ρ)
 | _ => none
noncomputable def kDG (ck cx : CE) (ρ : Rho) : U × Sto → Option (U × Sto)
 | (.ref l, S) => GQ l ck cx ρ S S[l]?
 | _ => none
theorem Io : qS ca cb cc ρ S = (ca ρ S).bind (kDG cb cc ρ) := by
 unfold qS; congr 1; funext p; obtain ⟨u, S⟩ := p
 cases u <;> try rfl
theorem FT : kDG cb cc ρ (.ref l, S) = GQ l cb cc ρ S S[l]? := rfl
theorem FR {kus : List (Key × U)} : GQ l cb cc ρ S (some (.dic kus)) = (cb ρ S).bind (GP l cc ρ) := rfl
theorem FQ : GP l cc ρ (u, S) = (cc ρ S).bind (GO l u) := rfl
theorem FP : GO l u (x, S) = GN u x S S[l]? := rfl
theorem FO {kus : List (Key × U)} : GN u x S (some (.dic kus)) = (kG u).bind fun k => some ((aX kus k).getD x, S) := rfl
theorem Cs : nq ρ S = some (.ref S.length, S ++ [.dic []]) := rfl
noncomputable def kP3 (k : Key) (u : U) (z : List (Key × U) × Sto) : Option (List (Key × U) × Sto) := some ((k, u) :: z.1, z.2)
noncomputable def kP2 (r : List (CE × CE)) (ρ : Rho) (x : U) (q : U × Sto) := (kG x).bind fun k => (lN r ρ q.2).bind (kP3 k q.1)
noncomputable def kP1 (cv : CE) (r : List (CE × CE)) (ρ : Rho) (p : U × Sto) := (cv ρ p.2).bind (kP2 r ρ p.1)
variable {pr : List (CE × CE)}
theorem HW : lN [] ρ S = some ([], S) := rfl
theorem x_p : lN ((ca, cb) :: pr) ρ S = (ca ρ S).bind (kP1 cb pr ρ) := rfl
theorem HV : kP1 cb pr ρ (u, S) = (cb ρ S).bind (kP2 pr ρ u) := rfl
theorem HU : kP2 pr ρ x (u, S) = (kG x).bind fun k => (lN pr ρ S).bind (kP3 k u) := rfl
theorem HS {k : Key} {z : List (Key × U)} : kP3 k u (z, S) = some ((k, u) :: z, S) := rfl
noncomputable def kD1 (n : Nat) (kus : List (Key × U)) (S : Sto) : Option O → Option (U × Sto)
 | some (.dic []) => some (.ref n, S.set n (.dic (vx kus)))
 | _ => none
noncomputable def kD (n : Nat) (q : List (Key × U) × Sto) := kD1 n q.1 q.2 q.2[n]?
theorem Ct : EA pr ρ S = (lN pr ρ (S ++ [.dic []])).bind (kD S.length) := by
 unfold EA; congr 1
theorem z7 {z : List (Key × U)} : kD i (z, S) = kD1 i z S S[i]? := rfl
theorem z6 {z : List (Key × U)} : kD1 i z S (some (.dic [])) = some (.ref i, S.set i (.dic (vx z))) := rfl
theorem BY : gK [.tup us] S = some (.tup us, S) := rfl
noncomputable def GD (S : Sto) : Option O → Option (U × Sto)
 | some (.lst us) => some (.tup us, S)
 | _ => none
theorem yY : gK [.ref l] S = GD S S[l]? := by
 unfold gK GD; dsimp only <;> (generalize S[l]? = q; rcases q with _ | o <;> first | rfl | (cases o <;> rfl))
theorem BZ : GD S (some (.lst us)) = some (.tup us, S) := rfl
theorem zX : j7 [.tup us] S = some (.ref S.length, S ++ [.lst us]) := rfl
noncomputable def kLs (S : Sto) : Option O → Option (U × Sto)
 | some (.lst us) => some (.ref S.length, S ++ [.lst us])
 | _ => none
theorem qh : j7 [.ref l] S = kLs S S[l]? := by
 unfold j7 kLs; dsimp only <;> (generalize S[l]? = q; rcases q with _ | o <;> first | rfl | (cases o <;> rfl))
theorem zY : kLs S (some (.lst us)) = some (.ref S.length, S ++ [.lst us]) := rfl
theorem Cp : II [.bl b] S = some (.int (if b then 1 else 0), S) := rfl
theorem ga {X : Sto} {n : Nat} : (S ++ X)[S.length + n]? = X[n]? := by rw [List.getElem?_append_right (Nat.le_add_right _ _), Nat.add_sub_cancel_left]
theorem ga0 {X : Sto} : (S ++ X)[S.length]? = X[0]? := ga (n := 0)
theorem gs {X : Sto} {n : Nat} {o : O} : (S ++ X).set (S.length + n) o = S ++ X.set n o := by rw [List.set_append_right _ _ (Nat.le_add_right _ _), Nat.add_sub_cancel_left]
theorem gs0 {X : Sto} {o : O} : (S ++ X).set S.length o = S ++ X.set 0 o := gs (n := 0)
section
variable {ok : Sto → Prop} {gg : CG} {cbd : CS} {ρ0 ρ1 : Rho} {S0 S1 : Sto}
theorem gU (h : ok S) : fP ok gg cbd [] ρ S = some (.nx, ρ, S) := by unfold fP; rw [if_pos h]
theorem jt (h : ok S) (hg : gg u ρ S = some (ρ0, S0)) (hb : cbd ρ0 S0 = some (.nx, ρ1, S1)) : fP ok gg cbd (u :: us) ρ S = fP ok gg cbd us ρ1 S1 := by
 rw [fP]; dsimp only; rw [if_pos h, hg, Option.bind_some]; dsimp only; rw [hb, Option.bind_some]
theorem n6 (h : ok S) (hg : gg u ρ S = some (ρ0, S0)) (hb : cbd ρ0 S0 = some (.rt x, ρ1, S1)) : fP ok gg cbd (u :: us) ρ S = some (.rt x, ρ1, S1) := by
 rw [fP]; dsimp only; rw [if_pos h, hg, Option.bind_some]; dsimp only; rw [hb, Option.bind_some]
theorem pR {ce : CE} {ys : List U} (h : ok S) (hg : gg u ρ S = some (ρ0, S0)) (he : ce ρ0 S0 = some (x, S1)) (hl : S1[l]? = some (.lst ys)) (hn : ys.length < LIM) : iC ok gg ce l (u :: us) ρ S = iC ok gg ce l us ρ0 (S1.set l (.lst (ys ++ [x]))) := by
 rw [iC, if_pos h, hg, Option.bind_some]; dsimp only; rw [he, Option.bind_some]; dsimp only; rw [hl]; dsimp only; rw [if_pos hn]
theorem sh {ce : CE} (h : ok S) : iC ok gg ce l [] ρ S = some S := by rw [iC, if_pos h]
end
end
theorem Bh {K : PySem.W.Frag} {H : Hp} {p xs : Addr} {c : CS} {r : Rho} {σ : L2.St} {v0 : Option V} {Q : VK} {nx bk ct : L2.St → Hp → Prop} (P : HP H p xs)
  (ok : ∀ (ns : List Int) (a b : Int), 0 ≤ a → 0 ≤ b → ∃ ρ' S', c (none :: some (.ref 1) :: r) [.lst (ns.map U.int), .lst [.ref 0, .int a, .int b]] = some (.rt (.bl true), ρ', S')) (q : ∀ H', Q (.bl true) H')
  (hr : r = List.replicate r.length none := by rfl) (hl : σ.length = r.length := by rfl) : tS K c { nx := nx, rt := Q, bk := bk, ct := ct } (v0 :: some (.ref p) :: σ) H := by
 obtain ⟨ns, a, b, h1, h2, h3, h4, h5⟩ := P
 obtain ⟨ρ', S', e⟩ := ok ns a b h4 h5
 refine ⟨[xs, p], _, _, _, ρ', S', ⟨rfl, by simp [h3], fun l ad o e1 e2 => ?_⟩, ⟨by simp [hl], fun i u e1 => ?_⟩, e, fun m' v H' _ _ iv => by rw [iv.of_bl]; exact q H'⟩
 ·match l, e1, e2 with
  | 0, e1, e2 =>
   simp at e1 e2
   subst e1; subst e2
   exact ⟨_, h2, rQ ns⟩
  | 1, e1, e2 =>
   simp at e1 e2
   subst e1; subst e2
   exact ⟨_, h1, .cons_ (.ref_ rfl) (.cons_ .int_ (.cons_ .int_ .nil_))⟩
  | l + 2, e1, e2 => simp at e1
 ·match i, e1 with
  | 0, e1 => simp at e1
  | 1, e1 =>
   simp at e1
   subst e1
   exact ⟨.ref p, rfl, .ref_ rfl⟩
  | i + 2, e1 =>
   simp at e1
   rw [hr, List.getElem?_replicate] at e1
   split at e1 <;> cases e1
theorem kR {p : List Value → Prop} (h : p []) (us : List Value) (e : us.length = 0) : p us := by rw [List.length_eq_zero_iff.mp e]; exact h
theorem eE {n : Nat} {p : List Value → Prop} (h : ∀ a us, us.length = n → p (a :: us)) (us : List Value) (e : us.length = n + 1) : p us := by
 cases us with
 | nil => cases e
 | cons a us => exact h a us (Nat.succ.inj e)
noncomputable def Hj (H : Hp) (a : Addr) (ep : Nat) (ks : List Key) : Prop := ∃ ob es kvs, H a = some (.frz ob (.dK kvs)) ∧ ob.data = .dict es ep ∧ kvs.map (·.1) = ks
noncomputable def Itd (a : Addr) (ep : Nat) (ks : List Key) : It :=
 ⟨fun i H => i < ks.length ∧ Hj H a ep ks, fun i H x H' => H' = H ∧ ∃ k, ks[i]? = some k ∧ x = kV k, fun i H => ks.length ≤ i ∧ Hj H a ep ks⟩
theorem zF {P : Program} {w : World} {H : Hp} {h : Heap} {a : Addr} {ob : Obj} {kvs : List (Key × V)} {es : Array DictEntry} {ep : Nat} (ok : HOk P w H h) (e : H a = some (.frz ob (.dK kvs))) (d : ob.data = .dict es ep) : ∃ vs, KV kvs vs ∧ h.DictAt (cD P w) a vs ep := by
 obtain ⟨e1, _, _, vs, r, o, es', ep', e2, e3, e4, rest⟩ := (show dM P w H h a (.frz ob (.dK kvs)) from ok a _ e)
 rw [e1] at e2; cases e2
 rw [d] at e4; cases e4
 exact ⟨vs, r, ob, es, e1, e3, d, rest⟩
theorem zB {κ : Type} : ∀ {kvs : List (κ × V)} {vs : List (κ × Value)} {i : Nat} {k : κ} {v : V}, KV kvs vs → kvs[i]? = some (k, v) → ∃ u, vs[i]? = some (k, u)
 | _, _, i, k, v, .nil, h => by simp at h
 | _, _, 0, k, v, .cons (b := (k', u)) r t, h => by
  simp at h; subst h
  have : k = k' := r.1
  subst this
  exact ⟨u, by simp⟩
 | _, _, i + 1, k, v, .cons r t, h => by
  obtain ⟨u, e⟩ := zB (i := i) t (by simpa using h)
  exact ⟨u, by simpa using e⟩
theorem Bi {k : Key} {u : Value} (h : qB k u = true) : dk (kV k) u := by
 rcases cE h with ⟨i, t, rfl, rfl⟩ | ⟨i, t, rfl, rfl⟩
 ·exact ⟨t, rfl⟩
 ·exact ⟨t, rfl⟩
theorem uH {P : Program} {w : World} {K : PySem.W.Frag} {tg : Expr} (a it : Addr) {ks : List Key} {ep : Nat} :
  BV P w K tg (Itd a ep ks) [it] it (fun n h => h.IsKeyIter it a n ks.length ep) where
 mem := by simp
 obj := fun n h st c hc => by
  simp only [List.mem_cons, List.not_mem_nil, or_false] at hc
  subst hc
  obtain ⟨o, e, _, q⟩ := st
  exact ⟨o, e, fun v z => by rw [q] at z; cases z⟩
 keep := fun n h h' st kp => Heap.IsKeyIter.at st fun o q => kp it (by simp) o q
 item := by
  intro X hP hw hK hc n pins s σ H E Iv hf st hg
  subst hP hw hK
  obtain ⟨hi, ob, es, kvs, hq, d, ek⟩ := hg
  obtain ⟨vs, rv, da⟩ := zF Iv.hok hq d
  have hl : ks.length = vs.length := by rw [← ek, List.length_map]; exact Paired.length rv
  have hi' : n < kvs.length := by rw [← ek, List.length_map] at hi; exact hi
  have hx : kvs[n]? = some ((kvs[n]).1, (kvs[n]).2) := List.getElem?_eq_getElem hi'
  obtain ⟨u, hu⟩ := zB rv hx
  obtain ⟨f0, f1, f2, f3⟩ := hf it (by simp)
  have st' : s.heap.IsKeyIter it a n vs.length ep := by rw [← hl]; exact st
  refine wpAny_pyNext_dict_item st' da hu fun key h1 hk st1 sb => ⟨key, rfl, ?_⟩
  have I1 : Inv X pins σ H { s with heap := h1 } := Iv.turned (t' := s.toks) (fun b o hb e => (sb.2 b hb).trans e) f0 f1 f3.1 f3.2.1 f3.2.2
  have st2 : h1.IsKeyIter it a (n + 1) ks.length ep := by rw [hl]; exact st1
  obtain ⟨o, e, c, q⟩ := id st2
  exact yy (s := { s with heap := h1 }) e c q (by decide) ⟨kV (kvs[n]).1, H, I1, Bi hk, ⟨rfl, _, by rw [← ek, List.getElem?_map, hx]; rfl, rfl⟩, st2, fun b hb => (hf b hb).1⟩
 done := by
  intro X hP hw hK hc n pins s σ H E Iv hf st hg
  subst hP hw hK
  obtain ⟨hi, ob, es, kvs, hq, d, ek⟩ := hg
  obtain ⟨vs, rv, da⟩ := zF Iv.hok hq d
  have hl : ks.length = vs.length := by rw [← ek, List.length_map]; exact Paired.length rv
  obtain ⟨f0, f1, f2, f3⟩ := hf it (by simp)
  have st' : s.heap.IsKeyIter it a n vs.length ep := by rw [← hl]; exact st
  exact wpAny_pyNext_dict_end (Iv.ok.hd hc) st' da (by rw [List.getElem?_eq_none_iff]; omega) fun h1 eb => ⟨rfl, Iv.turned (t' := s.toks) (fun b o hb e => eb b o hb e) f0 f1 f3.1 f3.2.1 f3.2.2⟩
 self := fun _ _ _ _ _ st h => wpAny_pyIter_keyiter st h
theorem rS {X : Cx} {pins : List (Addr × Obj)} {σ : L2.St} {H : Hp} {s : Shared} {a : Addr} {o u : HO} (I : Inv X pins σ H s) (e : H a = some o) (nt : ∀ xs, o ≠ .tup xs) (no : ∀ x, o ≠ .own x) (nb : ∀ ps, o ≠ .tbl ps)
  (nf : ∀ ob u, X.H₀ a ≠ some (.frz ob u)) (new : dM X.prog X.w (upd H a u) s.heap a u) : Inv X pins σ (upd H a u) s := by
 have nn : ∀ b, H b = none → upd H a u b = none := fun b q => by rw [bF (Ne.symm (dj e q))]; exact q
 have ho : ∀ b x, H b = some (.own x) → upd H a u b = some (.own x) := fun b x q => by
  rw [bF]; exact q
  intro z; subst z; rw [e] at q; cases q; exact no _ rfl
 have ht : ∀ b xs, H b = some (.tup xs) → upd H a u b = some (.tup xs) := fun b x q => by
  rw [bF]; exact q
  intro z; subst z; rw [e] at q; cases q; exact nt _ rfl
 refine ⟨I.ok, I.os, I.bare, ⟨I.base.keep, I.base.slot, fun b ob q1 q2 q3 => nn _ (I.base.free b ob q1 q2 q3), I.base.there, fun b xs q => ht _ _ (I.base.tups b xs q), fun b ob v q => ?_, fun b ps q => ?_⟩, I.loc, I.cell, nn _ I.free, fun x c q => nn _ (I.freeC x c q), fun p hp => ?_, fun b v q => ?_, I.len⟩
 ·rw [bF]; exact I.base.frzs b ob v q
  intro z; subst z; exact nf _ _ q
 ·obtain ⟨more, q'⟩ := I.base.tbls b ps q
  refine ⟨more, ?_⟩
  rw [bF]; exact q'
  intro z; subst z; rw [e] at q'; cases q'; exact nb _ rfl
 ·obtain ⟨p1, p2, p3⟩ := I.pin p hp
  exact ⟨p1, nn _ p2, p3⟩
 ·by_cases hb : b = a
  ·subst hb; rw [aK] at q; cases q; exact new
  ·rw [bF hb] at q
   exact (I.hok b v q).stay (fun _ _ _ g => g) (fun c g => ho c b g) fun c xs g => ht c xs g
noncomputable def EE (X : Cx) (a : Addr) : Prop := ∀ ob u, X.H₀ a ≠ some (.frz ob u)
noncomputable def Ei (X : Cx) (tl : TE) : TI := fun σ H R => tl σ H fun x H1 => ∃ a kvs, x = .ref a ∧ H1 a = some (.dK kvs) ∧ ∀ ob es ep, EE X a → ob.data = .dict es ep → R (Itd a ep (kvs.map (·.1))) (upd H1 a (.frz ob (.dK kvs)))
theorem Ap {X : Cx} {tg l : Expr} {tl : TE} (hl : WE X l tl) : WI X tg l (Ei X tl) := by
 constructor
 intro pins s σ H R I h
 refine thn (hl.h pins s σ H _ I h) fun v s1 hz => ?_
 obtain ⟨x, H1, I1, r1, q1⟩ := hz
 obtain ⟨a, kvs, rfl, hq, q⟩ := q1
 cases r1
 obtain ⟨hz, hs, vs, rv, ob, es, ep, e1, e2, e3, rest⟩ := Eu I1.hok hq
 have da : s1.heap.DictAt (cD X.prog X.w) a vs ep := ⟨ob, es, e1, e2, e3, rest⟩
 have hl : kvs.length = vs.length := Paired.length rv
 have nf : EE X a := fun ob' u' z => by have := I1.base.frzs a ob' u' z; rw [hq] at this; cases this
 have I2 : Inv X pins σ (upd H1 a (.frz ob (.dK kvs))) s1 := rS I1 hq (by simp) (by simp) (by simp) nf ⟨e1, hz, hs, vs, rv, ob, es, ep, e1, e2, e3, rest⟩
 refine wpAny_pyIter_dict hs da ?_
 refine ⟨s1.heap.objs.size, [s1.heap.objs.size], _, _, _, rfl, I2.kept (t' := s1.toks) fun b o g => Heap.get?_push_of_some _ g, uH a _, ⟨_, Heap.get?_push_size _ rfl, rfl, by rw [List.length_map, hl]; rfl⟩, fun b hb => ?_, q ob es ep nf e3⟩
 simp only [List.mem_cons, List.not_mem_nil, or_false] at hb
 subst hb
 exact I2.fpOk (Nat.le_refl _) (I2.hok.fresh (Nat.le_refl _))
theorem yu {X : Cx} {pins : List (Addr × Obj)} {σ : L2.St} {H : Hp} {s : Shared} {a : Addr} {ob : Obj} {kvs : List (Key × V)} (I : Inv X pins σ H s) (nf : EE X a) (e : H a = some (.frz ob (.dK kvs))) : Inv X pins σ (upd H a (.dK kvs)) s :=
 rS I e (by simp) (by simp) (by simp) nf (show dM X.prog X.w H s.heap a (.frz ob (.dK kvs)) from I.hok a _ e).2
noncomputable def kU : Key → U
 | .inl i => .int i
 | .inr x => .str x
theorem Ed {K : PySem.W.Frag} {m : List Addr} {H : Hp} (k : Key) : Is K m H (kV k) (kU k) := by
 cases k with
 | inl i => exact .int_
 | inr x => exact .str_
open Classical in
noncomputable def uni {α : Type} (F : Nat → Option α) : Option α := if h : ∃ r, ∀ n, F n = some r then some h.choose else none
theorem CP {α : Type} {F : Nat → Option α} {r : α} (h : ∀ n, F n = some r) : uni F = some r := by
 have hx : ∃ r, ∀ n, F n = some r := ⟨r, h⟩
 unfold uni
 rw [dif_pos hx]
 have := hx.choose_spec 0
 rw [h 0] at this
 exact this.symm
theorem xv {α : Type} {F : Nat → Option α} {r : α} (h : uni F = some r) (n : Nat) : F n = some r := by
 unfold uni at h
 split at h
 ·rename_i hx
  cases h
  exact hx.choose_spec n
 ·cases h
theorem Bp {K : PySem.W.Frag} {m : List Addr} {H : Hp} {a : Addr} {l ep : Nat} {kus : List (Key × U)} (ha : m[l]? = some a) : yW K (Itd a ep (kus.map (·.1))) m H (kus.map fun q => kU q.1) (fun S' => S'[l]? = some (.fdc ep kus)) := by
 intro m2 S2 H2 i e sr hok
 obtain ⟨a', ha', ob, es, kvs, hx, hd, ip⟩ := sr.get hok
 have ha2 := e.get ha
 rw [ha2] at ha'; cases ha'
 have hz : Hj H2 a ep (kus.map (·.1)) := ⟨ob, es, kvs, hx, hd, ip.1⟩
 refine ⟨fun u hu => ?_, fun hu => ⟨by simpa using hu, hz⟩⟩
 have hi : i < kus.length := by have := (List.getElem?_eq_some_iff.mp hu).1; simpa using this
 refine ⟨⟨by simpa using hi, hz⟩, ?_⟩
 rintro x H3 ⟨rfl, k, hk, rfl⟩
 refine ⟨.refl, sr, ?_⟩
 rw [List.getElem?_map] at hk hu
 rw [List.getElem?_eq_getElem hi] at hk hu
 cases hk; cases hu
 exact Ed _
end OP
namespace OG
open PySem PySem.Spec PyProof.Rows L2
noncomputable def qk (wi : TI) (g : TG) (tt : TT) (te : TE) (n : Nat) (caps : List Nat) : TE := fun σ H Q => wi σ H fun J H1 => ∀ l, H1 l = none → ∃ W : Nat → Nat → L2.St → Hp → Prop, (∃ m, W 0 m (stC n caps σ) (upd H1 l (.lst []))) ∧
 ∀ i m σ' H2, W i m σ' H2 → (J.stop i H2 ∧ Q (.ref l) H2) ∨ (J.go i H2 ∧ ∃ N : L2.St → Hp → Prop, (∀ σ'' H', N σ'' H' → ∃ m', m' < m ∧ W (i + 1) m' σ'' H') ∧
  ∀ x H3, J.yld i H2 x H3 → g x σ' H3 fun σ2 H4 => tt σ2 H4 fun b H5 => match b with
   | true => te σ2 H5 fun v H6 => ∃ ys, H6 l = some (.lst ys) ∧ ys.length < sizeLine ∧ N σ2 (upd H6 l (.lst (ys ++ [v])))
   | false => N σ2 H5)
theorem nk {prog : Program} {w : World} {A : Around} {R : Result → Shared → Prop} {s : Shared} {elt target iter c : Expr} {scope : Scope} {pos : Pos} {it acc : Value} {env : Env} (I : Nat → Shared → Prop)
  (turn : ∀ n s, I n s → wpAny (model prog w) A (pyNext it) (fun r s₁ => match r with
   | none => R (.ok .next) s₁
   | some v => wpAny (model prog w) A (letOwnedTupleGo target it v) (fun _ s₁' => wpAny (model prog w) A (assign target env v) (fun _ s₂ => wpAny (model prog w) A (PySem.isTrue c env (eval c env)) (fun b s₂' => match b with
    | true => wpAny (model prog w) A (eval elt env) (fun x s₃ =>
     wpAny (model prog w) A (call (.builtin "list.append") [acc, x]) (fun _ s₄ => ∃ m, m < n ∧ I m s₄) (fun _ _ => False) s₃)
     (fun _ _ => False) s₂'
    | false => ∃ m, m < n ∧ I m s₂') (fun _ _ => False) s₂) (fun _ _ => False) s₁') (fun _ _ => False) s₁) (fun _ _ => False) s)
  (n : Nat) (h : I n s) :
  codeAny (model prog w) A (.compLoop (.ListComp elt [⟨target, iter, [c], 0⟩] scope pos) 0 it acc env) R s := by
 refine codeAny_loop rfl I (fun n s hI => ?_) n h
 show wpAny _ _ ((compTurn (.ListComp elt [⟨target, iter, [c], 0⟩] scope pos) 0 it acc env).onRaise (fun x => do noteFrame x env; theTreesLotGoes x)) _ _ s
 refine wpAny_noted ?_
 rw [compTurn_list]
 refine wpAny_bind (wpAny_standAt (wpAny_bind (wpAny_mono (turn n s hI) (fun r s₁ h₁ => ?_) fun _ _ h' => h'.elim)))
 cases r with
 | none => exact wpAny_pure h₁
 | some v =>
  refine wpAny_bind (wpAny_mono h₁ (fun _ s₁' h₁' => ?_) fun _ _ h' => h'.elim)
  refine wpAny_bind (wpAny_mono h₁' (fun _ s₂ h₂ => ?_) fun _ _ h' => h'.elim)
  dsimp only
  simp only [List.forIn_cons, List.forIn_nil, if_true, bind_assoc, pure_bind]
  refine wpAny_bind (wpAny_mono h₂ (fun b s₂' h₂' => ?_) fun _ _ h' => h'.elim)
  cases b with
  | true =>
   rw [if_pos rfl]
   exact wpAny_bind (wpAny_mono h₂' (fun x s₃ h₃ => wpAny_bind (wpAny_mono h₃
    (fun _ s₄ h₄ => wpAny_pure ⟨rfl, h₄⟩) fun _ _ h' => h'.elim)) fun _ _ h' => h'.elim)
  | false =>
   rw [if_neg Bool.false_ne_true]
   exact wpAny_pure ⟨rfl, h₂'⟩
theorem tN {X : Cx} {Nc capN tn : List Str} {scope : Scope} {cl : List (Str × Addr)} {n : Nat} {caps : List Nat} {tg iter elt : Expr} {pos : Pos} {wi : TI} {g : TG} {te : TE} {tt : TT} {c : Expr}
  (hc : X.calm = true) (hi : WI X tg iter wi) (hg : ∀ s3 H3 fp, WG (cxC X Nc scope cl s3 H3 fp) tg g) (he : ∀ s3 H3 fp, WE (cxC X Nc scope cl s3 H3 fp) elt te)
  (ht : ∀ s3 H3 fp, WT (cxC X Nc scope cl s3 H3 fp) c tt)
  (hclos : closureFor scope X.env = pure cl) (hkind : scope.kind = .function) (hnl : ∀ x ∈ scope.names, x.2 = .local → scope.names.lookup x.1 = some .local) (hcell : ∀ x ∈ scope.names, x.2 ≠ .cell)
  (hcl : sD X.env cl) (hhas : ((relabel scope X.env).names.all fun p => !(p.2 == .cell || p.2 == .free) || (cl.lookup p.1).isSome) = true)
  (hcap : Paired (Cap X scope cl) caps capN) (hN : Nc = tn ++ capN) (hn : tn.length = n)
  {use : Option (Value → Sem Unit)} {pins : List (Addr × Obj)} {σ : L2.St} {H : Hp} {s : Shared} {Q : VK} {Qf : Value → Shared → Prop} (I : Inv X pins σ H s) (h : qk wi g tt te n caps σ H Q)
  (hend : ∀ (D C : Addr) (s6 : Shared) (H5 : Hp) (m : Str → Option Value), Inv X pins σ H5 s6 → s6.heap.Ns C m → H5 C = none → C ≠ X.env.locals → X.s₀.heap.objs.size ≤ C → (∀ x c, X.env.cells.lookup x = some c → c ≠ C) → (∀ p ∈ X.pn ++ pins, p.1 ≠ C) → Q (.ref D) H5 → compPost (model X.prog X.w) X.A X.xe use Qf (.ref D) C (.ok .next) s6)
  (hs : ∀ x, foldedSetIterable iter X.env x = pure x) :
  wpAny (model X.prog X.w) X.A (comprehension (.ListComp elt [⟨tg, iter, [c], 0⟩] scope pos) scope X.env (firstIterPos [⟨tg, iter, [c], 0⟩] pos) (newList []) (firstAsync [⟨tg, iter, [c], 0⟩]) (firstIter [⟨tg, iter, [c], 0⟩] X.env) use) Qf X.xe s := by
 refine wpAny_comprehension_free (use := use) (g := ⟨tg, iter, [c], 0⟩) (gs := []) rfl hs hclos hkind hnl (thn (hi.h pins s σ H _ I h) fun v s1 h1 => thn h1 fun itv s2 h2 => ?_)
 obtain ⟨it, fp, tnn, J, H2, rfl, I2, T, st2, f2, hW⟩ := h2
 have hD := I2.fresh
 obtain ⟨W, ⟨m0, w0⟩, turn⟩ := hW _ hD
 refine wpAny_newObj_type (wpAny_newFunctionEnv hcell (by intro y hy; simp at hy) (fun h₁ hns₁ hsb₁ => ?_) hkind)
 dsimp only at hns₁ hsb₁ ⊢
 have I3 : Inv X pins σ (upd H2 s2.heap.objs.size (.lst [])) { s2 with heap := s2.heap.push { cls := .type "list", dict := none, data := .seq ([] : List Value).toArray }, toks := s2.toks } := I2.lnew (its := []) .nil (Nat.zero_le _)
 generalize hs3 : ({ s2 with heap := s2.heap.push { cls := .type "list", dict := none, data := .seq ([] : List Value).toArray }, toks := s2.toks } : Shared) = s3 at I3
 have es3 : s3.heap = s2.heap.push { cls := .type "list", dict := none, data := .seq ([] : List Value).toArray } := by rw [← hs3]
 generalize hDD : s2.heap.objs.size = D at *
 have kept : ∀ b o, s3.heap.get? b = some o → h₁.get? b = some o := fun b o e => by
  have lt := Heap.lt_size e
  rw [es3] at lt e
  exact hsb₁.extBut b o (Nat.ne_of_lt lt) (Heap.get?_push_of_some _ e)
 have old : ∀ b o, s2.heap.get? b = some o → s3.heap.get? b = some o := fun b o e => by rw [es3]; exact Heap.get?_push_of_some _ e
 have ltD : ∀ b ∈ fp, b < D := fun b hb => by
  obtain ⟨o, e, _⟩ := T.obj 0 _ st2 b hb
  rw [← hDD]; exact Heap.lt_size e
 have fo : ∀ b ∈ fp, b < s3.heap.objs.size := fun b hb => by
  obtain ⟨o, e, _⟩ := T.obj 0 _ st2 b hb
  exact Heap.lt_size (old _ _ e)
 have f3 : ∀ b ∈ fp, t7 X pins (upd H2 D (.lst [])) b := fun b hb => by
  refine ⟨?_, (f2 b hb).2⟩
  rw [bF (Nat.ne_of_lt (ltD b hb))]
  exact (f2 b hb).1
 rw [← es3] at hns₁ hsb₁ ⊢
 have Ic := fun t' => Inv.comp (h1 := h₁) (t' := t') (Nc := Nc) (n := n) I3 hc f3 fo hkind hcl hhas hcap tn hN hn hns₁ kept
 have stat : ∀ {H' : Hp}, (∀ b ∈ fp, H' b = none) → ∀ b ∈ fp, t7 (cxC X Nc scope cl s3 (upd H2 D (.lst [])) fp) [] H' b := fun hn' b hb => by
  refine ⟨hn' b hb, Nat.ne_of_lt (fo b hb), fun z => ?_, .inl hb, fun x c e => (f2 b hb).2.2.2.2.1 x c (hcl.look e), fun p hp => (by simp at hp)⟩
  rcases List.mem_cons.mp (I3.stkSub b z) with q | q
  ·exact (f2 b hb).2.1 q
  ·exact (f2 b hb).2.2.1 q
 have loop : ∀ s4 : Shared, (∃ t', s4 = { s3 with heap := h₁, toks := t' }) → codeAny (model X.prog X.w) X.A (.compLoop (.ListComp elt [⟨tg, iter, [c], 0⟩] scope pos) 0 (.ref it) (.ref D) (compEnvC scope cl s3.heap.objs.size X.env))
   (compPost (model X.prog X.w) X.A X.xe use Qf (.ref D) s3.heap.objs.size) s4 := by
  rintro s4 ⟨t', rfl⟩
  refine nk (fun n' s' => ∃ i σ' H', Inv (cxC X Nc scope cl s3 (upd H2 D (.lst [])) fp) [] σ' H' s' ∧ tnn i s'.heap ∧ (∀ b ∈ fp, H' b = none) ∧ W i n' σ' H') ?_ m0
   ⟨0, _, _, Ic t', T.keep 0 _ _ st2 fun b hb o e => kept _ _ (old _ _ e), fun b hb => (f3 b hb).1, w0⟩
  rintro n' s5 ⟨i, σ5, H5, I5, st5, fr5, w5⟩
  rcases turn i n' σ5 H5 w5 with ⟨stop, qn⟩ | ⟨go, N, hN', step⟩
  ·refine thn (T.done (cxC X Nc scope cl s3 (upd H2 D (.lst [])) fp) rfl rfl rfl hc i [] s5 σ5 H5 (fun _ _ => False) I5 (stat fr5) st5 stop) fun r s6 ⟨hr, I6⟩ => ?_
   subst hr
   obtain ⟨m, hm, _⟩ := I6.loc
   have I7 : Inv X pins σ H5 s6 := Inv.call' (ch := fp) I3 I6.os I6.base I6.hok I6.bare fun b hb => ⟨(f2 b hb).2.2.2.1, (f2 b hb).2.1, (f2 b hb).2.2.2.2.1, (f2 b hb).2.2.2.2.2⟩
   exact hend D _ s6 H5 m I7 hm I6.free (Ne.symm (Nat.ne_of_lt I3.lt)) I3.sz (fun x c e => by
     obtain ⟨v', o, ho, _⟩ := I3.cell x c e
     exact Nat.ne_of_lt (Heap.lt_size ho)) (fun p hp => Nat.ne_of_lt (Heap.lt_size (I3.pin p hp).1)) qn
  ·refine thn (T.item (cxC X Nc scope cl s3 (upd H2 D (.lst [])) fp) rfl rfl rfl hc i [] s5 σ5 H5 (fun _ _ => False) I5 (stat fr5) st5 go) fun r s6 ⟨u, hr, h6⟩ => ?_
   subst hr
   refine thn h6 fun _ s7 hz => ?_
   obtain ⟨x, H7, I7, r7, y7, st7, fr7⟩ := hz
   have I7' := I7.pinned (stat fr7) (T.obj _ _ st7)
   refine thn ((hg s3 (upd H2 D (.lst [])) fp).h _ s7 σ5 H7 x u _ I7' r7 (step x H7 y7)) fun _ s8 hz => ?_
   obtain ⟨σ8, H8, I8, q8⟩ := hz
   have fin : ∀ {s10 : Shared} {H10 : Hp}, Inv (cxC X Nc scope cl s3 (upd H2 D (.lst [])) fp) _ σ8 H10 s10 → N σ8 H10 → ∃ m', m' < n' ∧ ∃ i' σ' H', Inv (cxC X Nc scope cl s3 (upd H2 D (.lst [])) fp) [] σ' H' s10 ∧ tnn i' s10.heap ∧ (∀ b ∈ fp, H' b = none) ∧ W i' m' σ' H' := fun {s10 H10} I10 q10 => by
    obtain ⟨m', hm, w10⟩ := hN' σ8 H10 q10
    refine ⟨m', hm, i + 1, σ8, H10, Inv.unpinned I10, T.keep _ _ _ st7 fun b hb o e => (Inv.pin I10 (b, o) (List.mem_append_right _ (List.mem_append_right _ (fD hb e)))).1, fun b hb => ?_, w10⟩
    obtain ⟨o, e, d⟩ := T.obj _ _ st7 b hb
    exact (Inv.pin I10 (b, o) (List.mem_append_right _ (List.mem_append_right _ (fD hb e)))).2.1
   refine thn ((ht s3 (upd H2 D (.lst [])) fp).h _ s8 σ8 H8 _ I8 q8) fun b9 s9' h9 => ?_
   obtain ⟨H9', I9', q9'⟩ := h9
   cases b9 with
   | false => exact fin I9' q9'
   | true =>
    refine thn ((he s3 (upd H2 D (.lst [])) fp).h _ s9' σ8 H9' _ I9' q9') fun v9 s9 hz => ?_
    obtain ⟨x9, H9, I9, r9, ys, hy, hlt, q9⟩ := hz
    exact thn (lT (X := cxC X Nc scope cl s3 (upd H2 D (.lst [])) fp) _ s9 σ8 H9 (.ref D) [x9] (.ref D) [v9] (fun _ H' => N σ8 H') I9 rfl (.cons r9 .nil) ⟨D, ys, x9, rfl, rfl, hy, hlt, q9⟩) fun _ s10 ⟨_, H10, I10, _, q10⟩ => fin I10 q10
 have e4 : ∀ t', ({ s2 with heap := h₁, toks := t' } : Shared) = { s3 with heap := h₁, toks := t' } := fun t' => by rw [← hs3]
 refine codeAny_compStart_list (loop _ ⟨_, e4 _⟩) (T.self _ 0 _ _ _ (T.keep 0 _ _ st2 fun b hb o e => kept _ _ (old _ _ e)) (loop _ ⟨_, e4 _⟩))
theorem nr {X : Cx} {Nc capN tn : List Str} {scope : Scope} {cl : List (Str × Addr)} {n : Nat} {caps : List Nat} {tg iter elt : Expr} {pos : Pos} {wi : TI} {g : TG} {te : TE} {tt : TT} {c : Expr}
  (hc : X.calm = true) (hi : WI X tg iter wi) (hg : ∀ s3 H3 fp, WG (cxC X Nc scope cl s3 H3 fp) tg g) (he : ∀ s3 H3 fp, WE (cxC X Nc scope cl s3 H3 fp) elt te)
  (ht : ∀ s3 H3 fp, WT (cxC X Nc scope cl s3 H3 fp) c tt)
  (hclos : closureFor scope X.env = pure cl) (hkind : scope.kind = .function) (hnl : ∀ x ∈ scope.names, x.2 = .local → scope.names.lookup x.1 = some .local) (hcell : ∀ x ∈ scope.names, x.2 ≠ .cell)
  (hcl : sD X.env cl) (hhas : ((relabel scope X.env).names.all fun p => !(p.2 == .cell || p.2 == .free) || (cl.lookup p.1).isSome) = true)
  (hcap : Paired (Cap X scope cl) caps capN) (hN : Nc = tn ++ capN) (hn : tn.length = n)
  (hs : ∀ x, foldedSetIterable iter X.env x = pure x := by intro _; rfl) :
  WE X (.ListComp elt [⟨tg, iter, [c], 0⟩] scope pos) (qk wi g tt te n caps) := by
 constructor
 intro pins s σ H Q I h
 rw [eval_ListComp]
 refine tN hc hi hg he ht hclos hkind hnl hcell hcl hhas hcap hN hn I h (fun D C s6 H5 m I7 hm fr nl sz cn pn qn => ⟨m, hm, fun h' hs' => ?_⟩) hs
 exact ⟨.ref D, H5, I7.turned (t' := s6.toks) (it := C) (fun b o hb e => hs'.extBut b o hb e) fr nl (.inr sz) cn pn, rfl, qn⟩
end OG
namespace OP
open PySem PySem.Spec PyProof.Rows L2 OG
open Classical in
noncomputable def cH (ok : Sto → Prop) (g : CG) (ct : CT) (ce : CE) (l : Nat) : List U → Rho → Sto → Option Sto
 | [], _, S => if ok S then some S else none
 | u :: us, ρ, S => if ok S then (g u ρ S).bind fun p => (ct p.1 p.2).bind fun q => if q.1 = true then (ce p.1 q.2).bind fun r => match r.2[l]? with
  | some (.lst ys) => if ys.length < LIM then cH ok g ct ce l us p.1 (r.2.set l (.lst (ys ++ [r.1]))) else none
  | _ => none else cH ok g ct ce l us p.1 q.2 else none
noncomputable def g5 (ci : CI) (g : CG) (ct : CT) (ce : CE) (n : Nat) (caps : List Nat) : CE := fun ρ S => (ci ρ S).bind fun p => (cH p.2.1 g ct ce p.2.2.length p.1 (qm n caps ρ) (p.2.2 ++ [.lst []])).bind fun S' => some (.ref p.2.2.length, S')
section
variable {X : Cx} {K : PySem.W.Frag}
theorem mJ {g : CG} {ct : CT} {ce : CE} {n : Nat} {caps : List Nat} {J : It} {us : List U} {ok : Sto → Prop} {Q : VK} {m1 : List Addr} {H1 : Hp} {S1 S' : Sto} {ρ : Rho} {σ : L2.St} {l : Addr} (sr1 : Sr K m1 S1 H1) (lr : Lr K m1 H1 ρ σ) (ito : yW K J m1 H1 us ok) (hl : H1 l = none) (h2 : cH ok g ct ce S1.length us (qm n caps ρ) (S1 ++ [.lst []]) = some S')
  (post : ∀ m2 H2, Ext K (m1 ++ [l]) (upd H1 l (.lst [])) m2 H2 → Sr K m2 S' H2 → Q (.ref l) H2) :
  ∃ W : Nat → Nat → L2.St → Hp → Prop, (∃ m, W 0 m (OG.stC n caps σ) (upd H1 l (.lst []))) ∧
 ∀ i m σ' H2, W i m σ' H2 → (J.stop i H2 ∧ Q (.ref l) H2) ∨ (J.go i H2 ∧ ∃ N : L2.St → Hp → Prop, (∀ σ'' H', N σ'' H' → ∃ m', m' < m ∧ W (i + 1) m' σ'' H') ∧
  ∀ x H3, J.yld i H2 x H3 → tG K g x σ' H3 fun σ2 H4 => tT K ct σ2 H4 fun b H5 => match b with
   | true => tE K ce σ2 H5 fun v H6 => ∃ ys, H6 l = some (.lst ys) ∧ ys.length < sizeLine ∧ N σ2 (upd H6 l (.lst (ys ++ [v])))
   | false => N σ2 H5) := by
 have ee : Ext K m1 H1 (m1 ++ [l]) (upd H1 l (.lst [])) := .new (b8 hl _)
 let W : Nat → Nat → L2.St → Hp → Prop := fun i k σ2 H2 => k = us.length - i ∧ i ≤ us.length ∧ ∃ m2 ρ2 S2, Ext K (m1 ++ [l]) (upd H1 l (.lst [])) m2 H2 ∧ Sr K m2 S2 H2 ∧ Lr K m2 H2 ρ2 σ2 ∧ cH ok g ct ce S1.length (us.drop i) ρ2 S2 = some S'
 refine ⟨W, ⟨us.length, by simp, Nat.zero_le _, m1 ++ [l], qm n caps ρ, S1 ++ [.lst []], .refl, sr1.new (o := .lst []) hl ⟨[], aK, .nil_⟩, vy (lr.mono ee), by simpa using h2⟩, ?_⟩
 rintro i k σ2 H2 ⟨rfl, hi, m2, ρ2, S2, e2, sr2, lr2, hl2⟩
 by_cases hlt : i < us.length
 ·have hu := List.getElem?_eq_getElem hlt
  rw [mG hu] at hl2
  unfold cH at hl2
  split at hl2
  ·rename_i hok
   obtain ⟨⟨ρ3, S3⟩, h3, hl2⟩ := Option.bind_eq_some_iff.mp hl2
   obtain ⟨⟨b4, S4⟩, h4, hl2⟩ := Option.bind_eq_some_iff.mp hl2
   obtain ⟨hgo, hy⟩ := (ito m2 S2 H2 i (ee.trans e2) sr2 hok).1 _ hu
   refine .inr ⟨hgo, W (i + 1) (us.length - (i + 1)), fun σ' H' w' => ⟨_, by omega, w'⟩, fun x H3 y => ?_⟩
   obtain ⟨e3, sr3, ix⟩ := hy x H3 y
   refine ⟨m2, ρ2, S2, _, ρ3, S3, sr3, lr2.mono e3, ix, h3, fun m4 σ4 H4 e4 sr4 lr4 => ⟨m4, ρ3, S3, b4, S4, sr4, lr4, h4, fun m4' H4' e4' sr4' => ?_⟩⟩
   cases b4 with
   | false =>
    rw [if_neg Bool.false_ne_true] at hl2
    exact ⟨rfl, hlt, m4', ρ3, _, (((e2.trans e3).trans e4).trans e4'), sr4', lr4.mono e4', hl2⟩
   | true =>
    rw [if_pos rfl] at hl2
    obtain ⟨⟨u5, S5⟩, h5, hl2⟩ := Option.bind_eq_some_iff.mp hl2
    simp only at hl2
    split at hl2 <;> try cases hl2
    rename_i ys hys
    split at hl2 <;> try cases hl2
    rename_i gW
    refine ⟨m4', ρ3, S4, u5, S5, sr4', lr4.mono e4', h5, fun m5 v5 H5 e5 sr5 i5 => ?_⟩
    obtain ⟨a', ha', xs, hx, il⟩ := sr5.get hys
    have ha : m5[S1.length]? = some l := ((((e2.trans e3).trans e4).trans e4').trans e5).get (eU sr1.len)
    rw [ha] at ha'; cases ha'
    have eu : Ext K m5 H5 m5 (upd H5 l (.lst (xs ++ [v5]))) := .of (sr5.keep ha _)
    exact ⟨xs, hx, BS (by rw [il.length]; exact gW), rfl, hlt, m5, ρ3, _, (((((e2.trans e3).trans e4).trans e4').trans e5).trans eu), sr5.put (o := .lst (ys ++ [u5])) ha ⟨_, aK, (il.append (.cons_ i5 .nil_)).mono eu⟩, (lr4.mono ((e4'.trans e5).trans eu)), hl2⟩
  ·cases hl2
 ·have e : i = us.length := by omega
  subst e
  rw [List.drop_length] at hl2
  unfold cH at hl2
  split at hl2
  ·rename_i hok
   cases hl2
   exact .inl ⟨(ito m2 _ H2 _ (ee.trans e2) sr2 hok).2 (Nat.le_refl _), post m2 H2 e2 sr2⟩
  ·cases hl2
theorem tM {ci : CI} {g : CG} {ct : CT} {ce : CE} {n : Nat} {caps : List Nat} : ∀ σ H Q, tE K (g5 ci g ct ce n caps) σ H Q → qk (tI K ci) (tG K g) (tT K ct) (tE K ce) n caps σ H Q := by
 rintro σ H Q ⟨m, ρ, S, u, S', sr, lr, hc, post⟩
 obtain ⟨⟨us, ok, S1⟩, h1, h2⟩ := Option.bind_eq_some_iff.mp hc
 obtain ⟨S2, h2, h3⟩ := Option.bind_eq_some_iff.mp h2
 cases h3
 refine ⟨m, ρ, S, us, ok, S1, sr, lr, h1, fun m1 H1 J e1 sr1 ito l hl => ?_⟩
 have ee : Ext K m1 H1 (m1 ++ [l]) (upd H1 l (.lst [])) := .new (b8 hl _)
 exact mJ sr1 (lr.mono e1) ito hl h2 fun m2 H2 e2 sr2 => post m2 _ H2 ((e1.trans ee).trans e2) sr2 (.ref_ (e2.get (eU sr1.len)))
theorem rq {Nc capN tn : List Str} {scope : Scope} {cl : List (Str × Addr)} {n : Nat} {caps : List Nat} {tg iter elt : Expr} {pos : Pos} {ci : CI} {g : CG} {ct : CT} {ce : CE} {c : Expr}
  (hc : X.calm = true) (hi : QI X tg iter ci) (hg : ∀ s3 H3 fp, WG (cxC X Nc scope cl s3 H3 fp) tg (tG X.K g)) (ht : ∀ s3 H3 fp, WT (cxC X Nc scope cl s3 H3 fp) c (tT X.K ct)) (he : ∀ s3 H3 fp, WE (cxC X Nc scope cl s3 H3 fp) elt (tE X.K ce))
  (hclos : closureFor scope X.env = pure cl) (hkind : scope.kind = .function) (hnl : ∀ x ∈ scope.names, x.2 = .local → scope.names.lookup x.1 = some .local) (hcell : ∀ x ∈ scope.names, x.2 ≠ .cell)
  (hcl : sD X.env cl) (hhas : ((relabel scope X.env).names.all fun p => !(p.2 == .cell || p.2 == .free) || (cl.lookup p.1).isSome) = true)
  (hcap : Paired (Cap X scope cl) caps capN) (hN : Nc = tn ++ capN) (hn : tn.length = n)
  (hs : ∀ x, foldedSetIterable iter X.env x = pure x := by intro _; rfl) :
  QE X (.ListComp elt [⟨tg, iter, [c], 0⟩] scope pos) (g5 ci g ct ce n caps) := (nr hc hi hg he ht hclos hkind hnl hcell hcl hhas hcap hN hn hs).imp tM
end
end OP
namespace OP
open PySem PySem.Spec PyProof PyProof.Rows L2 OG
mutual
inductive RdV (K : PySem.W.Frag) (H : Hp) : V → PyData → Prop
 | non : RdV K H .non .none
 | bl (b : Bool) : RdV K H (.bl b) (.bool b)
 | int (i : Int) : RdV K H (.int i) (.int i)
 | str (x : Str) : RdV K H (.str x) (.str x)
 | lst {a : Addr} {xs : List V} {ds : List PyData} : SqL K H a xs → wX K H xs ds → RdV K H (.ref a) (.list ds)
 | tup {a : Addr} {xs : List V} {ds : List PyData} : SqT K H a xs → wX K H xs ds → RdV K H (.ref a) (.tuple ds)
inductive wX (K : PySem.W.Frag) (H : Hp) : List V → List PyData → Prop
 | nil : wX K H [] []
 | cons {x : V} {xs : List V} {d : PyData} {ds : List PyData} : RdV K H x d → wX K H xs ds → wX K H (x :: xs) (d :: ds)
end
mutual
inductive Dt (S : Sto) : U → PyData → Prop
 | non : Dt S .non .none
 | bl (b : Bool) : Dt S (.bl b) (.bool b)
 | int (i : Int) : Dt S (.int i) (.int i)
 | str (x : Str) : Dt S (.str x) (.str x)
 | lst {l : Nat} {us : List U} {ds : List PyData} : S[l]? = some (.lst us) → DtL S us ds → Dt S (.ref l) (.list ds)
 | tup {us : List U} {ds : List PyData} : DtL S us ds → Dt S (.tup us) (.tuple ds)
inductive DtL (S : Sto) : List U → List PyData → Prop
 | nil : DtL S [] []
 | cons {x : U} {xs : List U} {d : PyData} {ds : List PyData} : Dt S x d → DtL S xs ds → DtL S (x :: xs) (d :: ds)
end
section
variable {X : Cx} {K : PySem.W.Frag} {pins : List (Addr × Obj)} {σ : L2.St} {H : Hp} {s : Shared}
mutual
theorem RdV.reads (I : Inv X pins σ H s) : ∀ {x : V} {d : PyData} {v : Value}, RdV X.K H x d → dk x v → ∃ as, Reads s.heap v d as
 | _, _, _, .non, r => by cases r; exact ⟨_, .none⟩
 | _, _, _, .bl b, r => by cases r; exact ⟨_, .bool b⟩
 | _, _, _, .int i, r => by obtain ⟨t, rfl⟩ := r; exact ⟨_, .int i t⟩
 | _, _, _, .str i, r => by obtain ⟨t, rfl⟩ := r; exact ⟨_, .str i t⟩
 | _, _, _, .lst (a := a) h t, r => by
  cases r
  obtain ⟨its, rv, pl, _⟩ := I.list h
  obtain ⟨as, k⟩ := wX.reads I t rv
  obtain ⟨o, h1, h2, n, h3⟩ := pl.isList
  exact ⟨_, .list h1 h2 h3 (by simpa using k)⟩
 | _, _, _, .tup (a := a) h t, r => by
  cases r
  obtain ⟨its, rv, pl, _⟩ := I.tuple h
  obtain ⟨as, k⟩ := wX.reads I t rv
  obtain ⟨o, h1, h2, n, h3⟩ := pl
  exact ⟨_, .tuple h1 h2 h3 (by simpa using k)⟩
theorem wX.reads (I : Inv X pins σ H s) : ∀ {xs : List V} {ds : List PyData} {vs : List Value}, wX X.K H xs ds → cL xs vs → ∃ as, ReadsAll s.heap vs ds as
 | _, _, _, .nil, r => by cases r; exact ⟨_, .nil⟩
 | _, _, _, .cons h t, .cons r rs => by
  obtain ⟨as, a⟩ := RdV.reads I h r
  obtain ⟨bs, b⟩ := wX.reads I t rs
  exact ⟨_, .cons a b⟩
end
mutual
theorem Dt.rd {m : List Addr} {S : Sto} (sr : Sr K m S H) : ∀ {u : U} {d : PyData} {v : V}, Dt S u d → Is K m H v u → RdV K H v d
 | _, _, _, .non, i => by rw [i.of_non]; exact .non
 | _, _, _, .bl b, i => by rw [i.of_bl]; exact .bl b
 | _, _, _, .int b, i => by rw [i.of_int]; exact .int b
 | _, _, _, .str b, i => by rw [i.of_str]; exact .str b
 | _, _, _, .lst h t, i => by
  obtain ⟨a, ha, rfl⟩ := i.of_ref
  obtain ⟨a', ha', xs, hx, il⟩ := sr.get h
  rw [ha] at ha'; cases ha'
  exact .lst (SqL.of hx) (DtL.rd sr t il)
 | _, _, _, .tup t, i => by
  obtain ⟨a, xs, rfl, sa, la⟩ := i.of_tup
  exact .tup sa (DtL.rd sr t la)
theorem DtL.rd {m : List Addr} {S : Sto} (sr : Sr K m S H) : ∀ {us : List U} {ds : List PyData} {vs : List V}, DtL S us ds → IsL K m H vs us → wX K H vs ds
 | _, _, _, .nil, i => by rw [i.of_nil]; exact .nil
 | _, _, _, .cons h t, i => by
  obtain ⟨x, r, rfl, i1, i2⟩ := i.of_cons
  exact .cons (Dt.rd sr h i1) (DtL.rd sr t i2)
end
mutual
theorem Dt.uniq {S : Sto} : ∀ {u : U} {d e : PyData}, Dt S u d → Dt S u e → d = e
 | _, _, _, .non, .non => rfl
 | _, _, _, .bl _, .bl _ => rfl
 | _, _, _, .int _, .int _ => rfl
 | _, _, _, .str _, .str _ => rfl
 | _, _, _, .lst h t, .lst h' t' => by
  rw [h] at h'; cases h'
  rw [DtL.uniq t t']
 | _, _, _, .tup t, .tup t' => by rw [DtL.uniq t t']
theorem DtL.uniq {S : Sto} : ∀ {us : List U} {ds es : List PyData}, DtL S us ds → DtL S us es → ds = es
 | _, _, _, .nil, .nil => rfl
 | _, _, _, .cons h t, .cons h' t' => by rw [Dt.uniq h h', DtL.uniq t t']
end
noncomputable def qX (d : PyData) : Prop := d.canLay0 = true ∧ d.depth ≤ 60
noncomputable def Gh (K : PySem.W.Frag) (neg : Bool) : R2 := fun x y H Q => (∃ dx dy, RdV K H x dx ∧ RdV K H y dy ∧ qX dx ∧ qX dy ∧ Q (.bl (if neg then !dx.eqv dy else dx.eqv dy)) H) ∨
 ∃ a b xs ys, x = .ref a ∧ y = .ref b ∧ SqL K H a xs ∧ SqL K H b ys ∧ xs.length ≠ ys.length ∧ Q (.bl neg) H
theorem zw (hu : X.A.units + 64 < cLine) : OpR X (compareOp .Eq) (Gh X.K false) := by
 rintro pins s σ H x y v u Q I rx ry (⟨dx, dy, hx, hy, lx, ly, q⟩ | ⟨a, b, xs, ys, rfl, rfl, ha, hb, ne, q⟩)
 ·obtain ⟨as, hx⟩ := hx.reads I rx
  obtain ⟨bs, hy⟩ := hy.reads I ry
  exact SeqAt.compareEq_reads hx hy lx.1 ly.1 (by have := lx.2; omega) ⟨.bl _, H, I, rfl, q⟩
 ·cases rx
  cases ry
  obtain ⟨i1, r1, p1, _⟩ := I.list ha
  obtain ⟨i2, r2, p2, _⟩ := I.list hb
  have l1 := r1.length
  have l2 := r2.length
  exact SeqAt.RcAt.lists_lengths p1.isList p2.isList (by simp; omega) (by omega) X.prog X.w X.xe _ ⟨.bl false, H, I, rfl, q⟩
theorem vm (hu : X.A.units + 64 < cLine) : OpR X (compareOp .NotEq) (Gh X.K true) := by
 rintro pins s σ H x y v u Q I rx ry (⟨dx, dy, hx, hy, lx, ly, q⟩ | ⟨a, b, xs, ys, rfl, rfl, ha, hb, ne, q⟩)
 ·obtain ⟨as, hx⟩ := hx.reads I rx
  obtain ⟨bs, hy⟩ := hy.reads I ry
  exact SeqAt.compareNe_reads hx hy lx.1 ly.1 (by have := lx.2; omega) ⟨.bl _, H, I, rfl, q⟩
 ·cases rx
  cases ry
  obtain ⟨i1, r1, p1, _⟩ := I.list ha
  obtain ⟨i2, r2, p2, _⟩ := I.list hb
  have l1 := r1.length
  have l2 := r2.length
  exact SeqAt.RcNeAt.lists_lengths p1.isList p2.isList (by simp; omega) (by omega) X.prog X.w X.xe _ ⟨.bl true, H, I, rfl, q⟩
noncomputable def xb (x y : U) (S : Sto) (b : Bool) : Prop := (∃ dx dy, Dt S x dx ∧ Dt S y dy ∧ qX dx ∧ qX dy ∧ b = dx.eqv dy) ∨ ∃ l l' us vs, x = .ref l ∧ y = .ref l' ∧ S[l]? = some (.lst us) ∧ S[l']? = some (.lst vs) ∧ us.length ≠ vs.length ∧ b = false
theorem DtL.length {S : Sto} : ∀ {us : List U} {ds : List PyData}, DtL S us ds → us.length = ds.length
 | _, _, .nil => rfl
 | _, _, .cons _ t => by rw [List.length_cons, List.length_cons, DtL.length t]
theorem xb.mix {l l' : Nat} {us vs : List U} {S : Sto} {dx dy : PyData} (h1 : Dt S (.ref l) dx) (h2 : Dt S (.ref l') dy) (k1 : S[l]? = some (.lst us)) (k2 : S[l']? = some (.lst vs)) (ne : us.length ≠ vs.length) : dx.eqv dy = false := by
 cases h1 with
 | lst a1 t1 =>
  cases h2 with
  | lst a2 t2 =>
   rw [k1] at a1; cases a1
   rw [k2] at a2; cases a2
   show PyData.eqvAll _ _ = false
   exact SeqAt.eqvAll_other_length (by rw [← t1.length, ← t2.length]; exact ne)
theorem xb.uniq {x y : U} {S : Sto} {b c : Bool} (h : xb x y S b) (k : xb x y S c) : b = c := by
 rcases h with ⟨dx, dy, h1, h2, _, _, rfl⟩ | ⟨l, l', us, vs, rfl, rfl, h1, h2, ne, rfl⟩
 ·rcases k with ⟨ex, ey, k1, k2, _, _, rfl⟩ | ⟨l, l', us, vs, rfl, rfl, k1, k2, ne, rfl⟩
  ·rw [h1.uniq k1, h2.uniq k2]
  ·exact xb.mix h1 h2 k1 k2 ne
 ·rcases k with ⟨ex, ey, k1, k2, _, _, rfl⟩ | ⟨_, _, _, _, _, _, _, _, _, rfl⟩
  ·exact (xb.mix k1 k2 h1 h2 ne).symm
  ·rfl
open Classical in
noncomputable def mV (neg : Bool) : U → U → Sto → Option (U × Sto) := fun x y S => if h : ∃ b, xb x y S b then some (.bl (if neg then !h.choose else h.choose), S) else none
theorem qI {x y : U} {S : Sto} {b : Bool} (neg : Bool) (h : xb x y S b) : mV neg x y S = some (.bl (if neg then !b else b), S) := by
 unfold mV
 rw [dif_pos ⟨b, h⟩]
 have e : (⟨b, h⟩ : ∃ b, xb x y S b).choose = b := (Exists.choose_spec (⟨b, h⟩ : ∃ b, xb x y S b)).uniq h
 rw [e]
theorem vi {neg : Bool} : OpP K (Gh K neg) (mV neg) := by
 intro m S H x y v w u S' Q sr ix iy hf post
 unfold mV at hf
 split at hf <;> try cases hf
 rename_i h
 have hb := h.choose_spec
 generalize h.choose = b at hb post
 rcases hb with ⟨dx, dy, h1, h2, l1, l2, rfl⟩ | ⟨l, l', us, vs, rfl, rfl, h1, h2, ne, rfl⟩
 ·exact .inl ⟨dx, dy, h1.rd sr ix, h2.rd sr iy, l1, l2, post m _ H .refl sr .bl_⟩
 ·obtain ⟨a, ha, rfl⟩ := ix.of_ref
  obtain ⟨a', ha', xs, hx, la⟩ := sr.get h1
  rw [ha] at ha'; cases ha'
  obtain ⟨c, hc, rfl⟩ := iy.of_ref
  obtain ⟨c', hc', ys, hy, lc⟩ := sr.get h2
  rw [hc] at hc'; cases hc'
  refine .inr ⟨a, c, xs, ys, rfl, rfl, SqL.of hx, SqL.of hy, by rw [la.length, lc.length]; exact ne, ?_⟩
  have e : (if neg = true then !false else false) = neg := by cases neg <;> rfl
  have := post m _ H .refl sr (Is.bl_ (b := if neg = true then !false else false))
  rw [e] at this
  exact this
noncomputable def Hy (K : PySem.W.Frag) (neg : Bool) : R2 := fun x y H Q => ∃ dx dys, RdV K H x dx ∧ (RdV K H y (.list dys) ∨ RdV K H y (.tuple dys)) ∧ qX dx ∧ PyData.canLayAll0 dys = true ∧ Q (.bl (if neg then !(dys.any fun z => z.eqv dx) else dys.any fun z => z.eqv dx)) H
theorem zv (hu : X.A.units + 64 < cLine) : OpR X (compareOp .In) (Hy X.K false) := by
 rintro pins s σ H x y v u Q I rx ry ⟨dx, dys, hx, hy, lx, ly, q⟩
 obtain ⟨as, hx⟩ := hx.reads I rx
 rcases hy with hy | hy
 ·obtain ⟨bs, hy⟩ := hy.reads I ry
  exact SeqAt.in_list_reads hy hx ly lx.1 (by have := lx.2; omega) ⟨.bl _, H, I, rfl, q⟩
 ·obtain ⟨bs, hy⟩ := hy.reads I ry
  exact SeqAt.in_tuple_reads hy hx ly lx.1 (by have := lx.2; omega) ⟨.bl _, H, I, rfl, q⟩
noncomputable def BP (x y : U) (S : Sto) (b : Bool) : Prop := ∃ dx dys, Dt S x dx ∧ (Dt S y (.list dys) ∨ Dt S y (.tuple dys)) ∧ qX dx ∧ PyData.canLayAll0 dys = true ∧ b = dys.any fun z => z.eqv dx
theorem BP.uniq {x y : U} {S : Sto} {b c : Bool} (h : BP x y S b) (k : BP x y S c) : b = c := by
 obtain ⟨dx, dy, h1, h2, _, _, rfl⟩ := h
 obtain ⟨ex, ey, k1, k2, _, _, rfl⟩ := k
 rw [h1.uniq k1]
 rcases h2 with h2 | h2 <;> rcases k2 with k2 | k2 <;> cases h2.uniq k2 <;> rfl
open Classical in
noncomputable def zG (neg : Bool) : U → U → Sto → Option (U × Sto) := fun x y S => if h : ∃ b, BP x y S b then some (.bl (if neg then !h.choose else h.choose), S) else none
theorem BB {x y : U} {S : Sto} {b : Bool} (neg : Bool) (h : BP x y S b) : zG neg x y S = some (.bl (if neg then !b else b), S) := by
 unfold zG
 rw [dif_pos ⟨b, h⟩]
 have e : (⟨b, h⟩ : ∃ b, BP x y S b).choose = b := (Exists.choose_spec (⟨b, h⟩ : ∃ b, BP x y S b)).uniq h
 rw [e]
theorem DM {neg : Bool} : OpP K (Hy K neg) (zG neg) := by
 intro m S H x y v w u S' Q sr ix iy hf post
 unfold zG at hf
 split at hf <;> try cases hf
 rename_i h
 have hb := h.choose_spec
 generalize h.choose = b at hb post
 obtain ⟨dx, dy, h1, h2, l1, l2, rfl⟩ := hb
 exact ⟨dx, dy, h1.rd sr ix, h2.elim (fun z => .inl (z.rd sr iy)) (fun z => .inr (z.rd sr iy)), l1, l2, post m _ H .refl sr .bl_⟩
noncomputable def sg (us : List U) (lo hi : Option Int) : List U := (us.drop (HT.sIx us.length 0 lo)).take (HT.sIx us.length us.length hi - HT.sIx us.length 0 lo)
theorem wC {m : List Addr} {xs : List V} {us : List U} {lo hi : Option Int} (i : IsL K m H xs us) : IsL K m H (wD xs lo hi) (sg us lo hi) := by
 unfold wD sg
 rw [i.length]
 exact (i.drop _).take _
noncomputable def fSl (x : U) (lo hi : Option Int) (S : Sto) : Option (U × Sto) := match x with
 | .tup us => if HT.sIx us.length 0 lo = 0 ∧ HT.sIx us.length us.length hi = us.length then none else some (.tup (sg us lo hi), S)
 | .ref l => match S[l]? with
  | some (.lst us) => some (.ref S.length, S ++ [.lst (sg us lo hi)])
  | _ => none
 | _ => none
noncomputable def gZ : Option CE → Rho → Sto → Option (Option Int × Sto)
 | none, _, S => some (none, S)
 | some c, ρ, S => (c ρ S).bind fun p => match p.1 with
  | .int i => some (some i, p.2)
  | _ => none
noncomputable def cSl (ca : CE) (cl ch : Option CE) : CE := fun ρ S => (ca ρ S).bind fun p => (gZ cl ρ p.2).bind fun q => (gZ ch ρ q.2).bind fun r => fSl p.1 q.1 r.1 r.2
noncomputable def Hf (K : PySem.W.Frag) (m : List Addr) (H : Hp) (Q : Option Int → Hp → Prop) (o : Option Int) (S' : Sto) : Prop := ∀ m' H', Ext K m H m' H' → Sr K m' S' H' → Q o H'
noncomputable def tO (K : PySem.W.Frag) (c : Option CE) : TO := fun σ H Q => ∃ m ρ S o S', Sr K m S H ∧ Lr K m H ρ σ ∧ gZ c ρ S = some (o, S') ∧ Hf K m H Q o S'
noncomputable abbrev QO (X : Cx) (e : Option Expr) (c : Option CE) : Prop := WO X e (tO X.K c)
theorem eM : QO X none none := ⟨fun pins s σ H Q I hz => kI hz fun m ρ S o S' sr lr hc post => rb.h pins s σ H Q I (by cases hc; exact post m H .refl sr)⟩
theorem bS {e : Expr} {ca : CE} (h : QE X e ca) : QO X (some e) (some ca) := ⟨fun pins s σ H Q I hz => kI hz fun m ρ S o S' sr lr hc post => (q5 h).h pins s σ H Q I (by
 obtain ⟨⟨x, S1⟩, h1, h2⟩ := Option.bind_eq_some_iff.mp hc
 refine ⟨m, ρ, S, x, S1, sr, lr, h1, fun m1 v1 H1 e1 sr1 i1 => ?_⟩
 cases x <;> simp at h2
 obtain ⟨rfl, rfl⟩ := h2
 exact ⟨_, i1.of_int, post m1 H1 e1 sr1⟩)⟩
theorem ph {e : Expr} {lo hi : Option Expr} {ca : CE} {cl ch : Option CE} {pos p2 : Pos} (ha : QE X e ca) (hl : QO X lo cl) (hh : QO X hi ch) : QE X (.Subscript e (.Slice lo hi none p2) pos) (cSl ca cl ch) := (lA (uN.or zm) ha hl hh).imp fun σ H Q hz => kI hz fun m ρ S u S' sr lr hc post => by
 obtain ⟨⟨x, S1⟩, h1, ha⟩ := Option.bind_eq_some_iff.mp hc
 obtain ⟨⟨l, S2⟩, h2, hb⟩ := Option.bind_eq_some_iff.mp ha
 obtain ⟨⟨k, S3⟩, h3, h⟩ := Option.bind_eq_some_iff.mp hb
 clear ha hb hc
 refine ⟨m, ρ, S, x, S1, sr, lr, h1, fun m1 v1 H1 e1 sr1 i1 => ⟨m1, ρ, S1, l, S2, sr1, lr.mono e1, h2, fun m2 H2 e2 sr2 => ⟨m2, ρ, S2, k, S3, sr2, lr.mono (e1.trans e2), h3, fun m3 H3 e3 sr3 => ?_⟩⟩⟩
 have i3 := i1.mono (e2.trans e3)
 have e03 := (e1.trans e2).trans e3
 cases x with
 | tup us =>
  simp only [fSl] at h
  split at h <;> try cases h
  rename_i hw
  obtain ⟨a, xs, rfl, sa, la⟩ := i3.of_tup
  exact .inr ⟨a, xs, rfl, sa, by rw [la.length]; exact hw, fun p hp => nZ sr3 (wC la) (post.mono e03) hp⟩
 | ref r =>
  simp only [fSl] at h
  split at h <;> try cases h
  rename_i us hS
  obtain ⟨a, ha, rfl⟩ := i3.of_ref
  obtain ⟨a', ha', xs, hx, la⟩ := sr3.get hS
  rw [ha] at ha'; cases ha'
  exact .inl ⟨a, xs, rfl, SqL.of hx, fun p hp => iT sr3 (wC la) (post.mono e03) hp⟩
 | _ => simp [fSl] at h
end
section
variable {X : Cx} {K : PySem.W.Frag}
instance {us : List U} : Decidable (us ≠ []) := match us with
 | [] => .isFalse fun h => h rfl
 | _ :: _ => .isTrue fun h => by cases h
end
end OP
namespace OG
open PySem PySem.Spec PyProof.Rows L2
theorem DQ {C a : Addr} {m : Str → Option Value} {h h' : Heap} (n : h.Ns C m) (s : Heap.SameBut a h h') (ne : C ≠ a) : h'.Ns C m := by
 obtain ⟨o, es, ep, e, r⟩ := n
 exact ⟨o, es, ep, (s.2 C ne).trans e, r⟩
theorem sI {X : Cx} {Nc capN tn : List Str} {scope : Scope} {cl : List (Str × Addr)} {n : Nat} {caps : List Nat} {tg iter elt : Expr} {pos : Pos} {wi : TI} {g : TG} {te : TE}
  (hc : X.calm = true) (hi : WI X tg iter wi) (hg : ∀ s3 H3 fp, WG (cxC X Nc scope cl s3 H3 fp) tg g) (he : ∀ s3 H3 fp, WE (cxC X Nc scope cl s3 H3 fp) elt te)
  (hclos : closureFor scope X.env = pure cl) (hkind : scope.kind = .function) (hnl : ∀ x ∈ scope.names, x.2 = .local → scope.names.lookup x.1 = some .local) (hcell : ∀ x ∈ scope.names, x.2 ≠ .cell)
  (hcl : sD X.env cl) (hhas : ((relabel scope X.env).names.all fun p => !(p.2 == .cell || p.2 == .free) || (cl.lookup p.1).isSome) = true)
  (hcap : Paired (Cap X scope cl) caps capN) (hN : Nc = tn ++ capN) (hn : tn.length = n)
  {i₀ : Nat} {x₀ : Str} {pos₀ pos' : Pos} (hN0 : X.N.Nodup) (hi0 : X.N[i₀]? = some x₀) (hx0 : X.env.scope.names.lookup x₀ = some .local)
  (hsw : swapsWith (.ListComp elt [⟨tg, iter, [], 0⟩] scope pos) (some (.Name x₀ pos')) pos₀.line X.env = pure true)
  (hs : ∀ x, foldedSetIterable iter X.env x = pure x := by intro _; rfl) :
  WS X (.Assign [.Name x₀ pos'] (.ListComp elt [⟨tg, iter, [], 0⟩] scope pos) pos₀) (fun D σ H => xx wi g te n caps σ H fun v H' => D.nx (σ.set i₀ (some v)) H') := by
 constructor
 intro pins s σ H Dn I h
 rw [exec_Assign_arm]
 refine wpAny_bind (wpAny_standAt ?_)
 have hsw' : swapsWithSole [.Name x₀ pos'] (.ListComp elt [⟨tg, iter, [], 0⟩] scope pos) pos₀.line X.env = pure true := hsw
 rw [hsw']
 refine wpAny_bind (wpAny_pure ?_)
 rw [if_pos rfl, arm_evalThenUse_ListComp]
 refine wpAny_bind (wpAny_bind (sk (Qf := fun _ s' => wpAny (model X.prog X.w) X.A (pure ()) (fun _ s' => wpAny (model X.prog X.w) X.A (pure Flow.next) (SP X pins Dn) X.xe s') X.xe s') hc hi hg he hclos hkind hnl hcell hcl hhas hcap hN hn I h (fun D C s6 H5 m I7 hm fr nl sz cn pn qn => ?_) hs))
 show wpAny _ _ (assign (.Name x₀ pos') X.env (.ref D)) _ _ s6
 rw [arm_assign_Name]
 refine wpAny_bind (wpAny_standAt (wpAny_bindName (o8 (v := .ref D) I7 hN0 hi0 (.inl hx0) rfl (fun s7 I7' hsb => ?_) (.inr hx0))))
 obtain ⟨a7, hsb, ha7⟩ := hsb
 have cNe : C ≠ a7 := by
  rcases ha7 with z | z
  ·rw [z]; exact nl
  ·exact Ne.symm (cn _ _ z)
 refine ⟨m, DQ hm hsb cNe, fun h' hs' => wpAny_pure (wpAny_pure ⟨_, H5, ?_, qn⟩)⟩
 exact I7'.turned (t' := s7.toks) (it := C) (fun b o hb e => hs'.extBut b o hb e) fr nl (.inr sz) cn pn
end OG
namespace OP
open PySem PySem.Spec PyProof.Rows L2 OG
section
variable {X : Cx} {K : PySem.W.Frag}
theorem sP {i₀ : Nat} {x₀ : Str} {pos₀ pos' : Pos} {Nc capN tn : List Str} {scope : Scope} {cl : List (Str × Addr)} {n : Nat} {caps : List Nat} {tg iter elt : Expr} {pos : Pos} {ci : CI} {g : CG} {ce : CE}
  (hc : X.calm = true) (hi : QI X tg iter ci) (hg : ∀ s3 H3 fp, WG (cxC X Nc scope cl s3 H3 fp) tg (tG X.K g)) (he : ∀ s3 H3 fp, WE (cxC X Nc scope cl s3 H3 fp) elt (tE X.K ce))
  (hclos : closureFor scope X.env = pure cl) (hkind : scope.kind = .function) (hnl : ∀ x ∈ scope.names, x.2 = .local → scope.names.lookup x.1 = some .local) (hcell : ∀ x ∈ scope.names, x.2 ≠ .cell)
  (hcl : sD X.env cl) (hhas : ((relabel scope X.env).names.all fun p => !(p.2 == .cell || p.2 == .free) || (cl.lookup p.1).isSome) = true)
  (hcap : Paired (Cap X scope cl) caps capN) (hN : Nc = tn ++ capN) (hn : tn.length = n)
  (hN0 : X.N.Nodup) (hi0 : X.N[i₀]? = some x₀) (hx0 : X.env.scope.names.lookup x₀ = some .local)
  (hsw : swapsWith (.ListComp elt [⟨tg, iter, [], 0⟩] scope pos) (some (.Name x₀ pos')) pos₀.line X.env = pure true)
  (hs : ∀ x, foldedSetIterable iter X.env x = pure x := by intro _; rfl) :
  QS X (.Assign [.Name x₀ pos'] (.ListComp elt [⟨tg, iter, [], 0⟩] scope pos) pos₀) (bZ i₀ (g9 ci g ce n caps)) := (sI hc hi hg he hclos hkind hnl hcell hcl hhas hcap hN hn hN0 hi0 hx0 hsw hs).imp fun D σ H hz => sd hz fun m ρ S o ρ' S' sr lr hc post => by
 obtain ⟨⟨u, S1⟩, h1, h2⟩ := Option.bind_eq_some_iff.mp hc
 cases h2
 exact sj _ _ _ ⟨m, ρ, S, u, _, sr, lr, h1, fun m1 v1 H1 e1 sr1 i1 => post m1 _ H1 e1 sr1 ((lr.mono e1).set i₀ i1)⟩
end
end OP
namespace OP
open PySem PySem.Spec PyProof PyProof.Rows L2 OG
section
variable {X : Cx} {K : PySem.W.Frag}
noncomputable def pW (ca : CE) : CE := fun ρ S => (ca ρ S).bind fun p => match p.1 with
 | .int i => some (.int (-i), p.2)
 | _ => none
theorem zd : UnR X (unaryOp .USub) (fun x H Q => ∃ i, x = .int i ∧ Q (.int (-i)) H) := by
 rintro pins s σ H x v Q I rx ⟨i, rfl, q⟩
 obtain ⟨t, rfl⟩ := rx
 exact PyProof.Rows.neg_int ⟨.int (-i), H, I.tok _, ⟨_, rfl⟩, q⟩
theorem qp {a : Expr} {ca : CE} {pos : Pos} (ha : QE X a ca) : QE X (.UnaryOp .USub a pos) (pW ca) := (CJ zd ha).imp fun σ H Q hz => kI hz fun m ρ S u S' sr lr hc post => by
 obtain ⟨⟨x, S1⟩, h1, h2⟩ := Option.bind_eq_some_iff.mp hc
 refine ⟨m, ρ, S, x, S1, sr, lr, h1, fun m1 v1 H1 e1 sr1 i1 => ?_⟩
 cases x <;> simp at h2
 obtain ⟨rfl, rfl⟩ := h2
 exact ⟨_, i1.of_int, post m1 _ H1 e1 sr1 .int_⟩
noncomputable def BA : U → List U → Sto → Option (U × Sto)
 | .ref l, [], S => match S[l]? with
  | some (.lst us) => (us[us.length - 1]?).bind fun u => some (u, S.set l (.lst us.dropLast))
  | _ => none
 | _, _, _ => none
theorem IsL.dropLast {m : List Addr} {H : Hp} {xs : List V} {us : List U} (h : IsL K m H xs us) : IsL K m H xs.dropLast us.dropLast := by
 rw [List.dropLast_eq_take, List.dropLast_eq_take, h.length]
 exact h.take _
theorem Gx : MtP K Hw BA := by
 intro m S H x v us vs u S' Q sr ix i hf post
 match x, us, hf with
 | .ref l, [], hf =>
  simp only [BA] at hf
  split at hf <;> try cases hf
  rename_i ws hS
  obtain ⟨w, hw, h⟩ := Option.bind_eq_some_iff.mp hf
  cases h
  obtain ⟨a, ha, rfl⟩ := ix.of_ref
  obtain ⟨a', ha', xs, hx, la⟩ := sr.get hS
  rw [ha] at ha'; cases ha'
  obtain ⟨y, hy, iy⟩ := la.getD hw
  have eu : Ext K m H m (upd H a (.lst xs.dropLast)) := .of (sr.keep ha _)
  exact ⟨a, xs, y, rfl, i.of_nil, hx, by rw [la.length]; exact hy, post m _ _ eu (sr.put ha ⟨_, aK, la.dropLast.mono eu⟩) (iy.mono eu)⟩
noncomputable def kH : U → List U → Sto → Option (U × Sto)
 | .ref l, [.int i], S => match S[l]? with
  | some (.lst us) => if 0 ≤ i ∧ i < us.length ∧ us.length ≤ LIM then (us[i.toNat]?).bind fun u => some (u, S.set l (.lst (us.eraseIdx i.toNat))) else none
  | _ => none
 | _, _, _ => none
theorem A8 : MtP K zr kH := by
 intro m S H x v us vs u S' Q sr ix i hf post
 match x, us, hf with
 | .ref l, [.int k], hf =>
  simp only [kH] at hf
  split at hf <;> try cases hf
  rename_i ws hS
  split at hf <;> try cases hf
  rename_i hk
  obtain ⟨w, hw, h⟩ := Option.bind_eq_some_iff.mp hf
  cases h
  obtain ⟨a, ha, rfl⟩ := ix.of_ref
  obtain ⟨a', ha', xs, hx, la⟩ := sr.get hS
  rw [ha] at ha'; cases ha'
  obtain ⟨y, hy, iy⟩ := la.getD hw
  obtain ⟨z, rfl, iz⟩ := i.one
  have eu : Ext K m H m (upd H a (.lst (xs.eraseIdx k.toNat))) := .of (sr.keep ha _)
  have hL : ws.length ≤ 100000 := hk.2.2
  exact ⟨a, xs, k, k.toNat, y, rfl, by rw [iz.of_int], hx, by omega, by omega, seqIndex_of hk.1 (by rw [la.length]; exact hk.2.1), hy, post m _ _ eu (sr.put ha ⟨_, aK, (la.erase _).mono eu⟩) (iy.mono eu)⟩
variable {e : Expr} {es : List Expr} {co : CE} {cr : CA} {o : Expr} {apos cpos : Pos}
theorem uV (ho : QE X o co) (ha : QA X (e :: es) cr) (hbase : attributeBase o "pop" X.env (eval o X.env) = eval o X.env := by rfl) (hfew : ((backTo cpos (starEach (e :: es) X.env)).all (fun x => !x.1) && (backToKw cpos (keywordEach [] X.env)).all (fun x => x.1.isSome)
   && decide ((e :: es).length + ([] : List Keyword).length + (if ([] : List Keyword).isEmpty then 0 else 1) < 30)) = true := by rfl) (hline : (apos.endLine == cpos.line) = true := by rfl) (hs : starEach (e :: es) X.env = (false, eval e X.env) :: starEach es X.env := by rfl) (hplain : (backTo cpos (starEach es X.env)).any (·.1) = false := by rfl) :
  QE X (.Call (.Attribute o "pop" apos) (e :: es) [] cpos) (cBM kH co cr) := (uA PySem.F.plainAttrs_list PySem.F.slot_list_pop PySem.F.type_list_pop yi ho ha.h hbase hfew hline hs hplain).imp (sy A8)
theorem Gk (ho : QE X o co) (hbase : attributeBase o "pop" X.env (eval o X.env) = eval o X.env := by rfl) (hline : (apos.endLine == cpos.line) = true := by rfl) :
  QE X (.Call (.Attribute o "pop" apos) [] [] cpos) (cBM BA co aq) := (uz PySem.F.plainAttrs_list PySem.F.slot_list_pop PySem.F.type_list_pop DR ho hbase hline).imp fun σ H Q h => by
 obtain ⟨m, ρ, S, u, S', sr, lr, hc, k⟩ := sy (cr := aq) Gx σ H Q h
 refine ⟨m, ρ, S, u, S', sr, lr, hc, fun m1 v1 H1 e1 sr1 i1 => ?_⟩
 obtain ⟨ty, m2, ρ2, S2, us, S3, sr2, lr2, h4, h5⟩ := k m1 v1 H1 e1 sr1 i1
 cases h4
 exact ⟨ty, h5 m2 [] H1 .refl sr2 .nil_⟩
noncomputable def kf (cr : CA) : CE := fun ρ S => (cr ρ S).bind fun p => match p.1 with
 | [.int j] => if 0 ≤ j ∧ j ≤ 1000 then some (.ref p.2.length, p.2 ++ [.lst (bV 0 j.toNat)]) else none
 | _ => none
theorem nF : ∀ (n : Nat) (a : Int) (vs : List Value), vs.length = n → (∀ (j : Nat) (v : Value), vs[j]? = some v → ∃ t, v = Value.int (a + (j : Int)) t) → cL ((List.range n).map fun i : Nat => V.int (a + (i : Nat))) vs
 | 0, a, vs, hl, h => by
  rw [List.length_eq_zero_iff.mp hl]; exact .nil
 | n + 1, a, [], hl, h => by simp at hl
 | n + 1, a, v :: vs, hl, h => by
  rw [List.range_succ_eq_map, List.map_cons, List.map_map]
  refine .cons ?_ ?_
  ·obtain ⟨t, e⟩ := h 0 v rfl
   exact ⟨t, by simpa using e⟩
  ·have := nF n (a + 1) vs (by simpa using hl) fun j x hx => by
    obtain ⟨t, e⟩ := h (j + 1) x (by simpa using hx)
    exact ⟨t, by rw [e]; congr 1; omega⟩
   have e : (List.range n).map (fun i : Nat => V.int (a + 1 + (i : Nat))) = (List.range n).map ((fun i : Nat => V.int (a + (i : Nat))) ∘ Nat.succ) := List.map_congr_left fun i _ => by
    simp only [Function.comp]; congr 1; omega
   rw [← e]; exact this
theorem oY {a : Expr} {ta : TA} {p1 p2 pos1 pos2 : Pos} (hc : X.calm = true) (hgl : Gl X "list") (hml : X.mg "list" = none) (hg : Gl X "range") (hm : X.mg "range" = none) (ha : WA X [a] ta) (hs : starEach [a] X.env = [(false, eval a X.env)])
  (hs1 : starEach [Expr.Call (.Name "range" p2) [a] [] pos2] X.env = [(false, eval (.Call (.Name "range" p2) [a] [] pos2) X.env)]) :
  WE X (.Call (.Name "list" p1) [.Call (.Name "range" p2) [a] [] pos2] [] pos1) (fun σ H Q => ta σ H fun vs H1 => ∃ j : Int, vs = [.int j] ∧ 0 ≤ j ∧ j ≤ 1000 ∧ ∀ p, H1 p = none → Q (.ref p) (upd H1 p (.lst ((List.range j.toNat).map fun i : Nat => V.int (0 + (i : Nat)))))) := by
 constructor
 intro pins s σ H Q I h
 refine wpAny_Call_Name_kw (lZ I hgl hml OG.fK ?_ (by decide) (by decide))
 refine PyProof.Rows.callWith_type1 ?_ hs1 rfl
 rw [hs1]
 show wpAny _ _ (spliced [(false, eval (.Call (.Name "range" p2) [a] [] pos2) X.env)]) _ _ s
 refine Calls.spliced_cons ?_
 refine Call_ (lZ I hg hm boot_range (PyProof.Rows.callWith_type1 (thn (ha.h pos2 pins s σ H _ I h) fun us s1 ⟨vs, H1, I1, r1, q1⟩ => ?_) hs rfl))
 obtain ⟨j, e, j0, j1, q⟩ := q1
 subst e
 cases r1 with
 | cons r rr =>
  cases rr
  obtain ⟨t, rfl⟩ := r
  refine call_range_1 ?_
  refine Calls.spliced_nil ?_
  have hsz : Builtin.Range.rangeSize 0 j 1 = ((j.toNat : Nat) : Int) := by
   unfold Builtin.Range.rangeSize
   simp
   omega
  refine call_list_range (n := j.toNat) (I1.ok.hd hc) (Heap.get?_push_size _ rfl) ?_ hsz (by omega) fun h' tk acc c' hk hg' hi => ?_
  ·unfold Builtin.Range.small
   rw [hsz]
   unfold Builtin.Range.rangeFitsLong
   simp
   omega
  ·have hv : cL ((List.range j.toNat).map fun i : Nat => V.int (0 + (i : Nat))) acc.toList := nF j.toNat 0 acc.toList (by simpa using hi.1) fun k v hv => by
    obtain ⟨t, e⟩ := hi.2 k v (by simpa using hv)
    exact ⟨t, by rw [e]; congr 1; omega⟩
   refine ⟨.ref _, _, I1.laid (t' := tk) (o := .lst ((List.range j.toNat).map fun i : Nat => V.int (0 + (i : Nat)))) (fun b ob q => hk b ob (Heap.get?_push_of_some _ q)) (by rw [Heap.size_push]; omega) ?_, rfl, q _ (I1.hok.fresh (by rw [Heap.size_push]; omega))⟩
   exact ⟨by rw [List.length_map, List.length_range]; exact Nat.le_trans (by omega) (show 1000 ≤ sizeLine by decide), _, _, hv, by simpa using hg'⟩
theorem vP {m : List Addr} {H : Hp} (n : Nat) : IsL K m H ((List.range n).map fun i : Nat => V.int (0 + (i : Nat))) (bV 0 n) := by
 unfold bV
 generalize List.range n = l
 induction l with
 | nil => exact .nil_
 | cons a r ih => exact .cons_ .int_ ih
theorem qr {a : Expr} {cr : CA} {p1 p2 pos1 pos2 : Pos} (hc : X.calm = true) (hgl : Gl X "list") (hml : X.mg "list" = none) (hg : Gl X "range") (hm : X.mg "range" = none) (ha : QA X [a] cr) (hs : starEach [a] X.env = [(false, eval a X.env)])
  (hs1 : starEach [Expr.Call (.Name "range" p2) [a] [] pos2] X.env = [(false, eval (.Call (.Name "range" p2) [a] [] pos2) X.env)]) :
  QE X (.Call (.Name "list" p1) [.Call (.Name "range" p2) [a] [] pos2] [] pos1) (kf cr) := (oY hc hgl hml hg hm ha.h hs hs1).imp fun σ H Q hz => kI hz fun m ρ S u S' sr lr hc post => by
 obtain ⟨⟨ws, S1⟩, h1, h2⟩ := Option.bind_eq_some_iff.mp hc
 simp only at h2
 split at h2 <;> try cases h2
 rename_i j
 split at h2 <;> try cases h2
 rename_i hj
 refine ⟨m, ρ, S, _, S1, sr, lr, h1, fun m1 v1 H1 e1 sr1 i1 => ?_⟩
 obtain ⟨x, rfl, ix⟩ := i1.one
 rw [ix.of_int]
 exact ⟨j, rfl, hj.1, hj.2, fun p hp => iT sr1 (vP _) (post.mono e1) hp⟩
end
section
variable {X : Cx} {K : PySem.W.Frag}
theorem Aq {e : Expr} {t : TE} (h : WE X e t) : WE X e (fun σ H Q => t σ H fun v H' => ∃ a ob kvs, EE X a ∧ H' a = some (.frz ob (.dK kvs)) ∧ Q v (upd H' a (.dK kvs))) :=
 ⟨fun pins s σ H Q I k => thn (h.h pins s σ H _ I k) fun u s1 ⟨v, H1, I1, r1, a, ob, kvs, nf, e, q⟩ => ⟨v, _, yu I1 nf e, r1, q⟩⟩
noncomputable def wL (ce : CE) (f : (Sto → Prop) → Nat → List U → Rho → Sto → Option Sto) (n : Nat) (caps : List Nat) : CE := fun ρ S => (ce ρ S).bind fun p => match p.1 with
 | .ref l => match p.2[l]? with
  | some (.dic kus) => uni fun ep => (f (fun S' => S'[l]? = some (.fdc ep kus)) p.2.length (kus.map fun q => kU q.1) (qm n caps ρ) (p.2.set l (.fdc ep kus) ++ [.lst []])).bind fun S' => match S'[l]? with
   | some (.fdc _ kus') => some (.ref p.2.length, S'.set l (.dic kus'))
   | _ => none
  | _ => none
 | _ => none
noncomputable def kY (ce : CE) (g : CG) (ct : CT) (el : CE) (n : Nat) (caps : List Nat) : CE := wL ce (fun ok l => cH ok g ct el l) n caps
theorem uD {ce : CE} {f : (Sto → Prop) → Nat → List U → Rho → Sto → Option Sto} {n : Nat} {caps : List Nat} {G : It → Hp → L2.St → VK → Prop}
  (core : ∀ {J : It} {us : List U} {ok : Sto → Prop} {Q : VK} {m1 : List Addr} {H1 : Hp} {S1 S' : Sto} {ρ : Rho} {σ : L2.St}, Sr X.K m1 S1 H1 → Lr X.K m1 H1 ρ σ → yW X.K J m1 H1 us ok → f ok S1.length us (qm n caps ρ) (S1 ++ [.lst []]) = some S' →
   (∀ l, H1 l = none → ∀ m2 H2, Ext X.K (m1 ++ [l]) (upd H1 l (.lst [])) m2 H2 → Sr X.K m2 S' H2 → Q (.ref l) H2) → G J H1 σ Q) :
  ∀ σ H Q, tE X.K (wL ce f n caps) σ H Q → Ei X (tE X.K ce) σ H fun J H1 => G J H1 σ fun v H' => ∃ a ob kvs, EE X a ∧ H' a = some (.frz ob (.dK kvs)) ∧ Q v (upd H' a (.dK kvs)) := by
 rintro σ H Q ⟨m, ρ, S, u, S', sr, lr, hc, post⟩
 obtain ⟨⟨x, S1⟩, h1, h⟩ := Option.bind_eq_some_iff.mp hc
 refine ⟨m, ρ, S, x, S1, sr, lr, h1, fun m1 v1 H1 e1 sr1 i1 => ?_⟩
 cases x with
 | ref l =>
  simp only at h
  split at h <;> try cases h
  rename_i kus hS
  obtain ⟨a, ha, rfl⟩ := i1.of_ref
  obtain ⟨a', ha', kvs, hx, ip⟩ := sr1.get hS
  rw [ha] at ha'; cases ha'
  refine ⟨a, kvs, rfl, hx, fun ob es ep nf hd => ?_⟩
  obtain ⟨S2, h2, h3⟩ := Option.bind_eq_some_iff.mp (xv h ep)
  try simp only at h3
  split at h3 <;> try cases h3
  rename_i ep' kus' hS2
  have kp : zN X.K H1 (upd H1 a (.frz ob (.dK kvs))) := sr1.keep ha _
  have ee : Ext X.K m1 H1 m1 (upd H1 a (.frz ob (.dK kvs))) := .of kp
  have sr2 : Sr X.K m1 (S1.set l (.fdc ep kus)) (upd H1 a (.frz ob (.dK kvs))) := sr1.put ha ⟨ob, es, kvs, aK, hd, ip.mono ee⟩
  rw [ip.1]
  have hln : (S1.set l (.fdc ep kus)).length = S1.length := by simp
  refine core sr2 (lr.mono (e1.trans ee)) (Bp ha) (by rw [hln]; exact h2) fun p hp m3 H3 e3 sr3 => ?_
  have en : Ext X.K m1 (upd H1 a (.frz ob (.dK kvs))) (m1 ++ [p]) (upd (upd H1 a (.frz ob (.dK kvs))) p (.lst [])) := .new (b8 hp _)
  have e03 := en.trans e3
  obtain ⟨a3, ha3, ob3, es3, kvs3, hx3, hd3, ip3⟩ := sr3.get hS2
  rw [e03.get ha] at ha3; cases ha3
  have e4 : Ext X.K m3 H3 m3 (upd H3 a (.dK kvs3)) := .of (sr3.keep (e03.get ha) _)
  refine ⟨a, ob3, kvs3, nf, hx3, post m3 _ _ (((e1.trans ee).trans e03).trans e4) (sr3.put (e03.get ha) ⟨kvs3, aK, ip3.mono e4⟩) ?_⟩
  have lg : (m1 ++ [p])[S1.length]? = some p := eU sr1.len
  exact .ref_ (e3.get lg)
 | _ => cases h
variable {Nc capN tn : List Str} {scope : Scope} {cl : List (Str × Addr)} {n : Nat} {caps : List Nat} {tg iter elt c : Expr} {pos : Pos} {ci : CE} {g : CG} {ct : CT} {ce : CE}
theorem uZ (hc : X.calm = true) (hi : QE X iter ci) (hg : ∀ s3 H3 fp, WG (cxC X Nc scope cl s3 H3 fp) tg (tG X.K g)) (ht : ∀ s3 H3 fp, WT (cxC X Nc scope cl s3 H3 fp) c (tT X.K ct)) (he : ∀ s3 H3 fp, WE (cxC X Nc scope cl s3 H3 fp) elt (tE X.K ce))
  (hclos : closureFor scope X.env = pure cl) (hkind : scope.kind = .function) (hnl : ∀ x ∈ scope.names, x.2 = .local → scope.names.lookup x.1 = some .local) (hcell : ∀ x ∈ scope.names, x.2 ≠ .cell)
  (hcl : sD X.env cl) (hhas : ((relabel scope X.env).names.all fun p => !(p.2 == .cell || p.2 == .free) || (cl.lookup p.1).isSome) = true)
  (hcap : Paired (Cap X scope cl) caps capN) (hN : Nc = tn ++ capN) (hn : tn.length = n)
  (hs : ∀ x, foldedSetIterable iter X.env x = pure x := by intro _; rfl) :
  QE X (.ListComp elt [⟨tg, iter, [c], 0⟩] scope pos) (kY ci g ct ce n caps) :=
 (Aq (nr hc (Ap hi) hg he ht hclos hkind hnl hcell hcl hhas hcap hN hn hs)).imp (uD (G := fun J H1 σ Q => ∀ l, H1 l = none → ∃ W : Nat → Nat → L2.St → Hp → Prop, (∃ m, W 0 m (OG.stC n caps σ) (upd H1 l (.lst []))) ∧
  ∀ i m σ' H2, W i m σ' H2 → (J.stop i H2 ∧ Q (.ref l) H2) ∨ (J.go i H2 ∧ ∃ N : L2.St → Hp → Prop, (∀ σ'' H', N σ'' H' → ∃ m', m' < m ∧ W (i + 1) m' σ'' H') ∧
  ∀ x H3, J.yld i H2 x H3 → tG X.K g x σ' H3 fun σ2 H4 => tT X.K ct σ2 H4 fun b H5 => match b with
   | true => tE X.K ce σ2 H5 fun v H6 => ∃ ys, H6 l = some (.lst ys) ∧ ys.length < sizeLine ∧ N σ2 (upd H6 l (.lst (ys ++ [v])))
   | false => N σ2 H5)) fun sr lr ito h2 post l hl => mJ sr lr ito hl h2 (post l hl))
noncomputable def Au : List U → Option (List Key)
 | [] => some []
 | u :: r => (kG u).bind fun k => (Au r).map (k :: ·)
theorem nT {m : List Addr} {H : Hp} : ∀ {us : List U} {xs : List V} {ks : List Key}, IsL K m H xs us → Au us = some ks → xs = ks.map kV
 | [], xs, ks, i, h => by cases h; exact i.of_nil
 | u :: r, xs, ks, i, h => by
  obtain ⟨x, t, rfl, ix, it⟩ := i.of_cons
  obtain ⟨k, hk, h⟩ := Option.bind_eq_some_iff.mp h
  obtain ⟨ks', h', rfl⟩ := Option.map_eq_some_iff.mp h
  rw [iI ix hk, nT it h']; rfl
noncomputable def pY : CE := fun _ S => some (.ref S.length, S ++ [.dit []])
theorem uX {pos : Pos} : QE X (.Dict [] [] pos) pY := ur.imp fun σ H Q hz => kI hz fun m ρ S u S' sr lr hc post => by
 cases hc
 exact fun p hp => post (m ++ [p]) _ _ (.new (b8 hp _)) (sr.new hp ⟨[], aK, .nil_⟩) (.ref_ (eU sr.len))
noncomputable def mK (co : CE) (cr : CA) (cv : CE) : CS := fun ρ S => (cv ρ S).bind fun p => (co ρ p.2).bind fun q => (cr ρ q.2).bind fun r => match q.1 with
 | .ref l => match r.2[l]? with
  | some (.dit kus) => (Au r.1).bind fun k => if kus.length < LIM ∧ r.1.length ≤ LIM then some (.nx, ρ, r.2.set l (.dit (iE kus k p.1))) else none
  | _ => none
 | _ => none
theorem uS {o : Expr} {es : List Expr} {e : Expr} {co cv : CE} {cr : CA} {k2 : Nat} {p2 pos pos' : Pos} (hu : X.A.units + 1 < cLine) (ho : QE X o co) (hi : QA X es cr) (hv : QE X e cv)
  (hs : swapsWith e (some (.Subscript o (.Tuple es k2 p2) pos')) pos.line X.env = pure false := by rfl) : QS X (.Assign [.Subscript o (.Tuple es k2 p2) pos'] e pos) (mK co cr cv) :=
 (nP hu ho (um hi.h) hv hs).imp fun D σ H hz => sd hz fun m ρ S oo ρ' S' sr lr hc post => by
 obtain ⟨⟨v, S1⟩, h1, ha⟩ := Option.bind_eq_some_iff.mp hc
 obtain ⟨⟨ou, S2⟩, h2, hb⟩ := Option.bind_eq_some_iff.mp ha
 obtain ⟨⟨ius, S3⟩, h3, h⟩ := Option.bind_eq_some_iff.mp hb
 clear ha hb hc
 cases ou with
 | ref l =>
  simp only at h
  split at h <;> try cases h
  rename_i kus hS
  obtain ⟨k, hk, h4⟩ := Option.bind_eq_some_iff.mp h
  split at h4 <;> try cases h4
  rename_i gW
  refine ⟨m, ρ, S, v, S1, sr, lr, h1, fun m1 v1 H1 e1 sr1 i1 => ⟨m1, ρ, S1, _, S2, sr1, lr.mono e1, h2, fun m2 v2 H2 e2 sr2 i2 => ⟨m2, ρ, S2, ius, S3, sr2, lr.mono (e1.trans e2), h3, fun m3 vs H3 e3 sr3 i3 => ?_⟩⟩⟩
  refine ⟨lim (by rw [i3.length]; exact gW.2), fun p hp => ?_⟩
  obtain ⟨a, ha, rfl⟩ := (i2.mono e3).of_ref
  obtain ⟨a', ha', kvs, hx, ip⟩ := sr3.get hS
  rw [ha] at ha'; cases ha'
  have hvs := nT i3 hk
  subst hvs
  have s3 : qc H3 (upd H3 p (.tup (k.map kV))) := dQ hp _
  have en : Ext X.K m3 H3 m3 (upd H3 p (.tup (k.map kV))) := .of (b8 hp _)
  have srn := sr3.same s3
  have hxn : (upd H3 p (.tup (k.map kV))) a = some (.dT kvs) := s3 _ _ hx
  have e13 := ((e1.trans e2).trans e3).trans en
  have ee : Ext X.K m3 (upd H3 p (.tup (k.map kV))) m3 (upd (upd H3 p (.tup (k.map kV))) a (.dT (pj kvs k v1))) := .of (srn.keep ha _)
  exact ⟨a, _, rfl, yX.t hxn aK (BS (by rw [IsP.length ip]; exact gW.1)), post m3 σ _ (e13.trans ee) (srn.put ha ⟨_, aK, (IsP.put (ip.mono en) (i1.mono ((e2.trans e3).trans en))).mono ee⟩) (lr.mono (e13.trans ee))⟩
 | _ => cases h
end
noncomputable def FzT (H : Hp) (a : Addr) (ep : Nat) (ks : List (List Key)) : Prop := ∃ ob es kvs, H a = some (.frz ob (.dT kvs)) ∧ ob.data = .dict es ep ∧ kvs.map (·.1) = ks
noncomputable def Itt (a : Addr) (ep : Nat) (ks : List (List Key)) : It :=
 ⟨fun i H => i < ks.length ∧ FzT H a ep ks, fun i H x H' => H' = H ∧ ∃ k p, ks[i]? = some k ∧ x = .ref p ∧ H p = some (.tup (k.map kV)), fun i H => ks.length ≤ i ∧ FzT H a ep ks⟩
end OP
namespace OP
open PySem PySem.Spec PyProof PyProof.Rows L2 OG PySem.W
noncomputable def pP (p : Int × Int) : U := .tup [.int p.1, .int p.2]
section
variable {X : Cx} {K : PySem.W.Frag}
noncomputable def uQ : V → List V → Hp → VK → Prop := fun x vs H Q => ∃ (l : Addr) (xs : List V) (y : V) (i : Nat), x = .ref l ∧ vs = [.int i, y] ∧ H l = some (.lst xs) ∧ i ≤ xs.length ∧ xs.length < 100000 ∧ Q .non (upd H l (.lst (xs.take i ++ y :: xs.drop i)))
theorem xt {x y : V} {us : List Value} (h : cL [x, y] us) : ∃ u v, us = [u, v] ∧ dk x u ∧ dk y v := by
 cases h with
 | cons r1 t =>
  obtain ⟨v, e, r2⟩ := cL.one (show cL [y] _ from t)
  exact ⟨_, v, by rw [e], r1, r2⟩
theorem vw : MtM X "list.insert" uQ := by
 intro pins s σ H x vs v us Q I rx rv h
 obtain ⟨l, xs, y, i, rfl, rfl, hH, hi, hz, q⟩ := h
 cases rx
 obtain ⟨u1, u, rfl, r1, r3⟩ := xt rv
 obtain ⟨ti, rfl⟩ := r1
 obtain ⟨_, its, n, r, hl, e⟩ := I.lstM hH
 have gW := r.length
 have hfit : ¬ (!Builtin.List.listFitsIndex (i : Int)) = true := by
  simp only [Builtin.List.listFitsIndex, Bool.not_eq_true', Bool.not_eq_false, Bool.and_eq_true, decide_eq_true_eq]
  omega
 have hsz : its.toArray.size ≤ sizeLine := by rw [List.size_toArray]; unfold sizeLine; omega
 generalize hk : (i : Int) = k at hfit ⊢
 have M := @PySem.AutoListH.list_insert_list_int_val_1 l its.toArray n k ti u hfit hsz
 refine call_meets PySem.F.slot_list_insert ⟨_, e, rfl⟩ PySem.F.entry_list_insert (PySem.F.args_list_insert_3 _ _ _) M ⟨e, ?_⟩
 refine ⟨.non, _, I.lset (its' := its.take i ++ u :: its.drop i) hH e ?_ ((r.take i).append (.cons r3 (r.drop i))) ?_, rfl, q⟩
 ·have h0 : ¬ (k < 0) := by omega
  have h1 : min k.toNat its.toArray.size = i := by rw [List.size_toArray]; omega
  dsimp only
  rw [if_neg h0, h1]
  simp
  exact List.take_of_length_le (by rw [List.length_drop]; exact Nat.le_refl _)
 ·rw [List.length_append, List.length_cons, List.length_take, List.length_drop]
  unfold sizeLine
  omega
noncomputable def gn : U → List U → Sto → Option (U × Sto)
 | .ref l, [.int i, u], S => match S[l]? with
  | some (.lst us) => if 0 ≤ i ∧ i ≤ us.length ∧ us.length < LIM then some (.non, S.set l (.lst (us.take i.toNat ++ u :: us.drop i.toNat))) else none
  | _ => none
 | _, _, _ => none
theorem yc : MtP K uQ gn := by
 intro m S H x v us vs u S' Q sr ix i hf post
 match x, us, hf with
 | .ref l, [.int k, w], hf =>
  simp only [gn] at hf
  split at hf <;> try cases hf
  rename_i ws hS
  split at hf <;> try cases hf
  have hk : 0 ≤ k ∧ k ≤ ws.length ∧ ws.length < LIM := by assumption
  obtain ⟨a, ha, rfl⟩ := ix.of_ref
  obtain ⟨a', ha', xs, hx, la⟩ := sr.get hS
  rw [ha] at ha'; cases ha'
  obtain ⟨y1, r, rfl, iy, t⟩ := i.of_cons
  obtain ⟨y2, rfl, iw⟩ := t.one
  have hL : ws.length < 100000 := hk.2.2
  have eu : Ext K m H m (upd H a (.lst (xs.take k.toNat ++ y2 :: xs.drop k.toNat))) := .of (sr.keep ha _)
  refine ⟨a, xs, y2, k.toNat, rfl, ?_, hx, by rw [la.length]; omega, by rw [la.length]; omega, post m _ _ eu (sr.put ha ⟨_, aK, ((la.take _).append (.cons_ iw (la.drop _))).mono eu⟩) .non_⟩
  rw [iy.of_int, Int.toNat_of_nonneg hk.1]
variable {e : Expr} {es : List Expr} {co : CE} {cr : CA} {o : Expr} {apos cpos : Pos}
theorem nX (ho : QE X o co) (ha : QA X (e :: es) cr) (hbase : attributeBase o "insert" X.env (eval o X.env) = eval o X.env := by rfl) (hfew : ((backTo cpos (starEach (e :: es) X.env)).all (fun x => !x.1) && (backToKw cpos (keywordEach [] X.env)).all (fun x => x.1.isSome)
   && decide ((e :: es).length + ([] : List Keyword).length + (if ([] : List Keyword).isEmpty then 0 else 1) < 30)) = true := by rfl) (hline : (apos.endLine == cpos.line) = true := by rfl) (hs : starEach (e :: es) X.env = (false, eval e X.env) :: starEach es X.env := by rfl) (hplain : (backTo cpos (starEach es X.env)).any (·.1) = false := by rfl) :
  QE X (.Call (.Attribute o "insert" apos) (e :: es) [] cpos) (cBM gn co cr) := (uA PySem.F.plainAttrs_list PySem.F.slot_list_insert PySem.F.type_list_insert vw ho ha.h hbase hfew hline hs hplain).imp (sy yc)
end
section
variable {X : Cx} {K : PySem.W.Frag}
theorem Bj {pins : List (Addr × Obj)} {σ : L2.St} {H : Hp} {s : Shared} {b : Addr} {ks : List Key} (I : Inv X pins σ H s) (sq : SqT X.K H b (ks.map kV)) : (tupleKind (cD X.prog X.w)).is s.heap ks b := by
 obtain ⟨its, r, ⟨o, h1, h2, n, h3⟩, _⟩ := I.tuple sq
 exact ⟨o, its.toArray, n, h1, h2, h3, by simpa using me r⟩
variable {Nc capN tn : List Str} {scope : Scope} {cl : List (Str × Addr)} {n : Nat} {caps : List Nat} {tg iter elt c : Expr} {pos : Pos} {ci : CE} {g : CG} {ct : CT} {ce : CE}
end
end OP
namespace OG
open PySem PySem.Spec PyProof.Rows L2
open PySem.AutoSeq1 (wpAny_loadPart')
section
variable {X : Cx}
noncomputable def zq : V → List V → Hp → VK → Prop := fun x xs H Q => ∃ a : Str, x = .str a ∧ xs = [] ∧ (Txt.upper a).length ≤ 100000 ∧ Q (.str (Txt.upper a)) H
theorem yh : MtR X "str.upper" zq := by
 rintro pins s σ H x xs v us Q I rx rs ⟨a, rfl, rfl, hl, q⟩
 obtain ⟨t, rfl⟩ := rx
 cases rs
 refine SC.upper ?_ ⟨.str _, H, I.tok _, ⟨_, rfl⟩, q⟩
 unfold Builtin.Str.tooLong
 have line : 100000 ≤ sizeLine := by unfold sizeLine; decide
 exact decide_eq_false (by omega)
end
end OG
namespace OP
open PySem PySem.Spec PyProof PyProof.Rows L2 OG PySem.W
section
variable {X : Cx} {K : PySem.W.Frag} {a b o e : Expr} {es : List Expr} {ca cb co : CE} {cr : CA} {pos apos cpos : Pos}
noncomputable def fh : U → List U → Sto → Option (U × Sto)
 | .str x, [], S => if (Txt.upper x).length ≤ 100000 then some (.str (Txt.upper x), S) else none
 | _, _, _ => none
theorem A6 : MtP K zq fh := by
 intro m S H x v us vs u S' Q sr ix il hf post
 match x, us, hf with
 | .str x, [], hf =>
  simp only [fh] at hf
  split at hf <;> try cases hf
  rename_i hl
  exact ⟨x, ix.of_str, il.of_nil, hl, post m _ H .refl sr .str_⟩
noncomputable def qb (f : U → List U → Sto → Option (U × Sto)) (co : CE) : CE := fun ρ S => (co ρ S).bind fun p => match p.1 with
 | .str _ => f p.1 [] p.2
 | _ => none
theorem AE (ho : QE X o co) (hbase : attributeBase o "upper" X.env (eval o X.env) = eval o X.env := by rfl) (hline : (apos.endLine == cpos.line) = true := by rfl) : QE X (.Call (.Attribute o "upper" apos) [] [] cpos) (qb fh co) :=
 (uz PySem.F.plainAttrs_str PySem.F.slot_str_upper PySem.F.type_str_upper yh ho hbase hline).imp fun σ H Q hz => kI hz fun m ρ S u S' sr lr hc post => by
 obtain ⟨⟨x, S1⟩, h1, h2⟩ := Option.bind_eq_some_iff.mp hc
 refine ⟨m, ρ, S, x, S1, sr, lr, h1, fun m1 v1 H1 e1 sr1 i1 => ?_⟩
 cases x with
 | str z =>
  have ev := i1.of_str
  subst ev
  exact ⟨rfl, A6 m1 S1 H1 _ _ [] [] u S' Q sr1 i1 .nil_ h2 (post.mono e1)⟩
 | _ => simp at h2
noncomputable def IS : U → U → Sto → Option (U × Sto)
 | .str a, .str b, S => some (.bl (decide (a = b)), S)
 | .non, .str _, S => some (.bl false, S)
 | .bl _, .str _, S => some (.bl false, S)
 | .int _, .str _, S => some (.bl false, S)
 | .tup _, .str _, S => some (.bl false, S)
 | .ref l, .str _, S => match S[l]? with
  | some (.lst _) => some (.bl false, S)
  | _ => none
 | _, _, _ => none
noncomputable def Hz (K : PySem.W.Frag) : R2 := fun x y H Q => ∃ a b xs, x = .ref a ∧ y = .ref b ∧ SqT K H a xs ∧ SqT K H b [] ∧ Q (.bl (decide (xs.length = 0))) H
theorem DN (hu : X.A.units + 64 < cLine) : OpR X (compareOp .Eq) (Hz X.K) := by
 rintro pins s σ H x y v u Q I rx ry ⟨a, b, xs, rfl, rfl, ha, hb, q⟩
 cases rx
 cases ry
 obtain ⟨i1, r1, p1, _⟩ := I.tuple ha
 obtain ⟨i2, r2, p2, _⟩ := I.tuple hb
 have l1 := r1.length
 have l2 := r2.length
 have z2 : i2.toArray.size = 0 := by simp; simpa using l2.symm
 refine SeqAt.RcAt.tuples (e := fun _ => false) (show s.heap.IsTuple a i1.toArray from p1) (show s.heap.IsTuple b i2.toArray from p2) (by omega) (fun j h1 h2 => absurd h2 (by omega)) X.prog X.w X.xe _ ⟨.bl _, H, I, ?_, q⟩
 show Value.bool _ = Value.bool _
 congr 1
 rw [z2, Nat.min_zero]
 simp only [List.range_zero, List.all_nil, Bool.true_and, List.size_toArray, ← l1]
 rw [Bool.eq_iff_iff]; simp
noncomputable def En : U → U → Sto → Option (U × Sto)
 | .tup us, .tup [], S => some (.bl (decide (us.length = 0)), S)
 | _, _, _ => none
theorem Gz : OpP K (Hz K) En := by
 intro m S H x y v w u S' Q sr ix iy hf post
 match x, y, hf with
 | .tup us, .tup [], hf =>
  cases hf
  obtain ⟨a, xs, rfl, sa, la⟩ := ix.of_tup
  obtain ⟨b, ys, rfl, sb, lb⟩ := iy.of_tup
  have := lb.of_nil
  subst this
  exact ⟨a, b, xs, rfl, rfl, sa, sb, by rw [la.length]; exact post m _ H .refl sr .bl_⟩
end
section
variable {X : Cx} {K : PySem.W.Frag}
noncomputable def sv (cd ck : CE) : CE := fun ρ S => (cd ρ S).bind fun p => match p.1 with
 | .ref l => match p.2[l]? with
  | some (.dic _) => (ck ρ p.2).bind fun q => match q.2[l]? with
   | some (.dic kus) => (kG q.1).bind fun k => some ((aX kus k).getD .non, q.2)
   | _ => none
  | _ => none
 | _ => none
theorem AI {o e : Expr} {cd ck : CE} {apos pos : Pos} (hu : X.A.units + 1 < cLine) (ho : QE X o cd) (he : QE X e ck) (hm : M1 X o "get" apos e pos) : QE X (.Call (.Attribute o "get" apos) [e] [] pos) (sv cd ck) := (uw hu ho he hm).imp fun σ H Q hz => kI hz fun m ρ S u S' sr lr hc post => by
 obtain ⟨⟨x, S1⟩, h1, h⟩ := Option.bind_eq_some_iff.mp hc
 refine ⟨m, ρ, S, x, S1, sr, lr, h1, fun m1 v1 H1 e1 sr1 i1 => ?_⟩
 cases x with
 | ref l =>
  simp only at h
  split at h <;> try cases h
  rename_i kus0 hS
  obtain ⟨⟨ku, S2⟩, h2, h⟩ := Option.bind_eq_some_iff.mp h
  simp only at h
  split at h <;> try cases h
  rename_i kus hS2
  obtain ⟨k, hk, h⟩ := Option.bind_eq_some_iff.mp h
  cases h
  obtain ⟨a, ha, rfl⟩ := i1.of_ref
  obtain ⟨a', ha', kvs0, hx0, _⟩ := sr1.get hS
  rw [ha] at ha'; cases ha'
  refine ⟨a, rfl, .inl ⟨kvs0, .inl hx0⟩, m1, ρ, S1, ku, _, sr1, lr.mono e1, h2, fun m2 v2 H2 e2 sr2 i2 => ?_⟩
  obtain ⟨a', ha', kvs, hx, ip⟩ := sr2.get hS2
  rw [e2.get ha] at ha'; cases ha'
  have ek := iI i2 hk
  subst ek
  have rf := IsP.val (k := k) ip
  refine ⟨_, DGet.k hx, post m2 _ H2 (e1.trans e2) sr2 ?_⟩
  cases hv : mT kvs k with
  | none =>
   cases hw : aX kus k with
   | none => exact .non_
   | some w => rw [hv, hw] at rf; exact rf.elim
  | some v =>
   cases hw : aX kus k with
   | none => rw [hv, hw] at rf; exact rf.elim
   | some w => rw [hv, hw] at rf; exact rf
 | _ => simp at h
noncomputable def oH (co ca : CE) (cl ch : Option CE) (cv : CE) : CS := fun ρ S => (cv ρ S).bind fun p => (co ρ p.2).bind fun q => (ca ρ q.2).bind fun r => (gZ cl ρ r.2).bind fun s => (gZ ch ρ s.2).bind fun t => match q.1, r.1 with
 | .ref l, .tup us => if HT.sIx us.length 0 s.1 = 0 ∧ HT.sIx us.length us.length t.1 = us.length then none else match t.2[l]? with
  | some (.dit kus) => (Au (sg us s.1 t.1)).bind fun k => if kus.length < LIM then some (.nx, ρ, t.2.set l (.dit (iE kus k p.1))) else none
  | _ => none
 | _, _ => none
theorem uT {o e v : Expr} {lo hi : Option Expr} {co ca cv : CE} {cl ch : Option CE} {p2 p3 pos pos' : Pos} (hu : X.A.units + 1 < cLine) (ho : QE X o co) (ha : QE X e ca) (hl : QO X lo cl) (hh : QO X hi ch) (hv : QE X v cv)
  (hs : swapsWith v (some (.Subscript o (.Subscript e (.Slice lo hi none p2) p3) pos')) pos.line X.env = pure false := by rfl) : QS X (.Assign [.Subscript o (.Subscript e (.Slice lo hi none p2) p3) pos'] v pos) (oH co ca cl ch cv) :=
 (nP hu ho (lA zm ha hl hh) hv hs).imp fun D σ H hz => sd hz fun m ρ S oo ρ' S' sr lr hc post => by
 obtain ⟨⟨v, S1⟩, h1, c1⟩ := Option.bind_eq_some_iff.mp hc
 obtain ⟨⟨ou, S2⟩, h2, c2⟩ := Option.bind_eq_some_iff.mp c1
 obtain ⟨⟨x, S3⟩, h3, c3⟩ := Option.bind_eq_some_iff.mp c2
 obtain ⟨⟨l, S4⟩, h4, c4⟩ := Option.bind_eq_some_iff.mp c3
 obtain ⟨⟨k, S5⟩, h5, h⟩ := Option.bind_eq_some_iff.mp c4
 clear hc c1 c2 c3 c4
 cases ou with
 | ref r =>
  cases x with
  | tup us =>
   simp only at h
   split at h <;> try cases h
   rename_i hw
   split at h <;> try cases h
   rename_i kus hS
   obtain ⟨ks, hk, h6⟩ := Option.bind_eq_some_iff.mp h
   split at h6 <;> try cases h6
   rename_i gW
   refine ⟨m, ρ, S, v, S1, sr, lr, h1, fun m1 v1 H1 e1 sr1 i1 => ⟨m1, ρ, S1, _, S2, sr1, lr.mono e1, h2, fun m2 v2 H2 e2 sr2 i2 => ⟨m2, ρ, S2, _, S3, sr2, lr.mono (e1.trans e2), h3, fun m3 v3 H3 e3 sr3 i3 => ⟨m3, ρ, S3, l, S4, sr3, lr.mono ((e1.trans e2).trans e3), h4, fun m4 H4 e4 sr4 => ⟨m4, ρ, S4, k, S5, sr4, lr.mono (((e1.trans e2).trans e3).trans e4), h5, fun m5 H5 e5 sr5 => ?_⟩⟩⟩⟩⟩
   obtain ⟨b, xs, rfl, sb, lb⟩ := (i3.mono (e4.trans e5)).of_tup
   refine ⟨b, xs, rfl, sb, by rw [lb.length]; exact hw, fun p hp => ?_⟩
   obtain ⟨a, ha, rfl⟩ := (i2.mono ((e3.trans e4).trans e5)).of_ref
   obtain ⟨a', ha', kvs, hx, ip⟩ := sr5.get hS
   rw [ha] at ha'; cases ha'
   have hvs := nT (wC lb) hk
   rw [hvs]
   have s3 : qc H5 (upd H5 p (.tup (ks.map kV))) := dQ hp _
   have en : Ext X.K m5 H5 m5 (upd H5 p (.tup (ks.map kV))) := .of (b8 hp _)
   have srn := sr5.same s3
   have hxn : (upd H5 p (.tup (ks.map kV))) a = some (.dT kvs) := s3 _ _ hx
   have e15 := ((((e1.trans e2).trans e3).trans e4).trans e5).trans en
   have ee : Ext X.K m5 (upd H5 p (.tup (ks.map kV))) m5 (upd (upd H5 p (.tup (ks.map kV))) a (.dT (pj kvs ks v1))) := .of (srn.keep ha _)
   exact ⟨a, _, rfl, yX.t hxn aK (BS (by rw [IsP.length ip]; exact gW)), post m5 σ _ (e15.trans ee) (srn.put ha ⟨_, aK, (IsP.put (ip.mono en) (i1.mono ((((e2.trans e3).trans e4).trans e5).trans en))).mono ee⟩) (lr.mono (e15.trans ee))⟩
  | _ => simp at h
 | _ => simp at h
noncomputable def Ax (K : PySem.W.Frag) (td ty tx : TE) : TE := fun σ H Q => td σ H fun x H1 => ∃ a, x = .ref a ∧ IsD H1 a ∧ ty σ H1 fun y H2 => tx σ H2 fun z H3 => ∃ (b : Addr) (kvs : List (List Key × V)) (k : List Key), y = .ref b ∧ Rd H3 a (.dT kvs) ∧ SqT K H3 b (k.map kV) ∧ Q ((mT kvs k).getD z) H3
theorem sL {o e f : Expr} {td ty tx : TE} {apos cpos : Pos} (hu : X.A.units + 1 < cLine) (ho : WE X o td) (he : WE X e ty) (hf : WE X f tx) (m : M2 X o "get" apos e f cpos) : WE X (.Call (.Attribute o "get" apos) [e, f] [] cpos) (Ax X.K td ty tx) := by
 constructor
 intro pins s σ H Q I h
 refine wpAny_Call_method m.base m.few m.line PySem.F.plainAttrs_dict PySem.F.slot_dict_get PySem.F.type_dict_get (thn (ho.h pins s σ H _ I h) fun u s1 hz => ?_)
 obtain ⟨x, H1, I1, rx, a, ex, d, q1⟩ := hz
 subst ex
 cases (show u = Value.ref a from rx)
 obtain ⟨t1, t2, _⟩ := vQ I1 d
 refine ⟨t1, t2, ?_⟩
 rw [m.trees]
 refine Calls.callWith_builtin rfl (Calls.evalArgs_plain (Calls.spliced_cons (thn (he.h pins s1 σ H1 _ I1 q1) fun iv s2 hz => ?_)))
 obtain ⟨y, H2, I2, ry, q2⟩ := hz
 refine Calls.spliced_cons (thn (hf.h pins s2 σ H2 _ I2 q2) fun fv s3 hz => Calls.spliced_nil ?_)
 obtain ⟨z, H3, I3, rz, b, kvs, k, ey, e, sq, q3⟩ := hz
 subst ey
 cases (show iv = Value.ref b from ry)
 obtain ⟨zl, hd, xs, rel, dd⟩ := oE I3.hok e
 refine call_meetsIn PySem.F.slot_dict_get dd.typeIs PySem.F.entry_dict_get (PySem.F.args_dict_get_3 _ _ _) (meetsH_dict_get_default (tupleKind (cD X.prog X.w)) a b hd fv) ⟨tupleKind_room_in1 hu, k, xs, Bj I3 sq, dd, ?_⟩
 exact ⟨_, H3, I3.tok _, (rel.val k).getD rz, q3⟩
noncomputable def su (cd ck cx : CE) : CE := fun ρ S => (cd ρ S).bind fun p => match p.1 with
 | .ref l => match p.2[l]? with
  | some (.dit _) => (ck ρ p.2).bind fun q => (cx ρ q.2).bind fun r => match q.1, r.2[l]? with
   | .tup us, some (.dit kus) => (Au us).bind fun k => some ((aX kus k).getD r.1, r.2)
   | _, _ => none
  | _ => none
 | _ => none
theorem AH {o e f : Expr} {cd ck cx : CE} {apos pos : Pos} (hu : X.A.units + 1 < cLine) (ho : QE X o cd) (he : QE X e ck) (hf : QE X f cx) (hm : M2 X o "get" apos e f pos) : QE X (.Call (.Attribute o "get" apos) [e, f] [] pos) (su cd ck cx) := (sL hu ho he hf hm).imp fun σ H Q hz => kI hz fun m ρ S u S' sr lr hc post => by
 obtain ⟨⟨x, S1⟩, h1, h⟩ := Option.bind_eq_some_iff.mp hc
 refine ⟨m, ρ, S, x, S1, sr, lr, h1, fun m1 v1 H1 e1 sr1 i1 => ?_⟩
 cases x with
 | ref l =>
  simp only at h
  split at h <;> try cases h
  rename_i kus0 hS
  obtain ⟨⟨ku, S2⟩, h2, c2⟩ := Option.bind_eq_some_iff.mp h
  obtain ⟨⟨xu, S3⟩, h3, c3⟩ := Option.bind_eq_some_iff.mp c2
  clear h c2 hc
  simp only at c3
  split at c3 <;> try cases c3
  rename_i us kus hS3
  obtain ⟨k, hk, c4⟩ := Option.bind_eq_some_iff.mp c3
  cases c4
  obtain ⟨a, ha, rfl⟩ := i1.of_ref
  obtain ⟨a', ha', kvs0, hx0, _⟩ := sr1.get hS
  rw [ha] at ha'; cases ha'
  refine ⟨a, rfl, .inr ⟨kvs0, .inl hx0⟩, m1, ρ, S1, _, S2, sr1, lr.mono e1, h2, fun m2 v2 H2 e2 sr2 i2 => ⟨m2, ρ, S2, xu, _, sr2, lr.mono (e1.trans e2), h3, fun m3 v3 H3 e3 sr3 i3 => ?_⟩⟩
  obtain ⟨b, xs, rfl, sb, lb⟩ := (i2.mono e3).of_tup
  have hxs := nT lb hk
  subst hxs
  obtain ⟨a', ha', kvs, hx, ip⟩ := sr3.get hS3
  rw [(e2.trans e3).get ha] at ha'; cases ha'
  have rf := IsP.val (k := k) ip
  refine ⟨b, kvs, k, rfl, .inl hx, sb, post m3 _ H3 ((e1.trans e2).trans e3) sr3 ?_⟩
  cases hv : mT kvs k with
  | none =>
   cases hw : aX kus k with
   | none => exact i3
   | some w => rw [hv, hw] at rf; exact rf.elim
  | some v =>
   cases hw : aX kus k with
   | none => rw [hv, hw] at rf; exact rf.elim
   | some w => rw [hv, hw] at rf; exact rf
 | _ => simp at h
end
end OP
namespace OQ
open PySem PySem.Spec PyProof.Rows L2 OG OP
noncomputable def eO : CS :=
 (aZ (d9 (aG (cOp fEq (cOp fIx (ak 0) (cC (.int 2))) (cC (.int 0)))) (aZ (bZ 2 (cOp fIx (ak 0) (cC (.int 1))))
  (aZ (fJ (ak 0) (cC (.int 1)) (cOp bD (ak 2) (cC (.int 1))))
  (aZ (bZ 3 (cC (.int 0)))
  (aZ (d9 (aG (cOp fLt (ak 2) (cCB jd (ab (cOp fIx (ak 0) (cC (.int 0))) aq)))) (bZ 3 (cOp fIx (cOp fIx (ak 0) (cC (.int 0))) (ak 2))) (d9 (aG (cOp fGt (cCB jd (ab (cOp fIx (ak 0) (cC (.int 0))) aq)) (cC (.int 0)))) (bZ 3 (cOp bD (cOp mw (cOp fIx (cOp fIx (ak 0) (cC (.int 0))) (cOp mw (cOp mv (ak 2) (cC (.int 3))) (cCB jd (ab (cOp fIx (ak 0) (cC (.int 0))) aq)))) (cC (.int 1000003))) (cOp mv (cC (.int 97)) (ak 2)))) bM))
  (aZ (bZ 4 (cOp mw (cOp mv (cOp bD (cOp bD (cOp mw (ak 3) (cC (.int 998244353))) (cOp mv (cC (.int 53)) (ak 2))) (cC (.int 1))) (cC (.int 48271))) (cC (.int 2147483647))))
  (aZ (bZ 5 (cOp mw (cOp bD (cOp bD (cOp mv (ak 4) (ak 4)) (cOp mv (cC (.int 69621)) (ak 2))) (cC (.int 5))) (cC (.int 1000000007))))
  (aZ (bZ 6 (cOp mw (cOp bD (cOp mv (ak 5) (ak 5)) (ak 4)) (cC (.int 998244353))))
  (aZ (fJ (ak 0) (cC (.int 2)) (cOp bD (cOp yB (cOp bD (cOp mv (ak 5) (cC (.int 998244353))) (ak 6)) (cC (.int 16))) (cC (.int 1))))
  (d9 (aG (cOp fGe (ak 3) (cOp yA (cC (.int 10)) (cC (.int 18))))) (fJ (ak 0) (cC (.int 2)) (cOp yB (ak 3) (cOp yA (cC (.int 10)) (cC (.int 18))))) bM))))))))) bM)
  (aZ (bZ 7 (cOp mw (cOp fIx (ak 0) (cC (.int 2))) (ak 1)))
  (aZ (fJ (ak 0) (cC (.int 2)) (cOp yB (cOp fIx (ak 0) (cC (.int 2))) (ak 1)))
  (ed (ak 7)))))
theorem qM {a0 a1 : U} {S : Sto} : fnU 8 2 (eO ) [a0, a1] S = ((eO ) [some a0, some a1, none, none, none, none, none, none] S).bind kFn := lq rfl
noncomputable def fi (ag : Fn) : CS :=
 (ed (aN (ab (cOp bD (cC (.int 1)) (cCB ag (ab (ak 0) (ab (cC (.int 6)) aq)))) (ab (cOp fIx (bE (ab (cC (.int 2)) (ab (cC (.int 3)) (ab (cC (.int 5)) (ab (cC (.int 10)) (ab (cOp bD (cC (.int 2)) (cCB ag (ab (ak 0) (ab (cC (.int 999)) aq)))) aq)))))) (cCB ag (ab (ak 0) (ab (cC (.int 5)) aq)))) aq))))
theorem pL {ag : Fn} {a0 : U} {S : Sto} : fnU 1 1 (fi ag) [a0] S = ((fi ag) [some a0] S).bind kFn := lq rfl
noncomputable def fj (ag : Fn) : CS :=
 (ed (cCB gK (ab (g9 (bY (ab (cOp fIx (ak 1) (cC (.int 0))) aq)) (gNm 0) (cCB ag (ab (ak 1) (ab (cOp fIx (ak 2) (cC (.int 1))) aq))) 1 [0, 1]) aq)))
theorem pM {ag : Fn} {a0 a1 : U} {S : Sto} : fnU 2 2 (fj ag) [a0, a1] S = ((fj ag) [some a0, some a1] S).bind kFn := lq rfl
noncomputable def gy (ag : Fn) : CS :=
 (fC (cBM dB (ak 3) (ab (cBM kH (ak 2) (ab (cCB ag (ab (ak 0) (ab (cCB jd (ab (ak 2) aq)) aq))) aq)) aq)))
noncomputable def fk (ag : Fn) : CS :=
 (aZ (bZ 2 (kf (ab (cC (.int 200)) aq)))
  (aZ (bZ 3 (bE aq))
  (aZ (mW (bY (ab (ak 1) aq)) (gNm 4) (gy ag))
  (ed (ak 3)))))
theorem pN {ag : Fn} {a0 a1 : U} {S : Sto} : fnU 5 2 (fk ag) [a0, a1] S = ((fk ag) [some a0, some a1, none, none, none] S).bind kFn := lq rfl
noncomputable def eC : CS :=
 (ed (cCB gK (ab (g9 (Bu (ak 0)) (gTp [0, 1]) (qS (ak 2) (ak 0) (ak 1)) 2 [1]) aq)))
theorem oA {a0 a1 : U} {S : Sto} : fnU 2 2 (eC ) [a0, a1] S = ((eC ) [some a0, some a1] S).bind kFn := lq rfl
noncomputable def dC (ag : Fn) : CS :=
 (aZ (bZ 6 (cCB ag (ab (ak 0) (ab (cC (.int 12)) aq))))
  (aZ (bZ 7 (cCB ag (ab (ak 0) (ab (cOp fIx (ak 1) (cC (.int 0))) aq))))
  (aZ (d9 (aG (cOp fLt (ak 6) (cC (.int 5)))) (aZ (bZ 8 (cOp fIx (bE (ab (cOp fIx (ak 3) (ak 7)) (ab (cOp fIx (ak 3) (ak 7)) (ab (cOp fIx (ak 5) (ak 7)) (ab (cCB ag (ab (ak 0) (ab (cOp fIx (ak 1) (cC (.int 1))) aq))) aq))))) (cCB ag (ab (ak 0) (ab (cC (.int 4)) aq)))))
  (ed (aN (ab (cC (.str "look")) (ab (ak 2) (ab (ak 7) (ab (qS (ak 4) (ak 7) (ak 8)) aq))))))) bM)
  (aZ (d9 (aG (cOp fLt (ak 6) (cC (.int 8)))) (ed (aN (ab (cC (.str "put")) (ab (ak 2) (ab (ak 7) (ab (cCB ag (ab (ak 0) (ab (cOp fIx (ak 1) (cC (.int 1))) aq))) aq)))))) bM)
  (ed (aN (ab (cOp fIx (bE (ab (cC (.str "done")) (ab (cC (.str "done")) (ab (cC (.str "done")) (ab (cC (.str "fall")) aq))))) (cOp tY (ak 6) (cC (.int 8)))) (ab (ak 2) aq))))))))
theorem pO {ag : Fn} {a0 a1 a2 a3 a4 a5 : U} {S : Sto} : fnU 9 6 (dC ag) [a0, a1, a2, a3, a4, a5] S = ((dC ag) [some a0, some a1, some a2, some a3, some a4, some a5, none, none, none] S).bind kFn := lq rfl
noncomputable def gj (cm ag cq bP : Fn) : CS :=
 (d9 (BU (aG (cOp (mV true) (ak 5) (bE aq))) (cOr (aG (cOp (mV false) (ak 8) (bE aq))) (aG (cOp fEq (cCB ag (ab (ak 0) (ab (cC (.int 4)) aq))) (cC (.int 0)))))) (aZ (fC (cBM dB (ak 8) (ab (aN (ab (cBM BA (ak 5) aq) (ab (ak 7) (ab nq aq)))) aq)))
  (fC (cBM dB (ak 6) (ab (aN (ab (cC (.str "begin")) (ab (cOp fIx (cOp fIx (ak 8) (pW (cC (.int 1)))) (cC (.int 0))) aq))) aq)))) (d9 (aG (cOp (mV true) (ak 8) (bE aq))) (aZ (bZ 10 (cCB ag (ab (ak 0) (ab (cCB jd (ab (ak 8) aq)) aq))))
  (aZ (EB (cOp fIx (ak 8) (ak 10)) (gTp [11, 12, 13]))
  (aZ (fC (cBM dB (ak 6) (ab (cCB cq (ab (ak 0) (ab (ak 1) (ab (ak 11) (ab (ak 12) (ab (ak 13) (ab (ak 7) aq))))))) aq)))
  (aZ (d9 (aG (cOp fEq (cOp fIx (cOp fIx (ak 6) (pW (cC (.int 1)))) (cC (.int 0))) (cC (.str "put")))) (fJ (ak 13) (cOp fIx (cOp fIx (ak 6) (pW (cC (.int 1)))) (cC (.int 2))) (cOp fIx (cOp fIx (ak 6) (pW (cC (.int 1)))) (cC (.int 3)))) (d9 (aG (cOp fEq (cOp fIx (cOp fIx (ak 6) (pW (cC (.int 1)))) (cC (.int 0))) (cC (.str "done")))) (bZ 7 (cCB bP (ab (ak 7) (ab (ak 13) aq)))) bM))
  (d9 (aG (cOp (fIn false) (cOp fIx (cOp fIx (ak 6) (pW (cC (.int 1)))) (cC (.int 0))) (aN (ab (cC (.str "done")) (ab (cC (.str "fall")) aq))))) (fC (cBM kH (ak 8) (ab (ak 10) aq))) bM))))) bM))
noncomputable def gN (cm ag cq bP : Fn) : CS :=
 (aZ (bZ 5 (cCB cm (ab (ak 0) (ab (cCB ag (ab (ak 0) (ab (cOp bD (ak 3) (cC (.int 1))) aq))) aq))))
  (aZ (bZ 6 (bE aq))
  (aZ (bZ 7 (ak 2))
  (aZ (bZ 8 (bE aq))
  (aZ (mW (bY (ab (cCB ag (ab (ak 0) (ab (cOp bD (ak 4) (cC (.int 1))) aq))) aq)) (gNm 9) (gj cm ag cq bP))
  (ed (ak 6)))))))
theorem tL {cm ag cq bP : Fn} {a0 a1 a2 a3 a4 : U} {S : Sto} : fnU 14 5 (gN cm ag cq bP) [a0, a1, a2, a3, a4] S = ((gN cm ag cq bP) [some a0, some a1, some a2, some a3, some a4, none, none, none, none, none, none, none, none, none] S).bind kFn := lq rfl
noncomputable def bI (ay : Cl) : CS :=
 (d9 (aG (cOp (fIn true) (ak 2) (cOp fIx (kJ ay 3 (ak 0)) (ak 1)))) (aZ (fC (cBM dB (cOp fIx (kJ ay 1 (ak 0)) (ak 1)) (ab (aN (ab (ak 2) (ab (ak 3) aq))) aq)))
  (mK (cOp fIx (kJ ay 2 (ak 0)) (ak 1)) (ab (ak 2) (ab (ak 3) aq)) (cC (.bl true)))) bM)
theorem jS {ay : Cl} {a0 a1 a2 a3 : U} {S : Sto} : fnU 4 4 (bI ay) [a0, a1, a2, a3] S = ((bI ay) [some a0, some a1, some a2, some a3] S).bind kFn := lq rfl
noncomputable def dJ (ay : Cl) : CS :=
 (aZ (fJ (kJ ay 4 (ak 0)) (ak 1) (kY (kJ ay 0 (ak 0)) (gNm 0) (aG (cOp fNe (cOp fIx (kJ ay 0 (ak 1)) (ak 0)) (cC (.str "open")))) (ak 0) 1 [0]))
  (aZ (fJ (kJ ay 0 (ak 0)) (ak 1) (cC (.str "open")))
  (aZ (fJ (kJ ay 1 (ak 0)) (ak 1) (bE aq))
  (aZ (fJ (kJ ay 2 (ak 0)) (ak 1) pY)
  (fJ (kJ ay 3 (ak 0)) (ak 1) nq)))))
theorem nj {ay : Cl} {a0 a1 : U} {S : Sto} : fnU 2 2 (dJ ay) [a0, a1] S = ((dJ ay) [some a0, some a1] S).bind kFn := lq rfl
noncomputable def br (cG bj : Fn) (ay : Cl) : CS :=
 (aZ (bZ 2 (cOp fIx (ak 1) (cC (.int 1))))
  (d9 (aG (cOp fEq (cOp fIx (ak 1) (cC (.int 0))) (cC (.str "begin")))) (fC (qR ay cG (ak 0) (ab (ak 2) aq))) (d9 (aG (cOp fEq (cOp fIx (ak 1) (cC (.int 0))) (cC (.str "look")))) (fC (qR ay bj (ak 0) (ab (ak 2) (ab (cOp fIx (ak 1) (cC (.int 2))) (ab (cOp fIx (ak 1) (cC (.int 3))) aq))))) (d9 (aG (cOp fEq (cOp fIx (ak 1) (cC (.int 0))) (cC (.str "put")))) (fJ (cOp fIx (kJ ay 3 (ak 0)) (ak 2)) (cOp fIx (ak 1) (cC (.int 2))) (cOp fIx (ak 1) (cC (.int 3)))) (fJ (kJ ay 0 (ak 0)) (ak 2) (cOp fIx (ak 1) (cC (.int 0))))))))
theorem mE {cG bj : Fn} {ay : Cl} {a0 a1 : U} {S : Sto} : fnU 3 2 (br cG bj ay) [a0, a1] S = ((br cG bj ay) [some a0, some a1, none] S).bind kFn := lq rfl
noncomputable def eD (ay : Cl) : CS :=
 (aZ (qQ ay 0 (ak 0) nq)
  (aZ (qQ ay 1 (ak 0) nq)
  (aZ (qQ ay 2 (ak 0) nq)
  (aZ (qQ ay 3 (ak 0) nq)
  (qQ ay 4 (ak 0) nq)))))
theorem oC {ay : Cl} {a0 : U} {S : Sto} : fnU 1 1 (eD ay) [a0] S = ((eD ay) [some a0] S).bind kFn := lq rfl
noncomputable def gM : CS :=
 (ed (mL (pX .int (ak 0)) (wM (pX .bool (ak 0)))))
theorem tJ {a0 : U} {S : Sto} : fnU 1 1 (gM ) [a0] S = ((gM ) [some a0] S).bind kFn := lq rfl
noncomputable def cI (eN : Fn) : CS :=
 (ed (mL (cCB eN (ab (ak 0) aq)) (nL fLe fLe (ak 1) (ak 0) (ak 2))))
theorem qL {eN : Fn} {a0 a1 a2 : U} {S : Sto} : fnU 3 3 (cI eN) [a0, a1, a2] S = ((cI eN) [some a0, some a1, some a2] S).bind kFn := lq rfl
noncomputable def aI (ay : Cl) : CS :=
 (aZ (bZ 2 (cOp fIx (ak 1) (cC (.int 1))))
  (aZ (d9 (aG (cOp fEq (cOp fIx (ak 1) (cC (.int 0))) (cC (.str "begin")))) (ed (cOp (fIn true) (ak 2) (kJ ay 0 (ak 0)))) bM)
  (aZ (d9 (aG (cOp fNe (sv (kJ ay 0 (ak 0)) (ak 2)) (cC (.str "open")))) (ed (cC (.bl false))) bM)
  (aZ (d9 (aG (cOp fEq (cOp fIx (ak 1) (cC (.int 0))) (cC (.str "look")))) (ed (cOp fEq (qS (cOp fIx (kJ ay 3 (ak 0)) (ak 2)) (cOp fIx (ak 1) (cC (.int 2))) (cOp fIx (ak 1) (cC (.int 3)))) (cOp fIx (ak 1) (cC (.int 3))))) bM)
  (ed (cC (.bl true)))))))
theorem mF {ay : Cl} {a0 a1 : U} {S : Sto} : fnU 3 2 (aI ay) [a0, a1] S = ((aI ay) [some a0, some a1, none] S).bind kFn := lq rfl
noncomputable def bC (cW : Fn) : CS :=
 (aZ (d9 (cOr (p9 (aG (pX .tuple (ak 1)))) (cOr (aG (cOp fLt (cCB jd (ab (ak 1) aq)) (cC (.int 2)))) (p9 (aG (cCB cW (ab (cOp fIx (ak 1) (cC (.int 1))) (ab (cC (.int 0)) (ab (cC (.int 199)) aq)))))))) (ed (cC (.bl false))) bM)
  (aZ (d9 (aG (cOp (zG false) (cOp fIx (ak 1) (cC (.int 0))) (aN (ab (cC (.str "begin")) (ab (cC (.str "done")) (ab (cC (.str "fall")) aq)))))) (ed (cOp fEq (cCB jd (ab (ak 1) aq)) (cC (.int 2)))) bM)
  (aZ (d9 (BU (aG (cOp (zG false) (cOp fIx (ak 1) (cC (.int 0))) (aN (ab (cC (.str "look")) (ab (cC (.str "put")) aq))))) (aG (cOp fEq (cCB jd (ab (ak 1) aq)) (cC (.int 4))))) (ed (mL (cCB cW (ab (cOp fIx (ak 1) (cC (.int 2))) (ab (cC (.int 0)) (ab (cOp tY (cOp fIx (ak 0) (cC (.int 0))) (cC (.int 1))) aq)))) (cCB cW (ab (cOp fIx (ak 1) (cC (.int 3))) (ab (cC (.int 0)) (ab (cOp tY (cOp fIx (ak 0) (cC (.int 1))) (cC (.int 1))) aq)))))) bM)
  (ed (cC (.bl false))))))
theorem tK {cW : Fn} {a0 a1 : U} {S : Sto} : fnU 2 2 (bC cW) [a0, a1] S = ((bC cW) [some a0, some a1] S).bind kFn := lq rfl
noncomputable def gP (dF bq bo bQ : Fn) (ay : Cl) : CS :=
 (aZ (d9 (cOr (p9 (aG (cCB dF (ab (ak 0) (ab (ak 3) aq))))) (p9 (aG (qR ay bq (ak 2) (ab (ak 3) aq))))) (ed (cC (.bl false))) bM)
  (fC (qR ay bo (ak 2) (ab (ak 3) aq))))
noncomputable def fZ (dF bq bo bQ : Fn) (ay : Cl) : CS :=
 (aZ (d9 (cOr (p9 (aG (pX .list (ak 1)))) (aG (cOp fGt (cCB jd (ab (ak 1) aq)) (cC (.int 2000))))) (ed (cC (.bl false))) bM)
  (aZ (bZ 2 (cCB (tF ay bQ) aq))
  (aZ (mW (iTp (ak 1)) (gNm 3) (gP dF bq bo bQ ay))
  (ed (cC (.bl true))))))
theorem yJ {dF bq bo bQ : Fn} {ay : Cl} {a0 a1 : U} {S : Sto} : fnU 4 2 (fZ dF bq bo bQ ay) [a0, a1] S = ((fZ dF bq bo bQ ay) [some a0, some a1, none, none] S).bind kFn := lq rfl
noncomputable def bL : CS :=
 (ed (mL (pX .int (ak 0)) (mL (wM (pX .bool (ak 0))) (nL fLe fLe (ak 1) (ak 0) (ak 2)))))
theorem kQ {a0 a1 a2 : U} {S : Sto} : fnU 3 3 (bL ) [a0, a1, a2] S = ((bL ) [some a0, some a1, some a2] S).bind kFn := lq rfl
noncomputable def aD (aS : Fn) : CS :=
 (aZ (d9 (cOr (p9 (aG (pX .tuple (ak 1)))) (cOr (aG (cOp En (ak 1) (aN aq))) (p9 (aG (pX .str (cOp fIx (ak 1) (cC (.int 0)))))))) (ed (cC (.bl false))) bM)
  (aZ (d9 (aG (cOp (fIn false) (cOp fIx (ak 1) (cC (.int 0))) (aN (ab (cC (.str "begin")) (ab (cC (.str "done")) (ab (cC (.str "fall")) aq)))))) (ed (mL (cOp fEq (cCB jd (ab (ak 1) aq)) (cC (.int 2))) (cCB aS (ab (cOp fIx (ak 1) (cC (.int 1))) (ab (cC (.int 0)) (ab (cC (.int 199)) aq)))))) bM)
  (aZ (d9 (cOr (aG (cOp (fIn true) (cOp fIx (ak 1) (cC (.int 0))) (aN (ab (cC (.str "look")) (ab (cC (.str "put")) aq))))) (cOr (aG (cOp fNe (cCB jd (ab (ak 1) aq)) (cC (.int 4)))) (p9 (aG (cCB aS (ab (cOp fIx (ak 1) (cC (.int 1))) (ab (cC (.int 0)) (ab (cC (.int 199)) aq)))))))) (ed (cC (.bl false))) bM)
  (ed (mL (cCB aS (ab (cOp fIx (ak 1) (cC (.int 2))) (ab (cC (.int 0)) (ab (cOp tY (cOp fIx (ak 0) (cC (.int 0))) (cC (.int 1))) aq)))) (cCB aS (ab (cOp fIx (ak 1) (cC (.int 3))) (ab (cC (.int 0)) (ab (cOp tY (cOp fIx (ak 0) (cC (.int 1))) (cC (.int 1))) aq)))))))))
theorem mC {aS : Fn} {a0 a1 : U} {S : Sto} : fnU 2 2 (aD aS) [a0, a1] S = ((aD aS) [some a0, some a1] S).bind kFn := lq rfl
noncomputable def aC (bh : Fn) : CS :=
 (aZ (d9 (cOr (p9 (aG (cCB bh (ab (ak 0) (ab (ak 5) aq))))) (aG (cOp (fIn false) (cOp fIx (ak 5) (cC (.int 1))) (ak 3)))) (ed (cC (.bl false))) bM)
  (aZ (d9 (aG (cOp fEq (cOp (fIn false) (cOp fIx (ak 5) (cC (.int 1))) (ak 2)) (cOp fEq (cOp fIx (ak 5) (cC (.int 0))) (cC (.str "begin"))))) (ed (cC (.bl false))) bM)
  (aZ (d9 (aG (cOp fEq (cOp fIx (ak 5) (cC (.int 0))) (cC (.str "begin")))) (fC (cBM dB (ak 2) (ab (cOp fIx (ak 5) (cC (.int 1))) aq))) (d9 (aG (cOp fEq (cOp fIx (ak 5) (cC (.int 0))) (cC (.str "put")))) (oH (ak 4) (ak 5) (some (cC (.int 1))) (some (cC (.int 3))) (cOp fIx (ak 5) (cC (.int 3)))) (d9 (BU (aG (cOp fEq (cOp fIx (ak 5) (cC (.int 0))) (cC (.str "look")))) (aG (cOp fNe (su (ak 4) (cSl (ak 5) (some (cC (.int 1))) (some (cC (.int 3)))) (cOp fIx (ak 5) (cC (.int 3)))) (cOp fIx (ak 5) (cC (.int 3)))))) (ed (cC (.bl false))) bM)))
  (d9 (aG (cOp (fIn false) (cOp fIx (ak 5) (cC (.int 0))) (aN (ab (cC (.str "done")) (ab (cC (.str "fall")) aq))))) (fC (cBM dB (ak 3) (ab (cOp fIx (ak 5) (cC (.int 1))) aq))) bM))))
noncomputable def cZ (bh : Fn) : CS :=
 (aZ (d9 (cOr (p9 (aG (pX .list (ak 1)))) (aG (cOp fGt (cCB jd (ab (ak 1) aq)) (cC (.int 2000))))) (ed (cC (.bl false))) bM)
  (aZ (bZ 2 (bE aq))
  (aZ (bZ 3 (bE aq))
  (aZ (bZ 4 pY)
  (aZ (mW (iTp (ak 1)) (gNm 5) (aC bh))
  (ed (cC (.bl true))))))))
theorem oB {bh : Fn} {a0 a1 : U} {S : Sto} : fnU 6 2 (cZ bh) [a0, a1] S = ((cZ bh) [some a0, some a1, none, none, none, none] S).bind kFn := lq rfl
noncomputable def cR (ag : Fn) : CS :=
 (aZ (bZ 3 (cCB ag (ab (ak 0) (ab (cOp yA (cC (.int 10)) (cC (.int 50))) aq))))
  (aZ (bZ 4 (bE (ab (cCB j7 (ab (ak 2) aq)) (ab (cSl (ak 2) none (some (pW (cC (.int 1))))) (ab (cOp bD (ak 2) (aN (ab (cC (.int 0)) aq))) aq)))))
  (aZ (bZ 4 (cOp bD (ak 4) (bE (ab (cOp bD (aN (ab (qb fh (cOp fIx (ak 2) (cC (.int 0)))) aq)) (cSl (ak 2) (some (cC (.int 1))) none)) (ab (cC .non) (ab (cC (.str "begin")) (ab (aN aq) (ab (aN (ab (cC (.str "begin")) aq)) aq))))))))
  (aZ (bZ 4 (cOp bD (ak 4) (bE (ab (aN (ab (cC (.str "begin")) (ab (cC (.int 200)) aq))) (ab (aN (ab (cC (.str "begin")) (ab (cOp tY (cC (.int 0)) (cC (.int 1))) aq))) (ab (aN (ab (cC (.str "begin")) (ab (cC (.bl true)) aq))) aq))))))
  (aZ (bZ 4 (cOp bD (ak 4) (bE (ab (aN (ab (cC (.str "begin")) (ab (cC (.str "0")) aq))) (ab (aN (ab (cC (.str "fall")) (ab (cOp bD (cC (.int 200)) (ak 3)) aq))) (ab (aN (ab (cC (.str "done")) (ab (cC .non) aq))) aq))))))
  (aZ (bZ 5 (cOp fIx (ak 2) (cC (.int 1))))
  (aZ (bZ 4 (cOp bD (ak 4) (bE (ab (aN (ab (cC (.str "look")) (ab (ak 5) (ab (cOp fIx (ak 1) (cC (.int 0))) (ab (cC (.int 0)) aq))))) (ab (aN (ab (cC (.str "look")) (ab (ak 5) (ab (cC (.int 0)) (ab (cOp fIx (ak 1) (cC (.int 1))) aq))))) aq)))))
  (aZ (bZ 4 (cOp bD (ak 4) (bE (ab (aN (ab (cC (.str "look")) (ab (ak 5) (ab (cC (.int 0)) (ab (cOp bD (cOp fIx (ak 1) (cC (.int 1))) (ak 3)) aq))))) (ab (aN (ab (cC (.str "put")) (ab (ak 5) (ab (cOp tY (cC (.int 0)) (cC (.int 1))) (ab (cC (.int 0)) aq))))) aq)))))
  (aZ (bZ 4 (cOp bD (ak 4) (bE (ab (aN (ab (cC (.str "look")) (ab (ak 5) (ab (cC (.int 0)) (ab (cC (.bl false)) aq))))) (ab (aN (ab (cC (.str "put")) (ab (ak 5) (ab (cC (.int 0)) (ab (cC .non) aq))))) (ab (aN (ab (cC (.str "look")) (ab (ak 5) (ab (cC (.int 0)) aq)))) aq))))))
  (aZ (bZ 4 (cOp bD (ak 4) (bE (ab (aN (ab (cC (.str "put")) (ab (ak 5) (ab (cC (.int 0)) (ab (cC (.int 0)) (ab (cC (.int 0)) aq)))))) (ab (aN (ab (cC (.str "take")) (ab (ak 5) aq))) (ab (aN (ab (cC (.str "open")) (ab (ak 5) aq))) aq))))))
  (aZ (bZ 4 (cOp bD (ak 4) (bE (ab (aN (ab (cC (.str "put")) (ab (ak 5) (ab (cC (.int 0)) (ab (cC (.int 0)) aq))))) (ab (aN (ab (cC (.str "look")) (ab (ak 5) (ab (cC (.int 0)) (ab (cC (.int 1)) aq))))) (ab (aN (ab (cC (.str "done")) (ab (ak 5) aq))) aq))))))
  (aZ (bZ 4 (cOp bD (ak 4) (bE (ab (aN (ab (cC (.str "fall")) (ab (ak 5) aq))) (ab (aN (ab (cC (.str "begin")) (ab (ak 5) aq))) (ab (aN (ab (aN (ab (cC (.str "begin")) aq)) (ab (ak 5) aq))) aq))))))
  (aZ (bZ 4 (cOp bD (ak 4) (bE (ab (aN (ab (cC (.str "begin")) (ab (bE (ab (cC (.int 0)) aq)) aq))) (ab (aN (ab (cC (.str "look")) (ab (ak 5) (ab (bE (ab (cC (.int 0)) aq)) (ab (cC (.int 0)) aq))))) (ab (aN (ab (cC (.str "put")) (ab (ak 5) (ab (cC (.int 0)) (ab (bE (ab (cC (.int 0)) aq)) aq))))) (ab (aN (ab (cC (.str "look")) (ab (bE (ab (ak 5) aq)) (ab (cC (.int 0)) (ab (cC (.int 0)) aq))))) (ab (aN (ab (bE (ab (cC (.str "begin")) aq)) (ab (ak 5) aq))) aq))))))))
  (ed (cOp fIx (ak 4) (cCB ag (ab (ak 0) (ab (cC (.int 35)) aq))))))))))))))))))
theorem ke {ag : Fn} {a0 a1 a2 : U} {S : Sto} : fnU 6 3 (cR ag) [a0, a1, a2] S = ((cR ag) [some a0, some a1, some a2, none, none, none] S).bind kFn := lq rfl
noncomputable def cu (ag : Fn) : CS :=
 (aZ (bZ 9 (cOp bD (ak 9) (cCB ag (ab (ak 0) (ab (cOp bD (cOp tY (cCB jd (ab (ak 8) aq)) (ak 9)) (cC (.int 1))) aq)))))
  (aZ (fC (cBM gn (ak 8) (ab (ak 9) (ab (ak 10) aq))))
  (bZ 9 (cOp bD (ak 9) (cC (.int 1))))))
noncomputable def dg (ag : Fn) : CS :=
 (aZ (bZ 3 (g5 (iTp (ak 2)) (gNm 0) (aG (cOp fEq (cOp fIx (ak 0) (cC (.int 0))) (cC (.str "begin")))) (cOp fIx (ak 0) (cC (.int 1))) 1 []))
  (aZ (bZ 4 (cOp fIx (g5 (bY (ab (cC (.int 200)) aq)) (gNm 0) (aG (cOp (fIn true) (ak 0) (ak 1))) (ak 0) 1 [3]) (cCB ag (ab (ak 0) (ab (cC (.int 20)) aq)))))
  (aZ (bZ 5 (cCB ag (ab (ak 0) (ab (cOp fIx (ak 1) (cC (.int 0))) aq))))
  (aZ (bZ 6 (g9 (bY (ab (cC (.int 3)) aq)) (gNm 0) (cCB ag (ab (ak 1) (ab (cOp fIx (ak 2) (cC (.int 1))) aq))) 1 [0, 1]))
  (aZ (bZ 7 (cOp bD (bE (ab (aN (ab (cC (.str "begin")) (ab (ak 4) aq))) aq)) (g9 (iTp (ak 6)) (gNm 0) (aN (ab (cC (.str "put")) (ab (ak 1) (ab (ak 2) (ab (ak 0) aq))))) 1 [4, 5])))
  (aZ (fC (cBM dB (ak 7) (ab (aN (ab (cC (.str "look")) (ab (ak 4) (ab (ak 5) (ab (cOp fIx (ak 6) (cCB ag (ab (ak 0) (ab (cC (.int 3)) aq)))) aq))))) aq)))
  (aZ (d9 (aG (cOp fEq (cCB ag (ab (ak 0) (ab (cC (.int 2)) aq))) (cC (.int 0)))) (fC (cBM gn (ak 7) (ab (cOp bD (cC (.int 1)) (cCB ag (ab (ak 0) (ab (cC (.int 4)) aq)))) (ab (aN (ab (cC (.str "put")) (ab (ak 4) (ab (cCB ag (ab (ak 0) (ab (cOp fIx (ak 1) (cC (.int 0))) aq))) (ab (cCB ag (ab (ak 0) (ab (cOp fIx (ak 1) (cC (.int 1))) aq))) aq))))) aq)))) bM)
  (aZ (d9 (aG (cOp fEq (cCB ag (ab (ak 0) (ab (cC (.int 4)) aq))) (cC (.int 0)))) (fC (cBM gn (ak 7) (ab (cC (.int 1)) (ab (aN (ab (cC (.str "look")) (ab (ak 4) (ab (ak 5) (ab (cCB ag (ab (ak 0) (ab (cOp fIx (ak 1) (cC (.int 1))) aq))) aq))))) aq)))) bM)
  (aZ (bZ 8 (cCB j7 (ab (ak 2) aq)))
  (aZ (bZ 9 (cC (.int 0)))
  (aZ (mW (iTp (ak 7)) (gNm 10) (cu ag))
  (ed (ak 8)))))))))))))
theorem kP {ag : Fn} {a0 a1 a2 : U} {S : Sto} : fnU 11 3 (dg ag) [a0, a1, a2] S = ((dg ag) [some a0, some a1, some a2, none, none, none, none, none, none, none, none] S).bind kFn := lq rfl
noncomputable def fq (ag bB : Fn) : CS :=
 (aZ (d9 (cOr (aG (cOp (mV false) (ak 2) (bE aq))) (aG (cOp fEq (cCB ag (ab (ak 0) (ab (cC (.int 12)) aq))) (cC (.int 0))))) (ed (cOp fIx (bE (ab (cCB gK (ab (ak 2) aq)) (ab (cOp bD (ak 2) (bE (ab (cC .non) aq))) (ab (cOp bD (ak 2) (bE (ab (aN (ab (cC (.str "done")) (ab (cC (.int 5)) aq))) aq))) (ab (cC (.str "log")) aq))))) (cCB ag (ab (ak 0) (ab (cC (.int 4)) aq))))) bM)
  (aZ (bZ 3 (cCB ag (ab (ak 0) (ab (cCB jd (ab (ak 2) aq)) aq))))
  (aZ (bZ 4 (cCB ag (ab (ak 0) (ab (cC (.int 6)) aq))))
  (aZ (bZ 5 (cCB bB (ab (ak 0) (ab (ak 1) (ab (cOp fIx (ak 2) (ak 3)) aq)))))
  (aZ (d9 (aG (cOp fLt (ak 4) (cC (.int 2)))) (ed (cOp bD (cOp bD (cSl (ak 2) none (some (ak 3))) (bE (ab (ak 5) aq))) (cSl (ak 2) (some (cOp bD (ak 3) (cC (.int 1)))) none))) bM)
  (aZ (d9 (aG (cOp fEq (ak 4) (cC (.int 2)))) (ed (cOp bD (cOp bD (cSl (ak 2) none (some (ak 3))) (bE (ab (ak 5) aq))) (cSl (ak 2) (some (ak 3)) none))) bM)
  (aZ (d9 (aG (cOp fEq (ak 4) (cC (.int 3)))) (ed (cOp bD (cSl (ak 2) none (some (ak 3))) (cSl (ak 2) (some (cOp bD (ak 3) (cC (.int 1)))) none))) bM)
  (aZ (d9 (aG (cOp fEq (ak 4) (cC (.int 4)))) (ed (cOp bD (cOp bD (cSl (ak 2) none (some (ak 3))) (cSl (ak 2) (some (ak 3)) (some (cOp bD (ak 3) (cC (.int 1)))))) (cSl (ak 2) (some (ak 3)) none))) bM)
  (aZ (bZ 6 (cOp bD (cSl (ak 2) (some (cOp bD (ak 3) (cC (.int 1)))) (some (cOp bD (ak 3) (cC (.int 2))))) (cSl (ak 2) (some (ak 3)) (some (cOp bD (ak 3) (cC (.int 1)))))))
  (ed (cOp bD (cOp bD (cSl (ak 2) none (some (ak 3))) (ak 6)) (cSl (ak 2) (some (cOp bD (ak 3) (cC (.int 2)))) none))))))))))))
theorem pQ {ag bB : Fn} {a0 a1 a2 : U} {S : Sto} : fnU 7 3 (fq ag bB) [a0, a1, a2] S = ((fq ag bB) [some a0, some a1, some a2, none, none, none, none] S).bind kFn := lq rfl
noncomputable def dD (bT cX : Fn) : CS :=
 (aZ (bZ 2 (cCB bT (ab (ak 0) (ab (ak 1) aq))))
  (ed (mL (pX .bool (ak 2)) (cOp fEq (ak 2) (cCB cX (ab (ak 0) (ab (ak 1) aq)))))))
theorem mD {bT cX : Fn} {a0 a1 : U} {S : Sto} : fnU 3 2 (dD bT cX) [a0, a1] S = ((dD bT cX) [some a0, some a1, none] S).bind kFn := lq rfl
end OQ
namespace OL
open PySem PySem.Spec PyProof.Rows L2 OG OP OQ
noncomputable def top (i : Nat) : Stmt := PySem.Challenge.pw_oneglance_k11_what_is_a_log.main.body.getD i (.Pass ⟨0, 0, 0, 0⟩)
noncomputable abbrev eG : Stmt := top 1
noncomputable abbrev dW : Stmt := top 2
noncomputable abbrev dE : Stmt := mi (top 6) 0
noncomputable abbrev cN : Stmt := mi (top 6) 1
noncomputable abbrev cM : Stmt := mi (top 6) 2
noncomputable abbrev dh : Stmt := mi (top 6) 3
noncomputable abbrev bH : Stmt := mi (top 6) 4
noncomputable abbrev gT : Stmt := top 7
noncomputable abbrev eI : Stmt := top 8
noncomputable abbrev eJ : Stmt := top 10
noncomputable abbrev dX : Stmt := top 11
noncomputable abbrev dq : Stmt := top 12
noncomputable abbrev dr : Stmt := top 13
noncomputable abbrev dv : Stmt := top 14
noncomputable abbrev cU : Stmt := top 15
noncomputable abbrev dw : Stmt := top 16
noncomputable abbrev eK : Stmt := top 17
noncomputable abbrev bK : Stmt := top 18
noncomputable abbrev bR : Stmt := top 19
noncomputable abbrev cV : Stmt := top 20
noncomputable abbrev bu : Stmt := top 21
noncomputable abbrev bJ : Stmt := top 22
noncomputable abbrev dY : Stmt := top 23
noncomputable abbrev cw : Stmt := top 24
noncomputable abbrev mZ : Stmt := top 25
section
variable {P : Program} {w : World} {K : PySem.W.Frag} {mg : Str → Option Value} {base : Heap}
theorem kr : aW ["pen", "many", "at", "cell", "one", "two", "three", "found"] ["pen", "many"] (ax dX) := ⟨rfl, rfl, rfl, by decide +kernel, rfl, by decide +kernel, by decide +kernel⟩
theorem qF {k : Nat} (d : Def K mg "_law_take" dX ["pen", "many"]) (B : Blt mg) : fO P w K mg base "_law_take" (k + 1) ["pen", "many"] (fnU 8 2 (eO )) :=
 d.pure kr fun f cdv A outer s H E hr => by
  have hu := fB hr
  have nd := kr.nd
  exact (ar (bX (aT fg kA (bN hu (ah (wpv 0)) (ao af) (fun _ _ => rfl) (fun _ _ => rfl)) (ao af) (aQ _)) (ar (aJ (i := 2) nd rfl (by first | exact Or.inl rfl | exact Or.inr rfl) (bN hu (ah (wpv 0)) (ao af) (fun _ _ => rfl) (fun _ _ => rfl)))
   (ar (dR hu (ah (wpv 0)) (ao af) (cK bA bw (ah (wpv 2)) (ao af)))
   (ar (aJ (i := 3) nd rfl (by first | exact Or.inl rfl | exact Or.inr rfl) (ao af))
   (ar (bX (aT vn DL (ah (wpv 2)) (d8 js jr rfl B.len PySem.boot_len (ae (bN hu (ah (wpv 0)) (ao af) (fun _ _ => rfl) (fun _ _ => rfl)) av)) (aQ _)) (aB (aJ (i := 3) nd rfl (by first | exact Or.inl rfl | exact Or.inr rfl) (bN hu (bN hu (ah (wpv 0)) (ao af) (fun _ _ => rfl) (fun _ _ => rfl)) (ah (wpv 2)) (fun _ _ => rfl) (fun _ _ => rfl)))) (aB (bX (aT Ba Gy (d8 js jr rfl B.len PySem.boot_len (ae (bN hu (ah (wpv 0)) (ao af) (fun _ _ => rfl) (fun _ _ => rfl)) av)) (ao af) (aQ _)) (aB (aJ (i := 3) nd rfl (by first | exact Or.inl rfl | exact Or.inr rfl) (cK bA bw (cK kF pz (bN hu (bN hu (ah (wpv 0)) (ao af) (fun _ _ => rfl) (fun _ _ => rfl)) (cK kF pz (cK kE px (ah (wpv 2)) (ao af)) (d8 js jr rfl B.len PySem.boot_len (ae (bN hu (ah (wpv 0)) (ao af) (fun _ _ => rfl) (fun _ _ => rfl)) av))) (fun _ _ => rfl) (fun _ _ => rfl)) (ao af)) (cK kE px (ao af) (ah (wpv 2)))))) bt)))
   (ar (aJ (i := 4) nd rfl (by first | exact Or.inl rfl | exact Or.inr rfl) (cK kF pz (cK kE px (cK bA bw (cK bA bw (cK kF pz (ah (wpv 3)) (ao af)) (cK kE px (ao af) (ah (wpv 2)))) (ao af)) (ao af)) (ao af)))
   (ar (aJ (i := 5) nd rfl (by first | exact Or.inl rfl | exact Or.inr rfl) (cK kF pz (cK bA bw (cK bA bw (cK kE px (ah (wpv 4)) (ah (wpv 4))) (cK kE px (ao af) (ah (wpv 2)))) (ao af)) (ao af)))
   (ar (aJ (i := 6) nd rfl (by first | exact Or.inl rfl | exact Or.inr rfl) (cK kF pz (cK bA bw (cK kE px (ah (wpv 5)) (ah (wpv 5))) (ah (wpv 4))) (ao af)))
   (ar (dR hu (ah (wpv 0)) (ao af) (cK bA bw (cK n5 A9 (cK bA bw (cK kE px (ah (wpv 5)) (ao af)) (ah (wpv 6))) (ao af)) (ao af)))
   (aB (bX (aT GA IE (ah (wpv 3)) (cK vj A7 (ao af) (ao af)) (aQ _)) (aB (dR hu (ah (wpv 0)) (ao af) (cK n5 A9 (ah (wpv 3)) (cK vj A7 (ao af) (ao af))))) bt)))))))))) bt)
   (ar (aJ (i := 7) nd rfl (by first | exact Or.inl rfl | exact Or.inr rfl) (cK kF pz (bN hu (ah (wpv 0)) (ao af) (fun _ _ => rfl) (fun _ _ => rfl)) (ah (wpv 1))))
   (ar (dR hu (ah (wpv 0)) (ao af) (cK n5 A9 (bN hu (ah (wpv 0)) (ao af) (fun _ _ => rfl) (fun _ _ => rfl)) (ah (wpv 1))))
   (aB (aP (ah (wpv 7)))))))
theorem jG : aW ["pen"] ["pen"] (ax dq) := ⟨rfl, rfl, rfl, by decide +kernel, rfl, by decide +kernel, by decide +kernel⟩
theorem pF {k : Nat} {ag : Fn} (d : Def K mg "_law_world" dq ["pen"]) (B : Blt mg) (aw : fO P w K mg base "_law_take" (k) ["pen", "many"] ag) : fO P w K mg base "_law_world" (k + 1) ["pen"] (fnU 1 1 (fi ag)) :=
 d.pure jG fun f cdv A outer s H E hr => by
  have hu := fB hr
  have nd := jG.nd
  exact (aB (aP (bc (ae (cK bA bw (ao af) (aH aw hr rfl (ae (ah (wpv 0)) (ae (ao af) av)))) (ae (bN hu (cy (ae (ao af) (ae (ao af) (ae (ao af) (ae (ao af) (ae (cK bA bw (ao af) (aH aw hr rfl (ae (ah (wpv 0)) (ae (ao af) av)))) av)))))) (aH aw hr rfl (ae (ah (wpv 0)) (ae (ao af) av))) (fun _ _ => rfl) (fun _ _ => rfl)) av)))))
theorem jH : aW ["pen", "world"] ["pen", "world"] (ax dr) := ⟨rfl, rfl, rfl, by decide +kernel, rfl, by decide +kernel, by decide +kernel⟩
theorem pG {k : Nat} {ag : Fn} (d : Def K mg "_law_state" dr ["pen", "world"]) (B : Blt mg) (aw : fO P w K mg base "_law_take" (k) ["pen", "many"] ag) : fO P w K mg base "_law_state" (k + 1) ["pen", "world"] (fnU 2 2 (fj ag)) :=
 d.pure jH fun f cdv A outer s H E hr => by
  have hu := fB hr
  have nd := jH.nd
  exact (aB (aP (iS gY qt rfl B.tuple OG.gO (ae (rA (Nc := ["box", "pen", "world"]) (tn := ["box"]) (capN := ["pen", "world"]) (caps := [0, 1]) rfl (fG rfl B.range (ae (bN hu (ah (wpv 1)) (ao af) (fun _ _ => rfl) (fun _ _ => rfl)) av)) (fun _ _ _ => (eg (bO (i := 0) (show (["box", "pen", "world"] : List Str).Nodup by decide +kernel) rfl (by first | exact Or.inl rfl | exact Or.inr rfl)))) (fun _ _ _ => (aH aw hr rfl (ae (ah (wpv 1)) (ae (bN hu (ah (wpv 2)) (ao af) (fun _ _ => rfl) (fun _ _ => rfl)) av)))) rfl rfl (by decide +kernel) (by decide +kernel) ⟨rfl, rfl, trivial⟩ rfl (.cons ⟨rfl, rfl, rfl, _, rfl⟩ (.cons ⟨rfl, rfl, rfl, _, rfl⟩ .nil)) rfl rfl) av))))
theorem jI : aW ["pen", "many", "left", "found", "k"] ["pen", "many"] (ax dv) := ⟨rfl, rfl, rfl, by decide +kernel, rfl, by decide +kernel, by decide +kernel⟩
theorem pH {k : Nat} {ag : Fn} (d : Def K mg "_law_names" dv ["pen", "many"]) (B : Blt mg) (aw : fO P w K mg base "_law_take" (k) ["pen", "many"] ag) : fO P w K mg base "_law_names" (k + 1) ["pen", "many"] (fnU 5 2 (fk ag)) :=
 d.pure jI fun f cdv A outer s H E hr => by
  have hu := fB hr
  have nd := jI.nd
  exact (ar (aJ (i := 2) nd rfl (by first | exact Or.inl rfl | exact Or.inr rfl) (qr rfl rfl B.list rfl B.range (ae (ao af) av) rfl rfl))
   (ar (aJ (i := 3) nd rfl (by first | exact Or.inl rfl | exact Or.inr rfl) (cy av))
   (ar (lL PassesOwn.never rfl (fG rfl B.range (ae (ah (wpv 1)) av)) (eg (bO (i := 4) nd rfl (by first | exact Or.inl rfl | exact Or.inr rfl))) (aB (dZ (fU (ah (wpv 3)) (ae (uV (ah (wpv 2)) (ae (aH aw hr rfl (ae (ah (wpv 0)) (ae (d8 js jr rfl B.len PySem.boot_len (ae (ah (wpv 2)) av)) av))) av)) av)))))
   (aB (aP (ah (wpv 3)))))))
theorem ja : aW ["state", "puts"] ["state", "puts"] (ax cU) := ⟨rfl, rfl, rfl, by decide +kernel, rfl, by decide +kernel, by decide +kernel⟩
theorem oj {k : Nat} (d : Def K mg "_law_put_in" cU ["state", "puts"]) (B : Blt mg) : fO P w K mg base "_law_put_in" (k + 1) ["state", "puts"] (fnU 2 2 (eC )) :=
 d.pure ja fun f cdv A outer s H E hr => by
  have hu := fB hr
  have nd := ja.nd
  exact (aB (aP (iS gY qt rfl B.tuple OG.gO (ae (rA (Nc := ["box", "number", "puts"]) (tn := ["box", "number"]) (capN := ["puts"]) (caps := [1]) rfl (AD rfl B.enumerate (ah (wpv 0))) (fun _ _ _ => (zt rfl (jK (bO (i := 0) (show (["box", "number", "puts"] : List Str).Nodup by decide +kernel) rfl (by first | exact Or.inl rfl | exact Or.inr rfl)) (jK (bO (i := 1) (show (["box", "number", "puts"] : List Str).Nodup by decide +kernel) rfl (by first | exact Or.inl rfl | exact Or.inr rfl)) uU)))) (fun _ _ _ => (uY hu (ah (wpv 2)) (ah (wpv 0)) (ah (wpv 1)) ⟨rfl, rfl, rfl, rfl⟩)) rfl rfl (by decide +kernel) (by decide +kernel) ⟨rfl, trivial⟩ rfl (.cons ⟨rfl, rfl, rfl, _, rfl⟩ .nil) rfl rfl) av))))
theorem jJ : aW ["pen", "world", "a", "seen", "puts", "now", "way", "box", "number"] ["pen", "world", "a", "seen", "puts", "now"] (ax dw) := ⟨rfl, rfl, rfl, by decide +kernel, rfl, by decide +kernel, by decide +kernel⟩
theorem pI {k : Nat} {ag : Fn} (d : Def K mg "_law_event" dw ["pen", "world", "a", "seen", "puts", "now"]) (B : Blt mg) (aw : fO P w K mg base "_law_take" (k) ["pen", "many"] ag) : fO P w K mg base "_law_event" (k + 1) ["pen", "world", "a", "seen", "puts", "now"] (fnU 9 6 (dC ag)) :=
 d.pure jJ fun f cdv A outer s H E hr => by
  have hu := fB hr
  have nd := jJ.nd
  exact (ar (aJ (i := 6) nd rfl (by first | exact Or.inl rfl | exact Or.inr rfl) (aH aw hr rfl (ae (ah (wpv 0)) (ae (ao af) av))))
   (ar (aJ (i := 7) nd rfl (by first | exact Or.inl rfl | exact Or.inr rfl) (aH aw hr rfl (ae (ah (wpv 0)) (ae (bN hu (ah (wpv 1)) (ao af) (fun _ _ => rfl) (fun _ _ => rfl)) av))))
   (ar (bX (aT vn DL (ah (wpv 6)) (ao af) (aQ _)) (ar (aJ (i := 8) nd rfl (by first | exact Or.inl rfl | exact Or.inr rfl) (bN hu (cy (ae (bN hu (ah (wpv 3)) (ah (wpv 7)) (fun _ _ => rfl) (fun _ _ => rfl)) (ae (bN hu (ah (wpv 3)) (ah (wpv 7)) (fun _ _ => rfl) (fun _ _ => rfl)) (ae (bN hu (ah (wpv 5)) (ah (wpv 7)) (fun _ _ => rfl) (fun _ _ => rfl)) (ae (aH aw hr rfl (ae (ah (wpv 0)) (ae (bN hu (ah (wpv 1)) (ao af) (fun _ _ => rfl) (fun _ _ => rfl)) av))) av))))) (aH aw hr rfl (ae (ah (wpv 0)) (ae (ao af) av))) (fun _ _ => rfl) (fun _ _ => rfl)))
   (aB (aP (bc (ae (aM aA) (ae (ah (wpv 2)) (ae (ah (wpv 7)) (ae (uY hu (ah (wpv 4)) (ah (wpv 7)) (ah (wpv 8)) ⟨rfl, rfl, rfl, rfl⟩) av)))))))) bt)
   (ar (bX (aT vn DL (ah (wpv 6)) (ao af) (aQ _)) (aB (aP (bc (ae (aM aA) (ae (ah (wpv 2)) (ae (ah (wpv 7)) (ae (aH aw hr rfl (ae (ah (wpv 0)) (ae (bN hu (ah (wpv 1)) (ao af) (fun _ _ => rfl) (fun _ _ => rfl)) av))) av))))))) bt)
   (aB (aP (bc (ae (bN hu (cy (ae (aM aA) (ae (aM aA) (ae (aM aA) (ae (aM aA) av))))) (cK kB pw (ah (wpv 6)) (ao af)) (fun _ _ => rfl) (fun _ _ => rfl)) (ae (ah (wpv 2)) av)))))))))
theorem lJ : aW ["pen", "world", "state", "most", "size", "names", "log", "now", "going", "k", "at", "a", "seen", "puts"] ["pen", "world", "state", "most", "size"] (ax eK) := ⟨rfl, rfl, rfl, by decide +kernel, rfl, by decide +kernel, by decide +kernel⟩
theorem tm {k : Nat} {cm ag cq bP : Fn} (d : Def K mg "_law_log" eK ["pen", "world", "state", "most", "size"]) (B : Blt mg) (iN : fO P w K mg base "_law_names" (k) ["pen", "many"] cm) (aw : fO P w K mg base "_law_take" (k) ["pen", "many"] ag) (iO : fO P w K mg base "_law_event" (k) ["pen", "world", "a", "seen", "puts", "now"] cq) (hU : fO P w K mg base "_law_put_in" (k) ["state", "puts"] bP) : fO P w K mg base "_law_log" (k + 1) ["pen", "world", "state", "most", "size"] (fnU 14 5 (gN cm ag cq bP)) :=
 d.pure lJ fun f cdv A outer s H E hr => by
  have hu := fB hr
  have nd := lJ.nd
  exact (ar (aJ (i := 5) nd rfl (by first | exact Or.inl rfl | exact Or.inr rfl) (aH iN hr rfl (ae (ah (wpv 0)) (ae (aH aw hr rfl (ae (ah (wpv 0)) (ae (cK bA bw (ah (wpv 3)) (ao af)) av))) av))))
   (ar (aJ (i := 6) nd rfl (by first | exact Or.inl rfl | exact Or.inr rfl) (cy av))
   (ar (aJ (i := 7) nd rfl (by first | exact Or.inl rfl | exact Or.inr rfl) (ah (wpv 2)))
   (ar (aJ (i := 8) nd rfl (by first | exact Or.inl rfl | exact Or.inr rfl) (cy av))
   (ar (lL PassesOwn.never rfl (fG rfl B.range (ae (aH aw hr rfl (ae (ah (wpv 0)) (ae (cK bA bw (ah (wpv 4)) (ao af)) av))) av)) (eg (bO (i := 9) nd rfl (by first | exact Or.inl rfl | exact Or.inr rfl))) (aB (bX (sQ (AJ (aT (vm hr.units) vi (ah (wpv 5)) (cy av) (aQ _)) (va (sQ (sR (aT (zw hr.units) vi (ah (wpv 8)) (cy av) (aQ _)) (m6 (aT fg kA (aH aw hr rfl (ae (ah (wpv 0)) (ae (ao af) av))) (ao af) (aQ _)))))))) (ar (dZ (fU (ah (wpv 8)) (ae (bc (ae (Gk (ah (wpv 5))) (ae (ah (wpv 7)) (ae lM av)))) av)))
   (aB (dZ (fU (ah (wpv 6)) (ae (bc (ae (aM aA) (ae (bN hu (bN hu (ah (wpv 8)) (qp (ao af)) (fun _ _ => rfl) (fun _ _ => rfl)) (ao af) (fun _ _ => rfl) (fun _ _ => rfl)) av))) av))))) (aB (bX (aT (vm hr.units) vi (ah (wpv 8)) (cy av) (aQ _)) (ar (aJ (i := 10) nd rfl (by first | exact Or.inl rfl | exact Or.inr rfl) (aH aw hr rfl (ae (ah (wpv 0)) (ae (d8 js jr rfl B.len PySem.boot_len (ae (ah (wpv 8)) av)) av))))
   (ar (Dc (bN hu (ah (wpv 8)) (ah (wpv 10)) (fun _ _ => rfl) (fun _ _ => rfl)) (zt rfl (jK (bO (i := 11) nd rfl (by first | exact Or.inl rfl | exact Or.inr rfl)) (jK (bO (i := 12) nd rfl (by first | exact Or.inl rfl | exact Or.inr rfl)) (jK (bO (i := 13) nd rfl (by first | exact Or.inl rfl | exact Or.inr rfl)) uU)))))
   (ar (dZ (fU (ah (wpv 6)) (ae (aH iO hr rfl (ae (ah (wpv 0)) (ae (ah (wpv 1)) (ae (ah (wpv 11)) (ae (ah (wpv 12)) (ae (ah (wpv 13)) (ae (ah (wpv 7)) av))))))) av)))
   (ar (bX (aT fg kA (bN hu (bN hu (ah (wpv 6)) (qp (ao af)) (fun _ _ => rfl) (fun _ _ => rfl)) (ao af) (fun _ _ => rfl) (fun _ _ => rfl)) (aM aA) (aQ _)) (aB (dR hu (ah (wpv 13)) (bN hu (bN hu (ah (wpv 6)) (qp (ao af)) (fun _ _ => rfl) (fun _ _ => rfl)) (ao af) (fun _ _ => rfl) (fun _ _ => rfl)) (bN hu (bN hu (ah (wpv 6)) (qp (ao af)) (fun _ _ => rfl) (fun _ _ => rfl)) (ao af) (fun _ _ => rfl) (fun _ _ => rfl)))) (aB (bX (aT fg kA (bN hu (bN hu (ah (wpv 6)) (qp (ao af)) (fun _ _ => rfl) (fun _ _ => rfl)) (ao af) (fun _ _ => rfl) (fun _ _ => rfl)) (aM aA) (aQ _)) (aB (aJ (i := 7) nd rfl (by first | exact Or.inl rfl | exact Or.inr rfl) (aH hU hr rfl (ae (ah (wpv 7)) (ae (ah (wpv 13)) av))))) bt)))
   (aB (bX (xG hu (bN hu (bN hu (ah (wpv 6)) (qp (ao af)) (fun _ _ => rfl) (fun _ _ => rfl)) (ao af) (fun _ _ => rfl) (fun _ _ => rfl)) (bc (ae (aM aA) (ae (aM aA) av))) (by with_unfolding_all rfl)) (aB (dZ (uV (ah (wpv 8)) (ae (ah (wpv 10)) av)))) bt)))))) bt)))))
   (aB (aP (ah (wpv 6)))))))))
theorem lG : aW ["thing"] ["thing"] (ax eG) := ⟨rfl, rfl, rfl, by decide +kernel, rfl, by decide +kernel, by decide +kernel⟩
theorem sZ {k : Nat} (d : Def K mg "is_whole" eG ["thing"]) (B : Blt mg) : fO P w K mg base "is_whole" (k + 1) ["thing"] (fnU 1 1 (gM )) :=
 d.pure lG fun f cdv A outer s H E hr => by
  have hu := fB hr
  have nd := lG.nd
  exact (aB (aP (ky (m7 (T := .int) (by intro z; cases z) (ah (wpv 0)) (i9 rfl B.int OG.sx) rfl B.isinstance) (qo (zu (m7 (T := .bool) (by intro z; cases z) (ah (wpv 0)) (i9 rfl B.bool OG.mN) rfl B.isinstance))))))
theorem kq : aW ["thing", "least", "most"] ["thing", "least", "most"] (ax dW) := ⟨rfl, rfl, rfl, by decide +kernel, rfl, by decide +kernel, by decide +kernel⟩
theorem qE {k : Nat} {eN : Fn} (d : Def K mg "is_within" dW ["thing", "least", "most"]) (B : Blt mg) (kj : fO P w K mg base "is_whole" (k) ["thing"] eN) : fO P w K mg base "is_within" (k + 1) ["thing", "least", "most"] (fnU 3 3 (cI eN)) :=
 d.pure kq fun f cdv A outer s H E hr => by
  have hu := fB hr
  have nd := kq.nd
  exact (aB (aP (ky (aH kj hr rfl (ae (ah (wpv 0)) av)) (qo (u9 yf EM yf EM (ah (wpv 1)) (ah (wpv 0)) (ah (wpv 2)))))))
theorem fF : aW ["self", "a", "box", "number"] ["self", "a", "box", "number"] (ax bH) := ⟨rfl, rfl, rfl, by decide +kernel, rfl, by decide +kernel, by decide +kernel⟩
theorem jP {k : Nat} {ay : Cl} {fa : Addr} {fd : FuncData} (F : Fun K "note_look" "Course.note_look" bH fa fd) (bi : ib K fd ["self", "a", "box", "number"] []) (mt : t5 K ay.C "note_look" fa) (B : Blt mg) (TCourse : TC K ay ["ends", "looks", "needs", "puts", "before"]) : t6 P w K mg base ay "note_look" (k + 1) ["self", "a", "box", "number"] (fnU 4 4 (bI ay)) :=
 ⟨⟨fa, fd, mt, F.pure fF fun cdv A outer s H E hr => (by
  have hu := fB hr
  have nd := fF.nd
  exact (aB (bX (nW hu (ah (wpv 2)) (bN hu (jq TCourse.cl (TCourse.na 3 rfl) (TCourse.ix rfl) (ah (wpv 0))) (ah (wpv 1)) (fun _ _ => rfl) (fun _ _ => rfl)) (by with_unfolding_all rfl)) (ar (dZ (fU (bN hu (jq TCourse.cl (TCourse.na 1 rfl) (TCourse.ix rfl) (ah (wpv 0))) (ah (wpv 1)) (fun _ _ => rfl) (fun _ _ => rfl)) (ae (bc (ae (ah (wpv 2)) (ae (ah (wpv 3)) av))) av)))
   (aB (uS hu (bN hu (jq TCourse.cl (TCourse.na 2 rfl) (TCourse.ix rfl) (ah (wpv 0))) (ah (wpv 1)) (fun _ _ => rfl) (fun _ _ => rfl)) (ae (ah (wpv 2)) (ae (ah (wpv 3)) av)) (kM dc)))) bt))), bi⟩⟩
theorem iH : aW ["self", "a"] ["self", "a"] (ax dh) := ⟨rfl, rfl, rfl, by decide +kernel, rfl, by decide +kernel, by decide +kernel⟩
theorem nc {k : Nat} {ay : Cl} {fa : Addr} {fd : FuncData} (F : Fun K "enter" "Course.enter" dh fa fd) (bi : ib K fd ["self", "a"] []) (mt : t5 K ay.C "enter" fa) (B : Blt mg) (TCourse : TC K ay ["ends", "looks", "needs", "puts", "before"]) : t6 P w K mg base ay "enter" (k + 1) ["self", "a"] (fnU 2 2 (dJ ay)) :=
 ⟨⟨fa, fd, mt, F.pure iH fun cdv A outer s H E hr => (by
  have hu := fB hr
  have nd := iH.nd
  exact (ar (dR hu (jq TCourse.cl (TCourse.na 4 rfl) (TCourse.ix rfl) (ah (wpv 0))) (ah (wpv 1)) (uZ (Nc := ["one", "self"]) (tn := ["one"]) (capN := ["self"]) (caps := [0]) rfl (jq TCourse.cl (TCourse.na 0 rfl) (TCourse.ix rfl) (ah (wpv 0))) (fun _ _ _ => (eg (bO (i := 0) (show (["one", "self"] : List Str).Nodup by decide +kernel) rfl (by first | exact Or.inl rfl | exact Or.inr rfl)))) (fun _ _ _ => (aT ye EL (bN hu (jq TCourse.cl (TCourse.na 0 rfl) (TCourse.ix rfl) (ah (wpv 1))) (ah (wpv 0)) (fun _ _ => rfl) (fun _ _ => rfl)) (aM aA) (aQ _))) (fun _ _ _ => (ah (wpv 0))) rfl rfl (by decide +kernel) (by decide +kernel) ⟨rfl, trivial⟩ rfl (.cons ⟨rfl, rfl, rfl, _, rfl⟩ .nil) rfl rfl))
   (ar (dR hu (jq TCourse.cl (TCourse.na 0 rfl) (TCourse.ix rfl) (ah (wpv 0))) (ah (wpv 1)) (aM aA))
   (ar (dR hu (jq TCourse.cl (TCourse.na 1 rfl) (TCourse.ix rfl) (ah (wpv 0))) (ah (wpv 1)) (cy av))
   (ar (dR hu (jq TCourse.cl (TCourse.na 2 rfl) (TCourse.ix rfl) (ah (wpv 0))) (ah (wpv 1)) uX)
   (aB (dR hu (jq TCourse.cl (TCourse.na 3 rfl) (TCourse.ix rfl) (ah (wpv 0))) (ah (wpv 1)) lM))))))), bi⟩⟩
theorem ig : aW ["self", "event", "a"] ["self", "event"] (ax cM) := ⟨rfl, rfl, rfl, by decide +kernel, rfl, by decide +kernel, by decide +kernel⟩
theorem ml {k : Nat} {cG bj : Fn} {ay : Cl} {fa : Addr} {fd : FuncData} (F : Fun K "follow" "Course.follow" cM fa fd) (bi : ib K fd ["self", "event"] []) (mt : t5 K ay.C "follow" fa) (B : Blt mg) (TCourse : TC K ay ["ends", "looks", "needs", "puts", "before"]) (M_Course_enter : t6 P w K mg base ay "enter" (k) ["self", "a"] cG) (M_Course_note_look : t6 P w K mg base ay "note_look" (k) ["self", "a", "box", "number"] bj) : t6 P w K mg base ay "follow" (k + 1) ["self", "event"] (fnU 3 2 (br cG bj ay)) :=
 ⟨⟨fa, fd, mt, F.pure ig fun cdv A outer s H E hr => (by
  have hu := fB hr
  have nd := ig.nd
  exact (ar (aJ (i := 2) nd rfl (by first | exact Or.inl rfl | exact Or.inr rfl) (bN hu (ah (wpv 1)) (ao af) (fun _ _ => rfl) (fun _ _ => rfl)))
   (aB (bX (aT fg kA (bN hu (ah (wpv 1)) (ao af) (fun _ _ => rfl) (fun _ _ => rfl)) (aM aA) (aQ _)) (aB (dZ (rp TCourse.cl M_Course_enter hr (TCourse.nm (by decide +kernel)) (ah (wpv 0)) (ae (ah (wpv 2)) av)))) (aB (bX (aT fg kA (bN hu (ah (wpv 1)) (ao af) (fun _ _ => rfl) (fun _ _ => rfl)) (aM aA) (aQ _)) (aB (dZ (rp TCourse.cl M_Course_note_look hr (TCourse.nm (by decide +kernel)) (ah (wpv 0)) (ae (ah (wpv 2)) (ae (bN hu (ah (wpv 1)) (ao af) (fun _ _ => rfl) (fun _ _ => rfl)) (ae (bN hu (ah (wpv 1)) (ao af) (fun _ _ => rfl) (fun _ _ => rfl)) av)))))) (aB (bX (aT fg kA (bN hu (ah (wpv 1)) (ao af) (fun _ _ => rfl) (fun _ _ => rfl)) (aM aA) (aQ _)) (aB (dR hu (bN hu (jq TCourse.cl (TCourse.na 3 rfl) (TCourse.ix rfl) (ah (wpv 0))) (ah (wpv 2)) (fun _ _ => rfl) (fun _ _ => rfl)) (bN hu (ah (wpv 1)) (ao af) (fun _ _ => rfl) (fun _ _ => rfl)) (bN hu (ah (wpv 1)) (ao af) (fun _ _ => rfl) (fun _ _ => rfl)))) (aB (dR hu (jq TCourse.cl (TCourse.na 0 rfl) (TCourse.ix rfl) (ah (wpv 0))) (ah (wpv 2)) (bN hu (ah (wpv 1)) (ao af) (fun _ _ => rfl) (fun _ _ => rfl)))))))))))), bi⟩⟩
theorem jc : aW ["self"] ["self"] (ax dE) := ⟨rfl, rfl, rfl, by decide +kernel, rfl, by decide +kernel, by decide +kernel⟩
theorem ow {k : Nat} {ay : Cl} {fa : Addr} {fd : FuncData} (F : Fun K "__init__" "Course.__init__" dE fa fd) (bi : ib K fd ["self"] []) (mk : Mk K ay.C fa) (hmg : mg "Course" = some (.ref ay.C)) (B : Blt mg) (TCourse : TC K ay ["ends", "looks", "needs", "puts", "before"]) : CMk P w K mg base ay "Course" (k + 1) ["self"] (fnU 1 1 (eD ay)) :=
 ⟨⟨fa, fd, mk, F.pure jc fun cdv A outer s H E hr => (by
  have hu := fB hr
  have nd := jc.nd
  exact (ar (lK TCourse.cl (TCourse.na 0 rfl) (TCourse.ix rfl) (ah (wpv 0)) lM)
   (ar (lK TCourse.cl (TCourse.na 1 rfl) (TCourse.ix rfl) (ah (wpv 0)) lM)
   (ar (lK TCourse.cl (TCourse.na 2 rfl) (TCourse.ix rfl) (ah (wpv 0)) lM)
   (ar (lK TCourse.cl (TCourse.na 3 rfl) (TCourse.ix rfl) (ah (wpv 0)) lM)
   (aB (lK TCourse.cl (TCourse.na 4 rfl) (TCourse.ix rfl) (ah (wpv 0)) lM))))))), bi, hmg⟩, by rw [TCourse.ns]; decide +kernel, by rw [TCourse.ns]; decide⟩
theorem ik : aW ["self", "event", "a"] ["self", "event"] (ax cN) := ⟨rfl, rfl, rfl, by decide +kernel, rfl, by decide +kernel, by decide +kernel⟩
theorem mq {k : Nat} {ay : Cl} {fa : Addr} {fd : FuncData} (F : Fun K "allows" "Course.allows" cN fa fd) (bi : ib K fd ["self", "event"] []) (mt : t5 K ay.C "allows" fa) (B : Blt mg) (TCourse : TC K ay ["ends", "looks", "needs", "puts", "before"]) : t6 P w K mg base ay "allows" (k + 1) ["self", "event"] (fnU 3 2 (aI ay)) :=
 ⟨⟨fa, fd, mt, F.pure ik fun cdv A outer s H E hr => (by
  have hu := fB hr
  have nd := ik.nd
  exact (ar (aJ (i := 2) nd rfl (by first | exact Or.inl rfl | exact Or.inr rfl) (bN hu (ah (wpv 1)) (ao af) (fun _ _ => rfl) (fun _ _ => rfl)))
   (ar (bX (aT fg kA (bN hu (ah (wpv 1)) (ao af) (fun _ _ => rfl) (fun _ _ => rfl)) (aM aA) (aQ _)) (aB (aP (AF hu (ah (wpv 2)) (jq TCourse.cl (TCourse.na 0 rfl) (TCourse.ix rfl) (ah (wpv 0))) (by with_unfolding_all rfl)))) bt)
   (ar (bX (aT ye EL (AI hu (jq TCourse.cl (TCourse.na 0 rfl) (TCourse.ix rfl) (ah (wpv 0))) (ah (wpv 2)) ⟨rfl, rfl, rfl, rfl⟩) (aM aA) (aQ _)) (aB (aP (kM dc))) bt)
   (ar (bX (aT fg kA (bN hu (ah (wpv 1)) (ao af) (fun _ _ => rfl) (fun _ _ => rfl)) (aM aA) (aQ _)) (aB (aP (u0 fg kA (uY hu (bN hu (jq TCourse.cl (TCourse.na 3 rfl) (TCourse.ix rfl) (ah (wpv 0))) (ah (wpv 2)) (fun _ _ => rfl) (fun _ _ => rfl)) (bN hu (ah (wpv 1)) (ao af) (fun _ _ => rfl) (fun _ _ => rfl)) (bN hu (ah (wpv 1)) (ao af) (fun _ _ => rfl) (fun _ _ => rfl)) ⟨rfl, rfl, rfl, rfl⟩) (bN hu (ah (wpv 1)) (ao af) (fun _ _ => rfl) (fun _ _ => rfl)) (aQ _)))) bt)
   (aB (aP (kM dc)))))))), bi⟩⟩
theorem lH : aW ["world", "thing"] ["world", "thing"] (ax eI) := ⟨rfl, rfl, rfl, by decide +kernel, rfl, by decide +kernel, by decide +kernel⟩
theorem tj {k : Nat} {cW : Fn} (d : Def K mg "is_event" eI ["world", "thing"]) (B : Blt mg) (C_LAST_ATTEMPT : ∃ t, mg "LAST_ATTEMPT" = some (.int (199) t)) (fM : fO P w K mg base "is_within" (k) ["thing", "least", "most"] cW) : fO P w K mg base "is_event" (k + 1) ["world", "thing"] (fnU 2 2 (bC cW)) :=
 d.pure lH fun f cdv A outer s H E hr => by
  have hu := fB hr
  have nd := lH.nd
  exact (ar (bX (sQ (sR (gI (gH (m7 (T := .tuple) (by intro z; cases z) (ah (wpv 1)) (i9 rfl B.tuple OG.gO) rfl B.isinstance))) (sR (aT vn DL (d8 js jr rfl B.len PySem.boot_len (ae (ah (wpv 1)) av)) (ao af) (aQ _)) (m6 (gI (gH (aH fM hr rfl (ae (bN hu (ah (wpv 1)) (ao af) (fun _ _ => rfl) (fun _ _ => rfl)) (ae (ao af) (ae (ao (rg rfl C_LAST_ATTEMPT)) av)))))))))) (aB (aP (kM dc))) bt)
   (ar (bX (aT (zv hr.units) DM (bN hu (ah (wpv 1)) (ao af) (fun _ _ => rfl) (fun _ _ => rfl)) (bc (ae (aM aA) (ae (aM aA) (ae (aM aA) av)))) (by with_unfolding_all rfl)) (aB (aP (u0 fg kA (d8 js jr rfl B.len PySem.boot_len (ae (ah (wpv 1)) av)) (ao af) (aQ _)))) bt)
   (ar (bX (sQ (AJ (aT (zv hr.units) DM (bN hu (ah (wpv 1)) (ao af) (fun _ _ => rfl) (fun _ _ => rfl)) (bc (ae (aM aA) (ae (aM aA) av))) (by with_unfolding_all rfl)) (va (aT fg kA (d8 js jr rfl B.len PySem.boot_len (ae (ah (wpv 1)) av)) (ao af) (aQ _))))) (aB (aP (ky (aH fM hr rfl (ae (bN hu (ah (wpv 1)) (ao af) (fun _ _ => rfl) (fun _ _ => rfl)) (ae (ao af) (ae (cK kB pw (bN hu (ah (wpv 0)) (ao af) (fun _ _ => rfl) (fun _ _ => rfl)) (ao af)) av)))) (qo (aH fM hr rfl (ae (bN hu (ah (wpv 1)) (ao af) (fun _ _ => rfl) (fun _ _ => rfl)) (ae (ao af) (ae (cK kB pw (bN hu (ah (wpv 0)) (ao af) (fun _ _ => rfl) (fun _ _ => rfl)) (ao af)) av)))))))) bt)
   (aB (aP (kM dc))))))
theorem pf : aW ["world", "thing", "course", "event"] ["world", "thing"] (ax gT) := ⟨rfl, rfl, rfl, by decide +kernel, rfl, by decide +kernel, by decide +kernel⟩
theorem yx {k : Nat} {dF bq bo bQ : Fn} {ay : Cl} (d : Def K mg "is_log" gT ["world", "thing"]) (B : Blt mg) (C_MOST_EVENTS : ∃ t, mg "MOST_EVENTS" = some (.int (2000) t)) (TCourse : TC K ay ["ends", "looks", "needs", "puts", "before"]) (km : fO P w K mg base "is_event" (k + 1) ["world", "thing"] dF) (M_Course_allows : t6 P w K mg base ay "allows" (k + 1) ["self", "event"] bq) (M_Course_follow : t6 P w K mg base ay "follow" (k + 1) ["self", "event"] bo) (M_Course : CMk P w K mg base ay "Course" k ["self"] bQ) : fO P w K mg base "is_log" (k + 1 + 1) ["world", "thing"] (fnU 4 2 (fZ dF bq bo bQ ay)) :=
 d.pure pf fun f cdv A outer s H E hr => by
  have hu := fB hr
  have nd := pf.nd
  exact (ar (bX (sQ (sR (gI (gH (m7 (T := .list) (by intro z; cases z) (ah (wpv 1)) (i9 rfl B.list OG.fK) rfl B.isinstance))) (m6 (aT Ba Gy (d8 js jr rfl B.len PySem.boot_len (ae (ah (wpv 1)) av)) (ao (rg rfl C_MOST_EVENTS)) (aQ _))))) (aB (aP (kM dc))) bt)
   (ar (aJ (i := 2) nd rfl (by first | exact Or.inl rfl | exact Or.inr rfl) (AG M_Course hr rfl))
   (ar (lL PassesOwn.never rfl (nC (ah (wpv 1))) (eg (bO (i := 3) nd rfl (by first | exact Or.inl rfl | exact Or.inr rfl))) (ar (bX (sQ (sR (gI (gH (aH km hr rfl (ae (ah (wpv 0)) (ae (ah (wpv 3)) av))))) (m6 (gI (gH (rp TCourse.cl M_Course_allows hr (TCourse.nm (by decide +kernel)) (ah (wpv 2)) (ae (ah (wpv 3)) av))))))) (aB (aP (kM dc))) bt)
   (aB (dZ (rp TCourse.cl M_Course_follow hr (TCourse.nm (by decide +kernel)) (ah (wpv 2)) (ae (ah (wpv 3)) av))))))
   (aB (aP (kM dc))))))
theorem gG : aW ["part", "low", "high"] ["part", "low", "high"] (ax bK) := ⟨rfl, rfl, rfl, by decide +kernel, rfl, by decide +kernel, by decide +kernel⟩
theorem kO {k : Nat} (d : Def K mg "_law_is_number" bK ["part", "low", "high"]) (B : Blt mg) : fO P w K mg base "_law_is_number" (k + 1) ["part", "low", "high"] (fnU 3 3 (bL )) :=
 d.pure gG fun f cdv A outer s H E hr => by
  have hu := fB hr
  have nd := gG.nd
  exact (aB (aP (ky (m7 (T := .int) (by intro z; cases z) (ah (wpv 0)) (i9 rfl B.int OG.sx) rfl B.isinstance) (ky (zu (m7 (T := .bool) (by intro z; cases z) (ah (wpv 0)) (i9 rfl B.bool OG.mN) rfl B.isinstance)) (qo (u9 yf EM yf EM (ah (wpv 1)) (ah (wpv 0)) (ah (wpv 2))))))))
theorem ie : aW ["world", "thing"] ["world", "thing"] (ax bR) := ⟨rfl, rfl, rfl, by decide +kernel, rfl, by decide +kernel, by decide +kernel⟩
theorem mj {k : Nat} {aS : Fn} (d : Def K mg "_law_is_event" bR ["world", "thing"]) (B : Blt mg) (b5 : fO P w K mg base "_law_is_number" (k) ["part", "low", "high"] aS) : fO P w K mg base "_law_is_event" (k + 1) ["world", "thing"] (fnU 2 2 (aD aS)) :=
 d.pure ie fun f cdv A outer s H E hr => by
  have hu := fB hr
  have nd := ie.nd
  exact (ar (bX (sQ (sR (gI (gH (m7 (T := .tuple) (by intro z; cases z) (ah (wpv 1)) (i9 rfl B.tuple OG.gO) rfl B.isinstance))) (sR (aT (DN hr.units) Gz (ah (wpv 1)) (bc av) (aQ _)) (m6 (gI (gH (m7 (T := .str) (by intro z; cases z) (bN hu (ah (wpv 1)) (ao af) (fun _ _ => rfl) (fun _ _ => rfl)) (i9 rfl B.str OG.yP) rfl B.isinstance))))))) (aB (aP (kM dc))) bt)
   (ar (bX (xG hu (bN hu (ah (wpv 1)) (ao af) (fun _ _ => rfl) (fun _ _ => rfl)) (bc (ae (aM aA) (ae (aM aA) (ae (aM aA) av)))) (by with_unfolding_all rfl)) (aB (aP (ky (u0 fg kA (d8 js jr rfl B.len PySem.boot_len (ae (ah (wpv 1)) av)) (ao af) (aQ _)) (qo (aH b5 hr rfl (ae (bN hu (ah (wpv 1)) (ao af) (fun _ _ => rfl) (fun _ _ => rfl)) (ae (ao af) (ae (ao af) av)))))))) bt)
   (ar (bX (sQ (sR (nW hu (bN hu (ah (wpv 1)) (ao af) (fun _ _ => rfl) (fun _ _ => rfl)) (bc (ae (aM aA) (ae (aM aA) av))) (by with_unfolding_all rfl)) (sR (aT ye EL (d8 js jr rfl B.len PySem.boot_len (ae (ah (wpv 1)) av)) (ao af) (aQ _)) (m6 (gI (gH (aH b5 hr rfl (ae (bN hu (ah (wpv 1)) (ao af) (fun _ _ => rfl) (fun _ _ => rfl)) (ae (ao af) (ae (ao af) av)))))))))) (aB (aP (kM dc))) bt)
   (aB (aP (ky (aH b5 hr rfl (ae (bN hu (ah (wpv 1)) (ao af) (fun _ _ => rfl) (fun _ _ => rfl)) (ae (ao af) (ae (cK kB pw (bN hu (ah (wpv 0)) (ao af) (fun _ _ => rfl) (fun _ _ => rfl)) (ao af)) av)))) (qo (aH b5 hr rfl (ae (bN hu (ah (wpv 1)) (ao af) (fun _ _ => rfl) (fun _ _ => rfl)) (ae (ao af) (ae (cK kB pw (bN hu (ah (wpv 0)) (ao af) (fun _ _ => rfl) (fun _ _ => rfl)) (ao af)) av)))))))))))
theorem jb : aW ["world", "thing", "begun", "over", "put", "event"] ["world", "thing"] (ax cV) := ⟨rfl, rfl, rfl, by decide +kernel, rfl, by decide +kernel, by decide +kernel⟩
theorem om {k : Nat} {bh : Fn} (d : Def K mg "_law_is_log" cV ["world", "thing"]) (B : Blt mg) (fN : fO P w K mg base "_law_is_event" (k) ["world", "thing"] bh) : fO P w K mg base "_law_is_log" (k + 1) ["world", "thing"] (fnU 6 2 (cZ bh)) :=
 d.pure jb fun f cdv A outer s H E hr => by
  have hu := fB hr
  have nd := jb.nd
  exact (ar (bX (sQ (sR (gI (gH (m7 (T := .list) (by intro z; cases z) (ah (wpv 1)) (i9 rfl B.list OG.fK) rfl B.isinstance))) (m6 (aT Ba Gy (d8 js jr rfl B.len PySem.boot_len (ae (ah (wpv 1)) av)) (ao af) (aQ _))))) (aB (aP (kM dc))) bt)
   (ar (aJ (i := 2) nd rfl (by first | exact Or.inl rfl | exact Or.inr rfl) (cy av))
   (ar (aJ (i := 3) nd rfl (by first | exact Or.inl rfl | exact Or.inr rfl) (cy av))
   (ar (aJ (i := 4) nd rfl (by first | exact Or.inl rfl | exact Or.inr rfl) uX)
   (ar (lL PassesOwn.never rfl (nC (ah (wpv 1))) (eg (bO (i := 5) nd rfl (by first | exact Or.inl rfl | exact Or.inr rfl))) (ar (bX (sQ (sR (gI (gH (aH fN hr rfl (ae (ah (wpv 0)) (ae (ah (wpv 5)) av))))) (m6 (xG hu (bN hu (ah (wpv 5)) (ao af) (fun _ _ => rfl) (fun _ _ => rfl)) (ah (wpv 3)) (by with_unfolding_all rfl))))) (aB (aP (kM dc))) bt)
   (ar (bX (aT fg kA (IC hu (bN hu (ah (wpv 5)) (ao af) (fun _ _ => rfl) (fun _ _ => rfl)) (ah (wpv 2)) (by with_unfolding_all rfl)) (u0 fg kA (bN hu (ah (wpv 5)) (ao af) (fun _ _ => rfl) (fun _ _ => rfl)) (aM aA) (aQ _)) (aQ _)) (aB (aP (kM dc))) bt)
   (ar (bX (aT fg kA (bN hu (ah (wpv 5)) (ao af) (fun _ _ => rfl) (fun _ _ => rfl)) (aM aA) (aQ _)) (aB (dZ (fU (ah (wpv 2)) (ae (bN hu (ah (wpv 5)) (ao af) (fun _ _ => rfl) (fun _ _ => rfl)) av)))) (aB (bX (aT fg kA (bN hu (ah (wpv 5)) (ao af) (fun _ _ => rfl) (fun _ _ => rfl)) (aM aA) (aQ _)) (aB (uT hu (ah (wpv 4)) (ah (wpv 5)) (bS (ao af)) (bS (ao af)) (bN hu (ah (wpv 5)) (ao af) (fun _ _ => rfl) (fun _ _ => rfl)))) (aB (bX (sQ (AJ (aT fg kA (bN hu (ah (wpv 5)) (ao af) (fun _ _ => rfl) (fun _ _ => rfl)) (aM aA) (aQ _)) (va (aT ye EL (AH hu (ah (wpv 4)) (ph (ah (wpv 5)) (bS (ao af)) (bS (ao af))) (bN hu (ah (wpv 5)) (ao af) (fun _ _ => rfl) (fun _ _ => rfl)) ⟨rfl, rfl, rfl, rfl⟩) (bN hu (ah (wpv 5)) (ao af) (fun _ _ => rfl) (fun _ _ => rfl)) (aQ _))))) (aB (aP (kM dc))) bt)))))
   (aB (bX (xG hu (bN hu (ah (wpv 5)) (ao af) (fun _ _ => rfl) (fun _ _ => rfl)) (bc (ae (aM aA) (ae (aM aA) av))) (by with_unfolding_all rfl)) (aB (dZ (fU (ah (wpv 3)) (ae (bN hu (ah (wpv 5)) (ao af) (fun _ _ => rfl) (fun _ _ => rfl)) av)))) bt))))))
   (aB (aP (kM dc))))))))
theorem fT : aW ["pen", "world", "event", "more", "some", "a"] ["pen", "world", "event"] (ax bu) := ⟨rfl, rfl, rfl, by decide +kernel, rfl, by decide +kernel, by decide +kernel⟩
theorem j6 {k : Nat} {ag : Fn} (d : Def K mg "_law_bent_event" bu ["pen", "world", "event"]) (B : Blt mg) (aw : fO P w K mg base "_law_take" (k) ["pen", "many"] ag) : fO P w K mg base "_law_bent_event" (k + 1) ["pen", "world", "event"] (fnU 6 3 (cR ag)) :=
 d.pure fT fun f cdv A outer s H E hr => by
  have hu := fB hr
  have nd := fT.nd
  exact (ar (aJ (i := 3) nd rfl (by first | exact Or.inl rfl | exact Or.inr rfl) (aH aw hr rfl (ae (ah (wpv 0)) (ae (cK vj A7 (ao af) (ao af)) av))))
   (ar (aJ (i := 4) nd rfl (by first | exact Or.inl rfl | exact Or.inr rfl) (cy (ae (iS fY vh rfl B.list OG.fK (ae (ah (wpv 2)) av)) (ae (ph (ah (wpv 2)) eM (bS (qp (ao af)))) (ae (cK bA bw (ah (wpv 2)) (bc (ae (ao af) av))) av)))))
   (ar (aJ (i := 4) nd rfl (by first | exact Or.inl rfl | exact Or.inr rfl) (cK bA bw (ah (wpv 4)) (cy (ae (cK bA bw (bc (ae (AE (bN hu (ah (wpv 2)) (ao af) (fun _ _ => rfl) (fun _ _ => rfl))) av)) (ph (ah (wpv 2)) (bS (ao af)) eM)) (ae (uW lC) (ae (aM aA) (ae (bc av) (ae (bc (ae (aM aA) av)) av))))))))
   (ar (aJ (i := 4) nd rfl (by first | exact Or.inl rfl | exact Or.inr rfl) (cK bA bw (ah (wpv 4)) (cy (ae (bc (ae (aM aA) (ae (ao af) av))) (ae (bc (ae (aM aA) (ae (cK kB pw (ao af) (ao af)) av))) (ae (bc (ae (aM aA) (ae (kM dc) av))) av))))))
   (ar (aJ (i := 4) nd rfl (by first | exact Or.inl rfl | exact Or.inr rfl) (cK bA bw (ah (wpv 4)) (cy (ae (bc (ae (aM aA) (ae (aM aA) av))) (ae (bc (ae (aM aA) (ae (cK bA bw (ao af) (ah (wpv 3))) av))) (ae (bc (ae (aM aA) (ae (uW lC) av))) av))))))
   (ar (aJ (i := 5) nd rfl (by first | exact Or.inl rfl | exact Or.inr rfl) (bN hu (ah (wpv 2)) (ao af) (fun _ _ => rfl) (fun _ _ => rfl)))
   (ar (aJ (i := 4) nd rfl (by first | exact Or.inl rfl | exact Or.inr rfl) (cK bA bw (ah (wpv 4)) (cy (ae (bc (ae (aM aA) (ae (ah (wpv 5)) (ae (bN hu (ah (wpv 1)) (ao af) (fun _ _ => rfl) (fun _ _ => rfl)) (ae (ao af) av))))) (ae (bc (ae (aM aA) (ae (ah (wpv 5)) (ae (ao af) (ae (bN hu (ah (wpv 1)) (ao af) (fun _ _ => rfl) (fun _ _ => rfl)) av))))) av)))))
   (ar (aJ (i := 4) nd rfl (by first | exact Or.inl rfl | exact Or.inr rfl) (cK bA bw (ah (wpv 4)) (cy (ae (bc (ae (aM aA) (ae (ah (wpv 5)) (ae (ao af) (ae (cK bA bw (bN hu (ah (wpv 1)) (ao af) (fun _ _ => rfl) (fun _ _ => rfl)) (ah (wpv 3))) av))))) (ae (bc (ae (aM aA) (ae (ah (wpv 5)) (ae (cK kB pw (ao af) (ao af)) (ae (ao af) av))))) av)))))
   (ar (aJ (i := 4) nd rfl (by first | exact Or.inl rfl | exact Or.inr rfl) (cK bA bw (ah (wpv 4)) (cy (ae (bc (ae (aM aA) (ae (ah (wpv 5)) (ae (ao af) (ae (kM dc) av))))) (ae (bc (ae (aM aA) (ae (ah (wpv 5)) (ae (ao af) (ae (uW lC) av))))) (ae (bc (ae (aM aA) (ae (ah (wpv 5)) (ae (ao af) av)))) av))))))
   (ar (aJ (i := 4) nd rfl (by first | exact Or.inl rfl | exact Or.inr rfl) (cK bA bw (ah (wpv 4)) (cy (ae (bc (ae (aM aA) (ae (ah (wpv 5)) (ae (ao af) (ae (ao af) (ae (ao af) av)))))) (ae (bc (ae (aM aA) (ae (ah (wpv 5)) av))) (ae (bc (ae (aM aA) (ae (ah (wpv 5)) av))) av))))))
   (ar (aJ (i := 4) nd rfl (by first | exact Or.inl rfl | exact Or.inr rfl) (cK bA bw (ah (wpv 4)) (cy (ae (bc (ae (aM aA) (ae (ah (wpv 5)) (ae (ao af) (ae (ao af) av))))) (ae (bc (ae (aM aA) (ae (ah (wpv 5)) (ae (ao af) (ae (ao af) av))))) (ae (bc (ae (aM aA) (ae (ah (wpv 5)) av))) av))))))
   (ar (aJ (i := 4) nd rfl (by first | exact Or.inl rfl | exact Or.inr rfl) (cK bA bw (ah (wpv 4)) (cy (ae (bc (ae (aM aA) (ae (ah (wpv 5)) av))) (ae (bc (ae (aM aA) (ae (ah (wpv 5)) av))) (ae (bc (ae (bc (ae (aM aA) av)) (ae (ah (wpv 5)) av))) av))))))
   (ar (aJ (i := 4) nd rfl (by first | exact Or.inl rfl | exact Or.inr rfl) (cK bA bw (ah (wpv 4)) (cy (ae (bc (ae (aM aA) (ae (cy (ae (ao af) av)) av))) (ae (bc (ae (aM aA) (ae (ah (wpv 5)) (ae (cy (ae (ao af) av)) (ae (ao af) av))))) (ae (bc (ae (aM aA) (ae (ah (wpv 5)) (ae (ao af) (ae (cy (ae (ao af) av)) av))))) (ae (bc (ae (aM aA) (ae (cy (ae (ah (wpv 5)) av)) (ae (ao af) (ae (ao af) av))))) (ae (bc (ae (cy (ae (aM aA) av)) (ae (ah (wpv 5)) av))) av))))))))
   (aB (aP (bN hu (ah (wpv 4)) (aH aw hr rfl (ae (ah (wpv 0)) (ae (ao af) av))) (fun _ _ => rfl) (fun _ _ => rfl)))))))))))))))))
theorem gF : aW ["pen", "world", "log", "begun", "a", "box", "numbers", "more", "found", "at", "event"] ["pen", "world", "log"] (ax bJ) := ⟨rfl, rfl, rfl, by decide +kernel, rfl, by decide +kernel, by decide +kernel⟩
theorem kN {k : Nat} {ag : Fn} (d : Def K mg "_law_with_puts" bJ ["pen", "world", "log"]) (B : Blt mg) (aw : fO P w K mg base "_law_take" (k) ["pen", "many"] ag) : fO P w K mg base "_law_with_puts" (k + 1) ["pen", "world", "log"] (fnU 11 3 (dg ag)) :=
 d.pure gF fun f cdv A outer s H E hr => by
  have hu := fB hr
  have nd := gF.nd
  exact (ar (aJ (i := 3) nd rfl (by first | exact Or.inl rfl | exact Or.inr rfl) (rq (Nc := ["event"]) (tn := ["event"]) (capN := []) (caps := []) rfl (nC (ah (wpv 2))) (fun _ _ _ => (eg (bO (i := 0) (show (["event"] : List Str).Nodup by decide +kernel) rfl (by first | exact Or.inl rfl | exact Or.inr rfl)))) (fun _ _ _ => (aT fg kA (bN hu (ah (wpv 0)) (ao af) (fun _ _ => rfl) (fun _ _ => rfl)) (aM aA) (aQ _))) (fun _ _ _ => (bN hu (ah (wpv 0)) (ao af) (fun _ _ => rfl) (fun _ _ => rfl))) rfl rfl (by decide +kernel) (by decide +kernel) trivial rfl .nil rfl rfl))
   (ar (aJ (i := 4) nd rfl (by first | exact Or.inl rfl | exact Or.inr rfl) (bN hu (rq (Nc := ["name", "begun"]) (tn := ["name"]) (capN := ["begun"]) (caps := [3]) rfl (fG rfl B.range (ae (ao af) av)) (fun _ _ _ => (eg (bO (i := 0) (show (["name", "begun"] : List Str).Nodup by decide +kernel) rfl (by first | exact Or.inl rfl | exact Or.inr rfl)))) (fun _ _ _ => (nW hu (ah (wpv 0)) (ah (wpv 1)) (by with_unfolding_all rfl))) (fun _ _ _ => (ah (wpv 0))) rfl rfl (by decide +kernel) (by decide +kernel) ⟨rfl, trivial⟩ rfl (.cons ⟨rfl, rfl, rfl, _, rfl⟩ .nil) rfl rfl) (aH aw hr rfl (ae (ah (wpv 0)) (ae (ao af) av))) (fun _ _ => rfl) (fun _ _ => rfl)))
   (ar (aJ (i := 5) nd rfl (by first | exact Or.inl rfl | exact Or.inr rfl) (aH aw hr rfl (ae (ah (wpv 0)) (ae (bN hu (ah (wpv 1)) (ao af) (fun _ _ => rfl) (fun _ _ => rfl)) av))))
   (ar (sP (Nc := ["k", "pen", "world"]) (tn := ["k"]) (capN := ["pen", "world"]) (caps := [0, 1]) rfl (fG rfl B.range (ae (ao af) av)) (fun _ _ _ => (eg (bO (i := 0) (show (["k", "pen", "world"] : List Str).Nodup by decide +kernel) rfl (by first | exact Or.inl rfl | exact Or.inr rfl)))) (fun _ _ _ => (aH aw hr rfl (ae (ah (wpv 1)) (ae (bN hu (ah (wpv 2)) (ao af) (fun _ _ => rfl) (fun _ _ => rfl)) av)))) rfl rfl (by decide +kernel) (by decide +kernel) ⟨rfl, rfl, trivial⟩ rfl (.cons ⟨rfl, rfl, rfl, _, rfl⟩ (.cons ⟨rfl, rfl, rfl, _, rfl⟩ .nil)) rfl rfl nd rfl rfl rfl)
   (ar (aJ (i := 7) nd rfl (by first | exact Or.inl rfl | exact Or.inr rfl) (cK bA bw (cy (ae (bc (ae (aM aA) (ae (ah (wpv 4)) av))) av)) (rA (Nc := ["number", "a", "box"]) (tn := ["number"]) (capN := ["a", "box"]) (caps := [4, 5]) rfl (nC (ah (wpv 6))) (fun _ _ _ => (eg (bO (i := 0) (show (["number", "a", "box"] : List Str).Nodup by decide +kernel) rfl (by first | exact Or.inl rfl | exact Or.inr rfl)))) (fun _ _ _ => (bc (ae (aM aA) (ae (ah (wpv 1)) (ae (ah (wpv 2)) (ae (ah (wpv 0)) av)))))) rfl rfl (by decide +kernel) (by decide +kernel) ⟨rfl, rfl, trivial⟩ rfl (.cons ⟨rfl, rfl, rfl, _, rfl⟩ (.cons ⟨rfl, rfl, rfl, _, rfl⟩ .nil)) rfl rfl)))
   (ar (dZ (fU (ah (wpv 7)) (ae (bc (ae (aM aA) (ae (ah (wpv 4)) (ae (ah (wpv 5)) (ae (bN hu (ah (wpv 6)) (aH aw hr rfl (ae (ah (wpv 0)) (ae (ao af) av))) (fun _ _ => rfl) (fun _ _ => rfl)) av))))) av)))
   (ar (bX (aT fg kA (aH aw hr rfl (ae (ah (wpv 0)) (ae (ao af) av))) (ao af) (aQ _)) (aB (dZ (nX (ah (wpv 7)) (ae (cK bA bw (ao af) (aH aw hr rfl (ae (ah (wpv 0)) (ae (ao af) av)))) (ae (bc (ae (aM aA) (ae (ah (wpv 4)) (ae (aH aw hr rfl (ae (ah (wpv 0)) (ae (bN hu (ah (wpv 1)) (ao af) (fun _ _ => rfl) (fun _ _ => rfl)) av))) (ae (aH aw hr rfl (ae (ah (wpv 0)) (ae (bN hu (ah (wpv 1)) (ao af) (fun _ _ => rfl) (fun _ _ => rfl)) av))) av))))) av))))) bt)
   (ar (bX (aT fg kA (aH aw hr rfl (ae (ah (wpv 0)) (ae (ao af) av))) (ao af) (aQ _)) (aB (dZ (nX (ah (wpv 7)) (ae (ao af) (ae (bc (ae (aM aA) (ae (ah (wpv 4)) (ae (ah (wpv 5)) (ae (aH aw hr rfl (ae (ah (wpv 0)) (ae (bN hu (ah (wpv 1)) (ao af) (fun _ _ => rfl) (fun _ _ => rfl)) av))) av))))) av))))) bt)
   (ar (aJ (i := 8) nd rfl (by first | exact Or.inl rfl | exact Or.inr rfl) (iS fY vh rfl B.list OG.fK (ae (ah (wpv 2)) av)))
   (ar (aJ (i := 9) nd rfl (by first | exact Or.inl rfl | exact Or.inr rfl) (ao af))
   (ar (lL PassesOwn.never rfl (nC (ah (wpv 7))) (eg (bO (i := 10) nd rfl (by first | exact Or.inl rfl | exact Or.inr rfl))) (ar (aJ (i := 9) nd rfl (by first | exact Or.inl rfl | exact Or.inr rfl) (cK bA bw (ah (wpv 9)) (aH aw hr rfl (ae (ah (wpv 0)) (ae (cK bA bw (cK kB pw (d8 js jr rfl B.len PySem.boot_len (ae (ah (wpv 8)) av)) (ah (wpv 9))) (ao af)) av)))))
   (ar (dZ (nX (ah (wpv 8)) (ae (ah (wpv 9)) (ae (ah (wpv 10)) av))))
   (aB (aJ (i := 9) nd rfl (by first | exact Or.inl rfl | exact Or.inr rfl) (cK bA bw (ah (wpv 9)) (ao af)))))))
   (aB (aP (ah (wpv 8)))))))))))))))
theorem kx : aW ["pen", "world", "log", "at", "way", "event", "turned"] ["pen", "world", "log"] (ax dY) := ⟨rfl, rfl, rfl, by decide +kernel, rfl, by decide +kernel, by decide +kernel⟩
theorem qG {k : Nat} {ag bB : Fn} (d : Def K mg "_law_bent" dY ["pen", "world", "log"]) (B : Blt mg) (aw : fO P w K mg base "_law_take" (k) ["pen", "many"] ag) (eQ : fO P w K mg base "_law_bent_event" (k) ["pen", "world", "event"] bB) : fO P w K mg base "_law_bent" (k + 1) ["pen", "world", "log"] (fnU 7 3 (fq ag bB)) :=
 d.pure kx fun f cdv A outer s H E hr => by
  have hu := fB hr
  have nd := kx.nd
  exact (ar (bX (sQ (sR (aT (zw hr.units) vi (ah (wpv 2)) (cy av) (aQ _)) (m6 (aT fg kA (aH aw hr rfl (ae (ah (wpv 0)) (ae (ao af) av))) (ao af) (aQ _))))) (aB (aP (bN hu (cy (ae (iS gY qt rfl B.tuple OG.gO (ae (ah (wpv 2)) av)) (ae (cK bA bw (ah (wpv 2)) (cy (ae (uW lC) av))) (ae (cK bA bw (ah (wpv 2)) (cy (ae (bc (ae (aM aA) (ae (ao af) av))) av))) (ae (aM aA) av))))) (aH aw hr rfl (ae (ah (wpv 0)) (ae (ao af) av))) (fun _ _ => rfl) (fun _ _ => rfl)))) bt)
   (ar (aJ (i := 3) nd rfl (by first | exact Or.inl rfl | exact Or.inr rfl) (aH aw hr rfl (ae (ah (wpv 0)) (ae (d8 js jr rfl B.len PySem.boot_len (ae (ah (wpv 2)) av)) av))))
   (ar (aJ (i := 4) nd rfl (by first | exact Or.inl rfl | exact Or.inr rfl) (aH aw hr rfl (ae (ah (wpv 0)) (ae (ao af) av))))
   (ar (aJ (i := 5) nd rfl (by first | exact Or.inl rfl | exact Or.inr rfl) (aH eQ hr rfl (ae (ah (wpv 0)) (ae (ah (wpv 1)) (ae (bN hu (ah (wpv 2)) (ah (wpv 3)) (fun _ _ => rfl) (fun _ _ => rfl)) av)))))
   (ar (bX (aT vn DL (ah (wpv 4)) (ao af) (aQ _)) (aB (aP (cK bA bw (cK bA bw (ph (ah (wpv 2)) eM (bS (ah (wpv 3)))) (cy (ae (ah (wpv 5)) av))) (ph (ah (wpv 2)) (bS (cK bA bw (ah (wpv 3)) (ao af))) eM)))) bt)
   (ar (bX (aT fg kA (ah (wpv 4)) (ao af) (aQ _)) (aB (aP (cK bA bw (cK bA bw (ph (ah (wpv 2)) eM (bS (ah (wpv 3)))) (cy (ae (ah (wpv 5)) av))) (ph (ah (wpv 2)) (bS (ah (wpv 3))) eM)))) bt)
   (ar (bX (aT fg kA (ah (wpv 4)) (ao af) (aQ _)) (aB (aP (cK bA bw (ph (ah (wpv 2)) eM (bS (ah (wpv 3)))) (ph (ah (wpv 2)) (bS (cK bA bw (ah (wpv 3)) (ao af))) eM)))) bt)
   (ar (bX (aT fg kA (ah (wpv 4)) (ao af) (aQ _)) (aB (aP (cK bA bw (cK bA bw (ph (ah (wpv 2)) eM (bS (ah (wpv 3)))) (ph (ah (wpv 2)) (bS (ah (wpv 3))) (bS (cK bA bw (ah (wpv 3)) (ao af))))) (ph (ah (wpv 2)) (bS (ah (wpv 3))) eM)))) bt)
   (ar (aJ (i := 6) nd rfl (by first | exact Or.inl rfl | exact Or.inr rfl) (cK bA bw (ph (ah (wpv 2)) (bS (cK bA bw (ah (wpv 3)) (ao af))) (bS (cK bA bw (ah (wpv 3)) (ao af)))) (ph (ah (wpv 2)) (bS (ah (wpv 3))) (bS (cK bA bw (ah (wpv 3)) (ao af))))))
   (aB (aP (cK bA bw (cK bA bw (ph (ah (wpv 2)) eM (bS (ah (wpv 3)))) (ah (wpv 6))) (ph (ah (wpv 2)) (bS (cK bA bw (ah (wpv 3)) (ao af))) eM)))))))))))))
theorem iG : aW ["world", "thing", "found"] ["world", "thing"] (ax cw) := ⟨rfl, rfl, rfl, by decide +kernel, rfl, by decide +kernel, by decide +kernel⟩
theorem m9 {k : Nat} {bT cX : Fn} (d : Def K mg "_law_answers" cw ["world", "thing"]) (B : Blt mg) (hJ : fO P w K mg base "is_log" (k) ["world", "thing"] bT) (h8 : fO P w K mg base "_law_is_log" (k) ["world", "thing"] cX) : fO P w K mg base "_law_answers" (k + 1) ["world", "thing"] (fnU 3 2 (dD bT cX)) :=
 d.pure iG fun f cdv A outer s H E hr => by
  have hu := fB hr
  have nd := iG.nd
  exact (ar (aJ (i := 2) nd rfl (by first | exact Or.inl rfl | exact Or.inr rfl) (aH hJ hr rfl (ae (ah (wpv 0)) (ae (ah (wpv 1)) av))))
   (aB (aP (ky (m7 (T := .bool) (by intro z; cases z) (ah (wpv 2)) (i9 rfl B.bool OG.mN) rfl B.isinstance) (qo (u0 fg kA (ah (wpv 2)) (aH h8 hr rfl (ae (ah (wpv 0)) (ae (ah (wpv 1)) av))) (aQ _)))))))
theorem zo : aW ["script", "pen", "world", "state", "log", "handed", "k", "long", "things", "thing"] ["script"] (ax mZ) := ⟨rfl, rfl, rfl, by decide +kernel, rfl, by decide +kernel, by decide +kernel⟩
noncomputable def oI (cf cg dH ag bT aV cY aY : Fn) : CS :=
 (aZ (d9 (p9 (aG (cCB aV (ab (ak 2) (ab (cCB cY (ab (ak 1) (ab (ak 2) (ab (ak 4) aq)))) aq))))) (ed (cC (.bl false))) bM)
  (d9 (p9 (aG (cCB aV (ab (ak 2) (ab (cCB aY (ab (ak 1) (ab (ak 2) (ab (ak 4) aq)))) aq))))) (ed (cC (.bl false))) bM))
noncomputable def mP (cf cg dH ag bT aV cY aY : Fn) : CS :=
 (d9 (p9 (aG (cCB aV (ab (ak 2) (ab (ak 9) aq))))) (ed (cC (.bl false))) bM)
noncomputable def wK (cf cg dH ag bT aV cY aY : Fn) : CS :=
 (aZ (bZ 2 (cCB cf (ab (ak 1) aq)))
  (aZ (bZ 3 (cCB cg (ab (ak 1) (ab (ak 2) aq))))
  (aZ (bZ 4 (cCB dH (ab (ak 1) (ab (ak 2) (ab (ak 3) (ab (cC (.int 6)) (ab (cOp fIx (bE (ab (cC (.int 40)) (ab (cC (.int 40)) (ab (cC (.int 40)) (ab (cC (.int 400)) aq))))) (cCB ag (ab (ak 1) (ab (cC (.int 4)) aq)))) aq)))))))
  (aZ (bZ 5 (cCB j7 (ab (ak 4) aq)))
  (aZ (d9 (cOr (aG (cOp iJ (cCB bT (ab (ak 2) (ab (ak 5) aq))) (cC (.bl true)))) (aG (cOp (mV true) (ak 5) (ak 4)))) (ed (cC (.bl false))) bM)
  (aZ (d9 (aG (cOp iJ (cCB bT (ab (ak 2) (ab (cSl (ak 4) none (some (cCB ag (ab (ak 1) (ab (cOp bD (cCB jd (ab (ak 4) aq)) (cC (.int 1))) aq))))) aq))) (cC (.bl true)))) (ed (cC (.bl false))) bM)
  (aZ (mW (bY (ab (cC (.int 6)) aq)) (gNm 6) (oI cf cg dH ag bT aV cY aY))
  (aZ (bZ 7 (cOp bD (bE (ab (aN (ab (cC (.str "begin")) (ab (cC (.int 3)) aq))) aq)) (g9 (bY (ab (cC (.int 1999)) aq)) (gNm 0) (aN (ab (cC (.str "look")) (ab (cC (.int 3)) (ab (cC (.int 0)) (ab (cOp mw (ak 0) (cC (.int 2))) aq))))) 1 [])))
  (aZ (bZ 8 (bE (ab (ak 7) (ab (cOp bD (ak 7) (bE (ab (aN (ab (cC (.str "fall")) (ab (cC (.int 3)) aq))) aq))) (ab (bE aq) (ab (cC .non) (ab (cC (.int 0)) (ab (cC (.str "log")) (ab (aN aq) aq)))))))))
  (aZ (mW (iTp (cOp bD (ak 8) (bE (ab (bE (ab (aN (ab (cC (.str "begin")) (ab (cC (.int 0)) aq))) (ab (aN (ab (cC (.str "begin")) (ab (cC (.int 199)) aq))) aq))) (ab (bE (ab (aN (ab (cC (.str "begin")) (ab (cC (.int 200)) aq))) aq)) aq))))) (gNm 9) (mP cf cg dH ag bT aV cY aY))
  (ed (cC (.bl true)))))))))))))
theorem GW {k : Nat} {cf cg dH ag bT aV cY aY : Fn} {fa : Addr} {fd : FuncData} (F : Fun K "law" "law" mZ fa fd) (B : Blt mg) (tR : Has P w K mg base "_law_pen" k ["script"] (zj K)) (iL : fO P w K mg base "_law_world" k ["pen"] cf) (iM : fO P w K mg base "_law_state" k ["pen", "world"] cg) (kn : fO P w K mg base "_law_log" k ["pen", "world", "state", "most", "size"] dH) (aw : fO P w K mg base "_law_take" k ["pen", "many"] ag) (hJ : fO P w K mg base "is_log" k ["world", "thing"] bT) (dP : fO P w K mg base "_law_answers" k ["world", "thing"] aV) (jB : fO P w K mg base "_law_bent" k ["pen", "world", "log"] cY) (fu : fO P w K mg base "_law_with_puts" k ["pen", "world", "log"] aY)
  (ok : ∀ (ns : List Int) (a c : Int), 0 ≤ a → 0 ≤ c → ∃ ρ' S', wK cf cg dH ag bT aV cY aY [none, some (.ref 1), none, none, none, none, none, none, none, none] [.lst (ns.map U.int), .lst [.ref 0, .int a, .int c]] = some (.rt (.bl true), ρ', S')) : mX P w K mg base CX0 (k + 1) fa fd ["script"] (xB K) := by
 refine Fun.okW F zo (fun vs H Q E h => (by obtain ⟨a, ns, rfl, _⟩ := h; rfl)) fun cdv A outer s H vs Q E hr h => ?_
 obtain ⟨a, ns, rfl, hS, gW, q⟩ := h
 have hu := fB hr
 have nd := zo.nd
 refine ⟨_, oW (u := tS K (wK cf cg dH ag bT aV cY aY)) (uh (i := 1) nd rfl (by first | exact Or.inl rfl | exact Or.inr rfl) (zc tR hr rfl (fz (wpv 0) jW))) (ar (aJ (i := 2) nd rfl (by first | exact Or.inl rfl | exact Or.inr rfl) (aH iL hr rfl (ae (ah (wpv 1)) av)))
   (ar (aJ (i := 3) nd rfl (by first | exact Or.inl rfl | exact Or.inr rfl) (aH iM hr rfl (ae (ah (wpv 1)) (ae (ah (wpv 2)) av))))
   (ar (aJ (i := 4) nd rfl (by first | exact Or.inl rfl | exact Or.inr rfl) (aH kn hr rfl (ae (ah (wpv 1)) (ae (ah (wpv 2)) (ae (ah (wpv 3)) (ae (ao af) (ae (bN hu (cy (ae (ao af) (ae (ao af) (ae (ao af) (ae (ao af) av))))) (aH aw hr rfl (ae (ah (wpv 1)) (ae (ao af) av))) (fun _ _ => rfl) (fun _ _ => rfl)) av)))))))
   (ar (aJ (i := 5) nd rfl (by first | exact Or.inl rfl | exact Or.inr rfl) (iS fY vh rfl B.list OG.fK (ae (ah (wpv 4)) av)))
   (ar (bX (sQ (sR (aT lO rE (aH hJ hr rfl (ae (ah (wpv 2)) (ae (ah (wpv 5)) av))) (kM dc) (aQ _)) (m6 (aT (vm hr.units) vi (ah (wpv 5)) (ah (wpv 4)) (aQ _))))) (aB (aP (kM dc))) bt)
   (ar (bX (aT lO rE (aH hJ hr rfl (ae (ah (wpv 2)) (ae (ph (ah (wpv 4)) eM (bS (aH aw hr rfl (ae (ah (wpv 1)) (ae (cK bA bw (d8 js jr rfl B.len PySem.boot_len (ae (ah (wpv 4)) av)) (ao af)) av))))) av))) (kM dc) (aQ _)) (aB (aP (kM dc))) bt)
   (ar (lL PassesOwn.never rfl (fG rfl B.range (ae (ao af) av)) (eg (bO (i := 6) nd rfl (by first | exact Or.inl rfl | exact Or.inr rfl))) (ar (bX (gI (gH (aH dP hr rfl (ae (ah (wpv 2)) (ae (aH jB hr rfl (ae (ah (wpv 1)) (ae (ah (wpv 2)) (ae (ah (wpv 4)) av)))) av))))) (aB (aP (kM dc))) bt)
   (aB (bX (gI (gH (aH dP hr rfl (ae (ah (wpv 2)) (ae (aH fu hr rfl (ae (ah (wpv 1)) (ae (ah (wpv 2)) (ae (ah (wpv 4)) av)))) av))))) (aB (aP (kM dc))) bt))))
   (ar (aJ (i := 7) nd rfl (by first | exact Or.inl rfl | exact Or.inr rfl) (cK bA bw (cy (ae (bc (ae (aM aA) (ae (ao af) av))) av)) (rA (Nc := ["k"]) (tn := ["k"]) (capN := []) (caps := []) rfl (fG rfl B.range (ae (ao af) av)) (fun _ _ _ => (eg (bO (i := 0) (show (["k"] : List Str).Nodup by decide +kernel) rfl (by first | exact Or.inl rfl | exact Or.inr rfl)))) (fun _ _ _ => (bc (ae (aM aA) (ae (ao af) (ae (ao af) (ae (cK kF pz (ah (wpv 0)) (ao af)) av)))))) rfl rfl (by decide +kernel) (by decide +kernel) trivial rfl .nil rfl rfl)))
   (ar (aJ (i := 8) nd rfl (by first | exact Or.inl rfl | exact Or.inr rfl) (cy (ae (ah (wpv 7)) (ae (cK bA bw (ah (wpv 7)) (cy (ae (bc (ae (aM aA) (ae (ao af) av))) av))) (ae (cy av) (ae (uW lC) (ae (ao af) (ae (aM aA) (ae (bc av) av)))))))))
   (ar (lL PassesOwn.never rfl (nC (cK bA bw (ah (wpv 8)) (cy (ae (cy (ae (bc (ae (aM aA) (ae (ao af) av))) (ae (bc (ae (aM aA) (ae (ao af) av))) av))) (ae (cy (ae (bc (ae (aM aA) (ae (ao af) av))) av)) av))))) (eg (bO (i := 9) nd rfl (by first | exact Or.inl rfl | exact Or.inr rfl))) (aB (bX (gI (gH (aH dP hr rfl (ae (ah (wpv 2)) (ae (ah (wpv 9)) av))))) (aB (aP (kM dc))) bt)))
   (aB (aP (kM dc))))))))))))), ?_⟩
 refine ⟨_, rfl, a, ns, rfl, hS, fun p xs H1 s1 P1 n1 => ?_⟩
 exact Bh P1 ok q
end
end OL
local macro_rules
 | `(tactic| rwa $s:rwRuleSeq) => do
  let ts : Array (Lean.TSyntax `term) := s.raw[1].getSepArgs.map fun r => ⟨r[1]⟩
  let us : Array (Lean.TSyntax `term) := (("EY BX x_c mY iZ iY i8 qe F7 CB Cz EF Cd zR Fj Cg Cy z9 z8 Fi Cc Cb Ce zS Fl eF dI jl sE oR nN qY Cu FW ud oV B1 ua yZ B6 B5 B4 Cr z4 sF B7 xf uf y8 Ik FG FF gR oS F5 Cw Cv FI FH CD CC HQ Fd Fc Fb E9 xc sG sH FA E7 B2 B3 y4 y6 Cn Cm F8 EZ Ih Fx Il Im zZ Fo FL Fm FN Fp FK FJ at0 at1 at2 at3 ix0 ix1 ix2 Option.bind_some List.getElem?_cons_zero List.getElem?_cons_succ List.set_cons_zero List.set_cons_succ List.length_cons List.length_nil List.map_cons List.map_nil decide_true decide_false Bool.not_true Bool.not_false Cq zb za HR Fg Ff Fe Cj zV zU zT zW FC FE Fy Co Ip FZ FY FX F6 Io FT FR FQ FP FO Cs HW x_p HV HU HS Ct z7 z6 BY yY BZ zX qh zY Cp ga ga0 gs gs0 Option.join_some Nat.add_zero List.cons_append List.nil_append List.append_assoc" : String).splitOn " ").toArray.map fun x => ⟨(Lean.mkIdent ((x.splitOn ".").foldl Lean.Name.str Lean.Name.anonymous)).raw⟩
  let vs := ts ++ us
  `(tactic| simp only [$[$vs:term],*])
namespace OQ
open PySem PySem.Spec PyProof.Rows L2 OG OP
noncomputable def pen (a c : Int) : O := .lst [.ref 0, .int a, .int c]
section
variable {S : Sto} {j k : Int}
theorem uc (h : -(2 ^ 64) < k ∧ k < 2 ^ 64) : mv (.int j) (.int k) S = some (.int (j * k), S) := Ci (.inr h)
theorem oU (h : -(2 ^ 64) < j ∧ j < 2 ^ 64) : mv (.int j) (.int k) S = some (.int (j * k), S) := Ci (.inl h)
theorem Ig : mv (.int j) (.int 3) S = some (.int (j * 3), S) := uc (by decide)
theorem Fu : mv (.int 97) (.int k) S = some (.int (97 * k), S) := oU (by decide)
theorem Fv : mv (.int 53) (.int k) S = some (.int (53 * k), S) := oU (by decide)
theorem Ie : mv (.int j) (.int 48271) S = some (.int (j * 48271), S) := uc (by decide)
theorem Ib : mv (.int 69621) (.int k) S = some (.int (69621 * k), S) := oU (by decide)
theorem Ia : mv (.int j) (.int 998244353) S = some (.int (j * 998244353), S) := uc (by decide)
theorem Ft : mv (.int (j % 2147483647)) (.int k) S = some (.int (j % 2147483647 * k), S) := oU (by have := Int.emod_nonneg j (show (2147483647 : Int) ≠ 0 by decide); have := Int.emod_lt_of_pos j (show (0 : Int) < 2147483647 by decide); omega)
theorem Fq : mv (.int (j % 1000000007)) (.int k) S = some (.int (j % 1000000007 * k), S) := oU (by have := Int.emod_nonneg j (show (1000000007 : Int) ≠ 0 by decide); have := Int.emod_lt_of_pos j (show (0 : Int) < 1000000007 by decide); omega)
theorem H0 : mw (.int j) (.int 998244353) S = some (.int (j % 998244353), S) := qg (by decide)
theorem HZ : mw (.int j) (.int 2147483647) S = some (.int (j % 2147483647), S) := qg (by decide)
theorem HY : mw (.int j) (.int 1000000007) S = some (.int (j % 1000000007), S) := qg (by decide)
theorem HX : mw (.int j) (.int 1000003) S = some (.int (j % 1000003), S) := qg (by decide)
theorem FV : yB (.int j) (.int 16) S = some (.int (j / 16), S) := z5 ⟨by decide, by decide +kernel⟩
theorem Ca : yA (.int 10) (.int 18) S = some (.int 1000000000000000000, S) := B8 (j := 10) (k := 18) ⟨by decide, by decide, by decide⟩
theorem FU : yB (.int j) (.int 1000000000000000000) S = some (.int (j / 1000000000000000000), S) := z5 ⟨by decide, by decide +kernel⟩
theorem atU {ns : List Int} {k : Int} (h0 : 0 ≤ k) (h1 : k < (ns.length : Int)) : ∃ v : Int, atI (ns.map U.int) k = some (.int v) := by
 have hk : k.toNat < ns.length := by omega
 exact ⟨ns[k.toNat], wR h0 (by rw [List.getElem?_map, List.getElem?_eq_getElem hk]; rfl)⟩
end
noncomputable def aL : Fn := fnU 8 2 eO
theorem aU (ns : List Int) (T : Sto) {a c m : Int} (ha : 0 ≤ a) (hc : 0 ≤ c) (hm : 0 < m) (hb : m.natAbs.log2 < 9000) :
  ∃ f a' c', aL [.ref 1, .int m] (.lst (ns.map U.int) :: pen a c :: T) = some (.int f, .lst (ns.map U.int) :: pen a' c' :: T) ∧ 0 ≤ f ∧ f < m ∧ 0 ≤ a' ∧ 0 ≤ c' := by
 unfold aL
 rw [qM]
 have dm : ∀ {j : Int} {S : Sto}, yB (.int j) (.int m) S = some (.int (j / m), S) := z5 ⟨hm, hb⟩
 have mm : ∀ {j : Int} {S : Sto}, mw (.int j) (.int m) S = some (.int (j % m), S) := qg hm
 have fin : ∀ {a' c' : Int}, 0 ≤ a' → 0 ≤ c' → 0 ≤ c' % m ∧ c' % m < m ∧ 0 ≤ a' ∧ 0 ≤ c' / m := fun h1 h2 => ⟨Int.emod_nonneg _ (by omega), Int.emod_lt_of_pos _ hm, h1, Int.ediv_nonneg h2 (by omega)⟩
 by_cases c0 : c = 0
 ·subst c0
  have cell : ∃ z : Int, (d9 (aG (cOp fLt (ak 2) (cCB jd (ab (cOp fIx (ak 0) (cC (U.int 0))) aq))))
              (bZ 3 (cOp fIx (cOp fIx (ak 0) (cC (U.int 0))) (ak 2)))
              (d9
               (aG (cOp fGt (cCB jd (ab (cOp fIx (ak 0) (cC (U.int 0))) aq)) (cC (U.int 0))))
               (bZ 3
                (cOp bD
                 (cOp mw
                  (cOp fIx (cOp fIx (ak 0) (cC (U.int 0)))
                   (cOp mw (cOp mv (ak 2) (cC (U.int 3)))
                    (cCB jd (ab (cOp fIx (ak 0) (cC (U.int 0))) aq))))
                  (cC (U.int 1000003)))
                 (cOp mv (cC (U.int 97)) (ak 2))))
               bM)) [some (.ref 1), some (.int m), some (.int a), some (.int 0), none, none, none, none] (O.lst (ns.map U.int) :: .lst [.ref 0, .int (a + 1), .int 0] :: T) = some (.nx, [some (.ref 1), some (.int m), some (.int a), some (.int z), none, none, none, none], O.lst (ns.map U.int) :: .lst [.ref 0, .int (a + 1), .int 0] :: T) := by
   by_cases h1 : a < (ns.length : Int)
   ·obtain ⟨z, hz⟩ := atU ha h1
    exact ⟨z, by rwa [hz, h1, List.length_map]⟩
   ·by_cases h2 : (0 : Int) < (ns.length : Int)
    ·obtain ⟨z, hz⟩ := atU (ns := ns) (k := a * 3 % (ns.length : Int)) (Int.emod_nonneg _ (by omega)) (Int.emod_lt_of_pos _ h2)
     exact ⟨z % 1000003 + 97 * a, by rwa [h1, h2, Ig, qg h2, hz, HX, Fu, List.length_map]⟩
    ·exact ⟨0, by rwa [h1, h2, List.length_map]⟩
  obtain ⟨z, hz⟩ := cell
  rwa [eO, pen, hz, H0, HZ, HY, Fv, Ie, Ib, Ia, Ft, Fq, FV, Ca]
  by_cases h3 : (1000000000000000000 : Int) ≤ z
  ·rwa [h3, Ca, FU, mm, dm]
   exact ⟨_, _, _, rfl, fin (by omega) (Int.ediv_nonneg (by omega) (by omega))⟩
  ·rwa [h3, mm, dm]
   refine ⟨_, _, _, rfl, fin (by omega) ?_⟩
   exact Int.add_nonneg (Int.ediv_nonneg (Int.add_nonneg (Int.mul_nonneg (Int.emod_nonneg _ (by decide)) (by decide)) (Int.emod_nonneg _ (by decide))) (by decide)) (by decide)
 ·rwa [eO, pen, c0, mm, dm]
  exact ⟨_, _, _, rfl, fin ha hc⟩
theorem l9 {m : Int} (h0 : 0 ≤ m) (h : m < 2 ^ 60) : m.natAbs.log2 < 9000 := vB h0 h
noncomputable abbrev scr (ns : List Int) : O := .lst (ns.map U.int)
theorem Gq {f g : Int} (g0 : 0 ≤ g) (g1 : g < 999) (f0 : 0 ≤ f) (f1 : f < 5) : ∃ v : Int, atI [U.int 2, U.int 3, U.int 5, U.int 10, U.int (2 + g)] f = some (.int v) ∧ 2 ≤ v ∧ v ≤ 1000 := by
 have : f = 0 ∨ f = 1 ∨ f = 2 ∨ f = 3 ∨ f = 4 := by omega
 rcases this with rfl | rfl | rfl | rfl | rfl
 ·exact ⟨2, rfl, by omega, by omega⟩
 ·exact ⟨3, rfl, by omega, by omega⟩
 ·exact ⟨5, rfl, by omega, by omega⟩
 ·exact ⟨10, rfl, by omega, by omega⟩
 ·exact ⟨2 + g, rfl, by omega, by omega⟩
noncomputable def oJ : Fn := fnU 1 1 (fi aL)
theorem xp (ns : List Int) (T : Sto) {a c : Int} (ha : 0 ≤ a) (hc : 0 ≤ c) :
  ∃ n w a' c' G, oJ [.ref 1] (scr ns :: pen a c :: T) = some (.tup [.int n, .int w], scr ns :: pen a' c' :: (T ++ G)) ∧ 1 ≤ n ∧ n ≤ 6 ∧ 2 ≤ w ∧ w ≤ 1000 ∧ 0 ≤ a' ∧ 0 ≤ c' := by
 unfold oJ
 rw [pL]
 obtain ⟨f1, a1, c1, h1, p1, q1, ha1, hc1⟩ := aU ns T (m := 6) ha hc (by decide) (by decide +kernel)
 obtain ⟨f2, a2, c2, h2, p2, q2, ha2, hc2⟩ := aU ns T (m := 999) ha1 hc1 (by decide) (by decide +kernel)
 obtain ⟨f3, a3, c3, h3, p3, q3, ha3, hc3⟩ := aU ns (T ++ [.lst [.int 2, .int 3, .int 5, .int 10, .int (2 + f2)]]) (m := 5) ha2 hc2 (by decide) (by decide +kernel)
 obtain ⟨v, hv, v0, v1⟩ := Gq p2 q2 p3 q3
 refine ⟨1 + f1, v, a3, c3, [.lst [.int 2, .int 3, .int 5, .int 10, .int (2 + f2)]], ?_, by omega, by omega, v0, v1, ha3, hc3⟩
 rwa [fi, h1, h2, h3, hv]
noncomputable def oN : Fn := fnU 2 2 (fj aL)
theorem ql (ns : List Int) (T : Sto) {n w : Int} (w0 : 2 ≤ w) (w1 : w ≤ 1000) : ∀ (us : List U) (r : Option U) (ys : List Int) {a c : Int}, 0 ≤ a → 0 ≤ c → ys.length + us.length ≤ 1000 →
  ∃ zs a' c', iC (fun _ => True) (gNm 0) (cCB aL (ab (ak 1) (ab (cOp fIx (ak 2) (cC (.int 1))) aq))) (T.length + 1 + 1) us [r, some (.ref 1), some (.tup [.int n, .int w])] (scr ns :: pen a c :: (T ++ [.lst (ys.map U.int)]))
   = some (scr ns :: pen a' c' :: (T ++ [.lst ((ys ++ zs).map U.int)])) ∧ zs.length = us.length ∧ (∀ z ∈ zs, 0 ≤ z ∧ z < w) ∧ 0 ≤ a' ∧ 0 ≤ c'
 | [], r, ys, a, c, ha, hc, hl => ⟨[], a, c, by simp [iC], rfl, by simp, ha, hc⟩
 | u :: us, r, ys, a, c, ha, hc, hl => by
  obtain ⟨f, a1, c1, h1, p1, q1, ha1, hc1⟩ := aU ns (T ++ [.lst (ys.map U.int)]) (m := w) ha hc (by omega) (l9 (by omega) (by omega))
  obtain ⟨zs, a2, c2, h2, e2, b2, ha2, hc2⟩ := ql ns T (n := n) w0 w1 us (some u) (ys ++ [f]) ha1 hc1 (by simp at hl ⊢; omega)
  refine ⟨f :: zs, a2, c2, ?_, by simp [e2], fun z hz => ?_, ha2, hc2⟩
  ·have gW : (ys.map U.int).length < LIM := by unfold LIM; simp at hl ⊢; omega
   unfold iC
   rwa [h1, if_true, gW]
   rw [List.map_append] at h2
   simp only [List.map_cons, List.map_nil] at h2
   rw [h2]
   simp
  ·rcases List.mem_cons.mp hz with rfl | hz
   ·exact ⟨p1, q1⟩
   ·exact b2 z hz
theorem xy (ns : List Int) (T : Sto) {a c n w : Int} (ha : 0 ≤ a) (hc : 0 ≤ c) (n0 : 1 ≤ n) (n1 : n ≤ 6) (w0 : 2 ≤ w) (w1 : w ≤ 1000) :
  ∃ (zs : List Int) (a' c' : Int) (G : Sto), oN [.ref 1, .tup [.int n, .int w]] (scr ns :: pen a c :: T) = some (.tup (zs.map U.int), scr ns :: pen a' c' :: (T ++ G)) ∧ zs.length = n.toNat ∧ (∀ z ∈ zs, 0 ≤ z ∧ z < w) ∧ 0 ≤ a' ∧ 0 ≤ c' := by
 unfold oN
 rw [pM]
 obtain ⟨zs, a', c', h, e, b, ha', hc'⟩ := ql ns T (n := n) w0 w1 (bV 0 n.toNat) none [] ha hc (by simp [bV]; omega)
 refine ⟨zs, a', c', [.lst (zs.map U.int)], ?_, by rw [e]; simp [bV], b, ha', hc'⟩
 have hr : -(2 ^ 62) ≤ n ∧ n < 2 ^ 62 := by omega
 simp only [List.map_nil, List.nil_append] at h
 rwa [fj, g9, bY, qm, hr, h, if_true, and_self, List.replicate, Option.getD_some]
noncomputable def jV (ps : List (Int × Int)) : List (Key × U) := ps.map fun p => (.inl p.1, .int p.2)
theorem iR (b : Int) : ∀ ps : List (Int × Int), aX (jV ps) (.inl b) = (aX ps b).map U.int
 | [] => rfl
 | (k, v) :: r => by
  have ih := iR b r
  unfold aX jV at ih ⊢
  simp only [List.map_cons, List.find?_cons]
  by_cases e : k = b
  ·subst e; simp
  ·rw [decide_eq_false (fun z : (Sum.inl k : Key) = Sum.inl b => e (Sum.inl.inj z)), decide_eq_false e]
   exact ih
theorem yT (b : Int) (ps : List (Int × Int)) : ((jV ps).any fun kv => decide (kv.1 = Sum.inl b)) = ps.any fun kv => decide (kv.1 = b) := by
 unfold jV
 induction ps with
 | nil => rfl
 | cons p r ih =>
  simp only [List.map_cons, List.any_cons, ih]
  by_cases e : p.1 = b
  ·rw [decide_eq_true e, decide_eq_true (by rw [e])]
  ·rw [decide_eq_false e, decide_eq_false (fun z : (Sum.inl p.1 : Key) = Sum.inl b => e (Sum.inl.inj z))]
theorem rB (b v : Int) (ps : List (Int × Int)) : iE (jV ps) (.inl b) (.int v) = jV (iE ps b v) := by
 unfold iE
 rw [yT]
 split
 ·unfold jV
  rw [List.map_map, List.map_map]
  refine List.map_congr_left fun p _ => ?_
  simp only [Function.comp]
  by_cases e : p.1 = b
  ·simp [e]
  ·rw [if_neg e, if_neg (fun z : (Sum.inl p.1 : Key) = Sum.inl b => e (Sum.inl.inj z))]
 ·simp [jV]
theorem n9 {κ α : Type} [DecidableEq κ] (ps : List (κ × α)) (b : κ) (v : α) : (iE ps b v).length ≤ ps.length + 1 := by
 unfold iE; split <;> simp
theorem atF {first : List Int} {b n : Int} (l : first.length = n.toNat) (h0 : 0 ≤ b) (h1 : b < n) : atI (first.map U.int) b = some (.int (first.getD b.toNat 0)) := by
 have hk : b.toNat < first.length := by omega
 refine wR h0 ?_
 rw [List.getElem?_map, List.getElem?_eq_getElem hk, List.getD_eq_getElem?_getD, List.getElem?_eq_getElem hk]; rfl
theorem few : ∀ (n : Nat) (l : List Int), l.Nodup → (∀ k ∈ l, 0 ≤ k ∧ k < n) → l.length ≤ n
 | 0, l, _, h => by
  cases l with
  | nil => simp
  | cons a r => have := h a (by simp); omega
 | n + 1, l, nd, h => by
  have ih := few n (l.erase (n : Int)) (nd.erase _) fun k hk => by
   have h1 := h k (List.mem_of_mem_erase hk)
   have h2 : k ≠ (n : Int) := fun z => by subst z; exact (nd.not_mem_erase) hk
   omega
  rw [List.length_erase] at ih
  split at ih <;> omega
theorem dz {α : Type} {l : List α} {k : Nat} {x : α} (h : l[k]? = some x) : k < l.length := (List.getElem?_eq_some_iff.mp h).1
theorem aF {α : Type} {l r : List α} {k : Nat} {x : α} (h : l[k]? = some x) : (l ++ r)[k]? = some x := by rw [List.getElem?_append_left (dz h)]; exact h
noncomputable def beh (first : List Int) (ps : List (Int × Int)) (k : Nat) : List Int := (first.zipIdx k).map fun p => (aX ps (p.2 : Int)).getD p.1
theorem El {ls : List Nat} {S0 S' : Sto} (len : S0.length ≤ S'.length) (old : ∀ l, l < S0.length → S'[l]? = S0[l]?) : ∃ G, S' = S0 ++ G := by
 refine ⟨S'.drop S0.length, List.ext_getElem? fun l => ?_⟩
 by_cases c : l < S0.length
 ·rw [old l c, List.getElem?_append_left c]
 ·rw [List.getElem?_append_right (by omega), List.getElem?_drop]; congr 1; omega
theorem BK (first : List Int) (ps : List (Int × Int)) (k : Nat) : (beh first ps k).length = first.length := by simp [beh]
theorem AA {us : List U} {k : Nat} {S : Sto} (h0 : 0 < k) (h : k ≤ us.length) : fSl (.tup us) (some (k : Int)) none S = some (.tup (us.drop k), S) := by
 have e : HT.sIx us.length 0 (some (k : Int)) = k := by rw [HT.sIx_nat]; omega
 simp only [fSl, HT.sIx_none, e, sg]
 rw [if_neg (by omega), List.take_of_length_le (by simp)]
theorem uM {c : CE} {ρ : Rho} {S S' : Sto} {i : Int} (h : c ρ S = some (.int i, S')) : gZ (some c) ρ S = some (some i, S') := by simp only [gZ, h, Option.bind_some]
noncomputable def pU (p : Int × Int) : U := .tup [.int p.1, .int p.2]
theorem nK {ok : Sto → Prop} {g : CG} {ct : CT} {ce : CE} {l : Nat} {ρ : Rho} {S : Sto} (h : ok S) : cH ok g ct ce l [] ρ S = some S := by rw [cH, if_pos h]
theorem pT {ok : Sto → Prop} {g : CG} {ct : CT} {ce : CE} {l : Nat} {ρ ρ0 : Rho} {S S0 S1 : Sto} {u : U} {us : List U} (h : ok S) (hg : g u ρ S = some (ρ0, S0)) (ht : ct ρ0 S0 = some (false, S1)) : cH ok g ct ce l (u :: us) ρ S = cH ok g ct ce l us ρ0 S1 := by
 rw [cH, if_pos h, hg, Option.bind_some, ht, Option.bind_some, if_neg Bool.false_ne_true]
theorem nJ {ok : Sto → Prop} {g : CG} {ct : CT} {ce : CE} {l : Nat} {ρ ρ0 : Rho} {S S0 S1 S2 : Sto} {u x : U} {us ys : List U} (h : ok S) (hg : g u ρ S = some (ρ0, S0)) (ht : ct ρ0 S0 = some (true, S1)) (he : ce ρ0 S1 = some (x, S2)) (hl : S2[l]? = some (.lst ys)) (hn : ys.length < LIM) :
  cH ok g ct ce l (u :: us) ρ S = cH ok g ct ce l us ρ0 (S2.set l (.lst (ys ++ [x]))) := by
 rw [cH, if_pos h, hg, Option.bind_some, ht, Option.bind_some, if_pos rfl, he, Option.bind_some]
 simp only [hl, hn, if_true]
theorem wW {us vs : List U} {S : Sto} (h : us.length + vs.length ≤ 100) : bD (.tup us) (.tup vs) S = some (.tup (us ++ vs), S) := by
 unfold bD
 first | rfl | (simp only; rw [if_pos (by unfold LIM; omega)]) | simp_all
noncomputable def Lay (k : Nat) (S : Sto) (u : U) : Prop := ∃ d, Dt S u d ∧ d.canLay0 = true ∧ d.depth ≤ k
noncomputable def kg (k : Nat) (S : Sto) (u v : U) : Prop := ∃ d, Dt S u d ∧ Dt S v d ∧ d.canLay0 = true ∧ d.depth ≤ k
noncomputable def iq (k : Nat) (S : Sto) (us vs : List U) : Prop := ∃ ds, DtL S us ds ∧ DtL S vs ds ∧ PyData.canLayAll0 ds = true ∧ PyData.depthAll ds ≤ k
section
variable {k j : Nat} {S : Sto} {u v : U} {us vs : List U}
theorem Lay.int {i : Int} : Lay k S (.int i) := ⟨_, .int i, rfl, Nat.zero_le _⟩
theorem Lay.str {x : Str} (h : PyData.strOk x = true) : Lay k S (.str x) := ⟨_, .str x, h, Nat.zero_le _⟩
theorem kg.refl (h : Lay k S u) : kg k S u u := by obtain ⟨d, a, b, c⟩ := h; exact ⟨d, a, a, b, c⟩
theorem iq.nil : iq k S [] [] := ⟨[], .nil, .nil, rfl, Nat.zero_le _⟩
theorem iq.cons (h : kg k S u v) (t : iq k S us vs) : iq k S (u :: us) (v :: vs) := by
 obtain ⟨d, a, b, c, e⟩ := h
 obtain ⟨ds, a', b', c', e'⟩ := t
 refine ⟨d :: ds, .cons a a', .cons b b', by unfold PyData.canLayAll0; rw [c, c']; rfl, ?_⟩
 unfold PyData.depthAll
 exact Nat.max_le.mpr ⟨e, e'⟩
theorem iq.all : ∀ {us : List U}, (∀ u ∈ us, Lay k S u) → iq k S us us
 | [], _ => .nil
 | u :: us, h => .cons (.refl (h u List.mem_cons_self)) (iq.all fun x hx => h x (List.mem_cons_of_mem _ hx))
theorem kg.tup (h : iq k S us vs) : kg (k + 1) S (.tup us) (.tup vs) := by
 obtain ⟨ds, a, b, c, e⟩ := h
 refine ⟨.tuple ds, .tup a, .tup b, by unfold PyData.canLay0; exact c, ?_⟩
 unfold PyData.depth
 omega
theorem kg.lst {l l' : Nat} (h1 : S[l]? = some (.lst us)) (h2 : S[l']? = some (.lst vs)) (h : iq k S us vs) : kg (k + 1) S (.ref l) (.ref l') := by
 obtain ⟨ds, a, b, c, e⟩ := h
 refine ⟨.list ds, .lst h1 a, .lst h2 b, by unfold PyData.canLay0; exact c, ?_⟩
 unfold PyData.depth
 omega
theorem Lay.tup (h : ∀ u ∈ us, Lay k S u) : Lay (k + 1) S (.tup us) := by
 obtain ⟨d, a, _, b, c⟩ := kg.tup (iq.all h)
 exact ⟨d, a, b, c⟩
theorem kg.ne (h : kg k S u v) (hk : k ≤ 60) : mV true u v S = some (.bl false, S) := by
 obtain ⟨d, a, b, c, e⟩ := h
 exact qI true (.inl ⟨d, d, a, b, ⟨c, Nat.le_trans e hk⟩, ⟨c, Nat.le_trans e hk⟩, (SeqAt.eqv_refl d c).symm⟩)
end
section
variable {S : Sto} {l l' : Nat} {us : List U} {u : U} {i : Int}
noncomputable def rM (l : Nat) (i : Int) (S : Sto) : Option O → Option (U × Sto)
 | some (.lst us) => if 0 ≤ i ∧ i < us.length ∧ us.length ≤ LIM then (us[i.toNat]?).bind fun u => some (u, S.set l (.lst (us.eraseIdx i.toNat))) else none
 | _ => none
theorem qf : kH (.ref l) [.int i] S = rM l i S S[l]? := by
 unfold kH rM; rfl
theorem nM (h0 : 0 ≤ i) (h1 : i < us.length) (hL : us.length ≤ LIM) (hu : us[i.toNat]? = some u) : rM l i S (some (.lst us)) = some (u, S.set l (.lst (us.eraseIdx i.toNat))) := by
 simp only [rM]
 rw [if_pos ⟨h0, h1, hL⟩, hu, Option.bind_some]
noncomputable def ET (l : Nat) (S : Sto) : Option O → Option (U × Sto)
 | some (.lst us) => (us[us.length - 1]?).bind fun u => some (u, S.set l (.lst us.dropLast))
 | _ => none
theorem Fh : BA (.ref l) [] S = ET l S S[l]? := by
 unfold BA ET; rfl
theorem B9 {vs : List U} : ET l S (some (.lst (vs ++ [u]))) = some (u, S.set l (.lst vs)) := by
 unfold ET
 simp
noncomputable def kNg : U × Sto → Option (U × Sto)
 | (.int i, S) => some (.int (-i), S)
 | _ => none
theorem ub {ca : CE} {ρ : Rho} : pW ca ρ S = (ca ρ S).bind kNg := by
 unfold pW
 congr 1
 funext p
 obtain ⟨x, S⟩ := p
 cases x <;> rfl
theorem oT : kNg (.int i, S) = some (.int (-i), S) := rfl
theorem mQ {vs : List U} : atI (vs ++ [u]) (-1) = some u := by
 unfold atI ixN
 rw [if_neg (by omega), if_pos (by rw [List.length_append, List.length_singleton]; omega)]
 simp only [Option.bind_some]
 have e : ((-1 : Int) + ((vs ++ [u]).length : Int)).toNat = vs.length := by rw [List.length_append, List.length_singleton]; omega
 rw [e]
 simp
theorem rG (neg : Bool) (h : S[l]? = some (.lst us)) (h' : S[l']? = some (.lst [])) : mV neg (.ref l) (.ref l') S = some (.bl (if neg then !decide (us = []) else decide (us = [])), S) := by
 by_cases e : us = []
 ·subst e
  have k := (kg.lst (k := 0) h h' .nil)
  obtain ⟨d, a, b, c, e⟩ := k
  rw [decide_eq_true rfl]
  exact qI neg (.inl ⟨d, d, a, b, ⟨c, Nat.le_trans e (by omega)⟩, ⟨c, Nat.le_trans e (by omega)⟩, (SeqAt.eqv_refl d c).symm⟩)
 ·rw [decide_eq_false e]
  exact qI neg (.inr ⟨l, l', us, [], rfl, rfl, h, h', by simpa using e, rfl⟩)
end
theorem nI {α : Type} {l : List α} {k : Nat} (h : k < l.length) : (l[k] :: l.eraseIdx k).Perm l := by
 rw [List.eraseIdx_eq_take_drop_succ]
 refine (List.perm_middle.symm).trans ?_
 rw [List.getElem_cons_drop h, List.take_append_drop]
theorem lU {α β : Type} (f : α → β) (l : List α) (k : Nat) : (l.eraseIdx k).map f = (l.map f).eraseIdx k := by
 rw [List.eraseIdx_eq_take_drop_succ, List.eraseIdx_eq_take_drop_succ, List.map_append, List.map_take, List.map_drop]
noncomputable def ki : Fn := fnU 5 2 (fk aL)
theorem nE (ns : List Int) (T : Sto) {x1 : Option U} : ∀ (us : List U) (r4 : Option U) (left found : List Int) {a c : Int}, 0 ≤ a → 0 ≤ c → left.length + found.length = 200 → us.length + found.length ≤ 100 → (found ++ left).Nodup → (∀ x ∈ found ++ left, 0 ≤ x ∧ x < 200) →
  ∃ (r4' : Option U) (left' found' : List Int) (a' c' : Int), fP (fun _ => True) (gNm 4) (gy aL) us [some (.ref 1), x1, some (.ref (T.length + 1 + 1)), some (.ref (T.length + 1 + 1 + 1)), r4] (scr ns :: pen a c :: (T ++ [.lst (left.map U.int), .lst (found.map U.int)]))
   = some (.nx, [some (.ref 1), x1, some (.ref (T.length + 1 + 1)), some (.ref (T.length + 1 + 1 + 1)), r4'], scr ns :: pen a' c' :: (T ++ [.lst (left'.map U.int), .lst (found'.map U.int)])) ∧ found'.length = found.length + us.length ∧ found'.Nodup ∧ (∀ x ∈ found', 0 ≤ x ∧ x < 200) ∧ 0 ≤ a' ∧ 0 ≤ c'
 | [], r4, left, found, a, c, ha, hc, hl, hu, hd, hb => ⟨r4, left, found, a, c, gU trivial, by simp, (List.nodup_append.mp hd).1, fun x hx => hb x (List.mem_append_left _ hx), ha, hc⟩
 | u :: us, r4, left, found, a, c, ha, hc, hl, hu, hd, hb => by
  simp only [List.length_cons] at hu
  obtain ⟨f, a1, c1, e1, p1, q1, ha1, hc1⟩ := aU ns (T ++ [.lst (left.map U.int), .lst (found.map U.int)]) (m := (left.length : Int)) ha hc (by omega) (l9 (by omega) (by omega))
  have hk : f.toNat < left.length := by omega
  have hp : (found ++ [left[f.toNat]] ++ left.eraseIdx f.toNat).Perm (found ++ left) := by
   rw [List.append_assoc]
   refine List.Perm.append_left _ ?_
   exact nI hk
  obtain ⟨r4', left', found', a', c', ih, k1, k2⟩ := nE ns T (x1 := x1) us (some u) (left.eraseIdx f.toNat) (found ++ [left[f.toNat]]) ha1 hc1 (by rw [List.length_eraseIdx_of_lt hk, List.length_append, List.length_singleton]; omega) (by rw [List.length_append, List.length_singleton]; omega) (hp.nodup_iff.mpr hd) (fun x hx => hb x (hp.mem_iff.mp hx))
  refine ⟨r4', left', found', a', c', (jt trivial rfl ?_).trans ih, by rw [k1, List.length_append, List.length_singleton, List.length_cons]; omega, k2⟩
  have hg : (left.map U.int)[f.toNat]? = some (.int left[f.toNat]) := by rw [List.getElem?_map, List.getElem?_eq_getElem hk]; rfl
  have h1 : (left.map U.int).length ≤ LIM := by unfold LIM; rw [List.length_map]; omega
  have h2 : (found.map U.int).length < LIM := by unfold LIM; rw [List.length_map]; omega
  rwa [gy, e1, qf, nM p1 (show f < ((left.map U.int).length : Int) by rw [List.length_map]; exact q1) h1 hg, ko h2, List.length_map]
  rw [List.map_append, lU]
  rfl
theorem uP (n : Nat) : bV 0 n = ((List.range n).map fun i : Nat => (i : Int)).map U.int := by
 unfold bV
 rw [List.map_map]
 refine List.map_congr_left fun i _ => ?_
 simp
theorem yg (ns : List Int) (T : Sto) {a c m : Int} (ha : 0 ≤ a) (hc : 0 ≤ c) (m0 : 0 ≤ m) (m1 : m ≤ 100) :
  ∃ (left names : List Int) (a' c' : Int), ki [.ref 1, .int m] (scr ns :: pen a c :: T) = some (.ref (T.length + 1 + 1 + 1), scr ns :: pen a' c' :: (T ++ [.lst (left.map U.int), .lst (names.map U.int)])) ∧ names.length = m.toNat ∧ names.Nodup ∧ (∀ x ∈ names, 0 ≤ x ∧ x < 200) ∧ 0 ≤ a' ∧ 0 ≤ c' := by
 unfold ki
 rw [pN]
 have hL : (((List.range 200).map fun i : Nat => (i : Int))).Nodup := List.Pairwise.map _ (fun a b h e => h (by omega)) List.nodup_range
 obtain ⟨r4, left, names, a', c', e, k1, k2, k3, k4, k5⟩ := nE ns T (x1 := some (.int m)) (bV 0 m.toNat) none ((List.range 200).map fun i : Nat => (i : Int)) [] ha hc (by simp) (by simp [bV]; omega) (by rw [List.nil_append]; exact hL) (fun x hx => by
  rw [List.nil_append] at hx
  obtain ⟨i, hi, rfl⟩ := List.mem_map.mp hx
  have := List.mem_range.mp hi
  omega)
 refine ⟨left, names, a', c', ?_, by rw [k1]; simp [bV], k2, k3, k4, k5⟩
 have hr : -(2 ^ 62) ≤ m ∧ m < 2 ^ 62 := by omega
 have hR : kf (ab (cC (.int 200)) aq) [some (.ref 1), some (.int m), none, none, none] (scr ns :: pen a c :: T) = some (.ref (T.length + 1 + 1), scr ns :: pen a c :: (T ++ [.lst (((List.range 200).map fun i : Nat => (i : Int)).map U.int)])) := by
  rw [← uP]
  rfl
 simp only [List.map_nil] at e
 rwa [fk, hR, mW, bY, hr, if_true, and_self, List.length_append, e]
inductive Ev where
 | beg (a : Int) | look (a b x : Int) | put (a b x : Int) | fin (d : Bool) (a : Int)
noncomputable def ni (d : Bool) : Str := if d then "done" else "fall"
noncomputable def Ev.u : Ev → U
 | .beg a => .tup [.str "begin", .int a]
 | .look a b x => .tup [.str "look", .int a, .int b, .int x]
 | .put a b x => .tup [.str "put", .int a, .int b, .int x]
 | .fin d a => .tup [.str (ni d), .int a]
structure Att where
 en : Option Bool
 lk : List (Int × Int)
 nd : List (Int × Int)
 ps : List (Int × Int)
 bf : List Int
noncomputable abbrev St := List (Int × Att)
noncomputable def oP (st : St) : Att := ⟨none, [], [], [], (st.filter fun p => p.2.en.isSome).map (·.1)⟩
noncomputable def zM (nd : List (Int × Int)) (p : Int × Int) : List (Int × Int) := if p ∈ nd then nd else nd ++ [p]
noncomputable def Att.ev (t : Att) : Ev → Att
 | .beg _ => t
 | .look _ b x => if (aX t.ps b).isSome then t else { t with lk := t.lk ++ [(b, x)], nd := zM t.nd (b, x) }
 | .put _ b x => { t with ps := iE t.ps b x }
 | .fin d _ => { t with en := some d }
noncomputable def Ev.at : Ev → Int
 | .beg a => a | .look a _ _ => a | .put a _ _ => a | .fin _ a => a
noncomputable def w9 (st : St) (a : Int) (f : Att → Att) : St := st.map fun p => if p.1 = a then (p.1, f p.2) else p
noncomputable def stp (st : St) : Ev → St
 | .beg a => st ++ [(a, oP st)]
 | e => w9 st e.at fun t => t.ev e
noncomputable def aE (st : St) : List Int := st.map (·.1)
noncomputable def lj (n w : Int) (st : St) : Ev → Prop
 | .beg a => 0 ≤ a ∧ a < 200 ∧ a ∉ aE st
 | .look a b x => (0 ≤ b ∧ b < n ∧ 0 ≤ x ∧ x < w) ∧ ∃ t, aX st a = some t ∧ t.en = none ∧ (∀ y, aX t.ps b = some y → y = x)
 | .put a b x => (0 ≤ b ∧ b < n ∧ 0 ≤ x ∧ x < w) ∧ ∃ t, aX st a = some t ∧ t.en = none
 | .fin _ a => ∃ t, aX st a = some t ∧ t.en = none
noncomputable def w8 (n w : Int) : St → List Ev → Prop
 | _, [] => True
 | st, e :: r => lj n w st e ∧ w8 n w (stp st e) r
noncomputable def i6 (st : St) (es : List Ev) : St := es.foldl stp st
theorem lW {n w : Int} {e : Ev} : ∀ {es : List Ev} {st : St}, w8 n w st (es ++ [e]) ↔ w8 n w st es ∧ lj n w (i6 st es) e
 | [], st => by simp [w8, i6]
 | x :: es, st => by
  have ih := lW (n := n) (w := w) (e := e) (es := es) (st := stp st x)
  simp only [List.cons_append, w8, i6, List.foldl_cons] at ih ⊢
  rw [ih, and_assoc]
theorem b7 {st : St} {es : List Ev} {e : Ev} : i6 st (es ++ [e]) = stp (i6 st es) e := by
 unfold i6; rw [List.foldl_append]; rfl
theorem kW {κ α : Type} [DecidableEq κ] {ps : List (κ × α)} {k : κ} {v : α} (h : aX ps k = some v) : (k, v) ∈ ps := by
 unfold aX at h
 obtain ⟨p, hp, rfl⟩ := Option.map_eq_some_iff.mp h
 have := List.find?_some hp
 have e : p.1 = k := by simpa using this
 subst e
 exact List.mem_of_find?_eq_some hp
theorem b6 {κ α : Type} [DecidableEq κ] {ps : List (κ × α)} {k : κ} : aX ps k = none ↔ k ∉ ps.map (·.1) := by
 unfold aX
 rw [Option.map_eq_none_iff, List.find?_eq_none]
 simp only [decide_eq_true_eq, List.mem_map, not_exists, not_and]
theorem vG {st : St} {a : Int} {f : Att → Att} : aE (w9 st a f) = aE st := by
 unfold aE w9
 rw [List.map_map]
 refine List.map_congr_left fun p _ => ?_
 simp only [Function.comp]
 split <;> rfl
theorem rj {st : St} {a : Int} {f : Att → Att} {b : Int} : aX (w9 st a f) b = if b = a then (aX st b).map f else aX st b := by
 unfold aX w9
 induction st with
 | nil => simp
 | cons p r ih =>
  simp only [List.map_cons, List.find?_cons]
  by_cases e : p.1 = b
  ·subst e
   by_cases e2 : p.1 = a
   ·subst e2; simp
   ·simp [e2]
  ·have e3 : (if p.1 = a then (p.1, f p.2) else p).1 = p.1 := by split <;> rfl
   rw [e3, decide_eq_false e]
   exact ih
theorem jD {κ α : Type} [DecidableEq κ] {ps qs : List (κ × α)} {k : κ} : aX (ps ++ qs) k = (aX ps k).or (aX qs k) := by
 unfold aX
 rw [List.find?_append]
 cases List.find? (fun kv => decide (kv.1 = k)) ps <;> simp
theorem fA {st : St} {e : Ev} : aE (stp st e) = match e with
  | .beg a => aE st ++ [a]
  | _ => aE st := by
 cases e with
 | beg a => simp [stp, aE]
 | _ => simp only [stp, vG]
theorem ef {st : St} {e : Ev} {b : Int} (h : b ≠ e.at) : aX (stp st e) b = aX st b := by
 cases e with
 | beg a =>
  have h' : a ≠ b := Ne.symm h
  simp [stp, jD]
  cases aX st b with
  | some t => rfl
  | none => simp [aX, h']
 | _ => simp only [stp, rj, if_neg h]
theorem iF {st : St} {e : Ev} {t : Att} (h : aX st e.at = some t) : aX (stp st e) e.at = some (t.ev e) := by
 cases e with
 | beg a => simp only [stp, jD, Ev.at] at h ⊢; rw [h]; rfl
 | _ => simp only [stp, rj, if_pos]; rw [h]; rfl
theorem jo {st : St} {a : Int} (h : a ∉ aE st) : aX (stp st (.beg a)) a = some (oP st) := by
 simp only [stp, jD]
 rw [b6.mpr h]
 simp [aX]
theorem lS {n w : Int} {st : St} {e : Ev} (h : (aE st).Nodup) (ok : lj n w st e) : (aE (stp st e)).Nodup := by
 rw [fA]
 cases e with
 | beg a =>
  refine List.nodup_append.mpr ⟨h, by simp, fun x hx y hy e => ?_⟩
  simp at hy
  subst hy; subst e
  exact ok.2.2 hx
 | _ => exact h
noncomputable def jA : Fn := fnU 9 6 (dC aL)
theorem yF (ns : List Int) (T : Sto) {a c n w at_ : Int} {seen now : List Int} {r : Nat} {ps : List (Int × Int)} (ha : 0 ≤ a) (hc : 0 ≤ c) (n0 : 1 ≤ n) (n1 : n ≤ 6) (w0 : 2 ≤ w) (w1 : w ≤ 1000) (hr : T[r]? = some (.dic (jV ps))) (hs : seen.length = n.toNat) (bs : ∀ z ∈ seen, 0 ≤ z ∧ z < w) (hn : now.length = n.toNat) (bn : ∀ z ∈ now, 0 ≤ z ∧ z < w) (bp : ∀ p ∈ ps, 0 ≤ p.2 ∧ p.2 < w) :
  ∃ (e : Ev) (a' c' : Int) (G : Sto), jA [.ref 1, .tup [.int n, .int w], .int at_, .tup (seen.map U.int), .ref (r + 1 + 1), .tup (now.map U.int)] (scr ns :: pen a c :: T) = some (e.u, scr ns :: pen a' c' :: (T ++ G)) ∧ e.at = at_ ∧ (∀ {st : St} {t : Att}, aX st at_ = some t → t.en = none → t.ps = ps → lj n w st e) ∧ (∀ x, e ≠ .beg x) ∧ 0 ≤ a' ∧ 0 ≤ c' := by
 unfold jA
 rw [pO]
 obtain ⟨way, a1, c1, e1, p1, q1, ha1, hc1⟩ := aU ns T (m := 12) ha hc (by decide) (by decide +kernel)
 obtain ⟨box, a2, c2, e2, p2, q2, ha2, hc2⟩ := aU ns T (m := n) ha1 hc1 (by omega) (l9 (by omega) (by omega))
 by_cases c5 : way < 5
 ·obtain ⟨f, a3, c3, e3, p3, q3, ha3, hc3⟩ := aU ns T (m := w) ha2 hc2 (by omega) (l9 (by omega) (by omega))
  obtain ⟨sb, hsb⟩ : ∃ z, z = seen.getD box.toNat 0 := ⟨_, rfl⟩
  obtain ⟨nb, hnb⟩ : ∃ z, z = now.getD box.toNat 0 := ⟨_, rfl⟩
  obtain ⟨g, a4, c4, e4, p4, q4, ha4, hc4⟩ := aU ns (T ++ [.lst [.int sb, .int sb, .int nb, .int f]]) (m := 4) ha3 hc3 (by decide) (by decide +kernel)
  have k1 := atF hs p2 q2
  have k2 := atF hn p2 q2
  have hb1 : box.toNat < seen.length := by omega
  have hb2 : box.toNat < now.length := by omega
  have b1 : 0 ≤ sb ∧ sb < w := by
   rw [hsb, List.getD_eq_getElem?_getD, List.getElem?_eq_getElem hb1]; exact bs _ (List.getElem_mem hb1)
  have b2 : 0 ≤ nb ∧ nb < w := by
   rw [hnb, List.getD_eq_getElem?_getD, List.getElem?_eq_getElem hb2]; exact bn _ (List.getElem_mem hb2)
  rw [← hsb] at k1
  rw [← hnb] at k2
  have pick : ∃ z : Int, atI [U.int sb, U.int sb, U.int nb, U.int f] g = some (.int z) ∧ 0 ≤ z ∧ z < w := by
   have : g = 0 ∨ g = 1 ∨ g = 2 ∨ g = 3 := by omega
   rcases this with rfl | rfl | rfl | rfl
   ·exact ⟨sb, rfl, b1⟩
   ·exact ⟨sb, rfl, b1⟩
   ·exact ⟨nb, rfl, b2⟩
   ·exact ⟨f, rfl, p3, q3⟩
  obtain ⟨z, hz, z0, z1⟩ := pick
  have hr' : ∀ G : Sto, (T ++ G)[r]? = some (.dic (jV ps)) := fun G => aF hr
  obtain ⟨v, hv⟩ : ∃ v, v = (aX ps box).getD z := ⟨_, rfl⟩
  have hv2 : ((aX ps box).map U.int).getD (.int z) = .int v := by rw [hv]; cases aX ps box <;> rfl
  refine ⟨.look at_ box v, a4, c4, [.lst [.int sb, .int sb, .int nb, .int f]], ?_, rfl, fun h1 h2 h3 => ⟨⟨p2, q2, ?_⟩, _, h1, h2, fun y hy => ?_⟩, (fun x h => by cases h), ha4, hc4⟩
  ·rwa [dC, e1, e2, e3, e4, c5, k1, k2, hz, hr', iR, hv2, Ev.u]
  ·rw [hv]
   cases hq : aX ps box with
   | none => exact ⟨z0, z1⟩
   | some y => exact bp _ (kW hq)
  ·rw [h3] at hy
   rw [hv, hy]; rfl
 by_cases c8 : way < 8
 ·obtain ⟨f, a3, c3, e3, p3, q3, ha3, hc3⟩ := aU ns T (m := w) ha2 hc2 (by omega) (l9 (by omega) (by omega))
  refine ⟨.put at_ box f, a3, c3, [], ?_, rfl, fun h1 h2 h3 => ⟨⟨p2, q2, p3, q3⟩, _, h1, h2⟩, (fun x h => by cases h), ha3, hc3⟩
  rwa [dC, e1, e2, e3, c5, c8, Ev.u, List.append_nil]
 have pick : ∃ d : Bool, atI [U.str "done", U.str "done", U.str "done", U.str "fall"] (way - 8) = some (.str (ni d)) := by
  have : way = 8 ∨ way = 9 ∨ way = 10 ∨ way = 11 := by omega
  rcases this with rfl | rfl | rfl | rfl
  ·exact ⟨true, rfl⟩
  ·exact ⟨true, rfl⟩
  ·exact ⟨true, rfl⟩
  ·exact ⟨false, rfl⟩
 obtain ⟨d, hd⟩ := pick
 refine ⟨.fin d at_, a2, c2, [.lst [.str "done", .str "done", .str "done", .str "fall"]], ?_, rfl, fun h1 h2 h3 => ⟨_, h1, h2⟩, (fun x h => by cases h), ha2, hc2⟩
 rwa [dC, e1, e2, c5, c8, hd, Ev.u]
noncomputable def jx : Fn := fnU 2 2 eC
theorem nD {S : Sto} {r : Nat} {ps : List (Int × Int)} (hr : S[r]? = some (.dic (jV ps))) : ∀ (xs : List Int) (k : Nat) (ys : List Int) (r0 r1 : Option U), ys.length + xs.length ≤ 1000 →
  ∃ zs, iC (fun _ => True) (gTp [0, 1]) (qS (ak 2) (ak 0) (ak 1)) S.length (((xs.map U.int).zipIdx k).map fun p => .tup [.int p.2, p.1]) [r0, r1, some (.ref r)] (S ++ [.lst (ys.map U.int)]) = some (S ++ [.lst ((ys ++ zs).map U.int)]) ∧ zs = beh xs ps k
 | [], k, ys, r0, r1, hl => ⟨[], by simp only [List.map_nil, List.zipIdx_nil, List.append_nil]; exact sh trivial, rfl⟩
 | x :: xs, k, ys, r0, r1, hl => by
  obtain ⟨v, hv⟩ : ∃ v, v = (aX ps (k : Int)).getD x := ⟨_, rfl⟩
  have hv2 : ((aX ps (k : Int)).map U.int).getD (.int x) = .int v := by rw [hv]; cases aX ps (k : Int) <;> rfl
  obtain ⟨zs, h2, e2⟩ := nD hr xs (k + 1) (ys ++ [v]) (some (.int k)) (some (.int x)) (by simp at hl ⊢; omega)
  refine ⟨v :: zs, ?_, by rw [e2, hv]; rfl⟩
  have hr' : ∀ G : Sto, (S ++ G)[r]? = some (.dic (jV ps)) := fun G => aF hr
  simp only [List.map_cons, List.zipIdx_cons]
  refine (pR (ρ0 := [some (.int k), some (.int x), some (.ref r)]) (S0 := S ++ [.lst (ys.map U.int)]) (S1 := S ++ [.lst (ys.map U.int)]) (x := .int v) (ys := ys.map U.int) trivial rfl ?_ ?_ (by unfold LIM; simp at hl ⊢; omega)).trans ?_
  ·rwa [hr', iR, hv2]
  ·rwa []
  ·have e5 : (S ++ [O.lst (ys.map U.int)]).set S.length (.lst (ys.map U.int ++ [U.int v])) = S ++ [.lst ((ys ++ [v]).map U.int)] := by
    rwa [List.map_append, List.map_cons, List.map_nil]
   rw [e5, h2]
   simp
theorem xH {S : Sto} {r : Nat} {ps : List (Int × Int)} {now : List Int} (hr : S[r]? = some (.dic (jV ps))) (hl : now.length ≤ 1000) :
  jx [.tup (now.map U.int), .ref r] S = some (.tup ((beh now ps 0).map U.int), S ++ [.lst ((beh now ps 0).map U.int)]) := by
 unfold jx
 rw [oA]
 obtain ⟨zs, h, e⟩ := nD hr now 0 [] none none (by simpa using hl)
 subst e
 simp only [List.map_nil, List.nil_append] at h
 have es : C6 (.tup (now.map U.int)) S = some (now.map U.int, fun _ => True) := rfl
 rwa [eC, g9, Bu, es, yI, qm, List.replicate, Option.getD_some, h]
structure Go where
 a : Int
 seen : List Int
 r : Nat
noncomputable def Go.u (g : Go) : U := .tup [.int g.a, .tup (g.seen.map U.int), .ref (g.r + 1 + 1)]
structure LgI (n w : Int) (N : Nat) (T0 T : Sto) (ln ll lg : Nat) (names : List Int) (evs : List Ev) (g : List Go) (now : List Int) : Prop where
 hn : T[ln]? = some (.lst (names.map U.int))
 hl : T[ll]? = some (.lst (evs.map Ev.u))
 hg : T[lg]? = some (.lst (g.map Go.u))
 bn : T0.length ≤ ln
 bl : T0.length ≤ ll
 bg : T0.length ≤ lg
 n1 : ln ≠ ll
 n2 : ln ≠ lg
 n3 : ll ≠ lg
 go : ∀ x ∈ g, (T0.length ≤ x.r ∧ x.r ≠ ln ∧ x.r ≠ ll ∧ x.r ≠ lg ∧ x.seen.length = n.toNat ∧ (∀ z ∈ x.seen, 0 ≤ z ∧ z < w)) ∧ ∃ t, aX (i6 [] evs) x.a = some t ∧ t.en = none ∧ T[x.r]? = some (.dic (jV t.ps))
 gd : g.Pairwise fun x y => x.r ≠ y.r ∧ x.a ≠ y.a
 nd : names.Nodup
 nb : ∀ x ∈ names, 0 ≤ x ∧ x < 200 ∧ x ∉ aE (i6 [] evs)
 lo : w8 n w [] evs
 kd : (aE (i6 [] evs)).Nodup
 cnt : (i6 [] evs).length + names.length ≤ N
 gl : g.length ≤ (i6 [] evs).length
 nw : now.length = n.toNat
 nwb : ∀ z ∈ now, 0 ≤ z ∧ z < w
 pb : ∀ a t, aX (i6 [] evs) a = some t → t.ps.length ≤ evs.length ∧ ∀ p ∈ t.ps, (0 ≤ p.1 ∧ p.1 < n) ∧ 0 ≤ p.2 ∧ p.2 < w
 fr : ∀ i, i < T0.length → T[i]? = T0[i]?
 le : T0.length ≤ T.length
section
variable {n w : Int} {N : Nat} {T0 T T' : Sto} {ln ll lg : Nat} {names : List Int} {evs : List Ev} {g : List Go} {now : List Int}
theorem LgI.app (h : LgI n w N T0 T ln ll lg names evs g now) (G : Sto) : LgI n w N T0 (T ++ G) ln ll lg names evs g now :=
 { h with
  hn := aF h.hn, hl := aF h.hl, hg := aF h.hg
  go := fun x hx => by obtain ⟨k, t, h1, h2, h3⟩ := h.go x hx; exact ⟨k, t, h1, h2, aF h3⟩
  fr := fun i hi => by rw [List.getElem?_append_left (Nat.lt_of_lt_of_le hi h.le)]; exact h.fr i hi
  le := by rw [List.length_append]; have := h.le; omega }
theorem yk {κ α : Type} [DecidableEq κ] {ps : List (κ × α)} {b : κ} {v : α} {p : κ × α} (h : p ∈ iE ps b v) : p ∈ ps ∨ p = (b, v) := by
 unfold iE at h
 split at h
 ·obtain ⟨q, hq, rfl⟩ := List.mem_map.mp h
  split
  ·rename_i e
   right
   rw [← e]
  ·exact .inl hq
 ·rcases List.mem_append.mp h with z | z
  ·exact .inl z
  ·simp at z; exact .inr z
theorem vF {st : St} {e : Ev} (h : ∀ x, e ≠ .beg x) : (stp st e).length = st.length := by
 cases e with
 | beg a => exact absurd rfl (h a)
 | _ => simp [stp, w9]
theorem LgI.begin {a0 : Int} (h : LgI n w N T0 T ln ll lg (names ++ [a0]) evs g now) (hn : T'[ln]? = some (.lst (names.map U.int))) (hl : T'[ll]? = some (.lst ((evs ++ [Ev.beg a0]).map Ev.u))) (hg : T'[lg]? = some (.lst ((g ++ [Go.mk a0 now T.length]).map Go.u)))
  (hd : T'[T.length]? = some (.dic [])) (old : ∀ i, i ≠ ln → i ≠ ll → i ≠ lg → i < T.length → T'[i]? = T[i]?) (le : T.length ≤ T'.length) : LgI n w N T0 T' ln ll lg names (evs ++ [.beg a0]) (g ++ [⟨a0, now, T.length⟩]) now := by
 have ha : a0 ∈ names ++ [a0] := by simp
 obtain ⟨a1, a2, a3⟩ := h.nb a0 ha
 have ok : lj n w (i6 [] evs) (.beg a0) := ⟨a1, a2, a3⟩
 have hb := h.le
 have dn := List.nodup_append.mp h.nd
 have oth : ∀ {x : Int}, x ∈ aE (i6 [] evs) → x ≠ a0 := fun hx e => a3 (e ▸ hx)
 have vk : ∀ {x : Int} {t : Att}, aX (i6 [] evs) x = some t → x ∈ aE (i6 [] evs) := fun e => List.mem_map.mpr ⟨_, kW e, rfl⟩
 refine { h with hn := hn, hl := hl, hg := hg, nd := dn.1, lo := lW.mpr ⟨h.lo, ok⟩, kd := by rw [b7]; exact lS h.kd ok, go := ?go, gd := ?gd, nb := ?nb, cnt := ?cnt, gl := ?gl, pb := ?pb, fr := ?fr, le := ?le }
 case go =>
  intro x hx
  rcases List.mem_append.mp hx with hx | hx
  ·obtain ⟨⟨k1, k2, k3, k4, k5⟩, t, h1, h2, h3⟩ := h.go x hx
   refine ⟨⟨k1, k2, k3, k4, k5⟩, t, ?_, h2, ?_⟩
   ·rw [b7, ef (show x.a ≠ (Ev.beg a0).at from oth (vk h1))]; exact h1
   ·rw [old _ k2 k3 k4 (dz h3)]; exact h3
  ·simp at hx
   subst hx
   have z1 := dz h.hn
   have z2 := dz h.hl
   have z3 := dz h.hg
   refine ⟨⟨hb, by dsimp only; omega, by dsimp only; omega, by dsimp only; omega, h.nw, h.nwb⟩, oP (i6 [] evs), ?_, rfl, hd⟩
   rw [b7]; exact jo a3
 case gd =>
  refine List.pairwise_append.mpr ⟨h.gd, by simp, fun x hx y hy => ?_⟩
  simp at hy
  subst hy
  obtain ⟨_, t, h1, h2, h3⟩ := h.go x hx
  have := dz h3
  exact ⟨by dsimp only; omega, oth (vk h1)⟩
 case nb =>
  intro x hx
  obtain ⟨b1, b2, b3⟩ := h.nb x (List.mem_append_left _ hx)
  refine ⟨b1, b2, ?_⟩
  rw [b7, fA]
  simp only [List.mem_append, List.mem_singleton, not_or]
  exact ⟨b3, dn.2.2 x hx a0 (by simp)⟩
 case cnt =>
  have := h.cnt
  rw [b7]
  simp [stp] at this ⊢
  omega
 case gl =>
  have := h.gl
  rw [b7]
  simp [stp]
  omega
 case pb =>
  intro a t e
  rw [b7] at e
  by_cases c : a = a0
  ·subst c
   rw [jo a3] at e
   cases e
   simp [oP]
  ·rw [ef (show a ≠ (Ev.beg a0).at from c)] at e
   obtain ⟨k1, k2⟩ := h.pb a t e
   exact ⟨by rw [List.length_append]; omega, k2⟩
 case fr =>
  intro i hi
  have := h.bn; have := h.bl; have := h.bg
  rw [old i (by omega) (by omega) (by omega) (by omega)]
  exact h.fr i hi
 case le =>
  omega
theorem LgI.ev {e : Ev} {x : Go} {t : Att} {g' : List Go} {now' : List Int} (h : LgI n w N T0 T ln ll lg names evs g now) (ht : aX (i6 [] evs) x.a = some t) (ea : e.at = x.a) (ok : lj n w (i6 [] evs) e) (nb : ∀ y, e ≠ .beg y) (sub : g'.Sublist g)
  (hn : T'[ln]? = T[ln]?) (hl : T'[ll]? = some (.lst ((evs ++ [e]).map Ev.u))) (hg : T'[lg]? = some (.lst (g'.map Go.u)))
  (oth : ∀ y ∈ g', (y = x ∧ (t.ev e).en = none ∧ T'[y.r]? = some (.dic (jV (t.ev e).ps))) ∨ (y.a ≠ x.a ∧ T'[y.r]? = T[y.r]?))
  (fr : ∀ i, i < T0.length → T'[i]? = T[i]?) (le : T.length ≤ T'.length) (nw : now'.length = n.toNat) (nwb : ∀ z ∈ now', 0 ≤ z ∧ z < w) : LgI n w N T0 T' ln ll lg names (evs ++ [e]) g' now' := by
 have hb := h.le
 have ks : aE (stp (i6 [] evs) e) = aE (i6 [] evs) := by
  rw [fA]
  cases e with
  | beg a => exact absurd rfl (nb a)
  | _ => rfl
 refine { h with hn := by rw [hn]; exact h.hn, hl := hl, hg := hg, lo := lW.mpr ⟨h.lo, ok⟩, kd := by rw [b7]; exact lS h.kd ok, nw := nw, nwb := nwb, gd := h.gd.sublist sub, nb := fun y hy => by rw [b7, ks]; exact h.nb y hy, fr := fun i hi => by rw [fr i hi]; exact h.fr i hi, le := by omega, cnt := by rw [b7, vF nb]; exact h.cnt, gl := by rw [b7, vF nb]; have := h.gl; have := sub.length_le; omega, go := ?go, pb := ?pb }
 case go =>
  intro y hy
  obtain ⟨k, u, h1, h2, h3⟩ := h.go y (sub.subset hy)
  refine ⟨k, ?_⟩
  rcases oth y hy with ⟨rfl, o1, o2⟩ | ⟨o1, o2⟩
  ·refine ⟨t.ev e, ?_, o1, o2⟩
   rw [b7, ← ea]
   exact iF (by rw [ea]; exact ht)
  ·refine ⟨u, ?_, h2, by rw [o2]; exact h3⟩
   rw [b7, ef (by rw [ea]; exact o1)]
   exact h1
 case pb =>
  intro a u e1
  rw [b7] at e1
  by_cases c : a = e.at
  ·subst c
   rw [iF (by rw [ea]; exact ht)] at e1
   cases e1
   obtain ⟨k1, k2⟩ := h.pb _ _ ht
   rw [List.length_append, List.length_singleton]
   cases e with
   | beg a => exact absurd rfl (nb a)
   | look a b v =>
    simp only [Att.ev]
    split
    ·exact ⟨by omega, k2⟩
    ·exact ⟨by dsimp only; omega, k2⟩
   | put a b v =>
    obtain ⟨⟨b1, b2, b3, b4⟩, _⟩ := ok
    refine ⟨Nat.le_trans (n9 t.ps b v) (by omega), fun p hp => ?_⟩
    rcases yk hp with z | z
    ·exact k2 p z
    ·subst z; exact ⟨⟨b1, b2⟩, b3, b4⟩
   | fin d a => exact ⟨by simp only [Att.ev]; omega, k2⟩
  ·rw [ef c] at e1
   obtain ⟨k1, k2⟩ := h.pb a u e1
   exact ⟨by rw [List.length_append]; omega, k2⟩
end
theorem gss {S : Sto} {i : Nat} {o : O} : (S.set i o)[i]? = (S[i]?).map fun _ => o := by
 by_cases h : i < S.length
 ·rw [List.getElem?_set_self h, List.getElem?_eq_getElem h]; rfl
 ·rw [List.getElem?_eq_none (by simpa using h), List.getElem?_eq_none (by simpa using h)]; rfl
theorem gsn {S : Sto} {i j : Nat} {o : O} (h : i ≠ j) : (S.set i o)[j]? = S[j]? := List.getElem?_set_ne h
noncomputable def Gj : CS := (aZ (fC (cBM dB (ak 8) (ab (aN (ab (cBM BA (ak 5) aq) (ab (ak 7) (ab nq aq)))) aq)))
  (fC (cBM dB (ak 6) (ab (aN (ab (cC (.str "begin")) (ab (cOp fIx (cOp fIx (ak 8) (pW (cC (.int 1)))) (cC (.int 0))) aq))) aq))))
noncomputable def BR : CS := (aZ (d9 (aG (cOp fEq (cOp fIx (cOp fIx (ak 6) (pW (cC (.int 1)))) (cC (.int 0))) (cC (.str "put")))) (fJ (ak 13) (cOp fIx (cOp fIx (ak 6) (pW (cC (.int 1)))) (cC (.int 2))) (cOp fIx (cOp fIx (ak 6) (pW (cC (.int 1)))) (cC (.int 3)))) (d9 (aG (cOp fEq (cOp fIx (cOp fIx (ak 6) (pW (cC (.int 1)))) (cC (.int 0))) (cC (.str "done")))) (bZ 7 (cCB jx (ab (ak 7) (ab (ak 13) aq)))) bM))
  (d9 (aG (cOp (fIn false) (cOp fIx (cOp fIx (ak 6) (pW (cC (.int 1)))) (cC (.int 0))) (aN (ab (cC (.str "done")) (ab (cC (.str "fall")) aq))))) (fC (cBM kH (ak 8) (ab (ak 10) aq))) bM))
noncomputable def rEv : CS := (aZ (bZ 10 (cCB aL (ab (ak 0) (ab (cCB jd (ab (ak 8) aq)) aq))))
  (aZ (EB (cOp fIx (ak 8) (ak 10)) (gTp [11, 12, 13]))
  (aZ (fC (cBM dB (ak 6) (ab (cCB jA (ab (ak 0) (ab (ak 1) (ab (ak 11) (ab (ak 12) (ab (ak 13) (ab (ak 7) aq))))))) aq))) BR)))
theorem He : gj ki aL jA jx = d9 (BU (aG (cOp (mV true) (ak 5) (bE aq))) (cOr (aG (cOp (mV false) (ak 8) (bE aq))) (aG (cOp fEq (cCB aL (ab (ak 0) (ab (cC (.int 4)) aq))) (cC (.int 0)))))) Gj (d9 (aG (cOp (mV true) (ak 8) (bE aq))) rEv bM) := rfl
section
variable {n w : Int} {N : Nat} {T0 T T' : Sto} {ln ll lg : Nat} {names : List Int} {evs : List Ev} {g : List Go} {now : List Int} {x2 x3 x4 x9 x10 x11 x12 x13 : Option U}
noncomputable abbrev mU (n w : Int) (ln ll lg : Nat) (now : List Int) (x2 x3 x4 x9 x10 x11 x12 x13 : Option U) : Rho := [some (.ref 1), some (.tup [.int n, .int w]), x2, x3, x4, some (.ref (ln + 1 + 1)), some (.ref (ll + 1 + 1)), some (.tup (now.map U.int)), some (.ref (lg + 1 + 1)), x9, x10, x11, x12, x13]
theorem zL (ns : List Int) {a c : Int} {a0 : Int} (h : LgI n w N T0 T ln ll lg (names ++ [a0]) evs g now) (hN : N ≤ 100) (hE : evs.length ≤ 1000) :
  ∃ T', Gj (mU n w ln ll lg now x2 x3 x4 x9 x10 x11 x12 x13) (scr ns :: pen a c :: T) = some (.nx, mU n w ln ll lg now x2 x3 x4 x9 x10 x11 x12 x13, scr ns :: pen a c :: T') ∧ LgI n w N T0 T' ln ll lg names (evs ++ [.beg a0]) (g ++ [⟨a0, now, T.length⟩]) now := by
 have z1 := dz h.hn
 have z2 := dz h.hl
 have z3 := dz h.hg
 have hG : (g.map Go.u).length < LIM := by have := h.gl; have := h.cnt; unfold LIM; rw [List.length_map]; omega
 have hV : (evs.map Ev.u).length < LIM := by unfold LIM; rw [List.length_map]; omega
 have u : Go.u ⟨a0, now, T.length⟩ = .tup [.int a0, .tup (now.map U.int), .ref (T.length + 1 + 1)] := rfl
 have hn := h.hn
 rw [List.map_append, List.map_cons, List.map_nil] at hn
 have e1 : (T.set ln (.lst (names.map U.int)) ++ [O.dic []])[lg]? = some (.lst (g.map Go.u)) := aF (by rw [gsn h.n2]; exact h.hg)
 have e2 : ((T.set ln (.lst (names.map U.int)) ++ [O.dic []]).set lg (.lst (g.map Go.u ++ [.tup [.int a0, .tup (now.map U.int), .ref (T.length + 1 + 1)]])))[ll]? = some (.lst (evs.map Ev.u)) := by
  rw [gsn (Ne.symm h.n3)]; exact aF (by rw [gsn h.n1]; exact h.hl)
 have e3 : ((T.set ln (.lst (names.map U.int)) ++ [O.dic []]).set lg (.lst (g.map Go.u ++ [.tup [.int a0, .tup (now.map U.int), .ref (T.length + 1 + 1)]])))[lg]? = some (.lst (g.map Go.u ++ [.tup [.int a0, .tup (now.map U.int), .ref (T.length + 1 + 1)]])) := by
  rw [gss, e1]; rfl
 refine ⟨((T.set ln (.lst (names.map U.int)) ++ [O.dic []]).set lg (.lst (g.map Go.u ++ [U.tup [.int a0, .tup (now.map U.int), .ref (T.length + 1 + 1)]]))).set ll (.lst (evs.map Ev.u ++ [U.tup [.str "begin", .int a0]])), ?_, ?_⟩
 ·rwa [Gj, mU, h.hg, h.hl, hn, e1, e2, e3, Fh, B9, ko hG, ko hV, ub, oT, mQ, List.length_set]
 ·refine h.begin ?_ ?_ ?_ ?_ (fun i i1 i2 i3 hi => ?_) (by simp)
  ·rw [gsn (Ne.symm h.n1), gsn (Ne.symm h.n2)]
   refine aF ?_
   rw [gss, h.hn]; rfl
  ·rw [gss, e2, List.map_append]; rfl
  ·rw [gsn h.n3, e3, List.map_append, ← u]; rfl
  ·rw [gsn (by omega), gsn (by omega)]
   have : (T.set ln (O.lst (names.map U.int))).length = T.length := List.length_set
   rw [← this]
   exact ga0
  ·rw [gsn (Ne.symm i2), gsn (Ne.symm i3), List.getElem?_append_left (by simpa using hi), gsn (Ne.symm i1)]
theorem vW : ∀ {x y : Go}, (x.r ≠ y.r ∧ x.a ≠ y.a) → (y.r ≠ x.r ∧ y.a ≠ x.a) := fun h => ⟨Ne.symm h.1, Ne.symm h.2⟩
theorem GY {k : Nat} (hk : k < g.length) (h : g.Pairwise fun x y => x.r ≠ y.r ∧ x.a ≠ y.a) : (∀ y ∈ g, y = g[k] ∨ (y.r ≠ g[k].r ∧ y.a ≠ g[k].a)) ∧ ∀ y ∈ g.eraseIdx k, y.r ≠ g[k].r ∧ y.a ≠ g[k].a := by
 have hp := nI hk
 have h1 : (g[k] :: g.eraseIdx k).Pairwise fun x y => x.r ≠ y.r ∧ x.a ≠ y.a := (hp.pairwise_iff vW).mpr h
 have h2 := (List.pairwise_cons.mp h1).1
 refine ⟨fun y hy => ?_, fun y hy => vW (h2 y hy)⟩
 rcases List.mem_cons.mp (hp.mem_iff.mpr hy) with z | z
 ·exact .inl z
 ·exact .inr (vW (h2 y z))
theorem jY : decide (("look" : Str) = "put") = false := by decide +kernel
theorem qi : decide (("look" : Str) = "done") = false := by decide +kernel
theorem j2 : decide (("done" : Str) = "put") = false := by decide +kernel
theorem jZ : decide (("fall" : Str) = "put") = false := by decide +kernel
theorem qj : decide (("fall" : Str) = "done") = false := by decide +kernel
theorem gC {x : Str} : decide (x = x) = true := decide_eq_true rfl
theorem rW {x : Str} {S : Sto} : fIn false (.str x) (.tup [.str "done", .str "fall"]) S = some (.bl (inU (.str x) [.str "done", .str "fall"]), S) := rfl
theorem Br : inU (.str "look") [.str "done", .str "fall"] = false := by decide +kernel
theorem Ee : inU (.str "put") [.str "done", .str "fall"] = false := by decide +kernel
theorem Bt : inU (.str "done") [.str "done", .str "fall"] = true := by decide +kernel
theorem Bs : inU (.str "fall") [.str "done", .str "fall"] = true := by decide +kernel
theorem EC {now : List Int} {ps : List (Int × Int)} {w : Int} (h : ∀ z ∈ now, 0 ≤ z ∧ z < w) (hp : ∀ p ∈ ps, 0 ≤ p.2 ∧ p.2 < w) (k : Nat) : ∀ z ∈ beh now ps k, 0 ≤ z ∧ z < w := fun z hz => by
 unfold beh at hz
 obtain ⟨p, hp', rfl⟩ := List.mem_map.mp hz
 cases hv : aX ps (p.2 : Int) with
 | some y => exact hp _ (kW hv)
 | none => exact h _ (List.fst_mem_of_mem_zipIdx hp')
theorem Ep (ns : List Int) {a c : Int} (ha : 0 ≤ a) (hc : 0 ≤ c) (n0 : 1 ≤ n) (n1 : n ≤ 6) (w0 : 2 ≤ w) (w1 : w ≤ 1000) (h : LgI n w N T0 T ln ll lg names evs g now) (hN : N ≤ 100) (hE : evs.length ≤ 1000) (hg : g ≠ []) :
  ∃ T' a' c' e g' now' y10 y11 y12 y13, rEv (mU n w ln ll lg now x2 x3 x4 x9 x10 x11 x12 x13) (scr ns :: pen a c :: T) = some (.nx, mU n w ln ll lg now' x2 x3 x4 x9 y10 y11 y12 y13, scr ns :: pen a' c' :: T') ∧ LgI n w N T0 T' ln ll lg names (evs ++ [e]) g' now' ∧ 0 ≤ a' ∧ 0 ≤ c' := by
 have hgl := h.gl
 have hct := h.cnt
 have gpos : 0 < g.length := List.length_pos_iff.mpr hg
 obtain ⟨f, a1, c1, e1, p1, q1, ha1, hc1⟩ := aU ns T (m := (g.length : Int)) ha hc (by omega) (l9 (by omega) (by omega))
 have hk : f.toNat < g.length := by omega
 obtain ⟨o1, o2⟩ := GY hk h.gd
 have hx : g[f.toNat] ∈ g := List.getElem_mem hk
 generalize hX : g[f.toNat] = x at o1 o2 hx
 obtain ⟨⟨k1, k2, k3, k4, k5, k6⟩, t, t1, t2, t3⟩ := h.go x hx
 obtain ⟨pl, pb⟩ := h.pb _ _ t1
 have hat : atI (g.map Go.u) f = some (.tup [.int x.a, .tup (x.seen.map U.int), .ref (x.r + 1 + 1)]) := wR p1 (by rw [List.getElem?_map, List.getElem?_eq_getElem hk, hX]; rfl)
 obtain ⟨e, a2, c2, G, e2, ea, ok, nb, ha2, hc2⟩ := yF ns T (at_ := x.a) ha1 hc1 n0 n1 w0 w1 t3 k5 k6 h.nw h.nwb fun p hp => (pb p hp).2
 have okE := ok t1 t2 rfl
 have hV : (evs.map Ev.u).length < LIM := by unfold LIM; rw [List.length_map]; omega
 have hGL : (g.map Go.u).length ≤ LIM := by unfold LIM; rw [List.length_map]; omega
 have hPL : (jV t.ps).length < LIM := by unfold LIM jV; rw [List.length_map]; omega
 have A := h.app G
 have pre : rEv (mU n w ln ll lg now x2 x3 x4 x9 x10 x11 x12 x13) (scr ns :: pen a c :: T) = BR (mU n w ln ll lg now x2 x3 x4 x9 (some (.int f)) (some (.int x.a)) (some (.tup (x.seen.map U.int))) (some (.ref (x.r + 1 + 1)))) (scr ns :: pen a2 c2 :: ((T ++ G).set ll (.lst (evs.map Ev.u ++ [e.u])))) := by
  rwa [rEv, mU, h.hg, h.hl, A.hl, e1, e2, hat, ko hV, List.length_map]
 rw [pre]
 have L0 : ((T ++ G).set ll (.lst (evs.map Ev.u ++ [e.u])))[ll]? = some (.lst (evs.map Ev.u ++ [e.u])) := by rw [gss, A.hl]; rfl
 have D0 : ((T ++ G).set ll (.lst (evs.map Ev.u ++ [e.u])))[x.r]? = some (.dic (jV t.ps)) := by rw [gsn (Ne.symm k3)]; exact aF t3
 have G0 : ((T ++ G).set ll (.lst (evs.map Ev.u ++ [e.u])))[lg]? = some (.lst (g.map Go.u)) := by rw [gsn h.n3]; exact A.hg
 have N0 : ((T ++ G).set ll (.lst (evs.map Ev.u ++ [e.u])))[ln]? = T[ln]? := by rw [gsn (Ne.symm h.n1)]; rw [A.hn, h.hn]
 have F0 : ∀ i, i < T0.length → ((T ++ G).set ll (.lst (evs.map Ev.u ++ [e.u])))[i]? = T[i]? := fun i hi => by
  have := h.bl; have := h.le
  rw [gsn (by omega), List.getElem?_append_left (by omega)]
 have Y0 : ∀ y ∈ g, ((T ++ G).set ll (.lst (evs.map Ev.u ++ [e.u])))[y.r]? = T[y.r]? := fun y hy => by
  obtain ⟨⟨_, _, j3, _⟩, u, _, _, u3⟩ := h.go y hy
  rw [gsn (Ne.symm j3), u3]; exact aF u3
 have Z0 : T.length ≤ ((T ++ G).set ll (.lst (evs.map Ev.u ++ [e.u]))).length := by simp
 have m1 : (evs ++ [e]).map Ev.u = evs.map Ev.u ++ [e.u] := by simp
 generalize (T ++ G).set ll (.lst (evs.map Ev.u ++ [e.u])) = T1 at L0 D0 G0 N0 F0 Y0 Z0 ⊢
 have hP : (g.map Go.u)[f.toNat]? = some (Go.u x) := by rw [List.getElem?_map, List.getElem?_eq_getElem hk, hX]; rfl
 have hpf : f < ((g.map Go.u).length : Int) := by rw [List.length_map]; exact q1
 cases e with
 | beg b => exact absurd rfl (nb b)
 | look b1 b2 b3 =>
  refine ⟨T1, a2, c2, .look b1 b2 b3, g, now, some (.int f), some (.int x.a), some (.tup (x.seen.map U.int)), some (.ref (x.r + 1 + 1)), ?_, h.ev t1 ea okE nb (List.Sublist.refl g) N0 (by rw [m1]; exact L0) G0 (fun y hy => ?_) F0 Z0 h.nw h.nwb, ha2, hc2⟩
  ·simp only [Ev.u] at L0
   rwa [BR, mU, L0, ub, oT, mQ, jY, qi, rW, Br]
  ·rcases o1 y hy with rfl | z
   ·refine .inl ⟨rfl, ?_, ?_⟩
    ·simp only [Att.ev]; split <;> exact t2
    ·rw [D0]; simp only [Att.ev]; split <;> rfl
   ·exact .inr ⟨z.2, Y0 y hy⟩
 | put b1 b2 b3 =>
  refine ⟨T1.set x.r (.dic (jV (iE t.ps b2 b3))), a2, c2, .put b1 b2 b3, g, now, some (.int f), some (.int x.a), some (.tup (x.seen.map U.int)), some (.ref (x.r + 1 + 1)), ?_, h.ev t1 ea okE nb (List.Sublist.refl g) (by rw [gsn k2]; exact N0) (by rw [m1, gsn k3]; exact L0) (by rw [gsn k4]; exact G0) (fun y hy => ?_) (fun i hi => by rw [gsn (by omega)]; exact F0 i hi) (by simpa using Z0) h.nw h.nwb, ha2, hc2⟩
  ·simp only [Ev.u] at L0
   have L1 : (T1.set x.r (.dic (jV (iE t.ps b2 b3))))[ll]? = some (.lst (evs.map Ev.u ++ [U.tup [.str "put", .int b1, .int b2, .int b3]])) := by rw [gsn k3]; exact L0
   rwa [BR, mU, L0, L1, D0, hPL, if_true, rB, ub, oT, mQ, gC, rW, Ee]
  ·rcases o1 y hy with rfl | z
   ·exact .inl ⟨rfl, t2, by rw [gss, D0]; rfl⟩
   ·exact .inr ⟨z.2, by rw [gsn (Ne.symm z.1)]; exact Y0 y hy⟩
 | fin d b1 =>
  have bb : ∀ z ∈ beh now t.ps 0, 0 ≤ z ∧ z < w := EC h.nwb (fun p hp => (pb p hp).2) 0
  have sub : (g.eraseIdx f.toNat).Sublist g := List.eraseIdx_sublist ..
  cases d with
  | true =>
   have eP := xH (S := scr ns :: pen a2 c2 :: T1) (r := x.r + 1 + 1) (ps := t.ps) (now := now) (by simp only [List.getElem?_cons_succ]; exact D0) (by have := h.nw; omega)
   have L1 : (T1 ++ [O.lst ((beh now t.ps 0).map U.int)])[ll]? = some (.lst (evs.map Ev.u ++ [U.tup [.str "done", .int b1]])) := aF L0
   have G1 : (T1 ++ [O.lst ((beh now t.ps 0).map U.int)])[lg]? = some (.lst (g.map Go.u)) := aF G0
   have gl : ∀ i, i < T.length → (T1 ++ [O.lst ((beh now t.ps 0).map U.int)])[i]? = T1[i]? := fun i hi => List.getElem?_append_left (by omega)
   refine ⟨(T1 ++ [O.lst ((beh now t.ps 0).map U.int)]).set lg (.lst ((g.map Go.u).eraseIdx f.toNat)), a2, c2, .fin true b1, g.eraseIdx f.toNat, beh now t.ps 0, some (.int f), some (.int x.a), some (.tup (x.seen.map U.int)), some (.ref (x.r + 1 + 1)), ?_, h.ev t1 ea okE nb sub (by rw [gsn (Ne.symm h.n2), gl _ (dz h.hn)]; exact N0) (by rw [m1, gsn (Ne.symm h.n3)]; exact L1) (by rw [gss, G1, lU]; rfl) (fun y hy => ?_) (fun i hi => ?_) (by simp; omega) (by rw [BK]; exact h.nw) bb, ha2, hc2⟩
   ·simp only [Ev.u, ni, if_true] at L0
    rwa [BR, mU, L0, L1, G1, eP, ub, oT, mQ, j2, gC, rW, Bt, qf, nM p1 hpf hGL hP]
   ·have hy' := sub.subset hy
    obtain ⟨z1, z2⟩ := o2 y hy
    obtain ⟨⟨_, _, _, j4, _⟩, u, _, _, u3⟩ := h.go y hy'
    exact .inr ⟨z2, by rw [gsn (Ne.symm j4), gl _ (dz u3)]; exact Y0 y hy'⟩
   ·have := h.bg; have := h.le
    rw [gsn (by omega), gl i (by omega)]; exact F0 i hi
  | false =>
   refine ⟨T1.set lg (.lst ((g.map Go.u).eraseIdx f.toNat)), a2, c2, .fin false b1, g.eraseIdx f.toNat, now, some (.int f), some (.int x.a), some (.tup (x.seen.map U.int)), some (.ref (x.r + 1 + 1)), ?_, h.ev t1 ea okE nb sub (by rw [gsn (Ne.symm h.n2)]; exact N0) (by rw [m1, gsn (Ne.symm h.n3)]; exact L0) (by rw [gss, G0, lU]; rfl) (fun y hy => ?_) (fun i hi => ?_) (by simpa using Z0) h.nw h.nwb, ha2, hc2⟩
   ·simp only [Ev.u, ni, Bool.false_eq_true, if_false] at L0
    rwa [BR, mU, L0, G0, ub, oT, mQ, jZ, qj, rW, Bs, qf, nM p1 hpf hGL hP]
   ·have hy' := sub.subset hy
    obtain ⟨z1, z2⟩ := o2 y hy
    obtain ⟨⟨_, _, _, j4, _⟩, u, _, _, u3⟩ := h.go y hy'
    exact .inr ⟨z2, by rw [gsn (Ne.symm j4)]; exact Y0 y hy'⟩
   ·have := h.bg; have := h.le
    rw [gsn (by omega)]; exact F0 i hi
end
section
variable {n w : Int} {N : Nat} {T0 : Sto} {ln ll lg : Nat} {x2 x3 x4 : Option U}
theorem rH (ns : List Int) (n0 : 1 ≤ n) (n1 : n ≤ 6) (w0 : 2 ≤ w) (w1 : w ≤ 1000) (hN : N ≤ 100) : ∀ (us : List U) (T : Sto) (names : List Int) (evs : List Ev) (g : List Go) (now : List Int) (x9 x10 x11 x12 x13 : Option U) {a c : Int}, 0 ≤ a → 0 ≤ c → LgI n w N T0 T ln ll lg names evs g now → evs.length + us.length ≤ 1000 →
  ∃ (T' : Sto) (names' : List Int) (evs' : List Ev) (g' : List Go) (now' : List Int) (y9 y10 y11 y12 y13 : Option U) (a' c' : Int),
   fP (fun _ => True) (gNm 9) (gj ki aL jA jx) us (mU n w ln ll lg now x2 x3 x4 x9 x10 x11 x12 x13) (scr ns :: pen a c :: T)
    = some (.nx, mU n w ln ll lg now' x2 x3 x4 y9 y10 y11 y12 y13, scr ns :: pen a' c' :: T') ∧ LgI n w N T0 T' ln ll lg names' evs' g' now' ∧ evs'.length ≤ evs.length + us.length ∧ 0 ≤ a' ∧ 0 ≤ c'
 | [], T, names, evs, g, now, x9, x10, x11, x12, x13, a, c, ha, hc, I, hl => ⟨T, names, evs, g, now, x9, x10, x11, x12, x13, a, c, gU trivial, I, by simp, ha, hc⟩
 | u :: us, T, names, evs, g, now, x9, x10, x11, x12, x13, a, c, ha, hc, I, hl => by
  rw [List.length_cons] at hl
  have key : ∃ (T1 : Sto) (names1 : List Int) (evs1 : List Ev) (g1 : List Go) (now1 : List Int) (z10 z11 z12 z13 : Option U) (a1 c1 : Int),
    gj ki aL jA jx (mU n w ln ll lg now x2 x3 x4 (some u) x10 x11 x12 x13) (scr ns :: pen a c :: T) = some (.nx, mU n w ln ll lg now1 x2 x3 x4 (some u) z10 z11 z12 z13, scr ns :: pen a1 c1 :: T1) ∧ LgI n w N T0 T1 ln ll lg names1 evs1 g1 now1 ∧ evs1.length ≤ evs.length + 1 ∧ 0 ≤ a1 ∧ 0 ≤ c1 := by
   rw [He]
   have E1 := rG true (S := scr ns :: pen a c :: (T ++ [.lst []])) (l := ln + 1 + 1) (l' := T.length + 1 + 1) (us := names.map U.int) (by simp only [List.getElem?_cons_succ]; exact aF I.hn) (by simp only [List.getElem?_cons_succ, ga0]; rfl)
   have E2 : ∀ neg : Bool, mV neg (.ref (lg + 1 + 1)) (.ref (T.length + 1 + 1 + 1)) (scr ns :: pen a c :: (T ++ [.lst [], .lst []])) = some (.bl (if neg then !decide (g.map Go.u = []) else decide (g.map Go.u = [])), scr ns :: pen a c :: (T ++ [.lst [], .lst []])) := fun neg => rG neg (by simp only [List.getElem?_cons_succ]; exact aF I.hg) (by simp only [List.getElem?_cons_succ, ga]; rfl)
   have dG : decide (g.map Go.u = []) = decide (g = []) := by cases g <;> simp
   have dN : decide (names.map U.int = []) = decide (names = []) := by cases names <;> simp
   rw [dN] at E1
   rw [dG] at E2
   have sub : (scr ns :: pen a c :: (T ++ [.lst []])).length = T.length + 1 + 1 + 1 := by simp
   rcases List.eq_nil_or_concat names with rfl | ⟨names', a0, rfl⟩
   ·by_cases gE : g = []
    ·subst gE
     refine ⟨T ++ [.lst [], .lst []], [], evs, [], now, x10, x11, x12, x13, a, c, ?_, I.app _, by omega, ha, hc⟩
     rwa [mU, E1, E2, if_true, decide_true, List.length_append]
    ·have J := I.app [.lst [], .lst []]
     obtain ⟨T', a', c', e, g', now', y10, y11, y12, y13, h1, h2, h3, h4⟩ := Ep (x2 := x2) (x3 := x3) (x4 := x4) (x9 := some u) (x10 := x10) (x11 := x11) (x12 := x12) (x13 := x13) ns ha hc n0 n1 w0 w1 J hN (by omega) gE
     refine ⟨T', _, _, _, _, y10, y11, y12, y13, a', c', ?_, h2, by simp, h3, h4⟩
     rw [← h1]
     rwa [mU, E1, E2, gE, if_true, decide_true, List.length_append]
   ·have ne : names'.concat a0 ≠ [] := by simp
    by_cases gE : g = []
    ·have J := I.app [.lst [], .lst []]
     rw [List.concat_eq_append] at J
     obtain ⟨T', h1, h2⟩ := zL (x2 := x2) (x3 := x3) (x4 := x4) (x9 := some u) (x10 := x10) (x11 := x11) (x12 := x12) (x13 := x13) ns (a := a) (c := c) J hN (by omega)
     refine ⟨T', _, _, _, _, x10, x11, x12, x13, a, c, ?_, h2, by simp, ha, hc⟩
     rw [← h1]
     rwa [mU, E1, E2, ne, gE, if_true, decide_true, List.length_append, Bool.false_eq_true, if_false]
    ·obtain ⟨f, a1, c1, e1, p1, q1, ha1, hc1⟩ := aU ns (T ++ [.lst [], .lst []]) (m := 4) ha hc (by decide) (by decide +kernel)
     by_cases fE : f = 0
     ·have J := I.app [.lst [], .lst []]
      rw [List.concat_eq_append] at J
      obtain ⟨T', h1, h2⟩ := zL (x2 := x2) (x3 := x3) (x4 := x4) (x9 := some u) (x10 := x10) (x11 := x11) (x12 := x12) (x13 := x13) ns (a := a1) (c := c1) J hN (by omega)
      refine ⟨T', _, _, _, _, x10, x11, x12, x13, a1, c1, ?_, h2, by simp, ha1, hc1⟩
      rw [← h1]
      rwa [mU, E1, E2, ne, gE, e1, fE, if_true, decide_true, List.length_append, Bool.false_eq_true, if_false]
     ·have J := I.app [.lst [], .lst [], .lst []]
      have E3 : mV true (.ref (lg + 1 + 1)) (.ref (T.length + 1 + 1 + 1 + 1)) (scr ns :: pen a1 c1 :: (T ++ [.lst [], .lst [], .lst []])) = some (.bl true, scr ns :: pen a1 c1 :: (T ++ [.lst [], .lst [], .lst []])) := by
       have z := rG true (S := scr ns :: pen a1 c1 :: (T ++ [.lst [], .lst [], .lst []])) (l := lg + 1 + 1) (l' := T.length + 1 + 1 + 1 + 1) (us := g.map Go.u) (by simp only [List.getElem?_cons_succ]; exact aF I.hg) (by
        simp only [List.getElem?_cons_succ]
        rw [show T.length + 1 + 1 = T.length + 2 from rfl, ga]; rfl)
       rw [dG, decide_eq_false gE] at z
       exact z
      obtain ⟨T', a', c', e, g', now', y10, y11, y12, y13, h1, h2, h3, h4⟩ := Ep (x2 := x2) (x3 := x3) (x4 := x4) (x9 := some u) (x10 := x10) (x11 := x11) (x12 := x12) (x13 := x13) ns ha1 hc1 n0 n1 w0 w1 J hN (by omega) gE
      refine ⟨T', _, _, _, _, y10, y11, y12, y13, a', c', ?_, h2, by simp, h3, h4⟩
      rw [← h1]
      rwa [mU, E1, E2, E3, ne, gE, e1, fE, if_true, decide_true, List.length_append, Bool.false_eq_true, if_false]
  obtain ⟨T1, names1, evs1, g1, now1, z10, z11, z12, z13, a1, c1, h1, I1, l1, ha1, hc1⟩ := key
  obtain ⟨T', names', evs', g', now', y9, y10, y11, y12, y13, a', c', h2, I2, l2, ha2, hc2⟩ := rH ns n0 n1 w0 w1 hN us T1 names1 evs1 g1 now1 (some u) z10 z11 z12 z13 ha1 hc1 I1 (by omega)
  exact ⟨T', names', evs', g', now', y9, y10, y11, y12, y13, a', c', (jt trivial rfl h1).trans h2, I2, by rw [List.length_cons]; omega, ha2, hc2⟩
end
noncomputable def yV : Fn := fnU 14 5 (gN ki aL jA jx)
structure BO (n w : Int) (N : Nat) (evs : List Ev) : Prop where
 lo : w8 n w [] evs
 kd : (aE (i6 [] evs)).Nodup
 cnt : (i6 [] evs).length ≤ N
 pb : ∀ a t, aX (i6 [] evs) a = some t → t.ps.length ≤ evs.length ∧ ∀ p ∈ t.ps, (0 ≤ p.1 ∧ p.1 < n) ∧ 0 ≤ p.2 ∧ p.2 < w
theorem DT (ns : List Int) (T : Sto) {a c n w most size : Int} {state : List Int} (ha : 0 ≤ a) (hc : 0 ≤ c) (n0 : 1 ≤ n) (n1 : n ≤ 6) (w0 : 2 ≤ w) (w1 : w ≤ 1000) (hs : state.length = n.toNat) (bs : ∀ z ∈ state, 0 ≤ z ∧ z < w) (m0 : 0 ≤ most) (m1 : most ≤ 99) (s0 : 0 ≤ size) (s1 : size ≤ 900) :
    ∃ (evs : List Ev) (a' c' : Int) (G : Sto) (k : Nat), yV [.ref 1, .tup [.int n, .int w], .tup (state.map U.int), .int most, .int size] (scr ns :: pen a c :: T) = some (.ref (T.length + k + 1 + 1), scr ns :: pen a' c' :: (T ++ G)) ∧ G[k]? = some (.lst (evs.map Ev.u)) ∧ BO n w most.toNat evs ∧ evs.length ≤ size.toNat ∧ 0 ≤ a' ∧ 0 ≤ c' := by
  unfold yV
  rw [tL]
  obtain ⟨f, a1, c1, e1, p1, q1, ha1, hc1⟩ := aU ns T (m := most + 1) ha hc (by omega) (l9 (by omega) (by omega))
  obtain ⟨left, names, a2, c2, e2, l2, d2, b2, ha2, hc2⟩ := yg ns T ha1 hc1 p1 (by omega)
  obtain ⟨h, a3, c3, e3, p3, q3, ha3, hc3⟩ := aU ns (T ++ [.lst (left.map U.int), .lst (names.map U.int), .lst [], .lst []]) (m := size + 1) ha2 hc2 (by omega) (l9 (by omega) (by omega))
  have I : LgI n w most.toNat T (T ++ [.lst (left.map U.int), .lst (names.map U.int), .lst [], .lst []]) (T.length + 1) (T.length + 2) (T.length + 3) names [] [] state :=
    { hn := ga, hl := ga, hg := ga, bn := by omega, bl := by omega, bg := by omega, n1 := by omega, n2 := by omega, n3 := by omega
      go := fun x hx => by cases hx
      gd := .nil, nd := d2, nb := fun x hx => ⟨(b2 x hx).1, (b2 x hx).2, by simp [i6, aE]⟩, lo := trivial, kd := by simp [i6, aE], cnt := by simp [i6]; omega, gl := by simp, nw := hs, nwb := bs
      pb := fun a t e => by simp [i6, aX] at e
      fr := fun i hi => List.getElem?_append_left hi, le := by simp }
  obtain ⟨T', names', evs', g', now', y9, y10, y11, y12, y13, a', c', e4, I4, l4, ha4, hc4⟩ := rH (x2 := some (.tup (state.map U.int))) (x3 := some (.int most)) (x4 := some (.int size)) ns n0 n1 w0 w1 (by omega) (bV 0 h.toNat) _ _ _ _ _ none none none none none ha3 hc3 I (by simp [bV]; omega)
  obtain ⟨G, rfl⟩ := El (ls := []) I4.le I4.fr
  have hl := I4.hl
  rw [ga] at hl
  refine ⟨evs', a', c', G, 2, ?_, hl, ⟨I4.lo, I4.kd, by have := I4.cnt; omega, I4.pb⟩, by simp [bV] at l4; omega, ha4, hc4⟩
  have hr : -(2 ^ 62) ≤ h ∧ h < 2 ^ 62 := by omega
  simp only [mU] at e4
  rwa [gN, e1, e2, e3, mW, bY, hr, if_true, and_self, e4, List.length_append]
section
variable {c : Cl} {B : Nat} {E L N P F E' : List (Key × U)} {X Y S : Sto} {k : Nat} {o : O}
noncomputable def hd (c : Cl) (B : Nat) (E L N P F : List (Key × U)) : Sto := [.ins c [some (.ref (B + 1)), some (.ref (B + 2)), some (.ref (B + 3)), some (.ref (B + 4)), some (.ref (B + 5))], .dic E, .dic L, .dic N, .dic P, .dic F]
theorem hd0 : (S ++ (hd c B E L N P F ++ X))[S.length]? = some (.ins c [some (.ref (B + 1)), some (.ref (B + 2)), some (.ref (B + 3)), some (.ref (B + 4)), some (.ref (B + 5))]) := by rw [ga0]; rfl
theorem hd1 : (S ++ (hd c B E L N P F ++ X))[S.length + 1]? = some (.dic E) := by rw [ga]; rfl
theorem hd2 : (S ++ (hd c B E L N P F ++ X))[S.length + 2]? = some (.dic L) := by rw [ga]; rfl
theorem hd3 : (S ++ (hd c B E L N P F ++ X))[S.length + 3]? = some (.dic N) := by rw [ga]; rfl
theorem hd4 : (S ++ (hd c B E L N P F ++ X))[S.length + 4]? = some (.dic P) := by rw [ga]; rfl
theorem hd5 : (S ++ (hd c B E L N P F ++ X))[S.length + 5]? = some (.dic F) := by rw [ga]; rfl
theorem hs1 : (S ++ (hd c B E L N P F ++ X)).set (S.length + 1) (.dic E') = S ++ (hd c B E' L N P F ++ X) := by rw [gs]; rfl
theorem hs2 : (S ++ (hd c B E L N P F ++ X)).set (S.length + 2) (.dic E') = S ++ (hd c B E E' N P F ++ X) := by rw [gs]; rfl
theorem hs3 : (S ++ (hd c B E L N P F ++ X)).set (S.length + 3) (.dic E') = S ++ (hd c B E L E' P F ++ X) := by rw [gs]; rfl
theorem hs4 : (S ++ (hd c B E L N P F ++ X)).set (S.length + 4) (.dic E') = S ++ (hd c B E L N E' F ++ X) := by rw [gs]; rfl
theorem hs5 : (S ++ (hd c B E L N P F ++ X)).set (S.length + 5) (.dic E') = S ++ (hd c B E L N P E' ++ X) := by rw [gs]; rfl
theorem gW : (S ++ (hd c B E L N P F ++ X)).length = S.length + (6 + X.length) := by simp [hd]; omega
theorem hgx : (S ++ (hd c B E L N P F ++ X))[S.length + (6 + k)]? = X[k]? := by
 rw [ga, List.getElem?_append_right (by simp [hd])]
 congr 1
 simp [hd]
theorem hsx : (S ++ (hd c B E L N P F ++ X)).set (S.length + (6 + k)) o = S ++ (hd c B E L N P F ++ X.set k o) := by
 rw [gs, List.set_append_right _ _ (by simp [hd])]
 congr 3
 simp [hd]
theorem IG : S ++ (hd c B E L N P F ++ X) ++ Y = S ++ (hd c B E L N P F ++ (X ++ Y)) := by simp only [List.append_assoc]
end
noncomputable def enS : Option Bool → Str
 | none => "open"
 | some d => ni d
noncomputable def fX (st : St) : List (Key × U) := st.map fun p => (.inl p.1, .str (enS p.2.en))
noncomputable def fQ (B j : Nat) (st : St) (i : Nat) : List (Key × U) := match st with
 | [] => []
 | p :: r => (.inl p.1, .ref (B + (6 + (4 * i + j)))) :: fQ B j r (i + 1)
noncomputable def wk (nd : List (Int × Int)) : List (List Key × U) := nd.map fun p => ([.inl p.1, .inl p.2], .bl true)
noncomputable def blk (t : Att) : Sto := [.lst (t.bf.map U.int), .lst (t.lk.map pU), .dit (wk t.nd), .dic (jV t.ps)]
noncomputable def mO : St → Sto
 | [] => []
 | p :: r => blk p.2 ++ mO r
noncomputable def crs (c : Cl) (S : Sto) (st : St) : Sto := S ++ (hd c S.length (fX st) (fQ S.length 1 st 0) (fQ S.length 2 st 0) (fQ S.length 3 st 0) (fQ S.length 0 st 0) ++ mO st)
theorem gc : ∀ st : St, (mO st).length = 4 * st.length
 | [] => rfl
 | p :: r => by rw [mO, List.length_append, gc r, List.length_cons]; simp [blk]; omega
theorem hC : ∀ s r : St, mO (s ++ r) = mO s ++ mO r
 | [], r => rfl
 | p :: s, r => by rw [List.cons_append, mO, mO, hC s r, List.append_assoc]
theorem jR {B j : Nat} : ∀ (s r : St) (i : Nat), fQ B j (s ++ r) i = fQ B j s i ++ fQ B j r (i + s.length)
 | [], r, i => rfl
 | p :: s, r, i => by
  rw [List.cons_append, fQ, fQ, jR s r (i + 1), List.cons_append, List.length_cons]
  congr 3
  omega
theorem mB {B j : Nat} : ∀ (s : St) (i : Nat), (fQ B j s i).map (·.1) = (aE s).map Sum.inl
 | [], i => rfl
 | p :: s, i => by rw [fQ, List.map_cons, mB s (i + 1)]; rfl
theorem gL {s : St} : (fX s).map (·.1) = (aE s).map Sum.inl := by
 unfold fX aE; rw [List.map_map, List.map_map]; rfl
theorem j5 {ks : List Int} {a : Int} (h : a ∉ ks) : (Sum.inl a : Key) ∉ ks.map Sum.inl := fun z => by
 obtain ⟨b, hb, e⟩ := List.mem_map.mp z
 cases e
 exact h hb
theorem o3 {κ α : Type} [DecidableEq κ] {ps qs : List (κ × α)} {k : κ} {v : α} (h : k ∉ ps.map (·.1)) : aX (ps ++ (k, v) :: qs) k = some v := by
 rw [jD, b6.mpr h]
 simp [aX]
theorem nY {κ α : Type} [DecidableEq κ] {ps : List (κ × α)} {k : κ} {v : α} (h : k ∉ ps.map (·.1)) : iE ps k v = ps ++ [(k, v)] := by
 unfold iE
 rw [if_neg]
 simp only [List.any_eq_true, decide_eq_true_eq, not_exists, not_and]
 intro p hp e
 exact h (List.mem_map.mpr ⟨p, hp, e⟩)
theorem xK {κ α : Type} [DecidableEq κ] {ps qs : List (κ × α)} {k : κ} {v v' : α} (h : (ps ++ (k, v) :: qs).map (·.1) |>.Nodup) : iE (ps ++ (k, v) :: qs) k v' = ps ++ (k, v') :: qs := by
 unfold iE
 rw [if_pos (by simp)]
 rw [List.map_append, List.map_cons] at h
 have h1 := List.nodup_append.mp h
 have h2 := List.nodup_cons.mp h1.2.1
 have keep : ∀ {l : List (κ × α)}, k ∉ l.map (·.1) → (l.map fun p => if p.1 = k then (p.1, v') else p) = l := fun {l} hl => by
  rw [List.map_congr_left (g := id) fun p hp => ?_, List.map_id]
  rw [if_neg fun e => hl (List.mem_map.mpr ⟨p, hp, e⟩)]; rfl
 rw [List.map_append, List.map_cons]
 rw [keep fun z => h1.2.2 k z k List.mem_cons_self rfl, keep h2.1, if_pos rfl]
section
variable {c : Cl} {S : Sto} {s1 s2 st : St} {a : Int} {t t' : Att}
theorem vv (h : (aE (s1 ++ (a, t) :: s2)).Nodup) : a ∉ aE s1 := fun z => by
 unfold aE at h z
 rw [List.map_append, List.map_cons] at h
 exact (List.nodup_append.mp h).2.2 a z a List.mem_cons_self rfl
theorem iQ {j : Nat} (h : (aE (s1 ++ (a, t) :: s2)).Nodup) : aX (fQ S.length j (s1 ++ (a, t) :: s2) 0) (.inl a) = some (.ref (S.length + (6 + (4 * s1.length + j)))) := by
 rw [jR, fQ, Nat.zero_add]
 exact o3 (by rw [mB]; exact j5 (vv h))
theorem kS (h : (aE (s1 ++ (a, t) :: s2)).Nodup) : aX (fX (s1 ++ (a, t) :: s2)) (.inl a) = some (.str (enS t.en)) := by
 have e : fX (s1 ++ (a, t) :: s2) = fX s1 ++ (Sum.inl a, U.str (enS t.en)) :: fX s2 := by unfold fX; rw [List.map_append, List.map_cons]
 rw [e]
 exact o3 (by rw [gL]; exact j5 (vv h))
theorem pK {j : Nat} : fQ S.length j (s1 ++ (a, t) :: s2) 0 = fQ S.length j (s1 ++ (a, t') :: s2) 0 := by
 rw [jR, jR]; rfl
theorem wm (h : t.en = t'.en) : fX (s1 ++ (a, t) :: s2) = fX (s1 ++ (a, t') :: s2) := by
 unfold fX; rw [List.map_append, List.map_cons, List.map_append, List.map_cons, h]
theorem xJ {d : Bool} (h : (aE (s1 ++ (a, t) :: s2)).Nodup) (e : t'.en = some d) : iE (fX (s1 ++ (a, t) :: s2)) (.inl a) (.str (ni d)) = fX (s1 ++ (a, t') :: s2) := by
 have e1 : ∀ t : Att, fX (s1 ++ (a, t) :: s2) = fX s1 ++ (Sum.inl a, U.str (enS t.en)) :: fX s2 := fun t => by unfold fX; rw [List.map_append, List.map_cons]
 rw [e1, e1, e]
 refine xK ?_
 rw [← e1, gL]
 exact List.Pairwise.map _ (fun a b h e => h (by cases e; rfl)) h
theorem BJ {j : Nat} (hj : j < 4) : (mO (s1 ++ (a, t) :: s2))[4 * s1.length + j]? = (blk t)[j]? := by
 rw [hC, mO, List.getElem?_append_right (by rw [gc]; omega), gc, Nat.add_sub_cancel_left, List.getElem?_append_left (by simp [blk]; omega)]
theorem BI {j : Nat} {o : O} (hj : j < 4) (h : (blk t).set j o = blk t') : (mO (s1 ++ (a, t) :: s2)).set (4 * s1.length + j) o = mO (s1 ++ (a, t') :: s2) := by
 rw [hC, hC, mO, mO, List.set_append_right _ _ (by rw [gc]; omega), gc, Nat.add_sub_cancel_left, List.set_append_left _ _ (by simp [blk]; omega), h]
theorem mI {j : Nat} (hj : j < 4) : (crs c S (s1 ++ (a, t) :: s2))[S.length + (6 + (4 * s1.length + j))]? = (blk t)[j]? := by
 unfold crs; rw [hgx, BJ hj]
theorem qO {j : Nat} {o : O} (hj : j < 4) (he : t.en = t'.en) (h : (blk t).set j o = blk t') : (crs c S (s1 ++ (a, t) :: s2)).set (S.length + (6 + (4 * s1.length + j))) o = crs c S (s1 ++ (a, t') :: s2) := by
 unfold crs
 rw [hsx, BI hj h, wm he]
 simp only [pK (t := t) (t' := t')]
theorem BH {d : Bool} (h : (aE (s1 ++ (a, t) :: s2)).Nodup) : (crs c S (s1 ++ (a, t) :: s2)).set (S.length + 1) (.dic (iE (fX (s1 ++ (a, t) :: s2)) (.inl a) (.str (ni d)))) = crs c S (s1 ++ (a, { t with en := some d }) :: s2) := by
 unfold crs
 rw [hs1, xJ (t' := { t with en := some d }) h rfl]
 simp only [pK (t := t) (t' := { t with en := some d })]
 congr 2
 rw [hC, hC]; rfl
theorem jE {f : Att → Att} (h : (aE (s1 ++ (a, t) :: s2)).Nodup) : w9 (s1 ++ (a, t) :: s2) a f = s1 ++ (a, f t) :: s2 := by
 have h0 := h
 unfold aE at h
 rw [List.map_append, List.map_cons] at h
 have h1 := List.nodup_append.mp h
 have h2 := List.nodup_cons.mp h1.2.1
 unfold w9
 have keep : ∀ {l : St}, a ∉ l.map (·.1) → (l.map fun p => if p.1 = a then (p.1, f p.2) else p) = l := fun {l} hl => by
  rw [List.map_congr_left (g := id) fun p hp => ?_, List.map_id]
  rw [if_neg fun e => hl (List.mem_map.mpr ⟨p, hp, e⟩)]; rfl
 rw [List.map_append, List.map_cons, keep fun z => h1.2.2 a z a List.mem_cons_self rfl, keep h2.1, if_pos rfl]
theorem gD {st : St} (h : aX st a = some t) : ∃ s1 s2, st = s1 ++ (a, t) :: s2 := List.append_of_mem (kW h)
theorem fR {i : Nat} {u : U} {fus : List (Option U)} {Z : Sto} {l : Nat} (h : Z[l]? = some (.ins c fus)) (hu : fus[i]? = some (some u)) : oa c i (.ref l, Z) = some (u, Z) := by
 rw [zb, h, za, hu]; rfl
theorem E8 {co cv : CE} {cr : CA} {ρ : Rho} {Z Z1 Z2 Z3 : Sto} {u : U} {l : Nat} {us : List U} {ks : List Key} {kus : List (List Key × U)} (h1 : cv ρ Z = some (u, Z1)) (h2 : co ρ Z1 = some (.ref l, Z2)) (h3 : cr ρ Z2 = some (us, Z3)) (h4 : Z3[l]? = some (.dit kus)) (h5 : Au us = some ks) (h6 : kus.length < LIM) (h7 : us.length ≤ LIM) :
  mK co cr cv ρ Z = some (.nx, ρ, Z3.set l (.dit (iE kus ks u))) := by
 unfold mK
 rw [h1, Option.bind_some, h2, Option.bind_some, h3, Option.bind_some]
 simp only [h4, h5, Option.bind_some]
 rw [if_pos ⟨h6, h7⟩]
theorem xI (nd : List (Int × Int)) (b x : Int) : iE (wk nd) [.inl b, .inl x] (.bl true) = wk (zM nd (b, x)) := by
 have kk : ∀ p : Int × Int, ([Sum.inl p.1, Sum.inl p.2] : List Key) = [.inl b, .inl x] ↔ p = (b, x) := fun p => by
  obtain ⟨p1, p2⟩ := p
  simp
 unfold iE zM
 have ha : ((wk nd).any fun kv => decide (kv.1 = [Sum.inl b, Sum.inl x])) = decide ((b, x) ∈ nd) := by
  unfold wk
  induction nd with
  | nil => rfl
  | cons p r ih =>
   simp only [List.map_cons, List.any_cons, ih, List.mem_cons, kk]
   by_cases e : p = (b, x)
   ·simp [e]
   ·simp [e, Ne.symm e]
 rw [ha]
 by_cases m : (b, x) ∈ nd
 ·rw [if_pos (decide_eq_true m), if_pos m]
  unfold wk
  rw [List.map_map]
  refine List.map_congr_left fun p _ => ?_
  simp only [Function.comp]
  split <;> simp_all
 ·rw [if_neg (by simpa using m), if_neg m]
  simp [wk]
noncomputable def wY (c : Cl) : Fn := fnU 4 4 (bI c)
theorem Bf {b x : Int} (h : (aE (s1 ++ (a, t) :: s2)).Nodup) (hl : t.lk.length ≤ 10000) (hn : t.nd.length ≤ 10000) : wY c [.ref S.length, .int a, .int b, .int x] (crs c S (s1 ++ (a, t) :: s2)) = some (.non, crs c S (s1 ++ (a, t.ev (.look a b x)) :: s2)) := by
 unfold wY
 rw [jS]
 have g3 := mI (c := c) (S := S) (s1 := s1) (s2 := s2) (a := a) (t := t) (j := 3) (by omega)
 have g1 := mI (c := c) (S := S) (s1 := s1) (s2 := s2) (a := a) (t := t) (j := 1) (by omega)
 have v1 := iQ (S := S) (j := 1) h
 have v2 := iQ (S := S) (j := 2) h
 have v3 := iQ (S := S) (j := 3) h
 have f0 : ∀ st : St, (crs c S st)[S.length]? = some (.ins c [some (.ref (S.length + 1)), some (.ref (S.length + 2)), some (.ref (S.length + 3)), some (.ref (S.length + 4)), some (.ref (S.length + 5))]) := fun st => hd0
 have f2 : ∀ st : St, (crs c S st)[S.length + 2]? = some (.dic (fQ S.length 1 st 0)) := fun st => hd2
 have f3 : ∀ st : St, (crs c S st)[S.length + 3]? = some (.dic (fQ S.length 2 st 0)) := fun st => hd3
 have f4 : ∀ st : St, (crs c S st)[S.length + 4]? = some (.dic (fQ S.length 3 st 0)) := fun st => hd4
 have F1 : ∀ st : St, oa c 1 (.ref S.length, crs c S st) = some (.ref (S.length + 2), crs c S st) := fun st => fR (f0 st) rfl
 have F2 : ∀ st : St, oa c 2 (.ref S.length, crs c S st) = some (.ref (S.length + 3), crs c S st) := fun st => fR (f0 st) rfl
 have F3 : ∀ st : St, oa c 3 (.ref S.length, crs c S st) = some (.ref (S.length + 4), crs c S st) := fun st => fR (f0 st) rfl
 have g3' : (crs c S (s1 ++ (a, t) :: s2))[S.length + (6 + (4 * s1.length + 3))]? = some (.dic (jV t.ps)) := g3
 have g1' : (crs c S (s1 ++ (a, t) :: s2))[S.length + (6 + (4 * s1.length + 1))]? = some (.lst (t.lk.map pU)) := g1
 cases hv : aX t.ps b with
 | some y =>
  have e : t.ev (.look a b x) = t := by simp [Att.ev, hv]
  rw [e]
  rwa [bI, F3, f4, v3, g3', iR, hv, Option.map_some, Option.isSome_some, if_true]
 | none =>
  have e : t.ev (.look a b x) = { t with lk := t.lk ++ [(b, x)], nd := zM t.nd (b, x) } := by simp [Att.ev, hv]
  rw [e]
  have hL : (t.lk.map pU).length < LIM := by unfold LIM; rw [List.length_map]; omega
  have s1' := qO (c := c) (S := S) (s1 := s1) (s2 := s2) (a := a) (t := t) (t' := { t with lk := t.lk ++ [(b, x)] }) (j := 1) (o := .lst (t.lk.map pU ++ [pU (b, x)])) (by omega) rfl (by unfold blk; rw [List.map_append]; rfl)
  have h' : (aE (s1 ++ (a, ({ t with lk := t.lk ++ [(b, x)] } : Att)) :: s2)).Nodup := by unfold aE at h ⊢; rw [List.map_append, List.map_cons] at h ⊢; exact h
  have v2' := iQ (S := S) (j := 2) h'
  have g2 := mI (c := c) (S := S) (s1 := s1) (s2 := s2) (a := a) (t := { t with lk := t.lk ++ [(b, x)] }) (j := 2) (by omega)
  have g2' : (crs c S (s1 ++ (a, ({ t with lk := t.lk ++ [(b, x)] } : Att)) :: s2))[S.length + (6 + (4 * s1.length + 2))]? = some (.dit (wk t.nd)) := g2
  have s2' := qO (c := c) (S := S) (s1 := s1) (s2 := s2) (a := a) (t := { t with lk := t.lk ++ [(b, x)] }) (t' := { t with lk := t.lk ++ [(b, x)], nd := zM t.nd (b, x) }) (j := 2) (o := .dit (wk (zM t.nd (b, x)))) (by omega) rfl rfl
  have e3 : mK (cOp fIx (kJ c 2 (ak 0)) (ak 1)) (ab (ak 2) (ab (ak 3) aq)) (cC (.bl true)) [some (.ref S.length), some (.int a), some (.int b), some (.int x)] (crs c S (s1 ++ (a, ({ t with lk := t.lk ++ [(b, x)] } : Att)) :: s2)) = some (.nx, [some (.ref S.length), some (.int a), some (.int b), some (.int x)], crs c S (s1 ++ (a, ({ t with lk := t.lk ++ [(b, x)], nd := zM t.nd (b, x) } : Att)) :: s2)) := by
   rw [E8 (u := .bl true) (us := [.int b, .int x]) (ks := [.inl b, .inl x]) (kus := wk t.nd) (l := S.length + (6 + (4 * s1.length + 2))) (Z1 := crs c S (s1 ++ (a, ({ t with lk := t.lk ++ [(b, x)] } : Att)) :: s2)) (Z2 := crs c S (s1 ++ (a, ({ t with lk := t.lk ++ [(b, x)] } : Att)) :: s2)) (Z3 := crs c S (s1 ++ (a, ({ t with lk := t.lk ++ [(b, x)] } : Att)) :: s2)) rfl ?_ rfl g2' rfl (by unfold LIM wk; rw [List.length_map]; omega) (by unfold LIM; simp), xI, s2']
   rwa [F2, f3, v2']
  have pu : pU (b, x) = .tup [.int b, .int x] := rfl
  rw [pu] at s1'
  rwa [bI, F1, F3, f2, f4, v1, v3, g1', g3', iR, hv, ko hL, s1', e3, Option.map_none, Option.isSome_none, Bool.false_eq_true, if_true, if_false]
end
section
variable {c : Cl} {S : Sto} {s1 s2 st : St} {a : Int} {t t' : Att}
theorem oz {o : Option Bool} : decide (enS o = ("open" : Str)) = !o.isSome := by
 cases o with
 | none => exact decide_eq_true rfl
 | some d => cases d <;> (simp only [enS, ni, if_true, if_false, Bool.false_eq_true]; decide +kernel)
theorem qT {ep : Nat} {E L N P F : List (Key × U)} {X : Sto} (hE : E = fX st) (hk : (aE st).Nodup) : ∀ (p r : St) (r0 : Option U) (ys : List Int), st = p ++ r → ys.length + r.length ≤ 1000 →
  cH (fun S' => S'[S.length + 1]? = some (.fdc ep E)) (gNm 0) (aG (cOp fNe (cOp fIx (kJ c 0 (ak 1)) (ak 0)) (cC (.str "open")))) (ak 0) (S.length + (6 + X.length)) ((fX r).map fun q => kU q.1) [r0, some (.ref S.length)] ((S ++ (hd c S.length E L N P F ++ X)).set (S.length + 1) (.fdc ep E) ++ [.lst (ys.map U.int)])
   = some ((S ++ (hd c S.length E L N P F ++ X)).set (S.length + 1) (.fdc ep E) ++ [.lst ((ys ++ (r.filter fun p => p.2.en.isSome).map (·.1)).map U.int)])
 | p, [], r0, ys, e, hl => by
  have ok : ((S ++ (hd c S.length E L N P F ++ X)).set (S.length + 1) (.fdc ep E) ++ [O.lst (ys.map U.int)])[S.length + 1]? = some (.fdc ep E) := aF (by rw [gss, hd1]; rfl)
  simp only [List.filter_nil, List.map_nil, List.append_nil]
  exact nK ok
 | p, (b, t) :: r, r0, ys, e, hl => by
  have hk' : (aE (p ++ (b, t) :: r)).Nodup := by rw [← e]; exact hk
  have ok : ∀ ys : List Int, ((S ++ (hd c S.length E L N P F ++ X)).set (S.length + 1) (.fdc ep E) ++ [O.lst (ys.map U.int)])[S.length + 1]? = some (.fdc ep E) := fun ys => aF (by rw [gss, hd1]; rfl)
  have i0 : ((S ++ (hd c S.length E L N P F ++ X)).set (S.length + 1) (.fdc ep E) ++ [O.lst (ys.map U.int)])[S.length]? = some (.ins c [some (.ref (S.length + 1)), some (.ref (S.length + 2)), some (.ref (S.length + 3)), some (.ref (S.length + 4)), some (.ref (S.length + 5))]) := aF (by rw [gsn (by omega), hd0])
  have F0 : oa c 0 (.ref S.length, (S ++ (hd c S.length E L N P F ++ X)).set (S.length + 1) (.fdc ep E) ++ [O.lst (ys.map U.int)]) = some (.ref (S.length + 1), (S ++ (hd c S.length E L N P F ++ X)).set (S.length + 1) (.fdc ep E) ++ [O.lst (ys.map U.int)]) := fR i0 rfl
  have vE : aX E (.inl b) = some (.str (enS t.en)) := by rw [hE, e]; exact kS hk'
  have kk : kU (Sum.inl b) = .int b := rfl
  have tst0 : ∀ Z : Sto, oa c 0 (.ref S.length, Z) = some (.ref (S.length + 1), Z) → Z[S.length + 1]? = some (.fdc ep E) → (aG (cOp fNe (cOp fIx (kJ c 0 (ak 1)) (ak 0)) (cC (.str "open")))) [some (.int b), some (.ref S.length)] Z = some (t.en.isSome, Z) := fun Z z1 z2 => by
   have z : (!decide (enS t.en = ("open" : Str))) = t.en.isSome := by rw [oz, Bool.not_not]
   rwa [z1, z2, Fz, vE, z]
  have tst := tst0 _ F0 (ok ys)
  have ln : ((S ++ (hd c S.length E L N P F ++ X)).set (S.length + 1) (.fdc ep E)).length = S.length + (6 + X.length) := by rw [List.length_set, gW]
  simp only [fX, List.map_cons, kk]
  cases hs : t.en.isSome with
  | false =>
   have ih := qT (ep := ep) (L := L) (N := N) (P := P) (F := F) (X := X) hE hk (p ++ [(b, t)]) r (some (.int b)) ys (by rw [e]; simp) (by simp at hl ⊢; omega)
   refine (pT (ok ys) rfl (by rw [← hs]; exact tst)).trans ?_
   rw [List.filter_cons_of_neg (by simpa using hs)]
   exact ih
  | true =>
   have ih := qT (ep := ep) (L := L) (N := N) (P := P) (F := F) (X := X) hE hk (p ++ [(b, t)]) r (some (.int b)) (ys ++ [b]) (by rw [e]; simp) (by simp at hl ⊢; omega)
   refine (nJ (x := .int b) (ys := ys.map U.int) (ok ys) rfl (by rw [← hs]; exact tst) rfl (by rw [← ln, ga0]; rfl) (by unfold LIM; simp at hl ⊢; omega)).trans ?_
   rw [List.filter_cons_of_pos (by simpa using hs)]
   have e5 : ((S ++ (hd c S.length E L N P F ++ X)).set (S.length + 1) (.fdc ep E) ++ [O.lst (ys.map U.int)]).set (S.length + (6 + X.length)) (.lst (ys.map U.int ++ [U.int b])) = (S ++ (hd c S.length E L N P F ++ X)).set (S.length + 1) (.fdc ep E) ++ [.lst ((ys ++ [b]).map U.int)] := by
    rw [← ln, gs0, List.map_append]; rfl
   rw [e5]
   refine ih.trans ?_
   simp
theorem Hd (hk : (aE st).Nodup) (hl : st.length ≤ 900) (x1 : Option U) : kY (kJ c 0 (ak 0)) (gNm 0) (aG (cOp fNe (cOp fIx (kJ c 0 (ak 1)) (ak 0)) (cC (.str "open")))) (ak 0) 1 [0] [some (.ref S.length), x1] (crs c S st) = some (.ref (S.length + (6 + 4 * st.length)), crs c S st ++ [.lst ((oP st).bf.map U.int)]) := by
 have i0 : (crs c S st)[S.length]? = some (.ins c [some (.ref (S.length + 1)), some (.ref (S.length + 2)), some (.ref (S.length + 3)), some (.ref (S.length + 4)), some (.ref (S.length + 5))]) := hd0
 have F0 : oa c 0 (.ref S.length, crs c S st) = some (.ref (S.length + 1), crs c S st) := fR i0 rfl
 have ce : kJ c 0 (ak 0) [some (.ref S.length), x1] (crs c S st) = some (.ref (S.length + 1), crs c S st) := by rwa [F0]
 have ln : (crs c S st).length = S.length + (6 + 4 * st.length) := by unfold crs; rw [gW, gc]
 have f1 : (crs c S st)[S.length + 1]? = some (.dic (fX st)) := hd1
 unfold kY wL
 rw [ce, Option.bind_some]
 simp only [f1]
 refine CP fun ep => ?_
 have h := qT (c := c) (S := S) (ep := ep) (L := fQ S.length 1 st 0) (N := fQ S.length 2 st 0) (P := fQ S.length 3 st 0) (F := fQ S.length 0 st 0) (X := mO st) rfl hk [] st none [] rfl (by simp; omega)
 have e1 : qm 1 [0] [some (.ref S.length), x1] = [none, some (.ref S.length)] := rfl
 rw [gc] at h
 rw [e1, ln]
 simp only [List.map_nil, List.nil_append] at h
 have h' : cH (fun S' => S'[S.length + 1]? = some (.fdc ep (fX st))) (gNm 0) (aG (cOp fNe (cOp fIx (kJ c 0 (ak 1)) (ak 0)) (cC (.str "open")))) (ak 0) (S.length + (6 + 4 * st.length)) ((fX st).map fun q => kU q.1) [none, some (.ref S.length)] ((crs c S st).set (S.length + 1) (.fdc ep (fX st)) ++ [.lst []]) = some ((crs c S st).set (S.length + 1) (.fdc ep (fX st)) ++ [.lst ((oP st).bf.map U.int)]) := h
 rw [h', Option.bind_some]
 have g : ((crs c S st).set (S.length + 1) (.fdc ep (fX st)) ++ [O.lst ((oP st).bf.map U.int)])[S.length + 1]? = some (.fdc ep (fX st)) := aF (by rw [gss, f1]; rfl)
 simp only [g]
 have hlt : S.length + 1 < (crs c S st).length := by omega
 rw [List.set_append_left _ _ (by simpa using hlt), List.set_set]
 congr 3
 unfold crs
 rw [hs1]
noncomputable def hc (c : Cl) (S : Sto) (E L N P F : List (Key × U)) (X : Sto) : Sto := S ++ (hd c S.length E L N P F ++ X)
section
variable {E L N P F E' : List (Key × U)} {X Y : Sto}
theorem hc0 : (hc c S E L N P F X)[S.length]? = some (.ins c [some (.ref (S.length + 1)), some (.ref (S.length + 2)), some (.ref (S.length + 3)), some (.ref (S.length + 4)), some (.ref (S.length + 5))]) := hd0
theorem hc1 : (hc c S E L N P F X)[S.length + 1]? = some (.dic E) := hd1
theorem hc2 : (hc c S E L N P F X)[S.length + 2]? = some (.dic L) := hd2
theorem hc3 : (hc c S E L N P F X)[S.length + 3]? = some (.dic N) := hd3
theorem hc4 : (hc c S E L N P F X)[S.length + 4]? = some (.dic P) := hd4
theorem hc5 : (hc c S E L N P F X)[S.length + 5]? = some (.dic F) := hd5
theorem ht1 : (hc c S E L N P F X).set (S.length + 1) (.dic E') = hc c S E' L N P F X := hs1
theorem ht2 : (hc c S E L N P F X).set (S.length + 2) (.dic E') = hc c S E E' N P F X := hs2
theorem ht3 : (hc c S E L N P F X).set (S.length + 3) (.dic E') = hc c S E L E' P F X := hs3
theorem ht4 : (hc c S E L N P F X).set (S.length + 4) (.dic E') = hc c S E L N E' F X := hs4
theorem ht5 : (hc c S E L N P F X).set (S.length + 5) (.dic E') = hc c S E L N P E' X := hs5
theorem hcl : (hc c S E L N P F X).length = S.length + (6 + X.length) := gW
theorem hcA : hc c S E L N P F X ++ Y = hc c S E L N P F (X ++ Y) := IG
end
noncomputable def oO (c : Cl) : Fn := fnU 2 2 (dJ c)
theorem wj {B j : Nat} {p : Int × Att} : fQ B j (st ++ [p]) 0 = fQ B j st 0 ++ [(.inl p.1, .ref (B + (6 + (4 * st.length + j))))] := by
 rw [jR, fQ, Nat.zero_add]; rfl
theorem se {B j : Nat} : ∀ (s : St) (i : Nat), (fQ B j s i).length = s.length
 | [], _ => rfl
 | p :: s, i => by rw [fQ, List.length_cons, se s (i + 1), List.length_cons]
theorem wI (hk : (aE st).Nodup) (ha : a ∉ aE st) (hl : st.length ≤ 900) : oO c [.ref S.length, .int a] (crs c S st) = some (.non, crs c S (st ++ [(a, oP st)])) := by
 unfold oO
 rw [nj]
 have B0 := Hd (c := c) (S := S) hk hl (some (.int a))
 have pr : ∀ j, iE (fQ S.length j st 0) (.inl a) (.ref (S.length + (6 + (4 * st.length + j)))) = fQ S.length j (st ++ [(a, oP st)]) 0 := fun j => by
  rw [nY (by rw [mB]; exact j5 ha), wj]
 have pe : iE (fX st) (.inl a) (.str "open") = fX (st ++ [(a, oP st)]) := by
  rw [nY (by rw [gL]; exact j5 ha)]
  unfold fX; rw [List.map_append]; rfl
 have lR : ∀ j, (fQ S.length j st 0).length < LIM := fun j => by rw [se]; unfold LIM; omega
 have lE : (fX st).length < LIM := by unfold fX LIM; rw [List.length_map]; omega
 have l0 : (mO st).length = 4 * st.length := gc st
 have l1 : ∀ o : O, (mO st ++ [o]).length = 4 * st.length + 1 := fun o => by rw [List.length_append, l0]; rfl
 have l2 : ∀ o o' : O, (mO st ++ [o, o']).length = 4 * st.length + 2 := fun o o' => by rw [List.length_append, l0]; rfl
 have l3 : ∀ o o' o'' : O, (mO st ++ [o, o', o'']).length = 4 * st.length + 3 := fun o o' o'' => by rw [List.length_append, l0]; rfl
 have F0 : ∀ {E L N P F : List (Key × U)} {X : Sto}, oa c 0 (.ref S.length, hc c S E L N P F X) = some (.ref (S.length + 1), hc c S E L N P F X) := fR hc0 rfl
 have F1 : ∀ {E L N P F : List (Key × U)} {X : Sto}, oa c 1 (.ref S.length, hc c S E L N P F X) = some (.ref (S.length + 2), hc c S E L N P F X) := fR hc0 rfl
 have F2 : ∀ {E L N P F : List (Key × U)} {X : Sto}, oa c 2 (.ref S.length, hc c S E L N P F X) = some (.ref (S.length + 3), hc c S E L N P F X) := fR hc0 rfl
 have F3 : ∀ {E L N P F : List (Key × U)} {X : Sto}, oa c 3 (.ref S.length, hc c S E L N P F X) = some (.ref (S.length + 4), hc c S E L N P F X) := fR hc0 rfl
 have F4 : ∀ {E L N P F : List (Key × U)} {X : Sto}, oa c 4 (.ref S.length, hc c S E L N P F X) = some (.ref (S.length + 5), hc c S E L N P F X) := fR hc0 rfl
 have dT : ∀ (ρ : Rho) (Z : Sto), pY ρ Z = some (.ref Z.length, Z ++ [.dit []]) := fun _ _ => rfl
 have fin : crs c S (st ++ [(a, oP st)]) = hc c S (fX (st ++ [(a, oP st)])) (fQ S.length 1 (st ++ [(a, oP st)]) 0) (fQ S.length 2 (st ++ [(a, oP st)]) 0) (fQ S.length 3 (st ++ [(a, oP st)]) 0) (fQ S.length 0 (st ++ [(a, oP st)]) 0) (mO st ++ [.lst ((oP st).bf.map U.int), .lst [], .dit [], .dic []]) := by
  unfold crs hc; rw [hC]; rfl
 rw [fin]
 have p0 := pr 0
 have p1 := pr 1
 have p2 := pr 2
 have p3 := pr 3
 rw [Nat.add_zero] at p0
 have C0 : crs c S st = hc c S (fX st) (fQ S.length 1 st 0) (fQ S.length 2 st 0) (fQ S.length 3 st 0) (fQ S.length 0 st 0) (mO st) := rfl
 rw [C0] at B0 ⊢
 rwa [dJ, B0, hcA, F0, F1, F2, F3, F4, hc1, hc2, hc3, hc4, hc5, ht1, ht2, ht3, ht4, ht5, lR, lE, if_true, p0, p1, p2, p3, pe, dT, hcl, l1, l2, l3]
noncomputable def kZ (c : Cl) : Fn := fnU 3 2 (br (oO c) (wY c) c)
theorem cT : decide (("look" : Str) = "begin") = false := by decide +kernel
theorem dU : decide (("put" : Str) = "begin") = false := by decide +kernel
theorem jX : decide (("put" : Str) = "look") = false := by decide +kernel
theorem fe : decide (("done" : Str) = "begin") = false := by decide +kernel
theorem jn : decide (("done" : Str) = "look") = false := by decide +kernel
theorem fc : decide (("fall" : Str) = "begin") = false := by decide +kernel
theorem jm : decide (("fall" : Str) = "look") = false := by decide +kernel
noncomputable def Few (st : St) (m : Nat) : Prop := st.length ≤ m ∧ ∀ p ∈ st, p.2.lk.length ≤ m ∧ p.2.nd.length ≤ m ∧ p.2.ps.length ≤ m
noncomputable def mS (c : Cl) : Fn := fnU 1 1 (eD c)
theorem yN (hns : c.ns.length = 5) : tF c (mS c) [] S = some (.ref S.length, crs c S []) := by
 rw [Ck, hns]
 have h : mS c [.ref S.length] (S ++ [.ins c (List.replicate 5 none)]) = some (.non, crs c S []) := by
  unfold mS
  rw [oC]
  rwa [eD, List.replicate, List.length_append]
  rfl
 rw [h]
 rfl
theorem Bz {n w : Int} {e : Ev} {m : Nat} (hk : (aE st).Nodup) (ok : lj n w st e) (fw : Few st m) : Few (stp st e) (m + 1) := by
  obtain ⟨f1, f2⟩ := fw
  cases e with
  | beg a =>
    refine ⟨by simp [stp]; omega, fun p hp => ?_⟩
    rcases List.mem_append.mp hp with z | z
    · obtain ⟨q1, q2, q3⟩ := f2 p z; exact ⟨by omega, by omega, by omega⟩
    · simp at z; subst z; simp [oP]
  | _ =>
    refine ⟨by simp [stp, w9]; omega, fun p hp => ?_⟩
    simp only [stp, w9] at hp
    obtain ⟨q, hq, rfl⟩ := List.mem_map.mp hp
    obtain ⟨q1, q2, q3⟩ := f2 q hq
    split
    · simp only [Att.ev]
      first
      | (split
         · exact ⟨by omega, by omega, by omega⟩
         · refine ⟨by simp; omega, ?_, by dsimp only; omega⟩
           dsimp only [zM]
           split
           · omega
           · simp; omega)
      | exact ⟨by omega, by omega, Nat.le_trans (n9 ..) (by omega)⟩
      | exact ⟨by omega, by omega, by omega⟩
    · exact ⟨by omega, by omega, by omega⟩
end
noncomputable def zA (st : St) (a : Int) : List (Int × Int) := ((aX st a).map (·.lk)).getD []
noncomputable def rC (st : St) (a : Int) : List (Int × Int) := ((aX st a).map (·.ps)).getD []
noncomputable def sf (st : St) (a : Int) : Option Bool := (aX st a).bind (·.en)
section
variable {n w : Int} {st : St} {e : Ev} {a : Int}
theorem oZ (ok : lj n w st (.beg a)) : aX st a = none := b6.mpr ok.2.2
theorem fW (h : a ≠ e.at) : zA (stp st e) a = zA st a ∧ rC (stp st e) a = rC st a ∧ sf (stp st e) a = sf st a := by
 unfold zA rC sf
 rw [ef h]
 exact ⟨rfl, rfl, rfl⟩
theorem zy (ok : lj n w st (.beg a)) : zA (stp st (.beg a)) a = zA st a ∧ rC (stp st (.beg a)) a = rC st a ∧ sf (stp st (.beg a)) a = sf st a := by
 unfold zA rC sf
 rw [jo ok.2.2, oZ ok]
 exact ⟨rfl, rfl, rfl⟩
theorem qz {t : Att} (h : aX st e.at = some t) : zA (stp st e) e.at = (t.ev e).lk ∧ rC (stp st e) e.at = (t.ev e).ps ∧ sf (stp st e) e.at = (t.ev e).en := by
 unfold zA rC sf
 rw [iF h]
 exact ⟨rfl, rfl, rfl⟩
end
theorem rk {κ α : Type} [DecidableEq κ] {ps : List (κ × α)} {k b : κ} {v : α} : aX (iE ps k v) b = if b = k then some v else aX ps b := by
 by_cases m : k ∈ ps.map (·.1)
 ·unfold iE
  rw [if_pos (by obtain ⟨p, hp, e⟩ := List.mem_map.mp m; exact List.any_eq_true.mpr ⟨p, hp, by simp [e]⟩)]
  induction ps with
  | nil => simp at m
  | cons p r ih =>
   unfold aX at ih ⊢
   simp only [List.map_cons, List.find?_cons]
   by_cases e1 : p.1 = k
   ·simp only [e1, if_true]
    by_cases e2 : b = k
    ·subst e2; simp
    ·rw [decide_eq_false (Ne.symm e2), if_neg e2]
     by_cases m' : k ∈ r.map (·.1)
     ·have := ih m'
      rw [if_neg e2] at this
      exact this
     ·rw [List.map_congr_left (g := id) fun q hq => ?_, List.map_id]
      rw [if_neg fun z => m' (List.mem_map.mpr ⟨q, hq, z⟩)]; rfl
   ·simp only [e1, if_false]
    have m' : k ∈ r.map (·.1) := by
     rcases List.mem_cons.mp m with z | z
     ·exact absurd z.symm e1
     ·exact z
    by_cases e2 : p.1 = b
    ·rw [decide_eq_true e2]
     have : b ≠ k := fun z => e1 (e2.trans z)
     rw [if_neg this]
    ·rw [decide_eq_false e2]
     exact ih m'
 ·rw [nY m, jD]
  by_cases e2 : b = k
  ·subst e2; rw [b6.mpr m, if_pos rfl]; simp [aX]
  ·rw [if_neg e2]
   cases aX ps b with
   | some x => rfl
   | none => simp [aX, Ne.symm e2]
theorem ue {neg : Bool} {b : Int} {us : List Int} {S : Sto} : kIn neg (.int b) S (some (.lst (us.map U.int))) = some (.bl (if neg then !decide (b ∈ us) else decide (b ∈ us)), S) := by
 rw [FD ⟨rfl, by simp [i7]⟩]
 have e : inU (.int b) (us.map U.int) = decide (b ∈ us) := by
  unfold inU
  rw [List.any_map, Bool.eq_iff_iff, List.any_eq_true, decide_eq_true_eq]
  constructor
  ·rintro ⟨x, hx, hh⟩
   simp [eqF] at hh
   subst hh; exact hx
  ·intro hx
   exact ⟨b, hx, by simp [eqF]⟩
 rw [e]
theorem iW {α : Type} {ok : Sto → Prop} {gg : CG} {ct : CT} {ce : CE} {S : Sto} {f : α → U} {p : α → Bool} {v : α → U} {Rel : Rho → Prop} (hok : ∀ ys G, ok (S ++ (.lst ys :: G))) :
  ∀ (xs : List α) (ys : List U) (G : Sto) (ρ : Rho), Rel ρ → ys.length + xs.length ≤ 9999 →
  (∀ x ∈ xs, ∀ ys G ρ, Rel ρ → ∃ ρ0 G1, Rel ρ0 ∧ gg (f x) ρ (S ++ (.lst ys :: G)) = some (ρ0, S ++ (.lst ys :: G)) ∧ ct ρ0 (S ++ (.lst ys :: G)) = some (p x, S ++ (.lst ys :: (G ++ G1))) ∧
   (p x = true → ∃ G2, ce ρ0 (S ++ (.lst ys :: (G ++ G1))) = some (v x, S ++ (.lst ys :: (G ++ G1 ++ G2))))) →
  ∃ G', cH ok gg ct ce S.length (xs.map f) ρ (S ++ (.lst ys :: G)) = some (S ++ (.lst (ys ++ (xs.filter p).map v) :: (G ++ G')))
 | [], ys, G, ρ, _, _, _ => ⟨[], by simp only [List.map_nil, List.filter_nil, List.append_nil]; exact nK (hok ys G)⟩
 | x :: xs, ys, G, ρ, hr, hl, hb => by
  rw [List.length_cons] at hl
  obtain ⟨ρ0, G1, r0, h1, h2, h3⟩ := hb x List.mem_cons_self ys G ρ hr
  have hb' := fun x (hx : x ∈ xs) => hb x (List.mem_cons_of_mem _ hx)
  cases hp : p x with
  | false =>
   rw [hp] at h2
   obtain ⟨G', h⟩ := iW hok xs ys (G ++ G1) ρ0 r0 (by omega) hb'
   refine ⟨G1 ++ G', ?_⟩
   rw [List.map_cons, List.filter_cons_of_neg (by simp [hp])]
   refine (pT (hok ys G) h1 h2).trans ?_
   rw [h, List.append_assoc]
  | true =>
   rw [hp] at h2
   obtain ⟨G2, h4⟩ := h3 hp
   obtain ⟨G', h⟩ := iW hok xs (ys ++ [v x]) (G ++ G1 ++ G2) ρ0 r0 (by simp; omega) hb'
   refine ⟨G1 ++ (G2 ++ G'), ?_⟩
   rw [List.map_cons, List.filter_cons_of_pos hp]
   refine (nJ (hok ys G) h1 h2 h4 (by rw [ga0]; rfl) (by unfold LIM; omega)).trans ?_
   rw [gs0]
   simp only [List.set_cons_zero]
   rw [h]
   simp only [List.map_cons, List.append_assoc, List.cons_append, List.nil_append]
theorem oG {α : Type} {ok : Sto → Prop} {gg : CG} {ce : CE} {S : Sto} {f : α → U} {v : α → U} {Rel : Rho → Prop} (hok : ∀ ys G, ok (S ++ (.lst ys :: G))) :
  ∀ (xs : List α) (ys : List U) (G : Sto) (ρ : Rho), Rel ρ → ys.length + xs.length ≤ 9999 →
  (∀ x ∈ xs, ∀ ys G ρ, Rel ρ → ∃ ρ0 G1, Rel ρ0 ∧ gg (f x) ρ (S ++ (.lst ys :: G)) = some (ρ0, S ++ (.lst ys :: G)) ∧ ce ρ0 (S ++ (.lst ys :: G)) = some (v x, S ++ (.lst ys :: (G ++ G1)))) →
  ∃ G', iC ok gg ce S.length (xs.map f) ρ (S ++ (.lst ys :: G)) = some (S ++ (.lst (ys ++ xs.map v) :: (G ++ G')))
 | [], ys, G, ρ, _, _, _ => ⟨[], by simp only [List.map_nil, List.append_nil]; exact sh (hok ys G)⟩
 | x :: xs, ys, G, ρ, hr, hl, hb => by
  rw [List.length_cons] at hl
  obtain ⟨ρ0, G1, r0, h1, h2⟩ := hb x List.mem_cons_self ys G ρ hr
  obtain ⟨G', h⟩ := oG hok xs (ys ++ [v x]) (G ++ G1) ρ0 r0 (by simp; omega) (fun x hx => hb x (List.mem_cons_of_mem _ hx))
  refine ⟨G1 ++ G', ?_⟩
  rw [List.map_cons]
  refine (pR (hok ys G) h1 h2 (by rw [ga0]; rfl) (by unfold LIM; omega)).trans ?_
  rw [gs0]
  simp only [List.set_cons_zero]
  rw [h]
  simp only [List.map_cons, List.append_assoc, List.cons_append, List.nil_append]
noncomputable def yS : Ev → U
 | .beg a => .int a
 | _ => .non
noncomputable def og : Ev → Bool
 | .beg _ => true
 | _ => false
theorem sA : ∀ (es : List Ev) (st : St), (aE (i6 st es)).map U.int = (aE st).map U.int ++ (es.filter og).map yS
 | [], st => by simp [i6]
 | e :: es, st => by
  have ih := sA es (stp st e)
  show (aE (i6 (stp st e) es)).map U.int = _
  rw [ih, fA, List.filter_cons]
  cases e <;> simp [og, yS]
theorem fS {ca cb : CS} {ρ ρ' : Rho} {S S' : Sto} (h : ca ρ S = some (.nx, ρ', S')) : aZ ca cb ρ S = cb ρ' S' := by rw [ua, h, Option.bind_some, yZ]
inductive Gd (S : Sto) : U → Prop
 | non : Gd S .non
 | bl (b : Bool) : Gd S (.bl b)
 | int (i : Int) : Gd S (.int i)
 | str (x : Str) : Gd S (.str x)
 | lst {l : Nat} {us : List U} (h : S[l]? = some (.lst us)) : Gd S (.ref l)
 | tup {us : List U} (h : ∀ u ∈ us, Gd S u) : Gd S (.tup us)
theorem Gd.app {S : Sto} {u : U} (h : Gd S u) (X : Sto) : Gd (S ++ X) u := by
 induction h with
 | non => exact .non
 | bl b => exact .bl b
 | int i => exact .int i
 | str x => exact .str x
 | lst h => exact .lst (aF h)
 | tup _ ih => exact .tup ih
theorem Gd.mem {S : Sto} {us : List U} (h : Gd S (.tup us)) : ∀ u ∈ us, Gd S u := by
 cases h with
 | tup h => exact h
noncomputable def cA (lo hi : Int) : U → Bool
 | .int i => decide (lo ≤ i) && decide (i ≤ hi)
 | _ => false
section
variable {n w lo hi : Int} {S : Sto} {u : U} {us r : List U} {t : Nat}
noncomputable def oM : Fn := fnU 1 1 gM
noncomputable def isI : U → Bool
 | .int _ => true
 | _ => false
theorem uC (h : Gd S u) : oM [u] S = some (.bl (isI u), S) := by
 unfold oM
 rw [tJ]
 cases h with
 | non => rfl
 | bl b => rfl
 | int i => rfl
 | str x => rfl
 | tup _ => rfl
 | lst h => rwa [gM, tyU, h, o7, isI]
noncomputable def oK : Fn := fnU 3 3 (cI oM)
theorem sm {ρ : Rho} {c1 c2 c3 : CE} {i : Int} (h1 : c1 ρ S = some (.int lo, S)) (h2 : c2 ρ S = some (.int i, S)) (h3 : c3 ρ S = some (.int hi, S)) : nL fLe fLe c1 c2 c3 ρ S = some (.bl (decide (lo ≤ i) && decide (i ≤ hi)), S) := by
 unfold nL
 rw [h1, Option.bind_some]
 dsimp only
 rw [h2, Option.bind_some]
 dsimp only
 rw [Fx, Option.bind_some]
 cases hd : decide (lo ≤ i) with
 | true =>
  dsimp only
  rw [h3, Option.bind_some, Fx, Bool.true_and]
 | false => rfl
theorem lD (h : Gd S u) : oK [u, .int lo, .int hi] S = some (.bl (cA lo hi u), S) := by
 have e := uC h
 unfold oK
 rw [qL]
 cases u with
 | int i =>
  have hc := sm (S := S) (lo := lo) (hi := hi) (i := i) (ρ := [some (.int i), some (.int lo), some (.int hi)]) (c1 := ak 1) (c2 := ak 0) (c3 := ak 2) rfl rfl rfl
  simp only [isI] at e
  rwa [cI, e, hc, cA]
 | non => simp only [isI] at e; rwa [cI, e, cA]
 | bl b => simp only [isI] at e; rwa [cI, e, cA]
 | str x => simp only [isI] at e; rwa [cI, e, cA]
 | tup x => simp only [isI] at e; rwa [cI, e, cA]
 | ref x => simp only [isI] at e; rwa [cI, e, cA]
 | kl x => cases h
theorem vN {i : Nat} {ρ : Rho} (hv : ρ[i]? = some (some u)) (h : Gd S u) (hn : ∀ us, u ≠ .tup us) : aG (pX .tuple (ak i)) ρ S = some (false, S) := by
 have e : ak i ρ S = some (u, S) := by unfold ak; rw [hv]
 rw [i8, ud, e, Option.bind_some, oV]
 cases h with
 | tup _ => exact absurd rfl (hn _)
 | lst h => simp only [tyU, h, Option.bind_some, o7, qe]
 | _ => rfl
theorem rP {i : Nat} {ρ : Rho} (hv : ρ[i]? = some (some (.tup us))) : aG (pX .tuple (ak i)) ρ S = some (true, S) := by
 have e : ak i ρ S = some (.tup us, S) := by unfold ak; rw [hv]
 rw [i8, ud, e, Option.bind_some, oV]
 rfl
end
section
variable {α : Type} {n w lo hi : Int} {S : Sto} {u x a b : U} {us r : List U} {t : Nat} {rec : U → Bool} {f : α → U} {q : List α → Prop} {s : List α → Int}
theorem n4 (h : cA lo hi x = true) : ∃ i, x = .int i ∧ lo ≤ i ∧ i ≤ hi := by
 cases x with
 | int i =>
  have h' : (decide (lo ≤ i) && decide (i ≤ hi)) = true := h
  rw [Bool.and_eq_true, decide_eq_true_iff, decide_eq_true_iff] at h'
  exact ⟨i, rfl, h'⟩
 | _ => cases h
theorem fV {i : Int} (h1 : lo ≤ i) (h2 : i ≤ hi) : cA lo hi (.int i) = true := by
 show (decide (lo ≤ i) && decide (i ≤ hi)) = true
 rw [decide_eq_true h1, decide_eq_true h2]; rfl
end
section
variable {S0 : Sto} {ρf : Option U → Rho} {ce : CE} {cr : CA} {u : U} {m k : Nat}
noncomputable def EvG (S0 : Sto) (ρf : Option U → Rho) (ce : CE) : Prop := ∀ q X, ∃ u G, ce (ρf q) (S0 ++ X) = some (u, S0 ++ (X ++ G)) ∧ Gd (S0 ++ (X ++ G)) u
noncomputable def EX (S0 : Sto) (ρf : Option U → Rho) (cr : CA) (m : Nat) : Prop := ∀ q X, ∃ us G, cr (ρf q) (S0 ++ X) = some (us, S0 ++ (X ++ G)) ∧ us.length = m ∧ ∀ u ∈ us, Gd (S0 ++ (X ++ G)) u
theorem qK (h : ∀ q X, ce (ρf q) (S0 ++ X) = some (u, S0 ++ X)) (g : Gd S0 u) : EvG S0 ρf ce := fun q X => ⟨u, [], by rw [List.append_nil]; exact h q X, g.app _⟩
theorem jj (h : ∀ q X, ∃ i, ce (ρf q) (S0 ++ X) = some (.int i, S0 ++ X)) : EvG S0 ρf ce := fun q X => by
 obtain ⟨i, e⟩ := h q X
 exact ⟨.int i, [], by rw [List.append_nil]; exact e, .int i⟩
theorem jg {x : Str} : EvG S0 ρf (cC (.str x)) := qK (fun _ _ => rfl) (.str x)
theorem nh {x : Bool} : EvG S0 ρf (cC (.bl x)) := qK (fun _ _ => rfl) (.bl x)
theorem jh : EvG S0 ρf (cC .non) := qK (fun _ _ => rfl) .non
theorem BD : EX S0 ρf aq 0 := fun q X => ⟨[], [], by rw [List.append_nil]; rfl, rfl, fun u hu => by cases hu⟩
theorem yD (h : EvG S0 ρf ce) (t : EX S0 ρf cr m) : EX S0 ρf (ab ce cr) (m + 1) := fun q X => by
 obtain ⟨u, G, e, g⟩ := h q X
 obtain ⟨us, G', e', l', g'⟩ := t q (X ++ G)
 refine ⟨u :: us, G ++ G', ?_, by rw [List.length_cons, l'], fun v hv => ?_⟩
 ·rw [eF, e, Option.bind_some, dI, e', Option.bind_some, jl, List.append_assoc]
 ·rw [List.append_assoc] at g'
  rcases List.mem_cons.mp hv with rfl | hv
  ·have := g.app G'
   rw [List.append_assoc, List.append_assoc] at this
   exact this
  ·exact g' v hv
noncomputable def EvA (S0 : Sto) (ρf : Option U → Rho) (cr : CA) : Prop := ∃ m, EX S0 ρf cr m
theorem gw : EvA S0 ρf aq := ⟨_, BD⟩
theorem eZ (h : EvG S0 ρf ce) (t : EvA S0 ρf cr) : EvA S0 ρf (ab ce cr) := t.elim fun _ t => ⟨_, yD h t⟩
theorem jf (h : EvA S0 ρf cr) : EvG S0 ρf (aN cr) := fun q X => by
 obtain ⟨_, h⟩ := h
 obtain ⟨us, G, e, _, g⟩ := h q X
 exact ⟨.tup us, G, by rw [sE, e, Option.bind_some, oR], .tup g⟩
theorem ji (h : EvA S0 ρf cr) : EvG S0 ρf (bE cr) := fun q X => by
 obtain ⟨_, h⟩ := h
 obtain ⟨us, G, e, _, g⟩ := h q X
 refine ⟨.ref (S0 ++ (X ++ G)).length, G ++ [.lst us], by rw [nN, e, Option.bind_some, qY]; simp only [List.append_assoc], .lst (us := us) ?_⟩
 have e2 : S0 ++ (X ++ (G ++ [O.lst us])) = S0 ++ (X ++ G) ++ [O.lst us] := by simp only [List.append_assoc]
 rw [e2, ga0]; rfl
end
theorem Gd.pen {ns : List Int} {a c a' c' : Int} {T : Sto} {u : U} (h : Gd (scr ns :: pen a c :: T) u) : Gd (scr ns :: pen a' c' :: T) u := by
 induction h with
 | non => exact .non
 | bl b => exact .bl b
 | int i => exact .int i
 | str x => exact .str x
 | tup _ ih => exact .tup ih
 | lst h =>
  rename_i l us
  match l, h with
  | 0, h => exact .lst h
  | 1, h => exact .lst (us := [.ref 0, .int a', .int c']) rfl
  | l + 2, h => exact .lst h
theorem Ge {us : List U} {S : Sto} (h : us ≠ []) : fSl (.tup us) none (some (-1)) S = some (.tup (us.take (us.length - 1)), S) := by
 have hp : 0 < us.length := List.length_pos_iff.mpr h
 have e : HT.sIx us.length us.length (some (-1)) = us.length - 1 := by
  show (if (-1 : Int) < 0 then ((-1 : Int) + us.length).toNat else min ((-1 : Int)).toNat us.length) = us.length - 1
  rw [if_pos (by decide)]; omega
 simp only [fSl, HT.sIx_none, e, sg, List.drop_zero, Nat.sub_zero]
 rw [if_neg (by omega)]
theorem tD {c : Cl} {S : Sto} {st : St} {n w : Int} {e : Ev} {m : Nat} (hk : (aE st).Nodup) (ok : lj n w st e) (fw : Few st m) (hm : m ≤ 9000) (h9 : st.length ≤ 900) : kZ c [.ref S.length, e.u] (crs c S st) = some (.non, crs c S (stp st e)) := by
 unfold kZ
 rw [mE]
 have i0 : ∀ st : St, (crs c S st)[S.length]? = some (.ins c [some (.ref (S.length + 1)), some (.ref (S.length + 2)), some (.ref (S.length + 3)), some (.ref (S.length + 4)), some (.ref (S.length + 5))]) := fun _ => hd0
 cases e with
 | beg a =>
  have h := wI (c := c) (S := S) hk ok.2.2 h9
  rwa [br, Ev.u, gC, h, i0, stp]
 | look a b x =>
  obtain ⟨_, t, h1, h2, _⟩ := ok
  obtain ⟨s1, s2, rfl⟩ := gD h1
  obtain ⟨q1, q2, q3⟩ := fw.2 _ (List.mem_append_right s1 List.mem_cons_self)
  dsimp only at q1 q2
  have h := Bf (c := c) (S := S) (b := b) (x := x) hk (by omega) (by omega)
  rwa [br, Ev.u, cT, gC, h, i0, stp, Ev.at, jE hk]
 | put a b x =>
  obtain ⟨_, t, h1, h2⟩ := ok
  obtain ⟨s1, s2, rfl⟩ := gD h1
  obtain ⟨q1, q2, q3⟩ := fw.2 _ (List.mem_append_right s1 List.mem_cons_self)
  dsimp only at q3
  have F3 : oa c 3 (.ref S.length, crs c S (s1 ++ (a, t) :: s2)) = some (.ref (S.length + 4), crs c S (s1 ++ (a, t) :: s2)) := fR hd0 rfl
  have f4 : (crs c S (s1 ++ (a, t) :: s2))[S.length + 4]? = some (.dic (fQ S.length 3 (s1 ++ (a, t) :: s2) 0)) := hd4
  have v3 := iQ (S := S) (j := 3) hk
  have g3 : (crs c S (s1 ++ (a, t) :: s2))[S.length + (6 + (4 * s1.length + 3))]? = some (.dic (jV t.ps)) := mI (by omega)
  have lp : (jV t.ps).length < LIM := by unfold jV LIM; rw [List.length_map]; omega
  have s3 := qO (c := c) (S := S) (s1 := s1) (s2 := s2) (a := a) (t := t) (t' := t.ev (.put a b x)) (j := 3) (o := .dic (jV (iE t.ps b x))) (by omega) rfl rfl
  rwa [br, Ev.u, dU, jX, gC, i0, F3, f4, v3, g3, lp, if_true, rB, s3, stp, Ev.at, jE hk]
 | fin d a =>
  obtain ⟨t, h1, h2⟩ := ok
  obtain ⟨s1, s2, rfl⟩ := gD h1
  have F0 : oa c 0 (.ref S.length, crs c S (s1 ++ (a, t) :: s2)) = some (.ref (S.length + 1), crs c S (s1 ++ (a, t) :: s2)) := fR hd0 rfl
  have f1 : (crs c S (s1 ++ (a, t) :: s2))[S.length + 1]? = some (.dic (fX (s1 ++ (a, t) :: s2))) := hd1
  have lE : (fX (s1 ++ (a, t) :: s2)).length < LIM := by have := fw.1; unfold fX LIM; rw [List.length_map]; omega
  have ce := BH (c := c) (S := S) (d := d) hk
  cases d with
  | true =>
   simp only [ni, if_true] at ce
   rwa [br, Ev.u, ni, if_true, fe, jn, j2, i0, F0, f1, lE, ce, stp, Ev.at, Att.ev, jE hk]
  | false =>
   simp only [ni, Bool.false_eq_true, if_false] at ce
   rwa [br, Ev.u, ni, Bool.false_eq_true, if_true, if_false, fc, jm, jZ, i0, F0, f1, lE, ce, stp, Ev.at, Att.ev, jE hk]
inductive Fs (S : Sto) : U → Prop
 | str (x : Str) (k : PyData.strOk x = true) : Fs S (.str x)
 | tup (x : Str) (k : PyData.strOk x = true) : Fs S (.tup [.str x])
 | lst {l : Nat} {x : Str} (k : PyData.strOk x = true) (h : S[l]? = some (.lst [.str x])) : Fs S (.ref l)
theorem Fs.app {S : Sto} {u : U} (h : Fs S u) (X : Sto) : Fs (S ++ X) u := by
 cases h with
 | str x k => exact .str x k
 | tup x k => exact .tup x k
 | lst k h => exact .lst k (aF h)
structure GdE (S : Sto) (u : U) : Prop where
 gd : Gd S u
 fs : ∀ x y r, u = .tup (x :: y :: r) → Fs S x
theorem GdE.app {S : Sto} {u : U} (h : GdE S u) (X : Sto) : GdE (S ++ X) u := ⟨h.gd.app X, fun x y r e => (h.fs x y r e).app X⟩
noncomputable def inW (ws : List Str) : U → Bool
 | .str s => ws.any fun z => decide (z = s)
 | _ => false
theorem wo {S : Sto} : ∀ ws : List Str, DtL S (ws.map U.str) (ws.map PyData.str)
 | [] => .nil
 | w :: ws => .cons (.str w) (wo ws)
theorem rK : ∀ ws : List Str, (∀ z ∈ ws, PyData.strOk z = true) → PyData.canLayAll0 (ws.map PyData.str) = true
 | [], _ => by simp [PyData.canLayAll0]
 | w :: ws, h => by simp [PyData.canLayAll0, PyData.canLay0, rK ws fun z hz => h z (List.mem_cons_of_mem _ hz), h w List.mem_cons_self]
theorem zE {S : Sto} {u : U} {ws : List Str} (hw : ∀ z ∈ ws, PyData.strOk z = true) (h : Fs S u) : zG false u (.tup (ws.map U.str)) S = some (.bl (inW ws u), S) := by
 have key : ∀ {d : PyData}, Dt S u d → qX d → ((ws.map PyData.str).any fun z => z.eqv d) = inW ws u → zG false u (.tup (ws.map U.str)) S = some (.bl (inW ws u), S) := fun {d} hd hl e => by
  have := BB (x := u) (y := .tup (ws.map U.str)) (S := S) (b := (ws.map PyData.str).any fun z => z.eqv d) false ⟨d, ws.map PyData.str, hd, .inr (.tup (wo ws)), hl, rK ws hw, rfl⟩
  rw [e] at this
  exact this
 have no : ∀ (d : PyData), (∀ z, (PyData.str z).eqv d = false) → ((ws.map PyData.str).any fun z => z.eqv d) = false := fun d hz => by
  rw [List.any_map]
  exact List.any_eq_false.mpr fun z _ => by simp [hz]
 cases h with
 | str x k =>
  refine key (.str x) ⟨by simp [PyData.canLay0, k], by simp [PyData.depth]⟩ ?_
  rw [List.any_map]
  show ws.any _ = ws.any _
  congr 1
 | tup x k => exact key (.tup (.cons (.str x) .nil)) ⟨by simp [PyData.canLay0, PyData.canLayAll0, k], by simp [PyData.depth, PyData.depthAll]⟩ (no _ fun z => by simp [PyData.eqv])
 | lst k h' => exact key (.lst h' (.cons (.str _) .nil)) ⟨by simp [PyData.canLay0, PyData.canLayAll0, k], by simp [PyData.depth, PyData.depthAll]⟩ (no _ fun z => by simp [PyData.eqv])
noncomputable def wsA : List Str := ["begin", "done", "fall"]
noncomputable def wsB : List Str := ["look", "put"]
theorem okA : ∀ z ∈ wsA, PyData.strOk z = true := by
 have : wsA.all PyData.strOk = true := by decide +kernel
 exact List.all_eq_true.mp this
theorem okB : ∀ z ∈ wsB, PyData.strOk z = true := by
 have : wsB.all PyData.strOk = true := by decide +kernel
 exact List.all_eq_true.mp this
noncomputable def tZ (n w : Int) : List U → Bool
 | [x2, x3] => cA 0 (n - 1) x2 && cA 0 (w - 1) x3
 | _ => false
noncomputable def mx (n w : Int) : U → Bool
 | .tup (x0 :: x1 :: r) => cA 0 199 x1 && (if inW wsA x0 then decide (r.length = 0) else inW wsB x0 && tZ n w r)
 | _ => false
section
variable {n w : Int} {S : Sto} {u : U}
noncomputable def iK : Fn := fnU 2 2 (bC oK)
theorem sY (h : GdE S u) : iK [.tup [.int n, .int w], u] S = some (.bl (mx n w u), S) := by
 unfold iK
 rw [tK]
 by_cases hu : ∃ us, u = .tup us
 ·obtain ⟨us, rfl⟩ := hu
  have e1 := rP (i := 1) (S := S) (us := us) (ρ := [some (.tup [.int n, .int w]), some (.tup us)]) rfl
  match us, h with
  | [], h => rwa [bC, e1, mx, List.length_nil]; rfl
  | [x], h => rwa [bC, e1, mx, List.length_cons, List.length_nil]; rfl
  | x0 :: x1 :: r, h =>
   have gm := h.gd.mem
   have hw := lD (lo := 0) (hi := 199) (gm x1 (List.mem_cons_of_mem _ List.mem_cons_self))
   have hf := h.fs x0 x1 r rfl
   have iA := zE okA hf
   have iB := zE okB hf
   have d2 : decide (((x0 :: x1 :: r).length : Int) < 2) = false := decide_eq_false (by simp; omega)
   have a0 : atI (x0 :: x1 :: r) 0 = some x0 := cS (j := 0) rfl
   have a1 : atI (x0 :: x1 :: r) 1 = some x1 := cS (j := 1) rfl
   have dA : decide (((x0 :: x1 :: r).length : Int) = 2) = decide (r.length = 0) := by
    have e : (((x0 :: x1 :: r).length : Int) = 2) ↔ r.length = 0 := by simp only [List.length_cons]; omega
    simp only [e]
   simp only [wsA, wsB, List.map_cons, List.map_nil] at iA iB
   obtain ⟨us, hus⟩ : ∃ us, us = x0 :: x1 :: r := ⟨_, rfl⟩
   rw [← hus] at e1 d2 a0 a1 dA ⊢
   cases hp : cA 0 199 x1 with
   | false =>
    rw [hp] at hw
    have ev : mx n w (.tup us) = false := by rw [hus]; show (cA 0 199 x1 && _) = false; rw [hp]; rfl
    rw [ev]
    rwa [bC, e1, d2, a1, hw]
   | true =>
    rw [hp] at hw
    cases hA : inW wsA x0 with
    | true =>
     rw [show inW ["begin", "done", "fall"] x0 = true from hA] at iA
     have ev : mx n w (.tup us) = decide (r.length = 0) := by rw [hus]; show (cA 0 199 x1 && (if inW wsA x0 = true then _ else _)) = _; rw [hp, hA]; rfl
     rw [ev]
     rwa [bC, e1, d2, a0, a1, hw, iA, dA]
    | false =>
     rw [show inW ["begin", "done", "fall"] x0 = false from hA] at iA
     have ev : mx n w (.tup us) = (inW wsB x0 && tZ n w r) := by rw [hus]; show (cA 0 199 x1 && (if inW wsA x0 = true then _ else _)) = _; rw [hp, hA]; rfl
     rw [ev]
     cases hB : inW wsB x0 with
     | false =>
      rw [show inW ["look", "put"] x0 = false from hB] at iB
      rwa [bC, e1, d2, a0, a1, hw, iA, iB, Bool.false_and]
     | true =>
      rw [show inW ["look", "put"] x0 = true from hB] at iB
      match r, hus with
      | [x2, x3], hus =>
       have w2 := lD (lo := 0) (hi := n - 1) (gm x2 (by simp))
       have w3 := lD (lo := 0) (hi := w - 1) (gm x3 (by simp))
       have d4 : decide ((us.length : Int) = 4) = true := decide_eq_true (by rw [hus]; rfl)
       have a2 : atI us 2 = some x2 := by rw [hus]; exact cS (j := 2) rfl
       have a3 : atI us 3 = some x3 := by rw [hus]; exact cS (j := 3) rfl
       have eB : tZ n w [x2, x3] = (cA 0 (n - 1) x2 && cA 0 (w - 1) x3) := rfl
       rw [eB]
       cases h2 : cA 0 (n - 1) x2 with
       | false =>
        rw [h2] at w2
        rwa [bC, e1, d2, d4, a0, a1, a2, hw, iA, iB, w2, Bool.true_and, Bool.false_and]
       | true =>
        rw [h2] at w2
        rwa [bC, e1, d2, d4, a0, a1, a2, a3, hw, iA, iB, w2, w3, Bool.true_and]
      | [], hus =>
       have d4 : decide ((us.length : Int) = 4) = false := decide_eq_false (by rw [hus]; simp)
       have eB : tZ n w [] = false := rfl
       rwa [bC, e1, d2, d4, a0, a1, hw, iA, iB, eB, Bool.and_false]
      | [x2], hus =>
       have d4 : decide ((us.length : Int) = 4) = false := decide_eq_false (by rw [hus]; simp)
       have eB : tZ n w [x2] = false := rfl
       rwa [bC, e1, d2, d4, a0, a1, hw, iA, iB, eB, Bool.and_false]
      | x2 :: x3 :: x4 :: r, hus =>
       have d4 : decide ((us.length : Int) = 4) = false := decide_eq_false (by rw [hus]; simp; omega)
       have eB : tZ n w (x2 :: x3 :: x4 :: r) = false := rfl
       rwa [bC, e1, d2, d4, a0, a1, hw, iA, iB, eB, Bool.and_false]
 ·have e1 := vN (i := 1) (S := S) (u := u) (ρ := [some (.tup [.int n, .int w]), some u]) rfl h.gd fun us z => hu ⟨us, z⟩
  have er : mx n w u = false := by
   cases u with
   | tup us => exact absurd ⟨us, rfl⟩ hu
   | _ => rfl
  rw [er]
  rwa [bC, e1]
end
section
variable {n w lo hi : Int} {S : Sto} {u : U}
noncomputable def wZ : Fn := fnU 3 3 bL
theorem qy (h : Gd S u) : wZ [u, .int lo, .int hi] S = some (.bl (cA lo hi u), S) := by
 unfold wZ
 rw [kQ]
 cases u with
 | int i =>
  have hc := sm (S := S) (lo := lo) (hi := hi) (i := i) (ρ := [some (.int i), some (.int lo), some (.int hi)]) (c1 := ak 1) (c2 := ak 0) (c3 := ak 2) rfl rfl rfl
  have t1 : tyU (.int i) S = some .int := rfl
  have s1 : o7 .int .int = true := rfl
  have s2 : o7 .int .bool = false := rfl
  rwa [bL, t1, s1, s2, hc, cA]
 | bl b =>
  have t1 : tyU (.bl b) S = some .bool := rfl
  have s1 : o7 .bool .int = true := rfl
  have s2 : o7 .bool .bool = true := rfl
  rwa [bL, t1, s1, s2, cA]
 | non => rfl
 | str x => rfl
 | tup x => rfl
 | ref l =>
  cases h with
  | lst h => rwa [bL, tyU, h, o7, cA]
 | kl x => cases h
theorem inF {neg : Bool} {s : Str} {ws : List Str} : fIn neg (.str s) (.tup (ws.map U.str)) S = some (.bl (if neg then !inW ws (.str s) else inW ws (.str s)), S) := by
 have h1 : (ws.map U.str).all i7 = true := by rw [List.all_map]; exact List.all_eq_true.mpr fun _ _ => rfl
 have h2 : inU (.str s) (ws.map U.str) = inW ws (.str s) := by
  unfold inU inW
  rw [List.any_map]
  congr 1
 simp only [fIn]
 rw [if_pos ⟨rfl, h1⟩, h2]
noncomputable def fb : Fn := fnU 2 2 (aD wZ)
theorem Bq {i : Nat} {ρ : Rho} {us : List U} {x : U} (hv : ρ[i]? = some (some (.tup us))) (ha : atI us 0 = some x) (h : Gd S x) (hn : ∀ s, x ≠ .str s) : aG (pX .str (cOp fIx (ak i) (cC (.int 0)))) ρ S = some (false, S) := by
 have e : ak i ρ S = some (.tup us, S) := by unfold ak; rw [hv]
 have e2 : cOp fIx (ak i) (cC (.int 0)) ρ S = some (x, S) := by rw [mY, e, Option.bind_some, iZ, x_c, Option.bind_some, iY, xc, ha]; rfl
 rw [i8, ud, e2, Option.bind_some, oV]
 cases h with
 | str s => exact absurd rfl (hn s)
 | lst h => simp only [tyU, h, Option.bind_some, o7, qe]
 | _ => rfl
theorem vD (h : Gd S u) : fb [.tup [.int n, .int w], u] S = some (.bl (mx n w u), S) := by
 unfold fb
 rw [mC]
 by_cases hu : ∃ us, u = .tup us
 ·obtain ⟨us, rfl⟩ := hu
  have e1 := rP (i := 1) (S := S) (us := us) (ρ := [some (.tup [.int n, .int w]), some (.tup us)]) rfl
  have gm := h.mem
  have q0 : ∀ us : List U, En (.tup us) (.tup []) S = some (.bl (decide (us.length = 0)), S) := fun _ => rfl
  match us, e1, gm with
  | [], e1, gm =>
   have q1 : En (.tup []) (.tup []) S = some (.bl true, S) := rfl
   rwa [aD, e1, q1, mx]
  | x0 :: r0, e1, gm =>
   have a0 : atI (x0 :: r0) 0 = some x0 := cS (j := 0) rfl
   have q1 : En (.tup (x0 :: r0)) (.tup []) S = some (.bl false, S) := rfl
   by_cases hs : ∃ s, x0 = .str s
   ·obtain ⟨s, rfl⟩ := hs
    have t1 : tyU (.str s) S = some .str := rfl
    have s1 : o7 .str .str = true := rfl
    have iA : fIn false (.str s) (.tup [.str "begin", .str "done", .str "fall"]) S = some (.bl (inW wsA (.str s)), S) := inF (neg := false) (ws := wsA)
    have iB : fIn true (.str s) (.tup [.str "look", .str "put"]) S = some (.bl (!inW wsB (.str s)), S) := inF (neg := true) (ws := wsB)
    match r0, e1, gm, a0, q1 with
    | [], e1, gm, a0, q1 =>
     have d2 : decide ((([U.str s] : List U).length : Int) = 2) = false := rfl
     have d4 : decide ((([U.str s] : List U).length : Int) = 4) = false := rfl
     obtain ⟨us, hus⟩ : ∃ us, us = [U.str s] := ⟨_, rfl⟩
     have ev : mx n w (.tup us) = false := by rw [hus]; rfl
     rw [← hus] at e1 a0 q1 d2 d4 ⊢
     rw [ev]
     cases hA : inW wsA (.str s) with
     | true =>
      rw [hA] at iA
      rwa [aD, e1, q1, a0, t1, s1, iA, d2]
     | false =>
      rw [hA] at iA
      cases hB : inW wsB (.str s) with
      | true => rw [hB, Bool.not_true] at iB; rwa [aD, e1, q1, a0, t1, s1, iA, iB, d4, Bool.not_false]
      | false => rw [hB, Bool.not_false] at iB; rwa [aD, e1, q1, a0, t1, s1, iA, iB]
    | x1 :: r, e1, gm, a0, q1 =>
     have hw := qy (lo := 0) (hi := 199) (gm x1 (List.mem_cons_of_mem _ List.mem_cons_self))
     have a1 : atI (.str s :: x1 :: r) 1 = some x1 := cS (j := 1) rfl
     have dA : decide (((U.str s :: x1 :: r).length : Int) = 2) = decide (r.length = 0) := by
      have e : (((U.str s :: x1 :: r).length : Int) = 2) ↔ r.length = 0 := by simp only [List.length_cons]; omega
      simp only [e]
     obtain ⟨us, hus⟩ : ∃ us, us = U.str s :: x1 :: r := ⟨_, rfl⟩
     rw [← hus] at e1 a0 a1 q1 dA ⊢
     cases hA : inW wsA (.str s) with
     | true =>
      rw [hA] at iA
      have ev : mx n w (.tup us) = (decide (r.length = 0) && cA 0 199 x1) := by rw [hus, Bool.and_comm]; show (cA 0 199 x1 && (if inW wsA (.str s) = true then _ else _)) = _; rw [hA]; rfl
      rw [ev]
      cases hr : decide (r.length = 0) with
      | false =>
       rw [hr] at dA
       rwa [aD, e1, q1, a0, t1, s1, iA, dA, Bool.false_and]
      | true =>
       rw [hr] at dA
       rwa [aD, e1, q1, a0, a1, t1, s1, iA, dA, hw, Bool.true_and]
     | false =>
      rw [hA] at iA
      have ev : mx n w (.tup us) = (cA 0 199 x1 && (inW wsB (.str s) && tZ n w r)) := by rw [hus]; show (cA 0 199 x1 && (if inW wsA (.str s) = true then _ else _)) = _; rw [hA]; rfl
      rw [ev]
      cases hB : inW wsB (.str s) with
      | false =>
       rw [hB, Bool.not_false] at iB
       rwa [aD, e1, q1, a0, t1, s1, iA, iB, Bool.false_and, Bool.and_false]
      | true =>
       rw [hB, Bool.not_true] at iB
       match r, hus with
       | [x2, x3], hus =>
        have w2 := qy (lo := 0) (hi := n - 1) (gm x2 (by simp))
        have w3 := qy (lo := 0) (hi := w - 1) (gm x3 (by simp))
        have d4 : decide ((us.length : Int) = 4) = true := decide_eq_true (by rw [hus]; rfl)
        have a2 : atI us 2 = some x2 := by rw [hus]; exact cS (j := 2) rfl
        have a3 : atI us 3 = some x3 := by rw [hus]; exact cS (j := 3) rfl
        have eB : tZ n w [x2, x3] = (cA 0 (n - 1) x2 && cA 0 (w - 1) x3) := rfl
        rw [eB]
        cases hp : cA 0 199 x1 with
        | false =>
         rw [hp] at hw
         rwa [aD, e1, q1, a0, a1, t1, s1, iA, iB, d4, hw, Bool.not_true, Bool.false_and]
        | true =>
         rw [hp] at hw
         cases h2 : cA 0 (n - 1) x2 with
         | false =>
          rw [h2] at w2
          rwa [aD, e1, q1, a0, a1, a2, t1, s1, iA, iB, d4, hw, w2, Bool.not_true, Bool.true_and, Bool.false_and]
         | true =>
          rw [h2] at w2
          rwa [aD, e1, q1, a0, a1, a2, a3, t1, s1, iA, iB, d4, hw, w2, w3, Bool.not_true, Bool.true_and]
       | [], hus =>
        have d4 : decide ((us.length : Int) = 4) = false := decide_eq_false (by rw [hus]; simp)
        have eB : tZ n w [] = false := rfl
        rwa [aD, e1, q1, a0, t1, s1, iA, iB, d4, eB, Bool.not_false, Bool.and_false]
       | [x2], hus =>
        have d4 : decide ((us.length : Int) = 4) = false := decide_eq_false (by rw [hus]; simp)
        have eB : tZ n w [x2] = false := rfl
        rwa [aD, e1, q1, a0, t1, s1, iA, iB, d4, eB, Bool.not_false, Bool.and_false]
       | x2 :: x3 :: x4 :: r, hus =>
        have d4 : decide ((us.length : Int) = 4) = false := decide_eq_false (by rw [hus]; simp; omega)
        have eB : tZ n w (x2 :: x3 :: x4 :: r) = false := rfl
        rwa [aD, e1, q1, a0, t1, s1, iA, iB, d4, eB, Bool.not_false, Bool.and_false]
   ·have e2 := Bq (i := 1) (ρ := [some (.tup [.int n, .int w]), some (.tup (x0 :: r0))]) (us := x0 :: r0) rfl a0 (gm x0 List.mem_cons_self) fun s z => hs ⟨s, z⟩
    have ev : mx n w (.tup (x0 :: r0)) = false := by
     have iz : ∀ ws, inW ws x0 = false := fun ws => by
      cases x0 with
      | str s => exact absurd ⟨s, rfl⟩ hs
      | _ => rfl
     cases r0 with
     | nil => rfl
     | cons x1 r => show (cA 0 199 x1 && (if inW wsA x0 = true then _ else inW wsB x0 && _)) = false; rw [iz, iz]; simp
    obtain ⟨us, hus⟩ : ∃ us, us = x0 :: r0 := ⟨_, rfl⟩
    rw [← hus] at e1 e2 q1 ev ⊢
    rw [ev]
    rwa [aD, e1, e2, q1]
 ·have e1 := vN (i := 1) (S := S) (u := u) (ρ := [some (.tup [.int n, .int w]), some u]) rfl h fun us z => hu ⟨us, z⟩
  have er : mx n w u = false := by
   cases u with
   | tup us => exact absurd ⟨us, rfl⟩ hu
   | _ => rfl
  rw [er]
  rwa [aD, e1]
noncomputable def EvB (n w : Int) : Ev → Prop
 | .beg a => 0 ≤ a ∧ a < 200
 | .look a b x => (0 ≤ a ∧ a < 200) ∧ 0 ≤ b ∧ b < n ∧ 0 ≤ x ∧ x < w
 | .put a b x => (0 ≤ a ∧ a < 200) ∧ 0 ≤ b ∧ b < n ∧ 0 ≤ x ∧ x < w
 | .fin _ a => 0 ≤ a ∧ a < 200
theorem wc (h : mx n w u = true) : ∃ e : Ev, u = e.u ∧ EvB n w e := by
 match u, h with
 | .tup (x0 :: x1 :: r), h =>
  have h' : (cA 0 199 x1 && (if inW wsA x0 then decide (r.length = 0) else inW wsB x0 && tZ n w r)) = true := h
  rw [Bool.and_eq_true] at h'
  obtain ⟨h1, h2⟩ := h'
  obtain ⟨a, rfl, a0, a1⟩ := n4 h1
  cases x0 with
  | str s =>
   split at h2
   ·rename_i hA
    have hr : r = [] := List.length_eq_zero_iff.mp (of_decide_eq_true h2)
    subst hr
    have hA' : (decide (Str.ofString "begin" = s) || (decide (Str.ofString "done" = s) || (decide (Str.ofString "fall" = s) || false))) = true := hA
    simp only [Bool.or_eq_true, decide_eq_true_eq, Bool.or_false] at hA'
    rcases hA' with rfl | rfl | rfl
    ·exact ⟨.beg a, rfl, a0, by omega⟩
    ·exact ⟨.fin true a, rfl, a0, by omega⟩
    ·exact ⟨.fin false a, rfl, a0, by omega⟩
   ·rw [Bool.and_eq_true] at h2
    obtain ⟨hB, hE⟩ := h2
    match r, hE with
    | [x2, x3], hE =>
     have hE' : (cA 0 (n - 1) x2 && cA 0 (w - 1) x3) = true := hE
     rw [Bool.and_eq_true] at hE'
     obtain ⟨b, rfl, b0, b1⟩ := n4 hE'.1
     obtain ⟨x, rfl, c0, c1⟩ := n4 hE'.2
     have hB' : (decide (Str.ofString "look" = s) || (decide (Str.ofString "put" = s) || false)) = true := hB
     simp only [Bool.or_eq_true, decide_eq_true_eq, Bool.or_false] at hB'
     rcases hB' with rfl | rfl
     ·exact ⟨.look a b x, rfl, ⟨a0, by omega⟩, b0, by omega, c0, by omega⟩
     ·exact ⟨.put a b x, rfl, ⟨a0, by omega⟩, b0, by omega, c0, by omega⟩
  | _ => simp [inW] at h2
end
open Classical in
noncomputable def okS (n w : Int) (st : St) (e : Ev) : Bool := decide (lj n w st e)
section
variable {n w : Int} {S : Sto} {u : U} {c : Cl} {st : St} {e : Ev}
theorem pB (h : lj n w st e) : okS n w st e = true := by unfold okS; exact @decide_eq_true _ (Classical.propDecidable _) h
theorem lP (h : ¬ lj n w st e) : okS n w st e = false := by unfold okS; exact @decide_eq_false _ (Classical.propDecidable _) h
noncomputable def lh (c : Cl) : Fn := fnU 3 2 (aI c)
theorem gS {a : Int} (h : aX st a = none) : aX (fX st) (.inl a) = none := b6.mpr (by rw [gL]; exact j5 (b6.mp h))
theorem wV (hk : (aE st).Nodup) (eb : EvB n w e) : lh c [.ref S.length, e.u] (crs c S st) = some (.bl (okS n w st e), crs c S st) := by
 unfold lh
 rw [mF]
 have F0 : oa c 0 (.ref S.length, crs c S st) = some (.ref (S.length + 1), crs c S st) := fR hd0 rfl
 have f1 : (crs c S st)[S.length + 1]? = some (.dic (fX st)) := hd1
 have i0 : (crs c S st)[S.length]? = some (.ins c [some (.ref (S.length + 1)), some (.ref (S.length + 2)), some (.ref (S.length + 3)), some (.ref (S.length + 4)), some (.ref (S.length + 5))]) := hd0
 have get1 : ∀ (x1 : U) (a : Int), sv (kJ c 0 (ak 0)) (ak 2) [some (.ref S.length), some x1, some (.int a)] (crs c S st) = some ((aX (fX st) (.inl a)).getD .non, crs c S st) := fun x1 a => by
  have h0 : kJ c 0 (ak 0) [some (.ref S.length), some x1, some (.int a)] (crs c S st) = some (.ref (S.length + 1), crs c S st) := by rw [Cq]; exact F0
  unfold sv
  rw [h0, Option.bind_some]
  have hv : ak 2 [some (.ref S.length), some x1, some (.int a)] (crs c S st) = some (.int a, crs c S st) := rfl
  simp only [f1, hv, Option.bind_some]
  rfl
 have ne0 : ∀ x : Str, fNe .non (.str x) (crs c S st) = some (.bl true, crs c S st) := fun _ => rfl
 cases e with
 | beg a =>
  have hv : (aX (fX st) (.inl a)).isSome = decide (a ∈ aE st) := by
   by_cases h : a ∈ aE st
   ·rw [decide_eq_true h]
    cases hz : aX (fX st) (.inl a) with
    | some _ => rfl
    | none =>
     have := b6.mp hz
     rw [gL] at this
     exact absurd (List.mem_map.mpr ⟨a, h, rfl⟩) this
   ·rw [decide_eq_false h, b6.mpr (by rw [gL]; exact j5 h)]; rfl
  have er : okS n w st (.beg a) = !decide (a ∈ aE st) := by
   by_cases h : a ∈ aE st
   ·rw [decide_eq_true h, lP (e := .beg a) (fun z : 0 ≤ a ∧ a < 200 ∧ a ∉ aE st => z.2.2 h)]; rfl
   ·rw [decide_eq_false h, pB (e := .beg a) (show 0 ≤ a ∧ a < 200 ∧ a ∉ aE st from ⟨eb.1, eb.2, h⟩)]; rfl
  rw [er, ← hv]
  rwa [aI, Ev.u, gC, F0, f1, if_true]
 | look a b x =>
  cases hv : aX st a with
  | none =>
   have er : okS n w st (.look a b x) = false := lP fun z => by obtain ⟨_, t, h1, _⟩ := z; rw [hv] at h1; cases h1
   have g := get1 (Ev.look a b x).u a
   rw [gS hv, Option.getD_none] at g
   simp only [Ev.u] at g
   rw [er]
   rwa [aI, Ev.u, cT, g, ne0]
  | some t =>
   obtain ⟨s1, s2, rfl⟩ := gD hv
   have g := get1 (Ev.look a b x).u a
   rw [kS hk, Option.getD_some] at g
   simp only [Ev.u] at g
   have eo := oz (o := t.en)
   cases ht : t.en with
   | some d =>
    rw [ht] at eo g
    have er : okS n w (s1 ++ (a, t) :: s2) (.look a b x) = false := lP fun z => by obtain ⟨_, t', h1, h2, _⟩ := z; rw [hv] at h1; cases h1; rw [ht] at h2; cases h2
    rw [er]
    rwa [aI, Ev.u, cT, g, eo, Option.isSome_some, Bool.not_true, Bool.not_false]
   | none =>
    rw [ht] at eo g
    have F3 : oa c 3 (.ref S.length, crs c S (s1 ++ (a, t) :: s2)) = some (.ref (S.length + 4), crs c S (s1 ++ (a, t) :: s2)) := fR hd0 rfl
    have f4 : (crs c S (s1 ++ (a, t) :: s2))[S.length + 4]? = some (.dic (fQ S.length 3 (s1 ++ (a, t) :: s2) 0)) := hd4
    have v3 := iQ (S := S) (j := 3) hk
    have g3 : (crs c S (s1 ++ (a, t) :: s2))[S.length + (6 + (4 * s1.length + 3))]? = some (.dic (jV t.ps)) := mI (by omega)
    have vp := iR b t.ps
    have er : okS n w (s1 ++ (a, t) :: s2) (.look a b x) = decide ((aX t.ps b).getD x = x) := by
     by_cases h : (aX t.ps b).getD x = x
     ·rw [decide_eq_true h]
      refine pB ⟨eb.2, t, hv, ht, fun y hy => ?_⟩
      rw [hy] at h; exact h
     ·rw [decide_eq_false h]
      refine lP fun z => ?_
      obtain ⟨_, t', h1, _, h3⟩ := z
      rw [hv] at h1; cases h1
      cases hb : aX t.ps b with
      | none => rw [hb] at h; exact h rfl
      | some y => rw [hb] at h; exact h (h3 y hb)
    have vg : (aX (jV t.ps) (.inl b)).getD (.int x) = .int ((aX t.ps b).getD x) := by rw [vp]; cases aX t.ps b <;> rfl
    rw [er]
    rwa [aI, Ev.u, cT, gC, g, eo, Option.isSome_none, Bool.not_true, Bool.not_false, F3, f4, v3, g3, vg]
 | put a b x =>
  cases hv : aX st a with
  | none =>
   have er : okS n w st (.put a b x) = false := lP fun z => by obtain ⟨_, t, h1, _⟩ := z; rw [hv] at h1; cases h1
   have g := get1 (Ev.put a b x).u a
   rw [gS hv, Option.getD_none] at g
   simp only [Ev.u] at g
   rw [er]
   rwa [aI, Ev.u, dU, g, ne0]
  | some t =>
   obtain ⟨s1, s2, rfl⟩ := gD hv
   have g := get1 (Ev.put a b x).u a
   rw [kS hk, Option.getD_some] at g
   simp only [Ev.u] at g
   have eo := oz (o := t.en)
   cases ht : t.en with
   | some d =>
    rw [ht] at eo g
    have er : okS n w (s1 ++ (a, t) :: s2) (.put a b x) = false := lP fun z => by obtain ⟨_, t', h1, h2⟩ := z; rw [hv] at h1; cases h1; rw [ht] at h2; cases h2
    rw [er]
    rwa [aI, Ev.u, dU, g, eo, Option.isSome_some, Bool.not_true, Bool.not_false]
   | none =>
    rw [ht] at eo g
    have er : okS n w (s1 ++ (a, t) :: s2) (.put a b x) = true := pB ⟨eb.2, t, hv, ht⟩
    rw [er]
    rwa [aI, Ev.u, dU, jX, g, eo, Option.isSome_none, Bool.not_true, Bool.not_false]
 | fin d a =>
  have wb : decide (ni d = Str.ofString "begin") = false := by cases d; exact fc; exact fe
  have wl : decide (ni d = Str.ofString "look") = false := by cases d; exact jm; exact jn
  cases hv : aX st a with
  | none =>
   have er : okS n w st (.fin d a) = false := lP fun z => by obtain ⟨t, h1, _⟩ := z; rw [hv] at h1; cases h1
   have g := get1 (Ev.fin d a).u a
   rw [gS hv, Option.getD_none] at g
   simp only [Ev.u] at g
   rw [er]
   rwa [aI, Ev.u, wb, g, ne0]
  | some t =>
   obtain ⟨s1, s2, rfl⟩ := gD hv
   have g := get1 (Ev.fin d a).u a
   rw [kS hk, Option.getD_some] at g
   simp only [Ev.u] at g
   have eo := oz (o := t.en)
   cases ht : t.en with
   | some d' =>
    rw [ht] at eo g
    have er : okS n w (s1 ++ (a, t) :: s2) (.fin d a) = false := lP fun z => by obtain ⟨t', h1, h2⟩ := z; rw [hv] at h1; cases h1; rw [ht] at h2; cases h2
    rw [er]
    rwa [aI, Ev.u, wb, g, eo, Option.isSome_some, Bool.not_true, Bool.not_false]
   | none =>
    rw [ht] at eo g
    have er : okS n w (s1 ++ (a, t) :: s2) (.fin d a) = true := pB ⟨t, hv, ht⟩
    rw [er]
    rwa [aI, Ev.u, wb, wl, g, eo, Option.isSome_none, Bool.not_true, Bool.not_false]
open Classical in
noncomputable def nxE (n w : Int) (u : U) : Option Ev := if h : mx n w u = true then some (wc h).choose else none
theorem vt (h : mx n w u = false) : nxE n w u = none := by
 unfold nxE
 rw [dif_neg (by rw [h]; exact Bool.false_ne_true)]
theorem qu (h : mx n w u = true) : ∃ e, nxE n w u = some e ∧ u = e.u ∧ EvB n w e := by
 unfold nxE
 rw [dif_pos h]
 exact ⟨_, rfl, (wc h).choose_spec⟩
noncomputable def gk (n w : Int) : St → List U → Bool
 | _, [] => true
 | st, u :: us => match nxE n w u with
  | none => false
  | some e => okS n w st e && gk n w (stp st e) us
structure StI (st : St) (m : Nat) : Prop where
 nd : (aE st).Nodup
 kb : ∀ k ∈ aE st, 0 ≤ k ∧ k < ((200 : Nat) : Int)
 fw : Few st m
theorem StI.len {m : Nat} (h : StI st m) : st.length ≤ 200 := by
 have := few 200 (aE st) h.nd h.kb
 unfold aE at this
 rw [List.length_map] at this
 exact this
theorem StI.stp {m : Nat} (h : StI st m) (eb : EvB n w e) (ok : lj n w st e) : StI (stp st e) (m + 1) := by
 refine ⟨lS h.nd ok, fun k hk => ?_, Bz h.nd ok h.fw⟩
 rw [fA] at hk
 cases e with
 | beg a =>
  rcases List.mem_append.mp hk with hk | hk
  ·exact h.kb k hk
  ·rw [List.mem_singleton.mp hk]; exact ⟨eb.1, by have := eb.2; omega⟩
 | _ => exact h.kb k hk
noncomputable def jy (c : Cl) : Fn := fnU 4 2 (fZ iK (lh c) (kZ c) (mS c) c)
theorem nG {wx : Option U} {ok : Sto → Prop} (hok : ∀ st, ok (crs c S st)) : ∀ (us : List U) (st : St) (m : Nat) (r3 : Option U), StI st m → m + us.length ≤ 9000 → (∀ u ∈ us, GdE S u) →
  ∃ ρ st', fP ok (gNm 3) (gP iK (lh c) (kZ c) (mS c) c) us [some (.tup [.int n, .int w]), wx, some (.ref S.length), r3] (crs c S st) = some (if gk n w st us then .nx else .rt (.bl false), ρ, crs c S st')
 | [], st, m, r3, _, _, _ => ⟨_, st, gU (hok st)⟩
 | u :: us, st, m, r3, hi, hm, hg => by
  rw [List.length_cons] at hm
  have i0 : (crs c S st)[S.length]? = some (.ins c [some (.ref (S.length + 1)), some (.ref (S.length + 2)), some (.ref (S.length + 3)), some (.ref (S.length + 4)), some (.ref (S.length + 5))]) := hd0
  have h1 : iK [.tup [.int n, .int w], u] (crs c S st) = some (.bl (mx n w u), crs c S st) := sY (by unfold crs; exact (hg u List.mem_cons_self).app _)
  cases he : mx n w u with
  | false =>
   rw [he] at h1
   have gb : gk n w st (u :: us) = false := by simp only [gk, vt he]
   rw [gb]
   refine ⟨[some (.tup [.int n, .int w]), wx, some (.ref S.length), some u], st, n6 (hok st) rfl ?_⟩
   rwa [gP, h1]
  | true =>
   rw [he] at h1
   obtain ⟨e, hn, rfl, eb⟩ := qu he
   have h2 := wV (c := c) (S := S) hi.nd eb
   have gb : gk n w st (e.u :: us) = (okS n w st e && gk n w (OQ.stp st e) us) := by simp only [gk, hn]
   obtain ⟨x, hx⟩ : ∃ x, x = e.u := ⟨_, rfl⟩
   rw [gb]
   by_cases hk : lj n w st e
   ·rw [pB hk, Bool.true_and]
    rw [pB hk] at h2
    have h3 := tD (c := c) (S := S) hi.nd hk hi.fw (by omega) (by have := hi.len; omega)
    obtain ⟨ρ, st', ih⟩ := nG (wx := wx) hok us (OQ.stp st e) (m + 1) (some e.u) (hi.stp eb hk) (by omega) fun v hv => hg v (List.mem_cons_of_mem _ hv)
    refine ⟨ρ, st', (jt (hok st) rfl ?_).trans ih⟩
    rw [← hx] at h1 h2 h3 ⊢
    rwa [gP, i0, h1, h2, h3]
   ·rw [lP hk] at h2
    rw [lP hk, Bool.false_and]
    refine ⟨[some (.tup [.int n, .int w]), wx, some (.ref S.length), some e.u], st, n6 (hok st) rfl ?_⟩
    rw [← hx] at h1 h2 ⊢
    rwa [gP, i0, h1, h2]
noncomputable def Th (S : Sto) (u : U) : Prop := (∃ l us, u = .ref l ∧ S[l]? = some (.lst us) ∧ ∀ v ∈ us, GdE S v) ∨ (∀ l, u ≠ .ref l) ∧ Gd S u
theorem Th.app {S : Sto} {u : U} (h : Th S u) (X : Sto) : Th (S ++ X) u := by
 rcases h with ⟨l, us, e, h, g⟩ | ⟨h, g⟩
 ·exact .inl ⟨l, us, e, aF h, fun v hv => (g v hv).app X⟩
 ·exact .inr ⟨h, g.app X⟩
open Classical in
noncomputable def tX (n w : Int) (S : Sto) (u : U) : Bool := decide (∃ l us, u = .ref l ∧ S[l]? = some (.lst us) ∧ us.length ≤ 2000 ∧ gk n w [] us = true)
theorem jN {l : Nat} {us : List U} (h : S[l]? = some (.lst us)) (hl : us.length ≤ 2000) : tX n w S (.ref l) = gk n w [] us := by
 unfold tX
 cases hg : gk n w [] us with
 | true => exact @decide_eq_true _ (Classical.propDecidable _) ⟨l, us, rfl, h, hl, hg⟩
 | false =>
  refine @decide_eq_false _ (Classical.propDecidable _) fun z => ?_
  obtain ⟨l', us', e, h', _, g⟩ := z
  cases e
  rw [h] at h'; cases h'
  rw [hg] at g; cases g
theorem jO {l : Nat} {us : List U} (h : S[l]? = some (.lst us)) (hl : ¬ us.length ≤ 2000) : tX n w S (.ref l) = false := by
 unfold tX
 refine @decide_eq_false _ (Classical.propDecidable _) fun z => ?_
 obtain ⟨l', us', e, h', k, _⟩ := z
 cases e
 rw [h] at h'; cases h'
 exact hl k
theorem n8 (h : ∀ l, u ≠ .ref l) : tX n w S u = false := by
 unfold tX
 refine @decide_eq_false _ (Classical.propDecidable _) fun z => ?_
 obtain ⟨l', us', e, _⟩ := z
 exact h l' e
theorem yp (h : Th S u) (X : Sto) : tX n w (S ++ X) u = tX n w S u := by
 rcases h with ⟨l, us, rfl, h, g⟩ | ⟨h, g⟩
 ·by_cases hl : us.length ≤ 2000
  ·rw [jN h hl, jN (aF h) hl]
  ·rw [jO h hl, jO (aF h) hl]
 ·rw [n8 h, n8 h]
theorem vO {i : Nat} {ρ : Rho} (hv : ρ[i]? = some (some u)) (h : Gd S u) (hn : ∀ l, u ≠ .ref l) : aG (pX .list (ak i)) ρ S = some (false, S) := by
 have e : ak i ρ S = some (u, S) := by unfold ak; rw [hv]
 rw [i8, ud, e, Option.bind_some, oV]
 cases h with
 | lst _ => exact absurd rfl (hn _)
 | _ => rfl
theorem rO (hns : c.ns.length = 5) (h : Th S u) : ∃ G, jy c [.tup [.int n, .int w], u] S = some (.bl (tX n w S u), S ++ G) := by
 unfold jy
 rw [yJ]
 rcases h with ⟨l, us, rfl, h, g⟩ | ⟨h, g⟩
 ·have ty : tyU (.ref l) S = some .list := by simp only [tyU, h]
  have sl : o7 .list .list = true := rfl
  by_cases hl : us.length ≤ 2000
  ·have d1 : decide ((2000 : Int) < (us.length : Int)) = false := decide_eq_false (by omega)
   have hok : ∀ st, (crs c S st)[l]? = some (.lst us) := fun st => by unfold crs; exact aF h
   obtain ⟨ρ, st', hl'⟩ := nG (n := n) (w := w) (c := c) (S := S) (wx := some (.ref l)) (ok := fun S => S[l]? = some (.lst us)) hok us [] 0 none ⟨by simp [aE], fun k hk => (by cases hk), ⟨by simp, by simp⟩⟩ (by omega) g
   refine ⟨hd c S.length (fX st') (fQ S.length 1 st' 0) (fQ S.length 2 st' 0) (fQ S.length 3 st' 0) (fQ S.length 0 st' 0) ++ mO st', ?_⟩
   show _ = some (U.bl (tX n w S (.ref l)), crs c S st')
   have hci := yN (S := S) hns
   have h0 := hok []
   rw [jN h hl]
   cases hg : gk n w [] us with
   | true =>
    rw [hg] at hl'
    rwa [fZ, ty, sl, h, d1, hci, mW, iTp, h0, hl', if_true]
   | false =>
    rw [hg] at hl'
    rwa [fZ, ty, sl, h, d1, hci, mW, iTp, h0, hl', Bool.false_eq_true, if_false]
  ·have d1 : decide ((2000 : Int) < (us.length : Int)) = true := decide_eq_true (by omega)
   refine ⟨[], ?_⟩
   rw [jO h hl, List.append_nil]
   rwa [fZ, ty, sl, h, d1]
 ·have e1 := vO (i := 1) (S := S) (u := u) (ρ := [some (.tup [.int n, .int w]), some u, none, none]) rfl g h
  refine ⟨[], ?_⟩
  rw [n8 h, List.append_nil]
  rwa [fZ, e1]
end
structure LwI (st : St) (m : Nat) (ov : List Int) (kus : List (List Key × U)) : Prop where
 si : StI st m
 oe : ∀ a, a ∈ ov ↔ (sf st a).isSome = true
 pv : ∀ a b : Int, aX kus [.inl a, .inl b] = (aX (rC st a) b).map U.int
 lo : ov.length ≤ m
 lk : kus.length ≤ m
section
variable {n w : Int} {S : Sto} {u : U} {st : St} {e : Ev} {m : Nat} {ov : List Int} {kus : List (List Key × U)}
theorem LwI.en_key (h : LwI st m ov kus) {a : Int} (ha : a ∈ ov) : ∃ t d, aX st a = some t ∧ t.en = some d := by
 have := (h.oe a).mp ha
 unfold sf at this
 cases hv : aX st a with
 | none => rw [hv] at this; cases this
 | some t =>
  rw [hv] at this
  cases ht : t.en with
  | none => rw [Option.bind_some, ht] at this; cases this
  | some d => exact ⟨t, d, rfl, ht⟩
theorem LwI.open_key (h : LwI st m ov kus) {a : Int} (ha : a ∉ ov) (hk : a ∈ aE st) : ∃ t, aX st a = some t ∧ t.en = none := by
 cases hv : aX st a with
 | none => exact absurd hk (b6.mp hv)
 | some t =>
  cases ht : t.en with
  | none => exact ⟨t, rfl, ht⟩
  | some d => exact absurd ((h.oe a).mpr (by unfold sf; rw [hv, Option.bind_some, ht]; rfl)) ha
noncomputable def dS (S : Sto) (bg ov : List Int) (kus : List (List Key × U)) : Sto := S ++ [.lst (bg.map U.int), .lst (ov.map U.int), .dit kus]
theorem l3a {bg : List Int} : (dS S bg ov kus)[S.length]? = some (.lst (bg.map U.int)) := by unfold dS; rw [ga0]; rfl
theorem l3b {bg : List Int} : (dS S bg ov kus)[S.length + 1]? = some (.lst (ov.map U.int)) := by unfold dS; rw [ga]; rfl
theorem l3c {bg : List Int} : (dS S bg ov kus)[S.length + 2]? = some (.dit kus) := by unfold dS; rw [ga]; rfl
theorem s3a {bg bg' : List Int} : (dS S bg ov kus).set S.length (.lst (bg'.map U.int)) = dS S bg' ov kus := by unfold dS; rw [gs0]; rfl
theorem s3b {bg ov' : List Int} : (dS S bg ov kus).set (S.length + 1) (.lst (ov'.map U.int)) = dS S bg ov' kus := by unfold dS; rw [gs]; rfl
theorem s3c {bg : List Int} {kus' : List (List Key × U)} : (dS S bg ov kus).set (S.length + 2) (.dit kus') = dS S bg ov kus' := by unfold dS; rw [gs]; rfl
noncomputable def rhL (n w : Int) (l : U) (k : Nat) (x : Option U) : Rho := [some (.tup [.int n, .int w]), some l, some (.ref k), some (.ref (k + 1)), some (.ref (k + 2)), x]
theorem ID {l : U} {s : Str} {a b x : Int} {bg : List Int} (hk : kus.length < LIM) : oH (ak 4) (ak 5) (some (cC (.int 1))) (some (cC (.int 3))) (cOp fIx (ak 5) (cC (.int 3))) (rhL n w l S.length (some (.tup [.str s, .int a, .int b, .int x]))) (dS S bg ov kus) = some (.nx, rhL n w l S.length (some (.tup [.str s, .int a, .int b, .int x])), dS S bg ov (iE kus [.inl a, .inl b] (.int x))) := by
 have h1 : cOp fIx (ak 5) (cC (.int 3)) (rhL n w l S.length (some (.tup [.str s, .int a, .int b, .int x]))) (dS S bg ov kus) = some (.int x, dS S bg ov kus) := rfl
 have h2 : ak 4 (rhL n w l S.length (some (.tup [.str s, .int a, .int b, .int x]))) (dS S bg ov kus) = some (.ref (S.length + 2), dS S bg ov kus) := rfl
 have h3 : ak 5 (rhL n w l S.length (some (.tup [.str s, .int a, .int b, .int x]))) (dS S bg ov kus) = some (.tup [.str s, .int a, .int b, .int x], dS S bg ov kus) := rfl
 have h4 : ∀ i : Int, gZ (some (cC (.int i))) (rhL n w l S.length (some (.tup [.str s, .int a, .int b, .int x]))) (dS S bg ov kus) = some (some i, dS S bg ov kus) := fun _ => rfl
 have hw : ¬ (HT.sIx ([U.str s, .int a, .int b, .int x] : List U).length 0 (some 1) = 0 ∧ HT.sIx ([U.str s, .int a, .int b, .int x] : List U).length ([U.str s, .int a, .int b, .int x] : List U).length (some 3) = ([U.str s, .int a, .int b, .int x] : List U).length) := fun z => absurd z.1 (by show ¬ ((1 : Nat) = 0); decide)
 have ht : Au (sg [.str s, .int a, .int b, .int x] (some 1) (some 3)) = some [.inl a, .inl b] := rfl
 unfold oH
 simp only [h1, h2, h3, h4, Option.bind_some]
 rw [if_neg hw]
 simp only [l3c, ht, Option.bind_some]
 rw [if_pos hk, s3c]
theorem IH {l : U} {s : Str} {a b x : Int} {bg : List Int} : su (ak 4) (cSl (ak 5) (some (cC (.int 1))) (some (cC (.int 3)))) (cOp fIx (ak 5) (cC (.int 3))) (rhL n w l S.length (some (.tup [.str s, .int a, .int b, .int x]))) (dS S bg ov kus) = some ((aX kus [.inl a, .inl b]).getD (.int x), dS S bg ov kus) := by
 have h1 : cOp fIx (ak 5) (cC (.int 3)) (rhL n w l S.length (some (.tup [.str s, .int a, .int b, .int x]))) (dS S bg ov kus) = some (.int x, dS S bg ov kus) := rfl
 have h2 : cSl (ak 5) (some (cC (.int 1))) (some (cC (.int 3))) (rhL n w l S.length (some (.tup [.str s, .int a, .int b, .int x]))) (dS S bg ov kus) = some (.tup [.int a, .int b], dS S bg ov kus) := rfl
 have h0 : ak 4 (rhL n w l S.length (some (.tup [.str s, .int a, .int b, .int x]))) (dS S bg ov kus) = some (.ref (S.length + 2), dS S bg ov kus) := rfl
 unfold su
 rw [h0, Option.bind_some]
 simp only [l3c, h1, h2, Option.bind_some]
 rfl
noncomputable def ovE (ov : List Int) : Ev → List Int
 | .fin _ a => ov ++ [a]
 | _ => ov
noncomputable def kuE (kus : List (List Key × U)) : Ev → List (List Key × U)
 | .put a b x => iE kus [.inl a, .inl b] (.int x)
 | _ => kus
theorem LwI.step (h : LwI st m ov kus) (eb : EvB n w e) (ok : lj n w st e) : LwI (stp st e) (m + 1) (ovE ov e) (kuE kus e) := by
 have l1 := h.lo
 have l2 := h.lk
 have si := h.si.stp eb ok
 cases e with
 | beg a =>
  refine ⟨si, fun a' => ?_, fun a' b => ?_, by show _ ≤ _; simp only [ovE, kuE]; omega, by show _ ≤ _; simp only [ovE, kuE]; omega⟩
  ·show a' ∈ ov ↔ _
   rw [h.oe a']
   by_cases ha : a' = a
   ·subst ha; rw [(zy ok).2.2]
   ·rw [(fW (e := .beg a) ha).2.2]
  ·show aX kus [.inl a', .inl b] = _
   rw [h.pv a' b]
   by_cases ha : a' = a
   ·subst ha; rw [(zy ok).2.1]
   ·rw [(fW (e := .beg a) ha).2.1]
 | look a c x =>
  obtain ⟨_, t, hv, ht, _⟩ := ok
  have hs := qz (e := .look a c x) hv
  have e1 : (t.ev (.look a c x)).ps = t.ps ∧ (t.ev (.look a c x)).en = t.en := by
   simp only [Att.ev]; split <;> exact ⟨rfl, rfl⟩
  refine ⟨si, fun a' => ?_, fun a' b => ?_, by show _ ≤ _; simp only [ovE, kuE]; omega, by show _ ≤ _; simp only [ovE, kuE]; omega⟩
  ·show a' ∈ ov ↔ _
   rw [h.oe a']
   by_cases ha : a' = a
   ·subst ha; have := hs.2.2; simp only [Ev.at] at this; rw [this, e1.2]; unfold sf; rw [hv]; rfl
   ·rw [(fW (e := .look a c x) ha).2.2]
  ·show aX kus [.inl a', .inl b] = _
   rw [h.pv a' b]
   by_cases ha : a' = a
   ·subst ha; have := hs.2.1; simp only [Ev.at] at this; rw [this, e1.1]; unfold rC; rw [hv]; rfl
   ·rw [(fW (e := .look a c x) ha).2.1]
 | put a c x =>
  obtain ⟨_, t, hv, ht⟩ := ok
  have hs := qz (e := .put a c x) hv
  refine ⟨si, fun a' => ?_, fun a' b => ?_, by show _ ≤ _; simp only [ovE, kuE]; omega, by
   show (iE kus [.inl a, .inl c] (.int x)).length ≤ m + 1
   exact Nat.le_trans (n9 ..) (by omega)⟩
  ·show a' ∈ ov ↔ _
   rw [h.oe a']
   by_cases ha : a' = a
   ·subst ha; have := hs.2.2; simp only [Ev.at, Att.ev] at this; rw [this]; unfold sf; rw [hv]; rfl
   ·rw [(fW (e := .put a c x) ha).2.2]
  ·show aX (iE kus [.inl a, .inl c] (.int x)) [.inl a', .inl b] = _
   rw [rk]
   by_cases ha : a' = a
   ·subst ha
    have := hs.2.1
    simp only [Ev.at, Att.ev] at this
    rw [this, rk]
    by_cases hb : b = c
    ·subst hb; rw [if_pos rfl, if_pos rfl]; rfl
    ·rw [if_neg (fun z => hb (by injection z with _ z; injection z with z _; injection z)), if_neg hb, h.pv a' b]
     unfold rC; rw [hv]; rfl
   ·rw [if_neg (fun z => ha (by injection z with z _; injection z)), h.pv a' b, (fW (e := .put a c x) ha).2.1]
 | fin d a =>
  obtain ⟨t, hv, ht⟩ := ok
  have hs := qz (e := .fin d a) hv
  refine ⟨si, fun a' => ?_, fun a' b => ?_, by simp [ovE]; omega, by show _ ≤ _; simp only [ovE, kuE]; omega⟩
  ·show a' ∈ ov ++ [a] ↔ _
   by_cases ha : a' = a
   ·subst ha; have := hs.2.2; simp only [Ev.at, Att.ev] at this; rw [this]; simp
   ·rw [(fW (e := .fin d a) ha).2.2, ← h.oe a']; simp [ha]
  ·show aX kus [.inl a', .inl b] = _
   rw [h.pv a' b]
   by_cases ha : a' = a
   ·subst ha; have := hs.2.1; simp only [Ev.at, Att.ev] at this; rw [this]; unfold rC; rw [hv]; rfl
   ·rw [(fW (e := .fin d a) ha).2.1]
end
noncomputable def wsD : List Str := ["done", "fall"]
theorem xq : inW wsD (.str "begin") = false := by decide +kernel
theorem Ar : inW wsD (.str "look") = false := by decide +kernel
theorem CM : inW wsD (.str "put") = false := by decide +kernel
theorem CN (d : Bool) : inW wsD (.str (ni d)) = true := by cases d <;> decide +kernel
section
variable {n w : Int} {S : Sto} {u : U} {st : St} {m : Nat} {ov : List Int} {kus : List (List Key × U)}
noncomputable def w6 : Fn := fnU 6 2 (cZ fb)
theorem vC {l : U} {e : Ev} {o5 : Option U} (h : LwI st m ov kus) (hm : m ≤ 9000) (eb : EvB n w e) (h1 : fb [.tup [.int n, .int w], e.u] (dS S (aE st) ov kus) = some (.bl true, dS S (aE st) ov kus)) :
  (lj n w st e → aC fb (rhL n w l S.length (some e.u)) (dS S (aE st) ov kus) = some (.nx, rhL n w l S.length (some e.u), dS S (aE (stp st e)) (ovE ov e) (kuE kus e))) ∧
  (¬ lj n w st e → aC fb (rhL n w l S.length (some e.u)) (dS S (aE st) ov kus) = some (.rt (.bl false), rhL n w l S.length (some e.u), dS S (aE st) ov kus)) := by
 obtain ⟨B, hB⟩ : ∃ B, B = (aE st).map U.int := ⟨_, rfl⟩
 obtain ⟨Q, hQ⟩ : ∃ Q, Q = ov.map U.int := ⟨_, rfl⟩
 have g1 : (dS S (aE st) ov kus)[S.length]? = some (.lst B) := by rw [hB]; exact l3a
 have g2 : (dS S (aE st) ov kus)[S.length + 1]? = some (.lst Q) := by rw [hQ]; exact l3b
 have k1 : ∀ a : Int, kIn false (.int a) (dS S (aE st) ov kus) (some (.lst B)) = some (.bl (decide (a ∈ aE st)), dS S (aE st) ov kus) := fun a => by rw [hB, ue]; rfl
 have k2 : ∀ a : Int, kIn false (.int a) (dS S (aE st) ov kus) (some (.lst Q)) = some (.bl (decide (a ∈ ov)), dS S (aE st) ov kus) := fun a => by rw [hQ, ue]; rfl
 have lB : B.length < LIM := by rw [hB, List.length_map]; have := h.si.len; unfold aE LIM; rw [List.length_map]; omega
 have lQ : Q.length < LIM := by rw [hQ, List.length_map]; have := h.lo; unfold LIM; omega
 have ap1 : ∀ a : Int, Bm S.length (.int a) (dS S (aE st) ov kus) (some (.lst B)) = some (.non, dS S (aE st ++ [a]) ov kus) := fun a => by
  rw [ko lB, hB, show (aE st).map U.int ++ [U.int a] = (aE st ++ [a]).map U.int from by simp, s3a]
 have iD : ∀ (s : Str) (Y : Sto), fIn false (.str s) (.tup [.str "done", .str "fall"]) Y = some (.bl (inW wsD (.str s)), Y) := fun s Y => inF (neg := false) (ws := wsD)
 have tf : decide (true = true) = true := rfl
 have ft : decide (false = true) = false := rfl
 have ff : decide (false = false) = true := rfl
 have tff : decide (true = false) = false := rfl
 generalize hY : dS S (aE st) ov kus = Y at h1 g1 g2 k1 k2 ap1 ⊢
 cases e with
 | beg a =>
  simp only [Ev.u] at h1
  by_cases ho : a ∈ ov
  ·obtain ⟨t, d, hv, _⟩ := h.en_key ho
   have d1 : decide (a ∈ ov) = true := decide_eq_true ho
   refine ⟨fun z => absurd (show a ∉ aE st from z.2.2) fun z' => ?_, fun _ => ?_⟩
   ·exact z' (by
     apply Classical.byContradiction
     intro hk
     rw [b6.mpr hk] at hv; cases hv)
   ·rwa [aC, rhL, Ev.u, h1, g2, k2, d1]
  ·have d1 : decide (a ∈ ov) = false := decide_eq_false ho
   by_cases hb : a ∈ aE st
   ·have d2 : decide (a ∈ aE st) = true := decide_eq_true hb
    refine ⟨fun z => absurd hb z.2.2, fun _ => ?_⟩
    rwa [aC, rhL, Ev.u, h1, g1, g2, k1, k2, d1, d2, gC, tf]
   ·have d2 : decide (a ∈ aE st) = false := decide_eq_false hb
    refine ⟨fun _ => ?_, fun z => absurd (show lj n w st (.beg a) from ⟨eb.1, eb.2, hb⟩) z⟩
    rw [fA]; simp only [ovE, kuE]
    rwa [aC, rhL, Ev.u, h1, g1, g2, k1, k2, d1, d2, gC, ft, ap1, iD, xq]
 | look a b x =>
  simp only [Ev.u] at h1
  by_cases ho : a ∈ ov
  ·obtain ⟨t, d, hv, ht⟩ := h.en_key ho
   have d1 : decide (a ∈ ov) = true := decide_eq_true ho
   refine ⟨fun z => ?_, fun _ => ?_⟩
   ·obtain ⟨_, t', h2, h3, _⟩ := z
    rw [hv] at h2; cases h2; rw [ht] at h3; cases h3
   ·rwa [aC, rhL, Ev.u, h1, g2, k2, d1]
  ·have d1 : decide (a ∈ ov) = false := decide_eq_false ho
   by_cases hb : a ∈ aE st
   ·have d2 : decide (a ∈ aE st) = true := decide_eq_true hb
    obtain ⟨t, hv, ht⟩ := h.open_key ho hb
    have gp := IH (n := n) (w := w) (l := l) (s := "look") (a := a) (b := b) (x := x) (S := S) (bg := aE st) (ov := ov) (kus := kus)
    have vz : (aX kus [.inl a, .inl b]).getD (.int x) = .int ((aX t.ps b).getD x) := by
     rw [h.pv a b]
     unfold rC
     rw [hv]
     show ((aX t.ps b).map U.int).getD (.int x) = _
     cases aX t.ps b <;> rfl
    rw [vz, hY] at gp
    simp only [rhL] at gp
    by_cases hx : (aX t.ps b).getD x = x
    ·have d3 : decide ((aX t.ps b).getD x = x) = true := decide_eq_true hx
     refine ⟨fun _ => ?_, fun z => absurd (show lj n w st (.look a b x) from ⟨eb.2, t, hv, ht, fun y hy => by rw [hy] at hx; exact hx⟩) z⟩
     rw [fA]; simp only [ovE, kuE]; rw [hY]
     rwa [aC, rhL, Ev.u, h1, g1, g2, k1, k2, d1, d2, cT, jY, gC, tff, gp, d3, iD, Ar, Bool.not_true]
    ·have d3 : decide ((aX t.ps b).getD x = x) = false := decide_eq_false hx
     refine ⟨fun z => ?_, fun _ => ?_⟩
     ·obtain ⟨_, t', h2, _, h3⟩ := z
      rw [hv] at h2; cases h2
      exfalso
      apply hx
      cases hz : aX t.ps b with
      | none => rfl
      | some y => exact h3 y hz
     ·rwa [aC, rhL, Ev.u, h1, g1, g2, k1, k2, d1, d2, cT, jY, gC, tff, gp, d3, Bool.not_false]
   ·have d2 : decide (a ∈ aE st) = false := decide_eq_false hb
    refine ⟨fun z => ?_, fun _ => ?_⟩
    ·obtain ⟨_, t', h2, _⟩ := z
     rw [b6.mpr hb] at h2; cases h2
    ·rwa [aC, rhL, Ev.u, h1, g1, g2, k1, k2, d1, d2, cT, ff]
 | put a b x =>
  simp only [Ev.u] at h1
  by_cases ho : a ∈ ov
  ·obtain ⟨t, d, hv, ht⟩ := h.en_key ho
   have d1 : decide (a ∈ ov) = true := decide_eq_true ho
   refine ⟨fun z => ?_, fun _ => ?_⟩
   ·obtain ⟨_, t', h2, h3⟩ := z
    rw [hv] at h2; cases h2; rw [ht] at h3; cases h3
   ·rwa [aC, rhL, Ev.u, h1, g2, k2, d1]
  ·have d1 : decide (a ∈ ov) = false := decide_eq_false ho
   by_cases hb : a ∈ aE st
   ·have d2 : decide (a ∈ aE st) = true := decide_eq_true hb
    obtain ⟨t, hv, ht⟩ := h.open_key ho hb
    have gp := ID (n := n) (w := w) (l := l) (s := "put") (a := a) (b := b) (x := x) (S := S) (bg := aE st) (ov := ov) (kus := kus) (by have := h.lk; unfold LIM; omega)
    rw [hY] at gp
    simp only [rhL] at gp
    refine ⟨fun _ => ?_, fun z => absurd (show lj n w st (.put a b x) from ⟨eb.2, t, hv, ht⟩) z⟩
    rw [fA]; simp only [ovE, kuE]
    rwa [aC, rhL, Ev.u, h1, g1, g2, k1, k2, d1, d2, dU, gC, tff, gp, iD, CM]
   ·have d2 : decide (a ∈ aE st) = false := decide_eq_false hb
    refine ⟨fun z => ?_, fun _ => ?_⟩
    ·obtain ⟨_, t', h2, _⟩ := z
     rw [b6.mpr hb] at h2; cases h2
    ·rwa [aC, rhL, Ev.u, h1, g1, g2, k1, k2, d1, d2, dU, ff]
 | fin d a =>
  simp only [Ev.u] at h1
  have wb : decide (ni d = Str.ofString "begin") = false := by cases d; exact fc; exact fe
  have wl : decide (ni d = Str.ofString "look") = false := by cases d; exact jm; exact jn
  have wp : decide (ni d = Str.ofString "put") = false := by cases d; exact jZ; exact j2
  have we := CN d
  by_cases ho : a ∈ ov
  ·obtain ⟨t, d', hv, ht⟩ := h.en_key ho
   have d1 : decide (a ∈ ov) = true := decide_eq_true ho
   refine ⟨fun z => ?_, fun _ => ?_⟩
   ·obtain ⟨t', h2, h3⟩ := z
    rw [hv] at h2; cases h2; rw [ht] at h3; cases h3
   ·rwa [aC, rhL, Ev.u, h1, g2, k2, d1]
  ·have d1 : decide (a ∈ ov) = false := decide_eq_false ho
   by_cases hb : a ∈ aE st
   ·have d2 : decide (a ∈ aE st) = true := decide_eq_true hb
    obtain ⟨t, hv, ht⟩ := h.open_key ho hb
    have ap2 : Bm (S.length + 1) (.int a) Y (some (.lst Q)) = some (.non, dS S (aE st) (ov ++ [a]) kus) := by
     rw [ko lQ, hQ, show ov.map U.int ++ [U.int a] = (ov ++ [a]).map U.int from by simp, ← hY, s3b]
    refine ⟨fun _ => ?_, fun z => absurd (show lj n w st (.fin d a) from ⟨t, hv, ht⟩) z⟩
    rw [fA]; simp only [ovE, kuE]
    rwa [aC, rhL, Ev.u, h1, g1, g2, k1, k2, d1, d2, wb, wl, wp, tff, ap2, iD, we]
   ·have d2 : decide (a ∈ aE st) = false := decide_eq_false hb
    refine ⟨fun z => ?_, fun _ => ?_⟩
    ·obtain ⟨t', h2, _⟩ := z
     rw [b6.mpr hb] at h2; cases h2
    ·rwa [aC, rhL, Ev.u, h1, g1, g2, k1, k2, d1, d2, wb, ff]
end
section
variable {n w : Int} {S : Sto} {u : U} {c : Cl}
theorem pD {l : U} {ok : Sto → Prop} (hok : ∀ bg ov kus, ok (dS S bg ov kus)) : ∀ (us : List U) (st : St) (m : Nat) (ov : List Int) (kus : List (List Key × U)) (r5 : Option U), LwI st m ov kus → m + us.length ≤ 9000 → (∀ u ∈ us, GdE S u) →
  ∃ ρ G, fP ok (gNm 5) (aC fb) us (rhL n w l S.length r5) (dS S (aE st) ov kus) = some (if gk n w st us then .nx else .rt (.bl false), ρ, S ++ G)
 | [], st, m, ov, kus, r5, _, _, _ => ⟨_, _, gU (hok _ _ _)⟩
 | u :: us, st, m, ov, kus, r5, hi, hm, hg => by
  rw [List.length_cons] at hm
  have h1 : fb [.tup [.int n, .int w], u] (dS S (aE st) ov kus) = some (.bl (mx n w u), dS S (aE st) ov kus) := vD (by unfold dS; exact (hg u List.mem_cons_self).gd.app _)
  cases he : mx n w u with
  | false =>
   rw [he] at h1
   have gb : gk n w st (u :: us) = false := by simp only [gk, vt he]
   rw [gb]
   refine ⟨rhL n w l S.length (some u), [.lst ((aE st).map U.int), .lst (ov.map U.int), .dit kus], n6 (hok _ _ _) rfl ?_⟩
   show aC fb (rhL n w l S.length (some u)) (dS S (aE st) ov kus) = some (.rt (.bl false), rhL n w l S.length (some u), dS S (aE st) ov kus)
   rwa [aC, rhL, h1]
  | true =>
   rw [he] at h1
   obtain ⟨e, hn, rfl, eb⟩ := qu he
   have gb : gk n w st (e.u :: us) = (okS n w st e && gk n w (stp st e) us) := by simp only [gk, hn]
   obtain ⟨h2, h3⟩ := vC (l := l) (o5 := none) hi (by omega) eb h1
   rw [gb]
   by_cases hk : lj n w st e
   ·rw [pB hk, Bool.true_and]
    obtain ⟨ρ, G, ih⟩ := pD (l := l) hok us (stp st e) (m + 1) (ovE ov e) (kuE kus e) (some e.u) (hi.step eb hk) (by omega) fun v hv => hg v (List.mem_cons_of_mem _ hv)
    exact ⟨ρ, G, (jt (hok _ _ _) rfl (h2 hk)).trans ih⟩
   ·rw [lP hk, Bool.false_and]
    exact ⟨_, _, n6 (hok _ _ _) rfl (h3 hk)⟩
theorem Bg (h : Th S u) : ∃ G, w6 [.tup [.int n, .int w], u] S = some (.bl (tX n w S u), S ++ G) := by
 unfold w6
 rw [oB]
 rcases h with ⟨l, us, rfl, h, g⟩ | ⟨h, g⟩
 ·have ty : tyU (.ref l) S = some .list := by simp only [tyU, h]
  have sl : o7 .list .list = true := rfl
  by_cases hl : us.length ≤ 2000
  ·have d1 : decide ((2000 : Int) < (us.length : Int)) = false := decide_eq_false (by omega)
   have hok : ∀ bg ov kus, (dS S bg ov kus)[l]? = some (.lst us) := fun _ _ _ => by unfold dS; exact aF h
   obtain ⟨ρ, G, hl'⟩ := pD (n := n) (w := w) (l := .ref l) (ok := fun S => S[l]? = some (.lst us)) hok us [] 0 [] [] none ⟨⟨by simp [aE], fun k hk => (by cases hk), ⟨by simp, by simp⟩⟩, fun a => by simp [sf, aX], fun a b => by simp [rC, aX], by simp, by simp⟩ (by omega) g
   refine ⟨G, ?_⟩
   have h0 := hok [] [] []
   rw [jN h hl]
   have e1 : d9 (cOr (p9 (aG (pX .list (ak 1)))) (aG (cOp fGt (cCB jd (ab (ak 1) aq)) (cC (.int 2000))))) (ed (cC (.bl false))) bM [some (.tup [.int n, .int w]), some (.ref l), none, none, none, none] S = some (.nx, [some (.tup [.int n, .int w]), some (.ref l), none, none, none, none], S) := by
    rwa [ty, sl, h, d1]
   have e2 : bZ 2 (bE aq) [some (.tup [.int n, .int w]), some (.ref l), none, none, none, none] S = some (.nx, [some (.tup [.int n, .int w]), some (.ref l), some (.ref S.length), none, none, none], S ++ [O.lst []]) := rfl
   have e3 : bZ 3 (bE aq) [some (.tup [.int n, .int w]), some (.ref l), some (.ref S.length), none, none, none] (S ++ [O.lst []]) = some (.nx, [some (.tup [.int n, .int w]), some (.ref l), some (.ref S.length), some (.ref (S.length + 1)), none, none], S ++ [O.lst []] ++ [O.lst []]) := by
    rw [gR, nN]
    show zC 3 _ (.ref (S ++ [O.lst []]).length, S ++ [O.lst []] ++ [O.lst []]) = _
    rw [oS, List.length_append]; rfl
   have e4 : bZ 4 pY [some (.tup [.int n, .int w]), some (.ref l), some (.ref S.length), some (.ref (S.length + 1)), none, none] (S ++ [O.lst []] ++ [O.lst []]) = some (.nx, rhL n w (.ref l) S.length none, dS S [] [] []) := by
    rw [gR]
    show zC 4 _ (.ref (S ++ [O.lst []] ++ [O.lst []]).length, S ++ [O.lst []] ++ [O.lst []] ++ [O.dit []]) = _
    rw [oS, List.length_append, List.length_append, List.append_assoc, List.append_assoc]; rfl
   unfold cZ
   rw [fS e1, fS e2, fS e3, fS e4]
   have it : iTp (ak 1) (rhL n w (.ref l) S.length none) (dS S [] [] []) = some (us, fun S => S[l]? = some (.lst us), dS S [] [] []) := by
    have hv : ak 1 (rhL n w (.ref l) S.length none) (dS S [] [] []) = some (.ref l, dS S [] [] []) := rfl
    unfold iTp
    rw [hv, Option.bind_some]
    simp only [h0]
   have e5 : mW (iTp (ak 1)) (gNm 5) (aC fb) (rhL n w (.ref l) S.length none) (dS S [] [] []) = some (if gk n w [] us then .nx else .rt (.bl false), ρ, S ++ G) := by
    unfold mW
    rw [it, Option.bind_some]
    exact hl'
   cases hg : gk n w [] us with
   | true =>
    rw [hg] at e5
    simp only [if_true] at e5
    rw [fS e5]; rfl
   | false =>
    rw [hg] at e5
    simp only [Bool.false_eq_true, if_false] at e5
    rw [ua, e5]; rfl
  ·have d1 : decide ((2000 : Int) < (us.length : Int)) = true := decide_eq_true (by omega)
   refine ⟨[], ?_⟩
   rw [jO h hl, List.append_nil]
   rwa [cZ, ty, sl, h, d1]
 ·have e1 := vO (i := 1) (S := S) (u := u) (ρ := [some (.tup [.int n, .int w]), some u, none, none, none, none]) rfl g h
  refine ⟨[], ?_⟩
  rw [n8 h, List.append_nil]
  rwa [cZ, e1]
noncomputable def gQ (c : Cl) : Fn := fnU 3 2 (dD (jy c) w6)
theorem jw (hns : c.ns.length = 5) (h : Th S u) : ∃ G, gQ c [.tup [.int n, .int w], u] S = some (.bl true, S ++ G) := by
 obtain ⟨G1, e1⟩ := rO (n := n) (w := w) hns h
 obtain ⟨G2, e2⟩ := Bg (n := n) (w := w) (h.app G1)
 rw [yp h, List.append_assoc] at e2
 generalize tX n w S u = b at e1 e2
 refine ⟨G1 ++ G2, ?_⟩
 have t1 : ∀ S', tyU (.bl b) S' = some .bool := fun _ => rfl
 have s1 : o7 .bool .bool = true := rfl
 have d1 : decide (b = b) = true := decide_eq_true rfl
 unfold gQ
 rw [mD]
 rwa [dD, e1, e2, t1, s1, d1]
theorem BC {st : St} {e : Ev} (kb : ∀ k ∈ aE st, 0 ≤ k ∧ k < ((200 : Nat) : Int)) (ok : lj n w st e) : mx n w e.u = true ∧ EvB n w e := by
 have kk : ∀ {a : Int} {t : Att}, aX st a = some t → 0 ≤ a ∧ a < 200 := fun {a t} h => by
  have hm : a ∈ aE st := by
   apply Classical.byContradiction
   intro z
   rw [b6.mpr z] at h; cases h
  have := kb a hm
  exact ⟨this.1, by omega⟩
 have wA : ∀ s ∈ wsA, inW wsA (.str s) = true := fun s hs => List.any_eq_true.mpr ⟨s, hs, decide_eq_true rfl⟩
 cases e with
 | beg a =>
  obtain ⟨a0, a1, _⟩ := ok
  refine ⟨?_, a0, a1⟩
  show (cA 0 199 (.int a) && (if inW wsA (.str "begin") then true else _)) = true
  rw [fV a0 (by omega), if_pos (by decide +kernel)]; rfl
 | fin d a =>
  obtain ⟨t, hv, _⟩ := ok
  obtain ⟨a0, a1⟩ := kk hv
  refine ⟨?_, a0, a1⟩
  show (cA 0 199 (.int a) && (if inW wsA (.str (ni d)) then true else _)) = true
  rw [fV a0 (by omega), if_pos (by cases d <;> decide +kernel)]; rfl
 | look a b x =>
  obtain ⟨⟨b0, b1, x0, x1⟩, t, hv, _⟩ := ok
  obtain ⟨a0, a1⟩ := kk hv
  refine ⟨?_, ⟨a0, a1⟩, b0, b1, x0, x1⟩
  show (cA 0 199 (.int a) && (if inW wsA (.str "look") then _ else inW wsB (.str "look") && (cA 0 (n - 1) (.int b) && cA 0 (w - 1) (.int x)))) = true
  rw [fV a0 (by omega), if_neg (by decide +kernel), fV b0 (by omega), fV x0 (by omega)]
  decide +kernel
 | put a b x =>
  obtain ⟨⟨b0, b1, x0, x1⟩, t, hv, _⟩ := ok
  obtain ⟨a0, a1⟩ := kk hv
  refine ⟨?_, ⟨a0, a1⟩, b0, b1, x0, x1⟩
  show (cA 0 199 (.int a) && (if inW wsA (.str "put") then _ else inW wsB (.str "put") && (cA 0 (n - 1) (.int b) && cA 0 (w - 1) (.int x)))) = true
  rw [fV a0 (by omega), if_neg (by decide +kernel), fV b0 (by omega), fV x0 (by omega)]
  decide +kernel
noncomputable def dec : U → Option Ev
 | .tup [.str s, .int a] => if s = Str.ofString "begin" then some (.beg a) else if s = Str.ofString "done" then some (.fin true a) else some (.fin false a)
 | .tup [.str s, .int a, .int b, .int x] => if s = Str.ofString "look" then some (.look a b x) else some (.put a b x)
 | _ => none
theorem Ex (e : Ev) : dec e.u = some e := by
 cases e with
 | beg a => unfold Ev.u dec; exact if_pos rfl
 | look a b x => unfold Ev.u dec; exact if_pos rfl
 | put a b x => unfold Ev.u dec; exact if_neg (of_decide_eq_false jX)
 | fin d a =>
  cases d with
  | true => unfold Ev.u dec; exact (if_neg (of_decide_eq_false fe)).trans (if_pos rfl)
  | false => unfold Ev.u dec; exact (if_neg (of_decide_eq_false fc)).trans (if_neg (of_decide_eq_false (by decide +kernel)))
theorem F9 {e e' : Ev} (h : e.u = e'.u) : e = e' := by
 have := congrArg dec h
 rw [Ex, Ex] at this
 injection this
theorem rX : ∀ (es : List Ev) (st : St) (m : Nat), StI st m → w8 n w st es → gk n w st (es.map Ev.u) = true
 | [], _, _, _, _ => rfl
 | e :: es, st, m, hi, lf => by
  obtain ⟨ok, lf'⟩ := lf
  obtain ⟨ht, eb⟩ := BC hi.kb ok
  obtain ⟨e', hn, hu, _⟩ := qu ht
  have ee := F9 hu
  subst ee
  rw [List.map_cons]
  simp only [gk, hn]
  rw [pB ok, Bool.true_and]
  exact rX es (stp st e) (m + 1) (hi.stp eb ok) lf'
theorem pC : ∀ (k : Nat) (es : List Ev) (st : St), w8 n w st es → w8 n w st (es.take k)
 | 0, es, st, _ => trivial
 | k + 1, [], st, _ => trivial
 | k + 1, e :: es, st, lf => ⟨lf.1, pC k es _ lf.2⟩
theorem pJ (e : Ev) (S : Sto) : GdE S e.u := by
 have fs : ∀ {s : Str} {r : List U}, PyData.strOk s = true → (∀ v ∈ r, ∃ i : Int, v = .int i) → GdE S (.tup (.str s :: r)) := fun {s r} hs hr => ⟨.tup fun v hv => by
   rcases List.mem_cons.mp hv with rfl | hv
   ·exact .str _
   ·obtain ⟨i, rfl⟩ := hr v hv; exact .int i, fun x y r' z => by
   injection z with z
   injection z with z _
   rw [← z]; exact .str s hs⟩
 cases e with
 | beg a => exact fs (by decide +kernel) fun v hv => ⟨a, List.mem_singleton.mp hv⟩
 | look a b x =>
  exact fs (by decide +kernel) fun v hv => by
   simp only [List.mem_cons, List.not_mem_nil, or_false] at hv
   rcases hv with rfl | rfl | rfl <;> exact ⟨_, rfl⟩
 | put a b x =>
  exact fs (by decide +kernel) fun v hv => by
   simp only [List.mem_cons, List.not_mem_nil, or_false] at hv
   rcases hv with rfl | rfl | rfl <;> exact ⟨_, rfl⟩
 | fin d a => exact fs (by cases d <;> decide +kernel) fun v hv => ⟨a, List.mem_singleton.mp hv⟩
end
section
variable {S0 : Sto} {ρf : Option U → Rho} {ce : CE} {cr : CA} {u : U} {m k : Nat} {s : Str}
noncomputable def EvH (S0 : Sto) (ρf : Option U → Rho) (ce : CE) : Prop := ∀ q X, ∃ u G, ce (ρf q) (S0 ++ X) = some (u, S0 ++ (X ++ G)) ∧ GdE (S0 ++ (X ++ G)) u
noncomputable def qd (S0 : Sto) (ρf : Option U → Rho) (cr : CA) (m : Nat) : Prop := ∀ q X, ∃ us G, cr (ρf q) (S0 ++ X) = some (us, S0 ++ (X ++ G)) ∧ us.length = m ∧ ∀ u ∈ us, GdE (S0 ++ (X ++ G)) u
theorem iV (h : ∀ q X, ce (ρf q) (S0 ++ X) = some (u, S0 ++ X)) (g : GdE S0 u) : EvH S0 ρf ce := fun q X => ⟨u, [], by rw [List.append_nil]; exact h q X, g.app _⟩
theorem rY {S : Sto} (g : Gd S u) (h : ∀ us, u ≠ .tup us) : GdE S u := ⟨g, fun _ _ _ e => absurd e (h _)⟩
theorem gq {x : Str} : EvH S0 ρf (cC (.str x)) := iV (fun _ _ => rfl) (rY (.str x) fun _ z => by cases z)
theorem gr : EvH S0 ρf (cC .non) := iV (fun _ _ => rfl) (rY .non fun _ z => by cases z)
theorem eY : EvH S0 ρf (aN aq) := iV (u := .tup []) (fun _ _ => rfl) ⟨.tup fun _ h => (by cases h), fun _ _ _ e => (by injection e with e; cases e)⟩
theorem gX {S : Sto} {x : U} {us : List U} (gx : Gd S x) (g : ∀ v ∈ us, Gd S v) (h : Fs S x) : GdE S (.tup (x :: us)) := ⟨.tup fun v hv => by
  rcases List.mem_cons.mp hv with rfl | hv
  ·exact gx
  ·exact g v hv, fun a b r e => by
  injection e with e
  injection e with e _
  rw [← e]; exact h⟩
theorem eW (h : EvA S0 ρf cr) (hs : PyData.strOk s = true) : EvH S0 ρf (aN (ab (cC (.str s)) cr)) := fun q X => by
 obtain ⟨_, h⟩ := h
 obtain ⟨us, G, e, _, g⟩ := h q X
 exact ⟨.tup (.str s :: us), G, by rw [sE, eF, x_c, Option.bind_some, dI, e, Option.bind_some, jl, Option.bind_some, oR], gX (.str s) g (.str s hs)⟩
theorem eV (h : EvA S0 ρf cr) (hs : PyData.strOk s = true) : EvH S0 ρf (aN (ab (aN (ab (cC (.str s)) aq)) cr)) := fun q X => by
 obtain ⟨_, h⟩ := h
 obtain ⟨us, G, e, _, g⟩ := h q X
 have e0 : aN (ab (cC (.str s)) aq) (ρf q) (S0 ++ X) = some (.tup [.str s], S0 ++ X) := rfl
 exact ⟨.tup (.tup [.str s] :: us), G, by rw [sE, eF, e0, Option.bind_some, dI, e, Option.bind_some, jl, Option.bind_some, oR], gX (.tup fun v hv => by rw [List.mem_singleton.mp hv]; exact .str s) g (.tup s hs)⟩
theorem eX (h : EvA S0 ρf cr) (hs : PyData.strOk s = true) : EvH S0 ρf (aN (ab (bE (ab (cC (.str s)) aq)) cr)) := fun q X => by
 obtain ⟨_, h⟩ := h
 obtain ⟨us, G, e, _, g⟩ := h q (X ++ [.lst [.str s]])
 have e0 : bE (ab (cC (.str s)) aq) (ρf q) (S0 ++ X) = some (.ref (S0 ++ X).length, S0 ++ (X ++ [.lst [.str s]])) := by rw [← List.append_assoc]; rfl
 have hg : (S0 ++ (X ++ ([O.lst [.str s]] ++ G)))[(S0 ++ X).length]? = some (.lst [.str s]) := by rw [← List.append_assoc, ga0]; rfl
 rw [List.append_assoc] at g e
 exact ⟨.tup (.ref (S0 ++ X).length :: us), [.lst [.str s]] ++ G, by rw [sE, eF, e0, Option.bind_some, dI, e, Option.bind_some, jl, Option.bind_some, oR], gX (.lst hg) g (.lst hs hg)⟩
theorem eA : qd S0 ρf aq 0 := fun q X => ⟨[], [], by rw [List.append_nil]; rfl, rfl, fun u hu => by cases hu⟩
theorem cQ (h : EvH S0 ρf ce) (t : qd S0 ρf cr m) : qd S0 ρf (ab ce cr) (m + 1) := fun q X => by
 obtain ⟨u, G, e, g⟩ := h q X
 obtain ⟨us, G', e', l', g'⟩ := t q (X ++ G)
 refine ⟨u :: us, G ++ G', ?_, by rw [List.length_cons, l'], fun v hv => ?_⟩
 ·rw [eF, e, Option.bind_some, dI, e', Option.bind_some, jl, List.append_assoc]
 ·rw [List.append_assoc] at g'
  rcases List.mem_cons.mp hv with rfl | hv
  ·have := g.app G'
   rw [List.append_assoc, List.append_assoc] at this
   exact this
  ·exact g' v hv
structure LsH (S : Sto) (l k : Nat) : Prop where
 two : 2 ≤ l
 ex : ∃ us, S[l]? = some (.lst us) ∧ us.length = k ∧ ∀ u ∈ us, GdE S u
theorem vY {i : Nat} {q : Option U} {X : Sto} (hs : ∀ q u, (ρf q).set i (some u) = ρf (some u)) (l2 : 2 ≤ S0.length) (h : qd S0 ρf cr m) : ∃ l G, bZ i (bE cr) (ρf q) (S0 ++ X) = some (.nx, ρf (some (.ref l)), S0 ++ (X ++ G)) ∧ LsH (S0 ++ (X ++ G)) l m := by
 obtain ⟨us, G, e, hl, g⟩ := h q X
 refine ⟨(S0 ++ (X ++ G)).length, G ++ [.lst us], ?_, ?_⟩
 ·rw [gR, nN, e, Option.bind_some, qY, Option.bind_some, oS, hs]; simp only [List.append_assoc]
 ·rw [← List.append_assoc, ← List.append_assoc, List.append_assoc S0]
  exact ⟨by simp; omega, us, by rw [ga0]; rfl, hl, fun u hu => (g u hu).app _⟩
theorem eR {i l : Nat} {X : Sto} (hs : ∀ q u, (ρf q).set i (some u) = ρf (some u)) (hi : ∀ u S, ak i (ρf (some u)) S = some (u, S)) (l2 : 2 ≤ S0.length) (L : LsH (S0 ++ X) l k) (hk : k + m ≤ 900) (h : qd S0 ρf cr m) :
  ∃ l' G, bZ i (cOp bD (ak i) (bE cr)) (ρf (some (.ref l))) (S0 ++ X) = some (.nx, ρf (some (.ref l')), S0 ++ (X ++ G)) ∧ LsH (S0 ++ (X ++ G)) l' (k + m) := by
 obtain ⟨us, G, e, hl, g⟩ := h (some (.ref l)) X
 obtain ⟨vs, hv, lv, gv⟩ := L.ex
 have g1 : (S0 ++ (X ++ G) ++ [O.lst us])[l]? = some (.lst vs) := by rw [← List.append_assoc]; exact aF (aF hv)
 have g2 : (S0 ++ (X ++ G) ++ [O.lst us])[(S0 ++ (X ++ G)).length]? = some (.lst us) := by rw [ga0]; rfl
 have hz : vs.length + us.length ≤ LIM := by unfold LIM; omega
 have ea : bD (.ref l) (.ref (S0 ++ (X ++ G)).length) (S0 ++ (X ++ G) ++ [O.lst us]) = some (.ref (S0 ++ (X ++ G) ++ [O.lst us]).length, S0 ++ (X ++ G) ++ [O.lst us] ++ [.lst (vs ++ us)]) := by
  simp only [bD, jv, g1, g2]
  rw [if_pos hz]
 refine ⟨(S0 ++ (X ++ G) ++ [O.lst us]).length, G ++ [.lst us, .lst (vs ++ us)], ?_, ?_⟩
 ·rw [gR, mY, hi, Option.bind_some, iZ, nN, e, Option.bind_some, qY, Option.bind_some, iY, ea, Option.bind_some, oS, hs]; simp only [List.append_assoc, List.cons_append, List.nil_append]
 ·have e2 : S0 ++ (X ++ (G ++ [.lst us, .lst (vs ++ us)])) = S0 ++ (X ++ G) ++ [O.lst us] ++ [.lst (vs ++ us)] := by simp only [List.append_assoc, List.cons_append, List.nil_append]
  rw [e2]
  refine ⟨by simp; omega, vs ++ us, by rw [ga0]; rfl, by rw [List.length_append, lv, hl], fun u hu => ?_⟩
  rcases List.mem_append.mp hu with hu | hu
  ·have := ((gv u hu).app G).app ([.lst us] ++ [.lst (vs ++ us)])
   rw [List.append_assoc S0 X G, ← List.append_assoc] at this
   exact this
  ·exact ((g u hu).app _).app _
end
theorem Fs.pen {ns : List Int} {a c a' c' : Int} {T : Sto} {u : U} (h : Fs (scr ns :: pen a c :: T) u) : Fs (scr ns :: pen a' c' :: T) u := by
 cases h with
 | str x k => exact .str x k
 | tup x k => exact .tup x k
 | lst k h =>
  rename_i l x
  match l, h with
  | 0, h => exact .lst k h
  | 1, h => cases h
  | l + 2, h => exact .lst k h
theorem GdE.pen {ns : List Int} {a c a' c' : Int} {T : Sto} {u : U} (h : GdE (scr ns :: pen a c :: T) u) : GdE (scr ns :: pen a' c' :: T) u := ⟨h.gd.pen, fun x y r e => (h.fs x y r e).pen⟩
theorem LsH.at {ns : List Int} {a c a' c' : Int} {T : Sto} {l k : Nat} (L : LsH (scr ns :: pen a c :: T) l k) {f : Int} (f0 : 0 ≤ f) (f1 : f < k) : ∃ u, fIx (.ref l) (.int f) (scr ns :: pen a' c' :: T) = some (u, scr ns :: pen a' c' :: T) ∧ GdE (scr ns :: pen a' c' :: T) u := by
 obtain ⟨us, h, hl, g⟩ := L.ex
 have t2 := L.two
 obtain ⟨l', rfl⟩ : ∃ l', l = l' + 2 := ⟨l - 2, by omega⟩
 have h' : (scr ns :: pen a' c' :: T)[l' + 2]? = some (.lst us) := h
 have hf : f.toNat < us.length := by omega
 obtain ⟨u, hu⟩ : ∃ u, us[f.toNat]? = some u := ⟨_, List.getElem?_eq_getElem hf⟩
 have ai : atI us f = some u := by
  have := cS (xs := us) (j := f.toNat) (v := u) hu
  rw [show ((f.toNat : Nat) : Int) = f from by omega] at this
  exact this
 refine ⟨u, ?_, (g u (List.mem_of_getElem? hu)).pen⟩
 rw [sG, h', sH, ai]; rfl
noncomputable def rhV (n w : Int) (du : U) (more : Int) (x5 : Option U) (q : Option U) : Rho := [some (.ref 1), some (.tup [.int n, .int w]), some du, some (.int more), q, x5]
theorem yG (e : Ev) : ∃ s a r, e.u = .tup (.str s :: .int a :: r) ∧ s.length ≤ 5 ∧ PyData.strOk s = true ∧ PyData.strOk (Txt.upper s) = true ∧ r.length ≤ 2 ∧ ∀ v ∈ r, ∃ i : Int, v = .int i := by
 have two : ∀ {b x : Int}, ∀ v ∈ [U.int b, U.int x], ∃ i : Int, v = .int i := fun v hv => by
  rcases List.mem_cons.mp hv with rfl | hv
  ·exact ⟨_, rfl⟩
  ·exact ⟨_, List.mem_singleton.mp hv⟩
 cases e with
 | beg a => exact ⟨_, a, [], rfl, by decide +kernel, by decide +kernel, by decide +kernel, by decide, fun v hv => by cases hv⟩
 | look a b x => exact ⟨_, a, [.int b, .int x], rfl, by decide +kernel, by decide +kernel, by decide +kernel, Nat.le_refl 2, two⟩
 | put a b x => exact ⟨_, a, [.int b, .int x], rfl, by decide +kernel, by decide +kernel, by decide +kernel, Nat.le_refl 2, two⟩
 | fin d a => exact ⟨_, a, [], rfl, by cases d <;> decide +kernel, by cases d <;> decide +kernel, by cases d <;> decide +kernel, by decide, fun v hv => by cases hv⟩
section
variable {n w more a : Int} {S0 : Sto} {s : Str} {r : List U} {x5 : Option U}
theorem GX {S : Sto} (hr : ∀ v ∈ r, ∃ i : Int, v = .int i) : ∀ v ∈ U.int a :: r, Gd S v := fun v hv => by
 rcases List.mem_cons.mp hv with rfl | hv
 ·exact .int a
 ·obtain ⟨i, rfl⟩ := hr v hv; exact .int i
theorem bv1 (hs : PyData.strOk s = true) (hl : r.length ≤ 2) (hr : ∀ v ∈ r, ∃ i : Int, v = .int i) : qd S0 (rhV n w (.tup (.str s :: .int a :: r)) more x5) (ab (cCB j7 (ab (ak 2) aq)) (ab (cSl (ak 2) none (some (pW (cC (.int 1))))) (ab (cOp bD (ak 2) (aN (ab (cC (.int 0)) aq))) aq))) 3 := by
 refine cQ (fun q X => ?_) (cQ (iV (u := .tup ((U.str s :: .int a :: r).take ((U.str s :: .int a :: r).length - 1))) (fun q X => ?_) ?_) (cQ (iV (u := .tup (.str s :: .int a :: r ++ [.int 0])) (fun q X => ?_) ?_) eA))
 ·refine ⟨.ref (S0 ++ X).length, [.lst (.str s :: .int a :: r)], ?_, rY (.lst (us := .str s :: .int a :: r) ?_) fun _ z => by cases z⟩
  ·show some (U.ref (S0 ++ X).length, S0 ++ X ++ [O.lst (.str s :: .int a :: r)]) = _
   rw [List.append_assoc]
  ·rw [← List.append_assoc, ga0]; rfl
 ·exact Ge (List.cons_ne_nil _ _)
 ·have e : (U.str s :: .int a :: r).take ((U.str s :: .int a :: r).length - 1) = .str s :: (U.int a :: r).take r.length := by simp only [List.length_cons, Nat.add_sub_cancel, List.take_succ_cons]
  rw [e]
  exact gX (.str s) (fun v hv => GX hr v (List.mem_of_mem_take hv)) (.str s hs)
 ·exact wW (us := .str s :: .int a :: r) (vs := [.int 0]) (by simp; omega)
 ·refine gX (us := .int a :: r ++ [.int 0]) (.str s) (fun v hv => ?_) (.str s hs)
  rcases List.mem_append.mp hv with hv | hv
  ·exact GX hr v hv
  ·rw [List.mem_singleton.mp hv]; exact .int 0
theorem upV (hu : PyData.strOk (Txt.upper s) = true) (h5 : s.length ≤ 5) (hl : r.length ≤ 2) (hr : ∀ v ∈ r, ∃ i : Int, v = .int i) : EvH S0 (rhV n w (.tup (.str s :: .int a :: r)) more x5) (cOp bD (aN (ab (qb fh (cOp fIx (ak 2) (cC (.int 0)))) aq)) (cSl (ak 2) (some (cC (.int 1))) none)) := by
 refine iV (u := .tup ([.str (Txt.upper s)] ++ (.int a :: r))) (fun q X => ?_) (gX (.str _) (GX hr) (.str _ hu))
 have d0 : cOp fIx (ak 2) (cC (.int 0)) (rhV n w (.tup (.str s :: .int a :: r)) more x5 q) (S0 ++ X) = some (.str s, S0 ++ X) := by
  have e : ak 2 (rhV n w (.tup (.str s :: .int a :: r)) more x5 q) (S0 ++ X) = some (.tup (.str s :: .int a :: r), S0 ++ X) := rfl
  have ai : atI (U.str s :: .int a :: r) 0 = some (.str s) := cS (xs := U.str s :: .int a :: r) (j := 0) (v := .str s) rfl
  rw [mY, e, Option.bind_some, iZ, x_c, Option.bind_some, iY, xc, ai]; rfl
 have e1 : qb fh (cOp fIx (ak 2) (cC (.int 0))) (rhV n w (.tup (.str s :: .int a :: r)) more x5 q) (S0 ++ X) = some (.str (Txt.upper s), S0 ++ X) := by
  unfold qb
  rw [d0, Option.bind_some]
  show (if (Txt.upper s).length ≤ 100000 then some (U.str (Txt.upper s), S0 ++ X) else none) = _
  rw [if_pos (Nat.le_trans (len_upper s) (by omega))]
 have e2 : cSl (ak 2) (some (cC (.int 1))) none (rhV n w (.tup (.str s :: .int a :: r)) more x5 q) (S0 ++ X) = some (.tup (.int a :: r), S0 ++ X) := AA (us := .str s :: .int a :: r) (k := 1) (by decide) (by simp)
 rw [mY, sE, eF, e1, Option.bind_some, dI]
 show (GK bD (cSl (ak 2) (some (cC (.int 1))) none) (rhV n w (.tup (.str s :: .int a :: r)) more x5 q)) (.tup [.str (Txt.upper s)], S0 ++ X) = _
 rw [iZ, e2, Option.bind_some, iY]
 exact wW (by simp; omega)
end
section
variable {n w more a : Int} {S0 : Sto} {du : U}
theorem bv2 (hu : EvH S0 (rhV n w du more none) (cOp bD (aN (ab (qb fh (cOp fIx (ak 2) (cC (.int 0)))) aq)) (cSl (ak 2) (some (cC (.int 1))) none))) : qd S0 (rhV n w du more none) (ab (cOp bD (aN (ab (qb fh (cOp fIx (ak 2) (cC (.int 0)))) aq)) (cSl (ak 2) (some (cC (.int 1))) none)) (ab (cC .non) (ab (cC (.str "begin")) (ab (aN aq) (ab (aN (ab (cC (.str "begin")) aq)) aq))))) 5 := by
 repeat' first | exact eA | exact hu | exact gr | exact gq | exact eY | refine eW ?_ (by decide +kernel) | refine eV ?_ (by decide +kernel) | refine eX ?_ (by decide +kernel) | exact gw | exact jg | exact nh | exact jh | apply cQ | apply eZ | apply jf | apply ji | exact jj fun q X => ⟨_, rfl⟩
theorem bv3 (hu : EvH S0 (rhV n w du more none) (cOp bD (aN (ab (qb fh (cOp fIx (ak 2) (cC (.int 0)))) aq)) (cSl (ak 2) (some (cC (.int 1))) none))) : qd S0 (rhV n w du more none) (ab (aN (ab (cC (.str "begin")) (ab (cC (.int 200)) aq))) (ab (aN (ab (cC (.str "begin")) (ab (cOp tY (cC (.int 0)) (cC (.int 1))) aq))) (ab (aN (ab (cC (.str "begin")) (ab (cC (.bl true)) aq))) aq))) 3 := by
 repeat' first | exact eA | exact hu | exact gr | exact gq | exact eY | refine eW ?_ (by decide +kernel) | refine eV ?_ (by decide +kernel) | refine eX ?_ (by decide +kernel) | exact gw | exact jg | exact nh | exact jh | apply cQ | apply eZ | apply jf | apply ji | exact jj fun q X => ⟨_, rfl⟩
theorem bv4 (hu : EvH S0 (rhV n w du more none) (cOp bD (aN (ab (qb fh (cOp fIx (ak 2) (cC (.int 0)))) aq)) (cSl (ak 2) (some (cC (.int 1))) none))) : qd S0 (rhV n w du more none) (ab (aN (ab (cC (.str "begin")) (ab (cC (.str "0")) aq))) (ab (aN (ab (cC (.str "fall")) (ab (cOp bD (cC (.int 200)) (ak 3)) aq))) (ab (aN (ab (cC (.str "done")) (ab (cC .non) aq))) aq))) 3 := by
 repeat' first | exact eA | exact hu | exact gr | exact gq | exact eY | refine eW ?_ (by decide +kernel) | refine eV ?_ (by decide +kernel) | refine eX ?_ (by decide +kernel) | exact gw | exact jg | exact nh | exact jh | apply cQ | apply eZ | apply jf | apply ji | exact jj fun q X => ⟨_, rfl⟩
theorem bv5 (hu : EvH S0 (rhV n w du more none) (cOp bD (aN (ab (qb fh (cOp fIx (ak 2) (cC (.int 0)))) aq)) (cSl (ak 2) (some (cC (.int 1))) none))) : qd S0 (rhV n w du more (some (.int a))) (ab (aN (ab (cC (.str "look")) (ab (ak 5) (ab (cOp fIx (ak 1) (cC (.int 0))) (ab (cC (.int 0)) aq))))) (ab (aN (ab (cC (.str "look")) (ab (ak 5) (ab (cC (.int 0)) (ab (cOp fIx (ak 1) (cC (.int 1))) aq))))) aq)) 2 := by
 repeat' first | exact eA | exact hu | exact gr | exact gq | exact eY | refine eW ?_ (by decide +kernel) | refine eV ?_ (by decide +kernel) | refine eX ?_ (by decide +kernel) | exact gw | exact jg | exact nh | exact jh | apply cQ | apply eZ | apply jf | apply ji | exact jj fun q X => ⟨_, rfl⟩
theorem bv6 (hu : EvH S0 (rhV n w du more none) (cOp bD (aN (ab (qb fh (cOp fIx (ak 2) (cC (.int 0)))) aq)) (cSl (ak 2) (some (cC (.int 1))) none))) : qd S0 (rhV n w du more (some (.int a))) (ab (aN (ab (cC (.str "look")) (ab (ak 5) (ab (cC (.int 0)) (ab (cOp bD (cOp fIx (ak 1) (cC (.int 1))) (ak 3)) aq))))) (ab (aN (ab (cC (.str "put")) (ab (ak 5) (ab (cOp tY (cC (.int 0)) (cC (.int 1))) (ab (cC (.int 0)) aq))))) aq)) 2 := by
 repeat' first | exact eA | exact hu | exact gr | exact gq | exact eY | refine eW ?_ (by decide +kernel) | refine eV ?_ (by decide +kernel) | refine eX ?_ (by decide +kernel) | exact gw | exact jg | exact nh | exact jh | apply cQ | apply eZ | apply jf | apply ji | exact jj fun q X => ⟨_, rfl⟩
theorem bv7 (hu : EvH S0 (rhV n w du more none) (cOp bD (aN (ab (qb fh (cOp fIx (ak 2) (cC (.int 0)))) aq)) (cSl (ak 2) (some (cC (.int 1))) none))) : qd S0 (rhV n w du more (some (.int a))) (ab (aN (ab (cC (.str "look")) (ab (ak 5) (ab (cC (.int 0)) (ab (cC (.bl false)) aq))))) (ab (aN (ab (cC (.str "put")) (ab (ak 5) (ab (cC (.int 0)) (ab (cC .non) aq))))) (ab (aN (ab (cC (.str "look")) (ab (ak 5) (ab (cC (.int 0)) aq)))) aq))) 3 := by
 repeat' first | exact eA | exact hu | exact gr | exact gq | exact eY | refine eW ?_ (by decide +kernel) | refine eV ?_ (by decide +kernel) | refine eX ?_ (by decide +kernel) | exact gw | exact jg | exact nh | exact jh | apply cQ | apply eZ | apply jf | apply ji | exact jj fun q X => ⟨_, rfl⟩
theorem bv8 (hu : EvH S0 (rhV n w du more none) (cOp bD (aN (ab (qb fh (cOp fIx (ak 2) (cC (.int 0)))) aq)) (cSl (ak 2) (some (cC (.int 1))) none))) : qd S0 (rhV n w du more (some (.int a))) (ab (aN (ab (cC (.str "put")) (ab (ak 5) (ab (cC (.int 0)) (ab (cC (.int 0)) (ab (cC (.int 0)) aq)))))) (ab (aN (ab (cC (.str "take")) (ab (ak 5) aq))) (ab (aN (ab (cC (.str "open")) (ab (ak 5) aq))) aq))) 3 := by
 repeat' first | exact eA | exact hu | exact gr | exact gq | exact eY | refine eW ?_ (by decide +kernel) | refine eV ?_ (by decide +kernel) | refine eX ?_ (by decide +kernel) | exact gw | exact jg | exact nh | exact jh | apply cQ | apply eZ | apply jf | apply ji | exact jj fun q X => ⟨_, rfl⟩
theorem bv9 (hu : EvH S0 (rhV n w du more none) (cOp bD (aN (ab (qb fh (cOp fIx (ak 2) (cC (.int 0)))) aq)) (cSl (ak 2) (some (cC (.int 1))) none))) : qd S0 (rhV n w du more (some (.int a))) (ab (aN (ab (cC (.str "put")) (ab (ak 5) (ab (cC (.int 0)) (ab (cC (.int 0)) aq))))) (ab (aN (ab (cC (.str "look")) (ab (ak 5) (ab (cC (.int 0)) (ab (cC (.int 1)) aq))))) (ab (aN (ab (cC (.str "done")) (ab (ak 5) aq))) aq))) 3 := by
 repeat' first | exact eA | exact hu | exact gr | exact gq | exact eY | refine eW ?_ (by decide +kernel) | refine eV ?_ (by decide +kernel) | refine eX ?_ (by decide +kernel) | exact gw | exact jg | exact nh | exact jh | apply cQ | apply eZ | apply jf | apply ji | exact jj fun q X => ⟨_, rfl⟩
theorem IL (hu : EvH S0 (rhV n w du more none) (cOp bD (aN (ab (qb fh (cOp fIx (ak 2) (cC (.int 0)))) aq)) (cSl (ak 2) (some (cC (.int 1))) none))) : qd S0 (rhV n w du more (some (.int a))) (ab (aN (ab (cC (.str "fall")) (ab (ak 5) aq))) (ab (aN (ab (cC (.str "begin")) (ab (ak 5) aq))) (ab (aN (ab (aN (ab (cC (.str "begin")) aq)) (ab (ak 5) aq))) aq))) 3 := by
 repeat' first | exact eA | exact hu | exact gr | exact gq | exact eY | refine eW ?_ (by decide +kernel) | refine eV ?_ (by decide +kernel) | refine eX ?_ (by decide +kernel) | exact gw | exact jg | exact nh | exact jh | apply cQ | apply eZ | apply jf | apply ji | exact jj fun q X => ⟨_, rfl⟩
theorem IK (hu : EvH S0 (rhV n w du more none) (cOp bD (aN (ab (qb fh (cOp fIx (ak 2) (cC (.int 0)))) aq)) (cSl (ak 2) (some (cC (.int 1))) none))) : qd S0 (rhV n w du more (some (.int a))) (ab (aN (ab (cC (.str "begin")) (ab (bE (ab (cC (.int 0)) aq)) aq))) (ab (aN (ab (cC (.str "look")) (ab (ak 5) (ab (bE (ab (cC (.int 0)) aq)) (ab (cC (.int 0)) aq))))) (ab (aN (ab (cC (.str "put")) (ab (ak 5) (ab (cC (.int 0)) (ab (bE (ab (cC (.int 0)) aq)) aq))))) (ab (aN (ab (cC (.str "look")) (ab (bE (ab (ak 5) aq)) (ab (cC (.int 0)) (ab (cC (.int 0)) aq))))) (ab (aN (ab (bE (ab (cC (.str "begin")) aq)) (ab (ak 5) aq))) aq))))) 5 := by
 repeat' first | exact eA | exact hu | exact gr | exact gq | exact eY | refine eW ?_ (by decide +kernel) | refine eV ?_ (by decide +kernel) | refine eX ?_ (by decide +kernel) | exact gw | exact jg | exact nh | exact jh | apply cQ | apply eZ | apply jf | apply ji | exact jj fun q X => ⟨_, rfl⟩
end
noncomputable def jU : Fn := fnU 6 3 (cR aL)
theorem wO (ns : List Int) (T : Sto) {n w a0 c : Int} (ha : 0 ≤ a0) (hc : 0 ≤ c) (e : Ev) :
  ∃ u a' c' G, jU [.ref 1, .tup [.int n, .int w], e.u] (scr ns :: pen a0 c :: T) = some (u, scr ns :: pen a' c' :: (T ++ G)) ∧ GdE (scr ns :: pen a' c' :: (T ++ G)) u ∧ 0 ≤ a' ∧ 0 ≤ c' := by
 obtain ⟨s, a, r, eu, h5, hs, hup, hl, hr⟩ := yG e
 rw [eu]
 unfold jU
 rw [ke]
 obtain ⟨m, hm⟩ : ∃ m : Int, m = 10 ^ (50 : Int).toNat := ⟨_, rfl⟩
 have hp : ∀ {S : Sto}, yA (.int 10) (.int 50) S = some (.int m, S) := by rw [hm]; exact B8 (by decide)
 obtain ⟨f, a1, c1, e0, f0, f1, ha1, hc1⟩ := aU ns T ha hc (m := m) (by rw [hm]; decide +kernel) (by rw [hm]; decide +kernel)
 have b1 := bv1 (n := n) (w := w) (more := f) (a := a) (x5 := none) (S0 := scr ns :: pen a1 c1 :: T) hs hl hr
 have hu := upV (n := n) (w := w) (more := f) (a := a) (x5 := none) (S0 := scr ns :: pen a1 c1 :: T) hup h5 hl hr
 obtain ⟨du, hdu⟩ : ∃ du, du = U.tup (.str s :: .int a :: r) := ⟨_, rfl⟩
 have ai : atI (U.str s :: .int a :: r) 1 = some (.int a) := cS (xs := U.str s :: .int a :: r) (j := 1) (v := .int a) rfl
 have E5 : ∀ (q : Option U) (S : Sto), bZ 5 (cOp fIx (ak 2) (cC (.int 1))) (rhV n w du f none q) S = some (.nx, rhV n w du f (some (.int a)) q, S) := fun q S => by
  have e : ak 2 (rhV n w du f none q) S = some (du, S) := rfl
  rw [gR, mY, e, hdu, Option.bind_some, iZ, x_c, Option.bind_some, iY, xc, ai]; rfl
 rw [← hdu] at b1 hu ⊢
 have E0 : bZ 3 (cCB aL (ab (ak 0) (ab (cOp yA (cC (.int 10)) (cC (.int 50))) aq))) [some (.ref 1), some (.tup [.int n, .int w]), some du, none, none, none] (scr ns :: pen a0 c :: T) = some (.nx, rhV n w du f none none, scr ns :: pen a1 c1 :: T) := by
  rwa [rhV, hp, e0]
 have hset : ∀ q u, (rhV n w du f none q).set 4 (some u) = rhV n w du f none (some u) := fun _ _ => rfl
 have hget : ∀ u S, ak 4 (rhV n w du f none (some u)) S = some (u, S) := fun _ _ => rfl
 have hset2 : ∀ q u, (rhV n w du f (some (.int a)) q).set 4 (some u) = rhV n w du f (some (.int a)) (some u) := fun _ _ => rfl
 have hget2 : ∀ u S, ak 4 (rhV n w du f (some (.int a)) (some u)) S = some (u, S) := fun _ _ => rfl
 have two : 2 ≤ (scr ns :: pen a1 c1 :: T).length := by simp
 obtain ⟨l1, G1, e1, L1⟩ := vY (q := none) (X := []) hset two b1
 rw [List.append_nil, List.nil_append] at e1
 rw [List.nil_append] at L1
 obtain ⟨l2, G2, e2, L2⟩ := eR hset hget two L1 (by decide) (bv2 hu)
 obtain ⟨l3, G3, e3, L3⟩ := eR hset hget two L2 (by decide) (bv3 hu)
 obtain ⟨l4, G4, e4, L4⟩ := eR hset hget two L3 (by decide) (bv4 hu)
 obtain ⟨l5, G5, e5, L5⟩ := eR hset2 hget2 two L4 (by decide) (bv5 (a := a) hu)
 obtain ⟨l6, G6, e6, L6⟩ := eR hset2 hget2 two L5 (by decide) (bv6 (a := a) hu)
 obtain ⟨l7, G7, e7, L7⟩ := eR hset2 hget2 two L6 (by decide) (bv7 (a := a) hu)
 obtain ⟨l8, G8, e8, L8⟩ := eR hset2 hget2 two L7 (by decide) (bv8 (a := a) hu)
 obtain ⟨l9, G9, e9, L9⟩ := eR hset2 hget2 two L8 (by decide) (bv9 (a := a) hu)
 obtain ⟨l10, G10, e10, L10⟩ := eR hset2 hget2 two L9 (by decide) (IL (a := a) hu)
 obtain ⟨l11, G11, e11, L11⟩ := eR hset2 hget2 two L10 (by decide) (IK (a := a) hu)
 unfold cR
 rw [fS E0, fS e1, fS e2, fS e3, fS e4, fS (E5 _ _), fS e5, fS e6, fS e7, fS e8, fS e9, fS e10, fS e11]
 clear e1 e2 e3 e4 e5 e6 e7 e8 e9 e10 e11 L1 L2 L3 L4 L5 L6 L7 L8 L9 L10 b1 hu
 revert L11
 generalize G1 ++ G2 ++ G3 ++ G4 ++ G5 ++ G6 ++ G7 ++ G8 ++ G9 ++ G10 ++ G11 = X
 intro L11
 have L : LsH (scr ns :: pen a1 c1 :: (T ++ X)) l11 35 := L11
 obtain ⟨g, a2, c2, e2, g0, g1, ha2, hc2⟩ := aU ns (T ++ X) ha1 hc1 (m := 35) (by decide) (by decide)
 obtain ⟨u, eu, gu⟩ := L.at (a' := a2) (c' := c2) g0 g1
 refine ⟨u, a2, c2, X, ?_, gu, ha2, hc2⟩
 show (ed (cOp fIx (ak 4) (cCB aL (ab (ak 0) (ab (cC (.int 35)) aq)))) (rhV n w du f (some (.int a)) (some (.ref l11))) (scr ns :: pen a1 c1 :: (T ++ X))).bind kFn = _
 have e3 : cCB aL (ab (ak 0) (ab (cC (.int 35)) aq)) (rhV n w du f (some (.int a)) (some (.ref l11))) (scr ns :: pen a1 c1 :: (T ++ X)) = some (.int g, scr ns :: pen a2 c2 :: (T ++ X)) := e2
 rw [sF, mY, hget2, Option.bind_some, iZ, e3, Option.bind_some, iY, eu]
 rfl
noncomputable def LsQ (S : Sto) (u : U) (k : Nat) : Prop := ∃ l us, u = .ref l ∧ 2 ≤ l ∧ S[l]? = some (.lst us) ∧ us.length ≤ k ∧ ∀ v ∈ us, GdE S v
theorem LsQ.app {S : Sto} {u : U} {k : Nat} (h : LsQ S u k) (X : Sto) : LsQ (S ++ X) u k := by
 obtain ⟨l, us, e, l2, hl, hk, g⟩ := h
 exact ⟨l, us, e, l2, aF hl, hk, fun v hv => (g v hv).app X⟩
theorem LsQ.pen {ns : List Int} {a c a' c' : Int} {T : Sto} {u : U} {k : Nat} (h : LsQ (scr ns :: pen a c :: T) u k) : LsQ (scr ns :: pen a' c' :: T) u k := by
 obtain ⟨l, us, e, l2, hl, hk, g⟩ := h
 obtain ⟨l', rfl⟩ : ∃ l', l = l' + 2 := ⟨l - 2, by omega⟩
 exact ⟨l' + 2, us, e, l2, hl, hk, fun v hv => (g v hv).pen⟩
noncomputable def Th2 (S : Sto) (u : U) : Prop := (∃ k, LsQ S u k) ∨ (∀ l, u ≠ .ref l) ∧ Gd S u
theorem Th2.th {S : Sto} {u : U} (h : Th2 S u) : Th S u := by
 rcases h with ⟨k, l, us, e, _, hl, _, g⟩ | h
 ·exact .inl ⟨l, us, e, hl, g⟩
 ·exact .inr h
theorem Th2.app {S : Sto} {u : U} (h : Th2 S u) (X : Sto) : Th2 (S ++ X) u := by
 rcases h with ⟨k, h⟩ | ⟨h, g⟩
 ·exact .inl ⟨k, h.app X⟩
 ·exact .inr ⟨h, g.app X⟩
theorem Th2.pen {ns : List Int} {a c a' c' : Int} {T : Sto} {u : U} (h : Th2 (scr ns :: pen a c :: T) u) : Th2 (scr ns :: pen a' c' :: T) u := by
 rcases h with ⟨k, h⟩ | ⟨h, g⟩
 ·exact .inl ⟨k, h.pen⟩
 ·exact .inr ⟨h, g.pen⟩
section
variable {ρ : Rho} {S0 : Sto} {ce c1 c2 : CE} {cr : CA} {k k1 k2 m i : Nat} {u : U} {us : List U}
noncomputable def EvQ (ρ : Rho) (S0 : Sto) (ce : CE) (k : Nat) : Prop := ∀ X, ∃ u G, ce ρ (S0 ++ X) = some (u, S0 ++ (X ++ G)) ∧ LsQ (S0 ++ (X ++ G)) u k
theorem mz (l2 : 2 ≤ S0.length) (h : ∀ X, ∃ us G, ce ρ (S0 ++ X) = some (.ref (S0 ++ (X ++ G)).length, S0 ++ (X ++ G) ++ [.lst us]) ∧ us.length ≤ k ∧ ∀ v ∈ us, GdE (S0 ++ (X ++ G)) v) : EvQ ρ S0 ce k := fun X => by
 obtain ⟨us, G, e, hl, g⟩ := h X
 refine ⟨_, G ++ [.lst us], by rw [e]; simp only [List.append_assoc], (S0 ++ (X ++ G)).length, us, rfl, by simp; omega, ?_, hl, fun v hv => ?_⟩
 ·rw [← List.append_assoc, ← List.append_assoc, List.append_assoc S0, ga0]; rfl
 ·have := (g v hv).app [.lst us]
  rw [List.append_assoc, List.append_assoc] at this
  exact this
theorem my (hv : ρ[i]? = some (some u)) (h : LsQ S0 u k) : EvQ ρ S0 (ak i) k := fun X => ⟨u, [], by unfold ak; rw [hv, List.append_nil], h.app _⟩
theorem je {cl ch : Option CE} {lo hi : Option Int} (l2 : 2 ≤ S0.length) (hv : ρ[i]? = some (some u)) (h : LsQ S0 u k) (h1 : ∀ S, gZ cl ρ S = some (lo, S)) (h2 : ∀ S, gZ ch ρ S = some (hi, S)) : EvQ ρ S0 (cSl (ak i) cl ch) k := mz l2 fun X => by
 obtain ⟨l, us, rfl, _, hl, hk, g⟩ := h
 have e0 : ak i ρ (S0 ++ X) = some (.ref l, S0 ++ X) := by unfold ak; rw [hv]
 have g0 : (S0 ++ X)[l]? = some (.lst us) := aF hl
 have sub : ∀ v ∈ sg us lo hi, v ∈ us := fun v hv => List.mem_of_mem_drop (List.mem_of_mem_take hv)
 have len : (sg us lo hi).length ≤ us.length := by unfold sg; rw [List.length_take, List.length_drop]; omega
 refine ⟨sg us lo hi, [], ?_, by omega, fun v hv => (g v (sub v hv)).app _⟩
 unfold cSl
 rw [e0, Option.bind_some]
 simp only [h1, h2, Option.bind_some, fSl, g0, List.append_nil]
theorem ej (l2 : 2 ≤ S0.length) (h1 : EvQ ρ S0 c1 k1) (h2 : EvQ ρ S0 c2 k2) (hk : k1 + k2 ≤ 9000) : EvQ ρ S0 (cOp bD c1 c2) (k1 + k2) := mz l2 fun X => by
 obtain ⟨u1, G1, e1, q1⟩ := h1 X
 obtain ⟨u2, G2, e2, l', vs, rfl, _, hl2, hk2, g2⟩ := h2 (X ++ G1)
 obtain ⟨l, us, rfl, _, hl1, hk1, g1⟩ := q1.app G2
 rw [List.append_assoc] at e2 hl2 g2
 have ea : S0 ++ (X ++ G1) ++ G2 = S0 ++ (X ++ (G1 ++ G2)) := by simp only [List.append_assoc]
 rw [ea] at hl1 g1
 refine ⟨us ++ vs, G1 ++ G2, ?_, by rw [List.length_append]; omega, fun v hv => ?_⟩
 ·rw [mY, e1, Option.bind_some, iZ, e2, Option.bind_some, iY]
  have hz : us.length + vs.length ≤ LIM := by unfold LIM; omega
  simp only [bD, jv, hl1, hl2]
  rw [if_pos hz]
 ·rcases List.mem_append.mp hv with hv | hv
  ·exact g1 v hv
  ·exact g2 v hv
theorem kc (l2 : 2 ≤ S0.length) (h : ∀ S, ce ρ S = some (u, S)) (g : GdE S0 u) : EvQ ρ S0 (bE (ab ce aq)) 1 := mz l2 fun X => by
 refine ⟨[u], [], ?_, Nat.le_refl 1, fun v hv => by rw [List.mem_singleton.mp hv]; exact g.app _⟩
 rw [nN, eF, h, List.append_nil]; rfl
noncomputable def EvT (ρ : Rho) (S0 : Sto) (ce : CE) : Prop := ∀ X, ∃ u G, ce ρ (S0 ++ X) = some (u, S0 ++ (X ++ G)) ∧ Th2 (S0 ++ (X ++ G)) u
noncomputable def zO (ρ : Rho) (S0 : Sto) (cr : CA) (m : Nat) : Prop := ∀ X, ∃ us G, cr ρ (S0 ++ X) = some (us, S0 ++ (X ++ G)) ∧ us.length = m ∧ ∀ u ∈ us, Th2 (S0 ++ (X ++ G)) u
theorem qJ (h : EvQ ρ S0 ce k) : EvT ρ S0 ce := fun X => by
 obtain ⟨u, G, e, q⟩ := h X
 exact ⟨u, G, e, .inl ⟨k, q⟩⟩
theorem jQ (h : ∀ S, ce ρ S = some (u, S)) (hn : ∀ l, u ≠ .ref l) (g : Gd S0 u) : EvT ρ S0 ce := fun X => ⟨u, [], by rw [h, List.append_nil], .inr ⟨hn, g.app _⟩⟩
theorem oy : zO ρ S0 aq 0 := fun X => ⟨[], [], by rw [List.append_nil]; rfl, rfl, fun u hu => by cases hu⟩
theorem cP (h : EvT ρ S0 ce) (t : zO ρ S0 cr m) : zO ρ S0 (ab ce cr) (m + 1) := fun X => by
 obtain ⟨u, G, e, g⟩ := h X
 obtain ⟨us, G', e', l', g'⟩ := t (X ++ G)
 refine ⟨u :: us, G ++ G', ?_, by rw [List.length_cons, l'], fun v hv => ?_⟩
 ·rw [eF, e, Option.bind_some, dI, e', Option.bind_some, jl, List.append_assoc]
 ·rw [List.append_assoc] at g'
  rcases List.mem_cons.mp hv with rfl | hv
  ·have := g.app G'
   rw [List.append_assoc, List.append_assoc] at this
   exact this
  ·exact g' v hv
end
theorem tk {ns : List Int} {T : Sto} {ρ : Rho} {a c m : Int} {f a' c' : Int} (hv : ρ[0]? = some (some (.ref 1))) (h : aL [.ref 1, .int m] (scr ns :: pen a c :: T) = some (.int f, scr ns :: pen a' c' :: T)) : cCB aL (ab (ak 0) (ab (cC (.int m)) aq)) ρ (scr ns :: pen a c :: T) = some (.int f, scr ns :: pen a' c' :: T) := by
 have e0 : ak 0 ρ (scr ns :: pen a c :: T) = some (.ref 1, scr ns :: pen a c :: T) := by unfold ak; rw [hv]
 rw [Cu, eF, e0, Option.bind_some, dI]
 exact h
theorem AU (ns : List Int) (T : Sto) {ρ : Rho} {a c : Int} {cr : CA} {m : Nat} (ha : 0 ≤ a) (hc : 0 ≤ c) (hv : ρ[0]? = some (some (.ref 1))) (m0 : 0 < m) (m1 : m ≤ 100) (h : zO ρ (scr ns :: pen a c :: T) cr m) :
  ∃ u a' c' G, cOp fIx (bE cr) (cCB aL (ab (ak 0) (ab (cC (.int m)) aq))) ρ (scr ns :: pen a c :: T) = some (u, scr ns :: pen a' c' :: (T ++ G)) ∧ Th2 (scr ns :: pen a' c' :: (T ++ G)) u ∧ 0 ≤ a' ∧ 0 ≤ c' := by
 obtain ⟨us, G, e, hl, g⟩ := h []
 rw [List.append_nil, List.nil_append] at e
 rw [List.nil_append] at g
 obtain ⟨i, a3, c3, e5, i0, i1, ha3, hc3⟩ := aU ns (T ++ G ++ [O.lst us]) ha hc (m := (m : Int)) (by omega) (by
  have := Nat.log2_le_self ((m : Int)).natAbs
  omega)
 have hf : i.toNat < us.length := by omega
 obtain ⟨v, hu⟩ : ∃ u, us[i.toNat]? = some u := ⟨_, List.getElem?_eq_getElem hf⟩
 have ai : atI us i = some v := by
  have := cS (xs := us) (j := i.toNat) (v := v) hu
  rw [show ((i.toNat : Nat) : Int) = i from by omega] at this
  exact this
 have gl : (scr ns :: pen a3 c3 :: (T ++ G ++ [O.lst us]))[T.length + G.length + 2]? = some (.lst us) := by
  show (T ++ G ++ [O.lst us])[T.length + G.length]? = _
  rw [← List.length_append, ga0]; rfl
 have ln : (scr ns :: pen a c :: (T ++ G)).length = T.length + G.length + 2 := by simp
 refine ⟨v, a3, c3, G ++ [.lst us], ?_, ?_, ha3, hc3⟩
 ·have e' : bE cr ρ (scr ns :: pen a c :: T) = some (.ref (T.length + G.length + 2), scr ns :: pen a c :: (T ++ G ++ [O.lst us])) := by
   rw [nN, e]
   show some (U.ref (scr ns :: pen a c :: (T ++ G)).length, scr ns :: pen a c :: (T ++ G ++ [O.lst us])) = _
   rw [ln]
  rw [mY, e', Option.bind_some, iZ, tk hv e5, Option.bind_some, iY, sG, gl, sH, ai, ← List.append_assoc]; rfl
 ·have := (g v (List.mem_of_getElem? hu)).app [O.lst us]
  have t2 : Th2 (scr ns :: pen a c :: (T ++ (G ++ [O.lst us]))) v := by rw [← List.append_assoc]; exact this
  exact t2.pen
noncomputable def rhG (n w : Int) (l : Nat) (x3 x4 x5 x6 : Option U) : Rho := [some (.ref 1), some (.tup [.int n, .int w]), some (.ref l), x3, x4, x5, x6]
noncomputable def qW : Fn := fnU 7 3 (fq aL jU)
theorem iU {S : Sto} {s : Str} {i : Int} (h : PyData.strOk s = true) : GdE S (.tup [.str s, .int i]) := gX (.str s) (fun v hv => by rw [List.mem_singleton.mp hv]; exact .int i) (.str s h)
section
variable {n w : Int} {evs : List Ev} {l : Nat}
theorem qx {S : Sto} (l2 : 2 ≤ l) (hl : S[l]? = some (.lst (evs.map Ev.u))) (he : evs.length ≤ 900) : LsQ S (.ref l) 900 := ⟨l, _, rfl, l2, hl, by rw [List.length_map]; exact he, fun v hv => by
 obtain ⟨e, _, rfl⟩ := List.mem_map.mp hv
 exact pJ e S⟩
theorem yQ (ns : List Int) (T : Sto) {a c : Int} (ha : 0 ≤ a) (hc : 0 ≤ c) (l2 : 2 ≤ l) (hl : (scr ns :: pen a c :: T)[l]? = some (.lst (evs.map Ev.u))) (he : evs.length ≤ 900) :
  ∃ u a' c' G, ed (cOp fIx (bE (ab (cCB gK (ab (ak 2) aq)) (ab (cOp bD (ak 2) (bE (ab (cC .non) aq))) (ab (cOp bD (ak 2) (bE (ab (aN (ab (cC (.str "done")) (ab (cC (.int 5)) aq))) aq))) (ab (cC (.str "log")) aq))))) (cCB aL (ab (ak 0) (ab (cC (.int 4)) aq)))) (rhG n w l none none none none) (scr ns :: pen a c :: T) = some (.rt u, rhG n w l none none none none, scr ns :: pen a' c' :: (T ++ G)) ∧ Th2 (scr ns :: pen a' c' :: (T ++ G)) u ∧ 0 ≤ a' ∧ 0 ≤ c' := by
 have q := qx (S := scr ns :: pen a c :: T) l2 hl he
 have two : 2 ≤ (scr ns :: pen a c :: T).length := by simp
 have hv : (rhG n w l none none none none)[2]? = some (some (.ref l)) := rfl
 have E : zO (rhG n w l none none none none) (scr ns :: pen a c :: T) (ab (cCB gK (ab (ak 2) aq)) (ab (cOp bD (ak 2) (bE (ab (cC .non) aq))) (ab (cOp bD (ak 2) (bE (ab (aN (ab (cC (.str "done")) (ab (cC (.int 5)) aq))) aq))) (ab (cC (.str "log")) aq)))) 4 := by
  refine cP (fun X => ?_) (cP (qJ (ej two (my hv q) (kc (u := .non) two (fun _ => rfl) (rY .non fun _ z => by cases z)) (by decide))) (cP (qJ (ej two (my hv q) (kc (u := .tup [.str "done", .int 5]) two (fun _ => rfl) (iU (by decide +kernel))) (by decide))) (cP (jQ (u := .str "log") (fun _ => rfl) (fun _ z => by cases z) (.str _)) oy)))
  refine ⟨.tup (evs.map Ev.u), [], ?_, .inr ⟨fun _ z => (by cases z), .tup fun v hv => ?_⟩⟩
  ·have g0 : ((scr ns :: pen a c :: T) ++ X)[l]? = some (.lst (evs.map Ev.u)) := aF hl
   show gK [.ref l] ((scr ns :: pen a c :: T) ++ X) = _
   rw [yY, g0, List.append_nil]; rfl
  ·obtain ⟨e, _, rfl⟩ := List.mem_map.mp hv
   exact (pJ e _).gd
 obtain ⟨u, a', c', G, e, g, ha', hc'⟩ := AU ns T ha hc (m := 4) (ρ := rhG n w l none none none none) rfl (by decide) (by decide) E
 refine ⟨u, a', c', G, ?_, g, ha', hc'⟩
 rw [sF]
 show ((cOp fIx (bE _) (cCB aL (ab (ak 0) (ab (cC (.int ((4 : Nat) : Int))) aq)))) (rhG n w l none none none none) (scr ns :: pen a c :: T)).bind (GH (rhG n w l none none none none)) = _
 rw [e]; rfl
theorem pq {c : CE} {ρ : Rho} {i : Int} (h : ∀ S, c ρ S = some (.int i, S)) (S : Sto) : gZ (some c) ρ S = some (some i, S) := uM (h S)
theorem yR (ns : List Int) (T : Sto) {a c : Int} (ha : 0 ≤ a) (hc : 0 ≤ c) (l2 : 2 ≤ l) (hl : (scr ns :: pen a c :: T)[l]? = some (.lst (evs.map Ev.u))) (he : evs.length ≤ 900) :
  ∃ u a' c' G, qW [.ref 1, .tup [.int n, .int w], .ref l] (scr ns :: pen a c :: T) = some (u, scr ns :: pen a' c' :: (T ++ G)) ∧ Th2 (scr ns :: pen a' c' :: (T ++ G)) u ∧ 0 ≤ a' ∧ 0 ≤ c' := by
 unfold qW
 rw [pQ]
 obtain ⟨l', rfl⟩ : ∃ l', l = l' + 2 := ⟨l - 2, by omega⟩
 have hT : T[l']? = some (.lst (evs.map Ev.u)) := hl
 have hl0 : ∀ (a c : Int) (G : Sto), (scr ns :: pen a c :: (T ++ G))[l' + 2]? = some (.lst (evs.map Ev.u)) := fun _ _ G => aF hT
 have hn : (scr ns :: pen a c :: (T ++ [O.lst []]))[T.length + 2]? = some (.lst []) := by show (T ++ [O.lst []])[T.length]? = _; rw [ga0]; rfl
 have q0 := rG false (hl0 a c [O.lst []]) hn
 have t1 : aG (cOp (mV false) (ak 2) (bE aq)) (rhG n w (l' + 2) none none none none) (scr ns :: pen a c :: T) = some (decide (evs.map Ev.u = []), scr ns :: pen a c :: (T ++ [O.lst []])) := by
  have e0 : bE aq (rhG n w (l' + 2) none none none none) (scr ns :: pen a c :: T) = some (.ref (T.length + 2), scr ns :: pen a c :: (T ++ [O.lst []])) := rfl
  have ev : ak 2 (rhG n w (l' + 2) none none none none) (scr ns :: pen a c :: T) = some (.ref (l' + 2), scr ns :: pen a c :: T) := rfl
  rw [i8, mY, ev, Option.bind_some, iZ, e0, Option.bind_some, iY, q0]
  rfl
 have hρ : [some (U.ref 1), some (U.tup [.int n, .int w]), some (U.ref (l' + 2)), none, none, none, none] = rhG n w (l' + 2) none none none none := rfl
 rw [hρ]
 unfold fq
 have first : ∀ a1 c1 : Int, 0 ≤ a1 → 0 ≤ c1 → (cOr (aG (cOp (mV false) (ak 2) (bE aq))) (aG (cOp fEq (cCB aL (ab (ak 0) (ab (cC (.int 12)) aq))) (cC (.int 0))))) (rhG n w (l' + 2) none none none none) (scr ns :: pen a c :: T) = some (true, scr ns :: pen a1 c1 :: (T ++ [O.lst []])) → ∀ rest : CS, ∃ u a' c' G, (aZ (d9 (cOr (aG (cOp (mV false) (ak 2) (bE aq))) (aG (cOp fEq (cCB aL (ab (ak 0) (ab (cC (.int 12)) aq))) (cC (.int 0))))) (ed (cOp fIx (bE (ab (cCB gK (ab (ak 2) aq)) (ab (cOp bD (ak 2) (bE (ab (cC .non) aq))) (ab (cOp bD (ak 2) (bE (ab (aN (ab (cC (.str "done")) (ab (cC (.int 5)) aq))) aq))) (ab (cC (.str "log")) aq))))) (cCB aL (ab (ak 0) (ab (cC (.int 4)) aq))))) bM) rest (rhG n w (l' + 2) none none none none) (scr ns :: pen a c :: T)).bind kFn = some (u, scr ns :: pen a' c' :: (T ++ G)) ∧ Th2 (scr ns :: pen a' c' :: (T ++ G)) u ∧ 0 ≤ a' ∧ 0 ≤ c' := fun a1 c1 ha1 hc1 t rest => by
  obtain ⟨u, a2, c2, G, e, g, ha2, hc2⟩ := yQ (n := n) (w := w) ns (T ++ [O.lst []]) ha1 hc1 l2 (hl0 a1 c1 [O.lst []]) he
  rw [List.append_assoc] at e g
  refine ⟨u, a2, c2, [O.lst []] ++ G, ?_, g, ha2, hc2⟩
  rw [ua, xf, t, Option.bind_some, uf, e]
  rfl
 by_cases hz : evs.map Ev.u = []
 ·rw [decide_eq_true hz] at t1
  exact first a c ha hc (by rw [EF, t1, Option.bind_some, Cd]) _
 ·rw [decide_eq_false hz] at t1
  obtain ⟨i, a1, c1, e1, i0, i1, ha1, hc1⟩ := aU ns (T ++ [O.lst []]) ha hc (m := 12) (by decide) (by decide)
  by_cases hi : i = 0
  ·refine first a1 c1 ha1 hc1 ?_ _
   have d1 : decide (i = 0) = true := decide_eq_true hi
   have e2 := tk (ρ := rhG n w (l' + 2) none none none none) rfl e1
   rw [EF, t1, Option.bind_some, zR, i8, mY, e2, Option.bind_some, iZ, x_c, Option.bind_some, iY, zZ, d1]
   rfl
  ·have d1 : decide (i = 0) = false := decide_eq_false hi
   have e2 := tk (ρ := rhG n w (l' + 2) none none none none) rfl e1
   have E1 : (d9 (cOr (aG (cOp (mV false) (ak 2) (bE aq))) (aG (cOp fEq (cCB aL (ab (ak 0) (ab (cC (.int 12)) aq))) (cC (.int 0))))) (ed (cOp fIx (bE (ab (cCB gK (ab (ak 2) aq)) (ab (cOp bD (ak 2) (bE (ab (cC .non) aq))) (ab (cOp bD (ak 2) (bE (ab (aN (ab (cC (.str "done")) (ab (cC (.int 5)) aq))) aq))) (ab (cC (.str "log")) aq))))) (cCB aL (ab (ak 0) (ab (cC (.int 4)) aq))))) bM) (rhG n w (l' + 2) none none none none) (scr ns :: pen a c :: T) = some (.nx, rhG n w (l' + 2) none none none none, scr ns :: pen a1 c1 :: (T ++ [O.lst []])) := by
    rw [xf, EF, t1, Option.bind_some, zR, i8, mY, e2, Option.bind_some, iZ, x_c, Option.bind_some, iY, zZ, d1]
    rfl
   have hpos : 0 < evs.length := by
    cases evs with
    | nil => exact absurd rfl hz
    | cons _ _ => simp
   obtain ⟨f, a2, c2, e3, f0, f1, ha2, hc2⟩ := aU ns (T ++ [O.lst []]) ha1 hc1 (m := (evs.length : Int)) (by omega) (by
    have := Nat.log2_le_self ((evs.length : Int)).natAbs
    omega)
   have g1 := hl0 a1 c1 [O.lst []]
   have E2 : bZ 3 (cCB aL (ab (ak 0) (ab (cCB jd (ab (ak 2) aq)) aq))) (rhG n w (l' + 2) none none none none) (scr ns :: pen a1 c1 :: (T ++ [O.lst []])) = some (.nx, rhG n w (l' + 2) (some (.int f)) none none none, scr ns :: pen a2 c2 :: (T ++ [O.lst []])) := by
    have el : cCB jd (ab (ak 2) aq) (rhG n w (l' + 2) none none none none) (scr ns :: pen a1 c1 :: (T ++ [O.lst []])) = some (.int evs.length, scr ns :: pen a1 c1 :: (T ++ [O.lst []])) := by
     show jd [.ref (l' + 2)] (scr ns :: pen a1 c1 :: (T ++ [O.lst []])) = _
     rw [y4, g1, y6, List.length_map]
    have e0 : ak 0 (rhG n w (l' + 2) none none none none) (scr ns :: pen a1 c1 :: (T ++ [O.lst []])) = some (.ref 1, scr ns :: pen a1 c1 :: (T ++ [O.lst []])) := rfl
    rw [gR, Cu, eF, e0, Option.bind_some, dI, eF, el, Option.bind_some, dI]
    show (aL [.ref 1, .int evs.length] (scr ns :: pen a1 c1 :: (T ++ [O.lst []]))).bind (zC 3 (rhG n w (l' + 2) none none none none)) = _
    rw [e3]
    rfl
   obtain ⟨way, a3, c3, e4, y0, y1, ha3, hc3⟩ := aU ns (T ++ [O.lst []]) ha2 hc2 (m := 6) (by decide) (by decide)
   have E3 : bZ 4 (cCB aL (ab (ak 0) (ab (cC (.int 6)) aq))) (rhG n w (l' + 2) (some (.int f)) none none none) (scr ns :: pen a2 c2 :: (T ++ [O.lst []])) = some (.nx, rhG n w (l' + 2) (some (.int f)) (some (.int way)) none none, scr ns :: pen a3 c3 :: (T ++ [O.lst []])) := by
    rw [gR, tk rfl e4]
    rfl
   obtain ⟨k, rfl⟩ : ∃ k : Nat, f = (k : Int) := ⟨f.toNat, by omega⟩
   have kl : k < evs.length := by omega
   obtain ⟨e, hek⟩ : ∃ e, evs[k]? = some e := ⟨_, List.getElem?_eq_getElem kl⟩
   have hku : (evs.map Ev.u)[k]? = some e.u := by rw [List.getElem?_map, hek]; rfl
   obtain ⟨v, a4, c4, G, e5, gv, ha4, hc4⟩ := wO (n := n) (w := w) ns (T ++ [O.lst []]) ha3 hc3 e
   have E4 : bZ 5 (cCB jU (ab (ak 0) (ab (ak 1) (ab (cOp fIx (ak 2) (ak 3)) aq)))) (rhG n w (l' + 2) (some (.int k)) (some (.int way)) none none) (scr ns :: pen a3 c3 :: (T ++ [O.lst []])) = some (.nx, rhG n w (l' + 2) (some (.int k)) (some (.int way)) (some v) none, scr ns :: pen a4 c4 :: (T ++ [O.lst []] ++ G)) := by
    have ex : cOp fIx (ak 2) (ak 3) (rhG n w (l' + 2) (some (.int k)) (some (.int way)) none none) (scr ns :: pen a3 c3 :: (T ++ [O.lst []])) = some (e.u, scr ns :: pen a3 c3 :: (T ++ [O.lst []])) := by
     show fIx (.ref (l' + 2)) (.int k) (scr ns :: pen a3 c3 :: (T ++ [O.lst []])) = _
     rw [sG, hl0, sH, cS hku]; rfl
    have e0 : ak 0 (rhG n w (l' + 2) (some (.int k)) (some (.int way)) none none) (scr ns :: pen a3 c3 :: (T ++ [O.lst []])) = some (.ref 1, scr ns :: pen a3 c3 :: (T ++ [O.lst []])) := rfl
    have e1' : ak 1 (rhG n w (l' + 2) (some (.int k)) (some (.int way)) none none) (scr ns :: pen a3 c3 :: (T ++ [O.lst []])) = some (.tup [.int n, .int w], scr ns :: pen a3 c3 :: (T ++ [O.lst []])) := rfl
    rw [gR, Cu, eF, e0, Option.bind_some, dI, eF, e1', Option.bind_some, dI, eF, ex, Option.bind_some, dI]
    show (jU [.ref 1, .tup [.int n, .int w], e.u] (scr ns :: pen a3 c3 :: (T ++ [O.lst []]))).bind (zC 5 (rhG n w (l' + 2) (some (.int k)) (some (.int way)) none none)) = _
    rw [e5]
    rfl
   rw [List.append_assoc] at E4 gv
   rw [fS E1, fS E2, fS E3, fS E4]
   have gl := hl0 a4 c4 ([O.lst []] ++ G)
   generalize [O.lst []] ++ G = G0 at gl gv ⊢
   have q := qx l2 gl he
   have two : 2 ≤ (scr ns :: pen a4 c4 :: (T ++ G0)).length := by simp
   obtain ⟨ρ, hρ⟩ : ∃ ρ, ρ = rhG n w (l' + 2) (some (.int k)) (some (.int way)) (some v) none := ⟨_, rfl⟩
   have v2 : ρ[2]? = some (some (.ref (l' + 2))) := by rw [hρ]; rfl
   have v3 : ∀ S, ak 3 ρ S = some (.int k, S) := fun S => by rw [hρ]; rfl
   have v4 : ∀ S, ak 4 ρ S = some (.int way, S) := fun S => by rw [hρ]; rfl
   have v5 : ∀ S, ak 5 ρ S = some (v, S) := fun S => by rw [hρ]; rfl
   have p0 : ∀ S, gZ none ρ S = some (none, S) := fun _ => rfl
   have p3 : ∀ S, gZ (some (ak 3)) ρ S = some (some (k : Int), S) := pq v3
   have p31 : ∀ S, gZ (some (cOp bD (ak 3) (cC (.int 1)))) ρ S = some (some ((k : Int) + 1), S) := pq fun S => by rw [mY, v3]; rfl
   have p32 : ∀ S, gZ (some (cOp bD (ak 3) (cC (.int 2)))) ρ S = some (some ((k : Int) + 2), S) := pq fun S => by rw [mY, v3]; rfl
   have s1 := je two v2 q p0 p3
   have o1 := kc two v5 gv
   have fin : ∀ {ce : CE} {m : Nat}, EvQ ρ (scr ns :: pen a4 c4 :: (T ++ G0)) ce m → ∃ u a' c' G, (ed ce ρ (scr ns :: pen a4 c4 :: (T ++ G0))).bind kFn = some (u, scr ns :: pen a' c' :: (T ++ G)) ∧ Th2 (scr ns :: pen a' c' :: (T ++ G)) u ∧ 0 ≤ a' ∧ 0 ≤ c' := fun {ce m} h => by
    obtain ⟨u, G', e, qq⟩ := h []
    rw [List.append_nil, List.nil_append] at e
    rw [List.nil_append] at qq
    refine ⟨u, a4, c4, G0 ++ G', ?_, .inl ⟨_, by rw [← List.append_assoc]; exact qq⟩, ha4, hc4⟩
    rw [sF, e, ← List.append_assoc]
    rfl
   have iff : ∀ {t : CT} {b : Bool} {ce : CE} {rest : CS}, t ρ (scr ns :: pen a4 c4 :: (T ++ G0)) = some (b, scr ns :: pen a4 c4 :: (T ++ G0)) → aZ (d9 t (ed ce) bM) rest ρ (scr ns :: pen a4 c4 :: (T ++ G0)) = if b = true then ed ce ρ (scr ns :: pen a4 c4 :: (T ++ G0)) else rest ρ (scr ns :: pen a4 c4 :: (T ++ G0)) := fun {t b ce rest} h => by
    rw [ua, xf, h, Option.bind_some]
    cases b with
    | true =>
     rw [uf, sF, if_pos rfl]
     cases ce ρ (scr ns :: pen a4 c4 :: (T ++ G0)) <;> rfl
    | false => rw [y8, if_neg Bool.false_ne_true]; rfl
   have tlt : aG (cOp fLt (ak 4) (cC (.int 2))) ρ (scr ns :: pen a4 c4 :: (T ++ G0)) = some (decide (way < 2), scr ns :: pen a4 c4 :: (T ++ G0)) := by rw [i8, mY, v4]; rfl
   have teq : ∀ j : Int, aG (cOp fEq (ak 4) (cC (.int j))) ρ (scr ns :: pen a4 c4 :: (T ++ G0)) = some (decide (way = j), scr ns :: pen a4 c4 :: (T ++ G0)) := fun j => by rw [i8, mY, v4]; rfl
   rw [← hρ, iff tlt]
   by_cases w2 : way < 2
   ·rw [decide_eq_true w2, if_pos rfl]
    exact fin (ej two (ej two s1 o1 (by decide)) (je two v2 q p31 p0) (by decide))
   rw [decide_eq_false w2, if_neg Bool.false_ne_true, iff (teq 2)]
   by_cases w3 : way = 2
   ·rw [decide_eq_true w3, if_pos rfl]
    exact fin (ej two (ej two s1 o1 (by decide)) (je two v2 q p3 p0) (by decide))
   rw [decide_eq_false w3, if_neg Bool.false_ne_true, iff (teq 3)]
   by_cases w4 : way = 3
   ·rw [decide_eq_true w4, if_pos rfl]
    exact fin (ej two s1 (je two v2 q p31 p0) (by decide))
   rw [decide_eq_false w4, if_neg Bool.false_ne_true, iff (teq 4)]
   by_cases w5 : way = 4
   ·rw [decide_eq_true w5, if_pos rfl]
    exact fin (ej two (ej two s1 (je two v2 q p3 p31) (by decide)) (je two v2 q p3 p0) (by decide))
   rw [decide_eq_false w5, if_neg Bool.false_ne_true]
   obtain ⟨u6, G6, e6, q6⟩ := (ej two (je two v2 q p31 p32) (je two v2 q p3 p31) (by decide)) []
   rw [List.append_nil, List.nil_append] at e6
   rw [List.nil_append] at q6
   obtain ⟨ρ6, hρ6⟩ : ∃ ρ6, ρ6 = rhG n w (l' + 2) (some (.int k)) (some (.int way)) (some v) (some u6) := ⟨_, rfl⟩
   have E6 : ∀ c : CE, c ρ (scr ns :: pen a4 c4 :: (T ++ G0)) = some (u6, scr ns :: pen a4 c4 :: (T ++ G0) ++ G6) → bZ 6 c ρ (scr ns :: pen a4 c4 :: (T ++ G0)) = some (.nx, ρ6, scr ns :: pen a4 c4 :: (T ++ (G0 ++ G6))) := fun c hcc => by
    rw [gR, hcc, hρ, hρ6, ← List.append_assoc]; rfl
   rw [fS (E6 _ e6)]
   have q6' : LsQ (scr ns :: pen a4 c4 :: (T ++ (G0 ++ G6))) u6 (900 + 900) := by rw [← List.append_assoc]; exact q6
   have qq := qx (S := scr ns :: pen a4 c4 :: (T ++ (G0 ++ G6))) l2 (hl0 a4 c4 (G0 ++ G6)) he
   have two6 : 2 ≤ (scr ns :: pen a4 c4 :: (T ++ (G0 ++ G6))).length := by simp
   have x2 : ρ6[2]? = some (some (.ref (l' + 2))) := by rw [hρ6]; rfl
   have x6 : ρ6[6]? = some (some u6) := by rw [hρ6]; rfl
   have x3 : ∀ S, ak 3 ρ6 S = some (.int k, S) := fun S => by rw [hρ6]; rfl
   have y3 : ∀ S, gZ (some (ak 3)) ρ6 S = some (some (k : Int), S) := pq x3
   have y32 : ∀ S, gZ (some (cOp bD (ak 3) (cC (.int 2)))) ρ6 S = some (some ((k : Int) + 2), S) := pq fun S => by rw [mY, x3]; rfl
   have y0 : ∀ S, gZ none ρ6 S = some (none, S) := fun _ => rfl
   obtain ⟨u, G', e7, q7⟩ := (ej two6 (ej two6 (je two6 x2 qq y0 y3) (my x6 q6') (by decide)) (je two6 x2 qq y32 y0) (by decide)) []
   rw [List.append_nil, List.nil_append] at e7
   rw [List.nil_append] at q7
   refine ⟨u, a4, c4, G0 ++ G6 ++ G', ?_, .inl ⟨_, by rw [← List.append_assoc]; exact q7⟩, ha4, hc4⟩
   rw [sF, e7]
   show some (u, scr ns :: pen a4 c4 :: (T ++ (G0 ++ G6) ++ G')) = _
   rw [List.append_assoc T]
end
section
variable {ns : List Int} {a c : Int} {T : Sto} {us : List U} {u : U} {i : Int}
theorem xa {o : O} : (scr ns :: pen a c :: (T ++ [o]))[T.length + 2]? = some o := by show (T ++ [o])[T.length]? = _; rw [ga0]; rfl
theorem Hu {o o' : O} : (scr ns :: pen a c :: (T ++ [o])).set (T.length + 2) o' = scr ns :: pen a c :: (T ++ [o']) := by
 show scr ns :: pen a c :: (T ++ [o]).set T.length o' = _
 rw [gs0]; rfl
theorem GV (h0 : 0 ≤ i) (h1 : i ≤ us.length) (hl : us.length ≤ 5000) : gn (.ref (T.length + 2)) [.int i, u] (scr ns :: pen a c :: (T ++ [.lst us])) = some (.non, scr ns :: pen a c :: (T ++ [.lst (us.take i.toNat ++ u :: us.drop i.toNat)])) := by
 have g := xa (ns := ns) (a := a) (c := c) (T := T) (o := .lst us)
 simp only [gn, g]
 rw [if_pos ⟨h0, h1, by unfold LIM; omega⟩, Hu]
theorem IM (hl : us.length ≤ 5000) : Bm (T.length + 2) u (scr ns :: pen a c :: (T ++ [.lst us])) (some (.lst us)) = some (.non, scr ns :: pen a c :: (T ++ [.lst (us ++ [u])])) := by
 rw [ko (by unfold LIM; omega), Hu]
end
noncomputable def Ga (v : U) : Prop := ∀ S, GdE S v
theorem qD {us : List U} {u : U} {k : Nat} (h : ∀ v ∈ us, Ga v) (hu : Ga u) : ∀ v ∈ us.take k ++ u :: us.drop k, Ga v := fun v hv => by
 rcases List.mem_append.mp hv with hv | hv
 ·exact h v (List.mem_of_mem_take hv)
 ·rcases List.mem_cons.mp hv with rfl | hv
  ·exact hu
  ·exact h v (List.mem_of_mem_drop hv)
theorem mh {us : List U} {u : U} {k : Nat} : (us.take k ++ u :: us.drop k).length = us.length + 1 := by
 rw [List.length_append, List.length_cons, List.length_take, List.length_drop]; omega
theorem ny (ns : List Int) {ok : Sto → Prop} {T : Sto} {x1 x2 x3 x4 x5 x6 x7 : Option U} (hok : ∀ a c fd, ok (scr ns :: pen a c :: (T ++ [.lst fd]))) : ∀ (us fd : List U) (at_ a c : Int) (r10 : Option U), 0 ≤ a → 0 ≤ c → 0 ≤ at_ → at_ ≤ fd.length → fd.length + us.length ≤ 2000 → (∀ v ∈ fd, Ga v) → (∀ v ∈ us, Ga v) →
  ∃ fd' at' a' c' r10', fP ok (gNm 10) (cu aL) us [some (.ref 1), x1, x2, x3, x4, x5, x6, x7, some (.ref (T.length + 2)), some (.int at_), r10] (scr ns :: pen a c :: (T ++ [.lst fd])) = some (.nx, [some (.ref 1), x1, x2, x3, x4, x5, x6, x7, some (.ref (T.length + 2)), some (.int at'), r10'], scr ns :: pen a' c' :: (T ++ [.lst fd'])) ∧ fd'.length ≤ 2000 ∧ (∀ v ∈ fd', Ga v) ∧ 0 ≤ a' ∧ 0 ≤ c'
 | [], fd, at_, a, c, r10, ha, hc, _, _, hl, hf, _ => ⟨fd, at_, a, c, r10, gU (hok a c fd), by simpa using hl, hf, ha, hc⟩
 | u :: us, fd, at_, a, c, r10, ha, hc, h0, h1, hl, hf, hu => by
  rw [List.length_cons] at hl
  obtain ⟨f, a1, c1, e1, f0, f1, ha1, hc1⟩ := aU ns (T ++ [.lst fd]) (m := (fd.length : Int) - at_ + 1) ha hc (by omega) (by
   have := Nat.log2_le_self ((fd.length : Int) - at_ + 1).natAbs
   omega)
  have g := xa (ns := ns) (a := a) (c := c) (T := T) (o := .lst fd)
  have g1 := xa (ns := ns) (a := a1) (c := c1) (T := T) (o := .lst fd)
  have hi := GV (ns := ns) (a := a1) (c := c1) (T := T) (us := fd) (u := u) (i := at_ + f) (by omega) (by omega) (by omega)
  obtain ⟨fd', at', a', c', r10', ih, k1, k2, k3, k4⟩ := ny ns (x1 := x1) (x2 := x2) (x3 := x3) (x4 := x4) (x5 := x5) (x6 := x6) (x7 := x7) hok us (fd.take (at_ + f).toNat ++ u :: fd.drop (at_ + f).toNat) (at_ + f + 1) a1 c1 (some u) ha1 hc1 (by omega) (by rw [mh]; omega) (by rw [mh]; omega) (qD hf (hu u List.mem_cons_self)) fun v hv => hu v (List.mem_cons_of_mem _ hv)
  refine ⟨fd', at', a', c', r10', (jt (hok a c fd) rfl ?_).trans ih, k1, k2, k3, k4⟩
  obtain ⟨Y, hY⟩ : ∃ Y, Y = scr ns :: pen a c :: (T ++ [O.lst fd]) := ⟨_, rfl⟩
  obtain ⟨Y1, hY1⟩ : ∃ Y1, Y1 = scr ns :: pen a1 c1 :: (T ++ [O.lst fd]) := ⟨_, rfl⟩
  obtain ⟨Y2, hY2⟩ : ∃ Y2, Y2 = scr ns :: pen a1 c1 :: (T ++ [O.lst (fd.take (at_ + f).toNat ++ u :: fd.drop (at_ + f).toNat)]) := ⟨_, rfl⟩
  rw [← hY, ← hY1] at e1
  rw [← hY] at g
  rw [← hY1] at g1
  rw [← hY1, ← hY2] at hi
  show cu aL [some (.ref 1), x1, x2, x3, x4, x5, x6, x7, some (.ref (T.length + 2)), some (.int at_), some u] (scr ns :: pen a c :: (T ++ [O.lst fd])) = _
  rw [← hY, ← hY2]
  rwa [cu, g, e1, g1, hi]
theorem Et {b : Nat} : ∀ xs : List Nat, xs.Nodup → xs.length ≤ (xs.filter fun x => decide (x ≠ b)).length + 1
 | [], _ => by simp
 | x :: xs, h => by
  obtain ⟨h1, h2⟩ := List.nodup_cons.mp h
  by_cases e : x = b
  ·subst e
   have : xs.filter (fun y => decide (y ≠ x)) = xs := List.filter_eq_self.mpr fun y hy => by
    simp only [decide_eq_true_eq]
    rintro rfl
    exact h1 hy
   rw [List.filter_cons_of_neg (by simp), this]; simp
  ·have := Et (b := b) xs h2
   rw [List.filter_cons_of_pos (by simpa using e)]; simp only [List.length_cons]; omega
theorem rZ (xs : List Nat) (hx : xs.Nodup) : ∀ B : List Int, xs.length ≤ (xs.filter fun (x : Nat) => !decide ((x : Int) ∈ B)).length + B.length
 | [] => by
  have : xs.filter (fun (x : Nat) => !decide ((x : Int) ∈ ([] : List Int))) = xs := List.filter_eq_self.mpr fun y hy => by simp
  rw [this]; simp
 | b :: B => by
  have ih := rZ xs hx B
  have e : xs.filter (fun (x : Nat) => !decide ((x : Int) ∈ b :: B)) = (xs.filter fun (x : Nat) => !decide ((x : Int) ∈ B)).filter fun (x : Nat) => decide ((x : Int) ≠ b) := by
   rw [List.filter_filter]
   congr 1
   funext x
   simp only [List.mem_cons]
   by_cases h1 : (x : Int) = b <;> by_cases h2 : (x : Int) ∈ B <;> simp [h1, h2]
  rw [e]
  have nd := hx.filter (fun (x : Nat) => !decide ((x : Int) ∈ B))
  by_cases hb : 0 ≤ b
  ·have := Et (b := b.toNat) _ nd
   have e2 : (fun x : Nat => decide ((x : Int) ≠ b)) = fun x : Nat => decide (x ≠ b.toNat) := by
    funext x
    have : ((x : Int) ≠ b) ↔ x ≠ b.toNat := by omega
    simp only [this]
   rw [e2, List.length_cons]; omega
  ·have e3 : (xs.filter fun (x : Nat) => !decide ((x : Int) ∈ B)).filter (fun x : Nat => decide ((x : Int) ≠ b)) = xs.filter fun (x : Nat) => !decide ((x : Int) ∈ B) := List.filter_eq_self.mpr fun y hy => by
    simp only [decide_eq_true_eq]; omega
   rw [e3, List.length_cons]; omega
noncomputable def qV : Fn := fnU 11 3 (dg aL)
noncomputable def rhW (n w : Int) (l : Nat) (x3 x4 x5 x6 x7 x8 x9 x10 : Option U) : Rho := [some (.ref 1), some (.tup [.int n, .int w]), some (.ref l), x3, x4, x5, x6, x7, x8, x9, x10]
section
variable {n w : Int} {evs : List Ev} {l N : Nat}
theorem wp1 {S : Sto} (hl : S[l]? = some (.lst (evs.map Ev.u))) (he : evs.length ≤ 900) : ∃ G, bZ 3 (g5 (iTp (ak 2)) (gNm 0) (aG (cOp fEq (cOp fIx (ak 0) (cC (.int 0))) (cC (.str "begin")))) (cOp fIx (ak 0) (cC (.int 1))) 1 []) (rhW n w l none none none none none none none none) S = some (.nx, rhW n w l (some (.ref S.length)) none none none none none none none, S ++ (.lst ((aE (i6 [] evs)).map U.int) :: G)) := by
 obtain ⟨G', h⟩ := iW (S := S) (ok := fun S => S[l]? = some (.lst (evs.map Ev.u))) (gg := gNm 0)
  (ct := aG (cOp fEq (cOp fIx (ak 0) (cC (.int 0))) (cC (.str "begin"))))
  (ce := cOp fIx (ak 0) (cC (.int 1))) (f := Ev.u) (p := og) (v := yS) (Rel := fun ρ => ∃ r0, ρ = [r0]) (fun ys G => aF hl) evs [] [] [none] ⟨_, rfl⟩ (by simp; omega) (fun e he ys G ρ hρ => by
   obtain ⟨r0, rfl⟩ := hρ
   refine ⟨[some e.u], [], ⟨_, rfl⟩, rfl, ?_, fun hp => ⟨[], ?_⟩⟩
   ·cases e with
    | fin d b => cases d with
     | true => rwa [Ev.u, ni, if_true, fe, og, List.append_nil]
     | false => rwa [Ev.u, ni, Bool.false_eq_true, if_false, fc, og, List.append_nil]
    | beg b => rwa [Ev.u, gC, og, List.append_nil]
    | look b _ _ => rwa [Ev.u, cT, og, List.append_nil]
    | put b _ _ => rwa [Ev.u, dU, og, List.append_nil]
   ·cases e with
    | beg b => rwa [Ev.u, yS, List.append_nil]
    | _ => simp [og] at hp)
 have hk := sA evs []
 simp only [aE, List.map_nil, List.nil_append] at hk h
 rw [← hk] at h
 refine ⟨G', ?_⟩
 have e0 : iTp (ak 2) (rhW n w l none none none none none none none none) S = some (evs.map Ev.u, fun S => S[l]? = some (.lst (evs.map Ev.u)), S) := by
  have hv : ak 2 (rhW n w l none none none none none none none none) S = some (.ref l, S) := rfl
  unfold iTp
  rw [hv, Option.bind_some]
  simp only [hl]
 rw [gR]
 unfold g5
 rw [e0, Option.bind_some]
 show ((cH (fun S => S[l]? = some (.lst (evs.map Ev.u))) (gNm 0) _ _ S.length (evs.map Ev.u) [none] (S ++ [.lst []])).bind fun S' => some (U.ref S.length, S')).bind (zC 3 _) = _
 rw [h]
 rfl
theorem wp2 (ns : List Int) (T : Sto) {a c : Int} (ha : 0 ≤ a) (hc : 0 ≤ c) {b : Nat} {B : List Int} (hb : T[b]? = some (.lst (B.map U.int))) (hB : B.length ≤ 100) :
  ∃ (x a' c' : Int) (G : Sto), bZ 4 (cOp fIx (g5 (bY (ab (cC (.int 200)) aq)) (gNm 0) (aG (cOp (fIn true) (ak 0) (ak 1))) (ak 0) 1 [3]) (cCB aL (ab (ak 0) (ab (cC (.int 20)) aq)))) (rhW n w l (some (.ref (b + 2))) none none none none none none none) (scr ns :: pen a c :: T) = some (.nx, rhW n w l (some (.ref (b + 2))) (some (.int x)) none none none none none none, scr ns :: pen a' c' :: (T ++ G)) ∧ 0 ≤ a' ∧ 0 ≤ c' := by
 obtain ⟨S, hS⟩ : ∃ S, S = scr ns :: pen a c :: T := ⟨_, rfl⟩
 have hSb : S[b + 2]? = some (.lst (B.map U.int)) := by rw [hS]; exact hb
 obtain ⟨Q, hQ⟩ : ∃ Q, Q = B.map U.int := ⟨_, rfl⟩
 have k2 : ∀ (i : Int) (S : Sto), kIn true (.int i) S (some (.lst Q)) = some (.bl (!decide (i ∈ B)), S) := fun i S => by rw [hQ, ue]; rfl
 rw [← hQ] at hSb
 obtain ⟨G', h⟩ := iW (S := S) (ok := fun _ => True) (gg := gNm 0)
  (ct := aG (cOp (fIn true) (ak 0) (ak 1)))
  (ce := ak 0) (f := fun i : Nat => U.int (0 + (i : Nat))) (p := fun i : Nat => !decide ((i : Int) ∈ B)) (v := fun i : Nat => U.int (i : Int)) (Rel := fun ρ => ∃ r0, ρ = [r0, some (.ref (b + 2))]) (fun ys G => trivial) (List.range 200) [] [] [none, some (.ref (b + 2))] ⟨_, rfl⟩ (by simp) (fun i hi ys G ρ hρ => by
   obtain ⟨r0, rfl⟩ := hρ
   have g := aF (r := O.lst ys :: G) hSb
   refine ⟨[some (.int (i : Int)), some (.ref (b + 2))], [], ⟨_, rfl⟩, by rw [Int.zero_add]; rfl, ?_, fun hp => ⟨[], ?_⟩⟩
   ·rw [List.append_nil]
    generalize S ++ (O.lst ys :: G) = Y at g ⊢
    rwa [g, k2]
   ·simp only [List.append_nil]; rfl)
 simp only [List.nil_append] at h
 obtain ⟨us, hus⟩ : ∃ us, us = ((List.range 200).filter fun i : Nat => !decide ((i : Int) ∈ B)).map fun i : Nat => U.int (i : Int) := ⟨_, rfl⟩
 rw [← hus] at h
 have gW : 20 ≤ us.length := by
  rw [hus, List.length_map]
  have := rZ (List.range 200) List.nodup_range B
  rw [List.length_range] at this
  omega
 have ec : g5 (bY (ab (cC (.int 200)) aq)) (gNm 0) (aG (cOp (fIn true) (ak 0) (ak 1))) (ak 0) 1 [3] (rhW n w l (some (.ref (b + 2))) none none none none none none none) S = some (.ref S.length, S ++ (.lst us :: G')) := by
  have e0 : bY (ab (cC (.int 200)) aq) (rhW n w l (some (.ref (b + 2))) none none none none none none none) S = some (bV 0 200, fun _ => True, S) := rfl
  unfold g5
  rw [e0, Option.bind_some]
  show (cH (fun _ => True) (gNm 0) _ _ S.length (bV 0 200) [none, some (.ref (b + 2))] (S ++ [.lst []])).bind (fun S' => some (U.ref S.length, S')) = _
  unfold bV
  rw [h]
  rfl
 rw [hS] at ec
 have eS : (scr ns :: pen a c :: T) ++ (.lst us :: G') = scr ns :: pen a c :: (T ++ (.lst us :: G')) := rfl
 have eL : (scr ns :: pen a c :: T).length = T.length + 2 := rfl
 rw [eS, eL] at ec
 obtain ⟨f, a1, c1, e1, f0, f1, ha1, hc1⟩ := aU ns (T ++ (.lst us :: G')) ha hc (m := 20) (by decide) (by decide)
 have gl : (scr ns :: pen a1 c1 :: (T ++ (O.lst us :: G')))[T.length + 2]? = some (.lst us) := by show (T ++ (O.lst us :: G'))[T.length]? = _; rw [ga0]; rfl
 have hf : f.toNat < us.length := by omega
 have hfr : f.toNat < ((List.range 200).filter fun i : Nat => !decide ((i : Int) ∈ B)).length := by rw [hus, List.length_map] at hf; exact hf
 obtain ⟨x, hx⟩ : ∃ x : Nat, ((List.range 200).filter fun i : Nat => !decide ((i : Int) ∈ B))[f.toNat]? = some x := ⟨_, List.getElem?_eq_getElem hfr⟩
 have hu : us[f.toNat]? = some (.int (x : Int)) := by rw [hus, List.getElem?_map, hx]; rfl
 have ai : atI us f = some (.int (x : Int)) := by
  have := cS (xs := us) (j := f.toNat) (v := .int (x : Int)) hu
  rw [show ((f.toNat : Nat) : Int) = f from by omega] at this
  exact this
 refine ⟨x, a1, c1, .lst us :: G', ?_, ha1, hc1⟩
 rw [gR, mY, ec, Option.bind_some, iZ, tk rfl e1, Option.bind_some, iY, sG, gl, sH, ai]
 rfl
end
section
variable {n w : Int} {evs : List Ev} {l N : Nat}
theorem wp5 {S : Sto} {b r : Nat} {x box : Int} {zs : List Int} (hr : S[r]? = some (.lst (zs.map U.int))) (hz : zs.length ≤ 100) : ∃ G, bZ 7 (cOp bD (bE (ab (aN (ab (cC (.str "begin")) (ab (ak 4) aq))) aq)) (g9 (iTp (ak 6)) (gNm 0) (aN (ab (cC (.str "put")) (ab (ak 1) (ab (ak 2) (ab (ak 0) aq))))) 1 [4, 5])) (rhW n w l (some (.ref b)) (some (.int x)) (some (.int box)) (some (.ref r)) none none none none) S = some (.nx, rhW n w l (some (.ref b)) (some (.int x)) (some (.int box)) (some (.ref r)) (some (.ref (S ++ G).length)) none none none, S ++ G ++ [.lst ((Ev.beg x).u :: zs.map fun z => (Ev.put x box z).u)]) := by
 obtain ⟨ρ, hρ⟩ : ∃ ρ, ρ = rhW n w l (some (.ref b)) (some (.int x)) (some (.int box)) (some (.ref r)) none none none none := ⟨_, rfl⟩
 have e1 : bE (ab (aN (ab (cC (.str "begin")) (ab (ak 4) aq))) aq) ρ S = some (.ref S.length, S ++ [.lst [(Ev.beg x).u]]) := by rw [hρ]; rfl
 have g1 : (S ++ [O.lst [(Ev.beg x).u]])[r]? = some (.lst (zs.map U.int)) := aF hr
 obtain ⟨G', h⟩ := oG (S := S ++ [O.lst [(Ev.beg x).u]]) (ok := fun S => S[r]? = some (.lst (zs.map U.int))) (gg := gNm 0) (ce := aN (ab (cC (.str "put")) (ab (ak 1) (ab (ak 2) (ab (ak 0) aq))))) (f := U.int) (v := fun z => (Ev.put x box z).u) (Rel := fun ρ => ∃ r0, ρ = [r0, some (.int x), some (.int box)]) (fun ys G => aF g1) zs [] [] [none, some (.int x), some (.int box)] ⟨_, rfl⟩ (by simp; omega) (fun z _ ys G ρ hρ => by
  obtain ⟨r0, rfl⟩ := hρ
  exact ⟨[some (.int z), some (.int x), some (.int box)], [], ⟨_, rfl⟩, rfl, by rw [List.append_nil]; rfl⟩)
 simp only [List.nil_append] at h
 obtain ⟨ps, hps⟩ : ∃ ps, ps = zs.map fun z => (Ev.put x box z).u := ⟨_, rfl⟩
 rw [← hps] at h ⊢
 have e2 : g9 (iTp (ak 6)) (gNm 0) (aN (ab (cC (.str "put")) (ab (ak 1) (ab (ak 2) (ab (ak 0) aq))))) 1 [4, 5] ρ (S ++ [.lst [(Ev.beg x).u]]) = some (.ref (S ++ [O.lst [(Ev.beg x).u]]).length, S ++ [.lst [(Ev.beg x).u]] ++ (.lst ps :: G')) := by
  have e0 : iTp (ak 6) ρ (S ++ [.lst [(Ev.beg x).u]]) = some (zs.map U.int, fun S => S[r]? = some (.lst (zs.map U.int)), S ++ [.lst [(Ev.beg x).u]]) := by
   have hv : ak 6 ρ (S ++ [.lst [(Ev.beg x).u]]) = some (.ref r, S ++ [.lst [(Ev.beg x).u]]) := by rw [hρ]; rfl
   unfold iTp
   rw [hv, Option.bind_some]
   simp only [g1]
  have hc : qm 1 [4, 5] ρ = [none, some (.int x), some (.int box)] := by rw [hρ]; rfl
  unfold g9
  rw [e0, Option.bind_some, hc]
  simp only [h, Option.bind_some]
 refine ⟨[.lst [(Ev.beg x).u]] ++ (.lst ps :: G'), ?_⟩
 have eS : S ++ [O.lst [(Ev.beg x).u]] ++ (.lst ps :: G') = S ++ ([.lst [(Ev.beg x).u]] ++ (.lst ps :: G')) := List.append_assoc _ _ _
 have gA : (S ++ ([O.lst [(Ev.beg x).u]] ++ (.lst ps :: G')))[S.length]? = some (.lst [(Ev.beg x).u]) := by rw [ga0]; rfl
 have gB : (S ++ ([O.lst [(Ev.beg x).u]] ++ (.lst ps :: G')))[(S ++ [O.lst [(Ev.beg x).u]]).length]? = some (.lst ps) := by rw [← eS, ga0]; rfl
 have lz : ([(Ev.beg x).u] : List U).length + ps.length ≤ LIM := by rw [hps, List.length_map]; simp only [List.length_singleton]; unfold LIM; omega
 rw [← hρ, gR, mY, e1, Option.bind_some, iZ, e2, Option.bind_some, iY, eS]
 have ea : bD (.ref S.length) (.ref (S ++ [O.lst [(Ev.beg x).u]]).length) (S ++ ([O.lst [(Ev.beg x).u]] ++ (.lst ps :: G'))) = some (.ref (S ++ ([O.lst [(Ev.beg x).u]] ++ (.lst ps :: G'))).length, S ++ ([O.lst [(Ev.beg x).u]] ++ (.lst ps :: G')) ++ [.lst ([(Ev.beg x).u] ++ ps)]) := by
  simp only [bD, jv, gA, gB]
  rw [if_pos lz]
 rw [ea, hρ]
 rfl
theorem Ga.ev (e : Ev) : Ga e.u := fun S => pJ e S
theorem wp7 (ns : List Int) (T : Sto) {a c x : Int} {x3 x5 x6 x9 : Option U} {mo : List U} (n0 : 1 ≤ n) (n1 : n ≤ 6) (w0 : 2 ≤ w) (w1 : w ≤ 1000) (ha : 0 ≤ a) (hc : 0 ≤ c) (l4 : 4 ≤ mo.length) (l9 : mo.length ≤ 90) (hm : ∀ v ∈ mo, Ga v) :
  ∃ mo' a' c', d9 (aG (cOp fEq (cCB aL (ab (ak 0) (ab (cC (.int 2)) aq))) (cC (.int 0)))) (fC (cBM gn (ak 7) (ab (cOp bD (cC (.int 1)) (cCB aL (ab (ak 0) (ab (cC (.int 4)) aq)))) (ab (aN (ab (cC (.str "put")) (ab (ak 4) (ab (cCB aL (ab (ak 0) (ab (cOp fIx (ak 1) (cC (.int 0))) aq))) (ab (cCB aL (ab (ak 0) (ab (cOp fIx (ak 1) (cC (.int 1))) aq))) aq))))) aq)))) bM (rhW n w l x3 (some (.int x)) x5 x6 (some (.ref (T.length + 2))) none none x9) (scr ns :: pen a c :: (T ++ [.lst mo])) = some (.nx, rhW n w l x3 (some (.int x)) x5 x6 (some (.ref (T.length + 2))) none none x9, scr ns :: pen a' c' :: (T ++ [.lst mo'])) ∧ mo.length ≤ mo'.length ∧ mo'.length ≤ mo.length + 1 ∧ (∀ v ∈ mo', Ga v) ∧ 0 ≤ a' ∧ 0 ≤ c' := by
 obtain ⟨i, a1, c1, e1, i0, i1, ha1, hc1⟩ := aU ns (T ++ [.lst mo]) ha hc (m := 2) (by decide) (by decide)
 by_cases hi : i = 0
 ·have d1 : decide (i = 0) = true := decide_eq_true hi
  obtain ⟨f, a2, c2, e2, f0, f1, ha2, hc2⟩ := aU ns (T ++ [.lst mo]) ha1 hc1 (m := 4) (by decide) (by decide)
  obtain ⟨g, a3, c3, e3, g0, g1, ha3, hc3⟩ := aU ns (T ++ [.lst mo]) ha2 hc2 (m := n) (by omega) (OQ.l9 (by omega) (by omega))
  obtain ⟨h, a4, c4, e4, h0, h1, ha4, hc4⟩ := aU ns (T ++ [.lst mo]) ha3 hc3 (m := w) (by omega) (OQ.l9 (by omega) (by omega))
  have hin := GV (ns := ns) (a := a4) (c := c4) (T := T) (us := mo) (u := (Ev.put x g h).u) (i := 1 + f) (by omega) (by omega) (by omega)
  have gg := xa (ns := ns) (a := a1) (c := c1) (T := T) (o := .lst mo)
  refine ⟨mo.take (1 + f).toNat ++ (Ev.put x g h).u :: mo.drop (1 + f).toNat, a4, c4, ?_, by rw [mh]; omega, by rw [mh]; omega, qD hm (.ev _), ha4, hc4⟩
  obtain ⟨mo', hmo'⟩ : ∃ mo', mo' = mo.take (1 + f).toNat ++ (Ev.put x g h).u :: mo.drop (1 + f).toNat := ⟨_, rfl⟩
  rw [← hmo'] at hin ⊢
  simp only [Ev.u] at hin
  generalize hY1 : scr ns :: pen a1 c1 :: (T ++ [O.lst mo]) = Y1 at e1 e2 gg
  generalize hY2 : scr ns :: pen a2 c2 :: (T ++ [O.lst mo]) = Y2 at e2 e3
  generalize hY3 : scr ns :: pen a3 c3 :: (T ++ [O.lst mo]) = Y3 at e3 e4
  generalize hY4 : scr ns :: pen a4 c4 :: (T ++ [O.lst mo]) = Y4 at e4 hin
  generalize hY0 : scr ns :: pen a c :: (T ++ [O.lst mo]) = Y0 at e1 ⊢
  generalize hY5 : scr ns :: pen a4 c4 :: (T ++ [O.lst mo']) = Y5 at hin ⊢
  rwa [rhW, e1, d1, e2, e3, e4, gg, hin]
 ·have d1 : decide (i = 0) = false := decide_eq_false hi
  refine ⟨mo, a1, c1, ?_, Nat.le_refl _, Nat.le_succ _, hm, ha1, hc1⟩
  generalize scr ns :: pen a1 c1 :: (T ++ [O.lst mo]) = Y1 at e1 ⊢
  generalize scr ns :: pen a c :: (T ++ [O.lst mo]) = Y0 at e1 ⊢
  rwa [rhW, e1, d1]
theorem wp8 (ns : List Int) (T : Sto) {a c x box : Int} {x3 x6 x9 : Option U} {mo : List U} (n0 : 1 ≤ n) (n1 : n ≤ 6) (w0 : 2 ≤ w) (w1 : w ≤ 1000) (ha : 0 ≤ a) (hc : 0 ≤ c) (l4 : 4 ≤ mo.length) (l9 : mo.length ≤ 90) (hm : ∀ v ∈ mo, Ga v) :
  ∃ mo' a' c', d9 (aG (cOp fEq (cCB aL (ab (ak 0) (ab (cC (.int 4)) aq))) (cC (.int 0)))) (fC (cBM gn (ak 7) (ab (cC (.int 1)) (ab (aN (ab (cC (.str "look")) (ab (ak 4) (ab (ak 5) (ab (cCB aL (ab (ak 0) (ab (cOp fIx (ak 1) (cC (.int 1))) aq))) aq))))) aq)))) bM (rhW n w l x3 (some (.int x)) (some (.int box)) x6 (some (.ref (T.length + 2))) none none x9) (scr ns :: pen a c :: (T ++ [.lst mo])) = some (.nx, rhW n w l x3 (some (.int x)) (some (.int box)) x6 (some (.ref (T.length + 2))) none none x9, scr ns :: pen a' c' :: (T ++ [.lst mo'])) ∧ mo'.length ≤ mo.length + 1 ∧ (∀ v ∈ mo', Ga v) ∧ 0 ≤ a' ∧ 0 ≤ c' := by
 obtain ⟨i, a1, c1, e1, i0, i1, ha1, hc1⟩ := aU ns (T ++ [.lst mo]) ha hc (m := 4) (by decide) (by decide)
 by_cases hi : i = 0
 ·have d1 : decide (i = 0) = true := decide_eq_true hi
  obtain ⟨h, a4, c4, e4, h0, h1, ha4, hc4⟩ := aU ns (T ++ [.lst mo]) ha1 hc1 (m := w) (by omega) (OQ.l9 (by omega) (by omega))
  have hin := GV (ns := ns) (a := a4) (c := c4) (T := T) (us := mo) (u := (Ev.look x box h).u) (i := 1) (by omega) (by omega) (by omega)
  have gg := xa (ns := ns) (a := a1) (c := c1) (T := T) (o := .lst mo)
  refine ⟨mo.take (1 : Int).toNat ++ (Ev.look x box h).u :: mo.drop (1 : Int).toNat, a4, c4, ?_, by rw [mh]; omega, qD hm (.ev _), ha4, hc4⟩
  obtain ⟨mo', hmo'⟩ : ∃ mo', mo' = mo.take (1 : Int).toNat ++ (Ev.look x box h).u :: mo.drop (1 : Int).toNat := ⟨_, rfl⟩
  rw [← hmo'] at hin ⊢
  simp only [Ev.u] at hin
  generalize hY1 : scr ns :: pen a1 c1 :: (T ++ [O.lst mo]) = Y1 at e1 e4 gg
  generalize hY4 : scr ns :: pen a4 c4 :: (T ++ [O.lst mo]) = Y4 at e4 hin
  generalize hY0 : scr ns :: pen a c :: (T ++ [O.lst mo]) = Y0 at e1 ⊢
  generalize hY5 : scr ns :: pen a4 c4 :: (T ++ [O.lst mo']) = Y5 at hin ⊢
  rwa [rhW, e1, d1, e4, gg, hin]
 ·have d1 : decide (i = 0) = false := decide_eq_false hi
  refine ⟨mo, a1, c1, ?_, Nat.le_succ _, hm, ha1, hc1⟩
  generalize scr ns :: pen a1 c1 :: (T ++ [O.lst mo]) = Y1 at e1 ⊢
  generalize scr ns :: pen a c :: (T ++ [O.lst mo]) = Y0 at e1 ⊢
  rwa [rhW, e1, d1]
theorem wp6 (ns : List Int) (T : Sto) {a c x box : Int} {x3 x9 : Option U} {r : Nat} {mo : List U} {zs : List Int} (hr : T[r]? = some (.lst (zs.map U.int))) (z3 : zs.length = 3) (ha : 0 ≤ a) (hc : 0 ≤ c) (l9 : mo.length ≤ 90) (hm : ∀ v ∈ mo, Ga v) :
  ∃ y a' c', fC (cBM dB (ak 7) (ab (aN (ab (cC (.str "look")) (ab (ak 4) (ab (ak 5) (ab (cOp fIx (ak 6) (cCB aL (ab (ak 0) (ab (cC (.int 3)) aq)))) aq))))) aq)) (rhW n w l x3 (some (.int x)) (some (.int box)) (some (.ref (r + 2))) (some (.ref (T.length + 2))) none none x9) (scr ns :: pen a c :: (T ++ [.lst mo])) = some (.nx, rhW n w l x3 (some (.int x)) (some (.int box)) (some (.ref (r + 2))) (some (.ref (T.length + 2))) none none x9, scr ns :: pen a' c' :: (T ++ [.lst (mo ++ [(Ev.look x box y).u])])) ∧ 0 ≤ a' ∧ 0 ≤ c' := by
 obtain ⟨i, a1, c1, e1, i0, i1, ha1, hc1⟩ := aU ns (T ++ [.lst mo]) ha hc (m := 3) (by decide) (by decide)
 have gz : (scr ns :: pen a1 c1 :: (T ++ [O.lst mo]))[r + 2]? = some (.lst (zs.map U.int)) := aF hr
 have gg := xa (ns := ns) (a := a) (c := c) (T := T) (o := .lst mo)
 have gg1 := xa (ns := ns) (a := a1) (c := c1) (T := T) (o := .lst mo)
 obtain ⟨y, hy⟩ : ∃ y, zs[i.toNat]? = some y := ⟨_, List.getElem?_eq_getElem (by omega)⟩
 obtain ⟨Z, hZ⟩ : ∃ Z, Z = zs.map U.int := ⟨_, rfl⟩
 have ai : atI Z i = some (.int y) := by
  have := cS (xs := zs.map U.int) (j := i.toNat) (v := .int y) (by rw [List.getElem?_map, hy]; rfl)
  rw [show ((i.toNat : Nat) : Int) = i from by omega] at this
  rw [hZ]; exact this
 rw [← hZ] at gz
 have ap := IM (ns := ns) (a := a1) (c := c1) (T := T) (us := mo) (u := (Ev.look x box y).u) (by omega)
 simp only [Ev.u] at ap
 refine ⟨y, a1, c1, ?_, ha1, hc1⟩
 simp only [Ev.u]
 generalize hY1 : scr ns :: pen a1 c1 :: (T ++ [O.lst mo]) = Y1 at e1 gz gg1 ap
 generalize hY0 : scr ns :: pen a c :: (T ++ [O.lst mo]) = Y0 at e1 gg ⊢
 generalize hY5 : scr ns :: pen a1 c1 :: (T ++ [O.lst (mo ++ [_])]) = Y5 at ap ⊢
 rwa [rhW, e1, gz, gg, gg1, ai, ap]
end
section
variable {n w : Int} {evs : List Ev} {l N : Nat}
theorem xh (ns : List Int) (T : Sto) {a c : Int} (n0 : 1 ≤ n) (n1 : n ≤ 6) (w0 : 2 ≤ w) (w1 : w ≤ 1000) (ha : 0 ≤ a) (hc : 0 ≤ c) (l2 : 2 ≤ l) (hl : (scr ns :: pen a c :: T)[l]? = some (.lst (evs.map Ev.u))) (lo : BO n w N evs) (hN : N ≤ 100) (he : evs.length ≤ 900) :
  ∃ u a' c' G, qV [.ref 1, .tup [.int n, .int w], .ref l] (scr ns :: pen a c :: T) = some (u, scr ns :: pen a' c' :: (T ++ G)) ∧ Th2 (scr ns :: pen a' c' :: (T ++ G)) u ∧ 0 ≤ a' ∧ 0 ≤ c' := by
 unfold qV
 rw [kP]
 obtain ⟨l', rfl⟩ : ∃ l', l = l' + 2 := ⟨l - 2, by omega⟩
 have hT : T[l']? = some (.lst (evs.map Ev.u)) := hl
 have hρ : [some (U.ref 1), some (U.tup [.int n, .int w]), some (U.ref (l' + 2)), none, none, none, none, none, none, none, none] = rhW n w (l' + 2) none none none none none none none none := rfl
 rw [hρ]
 unfold dg
 obtain ⟨G1, s1⟩ := wp1 (n := n) (w := w) hl he
 obtain ⟨B, hB⟩ : ∃ B, B = aE (i6 [] evs) := ⟨_, rfl⟩
 rw [← hB] at s1
 have lB : B.length ≤ 100 := by rw [hB]; unfold aE; rw [List.length_map]; have := lo.cnt; omega
 have eL : (scr ns :: pen a c :: T).length = T.length + 2 := rfl
 have eS : (scr ns :: pen a c :: T) ++ (.lst (B.map U.int) :: G1) = scr ns :: pen a c :: (T ++ (.lst (B.map U.int) :: G1)) := rfl
 rw [eL, eS] at s1
 have hT1 : (T ++ (O.lst (B.map U.int) :: G1))[l']? = some (.lst (evs.map Ev.u)) := aF hT
 have hb1 : (T ++ (O.lst (B.map U.int) :: G1))[T.length]? = some (.lst (B.map U.int)) := by rw [ga0]; rfl
 obtain ⟨T1, hT1e⟩ : ∃ T1, T1 = T ++ (O.lst (B.map U.int) :: G1) := ⟨_, rfl⟩
 rw [← hT1e] at s1 hT1 hb1
 obtain ⟨x, a2, c2, G2, s2, ha2, hc2⟩ := wp2 (n := n) (w := w) (l := l' + 2) ns T1 ha hc hb1 lB
 obtain ⟨box, a3, c3, e3, b0, b1, ha3, hc3⟩ := aU ns (T1 ++ G2) ha2 hc2 (m := n) (by omega) (l9 (by omega) (by omega))
 have s3 : bZ 5 (cCB aL (ab (ak 0) (ab (cOp fIx (ak 1) (cC (.int 0))) aq))) (rhW n w (l' + 2) (some (.ref (T.length + 2))) (some (.int x)) none none none none none none) (scr ns :: pen a2 c2 :: (T1 ++ G2)) = some (.nx, rhW n w (l' + 2) (some (.ref (T.length + 2))) (some (.int x)) (some (.int box)) none none none none none, scr ns :: pen a3 c3 :: (T1 ++ G2)) := by
  generalize scr ns :: pen a2 c2 :: (T1 ++ G2) = Y at e3 ⊢
  generalize scr ns :: pen a3 c3 :: (T1 ++ G2) = Y1 at e3 ⊢
  rwa [rhW, e3]
 obtain ⟨zs, a4, c4, e4, lz, bz, ha4, hc4⟩ := ql ns (T1 ++ G2) (n := n) w0 w1 (bV 0 3) none [] ha3 hc3 (by simp [bV])
 simp only [List.map_nil, List.nil_append] at e4
 have z3 : zs.length = 3 := by rw [lz]; rfl
 have s4 : bZ 6 (g9 (bY (ab (cC (.int 3)) aq)) (gNm 0) (cCB aL (ab (ak 1) (ab (cOp fIx (ak 2) (cC (.int 1))) aq))) 1 [0, 1]) (rhW n w (l' + 2) (some (.ref (T.length + 2))) (some (.int x)) (some (.int box)) none none none none none) (scr ns :: pen a3 c3 :: (T1 ++ G2)) = some (.nx, rhW n w (l' + 2) (some (.ref (T.length + 2))) (some (.int x)) (some (.int box)) (some (.ref ((T1 ++ G2).length + 2))) none none none none, scr ns :: pen a4 c4 :: (T1 ++ G2 ++ [.lst (zs.map U.int)])) := by
  have e0 : bY (ab (cC (.int 3)) aq) (rhW n w (l' + 2) (some (.ref (T.length + 2))) (some (.int x)) (some (.int box)) none none none none none) (scr ns :: pen a3 c3 :: (T1 ++ G2)) = some (bV 0 3, fun _ => True, scr ns :: pen a3 c3 :: (T1 ++ G2)) := rfl
  rw [gR]
  unfold g9
  rw [e0, Option.bind_some]
  show ((iC (fun _ => True) (gNm 0) _ ((T1 ++ G2).length + 1 + 1) (bV 0 3) [none, some (.ref 1), some (.tup [.int n, .int w])] (scr ns :: pen a3 c3 :: (T1 ++ G2 ++ [.lst []]))).bind fun S' => some (U.ref ((T1 ++ G2).length + 1 + 1), S')).bind (zC 6 _) = _
  rw [e4]
  rfl
 obtain ⟨T4, hT4⟩ : ∃ T4, T4 = T1 ++ G2 ++ [.lst (zs.map U.int)] := ⟨_, rfl⟩
 obtain ⟨r, hr⟩ : ∃ r, r = (T1 ++ G2).length := ⟨_, rfl⟩
 have gz : T4[r]? = some (.lst (zs.map U.int)) := by rw [hT4, hr, ga0]; rfl
 have gl4 : T4[l']? = some (.lst (evs.map Ev.u)) := by rw [hT4]; exact aF (aF hT1)
 rw [← hT4, ← hr] at s4
 obtain ⟨G5, s5⟩ := wp5 (n := n) (w := w) (l := l' + 2) (b := T.length + 2) (x := x) (box := box) (S := scr ns :: pen a4 c4 :: T4) (r := r + 2) (zs := zs) gz (by omega)
 obtain ⟨mo, hmo⟩ : ∃ mo, mo = (Ev.beg x).u :: zs.map fun z => (Ev.put x box z).u := ⟨_, rfl⟩
 have lmo : mo.length = 4 := by rw [hmo, List.length_cons, List.length_map, z3]
 have gmo : ∀ v ∈ mo, Ga v := fun v hv => by
  rw [hmo] at hv
  rcases List.mem_cons.mp hv with rfl | hv
  ·exact .ev _
  ·obtain ⟨z, _, rfl⟩ := List.mem_map.mp hv; exact .ev _
 rw [← hmo] at s5
 have e5S : (scr ns :: pen a4 c4 :: T4) ++ G5 ++ [O.lst mo] = scr ns :: pen a4 c4 :: (T4 ++ G5 ++ [O.lst mo]) := rfl
 have e5L : ((scr ns :: pen a4 c4 :: T4) ++ G5).length = (T4 ++ G5).length + 2 := rfl
 rw [e5S, e5L] at s5
 have gz5 : (T4 ++ G5)[r]? = some (.lst (zs.map U.int)) := aF gz
 have gl5 : (T4 ++ G5)[l']? = some (.lst (evs.map Ev.u)) := aF gl4
 obtain ⟨T5, hT5⟩ : ∃ T5, T5 = T4 ++ G5 := ⟨_, rfl⟩
 rw [← hT5] at s5 gz5 gl5
 obtain ⟨y, a6, c6, s6, ha6, hc6⟩ := wp6 (n := n) (w := w) (l := l' + 2) (x := x) (box := box) (x3 := some (.ref (T.length + 2))) (x9 := none) ns T5 gz5 z3 ha4 hc4 (by omega : mo.length ≤ 90) gmo
 have gmo6 : ∀ v ∈ mo ++ [(Ev.look x box y).u], Ga v := fun v hv => by
  rcases List.mem_append.mp hv with hv | hv
  ·exact gmo v hv
  ·rw [List.mem_singleton.mp hv]; exact .ev _
 have l6 : (mo ++ [(Ev.look x box y).u]).length = 5 := by rw [List.length_append, lmo]; rfl
 obtain ⟨mo7, a7, c7, s7, k7, k7', g7, ha7, hc7⟩ := wp7 (n := n) (w := w) (l := l' + 2) (x := x) (x3 := some (.ref (T.length + 2))) (x5 := some (.int box)) (x6 := some (.ref (r + 2))) (x9 := none) ns T5 n0 n1 w0 w1 ha6 hc6 (by omega) (by omega) gmo6
 obtain ⟨mo8, a8, c8, s8, k8, g8, ha8, hc8⟩ := wp8 (n := n) (w := w) (l := l' + 2) (x := x) (box := box) (x3 := some (.ref (T.length + 2))) (x6 := some (.ref (r + 2))) (x9 := none) ns T5 n0 n1 w0 w1 ha7 hc7 (by omega) (by omega) g7
 have gl8 : (scr ns :: pen a8 c8 :: (T5 ++ [O.lst mo8]))[l' + 2]? = some (.lst (evs.map Ev.u)) := aF gl5
 have gm8 : (T5 ++ [O.lst mo8])[T5.length]? = some (.lst mo8) := by rw [ga0]; rfl
 obtain ⟨T8, hT8⟩ : ∃ T8, T8 = T5 ++ [O.lst mo8] := ⟨_, rfl⟩
 rw [← hT8] at s8 gl8 gm8
 have s9 : bZ 8 (cCB j7 (ab (ak 2) aq)) (rhW n w (l' + 2) (some (.ref (T.length + 2))) (some (.int x)) (some (.int box)) (some (.ref (r + 2))) (some (.ref (T5.length + 2))) none none none) (scr ns :: pen a8 c8 :: T8) = some (.nx, rhW n w (l' + 2) (some (.ref (T.length + 2))) (some (.int x)) (some (.int box)) (some (.ref (r + 2))) (some (.ref (T5.length + 2))) (some (.ref (T8.length + 2))) none none, scr ns :: pen a8 c8 :: (T8 ++ [.lst (evs.map Ev.u)])) := by
  rw [gR]
  show (j7 [.ref (l' + 2)] (scr ns :: pen a8 c8 :: T8)).bind _ = _
  rw [qh, gl8]
  rfl
 have s9b : bZ 9 (cC (.int 0)) (rhW n w (l' + 2) (some (.ref (T.length + 2))) (some (.int x)) (some (.int box)) (some (.ref (r + 2))) (some (.ref (T5.length + 2))) (some (.ref (T8.length + 2))) none none) (scr ns :: pen a8 c8 :: (T8 ++ [.lst (evs.map Ev.u)])) = some (.nx, rhW n w (l' + 2) (some (.ref (T.length + 2))) (some (.int x)) (some (.int box)) (some (.ref (r + 2))) (some (.ref (T5.length + 2))) (some (.ref (T8.length + 2))) (some (.int 0)) none, scr ns :: pen a8 c8 :: (T8 ++ [.lst (evs.map Ev.u)])) := rfl
 have hok : ∀ (a c : Int) (fd : List U), (scr ns :: pen a c :: (T8 ++ [O.lst fd]))[T5.length + 2]? = some (.lst mo8) := fun _ _ _ => aF gm8
 obtain ⟨fd, at', a9, c9, r10, e10, lf, gf, ha9, hc9⟩ := ny ns (x1 := some (.tup [.int n, .int w])) (x2 := some (.ref (l' + 2))) (x3 := some (.ref (T.length + 2))) (x4 := some (.int x)) (x5 := some (.int box)) (x6 := some (.ref (r + 2))) (x7 := some (.ref (T5.length + 2))) (ok := fun S => S[T5.length + 2]? = some (.lst mo8)) hok mo8 (evs.map Ev.u) 0 a8 c8 none ha8 hc8 (by omega) (by omega) (by rw [List.length_map]; omega) (fun v hv => by obtain ⟨e, _, rfl⟩ := List.mem_map.mp hv; exact .ev e) g8
 have s10 : mW (iTp (ak 7)) (gNm 10) (cu aL) (rhW n w (l' + 2) (some (.ref (T.length + 2))) (some (.int x)) (some (.int box)) (some (.ref (r + 2))) (some (.ref (T5.length + 2))) (some (.ref (T8.length + 2))) (some (.int 0)) none) (scr ns :: pen a8 c8 :: (T8 ++ [.lst (evs.map Ev.u)])) = some (.nx, rhW n w (l' + 2) (some (.ref (T.length + 2))) (some (.int x)) (some (.int box)) (some (.ref (r + 2))) (some (.ref (T5.length + 2))) (some (.ref (T8.length + 2))) (some (.int at')) r10, scr ns :: pen a9 c9 :: (T8 ++ [.lst fd])) := by
  have e0 : iTp (ak 7) (rhW n w (l' + 2) (some (.ref (T.length + 2))) (some (.int x)) (some (.int box)) (some (.ref (r + 2))) (some (.ref (T5.length + 2))) (some (.ref (T8.length + 2))) (some (.int 0)) none) (scr ns :: pen a8 c8 :: (T8 ++ [.lst (evs.map Ev.u)])) = some (mo8, fun S => S[T5.length + 2]? = some (.lst mo8), scr ns :: pen a8 c8 :: (T8 ++ [.lst (evs.map Ev.u)])) := by
   have hv : ak 7 (rhW n w (l' + 2) (some (.ref (T.length + 2))) (some (.int x)) (some (.int box)) (some (.ref (r + 2))) (some (.ref (T5.length + 2))) (some (.ref (T8.length + 2))) (some (.int 0)) none) (scr ns :: pen a8 c8 :: (T8 ++ [.lst (evs.map Ev.u)])) = some (.ref (T5.length + 2), scr ns :: pen a8 c8 :: (T8 ++ [.lst (evs.map Ev.u)])) := rfl
   unfold iTp
   rw [hv, Option.bind_some]
   have := hok a8 c8 (evs.map Ev.u)
   simp only [this]
  unfold mW
  rw [e0, Option.bind_some]
  exact e10
 rw [fS s1, fS s2, fS s3, fS s4, fS s5, fS s6, fS s7, fS s8, fS s9, fS s9b, fS s10]
 obtain ⟨G, hG⟩ : ∃ G, T8 ++ [O.lst fd] = T ++ G := ⟨(.lst (B.map U.int) :: G1) ++ (G2 ++ ([.lst (zs.map U.int)] ++ (G5 ++ ([.lst mo8] ++ [.lst fd])))), by rw [hT8, hT5, hT4, hT1e]; simp only [List.append_assoc]⟩
 refine ⟨.ref (T8.length + 2), a9, c9, G, ?_, .inl ⟨2000, T8.length + 2, fd, rfl, by omega, ?_, lf, fun v hv => gf v hv _⟩, ha9, hc9⟩
 ·rw [← hG]; rfl
 ·rw [← hG]; exact xa
end
end OQ
namespace OL
open PySem PySem.Spec PyProof.Rows L2 OG OP OQ
noncomputable abbrev fL (c : Cl) (f : Fn → Fn → Fn → Fn → Fn → Fn → Fn → Fn → CS) : CS := f oJ oN yV aL (jy c) (gQ c) qW qV
noncomputable def rh (n w : Int) (r3 : Option U) (l : Nat) (r5 r6 r7 r8 r9 : Option U) : Rho := [none, some (.ref 1), some (.tup [.int n, .int w]), r3, some (.ref l), r5, r6, r7, r8, r9]
section
variable {c : Cl} {n w : Int} {S : Sto} {evs : List Ev} {N l : Nat} {r3 r5 r6 r7 r8 r9 : Option U}
theorem vV {ns : List Int} {a c a' c' : Int} {T : Sto} {l : Nat} {o : O} (l2 : 2 ≤ l) (h : (scr ns :: pen a c :: T)[l]? = some o) (G : Sto) : (scr ns :: pen a' c' :: (T ++ G))[l]? = some o := by
 obtain ⟨l', rfl⟩ : ∃ l', l = l' + 2 := ⟨l - 2, by omega⟩
 exact aF (show T[l']? = _ from h)
theorem p8 (hns : c.ns.length = 5) (n0 : 1 ≤ n) (n1 : n ≤ 6) (w0 : 2 ≤ w) (w1 : w ≤ 1000) (ns : List Int) (l2 : 2 ≤ l) (lo : BO n w N evs) (hN : N ≤ 100) (he : evs.length ≤ 900) : ∀ (us : List U) (T : Sto) (a c1 : Int) (r6 : Option U), 0 ≤ a → 0 ≤ c1 → (scr ns :: pen a c1 :: T)[l]? = some (.lst (evs.map Ev.u)) →
  ∃ r6' a' c' G, fP (fun _ => True) (gNm 6) (fL c oI) us (rh n w r3 l r5 r6 r7 r8 r9) (scr ns :: pen a c1 :: T) = some (.nx, rh n w r3 l r5 r6' r7 r8 r9, scr ns :: pen a' c' :: (T ++ G)) ∧ 0 ≤ a' ∧ 0 ≤ c'
 | [], T, a, c1, r6, ha, hc, _ => ⟨r6, a, c1, [], by rw [List.append_nil]; exact gU trivial, ha, hc⟩
 | u :: us, T, a, c1, r6, ha, hc, hl => by
  obtain ⟨v, a1, d1, G1, e1, g1, ha1, hd1⟩ := yR (n := n) (w := w) ns T ha hc l2 hl he
  obtain ⟨G2, e2⟩ := jw (c := c) (n := n) (w := w) hns g1.th
  have e2' : gQ c [.tup [.int n, .int w], v] (scr ns :: pen a1 d1 :: (T ++ G1)) = some (.bl true, scr ns :: pen a1 d1 :: (T ++ G1 ++ G2)) := e2
  have hl1 : (scr ns :: pen a1 d1 :: (T ++ G1 ++ G2))[l]? = some (.lst (evs.map Ev.u)) := by rw [List.append_assoc]; exact vV l2 hl _
  obtain ⟨v2, a2, d2, G3, e3, g3, ha2, hd2⟩ := xh (n := n) (w := w) ns (T ++ G1 ++ G2) n0 n1 w0 w1 ha1 hd1 l2 hl1 lo hN he
  obtain ⟨G4, e4⟩ := jw (c := c) (n := n) (w := w) hns g3.th
  have e4' : gQ c [.tup [.int n, .int w], v2] (scr ns :: pen a2 d2 :: (T ++ G1 ++ G2 ++ G3)) = some (.bl true, scr ns :: pen a2 d2 :: (T ++ G1 ++ G2 ++ G3 ++ G4)) := e4
  have hl2 : (scr ns :: pen a2 d2 :: (T ++ G1 ++ G2 ++ G3 ++ G4))[l]? = some (.lst (evs.map Ev.u)) := by rw [List.append_assoc]; exact vV l2 hl1 _
  obtain ⟨r6', a5, d5, G5, ih, ha5, hd5⟩ := p8 hns n0 n1 w0 w1 ns l2 lo hN he us (T ++ G1 ++ G2 ++ G3 ++ G4) a2 d2 (some u) ha2 hd2 hl2
  refine ⟨r6', a5, d5, G1 ++ G2 ++ G3 ++ G4 ++ G5, (jt trivial rfl ?_).trans (ih.trans ?_), ha5, hd5⟩
  ·generalize scr ns :: pen a c1 :: T = Y at e1 ⊢
   generalize scr ns :: pen a1 d1 :: (T ++ G1) = Y1 at e1 e2' ⊢
   generalize scr ns :: pen a1 d1 :: (T ++ G1 ++ G2) = Y2 at e2' e3 ⊢
   generalize scr ns :: pen a2 d2 :: (T ++ G1 ++ G2 ++ G3) = Y3 at e3 e4' ⊢
   generalize scr ns :: pen a2 d2 :: (T ++ G1 ++ G2 ++ G3 ++ G4) = Y4 at e4' ⊢
   rwa [fL, oI, rh, e1, e2', e3, e4']
  ·simp only [List.append_assoc]
theorem nz (hns : c.ns.length = 5) {ok : Sto → Prop} {Z : Sto} (hok : ∀ G, ok (Z ++ G)) : ∀ (us : List U) (G : Sto) (r9 : Option U), (∀ u ∈ us, Th2 Z u) →
  ∃ r9' G', fP ok (gNm 9) (fL c mP) us (rh n w r3 l r5 r6 r7 r8 r9) (Z ++ G) = some (.nx, rh n w r3 l r5 r6 r7 r8 r9', Z ++ G')
 | [], G, r9, _ => ⟨r9, G, gU (hok G)⟩
 | u :: us, G, r9, h => by
  obtain ⟨G1, e1⟩ := jw (c := c) (n := n) (w := w) (S := Z ++ G) hns ((h u List.mem_cons_self).app G).th
  rw [List.append_assoc] at e1
  obtain ⟨r9', G', ih⟩ := nz hns hok us (G ++ G1) (some u) fun v hv => h v (List.mem_cons_of_mem _ hv)
  refine ⟨r9', G', (jt (hok G) rfl ?_).trans ih⟩
  generalize Z ++ G = Y at e1 ⊢
  generalize Z ++ (G ++ G1) = Y1 at e1 ⊢
  rwa [fL, mP, rh, e1]
theorem BE {ρ : Rho} {S0 : Sto} {c1 c2 : CE} {u1 u2 : U} (l2 : 2 ≤ S0.length) (h1 : ∀ S, c1 ρ S = some (u1, S)) (h2 : ∀ S, c2 ρ S = some (u2, S)) (g1 : GdE S0 u1) (g2 : GdE S0 u2) : EvQ ρ S0 (bE (ab c1 (ab c2 aq))) 2 := mz l2 fun X => by
 refine ⟨[u1, u2], [], ?_, Nat.le_refl 2, fun v hv => ?_⟩
 ·rw [nN, eF, h1, Option.bind_some, dI, eF, h2, List.append_nil]; rfl
 ·rcases List.mem_cons.mp hv with rfl | hv
  ·exact g1.app _
  ·rw [List.mem_singleton.mp hv]; exact g2.app _
noncomputable def lkU (k : Int) : U := .tup [.str "look", .int 3, .int 0, .int k]
theorem Ej (k : Int) (S : Sto) : GdE S (lkU k) := pJ (.look 3 0 k) S
theorem yE {ρ : Rho} {S0 : Sto} (l2 : 2 ≤ S0.length) : EvQ ρ S0 (cOp bD (bE (ab (aN (ab (cC (.str "begin")) (ab (cC (.int 3)) aq))) aq)) (g9 (bY (ab (cC (.int 1999)) aq)) (gNm 0) (aN (ab (cC (.str "look")) (ab (cC (.int 3)) (ab (cC (.int 0)) (ab (cOp mw (ak 0) (cC (.int 2))) aq))))) 1 [])) (1 + 1999) := by
 refine ej l2 (kc (u := .tup [.str "begin", .int 3]) l2 (fun _ => rfl) (iU (by decide +kernel))) (fun X => ?_) (by decide)
 obtain ⟨G', h⟩ := oG (S := S0 ++ X) (ok := fun _ => True) (gg := gNm 0) (ce := aN (ab (cC (.str "look")) (ab (cC (.int 3)) (ab (cC (.int 0)) (ab (cOp mw (ak 0) (cC (.int 2))) aq))))) (f := fun i : Nat => U.int (0 + (i : Nat))) (v := fun i : Nat => lkU ((i : Int) % 2)) (Rel := fun ρ => ∃ r0, ρ = [r0]) (fun ys G => trivial) (List.range 1999) [] [] [none] ⟨_, rfl⟩ (by simp) (fun i hi ys G ρ hρ => by
   obtain ⟨r0, rfl⟩ := hρ
   refine ⟨[some (.int (i : Int))], [], ⟨_, rfl⟩, by rw [Int.zero_add]; rfl, ?_⟩
   rw [List.append_nil]
   have h2 : mw (.int (i : Int)) (.int 2) (S0 ++ X ++ (O.lst ys :: G)) = some (.int ((i : Int) % 2), S0 ++ X ++ (O.lst ys :: G)) := qg (by decide)
   generalize S0 ++ X ++ (O.lst ys :: G) = Y at h2 ⊢
   rwa [lkU, h2])
 simp only [List.nil_append] at h
 obtain ⟨us, hus⟩ : ∃ us, us = (List.range 1999).map fun i : Nat => lkU ((i : Int) % 2) := ⟨_, rfl⟩
 rw [← hus] at h
 have lu : us.length = 1999 := by rw [hus, List.length_map, List.length_range]
 have gu : ∀ v ∈ us, ∀ S, GdE S v := fun v hv S => by
  rw [hus] at hv
  obtain ⟨i, _, rfl⟩ := List.mem_map.mp hv
  exact Ej _ S
 refine ⟨.ref (S0 ++ X).length, .lst us :: G', ?_, (S0 ++ X).length, us, rfl, by simp; omega, ?_, by omega, fun v hv => gu v hv _⟩
 ·have e0 : bY (ab (cC (.int 1999)) aq) ρ (S0 ++ X) = some (bV 0 1999, fun _ => True, S0 ++ X) := rfl
  unfold g9
  rw [e0, Option.bind_some]
  show (iC (fun _ => True) (gNm 0) _ (S0 ++ X).length (bV 0 1999) [none] (S0 ++ X ++ [.lst []])).bind (fun S' => some (U.ref (S0 ++ X).length, S')) = _
  unfold bV
  rw [h, List.append_assoc]
  rfl
 ·rw [← List.append_assoc, ga0]; rfl
theorem zx {ρ : Rho} {S0 : Sto} {cr : CA} {m : Nat} (h : zO ρ S0 cr m) (X : Sto) : ∃ us G, bE cr ρ (S0 ++ X) = some (.ref (S0 ++ (X ++ G)).length, S0 ++ (X ++ G) ++ [.lst us]) ∧ us.length = m ∧ ∀ u ∈ us, Th2 (S0 ++ (X ++ G) ++ [.lst us]) u := by
 obtain ⟨us, G, e, hl, g⟩ := h X
 exact ⟨us, G, by rw [nN, e]; rfl, hl, fun u hu => (g u hu).app _⟩
theorem yC {ρ : Rho} {S0 : Sto} (l2 : 2 ≤ S0.length) : EvQ ρ S0 (bE aq) 0 := mz l2 fun X => ⟨[], [], by rw [List.append_nil]; rfl, Nat.le_refl 0, fun v hv => by cases hv⟩
theorem uI {ρ : Rho} {S0 : Sto} {u7 : U} (l2 : 2 ≤ S0.length) (h7 : ρ[7]? = some (some u7)) (q : LsQ S0 u7 2000) : zO ρ S0 (ab (ak 7) (ab (cOp bD (ak 7) (bE (ab (aN (ab (cC (.str "fall")) (ab (cC (.int 3)) aq))) aq))) (ab (bE aq) (ab (cC .non) (ab (cC (.int 0)) (ab (cC (.str "log")) (ab (aN aq) aq))))))) 7 :=
 cP (qJ (my h7 q)) (cP (qJ (ej l2 (my h7 q) (kc (u := .tup [.str "fall", .int 3]) l2 (fun _ => rfl) (iU (by decide +kernel))) (by decide))) (cP (qJ (yC l2)) (cP (jQ (u := .non) (fun _ => rfl) (fun _ z => by cases z) .non) (cP (jQ (u := .int 0) (fun _ => rfl) (fun _ z => by cases z) (.int 0)) (cP (jQ (u := .str "log") (fun _ => rfl) (fun _ z => by cases z) (.str _)) (cP (jQ (u := .tup []) (fun _ => rfl) (fun _ z => by cases z) (.tup fun u hu => by cases hu)) oy))))))
theorem Be {ρ : Rho} {S0 : Sto} (l2 : 2 ≤ S0.length) : zO ρ S0 (ab (bE (ab (aN (ab (cC (.str "begin")) (ab (cC (.int 0)) aq))) (ab (aN (ab (cC (.str "begin")) (ab (cC (.int 199)) aq))) aq))) (ab (bE (ab (aN (ab (cC (.str "begin")) (ab (cC (.int 200)) aq))) aq)) aq)) 2 :=
 cP (qJ (BE (u1 := .tup [.str "begin", .int 0]) (u2 := .tup [.str "begin", .int 199]) l2 (fun _ => rfl) (fun _ => rfl) (iU (by decide +kernel)) (iU (by decide +kernel)))) (cP (qJ (kc (u := .tup [.str "begin", .int 200]) l2 (fun _ => rfl) (iU (by decide +kernel)))) oy)
theorem By (hns : c.ns.length = 5) (S0 : Sto) (l2 : 2 ≤ S0.length) : ∃ ρ' S', (aZ (bZ 7 (cOp bD (bE (ab (aN (ab (cC (.str "begin")) (ab (cC (.int 3)) aq))) aq)) (g9 (bY (ab (cC (.int 1999)) aq)) (gNm 0) (aN (ab (cC (.str "look")) (ab (cC (.int 3)) (ab (cC (.int 0)) (ab (cOp mw (ak 0) (cC (.int 2))) aq))))) 1 [])))
  (aZ (bZ 8 (bE (ab (ak 7) (ab (cOp bD (ak 7) (bE (ab (aN (ab (cC (.str "fall")) (ab (cC (.int 3)) aq))) aq))) (ab (bE aq) (ab (cC .non) (ab (cC (.int 0)) (ab (cC (.str "log")) (ab (aN aq) aq)))))))))
  (aZ (mW (iTp (cOp bD (ak 8) (bE (ab (bE (ab (aN (ab (cC (.str "begin")) (ab (cC (.int 0)) aq))) (ab (aN (ab (cC (.str "begin")) (ab (cC (.int 199)) aq))) aq))) (ab (bE (ab (aN (ab (cC (.str "begin")) (ab (cC (.int 200)) aq))) aq)) aq))))) (gNm 9) (fL c mP))
  (ed (cC (.bl true)))))) (rh n w r3 l r5 r6 none none none) S0 = some (.rt (.bl true), ρ', S') := by
 obtain ⟨u7, G7, e7, q7⟩ := yE (ρ := rh n w r3 l r5 r6 none none none) l2 []
 rw [List.append_nil, List.nil_append] at e7
 rw [List.nil_append] at q7
 have s7 : ∀ cb : CS, aZ (bZ 7 (cOp bD (bE (ab (aN (ab (cC (.str "begin")) (ab (cC (.int 3)) aq))) aq)) (g9 (bY (ab (cC (.int 1999)) aq)) (gNm 0) (aN (ab (cC (.str "look")) (ab (cC (.int 3)) (ab (cC (.int 0)) (ab (cOp mw (ak 0) (cC (.int 2))) aq))))) 1 []))) cb (rh n w r3 l r5 r6 none none none) S0 = cb (rh n w r3 l r5 r6 (some u7) none none) (S0 ++ G7) := fun cb => fS (by rw [gR, e7]; rfl)
 rw [s7]
 obtain ⟨S1, hS1⟩ : ∃ S1, S1 = S0 ++ G7 := ⟨_, rfl⟩
 rw [← hS1] at q7 ⊢
 have l21 : 2 ≤ S1.length := by rw [hS1, List.length_append]; omega
 obtain ⟨us, G8, e8, len8, t8⟩ := zx (uI (ρ := rh n w r3 l r5 r6 (some u7) none none) l21 rfl q7) []
 rw [List.append_nil, List.nil_append] at e8
 rw [List.nil_append] at t8
 obtain ⟨j8, hj8⟩ : ∃ j, j = (S1 ++ G8).length := ⟨_, rfl⟩
 obtain ⟨S2, hS2⟩ : ∃ S2, S2 = S1 ++ G8 ++ [O.lst us] := ⟨_, rfl⟩
 have gj8 : S2[j8]? = some (.lst us) := by rw [hS2, hj8, ga0]; rfl
 rw [← hj8, ← hS2] at e8
 rw [← hS2] at t8
 rw [fS (ρ' := rh n w r3 l r5 r6 (some u7) (some (.ref j8)) none) (S' := S2) (by rw [gR, e8]; rfl)]
 have l22 : 2 ≤ S2.length := by rw [hS2, List.length_append, List.length_append]; omega
 obtain ⟨vs, G9, e9, len9, t9⟩ := zx (Be (ρ := rh n w r3 l r5 r6 (some u7) (some (.ref j8)) none) l22) []
 rw [List.append_nil, List.nil_append] at e9
 rw [List.nil_append] at t9
 obtain ⟨j9, hj9⟩ : ∃ j, j = (S2 ++ G9).length := ⟨_, rfl⟩
 obtain ⟨S3, hS3⟩ : ∃ S3, S3 = S2 ++ G9 ++ [O.lst vs] := ⟨_, rfl⟩
 have gj9 : S3[j9]? = some (.lst vs) := by rw [hS3, hj9, ga0]; rfl
 have gj83 : S3[j8]? = some (.lst us) := by rw [hS3]; exact aF (aF gj8)
 rw [← hj9, ← hS3] at e9
 rw [← hS3] at t9
 have t83 : ∀ u ∈ us, Th2 S3 u := fun u hu => by rw [hS3]; exact ((t8 u hu).app G9).app _
 have lz : us.length + vs.length ≤ LIM := by unfold LIM; omega
 have ea : cOp bD (ak 8) (bE (ab (bE (ab (aN (ab (cC (.str "begin")) (ab (cC (.int 0)) aq))) (ab (aN (ab (cC (.str "begin")) (ab (cC (.int 199)) aq))) aq))) (ab (bE (ab (aN (ab (cC (.str "begin")) (ab (cC (.int 200)) aq))) aq)) aq))) (rh n w r3 l r5 r6 (some u7) (some (.ref j8)) none) S2 = some (.ref S3.length, S3 ++ [.lst (us ++ vs)]) := by
  have ev : ak 8 (rh n w r3 l r5 r6 (some u7) (some (.ref j8)) none) S2 = some (.ref j8, S2) := rfl
  rw [mY, ev, Option.bind_some, iZ, e9, Option.bind_some, iY]
  simp only [bD, jv, gj83, gj9]
  rw [if_pos lz]
 have g4 : (S3 ++ [O.lst (us ++ vs)])[S3.length]? = some (.lst (us ++ vs)) := by rw [ga0]; rfl
 obtain ⟨r9', G', e10⟩ := nz (n := n) (w := w) (l := l) (r3 := r3) (r5 := r5) (r6 := r6) (r7 := some u7) (r8 := some (.ref j8)) hns (ok := fun S => S[S3.length]? = some (.lst (us ++ vs))) (Z := S3 ++ [O.lst (us ++ vs)]) (fun G => aF g4) (us ++ vs) [] none (fun u hu => by
  rcases List.mem_append.mp hu with hu | hu
  ·exact (t83 u hu).app _
  ·exact (t9 u hu).app _)
 rw [List.append_nil] at e10
 refine ⟨rh n w r3 l r5 r6 (some u7) (some (.ref j8)) r9', S3 ++ [O.lst (us ++ vs)] ++ G', ?_⟩
 have e11 : ∀ cb : CS, aZ (mW (iTp (cOp bD (ak 8) (bE (ab (bE (ab (aN (ab (cC (.str "begin")) (ab (cC (.int 0)) aq))) (ab (aN (ab (cC (.str "begin")) (ab (cC (.int 199)) aq))) aq))) (ab (bE (ab (aN (ab (cC (.str "begin")) (ab (cC (.int 200)) aq))) aq)) aq))))) (gNm 9) (fL c mP)) cb (rh n w r3 l r5 r6 (some u7) (some (.ref j8)) none) S2 = cb (rh n w r3 l r5 r6 (some u7) (some (.ref j8)) r9') (S3 ++ [O.lst (us ++ vs)] ++ G') := fun cb => fS (by
  unfold mW iTp
  rw [ea, Option.bind_some]
  simp only [g4, Option.bind_some]
  exact e10)
 rw [e11]
 rfl
theorem DU {S : Sto} (e : Ev) : Lay 1 S e.u := by
 have two : ∀ (x : Str) (a : Int), PyData.strOk x = true → Lay 1 S (.tup [.str x, .int a]) := fun x a h => .tup fun u hu => by
  simp only [List.mem_cons, List.not_mem_nil, or_false] at hu
  rcases hu with rfl | rfl
  ·exact .str h
  ·exact .int
 have four : ∀ (x : Str) (a b y : Int), PyData.strOk x = true → Lay 1 S (.tup [.str x, .int a, .int b, .int y]) := fun x a b y h => .tup fun u hu => by
  simp only [List.mem_cons, List.not_mem_nil, or_false] at hu
  rcases hu with rfl | rfl | rfl | rfl
  ·exact .str h
  ·exact .int
  ·exact .int
  ·exact .int
 cases e with
 | fin d a => cases d <;> exact two _ a (by decide +kernel)
 | beg a => exact two _ a (by decide +kernel)
 | look a b x => exact four _ a b x (by decide +kernel)
 | put a b x => exact four _ a b x (by decide +kernel)
theorem Eo {S : Sto} {l l' : Nat} {es : List Ev} (h : S[l]? = some (.lst (es.map Ev.u))) (h' : S[l']? = some (.lst (es.map Ev.u))) : mV true (.ref l) (.ref l') S = some (.bl false, S) :=
 kg.ne (k := 2) (kg.lst h h' (iq.all fun u hu => by obtain ⟨e, _, rfl⟩ := List.mem_map.mp hu; exact DU e)) (by omega)
theorem Ir : StI [] 0 := ⟨by simp [aE], fun k hk => by simp [aE] at hk, ⟨by simp, by simp⟩⟩
theorem nH (hns : c.ns.length = 5) {es : List Ev} (hl : S[l]? = some (.lst (es.map Ev.u))) (lf : w8 n w [] es) (he : es.length ≤ 900) : ∃ G, jy c [.tup [.int n, .int w], .ref l] S = some (.bl true, S ++ G) := by
 obtain ⟨G, e⟩ := rO (c := c) (n := n) (w := w) (S := S) (u := .ref l) hns (.inl ⟨l, _, rfl, hl, fun v hv => by obtain ⟨e, _, rfl⟩ := List.mem_map.mp hv; exact pJ e S⟩)
 rw [jN hl (by rw [List.length_map]; omega), rX es [] 0 Ir lf] at e
 exact ⟨G, e⟩
theorem DV (hns : c.ns.length = 5) (ns : List Int) (a c1 : Int) (ha : 0 ≤ a) (hc : 0 ≤ c1) : ∃ ρ' S', (fL c wK) [none, some (.ref 1), none, none, none, none, none, none, none, none] [.lst (ns.map U.int), .lst [.ref 0, .int a, .int c1]] = some (.rt (.bl true), ρ', S') := by
 obtain ⟨n, w, a1, d1, G, e1, n0, n1, w0, w1, ha1, hd1⟩ := xp ns [] ha hc
 rw [List.nil_append] at e1
 obtain ⟨x, a2, d2, G2, e2, hx, bx, ha2, hd2⟩ := xy ns G ha1 hd1 n0 n1 w0 w1
 obtain ⟨i, a3, d3, e3, i0, i1, ha3, hd3⟩ := aU ns (G ++ G2 ++ [.lst [.int 40, .int 40, .int 40, .int 400]]) ha2 hd2 (m := 4) (by decide) (by decide)
 obtain ⟨z, hz, z0, z1⟩ : ∃ z : Int, atI ([.int 40, .int 40, .int 40, .int 400] : List U) i = some (.int z) ∧ 0 ≤ z ∧ z ≤ 400 := by
  have h4 : i = 0 ∨ i = 1 ∨ i = 2 ∨ i = 3 := by omega
  rcases h4 with rfl | rfl | rfl | rfl
  ·exact ⟨40, rfl, by decide, by decide⟩
  ·exact ⟨40, rfl, by decide, by decide⟩
  ·exact ⟨40, rfl, by decide, by decide⟩
  ·exact ⟨400, rfl, by decide, by decide⟩
 obtain ⟨xs, hxs⟩ : ∃ xs : List U, xs = [.int 40, .int 40, .int 40, .int 400] := ⟨_, rfl⟩
 rw [← hxs] at e3 hz
 obtain ⟨T3, hT3⟩ : ∃ T3, T3 = G ++ G2 ++ [O.lst xs] := ⟨_, rfl⟩
 have g3 : T3[(G ++ G2).length]? = some (.lst xs) := by rw [hT3, ga0]; rfl
 rw [← hT3] at e3
 obtain ⟨evs, a4, d4, G4, k4, e4, g4, lg, he, ha4, hd4⟩ := DT ns T3 (most := 6) (size := z) ha3 hd3 n0 n1 w0 w1 hx bx (by omega) (by omega) z0 (by omega)
 have he' : evs.length ≤ 400 := by omega
 obtain ⟨X3, hX3⟩ : ∃ X3, X3 = x.map U.int := ⟨_, rfl⟩
 rw [← hX3] at e2 e4
 have s1 : bZ 2 (cCB oJ (ab (ak 1) aq)) [none, some (.ref 1), none, none, none, none, none, none, none, none] (scr ns :: pen a c1 :: []) = some (.nx, [none, some (.ref 1), some (.tup [.int n, .int w]), none, none, none, none, none, none, none], scr ns :: pen a1 d1 :: G) := by
  generalize scr ns :: pen a1 d1 :: G = Y1 at e1 ⊢
  generalize scr ns :: pen a c1 :: [] = Y0 at e1 ⊢
  rwa [e1]
 have s2 : bZ 3 (cCB oN (ab (ak 1) (ab (ak 2) aq))) [none, some (.ref 1), some (.tup [.int n, .int w]), none, none, none, none, none, none, none] (scr ns :: pen a1 d1 :: G) = some (.nx, [none, some (.ref 1), some (.tup [.int n, .int w]), some (.tup X3), none, none, none, none, none, none], scr ns :: pen a2 d2 :: (G ++ G2)) := by
  generalize scr ns :: pen a1 d1 :: G = Y1 at e2 ⊢
  generalize scr ns :: pen a2 d2 :: (G ++ G2) = Y2 at e2 ⊢
  rwa [e2]
 have s3 : bZ 4 (cCB yV (ab (ak 1) (ab (ak 2) (ab (ak 3) (ab (cC (.int 6)) (ab (cOp fIx (bE (ab (cC (.int 40)) (ab (cC (.int 40)) (ab (cC (.int 40)) (ab (cC (.int 400)) aq))))) (cCB aL (ab (ak 1) (ab (cC (.int 4)) aq)))) aq)))))) [none, some (.ref 1), some (.tup [.int n, .int w]), some (.tup X3), none, none, none, none, none, none] (scr ns :: pen a2 d2 :: (G ++ G2)) = some (.nx, rh n w (some (.tup X3)) (T3.length + k4 + 1 + 1) none none none none none, scr ns :: pen a4 d4 :: (T3 ++ G4)) := by
  have hl : ∀ ρ, bE (ab (cC (.int 40)) (ab (cC (.int 40)) (ab (cC (.int 40)) (ab (cC (.int 400)) aq)))) ρ (scr ns :: pen a2 d2 :: (G ++ G2)) = some (.ref ((G ++ G2).length + 2), scr ns :: pen a2 d2 :: T3) := fun ρ => by rw [hT3, hxs]; rfl
  have gl : (scr ns :: pen a3 d3 :: T3)[(G ++ G2).length + 2]? = some (.lst xs) := g3
  generalize scr ns :: pen a2 d2 :: (G ++ G2) = Y2 at hl ⊢
  generalize scr ns :: pen a2 d2 :: T3 = Y3 at hl e3 ⊢
  generalize scr ns :: pen a3 d3 :: T3 = Y4 at gl e3 e4 ⊢
  generalize scr ns :: pen a4 d4 :: (T3 ++ G4) = Y5 at e4 ⊢
  rw [gR]
  have ei : ∀ ρ : Rho, ρ[1]? = some (some (.ref 1)) → cOp fIx (bE (ab (cC (.int 40)) (ab (cC (.int 40)) (ab (cC (.int 40)) (ab (cC (.int 400)) aq))))) (cCB aL (ab (ak 1) (ab (cC (.int 4)) aq))) ρ Y2 = some (.int z, Y4) := fun ρ hρ => by
   have ev : ak 1 ρ Y3 = some (.ref 1, Y3) := by unfold ak; rw [hρ]
   have et : cCB aL (ab (ak 1) (ab (cC (.int 4)) aq)) ρ Y3 = some (.int i, Y4) := by
    rw [Cu, eF, ev, Option.bind_some, dI]
    exact e3
   rw [mY, hl, Option.bind_some, iZ, et, Option.bind_some, iY, sG, gl, sH, hz]
   rfl
  have ei' := ei [none, some (.ref 1), some (.tup [.int n, .int w]), some (.tup X3), none, none, none, none, none, none] rfl
  generalize cOp fIx (bE (ab (cC (.int 40)) (ab (cC (.int 40)) (ab (cC (.int 40)) (ab (cC (.int 400)) aq))))) (cCB aL (ab (ak 1) (ab (cC (.int 4)) aq))) = ce at ei' ⊢
  rwa [rh, ei', e4]
 obtain ⟨T4, hT4⟩ : ∃ T4, T4 = T3 ++ G4 := ⟨_, rfl⟩
 obtain ⟨l', hl'⟩ : ∃ l', l' = T3.length + k4 := ⟨_, rfl⟩
 have gl : T4[l']? = some (.lst (evs.map Ev.u)) := by rw [hT4, hl', ga]; exact g4
 rw [← hT4, ← hl'] at s3
 have hl : ∀ (a c : Int) (X : Sto), (scr ns :: pen a c :: (T4 ++ X))[l' + 1 + 1]? = some (.lst (evs.map Ev.u)) := fun _ _ X => aF gl
 have s4 : bZ 5 (cCB j7 (ab (ak 4) aq)) (rh n w (some (.tup X3)) (l' + 1 + 1) none none none none none) (scr ns :: pen a4 d4 :: T4) = some (.nx, rh n w (some (.tup X3)) (l' + 1 + 1) (some (.ref (T4.length + 2))) none none none none, scr ns :: pen a4 d4 :: (T4 ++ [.lst (evs.map Ev.u)])) := by
  have g0 := hl a4 d4 []
  rw [List.append_nil] at g0
  rw [gR]
  show (j7 [.ref (l' + 1 + 1)] (scr ns :: pen a4 d4 :: T4)).bind _ = _
  rw [qh, g0]
  rfl
 have gh : (scr ns :: pen a4 d4 :: (T4 ++ [.lst (evs.map Ev.u)]))[T4.length + 2]? = some (.lst (evs.map Ev.u)) := xa
 obtain ⟨G5, e5⟩ := nH (c := c) (n := n) (w := w) hns gh lg.lo (by omega)
 have en := Eo (S := (scr ns :: pen a4 d4 :: (T4 ++ [.lst (evs.map Ev.u)])) ++ G5) (aF gh) (aF (hl a4 d4 _))
 have eS : (scr ns :: pen a4 d4 :: (T4 ++ [.lst (evs.map Ev.u)])) ++ G5 = scr ns :: pen a4 d4 :: (T4 ++ ([.lst (evs.map Ev.u)] ++ G5)) := by rw [List.cons_append, List.cons_append, List.append_assoc]
 rw [eS] at e5 en
 have nb : (true != true) = false := rfl
 have s5 : d9 (cOr (aG (cOp iJ (cCB (jy c) (ab (ak 2) (ab (ak 5) aq))) (cC (.bl true)))) (aG (cOp (mV true) (ak 5) (ak 4)))) (ed (cC (.bl false))) bM (rh n w (some (.tup X3)) (l' + 1 + 1) (some (.ref (T4.length + 2))) none none none none) (scr ns :: pen a4 d4 :: (T4 ++ [.lst (evs.map Ev.u)])) = some (.nx, rh n w (some (.tup X3)) (l' + 1 + 1) (some (.ref (T4.length + 2))) none none none none, scr ns :: pen a4 d4 :: (T4 ++ ([.lst (evs.map Ev.u)] ++ G5))) := by
  generalize scr ns :: pen a4 d4 :: (T4 ++ [.lst (evs.map Ev.u)]) = Y1 at e5 ⊢
  generalize scr ns :: pen a4 d4 :: (T4 ++ ([.lst (evs.map Ev.u)] ++ G5)) = Y2 at e5 en ⊢
  rwa [rh, e5, en, iJ, nb]
 obtain ⟨T5, hT5⟩ : ∃ T5, T5 = T4 ++ ([.lst (evs.map Ev.u)] ++ G5) := ⟨_, rfl⟩
 have gl5 : T5[l']? = some (.lst (evs.map Ev.u)) := by rw [hT5]; exact aF gl
 rw [← hT5] at s5
 obtain ⟨f, a6, d6, e6, f0, f1, ha6, hd6⟩ := aU ns T5 ha4 hd4 (m := ((evs.map Ev.u).length : Int) + 1) (by omega) (l9 (by omega) (by rw [List.length_map]; omega))
 rw [List.length_map] at f1
 have ecut : sg (evs.map Ev.u) none (some f) = (evs.take f.toNat).map Ev.u := by
  have h0 : HT.sIx (evs.map Ev.u).length 0 none = 0 := rfl
  have h1 : HT.sIx (evs.map Ev.u).length (evs.map Ev.u).length (some f) = f.toNat := by
   unfold HT.sIx
   simp only [List.length_map]
   split <;> omega
  unfold sg
  rw [h0, h1, List.drop_zero, Nat.sub_zero, List.map_take]
 have g6 : (scr ns :: pen a6 d6 :: (T5 ++ [O.lst ((evs.take f.toNat).map Ev.u)]))[T5.length + 2]? = some (.lst ((evs.take f.toNat).map Ev.u)) := xa
 obtain ⟨G6, e6b⟩ := nH (c := c) (n := n) (w := w) hns g6 (pC f.toNat evs [] lg.lo) (by rw [List.length_take]; omega)
 have eS6 : (scr ns :: pen a6 d6 :: (T5 ++ [O.lst ((evs.take f.toNat).map Ev.u)])) ++ G6 = scr ns :: pen a6 d6 :: (T5 ++ ([O.lst ((evs.take f.toNat).map Ev.u)] ++ G6)) := by rw [List.cons_append, List.cons_append, List.append_assoc]
 rw [eS6] at e6b
 have s6 : d9 (aG (cOp iJ (cCB (jy c) (ab (ak 2) (ab (cSl (ak 4) none (some (cCB aL (ab (ak 1) (ab (cOp bD (cCB jd (ab (ak 4) aq)) (cC (.int 1))) aq))))) aq))) (cC (.bl true)))) (ed (cC (.bl false))) bM (rh n w (some (.tup X3)) (l' + 1 + 1) (some (.ref (T4.length + 2))) none none none none) (scr ns :: pen a4 d4 :: T5) = some (.nx, rh n w (some (.tup X3)) (l' + 1 + 1) (some (.ref (T4.length + 2))) none none none none, scr ns :: pen a6 d6 :: (T5 ++ ([O.lst ((evs.take f.toNat).map Ev.u)] ++ G6))) := by
  have g0 : (scr ns :: pen a4 d4 :: T5)[l' + 1 + 1]? = some (.lst (evs.map Ev.u)) := gl5
  have g0' : (scr ns :: pen a6 d6 :: T5)[l' + 1 + 1]? = some (.lst (evs.map Ev.u)) := gl5
  have ln : (scr ns :: pen a6 d6 :: T5).length = T5.length + 2 := rfl
  have esl : fSl (.ref (l' + 1 + 1)) none (some f) (scr ns :: pen a6 d6 :: T5) = some (.ref (T5.length + 2), scr ns :: pen a6 d6 :: (T5 ++ [O.lst ((evs.take f.toNat).map Ev.u)])) := by
   unfold fSl
   simp only [g0']
   rw [ecut, ln]
   rfl
  have et : cCB aL (ab (ak 1) (ab (cOp bD (cCB jd (ab (ak 4) aq)) (cC (.int 1))) aq)) (rh n w (some (.tup X3)) (l' + 1 + 1) (some (.ref (T4.length + 2))) none none none none) (scr ns :: pen a4 d4 :: T5) = some (.int f, scr ns :: pen a6 d6 :: T5) := by
   generalize evs.map Ev.u = us at g0 e6
   generalize scr ns :: pen a6 d6 :: T5 = Y1 at e6 ⊢
   generalize scr ns :: pen a4 d4 :: T5 = Y0 at e6 g0 ⊢
   rwa [rh, g0, e6]
  have es : cSl (ak 4) none (some (cCB aL (ab (ak 1) (ab (cOp bD (cCB jd (ab (ak 4) aq)) (cC (.int 1))) aq)))) (rh n w (some (.tup X3)) (l' + 1 + 1) (some (.ref (T4.length + 2))) none none none none) (scr ns :: pen a4 d4 :: T5) = some (.ref (T5.length + 2), scr ns :: pen a6 d6 :: (T5 ++ [O.lst ((evs.take f.toNat).map Ev.u)])) := by
   have ev : ak 4 (rh n w (some (.tup X3)) (l' + 1 + 1) (some (.ref (T4.length + 2))) none none none none) (scr ns :: pen a4 d4 :: T5) = some (.ref (l' + 1 + 1), scr ns :: pen a4 d4 :: T5) := rfl
   unfold cSl
   rw [ev, Option.bind_some]
   have p0 : gZ none (rh n w (some (.tup X3)) (l' + 1 + 1) (some (.ref (T4.length + 2))) none none none none) (scr ns :: pen a4 d4 :: T5) = some (none, scr ns :: pen a4 d4 :: T5) := rfl
   simp only [p0, Option.bind_some, uM et]
   exact esl
  generalize cSl (ak 4) none (some (cCB aL (ab (ak 1) (ab (cOp bD (cCB jd (ab (ak 4) aq)) (cC (.int 1))) aq)))) = ce at es ⊢
  generalize scr ns :: pen a6 d6 :: (T5 ++ ([O.lst ((evs.take f.toNat).map Ev.u)] ++ G6)) = Y2 at e6b ⊢
  generalize scr ns :: pen a6 d6 :: (T5 ++ [O.lst ((evs.take f.toNat).map Ev.u)]) = Y1 at e6b es ⊢
  generalize scr ns :: pen a4 d4 :: T5 = Y0 at es ⊢
  simp only [rh] at es
  rwa [rh, es, e6b, iJ, nb]
 obtain ⟨T6, hT6⟩ : ∃ T6, T6 = T5 ++ ([O.lst ((evs.take f.toNat).map Ev.u)] ++ G6) := ⟨_, rfl⟩
 have gl6 : (scr ns :: pen a6 d6 :: T6)[l' + 1 + 1]? = some (.lst (evs.map Ev.u)) := by
  have : T6[l']? = some (.lst (evs.map Ev.u)) := by rw [hT6]; exact aF gl5
  exact this
 rw [← hT6] at s6
 obtain ⟨r6', a7, d7, G7, e7, ha7, hd7⟩ := p8 (c := c) (l := l' + 1 + 1) (r3 := some (.tup X3)) (r5 := some (.ref (T4.length + 2))) (r7 := none) (r8 := none) (r9 := none) hns n0 n1 w0 w1 ns (by omega) lg (by decide) (by omega) (bV 0 6) T6 a6 d6 none ha6 hd6 gl6
 have s7 : mW (bY (ab (cC (.int 6)) aq)) (gNm 6) (fL c oI) (rh n w (some (.tup X3)) (l' + 1 + 1) (some (.ref (T4.length + 2))) none none none none) (scr ns :: pen a6 d6 :: T6) = some (.nx, rh n w (some (.tup X3)) (l' + 1 + 1) (some (.ref (T4.length + 2))) r6' none none none, scr ns :: pen a7 d7 :: (T6 ++ G7)) := by
  have r6 : bY (ab (cC (.int 6)) aq) = fun ρ S => some (bV 0 6, fun _ => True, S) := rfl
  unfold mW
  rw [r6, Option.bind_some]
  exact e7
 obtain ⟨ρ', S', e8⟩ := By (c := c) (n := n) (w := w) (l := l' + 1 + 1) (r3 := some (.tup X3)) (r5 := some (.ref (T4.length + 2))) (r6 := r6') hns (scr ns :: pen a7 d7 :: (T6 ++ G7)) (by simp)
 refine ⟨ρ', S', ?_⟩
 show fL c wK _ [scr ns, pen a c1] = _
 unfold fL wK
 rw [fS s1, fS s2, fS s3, fS s4, fS s5, fS s6, fS s7]
 exact e8
end
section
variable {P : Program} {w : World} {K : PySem.W.Frag} {mg : Str → Option Value} {base : Heap}
theorem lI : aW ["script"] ["script"] (ax eJ) := ⟨rfl, rfl, rfl, by decide +kernel, rfl, by decide +kernel, by decide +kernel⟩
theorem Bv {k : Nat} (B : Blt mg) (d : Def K mg "_law_pen" eJ ["script"]) : Has P w K mg base "_law_pen" (k+1) ["script"] (zj K) := by
 refine d.has lI (fun vs H Q E h => ?_) (fun f cdv A outer s H vs Q E hr h => ?_)
 ·obtain ⟨a, ns, rfl, _⟩ := h; rfl
 obtain ⟨a, ns, rfl, hS, q⟩ := h
 have nd := lI.nd
 refine ⟨_, (qZ (ui (uq (fz (nu fY rfl B.list OG.fK (fz (lA uN (wpv 0) rb (q5 af)) jW)) (fz af (fz af jW)))))), ?_⟩
 refine ⟨_, rfl, _, rfl, a, _, rfl, hS, fun p hp => ⟨p, _, rfl, .inl (SqL.of aK), fun l hl => ⟨(by show 3 ≤ sizeLine; decide), fun r hr' => ?_⟩⟩⟩
 obtain ⟨ms, em⟩ : ∃ ms : List Int, wD (ns.map V.int) none (some 63) = ms.map V.int := ⟨_, yM _ _ _⟩
 rw [em] at hl hr' ⊢
 refine q r l _ (((dQ hp _).trans (dQ hl _)).trans (dQ hr' _)) ⟨ms, 0, 0, aK, ?_, dj aK hr', by decide, by decide⟩ ?_
 ·rw [bF (dj aK hr')]; exact aK
 ·exact (((dQ hp _).trans (dQ hl _))).free hr'
end
theorem ED {l : PySem.W.OpenLaw} {w : World} {K : PySem.W.Frag} {h : Heap} {mg : Str → Option Value} {fa : Addr} (X : K.In h) (G : h.Ns mainGlobals mg) (hfa : mg "law" = some (.ref fa))
  {f1 : Addr} {od1 an1 : Option Addr} {sl1 : Array (Option Value)} {oc1 kV1 dc1 pm1 cd1 ct1 : Value}
  {f2 : Addr} {od2 an2 : Option Addr} {sl2 : Array (Option Value)} {oc2 kV2 dc2 pm2 cd2 ct2 : Value}
  {f3 : Addr} {od3 an3 : Option Addr} {sl3 : Array (Option Value)} {oc3 kV3 dc3 pm3 cd3 ct3 : Value}
  {f4 : Addr} {od4 an4 : Option Addr} {sl4 : Array (Option Value)} {oc4 kV4 dc4 pm4 cd4 ct4 : Value}
  {f5 : Addr} {od5 an5 : Option Addr} {sl5 : Array (Option Value)} {oc5 kV5 dc5 pm5 cd5 ct5 : Value}
  {f6 : Addr} {od6 an6 : Option Addr} {sl6 : Array (Option Value)} {oc6 kV6 dc6 pm6 cd6 ct6 : Value}
  {f7 : Addr} {od7 an7 : Option Addr} {sl7 : Array (Option Value)} {oc7 kV7 dc7 pm7 cd7 ct7 : Value}
  {f8 : Addr} {od8 an8 : Option Addr} {sl8 : Array (Option Value)} {oc8 kV8 dc8 pm8 cd8 ct8 : Value}
  {f9 : Addr} {od9 an9 : Option Addr} {sl9 : Array (Option Value)} {oc9 kV9 dc9 pm9 cd9 ct9 : Value}
  {f10 : Addr} {od10 an10 : Option Addr} {sl10 : Array (Option Value)} {oc10 kV10 dc10 pm10 cd10 ct10 : Value}
  {f11 : Addr} {od11 an11 : Option Addr} {sl11 : Array (Option Value)} {oc11 kV11 dc11 pm11 cd11 ct11 : Value}
  {f12 : Addr} {od12 an12 : Option Addr} {sl12 : Array (Option Value)} {oc12 kV12 dc12 pm12 cd12 ct12 : Value}
  {f13 : Addr} {od13 an13 : Option Addr} {sl13 : Array (Option Value)} {oc13 kV13 dc13 pm13 cd13 ct13 : Value}
  {f14 : Addr} {od14 an14 : Option Addr} {sl14 : Array (Option Value)} {oc14 kV14 dc14 pm14 cd14 ct14 : Value}
  {f15 : Addr} {od15 an15 : Option Addr} {sl15 : Array (Option Value)} {oc15 kV15 dc15 pm15 cd15 ct15 : Value}
  {f16 : Addr} {od16 an16 : Option Addr} {sl16 : Array (Option Value)} {oc16 kV16 dc16 pm16 cd16 ct16 : Value}
  {f17 : Addr} {od17 an17 : Option Addr} {sl17 : Array (Option Value)} {oc17 kV17 dc17 pm17 cd17 ct17 : Value}
  {f18 : Addr} {od18 an18 : Option Addr} {sl18 : Array (Option Value)} {oc18 kV18 dc18 pm18 cd18 ct18 : Value}
  {f19 : Addr} {od19 an19 : Option Addr} {sl19 : Array (Option Value)} {oc19 kV19 dc19 pm19 cd19 ct19 : Value}
  {f20 : Addr} {od20 an20 : Option Addr} {sl20 : Array (Option Value)} {oc20 kV20 dc20 pm20 cd20 ct20 : Value}
  {CCourse : Addr}
  {f21 : Addr} {od21 an21 : Option Addr} {sl21 : Array (Option Value)} {oc21 kV21 dc21 pm21 cd21 ct21 : Value}
  {f22 : Addr} {od22 an22 : Option Addr} {sl22 : Array (Option Value)} {oc22 kV22 dc22 pm22 cd22 ct22 : Value}
  {f23 : Addr} {od23 an23 : Option Addr} {sl23 : Array (Option Value)} {oc23 kV23 dc23 pm23 cd23 ct23 : Value}
  {f24 : Addr} {od24 an24 : Option Addr} {sl24 : Array (Option Value)} {oc24 kV24 dc24 pm24 cd24 ct24 : Value}
  {f25 : Addr} {od25 an25 : Option Addr} {sl25 : Array (Option Value)} {oc25 kV25 dc25 pm25 cd25 ct25 : Value}
  {tk26 : Tok}
  {tk27 : Tok}
  (a1 : PySem.W.nsIn K mainGlobals "_law_take" = some (some (.ref f1))) (l1 : K.lookup f1 = some ⟨oc1, od1, .func (PySem.W.fnOf "_law_take" "_law_take" (ba dX) (aR dX) (ax dX) .none kV1 dc1 pm1 an1 cd1 ct1), sl1⟩) (c1 : PySem.W.codeIn K cd1 "_law_take" = true) (k1 : PySem.W.keepIn K (.ref f1) = true)
  (a2 : PySem.W.nsIn K mainGlobals "_law_world" = some (some (.ref f2))) (l2 : K.lookup f2 = some ⟨oc2, od2, .func (PySem.W.fnOf "_law_world" "_law_world" (ba dq) (aR dq) (ax dq) .none kV2 dc2 pm2 an2 cd2 ct2), sl2⟩) (c2 : PySem.W.codeIn K cd2 "_law_world" = true) (k2 : PySem.W.keepIn K (.ref f2) = true)
  (a3 : PySem.W.nsIn K mainGlobals "_law_state" = some (some (.ref f3))) (l3 : K.lookup f3 = some ⟨oc3, od3, .func (PySem.W.fnOf "_law_state" "_law_state" (ba dr) (aR dr) (ax dr) .none kV3 dc3 pm3 an3 cd3 ct3), sl3⟩) (c3 : PySem.W.codeIn K cd3 "_law_state" = true) (k3 : PySem.W.keepIn K (.ref f3) = true)
  (a4 : PySem.W.nsIn K mainGlobals "_law_names" = some (some (.ref f4))) (l4 : K.lookup f4 = some ⟨oc4, od4, .func (PySem.W.fnOf "_law_names" "_law_names" (ba dv) (aR dv) (ax dv) .none kV4 dc4 pm4 an4 cd4 ct4), sl4⟩) (c4 : PySem.W.codeIn K cd4 "_law_names" = true) (k4 : PySem.W.keepIn K (.ref f4) = true)
  (a5 : PySem.W.nsIn K mainGlobals "_law_put_in" = some (some (.ref f5))) (l5 : K.lookup f5 = some ⟨oc5, od5, .func (PySem.W.fnOf "_law_put_in" "_law_put_in" (ba cU) (aR cU) (ax cU) .none kV5 dc5 pm5 an5 cd5 ct5), sl5⟩) (c5 : PySem.W.codeIn K cd5 "_law_put_in" = true) (k5 : PySem.W.keepIn K (.ref f5) = true)
  (a6 : PySem.W.nsIn K mainGlobals "_law_event" = some (some (.ref f6))) (l6 : K.lookup f6 = some ⟨oc6, od6, .func (PySem.W.fnOf "_law_event" "_law_event" (ba dw) (aR dw) (ax dw) .none kV6 dc6 pm6 an6 cd6 ct6), sl6⟩) (c6 : PySem.W.codeIn K cd6 "_law_event" = true) (k6 : PySem.W.keepIn K (.ref f6) = true)
  (a7 : PySem.W.nsIn K mainGlobals "_law_log" = some (some (.ref f7))) (l7 : K.lookup f7 = some ⟨oc7, od7, .func (PySem.W.fnOf "_law_log" "_law_log" (ba eK) (aR eK) (ax eK) .none kV7 dc7 pm7 an7 cd7 ct7), sl7⟩) (c7 : PySem.W.codeIn K cd7 "_law_log" = true) (k7 : PySem.W.keepIn K (.ref f7) = true)
  (a8 : PySem.W.nsIn K mainGlobals "is_whole" = some (some (.ref f8))) (l8 : K.lookup f8 = some ⟨oc8, od8, .func (PySem.W.fnOf "is_whole" "is_whole" (ba eG) (aR eG) (ax eG) .none kV8 dc8 pm8 an8 cd8 ct8), sl8⟩) (c8 : PySem.W.codeIn K cd8 "is_whole" = true) (k8 : PySem.W.keepIn K (.ref f8) = true)
  (a9 : PySem.W.nsIn K mainGlobals "is_within" = some (some (.ref f9))) (l9 : K.lookup f9 = some ⟨oc9, od9, .func (PySem.W.fnOf "is_within" "is_within" (ba dW) (aR dW) (ax dW) .none kV9 dc9 pm9 an9 cd9 ct9), sl9⟩) (c9 : PySem.W.codeIn K cd9 "is_within" = true) (k9 : PySem.W.keepIn K (.ref f9) = true)
  (a10 : PySem.W.nsIn K mainGlobals "is_event" = some (some (.ref f10))) (l10 : K.lookup f10 = some ⟨oc10, od10, .func (PySem.W.fnOf "is_event" "is_event" (ba eI) (aR eI) (ax eI) .none kV10 dc10 pm10 an10 cd10 ct10), sl10⟩) (c10 : PySem.W.codeIn K cd10 "is_event" = true) (k10 : PySem.W.keepIn K (.ref f10) = true)
  (a11 : PySem.W.nsIn K mainGlobals "is_log" = some (some (.ref f11))) (l11 : K.lookup f11 = some ⟨oc11, od11, .func (PySem.W.fnOf "is_log" "is_log" (ba gT) (aR gT) (ax gT) .none kV11 dc11 pm11 an11 cd11 ct11), sl11⟩) (c11 : PySem.W.codeIn K cd11 "is_log" = true) (k11 : PySem.W.keepIn K (.ref f11) = true)
  (a12 : PySem.W.nsIn K mainGlobals "_law_is_number" = some (some (.ref f12))) (l12 : K.lookup f12 = some ⟨oc12, od12, .func (PySem.W.fnOf "_law_is_number" "_law_is_number" (ba bK) (aR bK) (ax bK) .none kV12 dc12 pm12 an12 cd12 ct12), sl12⟩) (c12 : PySem.W.codeIn K cd12 "_law_is_number" = true) (k12 : PySem.W.keepIn K (.ref f12) = true)
  (a13 : PySem.W.nsIn K mainGlobals "_law_is_event" = some (some (.ref f13))) (l13 : K.lookup f13 = some ⟨oc13, od13, .func (PySem.W.fnOf "_law_is_event" "_law_is_event" (ba bR) (aR bR) (ax bR) .none kV13 dc13 pm13 an13 cd13 ct13), sl13⟩) (c13 : PySem.W.codeIn K cd13 "_law_is_event" = true) (k13 : PySem.W.keepIn K (.ref f13) = true)
  (a14 : PySem.W.nsIn K mainGlobals "_law_is_log" = some (some (.ref f14))) (l14 : K.lookup f14 = some ⟨oc14, od14, .func (PySem.W.fnOf "_law_is_log" "_law_is_log" (ba cV) (aR cV) (ax cV) .none kV14 dc14 pm14 an14 cd14 ct14), sl14⟩) (c14 : PySem.W.codeIn K cd14 "_law_is_log" = true) (k14 : PySem.W.keepIn K (.ref f14) = true)
  (a15 : PySem.W.nsIn K mainGlobals "_law_bent_event" = some (some (.ref f15))) (l15 : K.lookup f15 = some ⟨oc15, od15, .func (PySem.W.fnOf "_law_bent_event" "_law_bent_event" (ba bu) (aR bu) (ax bu) .none kV15 dc15 pm15 an15 cd15 ct15), sl15⟩) (c15 : PySem.W.codeIn K cd15 "_law_bent_event" = true) (k15 : PySem.W.keepIn K (.ref f15) = true)
  (a16 : PySem.W.nsIn K mainGlobals "_law_with_puts" = some (some (.ref f16))) (l16 : K.lookup f16 = some ⟨oc16, od16, .func (PySem.W.fnOf "_law_with_puts" "_law_with_puts" (ba bJ) (aR bJ) (ax bJ) .none kV16 dc16 pm16 an16 cd16 ct16), sl16⟩) (c16 : PySem.W.codeIn K cd16 "_law_with_puts" = true) (k16 : PySem.W.keepIn K (.ref f16) = true)
  (a17 : PySem.W.nsIn K mainGlobals "_law_bent" = some (some (.ref f17))) (l17 : K.lookup f17 = some ⟨oc17, od17, .func (PySem.W.fnOf "_law_bent" "_law_bent" (ba dY) (aR dY) (ax dY) .none kV17 dc17 pm17 an17 cd17 ct17), sl17⟩) (c17 : PySem.W.codeIn K cd17 "_law_bent" = true) (k17 : PySem.W.keepIn K (.ref f17) = true)
  (a18 : PySem.W.nsIn K mainGlobals "_law_answers" = some (some (.ref f18))) (l18 : K.lookup f18 = some ⟨oc18, od18, .func (PySem.W.fnOf "_law_answers" "_law_answers" (ba cw) (aR cw) (ax cw) .none kV18 dc18 pm18 an18 cd18 ct18), sl18⟩) (c18 : PySem.W.codeIn K cd18 "_law_answers" = true) (k18 : PySem.W.keepIn K (.ref f18) = true)
  (a19 : PySem.W.nsIn K mainGlobals "_law_pen" = some (some (.ref f19))) (l19 : K.lookup f19 = some ⟨oc19, od19, .func (PySem.W.fnOf "_law_pen" "_law_pen" (ba eJ) (aR eJ) (ax eJ) .none kV19 dc19 pm19 an19 cd19 ct19), sl19⟩) (c19 : PySem.W.codeIn K cd19 "_law_pen" = true) (k19 : PySem.W.keepIn K (.ref f19) = true)
  (a20 : PySem.W.nsIn K mainGlobals "law" = some (some (.ref f20))) (l20 : K.lookup f20 = some ⟨oc20, od20, .func (PySem.W.fnOf "law" "law" (ba mZ) (aR mZ) (ax mZ) .none kV20 dc20 pm20 an20 cd20 ct20), sl20⟩) (c20 : PySem.W.codeIn K cd20 "law" = true) (k20 : PySem.W.keepIn K (.ref f20) = true)
  (aCCourse : PySem.W.nsIn K mainGlobals "Course" = some (some (.ref CCourse))) (pgCourse : PySem.W.plainGet K CCourse Str.empty = true) (hdCourse : PySem.W.hasDictIn K CCourse = true) (poCourse : PySem.W.plainOver K CCourse = true) (saCourse : PySem.W.findIn K (.ref CCourse) "__setattr__" = some (some (.builtin "object.__setattr__"))) (mkCourse : PySem.W.makesIn K CCourse = true) (kcCourse : PySem.W.keepIn K (.ref CCourse) = true)
  (nfCourse0 : PySem.W.findIn K (.ref CCourse) "ends" = some none)
  (nfCourse1 : PySem.W.findIn K (.ref CCourse) "looks" = some none)
  (nfCourse2 : PySem.W.findIn K (.ref CCourse) "needs" = some none)
  (nfCourse3 : PySem.W.findIn K (.ref CCourse) "puts" = some none)
  (nfCourse4 : PySem.W.findIn K (.ref CCourse) "before" = some none)
  (a21 : PySem.W.findIn K (.ref CCourse) "__init__" = some (some (.ref f21))) (i21 : PySem.W.isFn K (.ref f21) = true) (l21 : K.lookup f21 = some ⟨oc21, od21, .func (PySem.W.fnOf "__init__" "Course.__init__" (ba dE) (aR dE) (ax dE) .none kV21 dc21 pm21 an21 cd21 ct21), sl21⟩) (c21 : PySem.W.codeIn K cd21 "Course.__init__" = true) (k21 : PySem.W.keepIn K (.ref f21) = true)
  (a22 : PySem.W.findIn K (.ref CCourse) "note_look" = some (some (.ref f22))) (i22 : PySem.W.isFn K (.ref f22) = true) (l22 : K.lookup f22 = some ⟨oc22, od22, .func (PySem.W.fnOf "note_look" "Course.note_look" (ba bH) (aR bH) (ax bH) .none kV22 dc22 pm22 an22 cd22 ct22), sl22⟩) (c22 : PySem.W.codeIn K cd22 "Course.note_look" = true) (k22 : PySem.W.keepIn K (.ref f22) = true)
  (a23 : PySem.W.findIn K (.ref CCourse) "enter" = some (some (.ref f23))) (i23 : PySem.W.isFn K (.ref f23) = true) (l23 : K.lookup f23 = some ⟨oc23, od23, .func (PySem.W.fnOf "enter" "Course.enter" (ba dh) (aR dh) (ax dh) .none kV23 dc23 pm23 an23 cd23 ct23), sl23⟩) (c23 : PySem.W.codeIn K cd23 "Course.enter" = true) (k23 : PySem.W.keepIn K (.ref f23) = true)
  (a24 : PySem.W.findIn K (.ref CCourse) "follow" = some (some (.ref f24))) (i24 : PySem.W.isFn K (.ref f24) = true) (l24 : K.lookup f24 = some ⟨oc24, od24, .func (PySem.W.fnOf "follow" "Course.follow" (ba cM) (aR cM) (ax cM) .none kV24 dc24 pm24 an24 cd24 ct24), sl24⟩) (c24 : PySem.W.codeIn K cd24 "Course.follow" = true) (k24 : PySem.W.keepIn K (.ref f24) = true)
  (a25 : PySem.W.findIn K (.ref CCourse) "allows" = some (some (.ref f25))) (i25 : PySem.W.isFn K (.ref f25) = true) (l25 : K.lookup f25 = some ⟨oc25, od25, .func (PySem.W.fnOf "allows" "Course.allows" (ba cN) (aR cN) (ax cN) .none kV25 dc25 pm25 an25 cd25 ct25), sl25⟩) (c25 : PySem.W.codeIn K cd25 "Course.allows" = true) (k25 : PySem.W.keepIn K (.ref f25) = true)
  (g26 : PySem.W.nsIn K mainGlobals "LAST_ATTEMPT" = some (some (.int (199) tk26)))
  (g27 : PySem.W.nsIn K mainGlobals "MOST_EVENTS" = some (some (.int (2000) tk27)))
  (z28 : PySem.W.nsIn K mainGlobals "len" = some none)
  (z29 : PySem.W.nsIn K mainGlobals "isinstance" = some none)
  (z30 : PySem.W.nsIn K mainGlobals "int" = some none)
  (z31 : PySem.W.nsIn K mainGlobals "bool" = some none)
  (z32 : PySem.W.nsIn K mainGlobals "str" = some none)
  (z33 : PySem.W.nsIn K mainGlobals "tuple" = some none)
  (z34 : PySem.W.nsIn K mainGlobals "list" = some none)
  (z35 : PySem.W.nsIn K mainGlobals "range" = some none)
  (z36 : PySem.W.nsIn K mainGlobals "min" = some none)
  (z37 : PySem.W.nsIn K mainGlobals "sum" = some none)
  (z38 : PySem.W.nsIn K mainGlobals "all" = some none)
  (z39 : PySem.W.nsIn K mainGlobals "zip" = some none)
  (z40 : PySem.W.nsIn K mainGlobals "sorted" = some none)
  (z41 : PySem.W.nsIn K mainGlobals "dict" = some none)
  (z42 : PySem.W.nsIn K mainGlobals "enumerate" = some none)
  (z43 : PySem.W.nsIn K mainGlobals "any" = some none)
  (z44 : PySem.W.nsIn K mainGlobals "max" = some none)
  (z45 : PySem.W.nsIn K mainGlobals "set" = some none) :
  ∃ fd : FuncData, (∀ (s : Shared) (v : Value), BindsTo s fd ⟨[v], []⟩ [("script", v)]) ∧ ∀ base : Heap, K.In base → base.Ns mainGlobals mg → mX l.prog w K mg base CX0 6 fa fd ["script"] (xB K) := by
 have e := hfa.symm.trans (PySem.W.mg_of X G a20)
 cases e
 have F__law_take := de (st := dX) l1 c1 k1
 have D__law_take : Def K mg "_law_take" dX ["pen", "many"] := ⟨_, _, F__law_take, F__law_take.binds (ps := ["pen", "many"]) fun _ _ _ _ _ _ => eE fun _ => eE fun _ => kR rfl, PySem.W.mg_of X G a1⟩
 have F__law_world := de (st := dq) l2 c2 k2
 have D__law_world : Def K mg "_law_world" dq ["pen"] := ⟨_, _, F__law_world, F__law_world.binds (ps := ["pen"]) fun _ _ _ _ _ _ => eE fun _ => kR rfl, PySem.W.mg_of X G a2⟩
 have F__law_state := de (st := dr) l3 c3 k3
 have D__law_state : Def K mg "_law_state" dr ["pen", "world"] := ⟨_, _, F__law_state, F__law_state.binds (ps := ["pen", "world"]) fun _ _ _ _ _ _ => eE fun _ => eE fun _ => kR rfl, PySem.W.mg_of X G a3⟩
 have F__law_names := de (st := dv) l4 c4 k4
 have D__law_names : Def K mg "_law_names" dv ["pen", "many"] := ⟨_, _, F__law_names, F__law_names.binds (ps := ["pen", "many"]) fun _ _ _ _ _ _ => eE fun _ => eE fun _ => kR rfl, PySem.W.mg_of X G a4⟩
 have F__law_put_in := de (st := cU) l5 c5 k5
 have D__law_put_in : Def K mg "_law_put_in" cU ["state", "puts"] := ⟨_, _, F__law_put_in, F__law_put_in.binds (ps := ["state", "puts"]) fun _ _ _ _ _ _ => eE fun _ => eE fun _ => kR rfl, PySem.W.mg_of X G a5⟩
 have F__law_event := de (st := dw) l6 c6 k6
 have D__law_event : Def K mg "_law_event" dw ["pen", "world", "a", "seen", "puts", "now"] := ⟨_, _, F__law_event, F__law_event.binds (ps := ["pen", "world", "a", "seen", "puts", "now"]) fun _ _ _ _ _ _ => eE fun _ => eE fun _ => eE fun _ => eE fun _ => eE fun _ => eE fun _ => kR rfl, PySem.W.mg_of X G a6⟩
 have F__law_log := de (st := eK) l7 c7 k7
 have D__law_log : Def K mg "_law_log" eK ["pen", "world", "state", "most", "size"] := ⟨_, _, F__law_log, F__law_log.binds (ps := ["pen", "world", "state", "most", "size"]) fun _ _ _ _ _ _ => eE fun _ => eE fun _ => eE fun _ => eE fun _ => eE fun _ => kR rfl, PySem.W.mg_of X G a7⟩
 have F_is_whole := de (st := eG) l8 c8 k8
 have D_is_whole : Def K mg "is_whole" eG ["thing"] := ⟨_, _, F_is_whole, F_is_whole.binds (ps := ["thing"]) fun _ _ _ _ _ _ => eE fun _ => kR rfl, PySem.W.mg_of X G a8⟩
 have F_is_within := de (st := dW) l9 c9 k9
 have D_is_within : Def K mg "is_within" dW ["thing", "least", "most"] := ⟨_, _, F_is_within, F_is_within.binds (ps := ["thing", "least", "most"]) fun _ _ _ _ _ _ => eE fun _ => eE fun _ => eE fun _ => kR rfl, PySem.W.mg_of X G a9⟩
 have F_is_event := de (st := eI) l10 c10 k10
 have D_is_event : Def K mg "is_event" eI ["world", "thing"] := ⟨_, _, F_is_event, F_is_event.binds (ps := ["world", "thing"]) fun _ _ _ _ _ _ => eE fun _ => eE fun _ => kR rfl, PySem.W.mg_of X G a10⟩
 have F_is_log := de (st := gT) l11 c11 k11
 have D_is_log : Def K mg "is_log" gT ["world", "thing"] := ⟨_, _, F_is_log, F_is_log.binds (ps := ["world", "thing"]) fun _ _ _ _ _ _ => eE fun _ => eE fun _ => kR rfl, PySem.W.mg_of X G a11⟩
 have F__law_is_number := de (st := bK) l12 c12 k12
 have D__law_is_number : Def K mg "_law_is_number" bK ["part", "low", "high"] := ⟨_, _, F__law_is_number, F__law_is_number.binds (ps := ["part", "low", "high"]) fun _ _ _ _ _ _ => eE fun _ => eE fun _ => eE fun _ => kR rfl, PySem.W.mg_of X G a12⟩
 have F__law_is_event := de (st := bR) l13 c13 k13
 have D__law_is_event : Def K mg "_law_is_event" bR ["world", "thing"] := ⟨_, _, F__law_is_event, F__law_is_event.binds (ps := ["world", "thing"]) fun _ _ _ _ _ _ => eE fun _ => eE fun _ => kR rfl, PySem.W.mg_of X G a13⟩
 have F__law_is_log := de (st := cV) l14 c14 k14
 have D__law_is_log : Def K mg "_law_is_log" cV ["world", "thing"] := ⟨_, _, F__law_is_log, F__law_is_log.binds (ps := ["world", "thing"]) fun _ _ _ _ _ _ => eE fun _ => eE fun _ => kR rfl, PySem.W.mg_of X G a14⟩
 have F__law_bent_event := de (st := bu) l15 c15 k15
 have D__law_bent_event : Def K mg "_law_bent_event" bu ["pen", "world", "event"] := ⟨_, _, F__law_bent_event, F__law_bent_event.binds (ps := ["pen", "world", "event"]) fun _ _ _ _ _ _ => eE fun _ => eE fun _ => eE fun _ => kR rfl, PySem.W.mg_of X G a15⟩
 have F__law_with_puts := de (st := bJ) l16 c16 k16
 have D__law_with_puts : Def K mg "_law_with_puts" bJ ["pen", "world", "log"] := ⟨_, _, F__law_with_puts, F__law_with_puts.binds (ps := ["pen", "world", "log"]) fun _ _ _ _ _ _ => eE fun _ => eE fun _ => eE fun _ => kR rfl, PySem.W.mg_of X G a16⟩
 have F__law_bent := de (st := dY) l17 c17 k17
 have D__law_bent : Def K mg "_law_bent" dY ["pen", "world", "log"] := ⟨_, _, F__law_bent, F__law_bent.binds (ps := ["pen", "world", "log"]) fun _ _ _ _ _ _ => eE fun _ => eE fun _ => eE fun _ => kR rfl, PySem.W.mg_of X G a17⟩
 have F__law_answers := de (st := cw) l18 c18 k18
 have D__law_answers : Def K mg "_law_answers" cw ["world", "thing"] := ⟨_, _, F__law_answers, F__law_answers.binds (ps := ["world", "thing"]) fun _ _ _ _ _ _ => eE fun _ => eE fun _ => kR rfl, PySem.W.mg_of X G a18⟩
 have F__law_pen := de (st := eJ) l19 c19 k19
 have D__law_pen : Def K mg "_law_pen" eJ ["script"] := ⟨_, _, F__law_pen, F__law_pen.binds (ps := ["script"]) fun _ _ _ _ _ _ => eE fun _ => kR rfl, PySem.W.mg_of X G a19⟩
 have F_law := de (st := mZ) l20 c20 k20
 have D_law : Def K mg "law" mZ ["script"] := ⟨_, _, F_law, F_law.binds (ps := ["script"]) fun _ _ _ _ _ _ => eE fun _ => kR rfl, PySem.W.mg_of X G a20⟩
 have TCourse : TC K (⟨CCourse, ["ends", "looks", "needs", "puts", "before"]⟩ : Cl) ["ends", "looks", "needs", "puts", "before"] := ⟨⟨pgCourse, hdCourse, poCourse, saCourse⟩, rfl, fun f hf => by
  simp only [List.mem_cons, List.not_mem_nil, or_false] at hf
  rcases hf with rfl | rfl | rfl | rfl | rfl
  ·exact nfCourse0
  ·exact nfCourse1
  ·exact nfCourse2
  ·exact nfCourse3
  ·exact nfCourse4⟩
 have mgC_Course := PySem.W.mg_of X G aCCourse
 have F_Course_init := de (st := dE) l21 c21 k21
 have bi_Course_init := F_Course_init.binds (ps := ["self"]) fun _ _ _ _ _ _ => eE fun _ => kR rfl
 have mk_Course : Mk K (⟨CCourse, ["ends", "looks", "needs", "puts", "before"]⟩ : Cl).C f21 := ⟨mkCourse, a21, i21, kcCourse⟩
 have F_Course_note_look := de (st := bH) l22 c22 k22
 have bi_Course_note_look := F_Course_note_look.binds (ps := ["self", "a", "box", "number"]) fun _ _ _ _ _ _ => eE fun _ => eE fun _ => eE fun _ => eE fun _ => kR rfl
 have mt_Course_note_look : t5 K (⟨CCourse, ["ends", "looks", "needs", "puts", "before"]⟩ : Cl).C "note_look" f22 := ⟨a22, i22, k22⟩
 have F_Course_enter := de (st := dh) l23 c23 k23
 have bi_Course_enter := F_Course_enter.binds (ps := ["self", "a"]) fun _ _ _ _ _ _ => eE fun _ => eE fun _ => kR rfl
 have mt_Course_enter : t5 K (⟨CCourse, ["ends", "looks", "needs", "puts", "before"]⟩ : Cl).C "enter" f23 := ⟨a23, i23, k23⟩
 have F_Course_follow := de (st := cM) l24 c24 k24
 have bi_Course_follow := F_Course_follow.binds (ps := ["self", "event"]) fun _ _ _ _ _ _ => eE fun _ => eE fun _ => kR rfl
 have mt_Course_follow : t5 K (⟨CCourse, ["ends", "looks", "needs", "puts", "before"]⟩ : Cl).C "follow" f24 := ⟨a24, i24, k24⟩
 have F_Course_allows := de (st := cN) l25 c25 k25
 have bi_Course_allows := F_Course_allows.binds (ps := ["self", "event"]) fun _ _ _ _ _ _ => eE fun _ => eE fun _ => kR rfl
 have mt_Course_allows : t5 K (⟨CCourse, ["ends", "looks", "needs", "puts", "before"]⟩ : Cl).C "allows" f25 := ⟨a25, i25, k25⟩
 have C_LAST_ATTEMPT : ∃ t, mg "LAST_ATTEMPT" = some (.int (199) t) := ⟨_, PySem.W.mg_of X G g26⟩
 have C_MOST_EVENTS : ∃ t, mg "MOST_EVENTS" = some (.int (2000) t) := ⟨_, PySem.W.mg_of X G g27⟩
 have B : Blt mg := ⟨PySem.W.mg_none_of X G z28, PySem.W.mg_none_of X G z29, PySem.W.mg_none_of X G z30, PySem.W.mg_none_of X G z31, PySem.W.mg_none_of X G z32, PySem.W.mg_none_of X G z33, PySem.W.mg_none_of X G z34, PySem.W.mg_none_of X G z35, PySem.W.mg_none_of X G z36, PySem.W.mg_none_of X G z37, PySem.W.mg_none_of X G z38, PySem.W.mg_none_of X G z39, PySem.W.mg_none_of X G z40, PySem.W.mg_none_of X G z41, PySem.W.mg_none_of X G z42, PySem.W.mg_none_of X G z43, PySem.W.mg_none_of X G z44, PySem.W.mg_none_of X G z45⟩
 refine ⟨PySem.W.fnOf "law" "law" (ba mZ) (aR mZ) (ax mZ) .none kV20 dc20 pm20 an20 cd20 ct20, fun s v => .of_eq rfl, fun base _ _ => ?_⟩
 have Gp := Bv (P := l.prog) (w := w) (base := base) (k := 0) B D__law_pen
 have aw := qF (P := l.prog) (w := w) (base := base) (k := 0) D__law_take B 
 have iL := pF (P := l.prog) (w := w) (base := base) (k := 1) D__law_world B aw
 have iM := pG (P := l.prog) (w := w) (base := base) (k := 1) D__law_state B aw
 have iN := pH (P := l.prog) (w := w) (base := base) (k := 1) D__law_names B aw
 have hU := oj (P := l.prog) (w := w) (base := base) (k := 0) D__law_put_in B 
 have iO := pI (P := l.prog) (w := w) (base := base) (k := 1) D__law_event B aw
 have kn := tm (P := l.prog) (w := w) (base := base) (k := 2) D__law_log B iN (Has.mono aw (by decide)) iO (Has.mono hU (by decide))
 have kj := sZ (P := l.prog) (w := w) (base := base) (k := 0) D_is_whole B 
 have fM := qE (P := l.prog) (w := w) (base := base) (k := 1) D_is_within B kj
 have M_Course_note_look := jP (P := l.prog) (w := w) (base := base) (k := 0) F_Course_note_look bi_Course_note_look mt_Course_note_look B TCourse
 have M_Course_enter := nc (P := l.prog) (w := w) (base := base) (k := 0) F_Course_enter bi_Course_enter mt_Course_enter B TCourse
 have M_Course_follow := ml (P := l.prog) (w := w) (base := base) (k := 1) F_Course_follow bi_Course_follow mt_Course_follow B TCourse M_Course_enter M_Course_note_look
 have M_Course_init := ow (P := l.prog) (w := w) (base := base) (k := 0) F_Course_init bi_Course_init mk_Course mgC_Course B TCourse
 have M_Course_allows := mq (P := l.prog) (w := w) (base := base) (k := 0) F_Course_allows bi_Course_allows mt_Course_allows B TCourse
 have km := tj (P := l.prog) (w := w) (base := base) (k := 2) D_is_event B C_LAST_ATTEMPT fM
 have hJ := yx (P := l.prog) (w := w) (base := base) (k := 2) D_is_log B C_MOST_EVENTS TCourse km (M_Course_allows.mono (by decide)) (M_Course_follow.mono (by decide)) (M_Course_init.mono (by decide))
 have b5 := kO (P := l.prog) (w := w) (base := base) (k := 0) D__law_is_number B 
 have fN := mj (P := l.prog) (w := w) (base := base) (k := 1) D__law_is_event B b5
 have h8 := om (P := l.prog) (w := w) (base := base) (k := 2) D__law_is_log B fN
 have eQ := j6 (P := l.prog) (w := w) (base := base) (k := 1) D__law_bent_event B aw
 have fu := kN (P := l.prog) (w := w) (base := base) (k := 1) D__law_with_puts B aw
 have jB := qG (P := l.prog) (w := w) (base := base) (k := 2) D__law_bent B (Has.mono aw (by decide)) eQ
 have dP := m9 (P := l.prog) (w := w) (base := base) (k := 4) D__law_answers B hJ (Has.mono h8 (by decide))
 exact GW (P := l.prog) (w := w) (base := base) (k := 5) F_law B (Has.mono Gp (by decide)) (Has.mono iL (by decide)) (Has.mono iM (by decide)) (Has.mono kn (by decide)) (Has.mono aw (by decide)) (Has.mono hJ (by decide)) dP (Has.mono jB (by decide)) (Has.mono fu (by decide)) fun ns a c ha hc => DV (c := ⟨CCourse, _⟩) rfl ns a c ha hc
theorem Iq {l : PySem.W.OpenLaw} {q : Program} {loose : List Str} {XP : (Str → Option Value) → Heap → Prop} {YP : World → Heap → Prop} {d : DefRec} {K : Params → PySem.W.Frag} (hn : l.most = some 63) (hdf : d.params.defaults = [])
  (hY : ∀ (w : World) (h : Heap), YP w h → (K w.params).In h)
  (F : ∀ (w : World) (mg : Str → Option Value) (fa : Addr) (h : Heap), (K w.params).In h → h.Ns mainGlobals mg → mg d.name = some (.ref fa) →
   ∃ fd : FuncData, (∀ (s : Shared) (u : Value), BindsTo s fd ⟨[u], []⟩ [("script", u)]) ∧ ∀ base : Heap, (K w.params).In base → base.Ns mainGlobals mg → mX l.prog w (K w.params) mg base CX0 6 fa fd ["script"] (xB (K w.params))) :
  PySem.W.WalkO q loose XP YP l.row.toRowW d [] (fun f vs => PySem.call f vs) :=
 L2.As (n := 63) (k := 6) (x := "script") (CX := fun _ => CX0) (sp := fun w => xB (K w.params)) hn (by decide) hdf ⟨rfl, by decide, by decide, rfl⟩ hY F (fun _ _ a ns hl _ hS => ⟨a, ns, rfl, hS, hl, fun _ => rfl⟩) fun _ _ _ _ _ z => z
end OL
open PySem PySem.W PyProof.Rows
set_option maxRecDepth 100000 in
set_option maxHeartbeats 0 in
theorem PySem.Challenge.cw_oneglance_k11_what_is_a_log_holds : PySem.Challenge.rw_oneglance_k11_what_is_a_log.Holds := by
 w_on; o_law; k_head; (case hw => w_witness2)
 k_fill
 refine OL.Iq (l := PySem.Challenge.rw_oneglance_k11_what_is_a_log) rfl rfl (fun w h Y => PySem.W.kIn_of Y) ?F
 case F =>
  intro w mg fa h KX G hmg
  refine' OL.ED KX G hmg ?a1 ?l1 ?c1 ?k1 ?a2 ?l2 ?c2 ?k2 ?a3 ?l3 ?c3 ?k3 ?a4 ?l4 ?c4 ?k4 ?a5 ?l5 ?c5 ?k5 ?a6 ?l6 ?c6 ?k6 ?a7 ?l7 ?c7 ?k7 ?a8 ?l8 ?c8 ?k8 ?a9 ?l9 ?c9 ?k9 ?a10 ?l10 ?c10 ?k10 ?a11 ?l11 ?c11 ?k11 ?a12 ?l12 ?c12 ?k12 ?a13 ?l13 ?c13 ?k13 ?a14 ?l14 ?c14 ?k14 ?a15 ?l15 ?c15 ?k15 ?a16 ?l16 ?c16 ?k16 ?a17 ?l17 ?c17 ?k17 ?a18 ?l18 ?c18 ?k18 ?a19 ?l19 ?c19 ?k19 ?a20 ?l20 ?c20 ?k20 ?aCCourse ?pgCourse ?hdCourse ?poCourse ?saCourse ?mkCourse ?kcCourse ?nfCourse0 ?nfCourse1 ?nfCourse2 ?nfCourse3 ?nfCourse4 ?a21 ?i21 ?l21 ?c21 ?k21 ?a22 ?i22 ?l22 ?c22 ?k22 ?a23 ?i23 ?l23 ?c23 ?k23 ?a24 ?i24 ?l24 ?c24 ?k24 ?a25 ?i25 ?l25 ?c25 ?k25 ?g26 ?g27 ?z28 ?z29 ?z30 ?z31 ?z32 ?z33 ?z34 ?z35 ?z36 ?z37 ?z38 ?z39 ?z40 ?z41 ?z42 ?z43 ?z44 ?z45
  (case a1 => k_is)
  (case l1 => k_is)
  (case c1 => k_is)
  (case k1 => k_is)
  (case a2 => k_is)
  (case l2 => k_is)
  (case c2 => k_is)
  (case k2 => k_is)
  (case a3 => k_is)
  (case l3 => k_is)
  (case c3 => k_is)
  (case k3 => k_is)
  (case a4 => k_is)
  (case l4 => k_is)
  (case c4 => k_is)
  (case k4 => k_is)
  (case a5 => k_is)
  (case l5 => k_is)
  (case c5 => k_is)
  (case k5 => k_is)
  (case a6 => k_is)
  (case l6 => k_is)
  (case c6 => k_is)
  (case k6 => k_is)
  (case a7 => k_is)
  (case l7 => k_is)
  (case c7 => k_is)
  (case k7 => k_is)
  (case a8 => k_is)
  (case l8 => k_is)
  (case c8 => k_is)
  (case k8 => k_is)
  (case a9 => k_is)
  (case l9 => k_is)
  (case c9 => k_is)
  (case k9 => k_is)
  (case a10 => k_is)
  (case l10 => k_is)
  (case c10 => k_is)
  (case k10 => k_is)
  (case a11 => k_is)
  (case l11 => k_is)
  (case c11 => k_is)
  (case k11 => k_is)
  (case a12 => k_is)
  (case l12 => k_is)
  (case c12 => k_is)
  (case k12 => k_is)
  (case a13 => k_is)
  (case l13 => k_is)
  (case c13 => k_is)
  (case k13 => k_is)
  (case a14 => k_is)
  (case l14 => k_is)
  (case c14 => k_is)
  (case k14 => k_is)
  (case a15 => k_is)
  (case l15 => k_is)
  (case c15 => k_is)
  (case k15 => k_is)
  (case a16 => k_is)
  (case l16 => k_is)
  (case c16 => k_is)
  (case k16 => k_is)
  (case a17 => k_is)
  (case l17 => k_is)
  (case c17 => k_is)
  (case k17 => k_is)
  (case a18 => k_is)
  (case l18 => k_is)
  (case c18 => k_is)
  (case k18 => k_is)
  (case a19 => k_is)
  (case l19 => k_is)
  (case c19 => k_is)
  (case k19 => k_is)
  (case a20 => k_is)
  (case l20 => k_is)
  (case c20 => k_is)
  (case k20 => k_is)
  (case aCCourse => k_is)
  (case pgCourse => k_is)
  (case hdCourse => k_is)
  (case poCourse => k_is)
  (case saCourse => k_is)
  (case mkCourse => k_is)
  (case kcCourse => k_is)
  (case nfCourse0 => k_is)
  (case nfCourse1 => k_is)
  (case nfCourse2 => k_is)
  (case nfCourse3 => k_is)
  (case nfCourse4 => k_is)
  (case a21 => k_is)
  (case i21 => k_is)
  (case l21 => k_is)
  (case c21 => k_is)
  (case k21 => k_is)
  (case a22 => k_is)
  (case i22 => k_is)
  (case l22 => k_is)
  (case c22 => k_is)
  (case k22 => k_is)
  (case a23 => k_is)
  (case i23 => k_is)
  (case l23 => k_is)
  (case c23 => k_is)
  (case k23 => k_is)
  (case a24 => k_is)
  (case i24 => k_is)
  (case l24 => k_is)
  (case c24 => k_is)
  (case k24 => k_is)
  (case a25 => k_is)
  (case i25 => k_is)
  (case l25 => k_is)
  (case c25 => k_is)
  (case k25 => k_is)
  (case g26 => k_is)
  (case g27 => k_is)
  (case z28 => k_is)
  (case z29 => k_is)
  (case z30 => k_is)
  (case z31 => k_is)
  (case z32 => k_is)
  (case z33 => k_is)
  (case z34 => k_is)
  (case z35 => k_is)
  (case z36 => k_is)
  (case z37 => k_is)
  (case z38 => k_is)
  (case z39 => k_is)
  (case z40 => k_is)
  (case z41 => k_is)
  (case z42 => k_is)
  (case z43 => k_is)
  (case z44 => k_is)
  (case z45 => k_is)
