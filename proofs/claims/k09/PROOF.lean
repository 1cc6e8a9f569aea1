import PyProof.Rows.All
import Wide.All
import OpenK.AllK
import Wide.FinOn
import Lean
import PyProof.EqAt
import PyProof.EqKinds
import PyProof.TupleCall
import PySem.Challenge.RW_oneglance_k09_one_after_another
set_option Elab.async false
set_option linter.all false
set_option maxRecDepth 100000
namespace L2
open PySem PySem.Spec PyProof.Rows
abbrev Key := Sum Int Str
def keyIs : Key → Value → Bool
  | .inl k, v => Value.isInt k v
  | .inr x, v => Value.isStrOf x v
def keyH (w : World) : Key → Int
  | .inl k => hashInt k
  | .inr x => hashStr w x
theorem keyIs_shape : ∀ {k : Key} {v : Value}, keyIs k v = true → (∃ i t, k = Sum.inl i ∧ v = Value.int i t) ∨ (∃ x t, k = Sum.inr x ∧ v = Value.str x t)
  | .inl i, v, h => by
    obtain ⟨t, e⟩ := Value.isInt_shape (k := i) (v := v) h
    exact .inl ⟨i, t, rfl, e⟩
  | .inr x, v, h => by
    obtain ⟨t, e⟩ := Value.isStrOf_shape (x := x) (v := v) h
    exact .inr ⟨x, t, rfl, e⟩
theorem keyIs_int (i : Int) (t : Tok) : keyIs (.inl i) (.int i t) = true := by simp [keyIs, Value.isInt]
theorem keyIs_str (x : Str) (t : Tok) : keyIs (.inr x) (.str x t) = true := by simp [keyIs, Value.isStrOf]
theorem key_ll (a b : Int) : decide ((Sum.inl a : Key) = Sum.inl b) = (a == b) := by
  by_cases e : a = b
  · subst e; simp
  · have h : ¬ (Sum.inl a : Key) = Sum.inl b := fun q => e (Sum.inl.inj q)
    rw [decide_eq_false h]
    exact (beq_eq_false_iff_ne.mpr e).symm
theorem key_rr (a b : Str) : decide ((Sum.inr a : Key) = Sum.inr b) = decide (a = b) := by
  by_cases e : a = b
  · subst e; simp
  · have h : ¬ (Sum.inr a : Key) = Sum.inr b := fun q => e (Sum.inr.inj q)
    rw [decide_eq_false h, decide_eq_false e]
theorem key_lr (a : Int) (b : Str) : decide ((Sum.inl a : Key) = Sum.inr b) = false := decide_eq_false (fun q => nomatch q)
theorem key_rl (a : Str) (b : Int) : decide ((Sum.inr a : Key) = Sum.inl b) = false := decide_eq_false (fun q => nomatch q)
def mixKind (prog : Program) (w : World) : PySem.KeyKind prog w Key where
  is := keyIs
  hash := keyH w
  inj := fun v a b ha hb => by
    rcases keyIs_shape ha with ⟨i, t, rfl, rfl⟩ | ⟨x, t, rfl, rfl⟩
    · rcases keyIs_shape hb with ⟨j, u, rfl, e⟩ | ⟨y, u, rfl, e⟩
      · injection e with e1 _; rw [e1]
      · exact nomatch e
    · rcases keyIs_shape hb with ⟨j, u, rfl, e⟩ | ⟨y, u, rfl, e⟩
      · exact nomatch e
      · injection e with e1 _; rw [e1]
  byValue := fun k v h => by
    rcases keyIs_shape h with ⟨i, t, rfl, rfl⟩ | ⟨x, t, rfl, rfl⟩ <;> rfl
  pyHash := fun hv h => by
    rcases keyIs_shape hv with ⟨i, t, rfl, rfl⟩ | ⟨x, t, rfl, rfl⟩
    · exact wpAny_pyHash_int h
    · exact wpAny_pyHash_str h
  eqBool := fun hu hv h => by
    rcases keyIs_shape hu with ⟨i, t, rfl, rfl⟩ | ⟨x, t, rfl, rfl⟩
    · rcases keyIs_shape hv with ⟨j, u, rfl, rfl⟩ | ⟨y, u, rfl, rfl⟩
      · rw [key_ll] at h; exact wpAny_eqBool_int h
      · rw [key_lr] at h; exact SeqAt.EqAt.int_str i t y u _ _ _ _ h
    · rcases keyIs_shape hv with ⟨j, u, rfl, rfl⟩ | ⟨y, u, rfl, rfl⟩
      · rw [key_rl] at h; exact SeqAt.EqAt.str_int x t j u _ _ _ _ h
      · rw [key_rr] at h; exact wpAny_eqBool_str h
  «strs» := fun k x t v h => by
    rcases keyIs_shape h with ⟨i, u, rfl, e⟩ | ⟨y, u, rfl, e⟩
    · exact nomatch e
    · injection e with e1 _
      subst e1
      cases v <;> rfl
theorem mixKind_int (prog : Program) (w : World) (i : Int) (t : Tok) : (mixKind prog w).is (.inl i) (.int i t) = true := keyIs_int i t
theorem mixKind_str (prog : Program) (w : World) (x : Str) (t : Tok) : (mixKind prog w).is (.inr x) (.str x t) = true := keyIs_str x t
end L2
namespace L2
open PySem PySem.Spec PyProof.Rows
inductive V where
  | non | bl (b : Bool) | int (i : Int) | str (x : Str) | byt (b : Array UInt8) | flt (b : UInt64) | ref (a : Addr) | ty (n : String)
  deriving DecidableEq
def RelV : V → Value → Prop
  | .non, u => u = Value.none
  | .bl b, u => u = Value.bool b
  | .int i, u => ∃ t, u = Value.int i t
  | .str x, u => ∃ t, u = Value.str x t
  | .byt b, u => ∃ t, u = Value.bytes b t
  | .flt b, u => ∃ t, u = Value.float b t
  | .ref a, u => u = Value.ref a
  | .ty n, u => u = Value.type n
abbrev Vals : List V → List Value → Prop := Paired RelV
theorem Vals.length {xs : List V} {us : List Value} (r : Vals xs us) : xs.length = us.length := Paired.length r
theorem Vals.get : ∀ {xs : List V} {us : List Value} {i : Nat} {x : V}, Vals xs us → xs[i]? = some x → ∃ u, us[i]? = some u ∧ RelV x u
  | _, _, _, _, .nil, e => by simp at e
  | _, _, 0, _, .cons r _, e => by simp at e; subst e; exact ⟨_, rfl, r⟩
  | _, _, i + 1, x, .cons _ t, e => by
    obtain ⟨u, h1, h2⟩ := Vals.get (i := i) (x := x) t (by simpa using e)
    exact ⟨u, by simpa using h1, h2⟩
theorem Vals.set {x : V} {u : Value} (r : RelV x u) : ∀ {xs : List V} {us : List Value} (i : Nat), Vals xs us → Vals (xs.set i x) (us.set i u)
  | _, _, _, .nil => .nil
  | _, _, 0, .cons _ t => .cons r t
  | _, _, i + 1, .cons q t => .cons q (Vals.set r i t)
theorem Vals.append : ∀ {xs ys : List V} {us ws : List Value}, Vals xs us → Vals ys ws → Vals (xs ++ ys) (us ++ ws)
  | _, _, _, _, .nil, s => s
  | _, _, _, _, .cons r t, s => .cons r (Vals.append t s)
theorem Vals.take : ∀ {xs : List V} {us : List Value} (n : Nat), Vals xs us → Vals (xs.take n) (us.take n)
  | _, _, 0, _ => .nil
  | _, _, _ + 1, .nil => .nil
  | _, _, n + 1, .cons r t => .cons r (Vals.take n t)
theorem Vals.drop : ∀ {xs : List V} {us : List Value} (n : Nat), Vals xs us → Vals (xs.drop n) (us.drop n)
  | _, _, 0, r => r
  | _, _, _ + 1, .nil => .nil
  | _, _, n + 1, .cons _ t => Vals.drop n t
def RelO : Option V → Option Value → Prop
  | some v, some u => RelV v u
  | none, none => True
  | _, _ => False
def KV {κ : Type} : List (κ × V) → List (κ × Value) → Prop := Paired fun (p : κ × V) (q : κ × Value) => p.1 = q.1 ∧ RelV p.2 q.2
def kV : Key → V
  | .inl i => .int i
  | .inr x => .str x
inductive HO where
  | lst (xs : List V)
  | tup (xs : List V)
  | dK (kvs : List (Key × V)) | dT (kvs : List (List Key × V))
  | set (S : Int → Bool) (n : Nat)
  | ins (C dx : Addr) (fs : List (Str × V))
  | own (x : Addr)
  | xd (fs : List (Str × V))
  | met (f x : Addr)
  | rng (lo hi : Int)
  | frz (o : Obj) (u : HO)
  | tbl (ps : Array Value)
  | ext (φ : Heap → Prop)
abbrev Hp := Addr → Option HO
def upd (H : Hp) (a : Addr) (o : HO) : Hp := fun b => if b = a then some o else H b
theorem upd_same {H : Hp} {a : Addr} {o : HO} : upd H a o a = some o := by unfold upd; rw [if_pos rfl]
theorem upd_ne {H : Hp} {a b : Addr} {o : HO} (h : b ≠ a) : upd H a o b = H b := by unfold upd; rw [if_neg h]
theorem ne_of {H : Hp} {a b : Addr} {o u : HO} (h : H a = some o) (h' : H b = some u) (d : o ≠ u) : a ≠ b := by
  intro e; subst e; rw [h] at h'; exact d (Option.some.inj h')
theorem ne_of_none {H : Hp} {a b : Addr} {o : HO} (h : H a = some o) (h' : H b = none) : a ≠ b := by
  intro e; subst e; rw [h] at h'; cases h'
section
variable (P : Program) (w : World)
def ObjOk (H : Hp) (h : Heap) (a : Addr) : HO → Prop
  | .lst xs => xs.length ≤ sizeLine ∧ ∃ (its : List Value) (n : Nat), Vals xs its ∧ h.get? a = some { cls := .type "list", data := .seq its.toArray n }
  | .tup xs => xs.length ≤ sizeLine ∧ ∃ its : List Value, Vals xs its ∧ IsTup h a its.toArray
  | .dK kvs => kvs.length ≤ sizeLine ∧ (a == sysModules) = false ∧ ∃ vs, KV kvs vs ∧ h.DictOf (mixKind P w) a vs
  | .dT kvs => kvs.length ≤ sizeLine ∧ (a == sysModules) = false ∧ ∃ xs : List (List Key × Addr × Value),
      Paired (fun (p : List Key × V) (q : List Key × Addr × Value) => p.1 = q.1 ∧ H q.2.1 = some (.tup (p.1.map kV)) ∧ RelV p.2 q.2.2) kvs xs ∧
      ∃ o es ep, h.get? a = some o ∧ o.ExactDict ∧ o.data = .dict es ep ∧ es.toList = xs.map (entryOfKey (tupleKind (mixKind P w))) ∧ (xs.map (·.1)).Nodup
  | .set S n => h.SetOf (intKind P w) a S n
  | .ins C dx fs => H dx = some (.own a) ∧ fs.length ≤ 1000 ∧ dx ≠ a ∧ h.get? a = some (PySem.W.instObj C dx) ∧
      ∃ mA, h.Ns1 dx mA ∧ (∀ f, RelO (fs.lookup f) (mA f)) ∧ PySem.Within mA (fs.map (·.1))
  | .own _ => ∃ o, h.get? a = some o
  | .xd fs => ∃ mA, h.Ns1 a mA ∧ ∀ f, RelO (fs.lookup f) (mA f)
  | .rng lo hi => ∃ t u v, h.get? a = some { cls := .type "range", data := .fields #[.int lo t, .int hi u, .int 1 v] }
  | .frz o u => h.get? a = some o ∧ ObjOk H h a u
  | .tbl ps => h.get? a = some { cls := .none, data := .fields ps }
  | .met f x => h.get? a = some (PySem.W.methodObj (.ref f) (.ref x))
  | .ext φ => φ h ∧ (∃ o, h.get? a = some o) ∧ ∀ h1 h2 : Heap, φ h1 → (∀ o, h1.get? a = some o → h2.get? a = some o) → φ h2
def HOk (H : Hp) (h : Heap) : Prop := ∀ a o, H a = some o → ObjOk P w H h a o
end
section
variable {P : Program} {w : World} {H H' : Hp} {h h' : Heap} {a : Addr} {o : HO}
theorem ObjOk.lt (x : ObjOk P w H h a o) : a < h.objs.size := by
  cases o with
  | lst xs => obtain ⟨_, _, _, _, e⟩ := x; exact Heap.lt_size e
  | tup xs => obtain ⟨_, _, _, p⟩ := x; exact p.lt
  | dK kvs => obtain ⟨_, _, _, _, o, _, _, e, _⟩ := x; exact Heap.lt_size e
  | dT kvs => obtain ⟨_, _, _, _, o, _, _, e, _⟩ := x; exact Heap.lt_size e
  | set S n => obtain ⟨o, _, _, _, e, _⟩ := x; exact Heap.lt_size e
  | ins C dx fs => obtain ⟨_, _, _, e, _⟩ := x; exact Heap.lt_size e
  | own y => obtain ⟨_, e⟩ := x; exact Heap.lt_size e
  | xd fs => obtain ⟨_, ⟨_, _, _, e, _⟩, _⟩ := x; exact Heap.lt_size e
  | rng lo hi => obtain ⟨_, _, _, e⟩ := x; exact Heap.lt_size e
  | frz ob u => obtain ⟨e, _⟩ := x; exact Heap.lt_size e
  | tbl ps => exact Heap.lt_size (show h.get? a = some _ from x)
  | met f y => exact Heap.lt_size (show h.get? a = some _ from x)
  | ext φ => obtain ⟨_, ⟨_, e⟩, _⟩ := x; exact Heap.lt_size e
theorem Paired.mapP {α β : Type} {F G : α → β → Prop} : ∀ {l₁ : List α} {l₂ : List β}, Paired F l₁ l₂ → (∀ a b, F a b → G a b) → Paired G l₁ l₂
  | _, _, .nil, _ => .nil
  | _, _, .cons r t, f => .cons (f _ _ r) (Paired.mapP t f)
theorem ObjOk.stay (x : ObjOk P w H h a o) (k : ∀ b u, (b = a ∨ H b = some (.own a)) → h.get? b = some u → h'.get? b = some u)
    (ho : ∀ b, H b = some (.own a) → H' b = some (.own a)) (ht : ∀ b xs, H b = some (.tup xs) → H' b = some (.tup xs)) : ObjOk P w H' h' a o := by
  induction o with
  | lst xs => obtain ⟨z, its, n, r, e⟩ := x; exact ⟨z, its, n, r, k _ _ (.inl rfl) e⟩
  | tup xs => obtain ⟨z, its, r, ob, e, c⟩ := x; exact ⟨z, its, r, ob, k _ _ (.inl rfl) e, c⟩
  | dK kvs => obtain ⟨z, y, vs, r, ob, es, ep, e, c⟩ := x; exact ⟨z, y, vs, r, ob, es, ep, k _ _ (.inl rfl) e, c⟩
  | dT kvs =>
    obtain ⟨z, y, xs, r, ob, es, ep, e, c⟩ := x
    exact ⟨z, y, xs, Paired.mapP r fun p q z => ⟨z.1, ht _ _ z.2.1, z.2.2⟩, ob, es, ep, k _ _ (.inl rfl) e, c⟩
  | set S n => obtain ⟨ob, es, ep, t, e, c⟩ := x; exact ⟨ob, es, ep, t, k _ _ (.inl rfl) e, c⟩
  | ins C dx fs =>
    obtain ⟨d, z, ne, e, mA, ⟨od, es, ep, e2, c⟩, r⟩ := x
    exact ⟨ho _ d, z, ne, k _ _ (.inl rfl) e, mA, ⟨od, es, ep, k _ _ (.inr d) e2, c⟩, r⟩
  | own y => obtain ⟨ob, e⟩ := x; exact ⟨ob, k _ _ (.inl rfl) e⟩
  | xd fs => obtain ⟨mA, ⟨od, es, ep, e, c⟩, r⟩ := x; exact ⟨mA, ⟨od, es, ep, k _ _ (.inl rfl) e, c⟩, r⟩
  | rng lo hi => obtain ⟨t, u, v, e⟩ := x; exact ⟨t, u, v, k _ _ (.inl rfl) e⟩
  | frz ob u ih => obtain ⟨e, q⟩ := x; exact ⟨k _ _ (.inl rfl) e, ih q⟩
  | tbl ps =>
    have e : h.get? a = some { cls := .none, data := .fields ps } := x
    show h'.get? a = some { cls := .none, data := .fields ps }
    exact k a _ (.inl rfl) e
  | met f y =>
    have e : h.get? a = some (PySem.W.methodObj (.ref f) (.ref y)) := x
    show h'.get? a = some (PySem.W.methodObj (.ref f) (.ref y))
    exact k a _ (.inl rfl) e
  | ext φ => obtain ⟨p, ⟨o, e⟩, st⟩ := x; exact ⟨st _ _ p fun o q => k _ _ (.inl rfl) q, ⟨o, k _ _ (.inl rfl) e⟩, st⟩
theorem HOk.lt (x : HOk P w H h) (e : H a = some o) : a < h.objs.size := (x a o e).lt
theorem HOk.fresh (x : HOk P w H h) (e : h.objs.size ≤ a) : H a = none := by
  cases q : H a with
  | none => rfl
  | some u => exact absurd (Nat.lt_of_lt_of_le (x.lt q) e) (Nat.lt_irrefl _)
theorem HOk.kept (x : HOk P w H h) (k : ∀ b u, h.get? b = some u → h'.get? b = some u) : HOk P w H h' := fun a o e =>
  (x a o e).stay (fun b u _ q => k b u q) (fun _ q => q) fun _ _ q => q
theorem HOk.laid (x : HOk P w H h) (k : ∀ b u, h.get? b = some u → h'.get? b = some u) (hp : h.objs.size ≤ a) (new : ObjOk P w (upd H a o) h' a o) : HOk P w (upd H a o) h' := fun b u e => by
  have hn := x.fresh hp
  by_cases hb : b = a
  · subst hb; rw [upd_same] at e; cases e; exact new
  · rw [upd_ne hb] at e
    exact (x b u e).stay (fun c v _ q => k c v q) (fun c q => by rw [upd_ne (ne_of_none q hn)]; exact q) fun c xs q => by rw [upd_ne (ne_of_none q hn)]; exact q
end
def Rd (H : Hp) (a : Addr) (u : HO) : Prop := H a = some u ∨ ∃ o, H a = some (.frz o u)
theorem Rd.ok {P : Program} {w : World} {H : Hp} {h : Heap} {a : Addr} {u : HO} (r : Rd H a u) (x : HOk P w H h) : ObjOk P w H h a u := by
  rcases r with r | ⟨o, r⟩
  · exact x a u r
  · obtain ⟨_, q⟩ := x a _ r
    exact q
def Mut : Option HO → Prop
  | some (.lst _) => True
  | some (.dK _) => True
  | some (.dT _) => True
  | some (.set _ _) => True
  | some (.ins _ _ _) => True
  | some (.ext _) => True
  | _ => False
section
variable {P : Program} {w : World} {H : Hp} {h h' : Heap} {x e : Addr} {o' : HO}
theorem HOk.write (ok : HOk P w H h) (mu : Mut (H x)) (he : e = x ∨ H e = some (.own x)) (k : ∀ b u, b ≠ e → h.get? b = some u → h'.get? b = some u) (heo : ∃ u, h'.get? e = some u)
    (new : ObjOk P w (upd H x o') h' x o') : HOk P w (upd H x o') h' := fun b u q => by
  have nown : ∀ c y, H c = some (.own y) → c ≠ x := fun c y r z => by subst z; rw [r] at mu; exact mu
  have ntup : ∀ c xs, H c = some (.tup xs) → c ≠ x := fun c xs r z => by subst z; rw [r] at mu; exact mu
  by_cases hb : b = x
  · subst hb; rw [upd_same] at q; cases q; exact new
  · rw [upd_ne hb] at q
    by_cases hbe : b = e
    · have q' : H b = some (.own x) := by
        rcases he with z | z
        · exact absurd (hbe.trans z) hb
        · rw [hbe]; exact z
      rw [q] at q'; cases q'
      obtain ⟨v, hv⟩ := heo
      exact ⟨v, by rw [hbe]; exact hv⟩
    · refine (ok b u q).stay (fun c v hc r => k c v ?_ r) (fun c r => by rw [upd_ne (nown c b r)]; exact r) fun c xs r => by rw [upd_ne (ntup c xs r)]; exact r
      rcases hc with rfl | hc
      · exact hbe
      · rintro rfl
        rcases he with z | z
        · exact nown c b hc z
        · rw [hc] at z; cases z; exact hb rfl
end
structure Un (fs ex : List Addr) (H H' : Hp) (h h' : Heap) : Prop where
  keep : ∀ b o, h.get? b = some o → H b = none → b ∉ fs → b ∉ ex → h'.get? b = some o
  slot : ∀ b o, h.get? b = some o → H b = none → b ∈ fs → b ∉ ex → ∃ sl, h'.get? b = some { o with slots := sl }
  free : ∀ b o, h.get? b = some o → H b = none → b ∉ ex → H' b = none
  there : ∀ b o, h.get? b = some o → b ∉ ex → ∃ o', h'.get? b = some o'
  tups : ∀ b xs, H b = some (.tup xs) → H' b = some (.tup xs)
  frzs : ∀ b o u, H b = some (.frz o u) → H' b = some (.frz o u)
  tbls : ∀ b ps, H b = some (.tbl ps) → ∃ more, H' b = some (.tbl (ps ++ more))
section
variable {fs fs' ex ex' : List Addr} {H H1 H2 : Hp} {h h1 h2 h' : Heap} {a x e : Addr} {o : HO}
theorem Un.any (u : Un fs ex H H1 h h1) {b : Addr} {ob : Obj} (q : h.get? b = some ob) (n : H b = none) (hx : b ∉ ex) : ∃ sl, h1.get? b = some { ob with slots := sl } := by
  by_cases hb : b ∈ fs
  · exact u.slot b ob q n hb hx
  · exact ⟨ob.slots, u.keep b ob q n hb hx⟩
theorem Un.kept (k : ∀ b u, h.get? b = some u → h'.get? b = some u) : Un fs ex H H h h' :=
  ⟨fun b ob q _ _ _ => k b ob q, fun b ob q _ _ _ => ⟨ob.slots, k b ob q⟩, fun _ _ _ n _ => n, fun b ob q _ => ⟨ob, k b ob q⟩, fun _ _ q => q, fun _ _ _ q => q, fun _ ps q => ⟨#[], by rw [q]; simp⟩⟩
theorem Un.refl : Un fs ex H H h h := Un.kept fun _ _ q => q
theorem Un.laid (k : ∀ b u, h.get? b = some u → h'.get? b = some u) (hp : h.objs.size ≤ a) (hn : H a = none) : Un fs ex H (upd H a o) h h' where
  keep := fun b u q _ _ _ => k b u q
  slot := fun b u q _ _ _ => ⟨u.slots, k b u q⟩
  free := fun b u q n _ => by rw [upd_ne (Nat.ne_of_lt (Nat.lt_of_lt_of_le (Heap.lt_size q) hp))]; exact n
  there := fun b u q _ => ⟨u, k b u q⟩
  tups := fun b xs q => by rw [upd_ne (ne_of_none q hn)]; exact q
  frzs := fun b u xs q => by rw [upd_ne (ne_of_none q hn)]; exact q
  tbls := fun b ps q => ⟨#[], by rw [upd_ne (ne_of_none q hn), q]; simp⟩
theorem Un.write (mu : Mut (H x)) (he : e = x ∨ H e = some (.own x)) (k : ∀ b u, b ≠ e → h.get? b = some u → h'.get? b = some u) (heo : ∃ u, h'.get? e = some u) : Un fs ex H (upd H x o) h h' := by
  have hx : ∀ b, H b = none → b ≠ x := fun b n z => by subst z; rw [n] at mu; exact mu
  have hb : ∀ b, H b = none → b ≠ e := fun b n z => by
    subst z
    rcases he with r | r
    · exact hx b n r
    · rw [n] at r; cases r
  have hm : ∀ b u, H b = some u → ¬ Mut (some u) → b ≠ x := fun b u q nm z => by subst z; rw [q] at mu; exact nm mu
  refine ⟨fun b u q n _ _ => k b u (hb b n) q, fun b u q n _ _ => ⟨u.slots, k b u (hb b n) q⟩, fun b u q n _ => by rw [upd_ne (hx b n)]; exact n, fun b u q _ => ?_,
    fun b xs q => by rw [upd_ne (hm b _ q fun z => z)]; exact q, fun b u xs q => by rw [upd_ne (hm b _ q fun z => z)]; exact q, fun b ps q => ⟨#[], by rw [upd_ne (hm b _ q fun z => z), q]; simp⟩⟩
  by_cases hbe : b = e
  · subst hbe; exact heo
  · exact ⟨u, k b u hbe q⟩
end
def trk (h : Heap) (H : Hp) : List Addr := (List.range h.objs.size).filter fun a => (H a).isSome
def hidT (h : Heap) (H : Hp) : Heap := PySem.W.hideAll h (trk h H)
theorem hidT_size (h : Heap) (H : Hp) : (hidT h H).objs.size = h.objs.size := PySem.W.hideAll_size _ _
theorem hidT_get {h : Heap} {H : Hp} {b : Addr} {o : Obj} (e : h.get? b = some o) (n : H b = none) : (hidT h H).get? b = some o :=
  PySem.W.hideAll_get _ e fun hm => by
    have q : (H b).isSome = true := (List.mem_filter.mp hm).2
    rw [n] at q; simp at q
theorem of_hidT {h : Heap} {H : Hp} {b : Addr} {o : Obj} (e : (hidT h H).get? b = some o) : h.get? b = some o ∧ H b = none := by
  have e' : h.get? b = some o := PySem.W.of_hideAll (trk h H) e
  refine ⟨e', ?_⟩
  cases q : H b with
  | none => rfl
  | some x =>
    have hm : b ∈ trk h H := List.mem_filter.mpr ⟨List.mem_range.mpr (Heap.lt_size e'), by simp [q]⟩
    have z : (hidT h H).get? b = none := PySem.W.hideAll_none (trk h H) hm
    rw [z] at e; cases e
def allNews (g h : Heap) (L : Addr) : List (Addr × Obj) := (List.range h.objs.size).filterMap fun a => if a = L ∨ (g.get? a).isSome = true then none else (h.get? a).map fun o => (a, o)
def rest (g h : Heap) (L d : Addr) : List (Addr × Obj) := (allNews g h L).filter fun p => decide (p.1 ≠ d)
end L2
namespace L2
open PySem PySem.Spec PyProof.Rows
structure Mod (K : PySem.W.Frag) (mg : Str → Option Value) (base : Heap) : Prop where
  kin : K.In base
  glob : base.Ns mainGlobals mg
  blt : ∃ mb, base.Ns builtinsNs mb ∧ ∀ x : Str, x ≠ "__name__" → mb x = bootBuiltins x
  nolimit : base.NoLimit
structure Cx where
  prog : Program
  w : World
  K : PySem.W.Frag
  mg : Str → Option Value
  base : Heap
  A : Around
  N : List Str
  s₀ : Shared
  H₀ : Hp
  env : Env
  outer : List Env
  stack : List Env
  ex : List Addr
  fn : Str → Bool
  calm : Bool
  pn : List (Addr × Obj)
  xe : Value → Shared → Prop
def frs (l : List Env) : List Addr := l.filterMap (·.frame)
abbrev Cx.fs (X : Cx) : List Addr := frs X.outer
def Vis (sc : Scope) (x : Str) : Prop := sc.names.lookup x = some .local ∨ sc.names.lookup x = some .cell ∨ sc.names.lookup x = some .free
def Loc (sc : Scope) (x : Str) : Prop := sc.names.lookup x = some .local ∨ sc.names.lookup x = some .cell
def Look (env : Env) (h : Heap) (m : Str → Option Value) (x : Str) (u : Value) : Prop :=
  (env.kindOf x = some .local ∧ m x = some u) ∨ ((env.kindOf x = some .cell ∨ env.kindOf x = some .free) ∧ ∃ c, env.cells.lookup x = some c ∧ h.IsCell c (some u))
structure Cx.Ok (X : Cx) : Prop where
  mod : Mod X.K X.mg X.base
  kind : X.env.scope.kind = .function
  glob : X.env.globals = mainGlobals
  blt : X.env.builtins = builtinsNs
  above : X.s₀.heap.objs.size ≤ X.env.locals
  inj : ∀ x y c, X.env.cells.lookup x = some c → X.env.cells.lookup y = some c → x = y
  has : ∀ x, (X.env.kindOf x = some .cell ∨ X.env.kindOf x = some .free) → ∃ c, X.env.cells.lookup x = some c
  cab : ∀ x c, X.fn x = true → X.env.cells.lookup x = some c → X.s₀.heap.objs.size ≤ c
  hd : X.calm = true → X.A.handled = none
  frames : X.A.frames = some X.stack
  stk : X.stack = X.outer ∨ (X.stack = X.env :: X.outer ∧ X.env.frame = some X.env.locals)
  exf : ∀ b ∈ X.ex, b ≠ X.env.locals ∧ ∀ x c, X.env.cells.lookup x = some c → c ≠ b
  bs : ∀ b o, X.base.get? b = some o → X.s₀.heap.get? b = some o ∧ X.H₀ b = none
  bsz : X.base.objs.size ≤ X.s₀.heap.objs.size
  noex : ∀ b o, X.base.get? b = some o → b ∉ X.ex
  exfs : ∀ b ∈ X.ex, b ∉ X.fs
  funs : X.s₀.heap.FunFrames X.base X.outer
  frf : ∀ b ∈ X.fs, X.H₀ b = none
structure Inv (X : Cx) (pins : List (Addr × Obj)) (σ : List (Option V)) (H : Hp) (s : Shared) : Prop where
  ok : X.Ok
  os : s.os = X.s₀.os
  bare : AllBare s.gens
  base : Un X.fs X.ex X.H₀ H X.s₀.heap s.heap
  loc : ∃ m, s.heap.Ns X.env.locals m ∧ ∀ (i : Nat) (x : Str) (v : V), X.N[i]? = some x → σ[i]? = some (some v) → Vis X.env.scope x → ∃ u, RelV v u ∧ Look X.env s.heap m x u
  cell : ∀ x c, X.env.cells.lookup x = some c → ∃ v, s.heap.IsCell c v
  free : H X.env.locals = none
  freeC : ∀ x c, X.env.cells.lookup x = some c → H c = none
  pin : ∀ p ∈ X.pn ++ pins, s.heap.get? p.1 = some p.2 ∧ H p.1 = none ∧ p.1 ≠ X.env.locals ∧ p.1 ∉ X.fs ∧ ∀ v, p.2.data ≠ .cell v
  hok : HOk X.prog X.w H s.heap
  len : σ.length = X.N.length
section
variable {X : Cx} {pins : List (Addr × Obj)} {σ : List (Option V)} {H H' : Hp} {s : Shared} {h' : Heap}
theorem Cx.Ok.nofr (ok : X.Ok) {b : Addr} {o : Obj} (e : X.base.get? b = some o) : b ∉ X.fs := fun hb => by
  have := (ok.funs.mem hb).1
  rw [e] at this; cases this
theorem Inv.bs (I : Inv X pins σ H s) : ∀ b o, X.base.get? b = some o → s.heap.get? b = some o ∧ H b = none := fun b o e =>
  ⟨I.base.keep b o (I.ok.bs b o e).1 (I.ok.bs b o e).2 (I.ok.nofr e) (I.ok.noex b o e), I.base.free b o (I.ok.bs b o e).1 (I.ok.bs b o e).2 (I.ok.noex b o e)⟩
theorem Inv.bk (I : Inv X pins σ H s) : ∀ b o, X.base.get? b = some o → s.heap.get? b = some o := fun b o e => (I.bs b o e).1
theorem Inv.mod (I : Inv X pins σ H s) : Mod X.K X.mg X.base := I.ok.mod
theorem Inv.kIn (I : Inv X pins σ H s) : X.K.In s.heap := I.ok.mod.kin.keeps I.bk
theorem Inv.lt (I : Inv X pins σ H s) : X.env.locals < s.heap.objs.size := let ⟨_, hn, _⟩ := I.loc; hn.lt
theorem Inv.sz (I : Inv X pins σ H s) : X.s₀.heap.objs.size ≤ s.heap.objs.size := Nat.le_trans I.ok.above (Nat.le_of_lt I.lt)
theorem Inv.nofs (I : Inv X pins σ H s) {a : Addr} (h : s.heap.objs.size ≤ a) : a ∉ X.fs := fun hb => by
  obtain ⟨_, o, ho, _⟩ := I.ok.funs.mem hb
  exact absurd (Nat.lt_of_lt_of_le (Heap.lt_size ho) (Nat.le_trans I.sz h)) (Nat.lt_irrefl _)
theorem Inv.cne (I : Inv X pins σ H s) : ∀ x c, X.env.cells.lookup x = some c → c ≠ X.env.locals := fun x c e z => by
  obtain ⟨v, o, ho, hd⟩ := I.cell x c e
  obtain ⟨m, ⟨o', es, ep, ho', hd', _⟩, _⟩ := I.loc
  rw [z, ho'] at ho; cases ho; rw [hd'] at hd; cases hd
theorem Inv.funs (I : Inv X pins σ H s) : s.heap.FunFrames X.base X.outer := by
  have all : ∀ (l : List Env), (∀ b ∈ frs l, b ∈ X.fs) → X.s₀.heap.FunFrames X.base l → s.heap.FunFrames X.base l := by
    intro l
    induction l with
    | nil => intro _ _; trivial
    | cons env r ih =>
      intro hs hl
      obtain ⟨hk, ⟨L, o, hf, hn, ho, hd⟩, hr⟩ := hl
      have hL : L ∈ X.fs := hs L (by unfold frs; rw [List.filterMap_cons, hf]; exact List.mem_cons_self)
      obtain ⟨sl, e⟩ := I.base.slot L o ho (I.ok.frf L hL) hL fun z => I.ok.exfs L z hL
      exact ⟨hk, ⟨L, _, hf, hn, e, hd⟩, ih (fun b hb => hs b (by unfold frs; rw [List.filterMap_cons, hf]; exact List.mem_cons_of_mem _ hb)) hr⟩
  exact all X.outer (fun _ hb => hb) I.ok.funs
theorem Inv.stack (I : Inv X pins σ H s) : s.heap.FunFrames X.base X.stack := by
  rcases I.ok.stk with e | ⟨e, hf⟩
  · rw [e]; exact I.funs
  · rw [e]
    obtain ⟨m, hn, _⟩ := I.loc
    refine .cons (by rw [I.ok.kind]; decide) hf hn ?_ I.funs
    exact Heap.get?_none_of_le (Nat.le_trans I.ok.bsz I.ok.above)
theorem Inv.stkSub (I : Inv X pins σ H s) : ∀ b ∈ frs X.stack, b ∈ X.env.locals :: X.fs := fun b hb => by
  rcases I.ok.stk with e | ⟨e, hf⟩
  · rw [e] at hb; exact List.mem_cons_of_mem _ hb
  · rw [e] at hb
    unfold frs at hb
    rw [List.filterMap_cons, hf] at hb
    exact hb
theorem Inv.stkFree (I : Inv X pins σ H s) : ∀ b ∈ frs X.stack, H b = none := fun b hb => by
  rcases List.mem_cons.mp (I.stkSub b hb) with e | hb
  · rw [e]; exact I.free
  · obtain ⟨_, o, ho, _⟩ := I.ok.funs.mem hb
    exact I.base.free b o ho (I.ok.frf b hb) fun z => I.ok.exfs b z hb
theorem Inv.step {g' : Array GenState} {t' : Nat} {d' : Drawn} {ch : List Addr} (I : Inv X pins σ H s)
    (hch : ∀ b ∈ ch, (b ∈ X.ex ∨ X.s₀.heap.objs.size ≤ b) ∧ b ≠ X.env.locals ∧ (∀ x c, X.env.cells.lookup x = some c → c ≠ b) ∧ ∀ p ∈ X.pn ++ pins, p.1 ≠ b)
    (keep : ∀ b o, b ≠ X.env.locals → b ∉ X.fs → b ∉ ch → s.heap.get? b = some o → H b = none → h'.get? b = some o)
    (slot : ∀ b o, b ≠ X.env.locals → b ∈ X.fs → b ∉ ch → s.heap.get? b = some o → H b = none → ∃ sl, h'.get? b = some { o with slots := sl }) (free : ∀ b o, b ∉ ch → s.heap.get? b = some o → H b = none → H' b = none)
    (there : ∀ b o, b ∉ ch → s.heap.get? b = some o → ∃ o', h'.get? b = some o')
    (tups : ∀ b xs, H b = some (.tup xs) → H' b = some (.tup xs)) (frzs : ∀ b o u, H b = some (.frz o u) → H' b = some (.frz o u)) (tbls : ∀ b ps, H b = some (.tbl ps) → ∃ more, H' b = some (.tbl (ps ++ more)))
    (ns : ∀ m, s.heap.Ns X.env.locals m → h'.Ns X.env.locals m) (hok : HOk X.prog X.w H' h') (hg : AllBare g') :
    Inv X pins σ H' { s with heap := h', gens := g', drawn := d', toks := t' } := by
  have neL : ∀ b o, X.s₀.heap.get? b = some o → b ≠ X.env.locals := fun b o e => Nat.ne_of_lt (Nat.lt_of_lt_of_le (Heap.lt_size e) I.ok.above)
  have neC : ∀ b o, X.s₀.heap.get? b = some o → b ∉ X.ex → b ∉ ch := fun b o e hx hb => by
    rcases (hch b hb).1 with z | z
    · exact hx z
    · exact absurd (Nat.lt_of_lt_of_le (Heap.lt_size e) z) (Nat.lt_irrefl _)
  have cellK : ∀ x c, X.env.cells.lookup x = some c → ∀ v, s.heap.IsCell c v → h'.IsCell c v := fun x c e v ⟨o, ho, hd⟩ => by
    have nch : c ∉ ch := fun z => (hch c z).2.2.1 x c e rfl
    by_cases hc : c ∈ X.fs
    · obtain ⟨sl, q⟩ := slot c o (I.cne x c e) hc nch ho (I.freeC x c e)
      exact ⟨_, q, hd⟩
    · exact ⟨o, keep c o (I.cne x c e) hc nch ho (I.freeC x c e), hd⟩
  refine ⟨I.ok, I.os, hg, ⟨fun b o e n hb hx => ?_, fun b o e n hb hx => ?_, fun b o e n hx => ?_, fun b o e hx => ?_, fun b xs e => tups b xs (I.base.tups b xs e), fun b o xs e => frzs b o xs (I.base.frzs b o xs e), fun b ps e => ?_⟩, ?_, fun x c e => ?_, ?_, fun x c e => ?_, fun p hp => ?_, hok, I.len⟩
  · exact keep b o (neL b o e) hb (neC b o e hx) (I.base.keep b o e n hb hx) (I.base.free b o e n hx)
  · obtain ⟨sl, e1⟩ := I.base.slot b o e n hb hx
    obtain ⟨sl', e2⟩ := slot b _ (neL b o e) hb (neC b o e hx) e1 (I.base.free b o e n hx)
    exact ⟨sl', e2⟩
  · obtain ⟨o', e1⟩ := I.base.there b o e hx
    exact free b o' (neC b o e hx) e1 (I.base.free b o e n hx)
  · obtain ⟨o', e1⟩ := I.base.there b o e hx
    exact there b o' (neC b o e hx) e1
  · obtain ⟨m1, e1⟩ := I.base.tbls b ps e
    obtain ⟨m2, e2⟩ := tbls b _ e1
    exact ⟨m1 ++ m2, by rw [e2, Array.append_assoc]⟩
  · obtain ⟨m, hn, hl⟩ := I.loc
    refine ⟨m, ns m hn, fun i x v e1 e2 e3 => ?_⟩
    obtain ⟨u, r, l⟩ := hl i x v e1 e2 e3
    refine ⟨u, r, ?_⟩
    rcases l with l | ⟨k, c, e, z⟩
    · exact .inl l
    · exact .inr ⟨k, c, e, cellK x c e _ z⟩
  · obtain ⟨v, z⟩ := I.cell x c e
    exact ⟨v, cellK x c e v z⟩
  · obtain ⟨m, ⟨o, _, _, ho, _⟩, _⟩ := I.loc
    exact free _ o (fun z => (hch _ z).2.1 rfl) ho I.free
  · obtain ⟨v, o, ho, hd⟩ := I.cell x c e
    exact free c o (fun z => (hch c z).2.2.1 x c e rfl) ho (I.freeC x c e)
  · obtain ⟨e, n, ne, nf, d⟩ := I.pin p hp
    have nch : p.1 ∉ ch := fun z => (hch p.1 z).2.2.2 p hp rfl
    exact ⟨keep p.1 p.2 ne nf nch e n, free p.1 p.2 nch e n, ne, nf, d⟩
theorem Inv.un {t' : Nat} (I : Inv X pins σ H s) (u : Un X.fs [] H H' s.heap h') (hok : HOk X.prog X.w H' h') : Inv X pins σ H' { s with heap := h', toks := t' } := by
  obtain ⟨m, ⟨o, es, ep, ho, r⟩, _⟩ := id I.loc
  obtain ⟨sl, hL⟩ := u.any ho I.free (by simp)
  exact I.step (g' := s.gens) (d' := s.drawn) (ch := []) (fun _ z => nomatch z) (fun b o _ hb _ e n => u.keep b o e n hb (by simp)) (fun b o _ hb _ e n => u.slot b o e n hb (by simp)) (fun b o _ e n => u.free b o e n (by simp)) (fun b o _ e => u.there b o e (by simp)) u.tups u.frzs u.tbls (fun m' hm => by
    obtain ⟨o', es', ep', ho', r'⟩ := hm
    rw [ho] at ho'; cases ho'
    exact ⟨_, es', ep', hL, r'⟩) hok I.bare
theorem Inv.call {g' : Array GenState} {t' : Nat} {d' : Drawn} {ch : List Addr} (I : Inv X pins σ H s) (u : Un (frs X.stack) ch H H' s.heap h') (hok : HOk X.prog X.w H' h') (hg : AllBare g')
    (hch : ∀ b ∈ ch, (b ∈ X.ex ∨ X.s₀.heap.objs.size ≤ b) ∧ b ≠ X.env.locals ∧ (∀ x c, X.env.cells.lookup x = some c → c ≠ b) ∧ ∀ p ∈ X.pn ++ pins, p.1 ≠ b) :
    Inv X pins σ H' { s with heap := h', gens := g', drawn := d', toks := t' } := by
  obtain ⟨m, ⟨o, es, ep, ho, r⟩, _⟩ := id I.loc
  obtain ⟨sl, hL⟩ := u.any ho I.free fun z => (hch _ z).2.1 rfl
  exact I.step (ch := ch) hch (fun b o hL hb hc e n => u.keep b o e n (fun z => (List.mem_cons.mp (I.stkSub b z)).elim hL hb) hc) (fun b o _ _ hc e n => u.any e n hc) (fun b o hc e n => u.free b o e n hc) (fun b o hc e => u.there b o e hc) u.tups u.frzs u.tbls (fun m' hm => by
    obtain ⟨o', es', ep', ho', r'⟩ := hm
    rw [ho] at ho'; cases ho'
    exact ⟨_, es', ep', hL, r'⟩) hok hg
theorem Inv.turned {t' : Nat} {it : Addr} (I : Inv X pins σ H s) (k : ∀ b o, b ≠ it → s.heap.get? b = some o → h'.get? b = some o) (hn : H it = none) (hL : it ≠ X.env.locals)
    (h1 : it ∈ X.ex ∨ X.s₀.heap.objs.size ≤ it) (h2 : ∀ x c, X.env.cells.lookup x = some c → c ≠ it) (h3 : ∀ p ∈ X.pn ++ pins, p.1 ≠ it) : Inv X pins σ H { s with heap := h', toks := t' } := by
  have nit : ∀ b u, H b = some u → b ≠ it := fun b u e z => by rw [z, hn] at e; cases e
  refine I.step (g' := s.gens) (d' := s.drawn) (ch := [it]) (fun b hb => ?_) (fun b o _ _ hc e _ => k b o (fun z => hc (by simp [z])) e) (fun b o _ _ hc e _ => ⟨o.slots, k b o (fun z => hc (by simp [z])) e⟩) (fun _ _ _ _ n => n)
    (fun b o hc e => ⟨o, k b o (fun z => hc (by simp [z])) e⟩) (fun _ _ e => e) (fun _ _ _ e => e) (fun b ps e => ⟨#[], by rw [e]; simp⟩) (fun m hm => ?_) (fun b u e => ?_) I.bare
  · have e : b = it := by simpa using hb
    subst e
    exact ⟨h1, hL, h2, h3⟩
  · obtain ⟨o, es, ep, ho, r⟩ := hm
    exact ⟨o, es, ep, k _ o (Ne.symm hL) ho, r⟩
  · refine (I.hok b u e).stay (fun c v hc q => k c v ?_ q) (fun _ q => q) fun _ _ q => q
    rcases hc with z | z
    · rw [z]; exact nit b u e
    · exact nit c _ z
theorem Inv.tok (I : Inv X pins σ H s) (t : Nat) : Inv X pins σ H { s with toks := t } := I.un (h' := s.heap) (t' := t) Un.refl I.hok
theorem Inv.kept {t' : Nat} (I : Inv X pins σ H s) (k : ∀ b u, s.heap.get? b = some u → h'.get? b = some u) : Inv X pins σ H { s with heap := h', toks := t' } := I.un (Un.kept k) (I.hok.kept k)
theorem Inv.laid {a : Addr} {o : HO} {t' : Nat} (I : Inv X pins σ H s) (k : ∀ b u, s.heap.get? b = some u → h'.get? b = some u) (hp : s.heap.objs.size ≤ a) (new : ObjOk X.prog X.w (upd H a o) h' a o) :
    Inv X pins σ (upd H a o) { s with heap := h', toks := t' } := I.un (Un.laid k hp (I.hok.fresh hp)) (I.hok.laid k hp new)
theorem Inv.write {x e : Addr} {o : HO} {t' : Nat} (I : Inv X pins σ H s) (mu : Mut (H x)) (he : e = x ∨ H e = some (.own x)) (k : ∀ b u, b ≠ e → s.heap.get? b = some u → h'.get? b = some u) (heo : ∃ u, h'.get? e = some u)
    (new : ObjOk X.prog X.w (upd H x o) h' x o) : Inv X pins σ (upd H x o) { s with heap := h', toks := t' } := I.un (Un.write mu he k heo) (I.hok.write mu he k heo new)
theorem Inv.pins_of {pins' : List (Addr × Obj)} (I : Inv X pins σ H s) (h : ∀ p ∈ pins', s.heap.get? p.1 = some p.2 ∧ H p.1 = none ∧ p.1 ≠ X.env.locals ∧ p.1 ∉ X.fs ∧ ∀ v, p.2.data ≠ .cell v) : Inv X pins' σ H s :=
  ⟨I.ok, I.os, I.bare, I.base, I.loc, I.cell, I.free, I.freeC, fun p hp => (List.mem_append.mp hp).elim (fun z => I.pin p (List.mem_append_left _ z)) (h p), I.hok, I.len⟩
theorem nodup_ix {N : List Str} (hN : N.Nodup) {i j : Nat} {x : Str} (a : N[i]? = some x) (b : N[j]? = some x) : i = j := by
  obtain ⟨h1, e1⟩ := List.getElem?_eq_some_iff.mp a
  obtain ⟨h2, e2⟩ := List.getElem?_eq_some_iff.mp b
  exact (List.getElem_inj hN).mp (e1.trans e2.symm)
theorem store_ok2 {M : Model} {A : Around} {E : Value → Shared → Prop} {i : Nat} {x : Str} {v : V} {u : Value} {Q : Unit → Shared → Prop} (I : Inv X pins σ H s) (hN : X.N.Nodup) (hi : X.N[i]? = some x) (hx : Loc X.env.scope x) (r : RelV v u)
    (h : ∀ s', Inv X pins (σ.set i (some v)) H s' → (∃ a, Heap.SameBut a s.heap s'.heap ∧ (a = X.env.locals ∨ X.env.cells.lookup x = some a)) → Q () s') (hf : X.fn x = true ∨ X.env.scope.names.lookup x = some .local := by first | exact .inl rfl | exact .inr rfl | assumption) : wpAny M A (storeName X.env x u) Q E s := by
  obtain ⟨m, hn, hl⟩ := id I.loc
  have hcls : (X.env.scope.kind == .class || (X.env.scope.kind == .module && X.env.locals != X.env.globals)) = false := by rw [I.ok.kind]; rfl
  have hiσ : i < σ.length := by rw [I.len]; exact (List.getElem?_eq_some_iff.mp hi).1
  have cne := I.cne
  have tracked : ∀ {a : Addr} {h' : Heap}, (∃ o, s.heap.get? a = some o ∧ H a = none) → Heap.SameBut a s.heap h' → HOk X.prog X.w H h' := fun {a h'} ha hs b ob e => by
    obtain ⟨_, _, hfree⟩ := ha
    refine (I.hok b ob e).stay (fun c w' hc q => (hs.2 c ?_).trans q) (fun _ q => q) fun _ _ q => q
    rintro rfl
    rcases hc with rfl | hc
    · rw [hfree] at e; cases e
    · rw [hfree] at hc; cases hc
  rcases hx with hk | hk
  · refine wpAny_storeName_local hk hn (fun h' hn' hs => ?_) hcls
    obtain ⟨oL, _, _, hoL, _⟩ := id hn
    refine h _ ⟨I.ok, I.os, I.bare, ⟨fun b o e n hb hx => ?_, fun b o e n hb hx => ?_, I.base.free, fun b o e hx => ?_, I.base.tups, I.base.frzs, I.base.tbls⟩, ⟨_, hn', fun j y v' e1 e2 e3 => ?_⟩, fun y c e => ?_, I.free, I.freeC, fun p hp => ?_, tracked ⟨oL, hoL, I.free⟩ hs, by simpa using I.len⟩ ⟨_, hs, .inl rfl⟩
    · exact (hs.2 b (Nat.ne_of_lt (Nat.lt_of_lt_of_le (Heap.lt_size e) I.ok.above))).trans (I.base.keep b o e n hb hx)
    · obtain ⟨sl, e1⟩ := I.base.slot b o e n hb hx
      exact ⟨sl, (hs.2 b (Nat.ne_of_lt (Nat.lt_of_lt_of_le (Heap.lt_size e) I.ok.above))).trans e1⟩
    · obtain ⟨o', e1⟩ := I.base.there b o e hx
      exact ⟨o', (hs.2 b (Nat.ne_of_lt (Nat.lt_of_lt_of_le (Heap.lt_size e) I.ok.above))).trans e1⟩
    · by_cases hj : j = i
      · subst hj
        rw [hi] at e1; cases e1
        rw [List.getElem?_set_self hiσ] at e2
        cases e2
        exact ⟨u, r, .inl ⟨hk, by simp⟩⟩
      · rw [List.getElem?_set_ne (Ne.symm hj)] at e2
        obtain ⟨u', r', q⟩ := hl j y v' e1 e2 e3
        refine ⟨u', r', ?_⟩
        rcases q with ⟨k, e⟩ | ⟨k, c, e, z⟩
        · refine .inl ⟨k, ?_⟩
          have : y ≠ x := fun e => hj (nodup_ix hN e1 (e ▸ hi))
          simp [this, e]
        · exact .inr ⟨k, c, e, z.sameBut hs (cne y c e)⟩
    · obtain ⟨w', z⟩ := I.cell y c e
      exact ⟨w', z.sameBut hs (cne y c e)⟩
    · obtain ⟨e, n, ne, nf, d⟩ := I.pin p hp
      exact ⟨(hs.2 p.1 ne).trans e, n, ne, nf, d⟩
  · have hfn : X.fn x = true := by
      rcases hf with z | z
      · exact z
      · rw [z] at hk; cases hk
    obtain ⟨c, hc⟩ := I.ok.has x (.inl hk)
    obtain ⟨w', z⟩ := I.cell x c hc
    refine wpAny_storeName_cell I.ok.kind hk hc z (fun h' hc' hs => ?_)
    obtain ⟨oc, hoc, hocd⟩ := id z
    refine h { s with heap := h' } ⟨I.ok, I.os, I.bare, ⟨fun b o e n hb hx => ?_, fun b o e n hb hx => ?_, I.base.free, fun b o e hx => ?_, I.base.tups, I.base.frzs, I.base.tbls⟩, ⟨m, hn.sameBut hs (Ne.symm (cne x c hc)), fun j y v' e1 e2 e3 => ?_⟩, fun y c' e => ?_, I.free, I.freeC, fun p hp => ?_, tracked ⟨oc, hoc, I.freeC x c hc⟩ hs, by simpa using I.len⟩ ⟨c, hs, .inr hc⟩
    · exact (hs.2 b (Nat.ne_of_lt (Nat.lt_of_lt_of_le (Heap.lt_size e) (I.ok.cab x c hfn hc)))).trans (I.base.keep b o e n hb hx)
    · obtain ⟨sl, e1⟩ := I.base.slot b o e n hb hx
      exact ⟨sl, (hs.2 b (Nat.ne_of_lt (Nat.lt_of_lt_of_le (Heap.lt_size e) (I.ok.cab x c hfn hc)))).trans e1⟩
    · obtain ⟨o', e1⟩ := I.base.there b o e hx
      exact ⟨o', (hs.2 b (Nat.ne_of_lt (Nat.lt_of_lt_of_le (Heap.lt_size e) (I.ok.cab x c hfn hc)))).trans e1⟩
    · by_cases hj : j = i
      · subst hj
        rw [hi] at e1; cases e1
        rw [List.getElem?_set_self hiσ] at e2
        cases e2
        exact ⟨u, r, .inr ⟨.inl hk, c, hc, hc'⟩⟩
      · rw [List.getElem?_set_ne (Ne.symm hj)] at e2
        obtain ⟨u', r', q⟩ := hl j y v' e1 e2 e3
        refine ⟨u', r', ?_⟩
        rcases q with q | ⟨k, c', e, z'⟩
        · exact .inl q
        · refine .inr ⟨k, c', e, z'.sameBut hs ?_⟩
          rintro rfl
          exact hj (nodup_ix hN e1 (I.ok.inj _ _ _ e hc ▸ hi))
    · by_cases hcc : c' = c
      · subst hcc; exact ⟨_, hc'⟩
      · obtain ⟨w2, z2⟩ := I.cell y c' e
        exact ⟨w2, z2.sameBut hs hcc⟩
    · obtain ⟨e, n, ne, nf, d⟩ := I.pin p hp
      refine ⟨(hs.2 p.1 ?_).trans e, n, ne, nf, d⟩
      intro q
      rw [q, hoc] at e
      have q' : oc = p.2 := Option.some.inj e
      exact d w' (by rw [← q']; exact hocd)
theorem store_ok {M : Model} {A : Around} {E : Value → Shared → Prop} {i : Nat} {x : Str} {v : V} {u : Value} {Q : Unit → Shared → Prop} (I : Inv X pins σ H s) (hN : X.N.Nodup) (hi : X.N[i]? = some x) (hx : Loc X.env.scope x) (r : RelV v u)
    (h : ∀ s', Inv X pins (σ.set i (some v)) H s' → Q () s') (hf : X.fn x = true ∨ X.env.scope.names.lookup x = some .local := by first | exact .inl rfl | exact .inr rfl | assumption) : wpAny M A (storeName X.env x u) Q E s :=
  store_ok2 I hN hi hx r (fun s' I' _ => h s' I') hf
theorem Inv.call' {s' : Shared} {ch : List Addr} (I : Inv X pins σ H s) (ho : s'.os = s.os) (u : Un (frs X.stack) ch H H' s.heap s'.heap) (hok : HOk X.prog X.w H' s'.heap) (hg : AllBare s'.gens)
    (hch : ∀ b ∈ ch, (b ∈ X.ex ∨ X.s₀.heap.objs.size ≤ b) ∧ b ≠ X.env.locals ∧ (∀ x c, X.env.cells.lookup x = some c → c ≠ b) ∧ ∀ p ∈ X.pn ++ pins, p.1 ≠ b) : Inv X pins σ H' s' := by
  obtain ⟨h', g', d', t', o'⟩ := s'
  have e : o' = s.os := ho
  subst e
  exact I.call (g' := g') (t' := t') (d' := d') u hok hg hch
end
abbrev XK := Value → Option Addr → Hp → Prop
abbrev St := List (Option V)
abbrev VK := V → Hp → Prop
abbrev TE := St → Hp → VK → Prop
abbrev TT := St → Hp → (Bool → Hp → Prop) → Prop
abbrev TA := St → Hp → (List V → Hp → Prop) → Prop
structure Ends where
  nx : St → Hp → Prop
  rt : VK
  bk : St → Hp → Prop := fun _ _ => False
  ct : St → Hp → Prop := fun _ _ => False
abbrev TS := Ends → St → Hp → Prop
def EP (X : Cx) (pins : List (Addr × Obj)) (σ : St) (Q : VK) (u : Value) (s' : Shared) : Prop := ∃ v H', Inv X pins σ H' s' ∧ RelV v u ∧ Q v H'
def TP (X : Cx) (pins : List (Addr × Obj)) (σ : St) (Q : Bool → Hp → Prop) (b : Bool) (s' : Shared) : Prop := ∃ H', Inv X pins σ H' s' ∧ Q b H'
def AP (X : Cx) (pins : List (Addr × Obj)) (σ : St) (Q : List V → Hp → Prop) (us : List Value) (s' : Shared) : Prop := ∃ vs H', Inv X pins σ H' s' ∧ Vals vs us ∧ Q vs H'
def SP (X : Cx) (pins : List (Addr × Obj)) (D : Ends) (f : Flow) (s' : Shared) : Prop :=
  match f with
  | .next => ∃ σ' H', Inv X pins σ' H' s' ∧ D.nx σ' H'
  | .brk => ∃ σ' H', Inv X pins σ' H' s' ∧ D.bk σ' H'
  | .cont => ∃ σ' H', Inv X pins σ' H' s' ∧ D.ct σ' H'
  | .ret u => ∃ v σ' H', Inv X pins σ' H' s' ∧ RelV v u ∧ D.rt v H'
def PE (X : Cx) (e : Expr) (t : TE) : Prop :=
  ∀ (pins : List (Addr × Obj)) (s : Shared) (σ : St) (H : Hp) (Q : VK), Inv X pins σ H s → t σ H Q → wpAny (model X.prog X.w) X.A (eval e X.env) (EP X pins σ Q) X.xe s
def PT (X : Cx) (e : Expr) (t : TT) : Prop :=
  ∀ (pins : List (Addr × Obj)) (s : Shared) (σ : St) (H : Hp) (Q : Bool → Hp → Prop), Inv X pins σ H s → t σ H Q → wpAny (model X.prog X.w) X.A (isTrue e X.env (eval e X.env)) (TP X pins σ Q) X.xe s
def PW (X : Cx) (e : Expr) (t : TT) : Prop :=
  ∀ (whole : Sem Value) (pins : List (Addr × Obj)) (s : Shared) (σ : St) (H : Hp) (Q : Bool → Hp → Prop), Inv X pins σ H s → t σ H Q → wpAny (model X.prog X.w) X.A (isTrue e X.env whole) (TP X pins σ Q) X.xe s
theorem PW.pt {X : Cx} {e : Expr} {t : TT} (h : PW X e t) : PT X e t := h _
def PA (X : Cx) (es : List Expr) (t : TA) : Prop :=
  ∀ (pos : Pos) (pins : List (Addr × Obj)) (s : Shared) (σ : St) (H : Hp) (Q : List V → Hp → Prop), Inv X pins σ H s → t σ H Q → wpAny (model X.prog X.w) X.A (spliced (backTo pos (starEach es X.env))) (AP X pins σ Q) X.xe s
def PS (X : Cx) (st : Stmt) (t : TS) : Prop :=
  ∀ (pins : List (Addr × Obj)) (s : Shared) (σ : St) (H : Hp) (D : Ends), Inv X pins σ H s → t D σ H → wpAny (model X.prog X.w) X.A (exec st X.env) (SP X pins D) X.xe s
def PSs (X : Cx) (st : List Stmt) (t : TS) : Prop :=
  ∀ (pins : List (Addr × Obj)) (s : Shared) (σ : St) (H : Hp) (D : Ends), Inv X pins σ H s → t D σ H → wpAny (model X.prog X.w) X.A (execs st X.env) (SP X pins D) X.xe s
theorem thn {α : Type} {t : Sem α} {Q Q' : α → Shared → Prop} {M : Model} {A : Around} {E : Value → Shared → Prop} {s : Shared} (h : wpAny M A t Q E s) (hQ : ∀ a s, Q a s → Q' a s) : wpAny M A t Q' E s := wpAny_mono h hQ fun _ _ x => x
end L2
namespace L2
open PySem PySem.Spec PyProof.Rows
section
variable {X : Cx}
def tVar (i : Nat) : TE := fun σ H Q => ∃ v, σ[i]? = some (some v) ∧ Q v H
def tC (v : V) : TE := fun _ H Q => Q v H
theorem pe_var {i : Nat} {x : Str} {pos : Pos} (hN : X.N[i]? = some x) (hv : Vis X.env.scope x) (hd : (x == ("__debug__" : Str)) = false := by decide) (hcd : (x == ("__classdict__" : Str)) = false := by decide) : PE X (.Name x pos) (tVar i) := by
  intro pins s σ H Q I h
  obtain ⟨v, e, h⟩ := h
  obtain ⟨m, hn, hl⟩ := I.loc
  obtain ⟨u, r, l⟩ := hl i x v hN e hv
  have fin : EP X pins σ Q u s := ⟨v, H, I, r, h⟩
  rcases l with ⟨hk, hm⟩ | ⟨hk, c, hc, hcell⟩
  · exact wpAny_Name (wpAny_loadName_local I.ok.kind hk hn hm fin) hd
  · rcases hk with hk | hk
    · exact wpAny_Name (wpAny_loadName_cell I.ok.kind hk hc hcell fin) hd
    · exact wpAny_Name (wpAny_loadName_free I.ok.kind hk hc hcell fin hcd) hd
theorem pe_int {i j pos} : PE X (.Constant (.int i) j pos) (tC (.int i)) := fun _ _ _ H _ I h => wpAny_Constant_int ⟨.int i, H, I.tok _, ⟨_, rfl⟩, h⟩
theorem pe_bl {b j pos} : PE X (.Constant (.bool b) j pos) (tC (.bl b)) := fun _ _ _ H _ I h => Constant_bool ⟨.bl b, H, I, rfl, h⟩
theorem pe_non {j pos} : PE X (.Constant .none j pos) (tC .non) := fun _ _ _ H _ I h => Constant_none ⟨.non, H, I, rfl, h⟩
theorem pe_str {x j pos} : PE X (.Constant (.str x) j pos) (tC (.str x)) := fun _ _ _ H _ I h => Calls.Constant_str ⟨.str x, H, I.tok _, ⟨_, rfl⟩, h⟩
def Gl (X : Cx) (x : Str) : Prop := X.env.kindOf x = some .globalImplicit
theorem ld_glob {E : Value → Shared → Prop} {pins : List (Addr × Obj)} {s : Shared} {σ : St} {H : Hp} {x : Str} {u : Value} {pos : Pos} {Q : Value → Shared → Prop} (I : Inv X pins σ H s) (hg : Gl X x) (hm : X.mg x = some u) (h : Q u s)
    (hd : (x == ("__debug__" : Str)) = false := by decide) : wpAny (model X.prog X.w) X.A (eval (.Name x pos) X.env) Q E s :=
  Calls.Name_function_global I.ok.kind hg (Calls.loadGlobal_global (by rw [I.ok.glob]; exact I.mod.glob.keeps I.bk) hm h) hd
theorem ld_blt {E : Value → Shared → Prop} {pins : List (Addr × Obj)} {s : Shared} {σ : St} {H : Hp} {x : Str} {u : Value} {pos : Pos} {Q : Value → Shared → Prop} (I : Inv X pins σ H s) (hg : Gl X x) (hm : X.mg x = none) (hv : bootBuiltins x = some u) (h : Q u s)
    (hn : x ≠ "__name__" := by decide) (hd : (x == ("__debug__" : Str)) = false := by decide) : wpAny (model X.prog X.w) X.A (eval (.Name x pos) X.env) Q E s := by
  obtain ⟨mb, h1, h2⟩ := I.mod.blt
  exact Calls.Name_function_global I.ok.kind hg (Calls.loadGlobal_builtin (by rw [I.ok.glob]; exact I.mod.glob.keeps I.bk) hm (by rw [I.ok.blt]; exact h1.keeps I.bk) ((h2 x hn).trans hv) h) hd
theorem pe_bltn {x : Str} {v : V} {u : Value} {pos : Pos} (hg : Gl X x) (hm : X.mg x = none) (hv : bootBuiltins x = some u) (r : RelV v u) (hn : x ≠ "__name__" := by decide) (hd : (x == ("__debug__" : Str)) = false := by decide) : PE X (.Name x pos) (tC v) :=
  fun _ _ _ H _ I h => ld_blt I hg hm hv ⟨v, H, I, r, h⟩ hn hd
variable {a b : Expr} {ta tb : TE} {pos : Pos}
def PC (X : Cx) (op : CmpOp) (a b : Expr) (t : TE) : Prop :=
  ∀ (pins : List (Addr × Obj)) (s : Shared) (σ : St) (H : Hp) (Q : VK), Inv X pins σ H s → t σ H Q →
    wpAny (model X.prog X.w) X.A (eval a X.env) (fun v s₁ => wpAny (model X.prog X.w) X.A (eval b X.env) (fun u s₂ => wpAny (model X.prog X.w) X.A (compareOp op v u) (EP X pins σ Q) X.xe s₂) X.xe s₁) X.xe s
theorem nobehind (b : Expr) {op : CmpOp} (h : op ≠ .In) (h2 : op ≠ .NotIn) : behindInMarks op b = false := by
  have e1 : (op == CmpOp.In) = false := by cases op <;> first | rfl | exact absurd rfl h
  have e2 : (op == CmpOp.NotIn) = false := by cases op <;> first | rfl | exact absurd rfl h2
  cases b <;> simp [behindInMarks, e1, e2]
def tB (t : TE) : TT := fun σ H Q => t σ H fun x H1 => ∃ c, x = .bl c ∧ Q c H1
theorem pe_cmp {op : CmpOp} {t : TE} (h : PC X op a b t) (h1 : behindInMarks op b = false := by first | exact nobehind _ (by decide) (by decide) | rfl) : PE X (.Compare a [op] [b] pos) t := fun pins s σ H Q I hw => wpAny_Compare1 (h pins s σ H Q I hw) h1
theorem pt_cmp {op : CmpOp} {t : TE} (h : PC X op a b t) (h1 : behindInMarks op b = false := by first | exact nobehind _ (by decide) (by decide) | rfl) : PT X (.Compare a [op] [b] pos) (tB t) := by
  intro pins s σ H Q I hw
  refine wpAny_isTrue_Compare1 (thn (h pins s σ H _ I hw) fun v s1 h1 => thn h1 fun u s2 h2 => thn h2 fun c s3 ⟨x, H1, I1, r1, q1⟩ => ?_) h1
  obtain ⟨d, rfl, q⟩ := q1
  cases r1
  exact wpAny_truthy_bool ⟨H1, I1, q⟩
theorem pt_val {e : Expr} {t : TE} (h : PE X e t) (he : ∀ whole, isTrue e X.env whole = (do let v ← whole; standAt e.pos; holding [v] (truthy v)) := by intro _; rfl) : PT X e (tB t) := by
  intro pins s σ H Q I hw
  refine isTrue_plain (thn (h pins s σ H _ I hw) fun v s1 ⟨x, H1, I1, r1, q1⟩ => ?_) (he _)
  obtain ⟨d, rfl, q⟩ := q1
  cases r1
  exact wpAny_truthy_bool ⟨H1, I1, q⟩
variable {tA tB' : TT} {rest : List Expr}
def tAnd (t u : TT) : TT := fun σ H Q => t σ H fun c H1 => if c = true then u σ H1 Q else Q false H1
def tOr (t u : TT) : TT := fun σ H Q => t σ H fun c H1 => if c = true then Q true H1 else u σ H1 Q
def tNot (t : TT) : TT := fun σ H Q => t σ H fun c H1 => Q (!c) H1
theorem pw_and1 (ha : PT X a tA) : PW X (.BoolOp .And [a] pos) tA := by
  intro wh pins s σ H Q I h
  refine isTrue_and (thn (ha pins s σ H Q I h) fun c s1 e => ?_)
  cases c with
  | true => exact isTrue_and_nil e
  | false => exact e
theorem pw_or1 (ha : PT X a tA) : PW X (.BoolOp .Or [a] pos) tA := by
  intro wh pins s σ H Q I h
  refine isTrue_or (thn (ha pins s σ H Q I h) fun c s1 e => ?_)
  cases c with
  | false => exact isTrue_or_nil e
  | true => exact e
theorem pw_and (ha : PT X a tA) (hb : PW X (.BoolOp .And (b :: rest) pos) tB') : PW X (.BoolOp .And (a :: b :: rest) pos) (tAnd tA tB') := by
  intro wh pins s σ H Q I h
  refine isTrue_and (thn (ha pins s σ H _ I h) fun c s1 ⟨H1, I1, q1⟩ => ?_)
  cases c with
  | true => exact hb wh pins s1 σ H1 Q I1 q1
  | false => exact ⟨H1, I1, q1⟩
theorem pw_or (ha : PT X a tA) (hb : PW X (.BoolOp .Or (b :: rest) pos) tB') : PW X (.BoolOp .Or (a :: b :: rest) pos) (tOr tA tB') := by
  intro wh pins s σ H Q I h
  refine isTrue_or (thn (ha pins s σ H _ I h) fun c s1 ⟨H1, I1, q1⟩ => ?_)
  cases c with
  | true => exact ⟨H1, I1, q1⟩
  | false => exact hb wh pins s1 σ H1 Q I1 q1
theorem pt_not (ha : PT X a tA) : PT X (.UnaryOp .Not a pos) (tNot tA) := by
  intro pins s σ H Q I h
  exact isTrue_not (ha pins s σ H (fun c H1 => Q (!c) H1) I h)
def tAndV (ta tb : TE) : TE := fun σ H Q => ta σ H fun x H1 => ∃ c, x = .bl c ∧ if c = true then tb σ H1 Q else Q (.bl false) H1
def tNotV (ta : TE) : TE := fun σ H Q => ta σ H fun x H1 => ∃ c, x = .bl c ∧ Q (.bl (!c)) H1
theorem pe_one {op} {t : TE} (h : PE X a t) : PE X (.BoolOp op [a] pos) t := fun pins s σ H Q I hw => BoolOp_one (h pins s σ H Q I hw)
theorem pe_and (ha : PE X a ta) (hb : PE X (.BoolOp .And (b :: rest) pos) tb) : PE X (.BoolOp .And (a :: b :: rest) pos) (tAndV ta tb) := by
  intro pins s σ H Q I h
  refine BoolOp_and (thn (ha pins s σ H _ I h) fun v s1 ⟨x, H1, I1, r1, q1⟩ => ?_)
  obtain ⟨c, rfl, q1⟩ := q1
  cases r1
  refine wpAny_truthy_bool ?_
  cases c with
  | true => exact hb pins s1 σ H1 Q I1 q1
  | false => exact ⟨.bl false, H1, I1, rfl, q1⟩
theorem pe_not (ha : PE X a ta) : PE X (.UnaryOp .Not a pos) (tNotV ta) := by
  intro pins s σ H Q I h
  refine UnaryOp_ (thn (ha pins s σ H _ I h) fun v s1 ⟨x, H1, I1, r1, q1⟩ => ?_)
  obtain ⟨c, rfl, q1⟩ := q1
  cases r1
  exact not_of (wpAny_truthy_bool ⟨.bl (!c), H1, I1, rfl, q1⟩)
end
end L2
namespace L2
open PySem PySem.Spec PyProof.Rows
def SqL (K : PySem.W.Frag) (H : Hp) (a : Addr) (xs : List V) : Prop :=
  Rd H a (.lst xs) ∨
    ∃ (o : Obj) (its : Array Value) (n : Nat), K.lookup a = some o ∧ o.cls = .type "list" ∧ o.dict = none ∧ o.data = .seq its n ∧ its.size ≤ sizeLine ∧ Vals xs its.toList
def SqT (K : PySem.W.Frag) (H : Hp) (a : Addr) (xs : List V) : Prop :=
  Rd H a (.tup xs) ∨
    ∃ (o : Obj) (its : Array Value) (n : Nat), K.lookup a = some o ∧ o.cls = .type "tuple" ∧ o.data = .seq its n ∧ its.size ≤ sizeLine ∧ Vals xs its.toList
def absV : Value → Option V
  | .none => some .non
  | .bool b => some (.bl b)
  | .int i _ => some (.int i)
  | .str x _ => some (.str x)
  | .bytes b _ => some (.byt b)
  | .float b _ => some (.flt b)
  | .ref a => some (.ref a)
  | .type n => some (.ty n)
  | _ => none
theorem RelV.abs {x : V} {u : Value} (r : RelV x u) : absV u = some x := by
  cases x with
  | non => cases r; rfl
  | bl _ => cases r; rfl
  | int _ => obtain ⟨t, rfl⟩ := r; rfl
  | str _ => obtain ⟨t, rfl⟩ := r; rfl
  | byt _ => obtain ⟨t, rfl⟩ := r; rfl
  | flt _ => obtain ⟨t, rfl⟩ := r; rfl
  | ref _ => cases r; rfl
  | ty _ => cases r; rfl
theorem RelV.inj {x y : V} {u : Value} (r : RelV x u) (q : RelV y u) : x = y := Option.some.inj (r.abs.symm.trans q.abs)
theorem Vals.inj : ∀ {xs ys : List V} {us : List Value}, Vals xs us → Vals ys us → xs = ys
  | _, _, _, .nil, .nil => rfl
  | _, _, _, .cons r t, .cons r' t' => by rw [r.inj r', Vals.inj t t']
section
variable {X : Cx} {pins : List (Addr × Obj)} {σ : St} {H : Hp} {s : Shared} {a : Addr} {xs ys : List V}
theorem SqL.of {K : PySem.W.Frag} (h : H a = some (.lst xs)) : SqL K H a xs := .inl (.inl h)
theorem SqT.of {K : PySem.W.Frag} (h : H a = some (.tup xs)) : SqT K H a xs := .inl (.inl h)
theorem Inv.list (I : Inv X pins σ H s) (h : SqL X.K H a xs) : ∃ its : List Value, Vals xs its ∧ PlainL s.heap a its.toArray ∧ xs.length ≤ sizeLine := by
  rcases h with h | ⟨o, its, n, hk, hc, hd, hs, hz, r⟩
  · obtain ⟨z, its, n, r, e⟩ := h.ok I.hok
    exact ⟨its, r, ⟨_, n, e, rfl, rfl, rfl⟩, z⟩
  · refine ⟨its.toList, r, ⟨o, n, I.kIn a o hk, hc, hd, by simpa using hs⟩, ?_⟩
    have e := r.length
    simp only [Array.length_toList] at e
    omega
theorem Inv.tuple (I : Inv X pins σ H s) (h : SqT X.K H a xs) : ∃ its : List Value, Vals xs its ∧ IsTup s.heap a its.toArray ∧ xs.length ≤ sizeLine := by
  rcases h with h | ⟨o, its, n, hk, hc, hs, hz, r⟩
  · obtain ⟨z, its, r, p⟩ := h.ok I.hok
    exact ⟨its, r, p, z⟩
  · refine ⟨its.toList, r, ⟨o, I.kIn a o hk, hc, n, by simpa using hs⟩, ?_⟩
    have e := r.length
    simp only [Array.length_toList] at e
    omega
theorem Inv.list_inj (I : Inv X pins σ H s) (h : SqL X.K H a xs) (h' : SqL X.K H a ys) : xs = ys := by
  obtain ⟨its, r, ⟨o, n, e, _, _, d⟩, _⟩ := I.list h
  obtain ⟨its', r', ⟨o', n', e', _, _, d'⟩, _⟩ := I.list h'
  rw [e] at e'; cases e'
  rw [d] at d'
  injection d' with d1 _
  have : its = its' := by simpa using congrArg Array.toList d1
  subst this
  exact r.inj r'
theorem Inv.tuple_inj (I : Inv X pins σ H s) (h : SqT X.K H a xs) (h' : SqT X.K H a ys) : xs = ys := by
  obtain ⟨its, r, ⟨o, e, _, n, d⟩, _⟩ := I.tuple h
  obtain ⟨its', r', ⟨o', e', _, n', d'⟩, _⟩ := I.tuple h'
  rw [e] at e'; cases e'
  rw [d] at d'
  injection d' with d1 _
  have : its = its' := by simpa using congrArg Array.toList d1
  subst this
  exact r.inj r'
end
abbrev Cx.wish (X : Cx) (E : Value → Shared → Prop) : Cx := { X with xe := E }
abbrev Cx.nox (X : Cx) : Cx := X.wish fun _ _ => False
theorem Cx.Ok.wish {X : Cx} (ok : X.Ok) (E : Value → Shared → Prop) : (X.wish E).Ok :=
  ⟨ok.mod, ok.kind, ok.glob, ok.blt, ok.above, ok.inj, ok.has, ok.cab, ok.hd, ok.frames, ok.stk, ok.exf, ok.bs, ok.bsz, ok.noex, ok.exfs, ok.funs, ok.frf⟩
theorem Cx.Ok.unwish {X : Cx} {E : Value → Shared → Prop} (ok : (X.wish E).Ok) : X.Ok :=
  ⟨ok.mod, ok.kind, ok.glob, ok.blt, ok.above, ok.inj, ok.has, ok.cab, ok.hd, ok.frames, ok.stk, ok.exf, ok.bs, ok.bsz, ok.noex, ok.exfs, ok.funs, ok.frf⟩
section
variable {X : Cx} {pins : List (Addr × Obj)} {σ : St} {H : Hp} {s : Shared} {E : Value → Shared → Prop}
theorem Inv.wish (I : Inv X pins σ H s) (E : Value → Shared → Prop) : Inv (X.wish E) pins σ H s := ⟨I.ok.wish E, I.os, I.bare, I.base, I.loc, I.cell, I.free, I.freeC, I.pin, I.hok, I.len⟩
theorem Inv.unwish (I : Inv (X.wish E) pins σ H s) : Inv X pins σ H s := ⟨I.ok.unwish, I.os, I.bare, I.base, I.loc, I.cell, I.free, I.freeC, I.pin, I.hok, I.len⟩
theorem SP.unwish {D : Ends} {f : Flow} {s' : Shared} (h : SP (X.wish E) pins D f s') : SP X pins D f s' := by
  cases f with
  | next => obtain ⟨σ', H', I, q⟩ := h; exact ⟨σ', H', I.unwish, q⟩
  | brk => obtain ⟨σ', H', I, q⟩ := h; exact ⟨σ', H', I.unwish, q⟩
  | cont => obtain ⟨σ', H', I, q⟩ := h; exact ⟨σ', H', I.unwish, q⟩
  | ret u => obtain ⟨v, σ', H', I, r, q⟩ := h; exact ⟨v, σ', H', I.unwish, r, q⟩
theorem PSs.nox {st : List Stmt} {t : TS} (h : PSs X.nox st t) : PSs X st t := fun pins s σ H D I hw =>
  wpAny_mono (h pins s σ H D (I.wish _) hw) (fun _ _ q => q.unwish) fun _ _ z => False.elim z
end
section
variable {X : Cx} {st : Stmt} {rest : List Stmt} {t u : TS} {e : Expr} {te : TE} {pos : Pos}
def tNext : TS := fun D σ H => D.nx σ H
def tSeq (t u : TS) : TS := fun D σ H => t { D with nx := u D } σ H
theorem pss_nil : PSs X [] tNext := fun _ _ σ H _ I h => wpAny_execs_nil ⟨σ, H, I, h⟩
theorem pss_cons (h1 : PS X st t) (h2 : PSs X rest u) : PSs X (st :: rest) (tSeq t u) := by
  intro pins s σ H D I h
  refine wpAny_execs_cons (thn (h1 pins s σ H { D with nx := u D } I h) fun f s1 q => ?_)
  cases f with
  | next =>
    obtain ⟨σ', H', I', q⟩ := q
    exact h2 pins s1 σ' H' D I' q
  | ret v => exact q
  | brk => exact q
  | cont => exact q
theorem pss_one (h1 : PS X st t) : PSs X [st] t := by
  intro pins s σ H D I h
  refine wpAny_execs_cons (thn (h1 pins s σ H D I h) fun f s1 q => ?_)
  cases f with
  | next => exact wpAny_execs_nil q
  | ret v => exact q
  | brk => exact q
  | cont => exact q
theorem Inv.quiet {pins : List (Addr × Obj)} {σ : St} {H : Hp} {s : Shared} (I : Inv X pins σ H s) : interactive X.env = false := by simp [interactive, I.ok.kind]
def tDrop (te : TE) : TS := fun D σ H => te σ H fun _ H1 => D.nx σ H1
theorem ps_expr (he : PE X e te) (hs : swapsWith e none pos.line X.env = pure false := by rfl) : PS X (.Expr e pos) (tDrop te) := by
  intro pins s σ H D I h
  exact wpAny_Expr_any (thn (he pins s σ H _ I h) fun v s1 ⟨x, H1, I1, r1, q1⟩ => ⟨σ, H1, I1, q1⟩) I.quiet hs
def tRet (te : TE) : TS := fun D σ H => te σ H D.rt
theorem ps_ret (he : PE X e te) : PS X (.Return (some e) pos) (tRet te) := by
  intro pins s σ H D I h
  exact wpAny_Return_some (thn (he pins s σ H _ I h) fun v s1 ⟨x, H1, I1, r1, q1⟩ => ⟨x, σ, H1, I1, r1, q1⟩)
def tIfS (c : TT) (t u : TS) : TS := fun D σ H => c σ H fun b H1 => if b = true then t D σ H1 else u D σ H1
theorem ps_if {c : Expr} {a b : List Stmt} {tc : TT} (hc : PT X c tc) (ha : PSs X a t) (hb : PSs X b u) : PS X (.If c a b pos) (tIfS tc t u) := by
  intro pins s σ H D I h
  refine wpAny_If (thn (hc pins s σ H _ I h) fun d s1 ⟨H1, I1, q1⟩ => ?_)
  cases d with
  | true => exact ha pins s1 σ H1 D I1 q1
  | false => exact hb pins s1 σ H1 D I1 q1
end
abbrev TG := V → St → Hp → (St → Hp → Prop) → Prop
abbrev TGs := List V → St → Hp → (St → Hp → Prop) → Prop
def PG (X : Cx) (target : Expr) (t : TG) : Prop :=
  ∀ (pins : List (Addr × Obj)) (s : Shared) (σ : St) (H : Hp) (v : V) (u : Value) (Q : St → Hp → Prop), Inv X pins σ H s → RelV v u → t v σ H Q →
    wpAny (model X.prog X.w) X.A (assign target X.env u) (fun _ s' => ∃ σ' H', Inv X pins σ' H' s' ∧ Q σ' H') X.xe s
def PGs (X : Cx) (ts : List Expr) (t : TGs) : Prop :=
  ∀ (pins : List (Addr × Obj)) (s : Shared) (σ : St) (H : Hp) (vs : List V) (us : List Value) (Q : St → Hp → Prop), Inv X pins σ H s → Vals vs us → t vs σ H Q →
    wpAny (model X.prog X.w) X.A (assignInOrder ((assignEach ts X.env).map (·.2)) us) (fun _ s' => ∃ σ' H', Inv X pins σ' H' s' ∧ Q σ' H') X.xe s
abbrev TSet := V → V → V → Hp → (Hp → Prop) → Prop
def PSet (X : Cx) (t : TSet) : Prop :=
  ∀ (pins : List (Addr × Obj)) (s : Shared) (σ : St) (H : Hp) (o i v : V) (ov iv u : Value) (Q : Hp → Prop), Inv X pins σ H s → RelV o ov → RelV i iv → RelV v u → t o i v H Q →
    wpAny (model X.prog X.w) X.A (setItem ov iv u) (fun _ s' => ∃ H', Inv X pins σ H' s' ∧ Q H') X.xe s
section
variable {X : Cx} {pos : Pos}
def gName (i : Nat) : TG := fun v σ H Q => Q (σ.set i (some v)) H
theorem pg_name {i : Nat} {x : Str} (hN : X.N.Nodup) (hi : X.N[i]? = some x) (hx : Loc X.env.scope x) (hf : X.fn x = true ∨ X.env.scope.names.lookup x = some .local := by first | exact .inl rfl | exact .inr rfl | assumption) : PG X (.Name x pos) (gName i) := by
  intro pins s σ H v u Q I r h
  exact wpAny_assign_Name (store_ok I hN hi hx r (fun s' I' => ⟨_, H, I', h⟩) hf)
def gNil : TGs := fun vs σ H Q => vs = [] ∧ Q σ H
def gCons (t : TG) (u : TGs) : TGs := fun vs σ H Q => ∃ v r, vs = v :: r ∧ t v σ H fun σ' H' => u r σ' H' Q
theorem pgs_nil : PGs X [] gNil := by
  intro pins s σ H vs us Q I r h
  obtain ⟨e, h⟩ := h
  subst e
  cases r
  exact assignInOrder_nil ⟨σ, H, I, h⟩
theorem pgs_cons {e : Expr} {es : List Expr} {t : TG} {u : TGs} (h1 : PG X e t) (h2 : PGs X es u)
    (hs : (assignEach (e :: es) X.env).map (·.2) = assign e X.env :: (assignEach es X.env).map (·.2) := by rfl) : PGs X (e :: es) (gCons t u) := by
  intro pins s σ H vs us Q I r h
  obtain ⟨v, vr, e1, h⟩ := h
  subst e1
  cases r with
  | cons r rr =>
    rw [hs]
    refine assignInOrder_cons (thn (h1 pins s σ H _ _ _ I r h) fun _ s1 ⟨σ1, H1, I1, q1⟩ => ?_)
    exact h2 pins s1 σ1 H1 _ _ Q I1 rr q1
def gTup (K : PySem.W.Frag) (n : Nat) (t : TGs) : TG := fun v σ H Q => ∃ a xs, v = .ref a ∧ SqT K H a xs ∧ xs.length = n ∧ t xs σ H Q
theorem pg_tup {es : List Expr} {k : Nat} {t : TGs} {n : Nat} (hc : X.calm = true) (h : PGs X es t)
    (hn : (assignEach es X.env).length = n := by rfl) (hst : (assignEach es X.env).findIdx? (·.1) = none := by rfl) : PG X (.Tuple es k pos) (gTup X.K n t) := by
  intro pins s σ H v u Q I r hw
  obtain ⟨a, xs, e1, hq, hl, hw⟩ := hw
  subst e1
  cases r
  obtain ⟨its, rv, ht, hz⟩ := I.tuple hq
  refine assign_Tuple_tuple (I.ok.hd hc) ht (by simp [hn, ← hl, rv.length]) hst fun h' hx => ?_
  have I1 : Inv X pins σ H { s with heap := h' } := I.kept (t' := s.toks) fun b o e => hx b o (Nat.ne_of_lt (Heap.lt_size e)) e
  exact h pins _ σ H xs _ Q I1 (by simpa using rv) hw
def gSub (to ti : TE) (t : TSet) : TG := fun v σ H Q => to σ H fun o H1 => ti σ H1 fun i H2 => t o i v H2 fun H3 => Q σ H3
theorem pg_sub {o i : Expr} {to ti : TE} {t : TSet} (ho : PE X o to) (hi : PE X i ti) (hs : PSet X t)
    (ha : ∀ v, assign (.Subscript o i pos) X.env v = (do
      let ov ← holding [v] (eval o X.env)
      let iv ← holding [v, ov] (eval i X.env)
      standAt pos
      holding [v, ov, iv] (setItem ov iv v)
      release [v, ov, iv] []) := by intro _; rfl) : PG X (.Subscript o i pos) (gSub to ti t) := by
  intro pins s σ H v u Q I r h
  rw [ha]
  refine wpAny_bind (wpAny_holding (thn (ho pins s σ H _ I h) fun ov s1 ⟨x, H1, I1, r1, q1⟩ => ?_))
  refine wpAny_bind (wpAny_holding (thn (hi pins s1 σ H1 _ I1 q1) fun iv s2 ⟨y, H2, I2, r2, q2⟩ => ?_))
  refine wpAny_bind (wpAny_standAt (wpAny_bind (wpAny_holding (thn (hs pins s2 σ H2 x y v ov iv u _ I2 r1 r2 r q2) fun _ s3 ⟨H3, I3, q3⟩ => ?_))))
  exact wpAny_release ⟨σ, H3, I3, q3⟩
def tAsg (te : TE) (g : TG) : TS := fun D σ H => te σ H fun x H1 => g x σ H1 D.nx
theorem ps_asg {tg e : Expr} {te : TE} {g : TG} (he : PE X e te) (hg : PG X tg g) (hs : swapsWithSole [tg] e pos.line X.env = pure false := by rfl) (hw : swappedStores [tg] e X.env = pure none := by rfl)
    (h1 : (assignEach [tg] X.env).map (·.2) = [assign tg X.env] := by rfl) : PS X (.Assign [tg] e pos) (tAsg te g) := by
  intro pins s σ H D I h
  refine wpAny_Assign_stores (thn (he pins s σ H _ I h) fun v s1 ⟨x, H1, I1, r1, q1⟩ => ?_) hs hw
  rw [h1]
  exact thn (hg pins s1 σ H1 x v _ I1 r1 q1) fun _ s2 q => q
theorem ps_set {i : Nat} {x : Str} {e : Expr} {te : TE} {pos' : Pos} (hN : X.N.Nodup) (hi : X.N[i]? = some x) (hx : Loc X.env.scope x) (he : PE X e te) (hs : swapsWith e (some (.Name x pos')) pos.line X.env = pure false := by rfl) (hf : X.fn x = true ∨ X.env.scope.names.lookup x = some .local := by first | exact .inl rfl | exact .inr rfl | assumption) :
    PS X (.Assign [.Name x pos'] e pos) (tAsg te (gName i)) := by
  intro pins s σ H D I h
  refine wpAny_Assign_Name (thn (he pins s σ H _ I h) fun v s1 ⟨y, H1, I1, r1, q1⟩ => ?_) hs
  exact store_ok I1 hN hi hx r1 (fun s2 I2 => ⟨_, H1, I2, q1⟩) hf
end
section
variable {X : Cx} {pos : Pos}
def tWhile (c : TT) (tb : TS) : TS := fun D σ H => ∃ W : Nat → St → Hp → Prop, (∃ m, W m σ H) ∧ ∀ m σ H, W m σ H →
  c σ H fun b H1 => if b = true then ∃ N : St → Hp → Prop, (∀ σ' H', N σ' H' → ∃ m', m' < m ∧ W m' σ' H') ∧ tb { D with nx := N, ct := N, bk := D.nx } σ H1 else D.nx σ H1
theorem ps_while {c : Expr} {body : List Stmt} {tc : TT} {tb : TS} (hp : PassesOwn (model X.prog X.w) X.A X.env X.xe) (hc : PT X c tc) (hb : PSs X body tb) : PS X (.While c body [] pos) (tWhile tc tb) := by
  intro pins s σ H D I h
  obtain ⟨W, ⟨m0, w0⟩, turn⟩ := h
  refine wpAny_While (codeAny_whileLoop (fun n s' => ∃ σ' H', Inv X pins σ' H' s' ∧ W n σ' H') ?_ m0 ⟨σ, H, I, w0⟩)
  rintro n s1 ⟨σ1, H1, I1, w1⟩
  refine wpAny_passesOwn hp (thn (hc pins s1 σ1 H1 _ I1 (turn n σ1 H1 w1)) fun b s2 ⟨H2, I2, q2⟩ => ?_)
  cases b with
  | true =>
    obtain ⟨N, hN, q2⟩ := q2
    rw [if_pos rfl]
    refine wpAny_passesOwn hp (thn (hb pins s2 σ1 H2 _ I2 q2) fun f s3 q3 => ?_)
    cases f with
    | next =>
      obtain ⟨σ3, H3, I3, n3⟩ := q3
      obtain ⟨m', hm, w3⟩ := hN σ3 H3 n3
      exact ⟨m', hm, σ3, H3, I3, w3⟩
    | cont =>
      obtain ⟨σ3, H3, I3, n3⟩ := q3
      obtain ⟨m', hm, w3⟩ := hN σ3 H3 n3
      exact ⟨m', hm, σ3, H3, I3, w3⟩
    | brk => exact q3
    | ret v => exact q3
  | false =>
    rw [if_neg Bool.false_ne_true]
    exact wpAny_execs_nil ⟨σ1, H2, I2, q2⟩
end
structure It where
  go : Nat → Hp → Prop
  yld : Nat → Hp → V → Hp → Prop
  stop : Nat → Hp → Prop
def FpOk (X : Cx) (pins : List (Addr × Obj)) (H : Hp) (b : Addr) : Prop :=
  H b = none ∧ b ≠ X.env.locals ∧ b ∉ X.fs ∧ (b ∈ X.ex ∨ X.s₀.heap.objs.size ≤ b) ∧ (∀ x c, X.env.cells.lookup x = some c → c ≠ b) ∧ ∀ p ∈ X.pn ++ pins, p.1 ≠ b
theorem Inv.fpOk {X : Cx} {pins : List (Addr × Obj)} {σ : St} {H H' : Hp} {s : Shared} {b : Addr} (I : Inv X pins σ H s) (hb : s.heap.objs.size ≤ b) (hn : H' b = none) : FpOk X pins H' b := by
  refine ⟨hn, Nat.ne_of_gt (Nat.lt_of_lt_of_le I.lt hb), I.nofs hb, .inr (Nat.le_trans I.sz hb), fun x c e z => ?_, fun p hp z => ?_⟩
  · obtain ⟨v, q⟩ := I.cell x c e
    exact absurd (Nat.lt_of_lt_of_le q.lt (by rw [z]; exact hb)) (Nat.lt_irrefl _)
  · exact absurd (Nat.lt_of_lt_of_le (Heap.lt_size (I.pin p hp).1) (by rw [z]; exact hb)) (Nat.lt_irrefl _)
structure Turn (P : Program) (w : World) (K : PySem.W.Frag) (tg : Expr) (J : It) (fp : List Addr) (it : Addr) (tn : Nat → Heap → Prop) : Prop where
  mem : it ∈ fp
  obj : ∀ i h, tn i h → ∀ b ∈ fp, ∃ o, h.get? b = some o ∧ ∀ v, o.data ≠ .cell v
  keep : ∀ i h h', tn i h → (∀ b ∈ fp, ∀ o, h.get? b = some o → h'.get? b = some o) → tn i h'
  item : ∀ (X : Cx), X.prog = P → X.w = w → X.K = K → X.calm = true → ∀ (i : Nat) (pins : List (Addr × Obj)) (s : Shared) (σ : St) (H : Hp) (E : Value → Shared → Prop), Inv X pins σ H s → (∀ b ∈ fp, FpOk X pins H b) → tn i s.heap → J.go i H →
    wpAny (model P w) X.A (pyNext (.ref it)) (fun r s1 => ∃ u, r = some u ∧
      wpAny (model P w) X.A (letOwnedTupleGo tg (.ref it) u) (fun _ s2 => ∃ x H', Inv X pins σ H' s2 ∧ RelV x u ∧ J.yld i H x H' ∧ tn (i + 1) s2.heap ∧ ∀ b ∈ fp, H' b = none) E s1) E s
  done : ∀ (X : Cx), X.prog = P → X.w = w → X.K = K → X.calm = true → ∀ (i : Nat) (pins : List (Addr × Obj)) (s : Shared) (σ : St) (H : Hp) (E : Value → Shared → Prop), Inv X pins σ H s → (∀ b ∈ fp, FpOk X pins H b) → tn i s.heap → J.stop i H →
    wpAny (model P w) X.A (pyNext (.ref it)) (fun r s1 => r = none ∧ Inv X pins σ H s1) E s
  self : ∀ (A : Around) (i : Nat) (s : Shared) (Q : Value → Shared → Prop) (E : Value → Shared → Prop), tn i s.heap → Q (.ref it) s → wpAny (model P w) A (pyIter (.ref it)) Q E s
abbrev TI := St → Hp → (It → Hp → Prop) → Prop
def PIE (X : Cx) (pins : List (Addr × Obj)) (σ : St) (tg : Expr) (R : It → Hp → Prop) (itv : Value) (s2 : Shared) : Prop :=
  ∃ (it : Addr) (fp : List Addr) (tn : Nat → Heap → Prop) (J : It) (H' : Hp), itv = .ref it ∧ Inv X pins σ H' s2 ∧ Turn X.prog X.w X.K tg J fp it tn ∧ tn 0 s2.heap ∧ (∀ b ∈ fp, FpOk X pins H' b) ∧ R J H'
def PI (X : Cx) (tg iter : Expr) (wi : TI) : Prop :=
  ∀ (pins : List (Addr × Obj)) (s : Shared) (σ : St) (H : Hp) (R : It → Hp → Prop), Inv X pins σ H s → wi σ H R →
    wpAny (model X.prog X.w) X.A (eval iter X.env) (fun v s1 => wpAny (model X.prog X.w) X.A (pyIter v) (PIE X pins σ tg R) X.xe s1) X.xe s
theorem go_of {M : Model} {A : Around} {E : Value → Shared → Prop} {s : Shared} {tg : Expr} {it : Addr} {u : Value} {o : Obj} {n : String} {vs : Array Value} {Q : Unit → Shared → Prop} (ho : s.heap.get? it = some o) (hc : o.cls = .type n) (hd : o.data = .fields vs)
    (hn : ["enumerate", "zip", "dict_itemiterator", "dict_reverseitemiterator", "odict_iterator", "itertools.zip_longest", "itertools.pairwise"].contains n = false) (hQ : Q () s) : wpAny M A (letOwnedTupleGo tg (.ref it) u) Q E s := by
  unfold letOwnedTupleGo
  cases tg <;> first
    | exact wpAny_pure hQ
    | (cases u <;> first
        | exact wpAny_pure hQ
        | (refine wpAny_bind (wpAny_load ho ?_)
           rw [hc, hd]
           show wpAny M A (if (["enumerate", "zip", "dict_itemiterator", "dict_reverseitemiterator", "odict_iterator", "itertools.zip_longest", "itertools.pairwise"].contains n && vs[0]? == some (rawInt _)) = true then _ else _) Q E s
           rw [if_neg (by intro h; rw [hn, Bool.false_and] at h; cases h)]
           exact wpAny_pure hQ))
def Itl (K : PySem.W.Frag) (a : Addr) : It :=
  ⟨fun i H => ∃ xs x, SqL K H a xs ∧ xs[i]? = some x, fun i H x H' => H' = H ∧ ∀ xs, SqL K H a xs → xs[i]? = some x, fun i H => ∃ xs, SqL K H a xs ∧ xs.length ≤ i⟩
def Itt (K : PySem.W.Frag) (a : Addr) : It :=
  ⟨fun i H => ∃ xs x, SqT K H a xs ∧ xs[i]? = some x, fun i H x H' => H' = H ∧ ∀ xs, SqT K H a xs → xs[i]? = some x, fun i H => ∃ xs, SqT K H a xs ∧ xs.length ≤ i⟩
def Itr (lo : Int) (n : Nat) : It := ⟨fun i _ => i < n, fun i H x H' => H' = H ∧ x = .int (lo + i), fun i _ => n ≤ i⟩
theorem turn_list {P : Program} {w : World} {K : PySem.W.Frag} {tg : Expr} (a it : Addr) : Turn P w K tg (Itl K a) [it] it (fun i h => h.IsListIter it a i) where
  mem := by simp
  obj := fun i h st b hb => by
    have e : b = it := by simpa using hb
    subst e
    obtain ⟨o, e, c, d⟩ := st
    exact ⟨o, e, fun v z => by rw [d] at z; cases z⟩
  keep := fun i h h' st k => st.at fun o e => k it (by simp) o e
  item := by
    intro X hP hw hK hc i pins s σ H E I hf st hg
    subst hP hw hK
    obtain ⟨xs, x, hq, hx⟩ := hg
    obtain ⟨its, rv, p, hz⟩ := I.list hq
    obtain ⟨u, hu, ru⟩ := rv.get hx
    obtain ⟨f0, f1, f2, f3, f4, f5⟩ := hf it (by simp)
    refine wpAny_pyNext_list_item st p.isList (x := u) (by simpa using hu) fun h' st' sb => ?_
    have I1 : Inv X pins σ H { s with heap := h' } := I.turned (t' := s.toks) (fun b o hb e => (sb.2 b hb).trans e) f0 f1 f3 f4 f5
    obtain ⟨o, e, c, d⟩ := id st'
    exact ⟨u, rfl, go_of (s := { s with heap := h' }) e c d (by decide) ⟨x, H, I1, ru, ⟨rfl, fun ys hy => by rw [I.list_inj hy hq]; exact hx⟩, st', fun b hb => (hf b hb).1⟩⟩
  done := by
    intro X hP hw hK hc i pins s σ H E I hf st hg
    subst hP hw hK
    obtain ⟨xs, hq, hx⟩ := hg
    obtain ⟨its, rv, p, hz⟩ := I.list hq
    obtain ⟨f0, f1, f2, f3, f4, f5⟩ := hf it (by simp)
    have hl := rv.length
    exact wpAny_pyNext_list_end (I.ok.hd hc) st p.isList (by simp; omega) fun h' eb => ⟨rfl, I.turned (t' := s.toks) (fun b o hb e => eb b o hb e) f0 f1 f3 f4 f5⟩
  self := fun _ _ _ _ _ st h => wpAny_pyIter_listiter st h
theorem turn_tuple {P : Program} {w : World} {K : PySem.W.Frag} {tg : Expr} (a it : Addr) : Turn P w K tg (Itt K a) [it] it (fun i h => h.IsTupleIter it a i) where
  mem := by simp
  obj := fun i h st b hb => by
    have e : b = it := by simpa using hb
    subst e
    obtain ⟨o, e, c, d⟩ := st
    exact ⟨o, e, fun v z => by rw [d] at z; cases z⟩
  keep := fun i h h' st k => st.at fun o e => k it (by simp) o e
  item := by
    intro X hP hw hK hc i pins s σ H E I hf st hg
    subst hP hw hK
    obtain ⟨xs, x, hq, hx⟩ := hg
    obtain ⟨its, rv, p, hz⟩ := I.tuple hq
    obtain ⟨u, hu, ru⟩ := rv.get hx
    obtain ⟨f0, f1, f2, f3, f4, f5⟩ := hf it (by simp)
    refine wpAny_pyNext_tuple_item st (show s.heap.IsTuple a its.toArray from p) (x := u) (by simpa using hu) fun h' st' sb => ?_
    have I1 : Inv X pins σ H { s with heap := h' } := I.turned (t' := s.toks) (fun b o hb e => (sb.2 b hb).trans e) f0 f1 f3 f4 f5
    obtain ⟨o, e, c, d⟩ := id st'
    exact ⟨u, rfl, go_of (s := { s with heap := h' }) e c d (by decide) ⟨x, H, I1, ru, ⟨rfl, fun ys hy => by rw [I.tuple_inj hy hq]; exact hx⟩, st', fun b hb => (hf b hb).1⟩⟩
  done := by
    intro X hP hw hK hc i pins s σ H E I hf st hg
    subst hP hw hK
    obtain ⟨xs, hq, hx⟩ := hg
    obtain ⟨its, rv, p, hz⟩ := I.tuple hq
    obtain ⟨f0, f1, f2, f3, f4, f5⟩ := hf it (by simp)
    have hl := rv.length
    exact wpAny_pyNext_tuple_end (I.ok.hd hc) st (show s.heap.IsTuple a its.toArray from p) (by simp; omega) fun h' eb => ⟨rfl, I.turned (t' := s.toks) (fun b o hb e => eb b o hb e) f0 f1 f3 f4 f5⟩
  self := fun _ _ _ _ _ st h => wpAny_pyIter_tupleiter st h
theorem turn_range {P : Program} {w : World} {K : PySem.W.Frag} {tg : Expr} (it : Addr) (lo : Int) (n : Nat) : Turn P w K tg (Itr lo n) [it] it (fun i h => IsRangeIter h it (lo + (i : Nat) * 1) ((n : Int) - (i : Nat)) 1) where
  mem := by simp
  obj := fun i h st b hb => by
    have e : b = it := by simpa using hb
    subst e
    exact ⟨_, st, fun v z => by
      have z' : Data.fields _ = Data.cell v := z
      cases z'⟩
  keep := fun i h h' st k => k it (by simp) _ st
  item := by
    intro X hP hw hK hc i pins s σ H E I hf st hg
    subst hP hw hK
    obtain ⟨f0, f1, f2, f3, f4, f5⟩ := hf it (by simp)
    have W := Walks.range (prog := X.prog) (w := X.w) (I.ok.hd hc) it lo 1 n
    refine W.item i s _ _ hg st fun v h' tk hv st' kk => ?_
    obtain ⟨t, rfl⟩ := hv
    have I1 : Inv X pins σ H { s with heap := h', toks := tk } := I.turned (fun b o hb e => kk b o (by simpa using hb) e) f0 f1 f3 f4 f5
    refine ⟨_, rfl, go_of (s := { s with heap := h', toks := tk }) (n := "range_iterator") st' rfl rfl (by decide) ⟨.int (lo + i), H, I1, ⟨t, ?_⟩, ⟨rfl, rfl⟩, st', fun b hb => (hf b hb).1⟩⟩
    rw [Int.mul_one]
  done := by
    intro X hP hw hK hc i pins s σ H E I hf st hg
    subst hP hw hK
    obtain ⟨f0, f1, f2, f3, f4, f5⟩ := hf it (by simp)
    exact wpAny_pyNext_range_end (I.ok.hd hc) st (by have : n ≤ i := hg; omega) fun h' eb => ⟨rfl, I.turned (t' := s.toks) (fun b o hb e => eb b o hb e) f0 f1 f3 f4 f5⟩
  self := fun _ _ _ _ _ st h => wpAny_pyIter_rangeiter st h
end L2
namespace L2
open PySem PySem.Spec PyProof.Rows
section
variable {X : Cx} {tg : Expr}
def iList (K : PySem.W.Frag) (tl : TE) : TI := fun σ H R => tl σ H fun x H1 => ∃ a, x = .ref a ∧ (∃ xs, SqL K H1 a xs) ∧ R (Itl K a) H1
def iTup (K : PySem.W.Frag) (tl : TE) : TI := fun σ H R => tl σ H fun x H1 => ∃ a, x = .ref a ∧ (∃ xs, SqT K H1 a xs) ∧ R (Itt K a) H1
theorem pi_list {l : Expr} {tl : TE} (hl : PE X l tl) : PI X tg l (iList X.K tl) := by
  intro pins s σ H R I h
  refine thn (hl pins s σ H _ I h) fun v s1 ⟨x, H1, I1, r1, q1⟩ => ?_
  obtain ⟨a, e, ⟨xs, hq⟩, q⟩ := q1
  subst e
  cases r1
  obtain ⟨its, rv, p, hz⟩ := I1.list hq
  refine wpAny_pyIter_list p.isList ?_
  refine ⟨s1.heap.objs.size, [s1.heap.objs.size], _, _, H1, rfl, I1.kept (t' := s1.toks) fun b o e => Heap.get?_push_of_some _ e, turn_list a _, ⟨_, Heap.get?_push_size _ rfl, rfl, rfl⟩, fun b hb => ?_, q⟩
  have e : b = s1.heap.objs.size := by simpa using hb
  subst e
  exact I1.fpOk (Nat.le_refl _) (I1.hok.fresh (Nat.le_refl _))
theorem pi_tup {l : Expr} {tl : TE} (hl : PE X l tl) : PI X tg l (iTup X.K tl) := by
  intro pins s σ H R I h
  refine thn (hl pins s σ H _ I h) fun v s1 ⟨x, H1, I1, r1, q1⟩ => ?_
  obtain ⟨a, e, ⟨xs, hq⟩, q⟩ := q1
  subst e
  cases r1
  obtain ⟨its, rv, p, hz⟩ := I1.tuple hq
  refine wpAny_pyIter_tuple (show s1.heap.IsTuple a its.toArray from p) ?_
  refine ⟨s1.heap.objs.size, [s1.heap.objs.size], _, _, H1, rfl, I1.kept (t' := s1.toks) fun b o e => Heap.get?_push_of_some _ e, turn_tuple a _, ⟨_, Heap.get?_push_size _ rfl, rfl, rfl⟩, fun b hb => ?_, q⟩
  have e : b = s1.heap.objs.size := by simpa using hb
  subst e
  exact I1.fpOk (Nat.le_refl _) (I1.hok.fresh (Nat.le_refl _))
theorem range_it {pins : List (Addr × Obj)} {σ : St} {H : Hp} {s : Shared} {R : It → Hp → Prop} {E : Value → Shared → Prop} {lo hi : Int} {t u v : Tok} {tk : Nat} (I : Inv X pins σ H s) (h1 : -(2 ^ 62) ≤ lo) (h2 : lo < 2 ^ 62) (h3 : -(2 ^ 62) ≤ hi) (h4 : hi < 2 ^ 62)
    (q : R (Itr lo (hi - lo).toNat) H) : wpAny (model X.prog X.w) X.A (pyIter (.ref s.heap.objs.size)) (PIE X pins σ tg R) E { s with heap := s.heap.push { cls := .type "range", data := .fields #[.int lo t, .int hi u, .int 1 v] }, toks := tk } := by
  refine wpAny_pyIter_range (IsRange.new ..) (small_one h1 h2 h3 h4) ?_
  have I1 : Inv X pins σ H { s with heap := s.heap.push { cls := .type "range", data := .fields #[.int lo t, .int hi u, .int 1 v] }, toks := tk } := I.kept fun b o e => Heap.get?_push_of_some _ e
  refine ⟨(s.heap.push { cls := .type "range", data := .fields #[.int lo t, .int hi u, .int 1 v] }).objs.size, [(s.heap.push { cls := .type "range", data := .fields #[.int lo t, .int hi u, .int 1 v] }).objs.size], _, _, H, rfl,
    I1.kept (t' := tk) fun b o e => Heap.get?_push_of_some _ e, turn_range _ lo (hi - lo).toNat, ?_, fun b hb => ?_, q⟩
  · have e1 : lo + ((0 : Nat) : Int) * 1 = lo := by simp
    have e2 : (((hi - lo).toNat : Nat) : Int) - ((0 : Nat) : Int) = Builtin.Range.rangeSize lo hi 1 := by rw [rangeSize_one]; split <;> omega
    show IsRangeIter _ _ (lo + ((0 : Nat) : Int) * 1) ((((hi - lo).toNat : Nat) : Int) - ((0 : Nat) : Int)) 1
    rw [e1, e2]
    exact Heap.get?_push_size _ rfl
  · have e : b = (s.heap.push { cls := .type "range", data := .fields #[.int lo t, .int hi u, .int 1 v] }).objs.size := by simpa using hb
    subst e
    exact I1.fpOk (Nat.le_refl _) (I1.hok.fresh (Nat.le_refl _))
def iRng1 (ta : TA) : TI := fun σ H R => ta σ H fun vs H1 => ∃ j : Int, vs = [.int j] ∧ -(2 ^ 62) ≤ j ∧ j < 2 ^ 62 ∧ R (Itr 0 j.toNat) H1
theorem pi_range1 {a : Expr} {ta : TA} {p pos : Pos} (hg : Gl X "range") (hm : X.mg "range" = none) (ha : PA X [a] ta) (hs : starEach [a] X.env = [(false, eval a X.env)] := by rfl) : PI X tg (.Call (.Name "range" p) [a] [] pos) (iRng1 ta) := by
  intro pins s σ H R I h
  refine Call_ (ld_blt I hg hm boot_range (PyProof.Rows.callWith_type1 (thn (ha pos pins s σ H _ I h) fun us s1 ⟨vs, H1, I1, r1, q1⟩ => ?_) hs rfl))
  obtain ⟨j, e, q1, q2, q⟩ := q1
  subst e
  cases r1 with
  | cons r rr =>
    cases rr
    obtain ⟨t, rfl⟩ := r
    exact call_range_1 (range_it I1 (by omega) (by omega) q1 q2 (by simpa using q))
def tFor (wi : TI) (g : TG) (tb : TS) : TS := fun D σ H => wi σ H fun J H1 => ∃ W : Nat → Nat → St → Hp → Prop, (∃ m, W 0 m σ H1) ∧ ∀ i m σ H, W i m σ H →
  (J.stop i H ∧ D.nx σ H) ∨ (J.go i H ∧ ∃ N : St → Hp → Prop, (∀ σ' H', N σ' H' → ∃ m', m' < m ∧ W (i + 1) m' σ' H') ∧ ∀ x H', J.yld i H x H' → g x σ H' fun σ2 H2 => tb { D with nx := N, ct := N, bk := D.nx } σ2 H2)
def pinsAt (fp : List Addr) (h : Heap) : List (Addr × Obj) := fp.filterMap fun b => (h.get? b).map fun o => (b, o)
theorem mem_pinsAt {fp : List Addr} {h : Heap} {b : Addr} {o : Obj} (hb : b ∈ fp) (e : h.get? b = some o) : (b, o) ∈ pinsAt fp h := List.mem_filterMap.mpr ⟨b, hb, by rw [e]; rfl⟩
theorem of_pinsAt {fp : List Addr} {h : Heap} {p : Addr × Obj} (hp : p ∈ pinsAt fp h) : p.1 ∈ fp ∧ h.get? p.1 = some p.2 := by
  obtain ⟨b, hb, e⟩ := List.mem_filterMap.mp hp
  cases q : h.get? b with
  | none => rw [q] at e; cases e
  | some o =>
    rw [q] at e
    have e' : (b, o) = p := Option.some.inj e
    subst e'
    exact ⟨hb, q⟩
theorem Inv.pinned {pins : List (Addr × Obj)} {σ : St} {H : Hp} {s : Shared} {fp : List Addr} (I : Inv X pins σ H s) (hf : ∀ b ∈ fp, FpOk X pins H b) (ho : ∀ b ∈ fp, ∃ o, s.heap.get? b = some o ∧ ∀ v, o.data ≠ .cell v) : Inv X (pins ++ pinsAt fp s.heap) σ H s :=
  I.pins_of fun p hp => (List.mem_append.mp hp).elim (fun z => I.pin p (List.mem_append_right _ z)) fun z => by
    obtain ⟨hb, e⟩ := of_pinsAt z
    obtain ⟨f0, f1, f2, _⟩ := hf p.1 hb
    obtain ⟨o, e', d⟩ := ho p.1 hb
    rw [e] at e'; cases e'
    exact ⟨e, f0, f1, f2, d⟩
theorem Inv.unpinned {pins pl : List (Addr × Obj)} {σ : St} {H : Hp} {s : Shared} (I : Inv X (pins ++ pl) σ H s) : Inv X pins σ H s := I.pins_of fun p hp => I.pin p (List.mem_append_right _ (List.mem_append_left _ hp))
theorem ps_for {iter : Expr} {body : List Stmt} {wi : TI} {g : TG} {tb : TS} {pos : Pos} (hp : PassesOwn (model X.prog X.w) X.A X.env X.xe) (hc : X.calm = true) (hi : PI X tg iter wi) (hg : PG X tg g) (hb : PSs X body tb)
    (hs : ∀ x, foldedSetIterable iter X.env x = pure x := by intro _; rfl) : PS X (.For tg iter body [] pos) (tFor wi g tb) := by
  intro pins s σ H D I h
  refine wpAny_For (thn (hi pins s σ H _ I h) fun v s1 h1 => thn h1 fun itv s2 h2 => ?_) hs
  obtain ⟨it, fp, tn, J, H2, e, I2, T, st2, f2, W, ⟨m0, w0⟩, turn⟩ := h2
  subst e
  have stat : ∀ {H' : Hp}, (∀ b ∈ fp, H' b = none) → ∀ b ∈ fp, FpOk X pins H' b := fun hn b hb => ⟨hn b hb, (f2 b hb).2⟩
  refine codeAny_forLoop_any (fun n s' => ∃ i σ' H', Inv X pins σ' H' s' ∧ tn i s'.heap ∧ (∀ b ∈ fp, H' b = none) ∧ W i n σ' H') ?_ m0 ⟨0, σ, H2, I2, st2, fun b hb => (f2 b hb).1, w0⟩
  rintro n s3 ⟨i, σ3, H3, I3, st3, fr3, w3⟩
  rcases turn i n σ3 H3 w3 with ⟨stop, qn⟩ | ⟨go, N, hN, step⟩
  · refine wpAny_passesOwn hp (thn (T.done X rfl rfl rfl hc i pins s3 σ3 H3 X.xe I3 (stat fr3) st3 stop) fun r s4 ⟨hr, I4⟩ => ?_)
    subst hr
    exact wpAny_execs_nil ⟨σ3, H3, I4, qn⟩
  · refine wpAny_passesOwn hp (thn (T.item X rfl rfl rfl hc i pins s3 σ3 H3 X.xe I3 (stat fr3) st3 go) fun r s4 ⟨u, hr, h4⟩ => ?_)
    subst hr
    refine wpAny_passesOwn hp (thn h4 fun _ s5 ⟨x, H5, I5, r5, y5, st5, fr5⟩ => ?_)
    have I5' := I5.pinned (stat fr5) (T.obj _ _ st5)
    refine wpAny_passesOwn hp (thn (hg _ s5 σ3 H5 x u _ I5' r5 (step x H5 y5)) fun _ s6 ⟨σ6, H6, I6, q6⟩ => ?_)
    refine wpAny_passesOwn hp (thn (hb _ s6 σ6 H6 _ I6 q6) fun f s7 q7 => ?_)
    have again : ∀ {σ7 : St} {H7 : Hp}, Inv X (pins ++ pinsAt fp s5.heap) σ7 H7 s7 → N σ7 H7 → ∃ m, m < n ∧ ∃ i σ' H', Inv X pins σ' H' s7 ∧ tn i s7.heap ∧ (∀ b ∈ fp, H' b = none) ∧ W i m σ' H' := fun {σ7 H7} I7 n7 => by
      obtain ⟨m', hm, w7⟩ := hN σ7 H7 n7
      refine ⟨m', hm, i + 1, σ7, H7, I7.unpinned, T.keep _ _ _ st5 fun b hb o e => (I7.pin (b, o) (List.mem_append_right _ (List.mem_append_right _ (mem_pinsAt hb e)))).1, fun b hb => ?_, w7⟩
      obtain ⟨o, e, d⟩ := T.obj _ _ st5 b hb
      exact (I7.pin (b, o) (List.mem_append_right _ (List.mem_append_right _ (mem_pinsAt hb e)))).2.1
    cases f with
    | next => obtain ⟨σ7, H7, I7, n7⟩ := q7; exact again I7 n7
    | cont => obtain ⟨σ7, H7, I7, n7⟩ := q7; exact again I7 n7
    | brk => obtain ⟨σ7, H7, I7, q7⟩ := q7; exact ⟨σ7, H7, I7.unpinned, q7⟩
    | ret v => obtain ⟨x7, σ7, H7, I7, r7, q7⟩ := q7; exact ⟨x7, σ7, H7, I7.unpinned, r7, q7⟩
end
end L2
namespace L2
open PySem PySem.Spec PyProof.Rows
abbrev R2 := V → V → Hp → VK → Prop
def OpR (X : Cx) (f : Value → Value → Sem Value) (r : R2) : Prop :=
  ∀ (pins : List (Addr × Obj)) (s : Shared) (σ : St) (H : Hp) (x y : V) (v u : Value) (Q : VK), Inv X pins σ H s → RelV x v → RelV y u → r x y H Q →
    wpAny (model X.prog X.w) X.A (f v u) (EP X pins σ Q) X.xe s
def CallR (X : Cx) (f : Value) (r : List V → Hp → VK → Prop) : Prop :=
  ∀ (pins : List (Addr × Obj)) (s : Shared) (σ : St) (H : Hp) (xs : List V) (us : List Value) (Q : VK), Inv X pins σ H s → Vals xs us → r xs H Q →
    wpAny (model X.prog X.w) X.A (call f us) (EP X pins σ Q) X.xe s
def tOp (r : R2) (ta tb : TE) : TE := fun σ H Q => ta σ H fun x H1 => tb σ H1 fun y H2 => r x y H2 Q
def rI (C : Int → Int → Prop) (g : Int → Int → V) : R2 := fun x y H Q => ∃ i j, x = .int i ∧ y = .int j ∧ C i j ∧ Q (g i j) H
def rI0 (g : Int → Int → V) : R2 := fun x y H Q => ∃ i j, x = .int i ∧ y = .int j ∧ Q (g i j) H
section
variable {X : Cx} {a b c : Expr} {ta tb tc : TE} {pos : Pos}
theorem binT (ha : PE X a ta) (hb : PE X b tb) {pins : List (Addr × Obj)} {s : Shared} {σ : St} {H : Hp} {R : V → V → Hp → Prop} (I : Inv X pins σ H s)
    (h : ta σ H fun x H1 => tb σ H1 fun y H2 => R x y H2) {Q : Value → Shared → Prop} {f : Value → Value → Sem Value}
    (hf : ∀ v u s2 x y H2, Inv X pins σ H2 s2 → RelV x v → RelV y u → R x y H2 → wpAny (model X.prog X.w) X.A (f v u) Q X.xe s2) :
    wpAny (model X.prog X.w) X.A (eval a X.env) (fun v s₁ => wpAny (model X.prog X.w) X.A (eval b X.env) (fun u s₂ => wpAny (model X.prog X.w) X.A (f v u) Q X.xe s₂) X.xe s₁) X.xe s := by
  refine thn (ha pins s σ H _ I h) fun v s1 ⟨x, H1, I1, r1, q1⟩ => ?_
  refine thn (hb pins s1 σ H1 _ I1 q1) fun u s2 ⟨y, H2, I2, r2, q2⟩ => ?_
  exact hf v u s2 x y H2 I2 r1 r2 q2
theorem pe_op {op : Operator} {r : R2} (ho : OpR X (binaryOp op) r) (ha : PE X a ta) (hb : PE X b tb) : PE X (.BinOp a op b pos) (tOp r ta tb) := by
  intro pins s σ H Q I h
  exact wpAny_BinOp (binT ha hb I h fun v u s2 x y H2 I2 rx ry q => ho pins s2 σ H2 x y v u Q I2 rx ry q)
theorem opI {f : Value → Value → Sem Value} {C : Int → Int → Prop} {g : Int → Int → Int}
    (rule : ∀ (i j : Int) (t u : Tok) (s : Shared) (Q : Value → Shared → Prop) (E : Value → Shared → Prop), C i j → Q (.int (g i j) s.toks) { s with toks := s.toks + 1 } → wpAny (model X.prog X.w) X.A (f (.int i t) (.int j u)) Q E s) :
    OpR X f (rI C fun i j => .int (g i j)) := by
  intro pins s σ H x y v u Q I rx ry h
  obtain ⟨i, j, rfl, rfl, hc, q⟩ := h
  obtain ⟨t, rfl⟩ := rx
  obtain ⟨t', rfl⟩ := ry
  exact rule i j t t' s _ _ hc ⟨.int (g i j), H, I.tok _, ⟨_, rfl⟩, q⟩
theorem opI0 {f : Value → Value → Sem Value} {g : Int → Int → Int}
    (rule : ∀ (i j : Int) (t u : Tok) (s : Shared) (Q : Value → Shared → Prop) (E : Value → Shared → Prop), Q (.int (g i j) s.toks) { s with toks := s.toks + 1 } → wpAny (model X.prog X.w) X.A (f (.int i t) (.int j u)) Q E s) :
    OpR X f (rI0 fun i j => .int (g i j)) := by
  intro pins s σ H x y v u Q I rx ry h
  obtain ⟨i, j, rfl, rfl, q⟩ := h
  obtain ⟨t, rfl⟩ := rx
  obtain ⟨t', rfl⟩ := ry
  exact rule i j t t' s _ _ ⟨.int (g i j), H, I.tok _, ⟨_, rfl⟩, q⟩
theorem opB0 {f : Value → Value → Sem Value} {g : Int → Int → Bool}
    (rule : ∀ (i j : Int) (t u : Tok) (s : Shared) (Q : Value → Shared → Prop) (E : Value → Shared → Prop), Q (.bool (g i j)) s → wpAny (model X.prog X.w) X.A (f (.int i t) (.int j u)) Q E s) :
    OpR X f (rI0 fun i j => .bl (g i j)) := by
  intro pins s σ H x y v u Q I rx ry h
  obtain ⟨i, j, rfl, rfl, q⟩ := h
  obtain ⟨t, rfl⟩ := rx
  obtain ⟨t', rfl⟩ := ry
  exact rule i j t t' s _ _ ⟨.bl (g i j), H, I, rfl, q⟩
def CPow (i j : Int) : Prop := 0 ≤ j ∧ j ≤ 1000000 ∧ i.natAbs < 2 ^ 64
def CMul (i j : Int) : Prop := (-(2 ^ 64) < i ∧ i < 2 ^ 64) ∨ (-(2 ^ 64) < j ∧ j < 2 ^ 64)
theorem CMul.ok {i j : Int} (h : CMul i j) : IntMulOk i j := by
  rcases h with ⟨h1, h2⟩ | ⟨h1, h2⟩
  · exact .of_left (intBits_le_64 h1 h2)
  · exact .of_right (intBits_le_64 h1 h2)
theorem op_add : OpR X (binaryOp .Add) (rI0 fun i j => .int (i + j)) := opI0 fun _ _ _ _ _ _ _ q => add_int q
theorem op_sub : OpR X (binaryOp .Sub) (rI0 fun i j => .int (i - j)) := opI0 fun _ _ _ _ _ _ _ q => sub_int q
theorem op_mul : OpR X (binaryOp .Mult) (rI CMul fun i j => .int (i * j)) := opI fun _ _ _ _ _ _ _ hc q => mul_int q hc.ok
theorem op_mod : OpR X (binaryOp .Mod) (rI (fun _ j => 0 < j) fun i j => .int (i % j)) := opI fun i j _ _ _ _ _ hc q => by
  have h1 : (0 : Int) < j := hc
  exact mod_int' (by omega) (by rw [Int.fmod_eq_emod_of_nonneg i (by omega)]; exact q)
theorem op_pow : OpR X (binaryOp .Pow) (rI CPow fun i j => .int (i ^ j.toNat)) := opI fun _ _ _ _ _ _ _ hc q => pow_int_small hc.1 hc.2.1 hc.2.2 q
end
def scal : V → V → Bool
  | .non, .non => true | .non, .int _ => true | .int _, .non => true | .non, .bl _ => true | .bl _, .non => true | .non, .str _ => true | .str _, .non => true
  | .int _, .int _ => true | .bl _, .bl _ => true | .str _, .str _ => true | .byt _, .byt _ => true
  | .int _, .str _ => true | .str _, .int _ => true | .bl _, .str _ => true | .str _, .bl _ => true
  | _, _ => false
def rEq : R2 := fun x y H Q => scal x y = true ∧ Q (.bl (decide (x = y))) H
def rNe : R2 := fun x y H Q => scal x y = true ∧ Q (.bl (!decide (x = y))) H
theorem dec_int {i j : Int} : decide (V.int i = V.int j) = (i == j) := by
  rw [Bool.eq_iff_iff]
  simp
theorem dec_bl {i j : Bool} : decide (V.bl i = V.bl j) = (i == j) := by
  rw [Bool.eq_iff_iff]
  simp
theorem dec_str {i j : Str} : decide (V.str i = V.str j) = (i == j) := by
  rw [Bool.eq_iff_iff]
  simp
theorem dec_byt {i j : Array UInt8} : decide (V.byt i = V.byt j) = (i.toList == j.toList) := by
  rw [Bool.eq_iff_iff]
  cases i
  cases j
  simp
section
variable {X : Cx} {a b c : Expr} {ta tb tc : TE} {pos : Pos}
theorem fin_bl {pins : List (Addr × Obj)} {σ : St} {H : Hp} {s : Shared} {Q : VK} {k k' : Bool} (I : Inv X pins σ H s) (q : Q (.bl k) H) (e : k = k') : EP X pins σ Q (.bool k') s := by
  subst e
  exact ⟨.bl k, H, I, rfl, q⟩
theorem op_eq : OpR X (compareOp .Eq) rEq := by
  intro pins s σ H x y v u Q I rx ry h
  obtain ⟨hs, q⟩ := h
  cases x with
  | non =>
    cases rx
    cases y with
    | non => cases ry; exact PySem.EqNone.eq_none_none (fin_bl I q (by simp))
    | bl j => cases ry; exact PySem.EqNone.eq_none_bool (fin_bl I q (by simp))
    | int j => obtain ⟨t', rfl⟩ := ry; exact PySem.EqNone.eq_none_int (fin_bl I q (by simp))
    | str j => obtain ⟨t', rfl⟩ := ry; exact PySem.EqNone.eq_none_str (fin_bl I q (by simp))
    | _ => exact absurd (show false = true from hs) Bool.false_ne_true
  | bl i =>
    cases rx
    cases y with
    | non => cases ry; exact PySem.EqNone.eq_bool_none (fin_bl I q (by simp))
    | bl j => cases ry; exact eq_bool (fin_bl I q dec_bl)
    | str j => obtain ⟨t', rfl⟩ := ry; exact PySem.EqMixed.eq_bool_str (fin_bl I q (by simp))
    | _ => exact absurd (show false = true from hs) Bool.false_ne_true
  | int i =>
    obtain ⟨t, rfl⟩ := rx
    cases y with
    | non => cases ry; exact PySem.EqNone.eq_int_none (fin_bl I q (by simp))
    | int j => obtain ⟨t', rfl⟩ := ry; exact eq_int (fin_bl I q dec_int)
    | str j => obtain ⟨t', rfl⟩ := ry; exact PySem.EqMixed.eq_int_str (fin_bl I q (by simp))
    | _ => exact absurd (show false = true from hs) Bool.false_ne_true
  | str i =>
    obtain ⟨t, rfl⟩ := rx
    cases y with
    | non => cases ry; exact PySem.EqNone.eq_str_none (fin_bl I q (by simp))
    | bl j => cases ry; exact PySem.EqMixed.eq_str_bool (fin_bl I q (by simp))
    | int j => obtain ⟨t', rfl⟩ := ry; exact PySem.EqMixed.eq_str_int (fin_bl I q (by simp))
    | str j => obtain ⟨t', rfl⟩ := ry; exact eq_str (fin_bl I q dec_str)
    | _ => exact absurd (show false = true from hs) Bool.false_ne_true
  | byt i =>
    obtain ⟨t, rfl⟩ := rx
    cases y with
    | byt j => obtain ⟨t', rfl⟩ := ry; exact PySem.W.eq_bytes (fin_bl I q dec_byt)
    | _ => exact absurd (show false = true from hs) Bool.false_ne_true
  | _ => cases y <;> exact absurd (show false = true from hs) Bool.false_ne_true
theorem op_ne : OpR X (compareOp .NotEq) rNe := by
  intro pins s σ H x y v u Q I rx ry h
  obtain ⟨hs, q⟩ := h
  cases x with
  | non =>
    cases rx
    cases y with
    | non => cases ry; exact PySem.EqNone.ne_none_none (fin_bl I q (by simp))
    | bl j => cases ry; exact PySem.EqNone.ne_none_bool (fin_bl I q (by simp))
    | int j => obtain ⟨t', rfl⟩ := ry; exact PySem.EqNone.ne_none_int (fin_bl I q (by simp))
    | str j => obtain ⟨t', rfl⟩ := ry; exact PySem.EqNone.ne_none_str (fin_bl I q (by simp))
    | _ => exact absurd (show false = true from hs) Bool.false_ne_true
  | bl i =>
    cases rx
    cases y with
    | non => cases ry; exact PySem.EqNone.ne_bool_none (fin_bl I q (by simp))
    | bl j => cases ry; exact ne_bool (fin_bl I q (congrArg not dec_bl))
    | str j => obtain ⟨t', rfl⟩ := ry; exact PySem.EqMixed.ne_bool_str (fin_bl I q (by simp))
    | _ => exact absurd (show false = true from hs) Bool.false_ne_true
  | int i =>
    obtain ⟨t, rfl⟩ := rx
    cases y with
    | non => cases ry; exact PySem.EqNone.ne_int_none (fin_bl I q (by simp))
    | int j => obtain ⟨t', rfl⟩ := ry; exact ne_int (fin_bl I q (congrArg not dec_int))
    | str j => obtain ⟨t', rfl⟩ := ry; exact PySem.EqMixed.ne_int_str (fin_bl I q (by simp))
    | _ => exact absurd (show false = true from hs) Bool.false_ne_true
  | str i =>
    obtain ⟨t, rfl⟩ := rx
    cases y with
    | non => cases ry; exact PySem.EqNone.ne_str_none (fin_bl I q (by simp))
    | bl j => cases ry; exact PySem.EqMixed.ne_str_bool (fin_bl I q (by simp))
    | int j => obtain ⟨t', rfl⟩ := ry; exact PySem.EqMixed.ne_str_int (fin_bl I q (by simp))
    | str j => obtain ⟨t', rfl⟩ := ry; exact ne_str (fin_bl I q (congrArg not dec_str))
    | _ => exact absurd (show false = true from hs) Bool.false_ne_true
  | byt i =>
    obtain ⟨t, rfl⟩ := rx
    cases y with
    | byt j => obtain ⟨t', rfl⟩ := ry; exact PySem.W.ne_bytes (fin_bl I q (congrArg not dec_byt))
    | _ => exact absurd (show false = true from hs) Bool.false_ne_true
  | _ => cases y <;> exact absurd (show false = true from hs) Bool.false_ne_true
theorem op_lt : OpR X (compareOp .Lt) (rI0 fun i j => .bl (decide (i < j))) := opB0 fun _ _ _ _ _ _ _ q => lt_int q
theorem op_gt : OpR X (compareOp .Gt) (rI0 fun i j => .bl (decide (j < i))) := opB0 fun _ _ _ _ _ _ _ q => gt_int q
theorem op_ge : OpR X (compareOp .GtE) (rI0 fun i j => .bl (decide (j ≤ i))) := opB0 fun _ _ _ _ _ _ _ q => ge_int q
theorem op_isN : OpR X (compareOp .Is) (fun x y H Q => y = .non ∧ Q (.bl (decide (x = .non))) H) := by
  intro pins s σ H x y v u Q I rx ry h
  obtain ⟨rfl, q⟩ := h
  cases ry
  refine is_none_gen (fin_bl I q ?_)
  cases x <;> first
    | (cases rx; rfl)
    | (obtain ⟨t, rfl⟩ := rx; rfl)
theorem op_notN : OpR X (compareOp .IsNot) (fun x y H Q => y = .non ∧ Q (.bl (!decide (x = .non))) H) := by
  intro pins s σ H x y v u Q I rx ry h
  obtain ⟨rfl, q⟩ := h
  cases ry
  refine isnot_none_gen (fin_bl I q ?_)
  cases x <;> first
    | (cases rx; rfl)
    | (obtain ⟨t, rfl⟩ := rx; rfl)
theorem OpR.or {f : Value → Value → Sem Value} {r r' : R2} (h : OpR X f r) (h' : OpR X f r') : OpR X f (fun x y H Q => r x y H Q ∨ r' x y H Q) := by
  intro pins s σ H x y v u Q I rx ry q
  rcases q with q | q
  · exact h pins s σ H x y v u Q I rx ry q
  · exact h' pins s σ H x y v u Q I rx ry q
theorem nomark (b : Expr) {op : CmpOp} (h : op ≠ .In := by decide) (h2 : op ≠ .NotIn := by decide) : behindInMarks op b = false := by
  have e1 : (op == CmpOp.In) = false := by cases op <;> first | rfl | exact absurd rfl h
  have e2 : (op == CmpOp.NotIn) = false := by cases op <;> first | rfl | exact absurd rfl h2
  cases b <;> simp [behindInMarks, e1, e2]
theorem pe_cmpR {op : CmpOp} {r : R2} (ho : OpR X (compareOp op) r) (ha : PE X a ta) (hb : PE X b tb) (hm : behindInMarks op b = false) : PE X (.Compare a [op] [b] pos) (tOp r ta tb) := by
  intro pins s σ H Q I h
  exact wpAny_Compare1 (binT ha hb I h fun v u s2 x y H2 I2 rx ry q => ho pins s2 σ H2 x y v u Q I2 rx ry q) hm
def tTest (t : TE) : TT := fun σ H Q => t σ H fun x H' => ∃ k, x = .bl k ∧ Q k H'
theorem pt_cmpR {op : CmpOp} {r : R2} (ho : OpR X (compareOp op) r) (ha : PE X a ta) (hb : PE X b tb) (hm : behindInMarks op b = false) : PT X (.Compare a [op] [b] pos) (tTest (tOp r ta tb)) := by
  intro pins s σ H Q I h
  refine wpAny_isTrue_Compare1 (thn (ha pins s σ H _ I h) fun v s1 ⟨x, H1, I1, r1, q1⟩ => thn (hb pins s1 σ H1 _ I1 q1) fun u s2 ⟨y, H2, I2, r2, q2⟩ =>
    thn (ho pins s2 σ H2 x y v u _ I2 r1 r2 q2) fun c s3 ⟨z, H3, I3, r3, k, e, q3⟩ => ?_) hm
  subst e
  cases r3
  exact wpAny_truthy_bool ⟨H3, I3, q3⟩
theorem line63 : (sizeLine : Nat) < 2 ^ 63 := by rw [sizeLine_eq]; decide
theorem op_add_str : OpR X (binaryOp .Add) (fun x y H Q => ∃ i j, x = .str i ∧ y = .str j ∧ i.length + j.length ≤ sizeLine ∧ Q (.str (i ++ j)) H) := by
  intro pins s σ H x y v u Q I rx ry h
  obtain ⟨i, j, rfl, rfl, hz, q⟩ := h
  obtain ⟨t, rfl⟩ := rx
  obtain ⟨t', rfl⟩ := ry
  exact add_str (fun t' tk => ⟨.str (i ++ j), H, I.tok _, ⟨_, rfl⟩, q⟩) hz
theorem vals1 {x : V} {us : List Value} (r : Vals [x] us) : ∃ u, us = [u] ∧ RelV x u := by
  cases r with
  | cons r1 r2 => cases r2; exact ⟨_, rfl, r1⟩
theorem vals2 {x y : V} {us : List Value} (r : Vals [x, y] us) : ∃ u w', us = [u, w'] ∧ RelV x u ∧ RelV y w' := by
  cases r with
  | cons r1 r2 =>
    cases r2 with
    | cons r3 r4 => cases r4; exact ⟨_, _, rfl, r1, r3⟩
theorem call_min2 (hc : X.calm = true) : CallR X (.builtin "min") (fun xs H Q => ∃ i j, xs = [.int i, .int j] ∧ Q (.int (if j < i then j else i)) H) := by
  intro pins s σ H xs us Q I r h
  obtain ⟨i, j, rfl, q⟩ := h
  obtain ⟨u, w', rfl, ⟨t, rfl⟩, ⟨t', rfl⟩⟩ := vals2 r
  refine min_two_ints (I.ok.hd hc) fun h' tk k => ⟨_, H, I.kept k, ?_, q⟩
  by_cases hj : j < i
  · rw [if_pos hj, if_pos hj]; exact ⟨_, rfl⟩
  · rw [if_neg hj, if_neg hj]; exact ⟨_, rfl⟩
theorem call_int1 : CallR X (.type "int") (fun xs H Q => (∃ i, xs = [.int i] ∧ Q (.int i) H) ∨ ∃ k, xs = [.bl k] ∧ Q (.int (if k then 1 else 0)) H) := by
  intro pins s σ H xs us Q I r h
  rcases h with ⟨i, rfl, q⟩ | ⟨k, rfl, q⟩
  · obtain ⟨u, rfl, t, rfl⟩ := vals1 r
    exact call_int_int ⟨.int i, H, I, ⟨_, rfl⟩, q⟩
  · obtain ⟨u, rfl, r1⟩ := vals1 r
    cases r1
    exact call_int_bool ⟨.int (if k then 1 else 0), H, I.tok _, ⟨_, rfl⟩, q⟩
end
end L2
namespace L2
open PySem PySem.Spec PyProof.Rows
structure ObjM (h : Heap) (x dx C : Addr) (mA : Str → Option Value) : Prop where
  obj : h.get? x = some (PySem.W.instObj C dx)
  ns : h.Ns1 dx mA
  ne : dx ≠ x
theorem lookIn_ns {h : Heap} {dx : Addr} {mA : Str → Option Value} (n : h.Ns1 dx mA) : ∃ od, h.get? dx = some od ∧ ∀ name, PySem.W.lookIn name od = some (mA name) := by
  obtain ⟨o, es, ep, ho, hd, hk, _, hm⟩ := n
  refine ⟨o, ho, fun name => ?_⟩
  have e := hm name
  unfold nsFind findBy at e
  rw [← Array.find?_toList] at e
  unfold PySem.W.lookIn
  rw [hd]
  dsimp only
  split
  · rename_i y q
    rw [q] at e
    exact congrArg some e
  · rename_i q
    rw [q] at e
    have a : es.toList.any (·.refKey) = false := by
      rw [List.any_eq_false]
      intro y hy
      obtain ⟨z, t, hkey⟩ := hk y (Array.mem_toList_iff.mp hy)
      simp [DictEntry.refKey, hkey]
    have a' : ¬ es.toList.any (·.refKey) = true := by rw [a]; exact Bool.false_ne_true
    rw [if_neg a']
    exact congrArg some e
theorem ObjM.look {h : Heap} {x dx C : Addr} {mA : Str → Option Value} (I : ObjM h x dx C mA) : ∃ od, PySem.W.InstAt h x (PySem.W.instObj C dx) C (some od) ∧ ∀ name, PySem.W.lookIn name od = some (mA name) :=
  let ⟨od, ho, hl⟩ := lookIn_ns I.ns
  ⟨od, ⟨I.obj, rfl, rfl, ho⟩, hl⟩
section
variable {prog : Program} {w : World} {A : Around} {E : Value → Shared → Prop} {s : Shared} {K : PySem.W.Frag} {x dx C f : Addr} {mA : Str → Option Value} {name : Str} {v : Value}
theorem get_map {expr : Bool} {Q : Value → Shared → Prop} (X : K.In s.heap) (I : ObjM s.heap x dx C mA) (hg : PySem.W.plainGet K C name = true) (hh : PySem.W.hasDictIn K C = true)
    (ha : PySem.W.findIn K (.ref C) name = some none) (hv : mA name = some v) (hv' : PySem.W.handedIn v = true) (h : Q v { s with toks := s.toks + 1 }) :
    wpAny (model prog w) A (getAttr (.ref x) name expr) Q E s := by
  obtain ⟨od, J, hl⟩ := I.look
  exact PySem.W.get_value X J (PySem.W.plainGet_of hg).1 (PySem.W.findObj_own hh ha rfl (by rw [hl, hv])) hv' h
theorem get_meth {pl : Sem Bool} {Q : Value × List Value → Shared → Prop} (X : K.In s.heap) (I : ObjM s.heap x dx C mA) (hg : PySem.W.plainGet K C name = true)
    (hf : PySem.W.findIn K (.ref C) name = some (some (.ref f))) (ht : PySem.W.isFn K (.ref f) = true) (hv : mA name = none) (h : Q (.ref f, [.ref x]) s) :
    wpAny (model prog w) A (getMethod (.ref x) name pl) Q E s := by
  obtain ⟨od, J, hl⟩ := I.look
  exact PySem.W.method_fn X J (PySem.W.plainGet_of hg).1 (PySem.W.plainGet_of hg).2 hf (beq_iff_eq.mp ht) (by show (PySem.W.lookIn name od).map (·.isSome) = some false; rw [hl, hv]; rfl) h
theorem set_map {ns : List Str} {Q : Unit → Shared → Prop} (X : K.In s.heap) (I : ObjM s.heap x dx C mA)
    (hs : PySem.W.findIn K (.ref C) "__setattr__" = some (some (.builtin "object.__setattr__"))) (hp : PySem.W.plainOver K C = true) (ht : PySem.W.takerIn K C name = some none) (hh : PySem.W.hasDictIn K C = true)
    (hw : PySem.Within mA ns) (hsz : ns.length ≤ sizeLine)
    (h : ∀ h', ObjM h' x dx C (fun y => if y = name then some v else mA y) → Heap.SameBut dx s.heap h' → Q () { s with heap := h', toks := s.toks + 2 }) :
    wpAny (model prog w) A (setAttr (.ref x) name v) Q E s := by
  obtain ⟨od, J, hl⟩ := I.look
  refine PySem.W.set_plain X J hs (PySem.W.osa_open (s := { s with toks := s.toks + 1 }) (r := none) X J hp ht fun b => ?_)
  obtain ⟨cd, hc, hd'⟩ := PySem.W.any_some hh
  have hx : s.heap.get? x = some ⟨.ref C, some dx, .plain, #[]⟩ := I.obj
  refine wpAny_bind (wpAny_pure (wpAny_bind (wpAny_bind (wpAny_loadPart hx (wpAny_bind (PySem.W.Looks.here (s := { s with toks := s.toks + 1 }) (PySem.W.looks_clsIn X hc) ?_))))))
  rw [hd']
  refine wpAny_pure (a := some dx) (wpAny_bind (wpAny_pure (wpAny_bind ?_)))
  refine wpAny_nsSet1 (s := { s with toks := s.toks + 1 }) I.ns fun h' hn2 hs2 => ?_
  obtain ⟨oD, esD, epD, hoD, hdD, hcD⟩ := hn2.count (PySem.Within.cons name v hw)
  refine wpAny_bind (wpAny_lookBehind hoD (by rw [hdD]; exact pastItsLine_dict (Nat.le_trans hcD (by rw [List.length_cons]; omega))) ?_)
  exact wpAny_pure (h _ ⟨(hs2.2 _ (Ne.symm I.ne)).trans I.obj, hn2, I.ne⟩ hs2)
theorem make_map {R : Result → Shared → Prop} {vs : List Value} {kw : List (Str × Value)} (X : K.In s.heap) (hm : PySem.W.makesIn K C = true)
    (hi : PySem.W.findIn K (.ref C) "__init__" = some (some (.ref f))) (hf : PySem.W.typeIn K (.ref f) = some (.type "function"))
    (h : codeAny (model prog w) (A.under (.builtin "type.__call__" ⟨.ref C :: vs, kw⟩)) (.call (.ref f) ⟨.ref (s.heap.objs.size + 1) :: vs, kw⟩) (PySem.W.InitBack (s.heap.objs.size + 1) R)
      { s with heap := (s.heap.push PySem.W.emptyDict).push (PySem.W.instObj C s.heap.objs.size) }) :
    codeAny (model prog w) A (.call (.ref C) ⟨vs, kw⟩) R s := by
  obtain ⟨hh, g, d, t, os⟩ := s
  exact PySem.W.make_core (PySem.W.makes_of X hm) (PySem.W.looks_findIn X hi) (fun self => PySem.W.bind_fn X self hf) (.inl rfl) h
end
def putF (f : Str) (v : V) : List (Str × V) → List (Str × V)
  | [] => [(f, v)]
  | (g, x) :: r => if g = f then (g, v) :: r else (g, x) :: putF f v r
theorem lookup_putF (f g : Str) (v : V) : ∀ fs : List (Str × V), (putF f v fs).lookup g = if g = f then some v else fs.lookup g
  | [] => by
    show List.lookup g [(f, v)] = _
    by_cases h : g = f
    · have hb : (g == f) = true := beq_iff_eq.mpr h
      simp only [List.lookup, hb, if_pos h]
    · have hb : (g == f) = false := beq_eq_false_iff_ne.mpr h
      simp only [List.lookup, hb, if_neg h]
  | (k, x) :: r => by
    have ih := lookup_putF f g v r
    rw [show putF f v ((k, x) :: r) = (if k = f then (k, v) :: r else (k, x) :: putF f v r) from rfl]
    by_cases hk : k = f
    · rw [if_pos hk]
      by_cases h : g = k
      · have hb : (g == k) = true := beq_iff_eq.mpr h
        simp only [List.lookup, hb, if_pos (h.trans hk)]
      · have hb : (g == k) = false := beq_eq_false_iff_ne.mpr h
        simp only [List.lookup, hb, if_neg (fun e : g = f => h (e.trans hk.symm))]
    · rw [if_neg hk]
      by_cases h : g = k
      · have hb : (g == k) = true := beq_iff_eq.mpr h
        simp only [List.lookup, hb, if_neg (fun e : g = f => hk (h.symm.trans e))]
      · have hb : (g == k) = false := beq_eq_false_iff_ne.mpr h
        simp only [List.lookup, hb]
        exact ih
theorem keys_putF (f : Str) (v : V) : ∀ fs : List (Str × V), f ∈ (putF f v fs).map (·.1) ∧ ∀ g, g ∈ fs.map (·.1) → g ∈ (putF f v fs).map (·.1)
  | [] => ⟨by simp [putF], fun g h => by simp at h⟩
  | (k, x) :: r => by
    obtain ⟨i1, i2⟩ := keys_putF f v r
    rw [show putF f v ((k, x) :: r) = (if k = f then (k, v) :: r else (k, x) :: putF f v r) from rfl]
    by_cases hk : k = f
    · rw [if_pos hk]
      subst hk
      exact ⟨by simp, fun g h => by simpa using h⟩
    · rw [if_neg hk]
      refine ⟨?_, fun g h => ?_⟩
      · rw [List.map_cons]
        exact List.mem_cons_of_mem _ i1
      · rw [List.map_cons] at h ⊢
        rcases List.mem_cons.mp h with e | e
        · exact List.mem_cons.mpr (.inl e)
        · exact List.mem_cons_of_mem _ (i2 g e)
theorem length_putF (f : Str) (v : V) : ∀ fs : List (Str × V), (putF f v fs).length ≤ fs.length + 1
  | [] => by simp [putF]
  | (k, x) :: r => by
    have ih := length_putF f v r
    rw [show putF f v ((k, x) :: r) = (if k = f then (k, v) :: r else (k, x) :: putF f v r) from rfl]
    by_cases hk : k = f
    · rw [if_pos hk, List.length_cons, List.length_cons]; omega
    · rw [if_neg hk, List.length_cons, List.length_cons]; omega
theorem RelO.some_of {v : V} {o : Option Value} (r : RelO (some v) o) : ∃ u, o = some u ∧ RelV v u := by
  cases o with
  | none => exact (show False from r).elim
  | some u => exact ⟨u, rfl, r⟩
theorem RelO.none_of {o : Option Value} (r : RelO none o) : o = none := by
  cases o with
  | none => rfl
  | some u => exact (show False from r).elim
theorem handed_of {v : V} {u : Value} (r : RelV v u) : PySem.W.handedIn u = true := by
  cases v with
  | non => cases (show u = Value.none from r); rfl
  | bl b => cases (show u = Value.bool b from r); rfl
  | int i => obtain ⟨t, e⟩ := (show ∃ t, u = Value.int i t from r); cases e; rfl
  | str x => obtain ⟨t, e⟩ := (show ∃ t, u = Value.str x t from r); cases e; rfl
  | byt b => obtain ⟨t, e⟩ := (show ∃ t, u = Value.bytes b t from r); cases e; rfl
  | flt b => obtain ⟨t, e⟩ := (show ∃ t, u = Value.float b t from r); cases e; rfl
  | ref a => cases (show u = Value.ref a from r); rfl
  | ty n => cases (show u = Value.type n from r); rfl
section
variable {P : Program} {w : World} {H H' : Hp} {h h' : Heap} {a C dx : Addr} {fs fs' : List (Str × V)}
theorem ins_get (hok : HOk P w H h) (e : H a = some (.ins C dx fs)) : ∃ mA, ObjM h a dx C mA ∧ (∀ f, RelO (fs.lookup f) (mA f)) ∧ PySem.Within mA (fs.map (·.1)) ∧ fs.length ≤ 1000 ∧ H dx = some (.own a) := by
  obtain ⟨d, z, ne, ob, mA, n, r, q⟩ := (show ObjOk P w H h a (.ins C dx fs) from hok a _ e)
  exact ⟨mA, ⟨ob, n, ne⟩, r, q, z, d⟩
end
structure Cls (K : PySem.W.Frag) (C : Addr) : Prop where
  pg : PySem.W.plainGet K C Str.empty = true
  hd : PySem.W.hasDictIn K C = true
  po : PySem.W.plainOver K C = true
  sa : PySem.W.findIn K (.ref C) "__setattr__" = some (some (.builtin "object.__setattr__"))
theorem Cls.get {K : PySem.W.Frag} {C : Addr} (c : Cls K C) (f : Str) : PySem.W.plainGet K C f = true := c.pg
def NoAttr (K : PySem.W.Frag) (C : Addr) (f : Str) : Prop := PySem.W.findIn K (.ref C) f = some none
theorem NoAttr.taker {K : PySem.W.Frag} {C : Addr} {f : Str} (n : NoAttr K C f) : PySem.W.takerIn K C f = some none := by
  unfold PySem.W.takerIn
  rw [show PySem.W.findIn K (.ref C) f = some none from n]
  rfl
structure Meth (K : PySem.W.Frag) (C : Addr) (m : Str) (f : Addr) : Prop where
  at_ : PySem.W.findIn K (.ref C) m = some (some (.ref f))
  fn : PySem.W.isFn K (.ref f) = true
  kp : PySem.W.keepIn K (.ref f) = true
section
variable {X : Cx} {pins : List (Addr × Obj)} {σ : St} {H : Hp} {s : Shared} {a C dx : Addr} {fs : List (Str × V)} {f : Str} {v : V} {A : Around} {E : Value → Shared → Prop}
theorem getattr_ok {b : Bool} {Q : Value → Shared → Prop} (I : Inv X pins σ H s) (e : H a = some (.ins C dx fs)) (c : Cls X.K C) (n : NoAttr X.K C f) (l : fs.lookup f = some v)
    (h : ∀ u s', Inv X pins σ H s' → RelV v u → Q u s') : wpAny (model X.prog X.w) A (getAttr (.ref a) f b) Q E s := by
  obtain ⟨mA, O, r, _, _, _⟩ := ins_get I.hok e
  obtain ⟨u, hu, ru⟩ := RelO.some_of (v := v) (o := mA f) (by rw [← l]; exact r f)
  exact get_map I.kIn O (c.get f) c.hd n hu (handed_of ru) (h u _ (I.tok _) ru)
theorem getmeth_ok {m : Str} {g : Addr} {pl : Sem Bool} {Q : Value × List Value → Shared → Prop} (I : Inv X pins σ H s) (e : H a = some (.ins C dx fs)) (c : Cls X.K C) (k : Meth X.K C m g) (l : fs.lookup m = none)
    (h : Q (.ref g, [.ref a]) s) : wpAny (model X.prog X.w) A (getMethod (.ref a) m pl) Q E s := by
  obtain ⟨mA, O, r, _, _, _⟩ := ins_get I.hok e
  have hn : mA m = none := RelO.none_of (by rw [← l]; exact r m)
  exact get_meth I.kIn O (c.get m) k.at_ k.fn hn h
theorem setattr_ok {y : V} {u : Value} {Q : Unit → Shared → Prop} (I : Inv X pins σ H s) (e : H a = some (.ins C dx fs)) (c : Cls X.K C) (n : NoAttr X.K C f) (hl : fs.length < 1000) (ry : RelV y u)
    (h : ∀ s', Inv X pins σ (upd H a (.ins C dx (putF f y fs))) s' → Q () s') : wpAny (model X.prog X.w) A (setAttr (.ref a) f u) Q E s := by
  obtain ⟨mA, O, r, wi, _, ho⟩ := ins_get I.hok e
  have hz : (fs.map (·.1)).length ≤ sizeLine := by rw [List.length_map, sizeLine_eq]; omega
  refine set_map I.kIn O c.sa c.po n.taker c.hd wi hz fun h' O' sb => h _ ?_
  have hd : ∃ o, h'.get? dx = some o := let ⟨o, _, _, e', _⟩ := O'.ns; ⟨o, e'⟩
  refine I.write (x := a) (e := dx) (by rw [e]; exact True.intro) (.inr ho) (fun b q hb z => (sb.2 b hb).trans z) hd ?_
  refine ⟨by rw [upd_ne O.ne]; exact ho, ?_, O.ne, O'.obj, _, O'.ns, fun g => ?_, fun g hg => ?_⟩
  · have := length_putF f y fs; omega
  · show RelO ((putF f y fs).lookup g) (if g = f then some u else mA g)
    rw [lookup_putF]
    by_cases q : g = f
    · rw [if_pos q, if_pos q]; exact ry
    · rw [if_neg q, if_neg q]; exact r g
  · by_cases q : g = f
    · rw [q]; exact (keys_putF f y fs).1
    · refine (keys_putF f y fs).2 g (wi g fun z => hg ?_)
      show (if g = f then some u else mA g) = none
      rw [if_neg q]; exact z
theorem Inv.made (I : Inv X pins σ H s) : Inv X pins σ (upd (upd H s.heap.objs.size (.own (s.heap.objs.size + 1))) (s.heap.objs.size + 1) (.ins C s.heap.objs.size []))
    { s with heap := (s.heap.push PySem.W.emptyDict).push (PySem.W.instObj C s.heap.objs.size) } := by
  have e1 : (s.heap.push PySem.W.emptyDict).get? s.heap.objs.size = some PySem.W.emptyDict := Heap.get?_push_size s.heap rfl
  have e2 : ((s.heap.push PySem.W.emptyDict).push (PySem.W.instObj C s.heap.objs.size)).get? (s.heap.objs.size + 1) = some (PySem.W.instObj C s.heap.objs.size) := by
    have := Heap.get?_push_size (s.heap.push PySem.W.emptyDict) (o := PySem.W.instObj C s.heap.objs.size) rfl
    rwa [Heap.size_push] at this
  have e3 : (s.heap.push PySem.W.emptyDict).Ns s.heap.objs.size (fun _ => none) := ⟨PySem.W.emptyDict, #[], _, e1, rfl, (fun e he => absurd he (by simp)), fun _ => rfl⟩
  have I1 := I.laid (a := s.heap.objs.size) (o := .own (s.heap.objs.size + 1)) (h' := s.heap.push PySem.W.emptyDict) (t' := s.toks) (fun b u q => Heap.get?_push_of_some _ q) (Nat.le_refl _) ⟨_, e1⟩
  refine I1.laid (a := s.heap.objs.size + 1) (o := .ins C s.heap.objs.size []) (t' := s.toks) (fun b u q => Heap.get?_push_of_some _ q) (Nat.le_of_eq (Heap.size_push _ _)) ?_
  have ne : s.heap.objs.size ≠ s.heap.objs.size + 1 := Nat.ne_of_lt (Nat.lt_succ_self _)
  refine ⟨by rw [upd_ne ne, upd_same], Nat.zero_le _, ne, e2, fun _ => none, (Heap.Ns1.of_empty e3).at fun o q => Heap.get?_push_of_some _ q, fun _ => True.intro, fun y hy => absurd rfl hy⟩
theorem attr_of {prog : Program} {w : World} {env : Env} {e : Expr} {f : Str} {pos : Pos} {s : Shared} {Q : Value → Shared → Prop} (hb : attributeBase e f env (eval e env) = eval e env)
    (h : wpAny (model prog w) A (eval e env) (fun o s₁ => wpAny (model prog w) A (getAttr o f true) Q E s₁) E s) : wpAny (model prog w) A (eval (.Attribute e f pos) env) Q E s :=
  Attribute_any_ h (by rw [arm_eval_Attribute, hb])
end
def tFld (K : PySem.W.Frag) (ta : TE) (f : Str) : TE := fun σ H Q => ta σ H fun x H1 => ∃ a C dx fs v, x = .ref a ∧ H1 a = some (.ins C dx fs) ∧ Cls K C ∧ NoAttr K C f ∧ fs.lookup f = some v ∧ Q v H1
def sFld (K : PySem.W.Frag) (ta tv : TE) (f : Str) : TS := fun D σ H => tv σ H fun y H1 => ta σ H1 fun x H2 => ∃ a C dx fs, x = .ref a ∧ H2 a = some (.ins C dx fs) ∧ Cls K C ∧ NoAttr K C f ∧ fs.length < 1000 ∧
  D.nx σ (upd H2 a (.ins C dx (putF f y fs)))
section
variable {X : Cx} {o e value : Expr} {f : Str} {pos pos' tpos : Pos} {ta tv : TE}
theorem pe_fld (he : PE X e ta) (hb : attributeBase e f X.env (eval e X.env) = eval e X.env) : PE X (.Attribute e f pos) (tFld X.K ta f) := by
  intro pins s σ H Q I h
  refine attr_of hb (thn (he pins s σ H _ I h) fun u s1 ⟨x, H1, I1, rx, a, C, dx, fs, v, ex, ea, c, n, l, q⟩ => ?_)
  subst ex
  obtain rfl : u = Value.ref a := rx
  exact getattr_ok I1 ea c n l fun u' s2 I2 ru => ⟨v, H1, I2, ru, q⟩
theorem ps_fld (ha : PE X o ta) (hv : PE X value tv) (hs : swapsWith value (some (.Attribute o f pos')) pos.line X.env = pure false) : PS X (.Assign [.Attribute o f pos'] value pos) (sFld X.K ta tv f) := by
  intro pins s σ H D I h
  refine plainObj_wpAny_Assign_Attribute (thn (hv pins s σ H _ I h) fun u s1 ⟨y, H1, I1, ry, q⟩ => thn (ha pins s1 σ H1 _ I1 q) fun ov s2 ⟨x, H2, I2, rx, a, C, dx, fs, ex, ea, c, n, l, q2⟩ => ?_) hs
  subst ex
  obtain rfl : ov = Value.ref a := rx
  exact setattr_ok I2 ea c n l ry fun s3 I3 => ⟨σ, _, I3, q2⟩
end
section
variable {X : Cx} {pins : List (Addr × Obj)} {σ : St} {H : Hp} {s : Shared} {A : Around} {E : Value → Shared → Prop} {Q : Value → Shared → Prop} {c : Value} {b : Bool}
inductive TyOf (K : PySem.W.Frag) (H : Hp) : V → Value → Prop where
  | non : TyOf K H .non (.type "NoneType")
  | bl (x : Bool) : TyOf K H (.bl x) (.type "bool")
  | int (i : Int) : TyOf K H (.int i) (.type "int")
  | str (x : Str) : TyOf K H (.str x) (.type "str")
  | flt (x : UInt64) : TyOf K H (.flt x) (.type "float")
  | lst {a : Addr} {xs : List V} (e : H a = some (.lst xs)) : TyOf K H (.ref a) (.type "list")
  | frz {a : Addr} {o : Obj} {xs : List V} (e : H a = some (.frz o (.lst xs))) : TyOf K H (.ref a) (.type "list")
  | tup {a : Addr} {xs : List V} (e : H a = some (.tup xs)) : TyOf K H (.ref a) (.type "tuple")
  | dK {a : Addr} {kvs : List (Key × V)} (e : H a = some (.dK kvs)) : TyOf K H (.ref a) (.type "dict")
  | dT {a : Addr} {kvs : List (List Key × V)} (e : H a = some (.dT kvs)) : TyOf K H (.ref a) (.type "dict")
  | ins {a C dx : Addr} {fs : List (Str × V)} (e : H a = some (.ins C dx fs)) (cl : Cls K C) (ha : PySem.W.findIn K (.ref C) "__class__" = some (some (.builtin "object.__class__")))
      (hn : PySem.W.specialIn K (.builtin "object.__class__") "__get__" = some (some (.builtin "getset_descriptor.__get__"))) (htk : PySem.W.takesIn K (.builtin "object.__class__") = some true)
      (hm : PySem.W.mroIn K C (.type "object") = some true) : TyOf K H (.ref a) (.ref C)
theorem isinst_ok {x : V} {u t : Value} (I : Inv X pins σ H s) (rx : RelV x u) (ty : TyOf X.K H x t) (e : PySem.W.kitOne X.K t c = some b) (h : ∀ tk, Q (.bool b) { s with toks := tk }) :
    wpAny (model X.prog X.w) A (call (.builtin "isinstance") [u, c]) Q E s := by
  cases ty with
  | non => cases (show u = Value.none from rx); exact PySem.W.kia_one PySem.W.kitx_none I.kIn True.intro e (fun z => nomatch z) h
  | bl y => cases (show u = Value.bool y from rx); exact PySem.W.kia_one PySem.W.kitx_bool I.kIn True.intro e (fun z => nomatch z) h
  | int i => obtain ⟨t, q⟩ := (show ∃ t, u = Value.int i t from rx); cases q; exact PySem.W.kia_one PySem.W.kitx_int I.kIn True.intro e (fun z => nomatch z) h
  | str y => obtain ⟨t, q⟩ := (show ∃ t, u = Value.str y t from rx); cases q; exact PySem.W.kia_one PySem.W.kitx_str I.kIn True.intro e (fun z => nomatch z) h
  | flt y => obtain ⟨t, q⟩ := (show ∃ t, u = Value.float y t from rx); cases q; exact PySem.W.kia_one PySem.W.kitx_float I.kIn True.intro e (fun z => nomatch z) h
  | @lst a xs ea =>
    cases (show u = Value.ref a from rx)
    obtain ⟨_, _, n, _, h1⟩ := (show ObjOk X.prog X.w H s.heap a (.lst xs) from I.hok a _ ea)
    exact PySem.W.kia_one PySem.W.kitx_list I.kIn ⟨_, h1, rfl⟩ e (fun z => nomatch z) h
  | @frz a ob xs ea =>
    cases (show u = Value.ref a from rx)
    obtain ⟨_, _, _, n, _, h1⟩ := (show ObjOk X.prog X.w H s.heap a (.frz ob (.lst xs)) from I.hok a _ ea)
    exact PySem.W.kia_one PySem.W.kitx_list I.kIn ⟨_, h1, rfl⟩ e (fun z => nomatch z) h
  | @tup a xs ea =>
    cases (show u = Value.ref a from rx)
    obtain ⟨_, _, _, p⟩ := (show ObjOk X.prog X.w H s.heap a (.tup xs) from I.hok a _ ea)
    obtain ⟨o, h1, h2, _⟩ := p
    exact PySem.W.kia_one PySem.W.kitx_tuple I.kIn ⟨o, h1, h2⟩ e (fun z => nomatch z) h
  | @dK a kvs ea =>
    cases (show u = Value.ref a from rx)
    obtain ⟨_, _, vs, _, p⟩ := (show ObjOk X.prog X.w H s.heap a (.dK kvs) from I.hok a _ ea)
    obtain ⟨o, es, ep, h1, h2, _⟩ := p
    exact PySem.W.kia_one PySem.W.kitx_dict I.kIn ⟨o, h1, h2.1⟩ e (fun z => nomatch z) h
  | @dT a kvs ea =>
    cases (show u = Value.ref a from rx)
    obtain ⟨_, _, xs, _, o, es, ep, h1, h2, _⟩ := (show ObjOk X.prog X.w H s.heap a (.dT kvs) from I.hok a _ ea)
    exact PySem.W.kia_one PySem.W.kitx_dict I.kIn ⟨o, h1, h2.1⟩ e (fun z => nomatch z) h
  | @ins a C dx fs ea cl ha hn htk hm =>
    cases (show u = Value.ref a from rx)
    obtain ⟨mA, O, _⟩ := ins_get I.hok ea
    obtain ⟨od, J, _⟩ := O.look
    exact PySem.W.kia_one (PySem.W.kitx_own (cl.get _) cl.hd ha hn htk hm) I.kIn J e (fun z => nomatch z) h
end
end L2
namespace L2
open PySem PySem.Spec PyProof.Rows
structure Room (k : Nat) (A : Around) : Prop where
  hd : A.handled = none
  dp : A.depth + 3 * k + 5 < recursionLimit
  un : A.units + 16 * k + 200 < cLine
theorem Room.mono {j k : Nat} {A : Around} (r : Room k A) (h : j ≤ k) : Room j A := ⟨r.hd, by have := r.dp; omega, by have := r.un; omega⟩
theorem Room.deeper {k : Nat} {A : Around} (r : Room (k + 1) A) (env : Env) : Room k (A.deeper env) :=
  ⟨r.hd, by have := r.dp; show A.depth + 1 + 3 * k + 5 < _; omega, by have := r.un; show A.units + 3 + 16 * k + 200 < _; omega⟩
theorem make_depth {A : Around} {C : Addr} {us : List Value} {kw : List (Str × Value)} : (A.under (.builtin "type.__call__" ⟨.ref C :: us, kw⟩)).depth = A.depth + 1 := by
  first | rfl | simp [Around.under, Code.weight, Code.isCreation, Code.isGuard, Code.isCaller, Code.frames, Code.isFrame, guardIds]
theorem make_units {A : Around} {C : Addr} {us : List Value} {kw : List (Str × Value)} : (A.under (.builtin "type.__call__" ⟨.ref C :: us, kw⟩)).units = A.units + 1 := by
  first | rfl | simp [Around.under, Code.cUnits, Code.frames, Code.isFrame]
theorem Room.make {k : Nat} {A : Around} (r : Room (k + 1) A) (C : Addr) (us : List Value) (kw : List (Str × Value)) : Room k (A.under (.builtin "type.__call__" ⟨.ref C :: us, kw⟩)) :=
  ⟨r.hd, by have := r.dp; rw [make_depth]; omega, by have := r.un; rw [make_units]; omega⟩
theorem Room.depth {k : Nat} {A : Around} (r : Room k A) : A.depth < recursionLimit := by have := r.dp; omega
theorem Room.units {k : Nat} {A : Around} (r : Room k A) : A.units + 64 < cLine := by have := r.un; omega
def tNil : TA := fun _ H Q => Q [] H
def tCons (ta : TE) (tr : TA) : TA := fun σ H Q => ta σ H fun x H1 => tr σ H1 fun xs H2 => Q (x :: xs) H2
section
variable {X : Cx} {e : Expr} {es : List Expr} {te : TE} {t : TA} {pos : Pos}
theorem pa_nil : PA X [] tNil := fun _ _ _ _ H Q I h => Calls.spliced_nil ⟨[], H, I, .nil, h⟩
theorem pa_cons (ha : PE X e te) (hr : PA X es t) (hs : starEach (e :: es) X.env = (false, eval e X.env) :: starEach es X.env := by rfl) : PA X (e :: es) (tCons te t) := by
  intro pos pins s σ H Q I h
  rw [hs]
  show wpAny _ _ (spliced ((false, eval e X.env) :: backTo pos (starEach es X.env))) _ _ s
  refine Calls.spliced_cons (thn (ha pins s σ H _ I h) fun u s1 ⟨x, H1, I1, r1, q1⟩ => ?_)
  exact thn (hr pos pins s1 σ H1 _ I1 q1) fun us s2 ⟨xs, H2, I2, r2, q2⟩ => ⟨x :: xs, H2, I2, .cons r1 r2, q2⟩
def tTup (t : TA) : TE := fun σ H Q => t σ H fun xs H1 => xs.length ≤ sizeLine ∧ ∀ p, H1 p = none → Q (.ref p) (upd H1 p (.tup xs))
def tLst (t : TA) : TE := fun σ H Q => t σ H fun xs H1 => xs.length ≤ sizeLine ∧ ∀ p, H1 p = none → Q (.ref p) (upd H1 p (.lst xs))
theorem pe_tup {x1} (h : PA X es t) : PE X (.Tuple es x1 pos) (tTup t) := by
  intro pins s σ H Q I hq
  refine wpAny_Tuple_spliced (thn (h pos pins s σ H _ I hq) fun us s1 ⟨xs, H1, I1, r, z, q⟩ => ⟨by rw [← r.length]; exact z, ?_⟩)
  have hf : H1 s1.heap.objs.size = none := I1.hok.fresh (Nat.le_refl _)
  refine ⟨.ref s1.heap.objs.size, upd H1 s1.heap.objs.size (.tup xs), I1.laid (t' := s1.toks) (fun b u e => Heap.get?_push_of_some _ e) (Nat.le_refl _) ?_, rfl, q _ hf⟩
  exact ⟨z, us, r, ⟨_, Heap.get?_push_size _ rfl, rfl, _, rfl⟩⟩
theorem pe_lst (h : PA X es t) : PE X (.List es pos) (tLst t) := by
  intro pins s σ H Q I hq
  refine wpAny_List_spliced (thn (h pos pins s σ H _ I hq) fun us s1 ⟨xs, H1, I1, r, z, q⟩ => ⟨by rw [← r.length]; exact z, ?_⟩)
  have hf : H1 s1.heap.objs.size = none := I1.hok.fresh (Nat.le_refl _)
  refine ⟨.ref s1.heap.objs.size, upd H1 s1.heap.objs.size (.lst xs), I1.laid (t' := s1.toks) (fun b u e => Heap.get?_push_of_some _ e) (Nat.le_refl _) ?_, rfl, q _ hf⟩
  exact ⟨z, us, 0, r, Heap.get?_push_size _ rfl⟩
end
abbrev Sp := List V → Hp → VK → XK → Prop
abbrev CXT := List Env → Hp → Shared → XK → Value → Shared → Prop
structure Env0 (P : Program) (w : World) (K : PySem.W.Frag) (mg : Str → Option Value) (base : Heap) (A : Around) (outer : List Env) (s : Shared) (H : Hp) : Prop where
  frames : A.frames = some outer
  mod : Mod K mg base
  bs : ∀ b o, base.get? b = some o → s.heap.get? b = some o ∧ H b = none
  bsz : base.objs.size ≤ s.heap.objs.size
  funs : s.heap.FunFrames base outer
  frf : ∀ b ∈ frs outer, H b = none
  hok : HOk P w H s.heap
  bare : AllBare s.gens
def CE (outer : List Env) (P : Program) (w : World) (H : Hp) (s : Shared) (Q : VK) (u : Value) (s' : Shared) : Prop :=
  ∃ v H', s'.os = s.os ∧ AllBare s'.gens ∧ Un (frs outer) [] H H' s.heap s'.heap ∧ HOk P w H' s'.heap ∧ RelV v u ∧ Q v H'
def CR (CX : CXT) (outer : List Env) (P : Program) (w : World) (H : Hp) (s : Shared) (Q : VK) (E : XK) (r : Result) (s' : Shared) : Prop :=
  match r with
  | .ok (.ret u) => CE outer P w H s Q u s'
  | .ok _ => False
  | .error e => CX outer H s E e s'
structure FnOk (P : Program) (w : World) (K : PySem.W.Frag) (mg : Str → Option Value) (base : Heap) (CX : CXT) (k : Nat) (f : Addr) (fd : FuncData) (ps : List Str) (sp : Sp) : Prop where
  len : ∀ vs H Q E, sp vs H Q E → vs.length = ps.length
  run : ∀ (A : Around) (outer : List Env) (s : Shared) (H : Hp) (args : Args) (us : List Value) (vs : List V) (Q : VK) (E : XK), Room k A → Env0 P w K mg base A outer s H → BindsTo s fd args (ps.zip us) → Vals vs us → sp vs H Q E →
    codeAny (model P w) A (.call (.ref f) args) (CR CX outer P w H s Q E) s
theorem FnOk.mono {P : Program} {w : World} {K : PySem.W.Frag} {mg : Str → Option Value} {base : Heap} {CX : CXT} {j k : Nat} {f : Addr} {fd : FuncData} {ps : List Str} {sp : Sp} (F : FnOk P w K mg base CX j f fd ps sp) (h : j ≤ k) :
    FnOk P w K mg base CX k f fd ps sp := ⟨F.len, fun A outer s H args us vs Q E hr => F.run A outer s H args us vs Q E (hr.mono h)⟩
theorem Env0.make {P : Program} {w : World} {K : PySem.W.Frag} {mg : Str → Option Value} {base : Heap} {A : Around} {outer : List Env} {s : Shared} {H : Hp} (e : Env0 P w K mg base A outer s H) (C : Addr) (us : List Value) (kw : List (Str × Value)) :
    Env0 P w K mg base (A.under (.builtin "type.__call__" ⟨.ref C :: us, kw⟩)) outer s H := ⟨by first | exact e.frames | (simpa [Around.under, Code.envs, Code.isFrame, pushEnvs] using e.frames), e.mod, e.bs, e.bsz, e.funs, e.frf, e.hok, e.bare⟩
section
variable {X : Cx} {pins : List (Addr × Obj)} {σ : St} {H : Hp} {s s' : Shared}
theorem Inv.env0 (I : Inv X pins σ H s) : Env0 X.prog X.w X.K X.mg X.base X.A X.stack s H :=
  ⟨I.ok.frames, I.ok.mod, I.bs, Nat.le_trans I.ok.bsz I.sz, I.stack, I.stkFree, I.hok, I.bare⟩
theorem Inv.after {Q : VK} {u : Value} (I : Inv X pins σ H s) (h : CE X.stack X.prog X.w H s Q u s') : EP X pins σ Q u s' := by
  obtain ⟨v, H', os, bare, un, hok, r, q⟩ := h
  obtain ⟨hh, g, d, t, os'⟩ := s'
  obtain rfl : os' = s.os := os
  exact ⟨v, H', I.call (h' := hh) (g' := g) (d' := d) (t' := t) (ch := []) un hok bare (fun b z => absurd z (by simp)), r, q⟩
end
def tCall (sp : Sp) (dvs : List V) (E : XK) (t : TA) : TE := fun σ H Q => t σ H fun vs H1 => sp (vs ++ dvs) H1 Q E
def tMeth (C : Addr) (m : Str) (sp : Sp) (dvs : List V) (E : XK) (ta : TE) (t : TA) : TE := fun σ H Q => ta σ H fun x H1 => ∃ a dx fs, x = .ref a ∧ H1 a = some (.ins C dx fs) ∧ fs.lookup m = none ∧
  t σ H1 fun vs H2 => sp (x :: (vs ++ dvs)) H2 Q E
def tMake (C : Addr) (sp : Sp) (dvs : List V) (E : XK) (t : TA) : TE := fun σ H Q => t σ H fun vs H1 => ∀ x dx, H1 x = none → H1 dx = none → dx ≠ x →
  sp (.ref x :: (vs ++ dvs)) (upd (upd H1 dx (.own x)) x (.ins C dx [])) (fun v H2 => v = .non ∧ Q (.ref x) H2) E
def Binds (K : PySem.W.Frag) (fd : FuncData) (ps : List Str) (ds : List Value) : Prop :=
  ∀ (s : Shared) (us : List Value), K.In s.heap → (us ++ ds).length = ps.length → BindsTo s fd ⟨us, []⟩ (ps.zip (us ++ ds))
theorem Binds.all {K : PySem.W.Frag} {fd : FuncData} {ps : List Str} (h : ∀ us : List Value, us.length = ps.length → bindArgs fd ⟨us, []⟩ = pure (ps.zip us)) : Binds K fd ps [] := fun s us _ hl => by
  rw [List.append_nil] at hl ⊢
  exact .of_eq (h us hl)
def Passes (CX : CXT) (X : Cx) (E : XK) : Prop := ∀ (pins : List (Addr × Obj)) (σ : St) (H : Hp) (s : Shared) (e : Value) (s' : Shared), Inv X pins σ H s → CX X.stack H s E e s' → X.xe e s'
section
variable {X : Cx} {CX : CXT} {k : Nat} {f C : Addr} {fd : FuncData} {ps : List Str} {sp : Sp} {dvs : List V} {ds : List Value} {E : XK} {x m : Str} {p pos apos : Pos} {e o : Expr} {es : List Expr} {ta : TE} {t : TA}
theorem run_fn {pins : List (Addr × Obj)} {σ : St} {H : Hp} {s : Shared} {Q : VK} {us : List Value} {vs : List V} (F : FnOk X.prog X.w X.K X.mg X.base CX k f fd ps sp) (hr : Room k X.A) (hb : Binds X.K fd ps ds) (hd : Vals dvs ds) (hx : Passes CX X E)
    (I : Inv X pins σ H s) (r : Vals vs us) (h : sp (vs ++ dvs) H Q E) : wpAny (model X.prog X.w) X.A (call (.ref f) us) (EP X pins σ Q) X.xe s := by
  have r2 : Vals (vs ++ dvs) (us ++ ds) := r.append hd
  have hl : (us ++ ds).length = ps.length := by rw [← r2.length]; exact F.len _ _ _ _ h
  refine wpAny_call (codeAny_mono (F.run X.A X.stack s H ⟨us, []⟩ (us ++ ds) (vs ++ dvs) Q E hr I.env0 (hb s us I.kIn hl) r2 h) fun r s' hq => ?_)
  cases r with
  | error e => exact hx pins σ H s e s' I hq
  | ok fl =>
    cases fl with
    | ret u => exact I.after hq
    | next => exact False.elim hq
    | brk => exact False.elim hq
    | cont => exact False.elim hq
theorem pe_call (F : FnOk X.prog X.w X.K X.mg X.base CX k f fd ps sp) (hr : Room k X.A) (hg : Gl X x) (hm : X.mg x = some (.ref f)) (hk : PySem.W.keepIn X.K (.ref f) = true) (hb : Binds X.K fd ps ds) (hd : Vals dvs ds) (hx : Passes CX X E)
    (ha : PA X (e :: es) t) (hdb : (x == ("__debug__" : Str)) = false := by decide) (he : starEach (e :: es) X.env = (false, eval e X.env) :: starEach es X.env := by rfl) (hpl : (backTo pos (starEach es X.env)).any (·.1) = false := by rfl) :
    PE X (.Call (.Name x p) (e :: es) [] pos) (tCall sp dvs E t) := by
  intro pins s σ H Q I h
  refine wpAny_Call_Name_kw (ld_glob I hg hm ?_ hdb)
  refine PySem.W.callWith_K (h₀ := X.base) I.ok.mod.kin hk (thn (ha pos pins s σ H _ I h) fun us s1 ⟨vs, H1, I1, r, q⟩ => ⟨I1.kIn, ?_⟩) he hpl
  exact run_fn F hr hb hd hx I1 r q
theorem pe_meth {pl : Sem Bool} (he : PE X o ta) (c : Cls X.K C) (hm : Meth X.K C m f) (F : FnOk X.prog X.w X.K X.mg X.base CX k f fd ps sp) (hr : Room k X.A) (hb : Binds X.K fd ps ds) (hd : Vals dvs ds) (hx : Passes CX X E) (ha : PA X (e :: es) t)
    (hst : starEach (e :: es) X.env = (false, eval e X.env) :: starEach es X.env := by rfl) (hpl : (backTo pos (starEach es X.env)).any (·.1) = false := by rfl)
    (ht : eval (.Call (.Attribute o m apos) (e :: es) [] pos) X.env = (do
      let ov ← eval o X.env
      standAt apos.atName
      let (f, first) ← holding [ov] (getMethod ov m pl)
      callWith pos f first (backTo pos (starEach (e :: es) X.env)) (backToKw pos (keywordEach [] X.env))) := by rfl) :
    PE X (.Call (.Attribute o m apos) (e :: es) [] pos) (tMeth C m sp dvs E ta t) := by
  intro pins s σ H Q I h
  refine PySem.W.methodCall_KW (pl := pl) (thn (he pins s σ H _ I h) fun u s1 ⟨x, H1, I1, rx, a, dx, fs, ex, ea, l, q⟩ => ?_) ht
  subst ex
  obtain rfl : u = Value.ref a := rx
  refine getmeth_ok I1 ea c hm l ?_
  refine PySem.W.callWith_K (first := [.ref a]) (h₀ := X.base) I.ok.mod.kin hm.kp (thn (ha pos pins s1 σ H1 _ I1 q) fun us s2 ⟨vs, H2, I2, r, q2⟩ => ⟨I2.kIn, ?_⟩) hst hpl
  exact run_fn (us := .ref a :: us) (vs := .ref a :: vs) F hr hb hd hx I2 (.cons rfl r) q2
theorem pe_meth0 {pl : Sem Bool} (he : PE X o ta) (c : Cls X.K C) (hm : Meth X.K C m f) (F : FnOk X.prog X.w X.K X.mg X.base CX k f fd ps sp) (hr : Room k X.A) (hb : Binds X.K fd ps ds) (hd : Vals dvs ds) (hx : Passes CX X E)
    (ht : eval (.Call (.Attribute o m apos) [] [] pos) X.env = (do
      let ov ← eval o X.env
      standAt apos.atName
      let (f, first) ← holding [ov] (getMethod ov m pl)
      callWith pos f first (backTo pos (starEach [] X.env)) (backToKw pos (keywordEach [] X.env))) := by rfl) :
    PE X (.Call (.Attribute o m apos) [] [] pos) (tMeth C m sp dvs E ta tNil) := by
  intro pins s σ H Q I h
  refine PySem.W.methodCall_KW (pl := pl) (thn (he pins s σ H _ I h) fun u s1 ⟨x, H1, I1, rx, a, dx, fs, ex, ea, l, q⟩ => ?_) ht
  subst ex
  obtain rfl : u = Value.ref a := rx
  refine getmeth_ok I1 ea c hm l ?_
  exact PySem.W.callWith_K0 (first := [.ref a]) I1.kIn hm.kp (run_fn (us := [.ref a]) (vs := [.ref a]) F hr hb hd hx I1 (.cons rfl .nil) q)
structure Mk (K : PySem.W.Frag) (C f : Addr) : Prop where
  makes : PySem.W.makesIn K C = true
  init : PySem.W.findIn K (.ref C) "__init__" = some (some (.ref f))
  fn : PySem.W.isFn K (.ref f) = true
  kp : PySem.W.keepIn K (.ref C) = true
theorem run_make {pins : List (Addr × Obj)} {σ : St} {H : Hp} {s : Shared} {Q : VK} {us : List Value} {vs : List V} (M : Mk X.K C f) (F : FnOk X.prog X.w X.K X.mg X.base CX k f fd ps sp) (hr : Room (k + 1) X.A) (hb : Binds X.K fd ps ds) (hd : Vals dvs ds)
    (hx : Passes CX X E) (I : Inv X pins σ H s) (r : Vals vs us)
    (h : ∀ x dx, H x = none → H dx = none → dx ≠ x → sp (.ref x :: (vs ++ dvs)) (upd (upd H dx (.own x)) x (.ins C dx [])) (fun v H2 => v = .non ∧ Q (.ref x) H2) E) :
    wpAny (model X.prog X.w) X.A (call (.ref C) us) (EP X pins σ Q) X.xe s := by
  have hq := h (s.heap.objs.size + 1) s.heap.objs.size (I.hok.fresh (Nat.le_succ _)) (I.hok.fresh (Nat.le_refl _)) (Nat.ne_of_lt (Nat.lt_succ_self _))
  have I2 := Inv.made (C := C) I
  have r2 : Vals (V.ref (s.heap.objs.size + 1) :: (vs ++ dvs)) (Value.ref (s.heap.objs.size + 1) :: (us ++ ds)) := .cons rfl (r.append hd)
  have hl : (Value.ref (s.heap.objs.size + 1) :: us ++ ds).length = ps.length := by
    have e := r2.length
    rw [F.len _ _ _ _ hq] at e
    exact e.symm
  refine wpAny_call (make_map (f := f) I.kIn M.makes M.init (beq_iff_eq.mp M.fn) (codeAny_mono (F.run _ X.stack _ _ ⟨Value.ref (s.heap.objs.size + 1) :: us, []⟩ (Value.ref (s.heap.objs.size + 1) :: (us ++ ds)) _ _ E (hr.make C us [])
    (I2.env0.make C us []) (hb _ (Value.ref (s.heap.objs.size + 1) :: us) I2.kIn hl) r2 hq) fun r s' hq' => ?_))
  cases r with
  | error e => exact hx pins σ _ _ e s' I2 hq'
  | ok fl =>
    cases fl with
    | ret u =>
      obtain ⟨v, H', I3, rv, ev, q3⟩ := I2.after hq'
      subst ev
      exact ⟨rv, ⟨V.ref (s.heap.objs.size + 1), H', I3, rfl, q3⟩⟩
    | next => exact False.elim hq'
    | brk => exact False.elim hq'
    | cont => exact False.elim hq'
theorem pe_make (M : Mk X.K C f) (F : FnOk X.prog X.w X.K X.mg X.base CX k f fd ps sp) (hr : Room (k + 1) X.A) (hg : Gl X x) (hm : X.mg x = some (.ref C)) (hb : Binds X.K fd ps ds) (hd : Vals dvs ds) (hx : Passes CX X E)
    (ha : PA X (e :: es) t) (hdb : (x == ("__debug__" : Str)) = false := by decide) (he : starEach (e :: es) X.env = (false, eval e X.env) :: starEach es X.env := by rfl) (hpl : (backTo pos (starEach es X.env)).any (·.1) = false := by rfl) :
    PE X (.Call (.Name x p) (e :: es) [] pos) (tMake C sp dvs E t) := by
  intro pins s σ H Q I h
  refine wpAny_Call_Name_kw (ld_glob I hg hm ?_ hdb)
  refine PySem.W.callWith_K (h₀ := X.base) I.ok.mod.kin M.kp (thn (ha pos pins s σ H _ I h) fun us s1 ⟨vs, H1, I1, r, q⟩ => ⟨I1.kIn, ?_⟩) he hpl
  exact run_make M F hr hb hd hx I1 r q
end
section
variable {X : Cx} {CX : CXT} {k : Nat} {f C : Addr} {fd : FuncData} {ps ks : List Str} {sp : Sp} {E : XK} {x m : Str} {p pos apos kpos : Pos} {e o : Expr} {es : List Expr} {kws : List Keyword} {te ta : TE} {t tk : TA} {nm : Option Str}
variable {g : List Value → List Value → List Value} {gV : List V → List V → List V}
end
structure FnScope (N P : List Str) (sc : Scope) : Prop where
  kind : sc.kind = .function
  co : sc.isCoroutine = false
  gen : sc.isGenerator = false
  nd : N.Nodup
  pre : N.take P.length = P
  par : ∀ x ∈ P, sc.names.lookup x = some .local ∨ sc.names.lookup x = some .cell
  nofree : ∀ y ∈ sc.names, y.2 ≠ .free
theorem bindL_out {kindOf : Str → Option NameKind} {x : Str} : ∀ {binds : List (Str × Value)} {m : Str → Option Value}, (∀ v, (x, v) ∉ binds) → bindL kindOf binds m x = m x
  | [], _, _ => rfl
  | (n, v) :: r, m, h => by
    unfold bindL
    rw [bindL_out fun w hw => h w (List.mem_cons_of_mem _ hw)]
    split
    · have : x ≠ n := by rintro rfl; exact h v List.mem_cons_self
      simp [this]
    · rfl
theorem bindC_out {kindOf : Str → Option NameKind} {x : Str} : ∀ {binds : List (Str × Value)} {m : Str → Option Value}, (∀ v, (x, v) ∉ binds) → bindC kindOf binds m x = m x
  | [], _, _ => rfl
  | (n, v) :: r, m, h => by
    unfold bindC
    rw [bindC_out fun w hw => h w (List.mem_cons_of_mem _ hw)]
    split
    · rfl
    · have : x ≠ n := by rintro rfl; exact h v List.mem_cons_self
      simp [this]
theorem bindL_get {kindOf : Str → Option NameKind} {x : Str} {v : Value} : ∀ {P : List Str} {vs : List Value} {i : Nat} {m : Str → Option Value}, P.Nodup → P[i]? = some x → vs[i]? = some v → kindOf x = some .local →
    bindL kindOf (P.zip vs) m x = some v
  | [], _, _, _, _, h, _, _ => by simp at h
  | _ :: _, [], _, _, _, _, h, _ => by simp at h
  | p :: P, w :: vs, 0, m, nd, h1, h2, hk => by
    simp at h1 h2; subst h1; subst h2
    show bindL kindOf ((p, w) :: P.zip vs) m p = _
    unfold bindL
    rw [bindL_out fun v hv => (List.nodup_cons.mp nd).1 (List.of_mem_zip hv).1, if_pos hk]
    simp
  | p :: P, w :: vs, i + 1, m, nd, h1, h2, hk => by
    show bindL kindOf ((p, w) :: P.zip vs) m x = _
    unfold bindL
    exact bindL_get (i := i) (List.nodup_cons.mp nd).2 (by simpa using h1) (by simpa using h2) hk
theorem bindC_get {kindOf : Str → Option NameKind} {x : Str} {v : Value} : ∀ {P : List Str} {vs : List Value} {i : Nat} {m : Str → Option Value}, P.Nodup → P[i]? = some x → vs[i]? = some v → kindOf x ≠ some .local →
    bindC kindOf (P.zip vs) m x = some v
  | [], _, _, _, _, h, _, _ => by simp at h
  | _ :: _, [], _, _, _, _, h, _ => by simp at h
  | p :: P, w :: vs, 0, m, nd, h1, h2, hk => by
    simp at h1 h2; subst h1; subst h2
    show bindC kindOf ((p, w) :: P.zip vs) m p = _
    unfold bindC
    rw [bindC_out fun v hv => (List.nodup_cons.mp nd).1 (List.of_mem_zip hv).1, if_neg hk]
    simp
  | p :: P, w :: vs, i + 1, m, nd, h1, h2, hk => by
    show bindC kindOf ((p, w) :: P.zip vs) m x = _
    unfold bindC
    exact bindC_get (i := i) (List.nodup_cons.mp nd).2 (by simpa using h1) (by simpa using h2) hk
def start (N : List Str) (vs : List V) : St := vs.map some ++ List.replicate (N.length - vs.length) none
def cxOf (CX : CXT) (P : Program) (w : World) (K : PySem.W.Frag) (mg : Str → Option Value) (base : Heap) (N : List Str) (qual : Str) (scope : Scope) (f : Addr) (cd : Value) (A : Around) (outer : List Env) (s : Shared) (H : Hp) (E : XK) : Cx where
  prog := P
  w := w
  K := K
  mg := mg
  base := base
  A := A.deeper (envOfC qual scope s.heap.objs.size f cd)
  N := N
  s₀ := s
  H₀ := H
  env := envOfC qual scope s.heap.objs.size f cd
  outer := outer
  stack := envOfC qual scope s.heap.objs.size f cd :: outer
  ex := []
  calm := true
  fn := fun _ => true
  pn := []
  xe := fun e s' => wpAny (model P w) (A.deeper (envOfC qual scope s.heap.objs.size f cd)) (leaving (envOfC qual scope s.heap.objs.size f cd) e) (fun _ s'' => CX outer H s E e s'') (fun e' s'' => CX outer H s E e' s'') s'
theorem cell_has {sc : Scope} {n : Nat} {x : Str} (h : sc.names.lookup x = some .cell) : ∃ c, (cellsFrom n sc.names []).lookup x = some c := by
  have q := PySem.W.cellsFrom_some sc.names n [] (.inl h)
  exact Option.isSome_iff_exists.mp q
theorem inv_start {CX : CXT} {P : Program} {w : World} {K : PySem.W.Frag} {mg : Str → Option Value} {base : Heap} {N ps : List Str} {qual : Str} {scope : Scope} {f : Addr} {cd : Value} {A : Around} {outer : List Env} {s s1 : Shared} {H : Hp} {E : XK} {us : List Value} {vs : List V}
    (S : FnScope N ps scope) (hd : A.handled = none) (e0 : Env0 P w K mg base A outer s H) (hl : vs.length = ps.length) (r : Vals vs us)
    (x : InCallC s s.heap.objs.size (bindL (envOfC qual scope s.heap.objs.size f cd).kindOf (ps.zip us) fun _ => none) (cellsFrom (s.heap.objs.size + 1) scope.names []) (bindC (envOfC qual scope s.heap.objs.size f cd).kindOf (ps.zip us) fun _ => none) s1) :
    Inv (cxOf CX P w K mg base N qual scope f cd A outer s H E) [] (start N vs) H s1 := by
  have hpl : ps.length ≤ N.length := by have := congrArg List.length S.pre; rw [List.length_take] at this; omega
  obtain ⟨h1, tk, rfl, hk⟩ := x.done
  have noA : ∀ b : Addr, b ∉ (cxOf CX P w K mg base N qual scope f cd A outer s H E).ex := fun b z => absurd (show b ∈ ([] : List Addr) from z) (by simp)
  refine ⟨⟨e0.mod, S.kind, rfl, rfl, Nat.le_refl _, fun y z c h1 h2 => ?_, fun y hy => ?_, fun y c _ h => ?_, fun _ => hd, Around.frames_deeper e0.frames, .inr ⟨rfl, rfl⟩, fun b z => absurd z (noA b), e0.bs, e0.bsz, fun b _ _ => noA b, fun b z => absurd z (noA b), e0.funs, e0.frf⟩,
    rfl, e0.bare, Un.kept hk, ⟨_, x.toInCall.ns, fun i y v h1 h2 h3 => ?_⟩, fun y c h => ⟨_, x.cell y c h⟩, e0.hok.fresh (Nat.le_refl _), fun y c h => ?_, fun p hp => absurd (show p ∈ ([] : List (Addr × Obj)) from hp) (by simp), e0.hok.kept hk, ?_⟩
  · exact name_of_addr x.apart (PySem.mem_of_lookup h1) (PySem.mem_of_lookup h2)
  · have hy : scope.names.lookup y = some .cell ∨ scope.names.lookup y = some .free := hy
    rcases hy with hy | hy
    · exact cell_has hy
    · exact absurd rfl (S.nofree _ (PySem.mem_of_lookup hy))
  · exact Nat.le_of_lt (x.above y c (PySem.mem_of_lookup h))
  · have hi : i < vs.length := by
      unfold start at h2
      by_cases hi : i < vs.length
      · exact hi
      · rw [List.getElem?_append_right (by simpa using hi)] at h2
        rw [List.getElem?_replicate] at h2
        split at h2 <;> cases h2
    have ha : vs[i]? = some v := by
      unfold start at h2
      rw [List.getElem?_append_left (by simpa using hi), List.getElem?_map] at h2
      cases e : vs[i]? with
      | none => rw [e] at h2; cases h2
      | some a => rw [e] at h2; cases h2; rfl
    obtain ⟨u, hu, rv⟩ := r.get ha
    have hp : ps[i]? = some y := by
      rw [← S.pre, List.getElem?_take_of_lt (by omega)]; exact h1
    have ndP : ps.Nodup := by rw [← S.pre]; exact S.nd.sublist (List.take_sublist _ _)
    refine ⟨u, rv, ?_⟩
    rcases S.par y (List.mem_of_getElem? hp) with k | k
    · exact .inl ⟨k, bindL_get ndP hp hu k⟩
    · obtain ⟨c, e⟩ := cell_has (n := s.heap.objs.size + 1) k
      refine .inr ⟨.inl k, c, e, ?_⟩
      have q := x.cell y c e
      rw [bindC_get ndP hp hu (by show scope.names.lookup y ≠ _; rw [k]; decide)] at q
      exact q
  · exact e0.hok.fresh (Nat.le_of_lt (x.above y c (PySem.mem_of_lookup h)))
  · unfold start
    show _ = N.length
    rw [List.length_append, List.length_map, List.length_replicate]
    omega
theorem fn_of {CX : CXT} {P : Program} {w : World} {K : PySem.W.Frag} {mg : Str → Option Value} {base : Heap} {k : Nat} {f : Addr} {name qual : Str} {params : Arguments} {body : List Stmt} {scope : Scope} {dV kV doc pm cdv ct oc : Value} {an od : Option Addr}
    {osl : Array (Option Value)} {N ps : List Str} {sp : Sp} (lk : K.lookup f = some ⟨oc, od, .func (PySem.W.fnOf name qual params body scope dV kV doc pm an cdv ct), osl⟩) (hcd : PySem.W.codeIn K cdv qual = true) (S : FnScope N ps scope)
    (len : ∀ vs H Q E, sp vs H Q E → vs.length = ps.length)
    (hbody : ∀ (A : Around) (outer : List Env) (s : Shared) (H : Hp) (vs : List V) (Q : VK) (E : XK), Room k (A.deeper (envOfC qual scope s.heap.objs.size f cdv)) → sp vs H Q E →
      ∃ t, PSs (cxOf CX P w K mg base N qual scope f cdv A outer s H E) body t ∧ t { nx := fun _ H' => Q .non H', rt := Q } (start N vs) H) :
    FnOk P w K mg base CX (k + 1) f (PySem.W.fnOf name qual params body scope dV kV doc pm an cdv ct) ps sp := by
  refine ⟨len, fun A outer s H args us vs Q E hr e0 hb r hsp => ?_⟩
  have hl := len _ _ _ _ hsp
  have KX : K.In s.heap := e0.mod.kin.keeps fun b o e => (e0.bs b o e).1
  have lim : s.heap.NoLimit := e0.mod.nolimit.keeps fun b o e => (e0.bs b o e).1
  have hkind : ∀ y ∈ ps.zip us, scope.names.lookup y.1 = some .local ∨ (scope.names.lookup y.1 = some .cell ∧ ((cellsFrom (s.heap.objs.size + 1) scope.names []).lookup y.1).isSome = true) := fun ⟨n, v⟩ hy => by
    rcases S.par n (List.of_mem_zip hy).1 with q | q
    · exact .inl q
    · exact .inr ⟨q, PySem.W.cellsFrom_some _ _ _ (.inl q)⟩
  refine codeAny_call_function hr.depth (KX _ _ lk) rfl S.co S.gen rfl (PySem.W.codeRec_of KX hcd) (hb _ _ _ _ ?_)
  refine wpAny_newFunctionEnv_cells S.kind hkind fun env he s1 x => ?_
  subst he
  refine ⟨lim.keeps x.toInCall.keep, codeAny_func ?_⟩
  obtain ⟨t, ht, hq⟩ := hbody A outer s H vs Q E (hr.deeper _) hsp
  have I : Inv (cxOf CX P w K mg base N qual scope f cdv A outer s H E) [] (start N vs) H s1 := inv_start S hr.hd e0 hl r x
  refine wpAny_mono (ht [] s1 (start N vs) H _ I hq) (fun fl s' hs => ?_) fun e s' hs => hs
  have fin : ∀ {σ' : St} {H' : Hp} {v : V} {u : Value}, Inv (cxOf CX P w K mg base N qual scope f cdv A outer s H E) [] σ' H' s' → RelV v u → Q v H' → CE outer P w H s Q u s' :=
    fun {σ' H' v u} J rv q => ⟨v, H', J.os, J.bare, J.base, J.hok, rv, q⟩
  cases fl with
  | ret u =>
    obtain ⟨v, σ', H', J, rv, q⟩ := hs
    exact fin J rv q
  | next =>
    obtain ⟨σ', H', J, q⟩ := hs
    exact fin (v := V.non) (u := Value.none) J rfl q
  | brk =>
    obtain ⟨_, _, _, q⟩ := hs
    exact False.elim q
  | cont =>
    obtain ⟨_, _, _, q⟩ := hs
    exact False.elim q
end L2
namespace L2
open PySem PySem.Spec PyProof.Rows
section
variable {X : Cx} {x : Str} {p pos : Pos} {e : Expr} {es : List Expr} {t : TA} {id T : String} {r : List V → Hp → VK → Prop}
def tCB (r : List V → Hp → VK → Prop) (t : TA) : TE := fun σ H Q => t σ H fun vs H1 => r vs H1 Q
theorem pe_callB (hc : CallR X (.builtin id) r) (hg : Gl X x) (hm : X.mg x = none) (hv : bootBuiltins x = some (.builtin id)) (ha : PA X (e :: es) t) (hn : x ≠ "__name__" := by decide) (hdb : (x == ("__debug__" : Str)) = false := by decide)
    (he : starEach (e :: es) X.env = (false, eval e X.env) :: starEach es X.env := by rfl) (hpl : (backTo pos (starEach es X.env)).any (·.1) = false := by rfl) : PE X (.Call (.Name x p) (e :: es) [] pos) (tCB r t) := by
  intro pins s σ H Q I h
  refine wpAny_Call_Name_kw (ld_blt I hg hm hv ?_ hn hdb)
  exact PyProof.Rows.callWith_builtin1 (thn (ha pos pins s σ H _ I h) fun us s1 ⟨vs, H1, I1, r1, q1⟩ => hc pins s1 σ H1 vs us Q I1 r1 q1) he hpl
theorem pe_callTy (hc : CallR X (.type T) r) (hg : Gl X x) (hm : X.mg x = none) (hv : bootBuiltins x = some (.type T)) (ha : PA X (e :: es) t) (hn : x ≠ "__name__" := by decide) (hdb : (x == ("__debug__" : Str)) = false := by decide)
    (he : starEach (e :: es) X.env = (false, eval e X.env) :: starEach es X.env := by rfl) (hpl : (backTo pos (starEach es X.env)).any (·.1) = false := by rfl) : PE X (.Call (.Name x p) (e :: es) [] pos) (tCB r t) := by
  intro pins s σ H Q I h
  refine wpAny_Call_Name_kw (ld_blt I hg hm hv ?_ hn hdb)
  exact PyProof.Rows.callWith_type1 (thn (ha pos pins s σ H _ I h) fun us s1 ⟨vs, H1, I1, r1, q1⟩ => hc pins s1 σ H1 vs us Q I1 r1 q1) he hpl
end
end L2
namespace HT
open PySem PyProof.Rows
section
open PySem.SeqAt
open PySem.AutoSeq1 (wpAny_loadPart')
open PySem.MeetsSeq PySem.MeetsSeq2 PySem.MeetsSeq3
end
section
variable {prog : Program} {w : World} {A : Around} {E : Value → Shared → Prop} {s : Shared}
theorem cat_tup {t b : Addr} {vs ws : List Value} {Q : Value → Shared → Prop} (ht : IsTup s.heap t vs.toArray) (hb : IsTup s.heap b ws.toArray) (hv : vs ≠ [])
    (h1 : ws = [] → Q (.ref t) s) (h2 : ws ≠ [] → Q (.ref s.heap.objs.size) { s with heap := s.heap.push { cls := .type "tuple", data := .seq (vs ++ ws).toArray } })
    (hsz : vs.length + ws.length ≤ sizeLine) : wpAny (model prog w) A (binaryOp .Add (.ref t) (.ref b)) Q E s := by
  obtain ⟨⟨cls, dd, data, sl⟩, ho, hc, n, hd⟩ := id ht
  obtain ⟨⟨cls2, dd2, data2, sl2⟩, ho2, hc2, n2, hd2⟩ := id hb
  simp only at hc hd hc2 hd2
  subst hc hd hc2 hd2
  have e : vs.toArray ++ ws.toArray = (vs ++ ws).toArray := by simp
  by_cases hw : ws = []
  · exact concat_meets ⟨_, ho, rfl⟩ ⟨_, ho2, rfl⟩ noFill_tuple_add seq_tuple_add PySem.F.slot_tuple_add PySem.F.entry_tuple_add (PySem.F.args_tuple_add_2 _ _)
      (tuple_addW1 t b vs.toArray ws.toArray n n2 dd dd2 sl sl2 (by simpa using hv) (by simp [hw])) ⟨ho, ho2, h1 hw⟩
  · refine concat_meets ⟨_, ho, rfl⟩ ⟨_, ho2, rfl⟩ noFill_tuple_add seq_tuple_add PySem.F.slot_tuple_add PySem.F.entry_tuple_add (PySem.F.args_tuple_add_2 _ _)
      (tuple_addW2 t b vs.toArray ws.toArray n n2 dd dd2 sl sl2 (by simpa using hv) (by simpa using hw) (by rw [List.size_toArray, List.size_toArray]; exact hsz)) ⟨ho, ho2, ?_⟩
    rw [e]
    exact h2 hw
def sIx (n d : Nat) : Option Int → Nat
  | none => d
  | some v => if v < 0 then (v + (n : Int)).toNat else min v.toNat n
theorem sIx_none (n d : Nat) : sIx n d none = d := rfl
theorem sIx_nat (n d k : Nat) : sIx n d (some (k : Int)) = min k n := by
  show (if (k : Int) < 0 then ((k : Int) + (n : Int)).toNat else min (k : Int).toNat n) = min k n
  rw [if_neg (by omega), Int.toNat_natCast]
theorem sIx_le (n d : Nat) (hd : d ≤ n) (o : Option Int) : sIx n d o ≤ n := by
  cases o with
  | none => exact hd
  | some v =>
    show (if v < 0 then (v + (n : Int)).toNat else min v.toNat n) ≤ n
    by_cases hv : v < 0
    · rw [if_pos hv]; omega
    · rw [if_neg hv]; exact Nat.min_le_right _ _
theorem clip_eq (v : Int) (n d : Nat) : (if v < 0 then max (v + (n : Int)) 0 else min v (n : Int)) = ((sIx n d (some v) : Nat) : Int) := by
  show (if v < 0 then max (v + (n : Int)) 0 else min v (n : Int)) = (((if v < 0 then (v + (n : Int)).toNat else min v.toNat n) : Nat) : Int)
  by_cases hv : v < 0
  · simp only [if_pos hv]; omega
  · simp only [if_neg hv]; omega
theorem adjust_gen (lo hi : Option Int) (n : Nat) : Builtin.Slice.sliceAdjust lo hi 1 (n : Int) = (((sIx n 0 lo : Nat) : Int), ((sIx n n hi : Nat) : Int)) := by
  have h1 : ¬ ((1 : Int) < 0) := by omega
  unfold Builtin.Slice.sliceAdjust
  simp only [h1, if_false]
  refine Prod.ext ?_ ?_
  · cases lo with
    | none => rfl
    | some v => exact clip_eq v n 0
  · cases hi with
    | none => rfl
    | some v => exact clip_eq v n n
theorem places_gen (i j : Nat) : Builtin.Slice.slicePlaces (i : Int) (j : Int) 1 = j - i := by
  unfold Builtin.Slice.slicePlaces
  have h1 : (1 : Int) > 0 := by omega
  simp only [h1, if_true, Int.ediv_one]
  split <;> omega
theorem slicePart_ {v : Value} {o : Option Int} {Q : Option Int → Shared → Prop} (p : IsPart v o) (h : Q o s) : wpAny (model prog w) A (Builtin.Slice.slicePartIndex v) Q E s := by
  cases p with
  | none => exact slicePart_none h
  | int i t => exact slicePart_int h
theorem sliceApplied_gen {sl : Addr} {vl vu : Value} {lo hi : Option Int} {n : Nat} {Q : Int × Int × Nat → Shared → Prop} (hs : s.heap.IsSliceOf sl vl vu .none) (pl : IsPart vl lo) (pu : IsPart vu hi)
    (h : Q (((sIx n 0 lo : Nat) : Int), 1, sIx n n hi - sIx n 0 lo) s) : wpAny (model prog w) A (Builtin.Slice.sliceApplied (.ref sl) (pure (n : Int))) Q E s := by
  obtain ⟨os, hos, hcs, hds⟩ := id hs
  unfold Builtin.Slice.sliceApplied Builtin.Slice.sliceFields
  refine wpAny_bind (wpAny_bind (wpAny_field hos hds (x := vl) rfl (wpAny_bind (wpAny_field hos hds (x := vu) rfl (wpAny_bind (wpAny_field hos hds (x := .none) rfl (wpAny_pure ?_)))))))
  refine wpAny_bind (slicePart_none ?_)
  show wpAny _ _ (if ((1 : Int) == 0) = true then _ else _) _ _ s
  rw [if_neg (by decide)]
  refine wpAny_bind (slicePart_ pl (wpAny_bind (slicePart_ pu (wpAny_bind (wpAny_pure ?_)))))
  show wpAny _ _ (match Builtin.Slice.sliceAdjust lo hi 1 (n : Int) with | (lo, hi) => pure (lo, (1 : Int), Builtin.Slice.slicePlaces lo hi 1)) _ _ s
  rw [adjust_gen lo hi n]
  show wpAny _ _ (pure (((sIx n 0 lo : Nat) : Int), (1 : Int), Builtin.Slice.slicePlaces ((sIx n 0 lo : Nat) : Int) ((sIx n n hi : Nat) : Int) 1)) _ _ s
  rw [places_gen]
  exact wpAny_pure h
theorem pick_gen (xs : Array Value) (i k : Nat) : ((List.range k).filterMap fun (m : Nat) => xs[((i : Int) + (m : Int) * 1).toNat]?).toArray = ((xs.toList.drop i).take k).toArray := by
  have e : (fun (m : Nat) => xs[((i : Int) + (m : Int) * 1).toNat]?) = fun m => xs[i + m]? := by
    funext m
    have : ((i : Int) + (m : Int) * 1).toNat = i + m := by omega
    rw [this]
  rw [e]
  have := pick_run xs i k
  rw [List.filterMap_map] at this
  have e2 : ((fun x => xs[x]?) ∘ fun x => i + x) = fun m => xs[i + m]? := rfl
  rw [e2] at this
  rw [this]
theorem getItem_tuple_cut {t sl : Addr} {items : Array Value} {vl vu : Value} {lo hi : Option Int} {Q : Value → Shared → Prop} (ht : IsTup s.heap t items) (hs : s.heap.IsSliceOf sl vl vu .none) (pl : IsPart vl lo) (pu : IsPart vu hi)
    (hw : ¬ (sIx items.size 0 lo = 0 ∧ sIx items.size items.size hi = items.size))
    (h : Q (.ref s.heap.objs.size) { s with heap := s.heap.push { cls := .type "tuple", data := .seq ((items.toList.drop (sIx items.size 0 lo)).take (sIx items.size items.size hi - sIx items.size 0 lo)).toArray } })
    (hsz : items.size ≤ sizeLine) : wpAny (model prog w) A (getItem (.ref t) (.ref sl)) Q E s := by
  have htake : sizeOk (.seq ((items.toList.drop (sIx items.size 0 lo)).take (sIx items.size items.size hi - sIx items.size 0 lo)).toArray) := by
    show ((items.toList.drop (sIx items.size 0 lo)).take (sIx items.size items.size hi - sIx items.size 0 lo)).toArray.size ≤ sizeLine
    rw [List.size_toArray, List.length_take, List.length_drop, Array.length_toList]
    omega
  have hj : sIx items.size items.size hi ≤ items.size := sIx_le _ _ (Nat.le_refl _) hi
  obtain ⟨os, hos, hcs, hds⟩ := id hs
  have hTs : s.TypeIs (.ref sl) "slice" := ⟨os, hos, hcs⟩
  unfold getItem
  try with_reducible refine wpAny_holding ?_
  first | refine wpAny_bind (wpAny_pure ?_) | skip
  refine wpAny_bind (wpAny_sequenceKey ht.typeIs (by decide) ?_)
  refine wpAny_bind (wpAny_callSpecial?_slot (name := Str.ofString "__getitem__") ht.typeIs PyProof.Rows.slot_tuple_getitem
    (wpAny_call_entry PyProof.Rows.slot_tuple_getitem ht.typeIs entry_tuple_getitem ?_ (args_tuple_getitem _ _)))
  show wpAny _ _ (Builtin.Tuple.tupleItemsOf (.ref t) >>= _) _ _ s
  refine wpAny_bind (tupleItemsOf_ ht ?_)
  refine wpAny_bind (wpAny_typeOf hTs ?_)
  rw [if_pos (by decide)]
  refine wpAny_bind (sliceApplied_gen hs pl pu ?_)
  have hno : ¬ ((((sIx items.size 0 lo : Nat) : Int) == 0 && (1 : Int) == 1 && (sIx items.size items.size hi - sIx items.size 0 lo) == items.size) = true) := by
    intro q
    rw [Bool.and_eq_true, Bool.and_eq_true] at q
    have q1 : ((sIx items.size 0 lo : Nat) : Int) = 0 := eq_of_beq q.1.1
    have q2 : sIx items.size items.size hi - sIx items.size 0 lo = items.size := eq_of_beq q.2
    exact hw ⟨by omega, by omega⟩
  show wpAny _ _ (if (((sIx items.size 0 lo : Nat) : Int) == 0 && (1 : Int) == 1 && (sIx items.size items.size hi - sIx items.size 0 lo) == items.size) = true then _ else _) _ _ s
  rw [if_neg hno, pick_gen]
  first
    | exact wpAny_bind (m := Builtin.Tuple.tupleExact _) (wpAny_newObj_type (wpAny_pure ⟨_, rfl, wpAny_pure h⟩) htake)
    | exact wpAny_bind (m := Builtin.Tuple.tupleExact _) (wpAny_newObj_type (wpAny_bind (wpAny_pure (wpAny_pure ⟨_, rfl, wpAny_pure h⟩))) htake)
    | exact wpAny_bind (wpAny_bind (m := Builtin.Tuple.tupleExact _) (wpAny_newObj_type (wpAny_pure (wpAny_pure ⟨_, rfl, wpAny_pure h⟩)) htake))
    | exact wpAny_bind (wpAny_bind (m := Builtin.Tuple.tupleExact _) (wpAny_newObj_type (wpAny_pure ⟨_, rfl, wpAny_pure h⟩) htake))
end
end HT
namespace L2
open PySem PySem.Spec PyProof.Rows
abbrev TO := St → Hp → (Option Int → Hp → Prop) → Prop
def PO (X : Cx) (e : Option Expr) (t : TO) : Prop :=
  ∀ (pins : List (Addr × Obj)) (s : Shared) (σ : St) (H : Hp) (Q : Option Int → Hp → Prop), Inv X pins σ H s → t σ H Q →
    wpAny (model X.prog X.w) X.A (evalPart e X.env) (fun u s' => ∃ o H', Inv X pins σ H' s' ∧ IsPart u o ∧ Q o H') X.xe s
def tNoPart : TO := fun _ H Q => Q none H
def tPart (t : TE) : TO := fun σ H Q => t σ H fun x H1 => ∃ i, x = .int i ∧ Q (some i) H1
section
variable {X : Cx} {e : Expr} {te : TE} {lo hi : Option Expr} {tl th : TO} {pos p2 : Pos}
theorem po_none : PO X none tNoPart := by
  intro pins s σ H Q I h
  rw [evalPart_none]
  exact wpAny_pure ⟨none, H, I, .none, h⟩
theorem po_some (h : PE X e te) : PO X (some e) (tPart te) := by
  intro pins s σ H Q I hw
  rw [evalPart_some]
  refine thn (h pins s σ H _ I hw) fun u s1 ⟨x, H1, I1, r1, q1⟩ => ?_
  obtain ⟨i, rfl, q⟩ := q1
  obtain ⟨t, rfl⟩ := r1
  exact ⟨some i, H1, I1, .int i t, q⟩
def SlR (X : Cx) (r : V → Option Int → Option Int → Hp → VK → Prop) : Prop :=
  ∀ (pins : List (Addr × Obj)) (s : Shared) (σ : St) (H : Hp) (x : V) (v vl vu : Value) (lo hi : Option Int) (sl : Addr) (Q : VK), Inv X pins σ H s → RelV x v → s.heap.IsSliceOf sl vl vu .none → IsPart vl lo → IsPart vu hi → r x lo hi H Q →
    ∃ T id, typeLookup (.type T) "__getitem__" = pure (some (.builtin id)) ∧ s.TypeIs v T ∧ wpAny (model X.prog X.w) X.A (getItem v (.ref sl)) (EP X pins σ Q) X.xe s
theorem SlR.or {r r' : V → Option Int → Option Int → Hp → VK → Prop} (h : SlR X r) (h' : SlR X r') : SlR X (fun x lo hi H Q => r x lo hi H Q ∨ r' x lo hi H Q) := by
  intro pins s σ H x v vl vu lo hi sl Q I rx hs pl pu q
  rcases q with q | q
  · exact h pins s σ H x v vl vu lo hi sl Q I rx hs pl pu q
  · exact h' pins s σ H x v vl vu lo hi sl Q I rx hs pl pu q
def tSl (r : V → Option Int → Option Int → Hp → VK → Prop) (te : TE) (tl th : TO) : TE := fun σ H Q => te σ H fun x H1 => tl σ H1 fun l H2 => th σ H2 fun u H3 => r x l u H3 Q
theorem pe_slice {r : V → Option Int → Option Int → Hp → VK → Prop} (hr : SlR X r) (he : PE X e te) (hl : PO X lo tl) (hu : PO X hi th) : PE X (.Subscript e (.Slice lo hi none p2) pos) (tSl r te tl th) := by
  intro pins s σ H Q I h
  refine Subscript_ (thn (he pins s σ H _ I h) fun v s1 ⟨x, H1, I1, r1, q1⟩ => ?_)
  refine wpAny_Slice (thn (hl pins s1 σ H1 _ I1 q1) fun vl s2 ⟨l, H2, I2, pl, q2⟩ => thn (hu pins s2 σ H2 _ I2 q2) fun vu s3 ⟨u, H3, I3, pu, q3⟩ => ?_)
  rw [evalPart_none]
  refine wpAny_pure ?_
  have I4 : Inv X pins σ H3 { s3 with heap := s3.heap.push { cls := .type "slice", data := .fields #[vl, vu, .none] } } := I3.kept (t' := s3.toks) fun b ob q => Heap.get?_push_of_some _ q
  obtain ⟨T, id, hT, ht, hg⟩ := hr pins { s3 with heap := s3.heap.push { cls := .type "slice", data := .fields #[vl, vu, .none] } } σ H3 x v vl vu l u s3.heap.objs.size Q I4 r1 (Heap.IsSliceOf.new ..) pl pu q3
  show wpAny (model X.prog X.w) X.A (subscriptTail e (.Slice lo hi none p2) v (.ref s3.heap.objs.size)) (EP X pins σ Q) X.xe { s3 with heap := s3.heap.push { cls := .type "slice", data := .fields #[vl, vu, .none] } }
  exact tail_any (ops := [.ref s3.heap.objs.size, v]) ht hT hg (by with_unfolding_all rfl)
def cutV (xs : List V) (lo hi : Option Int) : List V := (xs.drop (HT.sIx xs.length 0 lo)).take (HT.sIx xs.length xs.length hi - HT.sIx xs.length 0 lo)
theorem cutV_length (xs : List V) (lo hi : Option Int) : (cutV xs lo hi).length ≤ xs.length := by
  unfold cutV
  rw [List.length_take, List.length_drop]
  omega
def rSlT (K : PySem.W.Frag) : V → Option Int → Option Int → Hp → VK → Prop := fun x lo hi H Q => ∃ a xs, x = .ref a ∧ SqT K H a xs ∧
  ¬ (HT.sIx xs.length 0 lo = 0 ∧ HT.sIx xs.length xs.length hi = xs.length) ∧ ∀ p, H p = none → Q (.ref p) (upd H p (.tup (cutV xs lo hi)))
theorem sl_tup : SlR X (rSlT X.K) := by
  intro pins s σ H x v vl vu lo hi sl Q I rx hs pl pu h
  obtain ⟨a, xs, rfl, hx, hw, q⟩ := h
  cases rx
  obtain ⟨its, r, ht, hz⟩ := I.tuple hx
  have hlen : its.toArray.size = xs.length := by rw [List.size_toArray]; exact r.length.symm
  refine ⟨"tuple", _, PyProof.Rows.slot_tuple_getitem.lookup, ht.typeIs, ?_⟩
  refine HT.getItem_tuple_cut ht hs pl pu (by rw [hlen]; exact hw) ?_ (by rw [hlen]; exact hz)
  rw [hlen]
  refine ⟨.ref s.heap.objs.size, _, I.laid (t' := s.toks) (o := .tup (cutV xs lo hi)) (fun b ob q => Heap.get?_push_of_some _ q) (Nat.le_refl _) ?_, rfl, q _ (I.hok.fresh (Nat.le_refl _))⟩
  exact ⟨Nat.le_trans (cutV_length xs lo hi) hz, _, (r.drop (HT.sIx xs.length 0 lo)).take (HT.sIx xs.length xs.length hi - HT.sIx xs.length 0 lo), IsTup.new _ _⟩
def rCatT (K : PySem.W.Frag) : R2 := fun x y H Q => ∃ a b xs ys, x = .ref a ∧ y = .ref b ∧ SqT K H a xs ∧ SqT K H b ys ∧ xs ≠ [] ∧ xs.length + ys.length ≤ sizeLine ∧
  (ys = [] → Q (.ref a) H) ∧ (ys ≠ [] → ∀ p, H p = none → Q (.ref p) (upd H p (.tup (xs ++ ys))))
theorem Vals.nil_iff {xs : List V} {us : List Value} (r : Vals xs us) : us = [] ↔ xs = [] := by
  cases r with
  | nil => simp
  | cons _ _ => simp
theorem op_catT : OpR X (binaryOp .Add) (rCatT X.K) := by
  intro pins s σ H x y v u Q I rx ry h
  obtain ⟨a, b, xs, ys, rfl, rfl, ha, hb, hx, hz, q1, q2⟩ := h
  cases rx
  cases ry
  obtain ⟨its, r1, p1, _⟩ := I.tuple ha
  obtain ⟨its2, r2, p2, _⟩ := I.tuple hb
  refine HT.cat_tup p1 p2 (fun z => hx (r1.nil_iff.mp z)) (fun z => ⟨.ref a, H, I, rfl, q1 (r2.nil_iff.mp z)⟩) (fun z => ?_) (by rw [← r1.length, ← r2.length]; exact hz)
  refine ⟨.ref s.heap.objs.size, _, I.laid (t' := s.toks) (o := .tup (xs ++ ys)) (fun b ob q => Heap.get?_push_of_some _ q) (Nat.le_refl _) ?_, rfl, q2 (fun w => z (r2.nil_iff.mpr w)) _ (I.hok.fresh (Nat.le_refl _))⟩
  exact ⟨by rw [List.length_append]; exact hz, _, r1.append r2, IsTup.new _ _⟩
end
end L2
namespace L2
open PySem PySem.Spec PyProof.Rows
def ixN (n : Nat) (i : Int) : Option Nat := if 0 ≤ i then (if i < n then some i.toNat else none) else if -(n : Int) ≤ i then some (i + n).toNat else none
def atI {α : Type} (xs : List α) (i : Int) : Option α := (ixN xs.length i).bind fun j => xs[j]?
theorem ixN_seq {n : Nat} {i : Int} {j : Nat} (h : ixN n i = some j) : seqIndex? i n = some j ∧ j < n ∧ -(n : Int) ≤ i ∧ i < n := by
  unfold ixN at h
  by_cases h0 : 0 ≤ i
  · rw [if_pos h0] at h
    by_cases h1 : i < n
    · rw [if_pos h1] at h
      have e : i.toNat = j := Option.some.inj h
      exact ⟨by rw [seqIndex_of h0 h1, e], by omega, by omega, h1⟩
    · rw [if_neg h1] at h; cases h
  · rw [if_neg h0] at h
    by_cases h1 : -(n : Int) ≤ i
    · rw [if_pos h1] at h
      have e : (i + n).toNat = j := Option.some.inj h
      exact ⟨by rw [seqIndex_neg (by omega) h1, e], by omega, h1, by omega⟩
    · rw [if_neg h1] at h; cases h
theorem atI_get {α : Type} {xs : List α} {i : Int} {v : α} (h : atI xs i = some v) : ∃ j, seqIndex? i xs.length = some j ∧ xs[j]? = some v ∧ j < xs.length ∧ -(xs.length : Int) ≤ i ∧ i < xs.length := by
  unfold atI at h
  cases e : ixN xs.length i with
  | none => rw [e] at h; cases h
  | some j =>
    rw [e] at h
    obtain ⟨h1, h2, h3, h4⟩ := ixN_seq e
    exact ⟨j, h1, h, h2, h3, h4⟩
theorem atI_nat {α : Type} {xs : List α} {j : Nat} {v : α} (h : xs[j]? = some v) : atI xs (j : Int) = some v := by
  have hj : j < xs.length := (List.getElem?_eq_some_iff.mp h).1
  have e : ixN xs.length (j : Int) = some j := by
    unfold ixN
    rw [if_pos (by omega), if_pos (by omega)]; simp
  unfold atI; rw [e]; exact h
def PlainIx (b : Expr) : Prop := ∀ o i, subscripted b false o i = operate [o, i] (getItem o i)
def IxR (X : Cx) (r : R2) : Prop :=
  ∀ (value slice : Expr) (pins : List (Addr × Obj)) (s : Shared) (σ : St) (H : Hp) (x y : V) (v u : Value) (Q : VK), Inv X pins σ H s → RelV x v → RelV y u → r x y H Q →
    subscripted slice false v u = operate [v, u] (getItem v u) → wpAny (model X.prog X.w) X.A (subscriptTail value slice v u) (EP X pins σ Q) X.xe s
def MtR (X : Cx) (id : String) (r : V → List V → Hp → VK → Prop) : Prop :=
  ∀ (pins : List (Addr × Obj)) (s : Shared) (σ : St) (H : Hp) (x : V) (xs : List V) (v : Value) (us : List Value) (Q : VK), Inv X pins σ H s → RelV x v → Vals xs us → r x xs H Q →
    wpAny (model X.prog X.w) X.A (call (.builtin id) (v :: us)) (EP X pins σ Q) X.xe s
section
variable {X : Cx} {a b : Expr} {ta tb : TE} {pos : Pos}
theorem IxR.or {r r' : R2} (h : IxR X r) (h' : IxR X r') : IxR X (fun x y H Q => r x y H Q ∨ r' x y H Q) := by
  intro value slice pins s σ H x y v u Q I rx ry q hs
  rcases q with q | q
  · exact h value slice pins s σ H x y v u Q I rx ry q hs
  · exact h' value slice pins s σ H x y v u Q I rx ry q hs
theorem pe_ix {r : R2} (hr : IxR X r) (ha : PE X a ta) (hb : PE X b tb) (hs : PlainIx b) : PE X (.Subscript a b pos) (tOp r ta tb) := by
  intro pins s σ H Q I h
  exact Subscript_ (binT ha hb I h fun v u s2 x y H2 I2 rx ry q => hr a b pins s2 σ H2 x y v u Q I2 rx ry q (hs _ _))
def rIxL (K : PySem.W.Frag) : R2 := fun x y H Q => ∃ p xs i v, x = .ref p ∧ y = .int i ∧ SqL K H p xs ∧ atI xs i = some v ∧ Q v H
def rIxT (K : PySem.W.Frag) : R2 := fun x y H Q => ∃ p xs i v, x = .ref p ∧ y = .int i ∧ SqT K H p xs ∧ atI xs i = some v ∧ Q v H
theorem ix_list : IxR X (rIxL X.K) := by
  intro value slice pins s σ H x y v u Q I rx ry h hs
  obtain ⟨p, xs, i, z, rfl, rfl, hq, he, q⟩ := h
  cases rx
  obtain ⟨t, rfl⟩ := ry
  obtain ⟨its, r, pl, hz⟩ := I.list hq
  obtain ⟨j, h1, h2, h3, h4, h5⟩ := atI_get he
  obtain ⟨w, ew, rw'⟩ := r.get h2
  have hl := r.length
  have hn := line63
  have fin : EP X pins σ Q w s := ⟨z, H, I, rw', q⟩
  by_cases h0 : 0 ≤ i
  · have hj : i.toNat = j := by
      rw [seqIndex_of h0 h5] at h1
      exact Option.some.inj h1
    exact item_listR pl.isList h0 (by omega) (by rw [hj]; simpa using ew) fin hs
  · have hj : (i + (its.toArray.size : Int)).toNat = j := by
      rw [seqIndex_neg (by omega) h4] at h1
      rw [List.size_toArray, ← hl]
      exact Option.some.inj h1
    exact subscriptTail_builtinR (x := w) pl.isList.typeIs slot_list_getitem.lookup
      (wpAny_getItem_list_neg (Q := fun r s' => r = w ∧ EP X pins σ Q r s') pl.isList (by omega) (by rw [List.size_toArray] <;> omega) (by omega) (by rw [hj]; simpa using ew) ⟨rfl, fin⟩) hs
theorem ix_tup : IxR X (rIxT X.K) := by
  intro value slice pins s σ H x y v u Q I rx ry h hs
  obtain ⟨p, xs, i, z, rfl, rfl, hq, he, q⟩ := h
  cases rx
  obtain ⟨t, rfl⟩ := ry
  obtain ⟨its, r, pl, hz⟩ := I.tuple hq
  obtain ⟨j, h1, h2, h3, h4, h5⟩ := atI_get he
  obtain ⟨w, ew, rw'⟩ := r.get h2
  have hl := r.length
  have hn := line63
  have fin : EP X pins σ Q w s := ⟨z, H, I, rw', q⟩
  exact subscriptTail_builtinR (x := w) pl.typeIs slot_tuple_getitem.lookup
    (getItem_tuple (j := j) (Q := fun r s' => r = w ∧ EP X pins σ Q r s') pl (by omega) (by omega) (by rw [List.size_toArray, ← hl]; exact h1) (by simpa using ew) ⟨rfl, fin⟩) hs
theorem mapSeq_set (its : List Value) (n j : Nat) (u : Value) : Obj.mapSeq (·.setIfInBounds j u) { cls := .type "list", data := .seq its.toArray n } = { cls := .type "list", data := .seq (its.set j u).toArray n } := by
  simp [Obj.mapSeq]
theorem Inv.lst {pins : List (Addr × Obj)} {σ : St} {H : Hp} {s : Shared} {p : Addr} {xs : List V} (I : Inv X pins σ H s) (h : H p = some (.lst xs)) :
    ∃ (its : List Value) (n : Nat), Vals xs its ∧ s.heap.get? p = some { cls := .type "list", data := .seq its.toArray n } ∧ xs.length ≤ sizeLine := by
  obtain ⟨z, its, n, r, e⟩ := I.hok p _ h
  exact ⟨its, n, r, e, z⟩
theorem Inv.lstUpd {pins : List (Addr × Obj)} {σ : St} {H : Hp} {s : Shared} {p : Addr} {xs ys : List V} {its its' : List Value} {n n' : Nat} {f : Obj → Obj} (I : Inv X pins σ H s) (h : H p = some (.lst xs))
    (ho : s.heap.get? p = some { cls := .type "list", data := .seq its.toArray n }) (hf : f { cls := .type "list", data := .seq its.toArray n } = { cls := .type "list", data := .seq its'.toArray n' }) (r : Vals ys its') (hz : ys.length ≤ sizeLine) (t : Nat) :
    Inv X pins σ (upd H p (.lst ys)) { s with heap := s.heap.update p f, toks := t } := by
  have e : (s.heap.update p f).get? p = some { cls := .type "list", data := .seq its'.toArray n' } := by
    rw [Heap.get?_update_self f ho (by rw [hf] <;> rfl), hf]
  refine I.write (x := p) (e := p) (by rw [h]; trivial) (.inl rfl) (fun b u hb q => (Heap.get?_update_other _ _ (Ne.symm hb)).trans q) ⟨_, e⟩ ?_
  exact ⟨hz, its', n', r, e⟩
def rSetL : V → V → V → Hp → (Hp → Prop) → Prop := fun o i v H Q => ∃ p xs k j, o = .ref p ∧ i = .int k ∧ H p = some (.lst xs) ∧ ixN xs.length k = some j ∧ Q (upd H p (.lst (xs.set j v)))
theorem set_list : PSet X rSetL := by
  intro pins s σ H o i v ov iv u Q I ro ri rv h
  obtain ⟨p, xs, k, j, rfl, rfl, hp, hj, q⟩ := h
  cases ro
  obtain ⟨t, rfl⟩ := ri
  obtain ⟨its, n, r, ho, hz⟩ := I.lst hp
  obtain ⟨h1, h2, h3, h4⟩ := ixN_seq hj
  have hl := r.length
  have hn := line63
  have I' : Inv X pins σ (upd H p (.lst (xs.set j v))) { s with heap := s.heap.update p (Obj.mapSeq (·.setIfInBounds j u)) } :=
    I.lstUpd hp ho (mapSeq_set its n j u) (r.set rv j) (by rw [List.length_set]; exact hz) s.toks
  by_cases h0 : 0 ≤ k
  · have hk : k.toNat = j := by
      rw [seqIndex_of h0 h4] at h1
      exact Option.some.inj h1
    exact PySem.W.ki_setAt ho h0 (by omega) (by rw [List.size_toArray, ← hl]; exact h4) (by rw [hk]; exact ⟨_, I', q⟩)
  · have hk : (k + (its.toArray.size : Int)).toNat = j := by
      rw [seqIndex_neg (by omega) h3] at h1
      rw [List.size_toArray, ← hl]
      exact Option.some.inj h1
    exact PySem.W.ki_setBack ho (by omega) (by rw [List.size_toArray, ← hl]; exact h3) (by omega) (by rw [hk]; exact ⟨_, I', q⟩)
theorem slice_bounds (lo hi : Option Int) (n : Nat) : (sliceBounds lo hi none n).1 = ((HT.sIx n 0 lo : Nat) : Int) ∧ (sliceBounds lo hi none n).2.1 = ((HT.sIx n n hi : Nat) : Int) ∧ (sliceBounds lo hi none n).2.2 = 1 := by
  refine ⟨?_, ?_, rfl⟩
  · cases lo with
    | none => simp [sliceBounds, HT.sIx]
    | some i =>
      simp only [sliceBounds, HT.sIx, Option.getD_none, show (1 : Int) > 0 by decide, if_true]
      by_cases h : i < 0
      · simp only [h, if_true] <;> omega
      · simp only [h, if_false] <;> omega
  · cases hi with
    | none => simp [sliceBounds, HT.sIx]
    | some i =>
      simp only [sliceBounds, HT.sIx, Option.getD_none, show (1 : Int) > 0 by decide, if_true]
      by_cases h : i < 0
      · simp only [h, if_true] <;> omega
      · simp only [h, if_false] <;> omega
theorem slicePick_cut (its : List Value) (lo hi : Option Int) : slicePick its.toArray lo hi none = ((its.drop (HT.sIx its.length 0 lo)).take (HT.sIx its.length its.length hi - HT.sIx its.length 0 lo)).toArray := by
  obtain ⟨h1, h2, h3⟩ := slice_bounds lo hi its.toArray.size
  unfold slicePick
  rw [h1, h2, h3]
  simp only [sliceRange_one, pick_run, List.size_toArray] <;> rfl
def rSlL (K : PySem.W.Frag) : V → Option Int → Option Int → Hp → VK → Prop := fun x lo hi H Q => ∃ a xs, x = .ref a ∧ SqL K H a xs ∧ ∀ p, H p = none → Q (.ref p) (upd H p (.lst (cutV xs lo hi)))
theorem sl_list : SlR X (rSlL X.K) := by
  intro pins s σ H x v vl vu lo hi sl Q I rx hs pl pu h
  obtain ⟨a, xs, rfl, hx, q⟩ := h
  cases rx
  obtain ⟨its, r, ht, hz⟩ := I.list hx
  have hlen := r.length
  refine ⟨"list", _, slot_list_getitem.lookup, ht.isList.typeIs, ?_⟩
  refine wpAny_getItem_list_slice ht.isList hs pl pu .none (by simp) ?_ (by rw [List.size_toArray] <;> omega)
  rw [slicePick_cut, ← hlen]
  refine ⟨.ref s.heap.objs.size, _, I.laid (t' := s.toks) (o := .lst (cutV xs lo hi)) (fun b ob q => Heap.get?_push_of_some _ q) (Nat.le_refl _) ?_, rfl, q _ (I.hok.fresh (Nat.le_refl _))⟩
  exact ⟨Nat.le_trans (cutV_length xs lo hi) hz, _, 0, (r.drop (HT.sIx xs.length 0 lo)).take (HT.sIx xs.length xs.length hi - HT.sIx xs.length 0 lo), Heap.get?_push_size _ rfl⟩
def flatV : V → Bool
  | .non => true
  | .bl _ => true
  | .int _ => true
  | .str _ => true
  | _ => false
def eqV : V → V → Bool
  | .non, .non => true
  | .bl a, .bl b => a == b
  | .bl a, .int b => (if a then 1 else 0) == b
  | .int a, .bl b => a == (if b then 1 else 0)
  | .int a, .int b => a == b
  | .str a, .str b => a == b
  | _, _ => false
theorem eqAt_V {A : Around} {s : Shared} {y x : V} {u v : Value} (ry : RelV y u) (rx : RelV x v) (fy : flatV y = true) (fx : flatV x = true) : SeqAt.EqAt A s u v (eqV y x) := by
  cases y with
  | non =>
    cases ry
    cases x with
    | non => cases rx; exact SeqAt.EqAt.same _
    | bl b => cases rx; exact SeqAt.EqAt.none_bool b
    | int b => obtain ⟨t, rfl⟩ := rx; exact SeqAt.EqAt.none_int b t
    | str b => obtain ⟨t, rfl⟩ := rx; exact SeqAt.EqAt.none_str b t
    | _ => exact absurd (show false = true from fx) Bool.false_ne_true
  | bl a =>
    cases ry
    cases x with
    | non => cases rx; exact SeqAt.EqAt.bool_none a
    | bl b => cases rx; exact SeqAt.EqAt.bool_bool a b
    | int b => obtain ⟨t, rfl⟩ := rx; exact SeqAt.EqAt.bool_int a b t
    | str b => obtain ⟨t, rfl⟩ := rx; exact SeqAt.EqAt.bool_str a b t
    | _ => exact absurd (show false = true from fx) Bool.false_ne_true
  | int a =>
    obtain ⟨t', rfl⟩ := ry
    cases x with
    | non => cases rx; exact SeqAt.EqAt.int_none a t'
    | bl b => cases rx; exact SeqAt.EqAt.int_bool a t' b
    | int b => obtain ⟨t, rfl⟩ := rx; exact SeqAt.EqAt.int_int a t' b t
    | str b => obtain ⟨t, rfl⟩ := rx; exact SeqAt.EqAt.int_str a t' b t
    | _ => exact absurd (show false = true from fx) Bool.false_ne_true
  | str a =>
    obtain ⟨t', rfl⟩ := ry
    cases x with
    | non => cases rx; exact SeqAt.EqAt.str_none a t'
    | bl b => cases rx; exact SeqAt.EqAt.str_bool a t' b
    | int b => obtain ⟨t, rfl⟩ := rx; exact SeqAt.EqAt.str_int a t' b t
    | str b => obtain ⟨t, rfl⟩ := rx; exact SeqAt.EqAt.str_str a t' b t
    | _ => exact absurd (show false = true from fx) Bool.false_ne_true
  | _ => exact absurd (show false = true from fy) Bool.false_ne_true
def eqU (x : V) (u : Value) : Bool := match u with
  | .none => eqV .non x
  | .bool b => eqV (.bl b) x
  | .int i _ => eqV (.int i) x
  | .str z _ => eqV (.str z) x
  | _ => false
theorem eqU_of {x y : V} {u : Value} (r : RelV y u) (f : flatV y = true) : eqU x u = eqV y x := by
  cases y with
  | non => cases r; rfl
  | bl b => cases r; rfl
  | int i => obtain ⟨t, rfl⟩ := r; rfl
  | str z => obtain ⟨t, rfl⟩ := r; rfl
  | _ => exact absurd (show false = true from f) Bool.false_ne_true
theorem any_eqU {x : V} : ∀ {xs : List V} {us : List Value}, Vals xs us → xs.all flatV = true → us.any (eqU x) = xs.any fun y => eqV y x
  | _, _, .nil, _ => rfl
  | y :: xs, u :: us, .cons r t, f => by
    rw [List.all_cons, Bool.and_eq_true] at f
    rw [List.any_cons, List.any_cons, eqU_of r f.1, any_eqU t f.2]
theorem mem_eqAt {A : Around} {s : Shared} {x : V} {v : Value} (rx : RelV x v) (fx : flatV x = true) : ∀ {xs : List V} {us : List Value}, Vals xs us → xs.all flatV = true → ∀ u ∈ us, SeqAt.EqAt A s u v (eqU x u)
  | _, _, .nil, _ => fun u hu => by cases hu
  | y :: xs, u :: us, .cons r t, f => fun u' hu => by
    rw [List.all_cons, Bool.and_eq_true] at f
    rcases List.mem_cons.mp hu with rfl | hu
    · rw [eqU_of r f.1]; exact eqAt_V r rx f.1 fx
    · exact mem_eqAt rx fx t f.2 u' hu
def inV (x : V) (xs : List V) : Bool := xs.any fun y => eqV y x
def rIn (K : PySem.W.Frag) (neg : Bool) : R2 := fun x y H Q => ∃ p xs, y = .ref p ∧ (SqL K H p xs ∨ SqT K H p xs) ∧ flatV x = true ∧ xs.all flatV = true ∧ Q (.bl (if neg then !inV x xs else inV x xs)) H
theorem op_notIn_seq : OpR X (compareOp .NotIn) (rIn X.K true) := by
  intro pins s σ H x y v u Q I rx ry h
  obtain ⟨p, xs, rfl, hq, fx, fs, q⟩ := h
  cases ry
  rcases hq with hq | hq
  · obtain ⟨its, r, pl, hz⟩ := I.list hq
    refine SeqAt.notIn_listAt (eqU x) pl.isList (fun w hw => mem_eqAt rx fx r fs w (by simpa using hw)) ⟨.bl _, H, I, rfl, ?_⟩
    rw [show its.toArray.any (eqU x) = its.any (eqU x) by simp, any_eqU r fs]
    exact q
  · obtain ⟨its, r, pl, hz⟩ := I.tuple hq
    refine SeqAt.notIn_tupleAt (eqU x) pl (fun w hw => mem_eqAt rx fx r fs w (by simpa using hw)) ⟨.bl _, H, I, rfl, ?_⟩
    rw [show its.toArray.any (eqU x) = its.any (eqU x) by simp, any_eqU r fs]
    exact q
theorem call_len_seq : CallR X (.builtin "len") (fun xs H Q => ∃ p ys, xs = [.ref p] ∧ (SqL X.K H p ys ∨ SqT X.K H p ys) ∧ Q (.int ys.length) H) := by
  intro pins s σ H xs us Q I r h
  obtain ⟨p, ys, rfl, hq, q⟩ := h
  obtain ⟨u, rfl, rx⟩ := vals1 r
  cases rx
  have hn := line63
  rcases hq with hq | hq
  · obtain ⟨its, r', pl, hz⟩ := I.list hq
    have hlen := r'.length
    exact Calls.call_len_list pl.isList (by simp only [List.size_toArray] <;> omega) ⟨.int ys.length, H, I.tok _, ⟨s.toks + 1, by rw [List.size_toArray, hlen]⟩, q⟩
  · obtain ⟨its, r', pl, hz⟩ := I.tuple hq
    have hlen := r'.length
    exact len_tuple pl (by simp only [List.size_toArray] <;> omega) ⟨.int ys.length, H, I.tok _, ⟨s.toks + 1, by rw [List.size_toArray, hlen]⟩, q⟩
theorem CallR.or {f : Value} {r r' : List V → Hp → VK → Prop} (h : CallR X f r) (h' : CallR X f r') : CallR X f (fun xs H Q => r xs H Q ∨ r' xs H Q) := by
  intro pins s σ H xs us Q I rs q
  rcases q with q | q
  · exact h pins s σ H xs us Q I rs q
  · exact h' pins s σ H xs us Q I rs q
theorem call_list_of : CallR X (.type "list") (fun xs H Q => ∃ p ys, xs = [.ref p] ∧ (SqL X.K H p ys ∨ SqT X.K H p ys) ∧ ∀ l, H l = none → Q (.ref l) (upd H l (.lst ys))) := by
  intro pins s σ H xs us Q I r h
  obtain ⟨p, ys, rfl, hq, q⟩ := h
  obtain ⟨u, rfl, rx⟩ := vals1 r
  cases rx
  have fin : ∀ (its : List Value), Vals ys its → ys.length ≤ sizeLine → ∀ (h' : Heap) (c' : Nat), (∀ b o', s.heap.get? b = some o' → h'.get? b = some o') →
      h'.get? s.heap.objs.size = some { cls := .type "list", dict := none, data := .seq its.toArray c', slots := #[] } → EP X pins σ Q (.ref s.heap.objs.size) { s with heap := h' } := fun its r' hz h' c' kp e =>
    ⟨.ref s.heap.objs.size, _, I.laid (t' := s.toks) kp (Nat.le_refl _) (show ObjOk X.prog X.w _ h' _ (.lst ys) from ⟨hz, its, c', r', e⟩), rfl, q _ (I.hok.fresh (Nat.le_refl _))⟩
  rcases hq with hq | hq
  · obtain ⟨its, r', pl, hz⟩ := I.list hq
    have hlen := r'.length
    obtain ⟨o, ho, hc, n, hd⟩ := pl.isList
    exact call_list_seq p (.inl rfl) ho hc hd (fun h' c' kp e => fin its r' hz h' c' kp e) (by simp only [List.size_toArray] <;> omega)
  · obtain ⟨its, r', pl, hz⟩ := I.tuple hq
    have hlen := r'.length
    obtain ⟨o, ho, hc, n, hd⟩ := pl
    exact call_list_seq p (.inr rfl) ho hc hd (fun h' c' kp e => fin its r' hz h' c' kp e) (by simp only [List.size_toArray] <;> omega)
theorem call_tuple_of : CallR X (.type "tuple") (fun xs H Q => ∃ p ys, xs = [.ref p] ∧ ((SqL X.K H p ys ∧ ∀ l, H l = none → Q (.ref l) (upd H l (.tup ys))) ∨ (SqT X.K H p ys ∧ Q (.ref p) H))) := by
  intro pins s σ H xs us Q I r h
  obtain ⟨p, ys, rfl, h⟩ := h
  obtain ⟨u, rfl, rx⟩ := vals1 r
  cases rx
  rcases h with ⟨hq, q⟩ | ⟨hq, q⟩
  · obtain ⟨its, r', pl, hz⟩ := I.list hq
    have hlen := r'.length
    refine call_tuple_list pl.isList (fun h' kp => ?_) (by simp only [List.size_toArray] <;> omega)
    have I1 : Inv X pins σ H { s with heap := h' } := I.kept (t' := s.toks) kp
    have I2 : Inv X pins σ (upd H h'.objs.size (.tup ys)) { s with heap := h'.push { cls := .type "tuple", data := .seq its.toArray } } :=
      I1.laid (t' := s.toks) (fun b o e => Heap.get?_push_of_some _ e) (Nat.le_refl _) (show ObjOk X.prog X.w _ _ _ (.tup ys) from ⟨hz, its, r', IsTup.new _ _⟩)
    exact ⟨.ref h'.objs.size, _, I2, rfl, q _ (I1.hok.fresh (Nat.le_refl _))⟩
  · obtain ⟨its, r', pl, hz⟩ := I.tuple hq
    exact call_tuple_same pl ⟨.ref p, H, I, rfl, q⟩
def tyV (K : PySem.W.Frag) (T : String) (x : V) (H : Hp) : Prop := match x with
  | .str _ => T = "str"
  | .int _ => T = "int"
  | .ref p => (T = "list" ∧ ∃ xs, SqL K H p xs) ∨ (T = "tuple" ∧ ∃ o, K.lookup p = some o ∧ o.cls = .type "tuple" ∧ o.dict = none) ∨
      (T = "dict" ∧ ((∃ kvs, H p = some (.dK kvs)) ∨ ∃ kvs, H p = some (.dT kvs))) ∨ (T = "set" ∧ ∃ S n, H p = some (.set S n))
  | _ => False
theorem tyV_is {pins : List (Addr × Obj)} {σ : St} {H : Hp} {s : Shared} {T : String} {x : V} {v : Value} (I : Inv X pins σ H s) (r : RelV x v) (ty : tyV X.K T x H) :
    s.TypeIs v T ∧ ∀ a, v = .ref a → ∃ ob, s.heap.get? a = some ob ∧ ob.dict = none := by
  cases x with
  | str z =>
    obtain ⟨t, rfl⟩ := r
    cases (show T = "str" from ty)
    exact ⟨typeIs_str s z t, fun _ e => nomatch e⟩
  | int i =>
    obtain ⟨t, rfl⟩ := r
    cases (show T = "int" from ty)
    exact ⟨typeIs_int s i t, fun _ e => nomatch e⟩
  | ref p =>
    cases r
    rcases ty with ⟨rfl, xs, hq⟩ | ⟨rfl, o, hk, hc, hd⟩ | ⟨rfl, hk⟩ | ⟨rfl, S, n, hk⟩
    · obtain ⟨its, _, pl, _⟩ := I.list hq
      refine ⟨pl.isList.typeIs, fun a e => ?_⟩
      cases e
      obtain ⟨o, n, e, c, hd, _⟩ := pl
      exact ⟨o, e, hd⟩
    · refine ⟨⟨o, I.kIn p o hk, hc⟩, fun a e => ?_⟩
      cases e
      exact ⟨o, I.kIn _ o hk, hd⟩
    · have z : ∃ o, s.heap.get? p = some o ∧ o.ExactDict := by
        rcases hk with ⟨kvs, hk⟩ | ⟨kvs, hk⟩
        · obtain ⟨_, _, _, _, o, _, _, e, ex, _⟩ := I.hok p _ hk
          exact ⟨o, e, ex⟩
        · obtain ⟨_, _, _, _, o, _, _, e, ex, _⟩ := I.hok p _ hk
          exact ⟨o, e, ex⟩
      obtain ⟨o, e, ex⟩ := z
      refine ⟨⟨o, e, ex.1⟩, fun a e2 => ?_⟩
      cases e2
      exact ⟨o, e, ex.2.1⟩
    · obtain ⟨o, _, _, _, e, ex, _⟩ := I.hok p _ hk
      refine ⟨⟨o, e, ex.1⟩, fun a e2 => ?_⟩
      cases e2
      exact ⟨o, e, ex.2.1⟩
  | _ => exact False.elim ty
def tBM (K : PySem.W.Frag) (T : String) (r : V → List V → Hp → VK → Prop) (to : TE) (t : TA) : TE := fun σ H Q => to σ H fun x H1 => tyV K T x H1 ∧ t σ H1 fun xs H2 => r x xs H2 Q
variable {o e : Expr} {es : List Expr} {to : TE} {t : TA} {name : Str} {apos cpos : Pos} {T id : String} {r : V → List V → Hp → VK → Prop}
theorem pe_bm (pa : PlainAttrs T) (slot : Slot T name id) (hty : typeOf (.builtin id) = pure (.type "method_descriptor")) (hm : MtR X id r) (ho : PE X o to) (ha : PA X (e :: es) t)
    (hbase : attributeBase o name X.env (eval o X.env) = eval o X.env := by rfl)
    (hfew : ((backTo cpos (starEach (e :: es) X.env)).all (fun x => !x.1) && (backToKw cpos (keywordEach [] X.env)).all (fun x => x.1.isSome)
      && decide ((e :: es).length + ([] : List Keyword).length + (if ([] : List Keyword).isEmpty then 0 else 1) < 30)) = true := by rfl)
    (hline : (apos.endLine == cpos.line) = true := by rfl) (hs : starEach (e :: es) X.env = (false, eval e X.env) :: starEach es X.env := by rfl) (hplain : (backTo cpos (starEach es X.env)).any (·.1) = false := by rfl) :
    PE X (.Call (.Attribute o name apos) (e :: es) [] cpos) (tBM X.K T r to t) := by
  intro pins s σ H Q I h
  refine wpAny_Call_method_late hbase hfew hline rfl (thn (ho pins s σ H _ I h) fun v s1 ⟨x, H1, I1, r1, ty, q1⟩ => ?_)
  obtain ⟨h1, h2⟩ := tyV_is I1 r1 ty
  refine ⟨T, id, pa, slot, hty, h1, h2, ?_⟩
  have hA := ha cpos pins s1 σ H1 _ I1 q1
  rw [hs] at hA ⊢
  refine Calls.callWith_builtin (by show (false || (backTo cpos (starEach es X.env)).any (·.1)) = false; rw [hplain] <;> rfl) (Calls.evalArgs_plain ?_)
  exact thn hA fun us s2 ⟨vs, H2, I2, r2, q2⟩ => hm pins s2 σ H2 x vs v us Q I2 r1 r2 q2
end
end L2
namespace L2
open PySem PySem.Spec PyProof.Rows
def MtM (X : Cx) (id : String) (r : V → List V → Hp → VK → Prop) : Prop :=
  ∀ (pins : List (Addr × Obj)) (s : Shared) (σ : St) (H : Hp) (x : V) (xs : List V) (v : Value) (us : List Value) (Q : VK), Inv X pins σ H s → RelV x v → Vals xs us → r x xs H Q →
    wpAny (model X.prog X.w) X.A (call (.builtin id) (v :: us)) (EP X pins σ Q) X.xe s
theorem Vals.one : ∀ {x : V} {us : List Value}, Vals [x] us → ∃ u, us = [u] ∧ RelV x u
  | _, _, .cons r .nil => ⟨_, rfl, r⟩
theorem Vals.rep {xs : List V} {us : List Value} (h : Vals xs us) : ∀ k : Nat, Vals (List.replicate k xs).flatten (List.replicate k us).flatten
  | 0 => .nil
  | k + 1 => by
    rw [List.replicate_succ, List.replicate_succ, List.flatten_cons, List.flatten_cons]
    exact Vals.append h (Vals.rep h k)
theorem foldl_rep (its : List Value) : ∀ (k : Nat) (acc : List Value),
    List.foldl (fun x1 x2 => x1 ++ x2) acc.toArray (List.replicate k its.toArray) = (acc ++ (List.replicate k its).flatten).toArray
  | 0, acc => by simp
  | k + 1, acc => by
    have e : acc.toArray ++ its.toArray = (acc ++ its).toArray := by simp
    have e2 : (acc ++ its) ++ (List.replicate k its).flatten = acc ++ (List.replicate (k + 1) its).flatten := by
      rw [List.replicate_succ, List.flatten_cons, List.append_assoc]
    rw [← e2, ← foldl_rep its k (acc ++ its), ← e, List.replicate_succ, List.foldl_cons]
section
variable {X : Cx} {pins : List (Addr × Obj)} {σ : St} {H : Hp} {s : Shared} {l b : Addr} {xs ys zs : List V}
theorem Inv.lset {its its' : List Value} {n : Nat} {f : Array Value → Array Value} {t' : Nat} (I : Inv X pins σ H s) (hH : H l = some (.lst xs))
    (e : s.heap.get? l = some { cls := .type "list", data := .seq its.toArray n }) (hf : f its.toArray = its'.toArray) (hv : Vals ys its') (hz : ys.length ≤ sizeLine) :
    Inv X pins σ (upd H l (.lst ys)) { s with heap := s.heap.update l (Obj.mapSeq f), toks := t' } := by
  have q := PySem.IsL.update e f
  rw [hf] at q
  refine I.write (x := l) (e := l) (by rw [hH]; exact trivial) (.inl rfl) (fun b' u hb hu => (Heap.get?_update_other s.heap (Obj.mapSeq f) (Ne.symm hb)).trans hu) ⟨_, q⟩ ?_
  exact ⟨hz, its', _, hv, q⟩
theorem Inv.lnew {its : List Value} {t' : Nat} (I : Inv X pins σ H s) (hv : Vals ys its) (hz : ys.length ≤ sizeLine) :
    Inv X pins σ (upd H s.heap.objs.size (.lst ys)) { s with heap := s.heap.push { cls := .type "list", data := .seq its.toArray }, toks := t' } :=
  I.laid (fun _ _ q => Heap.get?_push_of_some _ q) (Nat.le_refl _) ⟨hz, its, 0, hv, Heap.get?_push_size _ rfl⟩
theorem Inv.fresh (I : Inv X pins σ H s) : H s.heap.objs.size = none := I.hok.fresh (Nat.le_refl _)
theorem Inv.lstM (I : Inv X pins σ H s) (hH : H l = some (.lst xs)) : xs.length ≤ sizeLine ∧ ∃ (its : List Value) (n : Nat), Vals xs its ∧ xs.length = its.length ∧ s.heap.get? l = some { cls := .type "list", data := .seq its.toArray n } := by
  obtain ⟨z, its, n, r, e⟩ := I.hok l _ hH
  exact ⟨z, its, n, r, r.length, e⟩
theorem notLongL {n : Nat} (h : n ≤ sizeLine) : Builtin.List.listTooLong n = false := by
  unfold Builtin.List.listTooLong
  exact decide_eq_false (by omega)
end
section
variable {X : Cx}
def rAppend : V → List V → Hp → VK → Prop := fun x vs H Q => ∃ l xs y, x = .ref l ∧ vs = [y] ∧ H l = some (.lst xs) ∧ xs.length < sizeLine ∧ Q .non (upd H l (.lst (xs ++ [y])))
theorem mt_append : MtM X "list.append" rAppend := by
  intro pins s σ H x vs v us Q I rx rv h
  obtain ⟨l, xs, y, rfl, rfl, hH, hz, q⟩ := h
  cases rx
  obtain ⟨u, rfl, ru⟩ := rv.one
  obtain ⟨z, its, n, r, hl, e⟩ := I.lstM hH
  refine call_meets F.slot_list_append ⟨_, e, rfl⟩ F.entry_list_append (F.args_list_append_2 _ _) (PySem.list_append l its.toArray n u (by rw [List.size_toArray]; omega)) ⟨e, ?_⟩
  refine ⟨.non, _, I.lset (its' := its ++ [u]) hH e (by simp) (r.append (.cons ru .nil)) ?_, rfl, q⟩
  rw [List.length_append, List.length_singleton]
  omega
def rCat : R2 := fun x y H Q => ∃ l b xs zs, x = .ref l ∧ y = .ref b ∧ H l = some (.lst xs) ∧ H b = some (.lst zs) ∧ xs.length + zs.length ≤ sizeLine ∧ ∀ p, H p = none → Q (.ref p) (upd H p (.lst (xs ++ zs)))
theorem op_cat : OpR X (binaryOp .Add) rCat := by
  intro pins s σ H x y v u Q I rx ry h
  obtain ⟨l, b, xs, zs, rfl, rfl, hH, hB, hz, q⟩ := h
  cases rx
  cases ry
  obtain ⟨z, its, n, r, hl, e⟩ := I.lstM hH
  obtain ⟨z2, its2, n2, r2, hl2, e2⟩ := I.lstM hB
  refine PySem.P.add_list e e2 ?_ (by rw [List.size_toArray, List.size_toArray]; omega)
  have ea : its.toArray ++ its2.toArray = (its ++ its2).toArray := by simp
  rw [ea]
  exact ⟨.ref _, _, I.lnew (t' := s.toks) (r.append r2) (by rw [List.length_append]; omega), rfl, q _ I.fresh⟩
def rRep : R2 := fun x y H Q => ∃ l k xs, x = .ref l ∧ y = .int k ∧ H l = some (.lst xs) ∧ -(2 ^ 63) ≤ k ∧ k < 2 ^ 63 ∧ xs.length * k.toNat ≤ sizeLine ∧
  ∀ p, H p = none → Q (.ref p) (upd H p (.lst (List.replicate k.toNat xs).flatten))
theorem len_rep {α : Type} (xs : List α) (k : Nat) : (List.replicate k xs).flatten.length = k * xs.length := by
  induction k with
  | zero => simp
  | succ k ih => rw [List.replicate_succ, List.flatten_cons, List.length_append, ih, Nat.succ_mul, Nat.add_comm]
theorem op_rep : OpR X (binaryOp .Mult) rRep := by
  intro pins s σ H x y v u Q I rx ry h
  obtain ⟨l, k, xs, rfl, rfl, hH, h1, h2, hz, q⟩ := h
  cases rx
  obtain ⟨t, rfl⟩ := ry
  obtain ⟨z, its, n, r, hl, e⟩ := I.lstM hH
  have hlen : its.toArray.size * k.toNat ≤ sizeLine := by rw [List.size_toArray, ← hl]; exact hz
  have hcap : ¬ its.toArray.size * k.toNat > (2 ^ 63 - 1) / 8 := by
    have : (sizeLine : Nat) ≤ (2 ^ 63 - 1) / 8 := by decide
    omega
  have hfit : ¬ (!Builtin.List.listFitsIndex k) = true := by
    rw [fitsIndex_both h1 h2]
    exact Bool.false_ne_true
  have hlong : ¬ Builtin.List.listTooLong (its.toArray.size * k.toNat) = true := by
    rw [notLongL hlen]
    exact Bool.false_ne_true
  have hnew : List.foldl (fun x1 x2 => x1 ++ x2) #[] (List.replicate (if its.toArray.isEmpty = true then 0 else k.toNat) its.toArray) = (List.replicate k.toNat its).flatten.toArray := by
    have f0 : ∀ m : Nat, List.foldl (fun x1 x2 => x1 ++ x2) #[] (List.replicate m its.toArray) = (List.replicate m its).flatten.toArray := fun m => by
      have := foldl_rep its m []
      rw [List.nil_append] at this
      exact this
    rw [f0]
    cases its with
    | nil => simp
    | cons a r' => rw [if_neg (by simp)]
  refine wpAny_binaryOp_repeat_ref (T := "list") (U := "int") (by decide) ⟨_, e, rfl⟩ (fun s' => typeIs_int s' k t) noFill_list_mul F.fills_int_mul F.slot_int_rmul repeat_list F.slot_int_index.lookup
    (call_meets F.slot_int_rmul (typeIs_int s k t) F.entry_int_rmul (F.args_int_rmul_2 _ _) (int___rmul___int_list k t l its.toArray n)
      ⟨e, rfl, ⟨_, e, rfl⟩, call_meets F.slot_list_mul ⟨_, e, rfl⟩ F.entry_list_mul (F.args_list_mul_2 _ _) (AutoListH.list___mul___list_int_3 l its.toArray n k t hfit hcap hlong) ⟨e, ?_⟩⟩)
  rw [hnew]
  exact ⟨.ref _, _, I.lnew (t' := s.toks) (r.rep k.toNat) (by rw [len_rep, Nat.mul_comm]; exact hz), rfl, q _ I.fresh⟩
end
section
variable {prog : Program} {w : World} {A : Around} {E : Value → Shared → Prop} {s : Shared}
end
section
variable {X : Cx}
end
end L2
namespace L2
open PySem PySem.Spec PyProof.Rows
section
variable {κ : Type} [DecidableEq κ]
def valV (kvs : List (κ × V)) (k : κ) : Option V := (kvs.find? fun kv => decide (kv.1 = k)).map (·.2)
def putK (kvs : List (κ × V)) (k : κ) (v : V) : List (κ × V) :=
  if (kvs.any fun kv => decide (kv.1 = k)) = true then kvs.map (fun kv => if kv.1 = k then (kv.1, v) else kv) else kvs ++ [(k, v)]
theorem valV_pos {p : κ × V} {r : List (κ × V)} {k : κ} (e : p.1 = k) : valV (p :: r) k = some p.2 := by simp [valV, List.find?_cons, e]
theorem valV_neg {p : κ × V} {r : List (κ × V)} {k : κ} (e : ¬ p.1 = k) : valV (p :: r) k = valV r k := by simp [valV, List.find?_cons, e]
theorem valV_any (k : κ) : ∀ kvs : List (κ × V), (kvs.any fun kv => decide (kv.1 = k)) = (valV kvs k).isSome
  | [] => rfl
  | p :: r => by
    rw [List.any_cons]
    by_cases e : p.1 = k
    · simp only [valV_pos e, decide_eq_true e, Bool.true_or, Option.isSome_some]
    · rw [valV_neg e, decide_eq_false e, Bool.false_or]; exact valV_any k r
theorem valV_map (k j : κ) (y : V) : ∀ kvs : List (κ × V), valV (kvs.map fun kv => if kv.1 = k then (kv.1, y) else kv) j = (valV kvs j).map fun x => if j = k then y else x
  | [] => rfl
  | p :: r => by
    have ih := valV_map k j y r
    rw [List.map_cons]
    by_cases h : p.1 = k
    · rw [if_pos h]
      by_cases e : p.1 = j
      · rw [valV_pos (p := (p.1, y)) e, valV_pos e, Option.map_some, if_pos (e.symm.trans h)]
      · rw [valV_neg (p := (p.1, y)) e, valV_neg e, ih]
    · rw [if_neg h]
      by_cases e : p.1 = j
      · rw [valV_pos (p := p) e, valV_pos e, Option.map_some, if_neg (fun z => h (e.trans z))]
      · rw [valV_neg (p := p) e, valV_neg e, ih]
theorem valV_snoc (k j : κ) (y : V) : ∀ kvs : List (κ × V), valV kvs k = none → valV (kvs ++ [(k, y)]) j = if j = k then some y else valV kvs j
  | [], _ => by
    by_cases e : k = j
    · rw [if_pos e.symm]; exact valV_pos (p := (k, y)) e
    · rw [if_neg (fun z => e z.symm)]; exact valV_neg (p := (k, y)) e
  | p :: r, hn => by
    rw [List.cons_append]
    have hk : ¬ p.1 = k := fun z => by rw [valV_pos z] at hn; cases hn
    rw [valV_neg hk] at hn
    have ih := valV_snoc k j y r hn
    by_cases e : p.1 = j
    · rw [valV_pos e, valV_pos e, if_neg (fun z => hk (e.trans z))]
    · rw [valV_neg e, valV_neg e, ih]
theorem valV_put (kvs : List (κ × V)) (k j : κ) (y : V) : valV (putK kvs k y) j = if j = k then some y else valV kvs j := by
  unfold putK
  by_cases a : (kvs.any fun kv => decide (kv.1 = k)) = true
  · rw [if_pos a, valV_map]
    rw [valV_any] at a
    by_cases e : j = k
    · obtain ⟨x, hx⟩ := Option.isSome_iff_exists.mp a
      rw [if_pos e, e, hx, Option.map_some, if_pos rfl]
    · rw [if_neg e]
      cases valV kvs j with
      | none => rfl
      | some x => rw [Option.map_some, if_neg e]
  · rw [if_neg a]
    refine valV_snoc k j y kvs ?_
    rw [valV_any] at a
    cases q : valV kvs k with
    | none => rfl
    | some x => rw [q] at a; exact (a rfl).elim
theorem length_putK (kvs : List (κ × V)) (k : κ) (v : V) : (putK kvs k v).length ≤ kvs.length + 1 := by
  unfold putK
  split
  · rw [List.length_map]; omega
  · rw [List.length_append, List.length_cons, List.length_nil]; omega
theorem RelO.isSome_eq {o : Option V} {u : Option Value} (r : RelO o u) : o.isSome = u.isSome := by
  cases o with
  | none => cases u with
    | none => rfl
    | some _ => exact (show False from r).elim
  | some _ => cases u with
    | none => exact (show False from r).elim
    | some _ => rfl
theorem KV.val {kvs : List (κ × V)} {vs : List (κ × Value)} (r : KV kvs vs) (k : κ) : RelO (valV kvs k) (valueAt vs k) := by
  unfold KV at r
  induction r with
  | nil => exact True.intro
  | @cons p q ps qs h t ih =>
    obtain ⟨h1, h2⟩ := h
    by_cases e : p.1 = k
    · have e' : q.1 = k := h1.symm.trans e
      have b : valueAt (q :: qs) k = some q.2 := by simp [valueAt, List.find?_cons, e']
      rw [valV_pos e, b]; exact h2
    · have e' : ¬ q.1 = k := fun z => e (h1.trans z)
      have b : valueAt (q :: qs) k = valueAt qs k := by simp [valueAt, List.find?_cons, e']
      rw [valV_neg e, b]; exact ih
theorem KV.any {kvs : List (κ × V)} {vs : List (κ × Value)} (r : KV kvs vs) (k : κ) : (kvs.any fun kv => decide (kv.1 = k)) = vs.any fun kv => decide (kv.1 = k) := by
  unfold KV at r
  induction r with
  | nil => rfl
  | cons h t ih => rw [List.any_cons, List.any_cons, ih, h.1]
theorem KV.repl {kvs : List (κ × V)} {vs : List (κ × Value)} (r : KV kvs vs) (k : κ) {y : V} {u : Value} (ry : RelV y u) :
    KV (kvs.map fun kv => if kv.1 = k then (kv.1, y) else kv) (vs.map fun kv => if kv.1 = k then (kv.1, u) else kv) := by
  unfold KV at r ⊢
  induction r with
  | nil => exact .nil
  | @cons p q ps qs h t ih =>
    rw [List.map_cons, List.map_cons]
    refine .cons ?_ ih
    obtain ⟨h1, h2⟩ := h
    by_cases e : p.1 = k
    · rw [if_pos e, if_pos (h1.symm.trans e)]; exact ⟨h1, ry⟩
    · rw [if_neg e, if_neg (fun z => e (h1.trans z))]; exact ⟨h1, h2⟩
theorem KV.put {kvs : List (κ × V)} {vs : List (κ × Value)} (r : KV kvs vs) (k : κ) {y : V} {u : Value} (ry : RelV y u) : KV (putK kvs k y) (stored vs k u) := by
  unfold putK stored
  rw [r.any k]
  by_cases e : (vs.any fun kv => decide (kv.1 = k)) = true
  · rw [if_pos e, if_pos e]; exact r.repl k ry
  · rw [if_neg e, if_neg e]; exact Paired.snoc r ⟨rfl, ry⟩
theorem KV.length {kvs : List (κ × V)} {vs : List (κ × Value)} (r : KV kvs vs) : kvs.length = vs.length := Paired.length r
end
theorem kV_is {P : Program} {w : World} {k : Key} {u : Value} (r : RelV (kV k) u) : (mixKind P w).is k u = true := by
  cases k with
  | inl i => obtain ⟨t, e⟩ := (show ∃ t, u = Value.int i t from r); subst e; exact mixKind_int P w i t
  | inr x => obtain ⟨t, e⟩ := (show ∃ t, u = Value.str x t from r); subst e; exact mixKind_str P w x t
theorem items_are {P : Program} {w : World} : ∀ {ks : List Key} {us : List Value}, Vals (ks.map kV) us → ItemsAre (mixKind P w) ks us
  | [], _, r => by rw [List.map_nil] at r; cases r; exact .nil
  | k :: ks, _, r => by
    rw [List.map_cons] at r
    cases r with
    | cons h t => exact .cons (kV_is h) (items_are t)
abbrev KT (H : Hp) : List (List Key × V) → List (List Key × Addr × Value) → Prop := Paired fun p q => p.1 = q.1 ∧ H q.2.1 = some (.tup (p.1.map kV)) ∧ RelV p.2 q.2.2
theorem KT.val {H : Hp} {kvs : List (List Key × V)} {xs : List (List Key × Addr × Value)} (r : KT H kvs xs) (k : List Key) : RelO (valV kvs k) ((atKey xs k).map (·.2)) := by
  induction r with
  | nil => exact True.intro
  | @cons p q ps qs h t ih =>
    obtain ⟨h1, _, h2⟩ := h
    by_cases e : p.1 = k
    · have e' : q.1 = k := h1.symm.trans e
      have b : atKey (q :: qs) k = some q.2 := by simp [atKey, List.find?_cons, e']
      rw [valV_pos e, b]; exact h2
    · have e' : ¬ q.1 = k := fun z => e (h1.trans z)
      have b : atKey (q :: qs) k = atKey qs k := by simp [atKey, List.find?_cons, e']
      rw [valV_neg e, b]; exact ih
theorem KT.repl {H : Hp} {kvs : List (List Key × V)} {xs : List (List Key × Addr × Value)} (r : KT H kvs xs) (k : List Key) {y : V} {u : Value} (ry : RelV y u) :
    KT H (kvs.map fun kv => if kv.1 = k then (kv.1, y) else kv) (xs.map (putAt k u)) := by
  induction r with
  | nil => exact .nil
  | @cons p q ps qs h t ih =>
    rw [List.map_cons, List.map_cons]
    refine .cons ?_ ih
    obtain ⟨h1, h2, h3⟩ := h
    unfold putAt
    by_cases e : p.1 = k
    · rw [if_pos e, if_pos (h1.symm.trans e)]; exact ⟨h1, h2, ry⟩
    · rw [if_neg e, if_neg (fun z => e (h1.trans z))]; exact ⟨h1, h2, h3⟩
theorem KT.put {H : Hp} {kvs : List (List Key × V)} {xs : List (List Key × Addr × Value)} (r : KT H kvs xs) (k : List Key) {b : Addr} {y : V} {u : Value} (hb : H b = some (.tup (k.map kV))) (ry : RelV y u) :
    KT H (putK kvs k y) (storedH xs k b u) := by
  have e : (kvs.any fun kv => decide (kv.1 = k)) = (atKey xs k).isSome := by
    rw [valV_any, (r.val k).isSome_eq, Option.isSome_map]
  unfold putK storedH
  rw [e]
  by_cases q : (atKey xs k).isSome = true
  · rw [if_pos q, if_pos q]; exact r.repl k ry
  · rw [if_neg q, if_neg q]; exact Paired.snoc r ⟨rfl, hb, ry⟩
theorem KT.keeps {H H' : Hp} {kvs : List (List Key × V)} {xs : List (List Key × Addr × Value)} (r : KT H kvs xs) (ht : ∀ b ys, H b = some (.tup ys) → H' b = some (.tup ys)) : KT H' kvs xs :=
  Paired.mapP r fun _ _ z => ⟨z.1, ht _ _ z.2.1, z.2.2⟩
section
variable {P : Program} {w : World} {H : Hp} {h : Heap} {a : Addr}
theorem rd_of {u : HO} (ok : HOk P w H h) (e : Rd H a u) : ObjOk P w H h a u := e.ok ok
theorem dk_rd {kvs : List (Key × V)} (ok : HOk P w H h) (e : Rd H a (.dK kvs)) : kvs.length ≤ sizeLine ∧ (a == sysModules) = false ∧ ∃ vs, KV kvs vs ∧ h.DictOf (mixKind P w) a vs :=
  show ObjOk P w H h a (.dK kvs) from rd_of ok e
theorem dk_of {kvs : List (Key × V)} (ok : HOk P w H h) (e : H a = some (.dK kvs)) : kvs.length ≤ sizeLine ∧ (a == sysModules) = false ∧ ∃ vs, KV kvs vs ∧ h.DictOf (mixKind P w) a vs := dk_rd ok (.inl e)
theorem key_of {ks : List Key} (ok : HOk P w H h) (e : H a = some (.tup (ks.map kV))) : (tupleKind (mixKind P w)).is h ks a := by
  obtain ⟨_, its, r, o, h1, h2, n, h3⟩ := (show ObjOk P w H h a (.tup (ks.map kV)) from ok a _ e)
  exact ⟨o, its.toArray, n, h1, h2, h3, by simpa using items_are r⟩
theorem dt_rd {kvs : List (List Key × V)} (ok : HOk P w H h) (e : Rd H a (.dT kvs)) : kvs.length ≤ sizeLine ∧ (a == sysModules) = false ∧
    ∃ xs, KT H kvs xs ∧ h.DictOfH (tupleKind (mixKind P w)) a xs := by
  obtain ⟨z, y, xs, r, o, es, ep, h1, h2, h3, h4, h5⟩ := (show ObjOk P w H h a (.dT kvs) from rd_of ok e)
  refine ⟨z, y, xs, r, o, es, ep, h1, h2, h3, h4, fun x hx => ?_, h5⟩
  have all : ∀ {l : List (List Key × V)} {m : List (List Key × Addr × Value)}, KT H l m → ∀ x ∈ m, (tupleKind (mixKind P w)).is h x.1 x.2.1 := by
    intro l m q
    induction q with
    | nil => intro x hx; exact nomatch hx
    | @cons p q ps qs hq t ih =>
      intro x hx
      rcases List.mem_cons.mp hx with e | hx
      · subst e
        exact key_of ok (by rw [← hq.1]; exact hq.2.1)
      · exact ih x hx
  exact all r x hx
theorem dt_of {kvs : List (List Key × V)} (ok : HOk P w H h) (e : H a = some (.dT kvs)) : kvs.length ≤ sizeLine ∧ (a == sysModules) = false ∧
    ∃ xs, KT H kvs xs ∧ h.DictOfH (tupleKind (mixKind P w)) a xs := dt_rd ok (.inl e)
end
def DGet (H : Hp) (a : Addr) (y : V) (r : Option V) : Prop :=
  (∃ kvs k, Rd H a (.dK kvs) ∧ y = kV k ∧ r = valV kvs k) ∨ ∃ kvs k b, Rd H a (.dT kvs) ∧ y = .ref b ∧ H b = some (.tup (k.map kV)) ∧ r = valV kvs k
def DPut (H : Hp) (a : Addr) (y v : V) (H' : Hp) : Prop :=
  (∃ kvs k, H a = some (.dK kvs) ∧ y = kV k ∧ kvs.length < sizeLine ∧ H' = upd H a (.dK (putK kvs k v))) ∨
  ∃ kvs k b, H a = some (.dT kvs) ∧ y = .ref b ∧ H b = some (.tup (k.map kV)) ∧ kvs.length < sizeLine ∧ H' = upd H a (.dT (putK kvs k v))
theorem DGet.k {H : Hp} {a : Addr} {kvs : List (Key × V)} {k : Key} (e : H a = some (.dK kvs)) : DGet H a (kV k) (valV kvs k) := .inl ⟨kvs, k, .inl e, rfl, rfl⟩
theorem DPut.k {H : Hp} {a : Addr} {kvs : List (Key × V)} {k : Key} {v : V} (e : H a = some (.dK kvs)) (hl : kvs.length < sizeLine) : DPut H a (kV k) v (upd H a (.dK (putK kvs k v))) := .inl ⟨kvs, k, e, rfl, hl, rfl⟩
section
variable {X : Cx} {pins : List (Addr × Obj)} {σ : St} {H : Hp} {s : Shared} {a : Addr} {y v : V} {u r : Value} {o : Option V} {A : Around} {E : Value → Shared → Prop}
theorem Inv.big (I : Inv X pins σ H s) : sysModules < s.heap.objs.size := by
  have h : mainGlobals < s.heap.objs.size := (I.mod.glob.keeps I.bk).lt
  exact Nat.lt_trans (by decide) h
theorem d_getItem {Q : Value → Shared → Prop} (hu : A.units + 1 < cLine) (I : Inv X pins σ H s) (g : DGet H a y (some v)) (ry : RelV y u) (h : ∀ w' s', Inv X pins σ H s' → RelV v w' → Q w' s') :
    wpAny (model X.prog X.w) A (getItem (.ref a) u) Q E s := by
  rcases g with ⟨kvs, k, e, ey, l⟩ | ⟨kvs, k, b, e, ey, eb, l⟩
  · subst ey
    obtain ⟨z, hd, vs, rel, dd⟩ := dk_rd I.hok e
    obtain ⟨w', hw, rw'⟩ := RelO.some_of (v := v) (o := valueAt vs k) (by rw [l]; exact rel.val k)
    exact wpAny_getItem_of (kV_is ry) dd.mapOf hw (h w' _ (I.tok _) rw')
  · subst ey
    cases (show u = Value.ref b from ry)
    obtain ⟨z, hd, xs, rel, dd⟩ := dt_rd I.hok e
    obtain ⟨w', hw, rw'⟩ := RelO.some_of (v := v) (o := (atKey xs k).map (·.2)) (by rw [l]; exact rel.val k)
    obtain ⟨p, hp, hp2⟩ := Option.map_eq_some_iff.mp hw
    refine wpAny_getItem_heap (tupleKind_room_in1 hu) (key_of I.hok eb) dd hp ?_
    rw [hp2]
    exact h w' _ (I.tok _) rw'
theorem d_notIn {Q : Value → Shared → Prop} (hu : A.units + 1 < cLine) (I : Inv X pins σ H s) (g : DGet H a y o) (ry : RelV y u) (h : ∀ s', Inv X pins σ H s' → Q (.bool (!o.isSome)) s') :
    wpAny (model X.prog X.w) A (compareOp .NotIn u (.ref a)) Q E s := by
  rcases g with ⟨kvs, k, e, ey, l⟩ | ⟨kvs, k, b, e, ey, eb, l⟩
  · subst ey
    obtain ⟨z, hd, vs, rel, dd⟩ := dk_rd I.hok e
    refine wpAny_notIn_of (kV_is ry) hd dd.mapOf ?_
    rw [← (rel.val k).isSome_eq, ← l]
    exact h _ (I.tok _)
  · subst ey
    cases (show u = Value.ref b from ry)
    obtain ⟨z, hd, xs, rel, dd⟩ := dt_rd I.hok e
    refine wpAny_notIn_heap (tupleKind_room_in1 hu) (key_of I.hok eb) hd dd ?_
    have q := (rel.val k).isSome_eq
    rw [Option.isSome_map] at q
    rw [← q, ← l]
    exact h _ (I.tok _)
theorem d_write {h' : Heap} {t' : Nat} {ob : HO} (I : Inv X pins σ H s) (mu : Mut (H a)) (hs : Heap.SameBut a s.heap h') (he : ∃ q, h'.get? a = some q) (new : ObjOk X.prog X.w (upd H a ob) h' a ob) :
    Inv X pins σ (upd H a ob) { s with heap := h', toks := t' } :=
  I.write (x := a) (e := a) mu (.inl rfl) (fun b q hb z => (hs.2 b hb).trans z) he new
theorem dk_new {P : Program} {w : World} {H' : Hp} {h' : Heap} {kvs : List (Key × V)} {vs : List (Key × Value)} (z : kvs.length ≤ sizeLine) (hd : (a == sysModules) = false) (rel : KV kvs vs) (dd : h'.DictOf (mixKind P w) a vs) :
    ObjOk P w H' h' a (.dK kvs) := ⟨z, hd, vs, rel, dd⟩
theorem d_setItem {H' : Hp} {Q : Unit → Shared → Prop} (hu : A.units + 1 < cLine) (I : Inv X pins σ H s) (g : DPut H a y v H') (ry : RelV y u) (rv : RelV v r) (h : ∀ s', Inv X pins σ H' s' → Q () s') :
    wpAny (model X.prog X.w) A (setItem (.ref a) u r) Q E s := by
  rcases g with ⟨kvs, k, e, ey, l, eH⟩ | ⟨kvs, k, b, e, ey, eb, l, eH⟩
  · subst ey eH
    obtain ⟨z, hd, vs, rel, dd⟩ := dk_of I.hok e
    have hz : vs.length ≤ sizeLine := by rw [← rel.length]; exact z
    have hl : (putK kvs k v).length ≤ sizeLine := by have := length_putK kvs k v; omega
    refine wpAny_setItem_pairs (hsz := hz) (kV_is ry) dd fun h' dd' hs => h _ ?_
    have he : ∃ q, h'.get? a = some q := let ⟨q, _, _, hq, _⟩ := dd'; ⟨q, hq⟩
    exact d_write I (by rw [e]; exact True.intro) hs he (dk_new hl hd (rel.put k rv) dd')
  · subst ey eH
    cases (show u = Value.ref b from ry)
    obtain ⟨z, hd, xs, rel, dd⟩ := dt_of I.hok e
    have hz : xs.length ≤ sizeLine := by rw [← Paired.length rel]; exact z
    have hl : (putK kvs k v).length ≤ sizeLine := by have := length_putK kvs k v; omega
    refine wpAny_setItem_heap (hsz := hz) (tupleKind_room_in1 hu) (key_of I.hok eb) dd fun h' dd' hs => h _ ?_
    obtain ⟨q, es, ep, hq, h2, h3, h4, _, h5⟩ := dd'
    refine d_write I (by rw [e]; exact True.intro) hs ⟨q, hq⟩ ⟨hl, hd, _, (rel.put k eb rv).keeps fun c ys ec => ?_, q, es, ep, hq, h2, h3, h4, h5⟩
    rw [upd_ne (ne_of ec e (fun z => nomatch z))]
    exact ec
end
section
variable {X : Cx} {pins : List (Addr × Obj)} {σ : St} {H : Hp} {s : Shared} {a : Addr} {kvs : List (Key × V)} {k : Key} {u : Value} {A : Around} {E : Value → Shared → Prop}
theorem d_len {Q : Value → Shared → Prop} (I : Inv X pins σ H s) (e : Rd H a (.dK kvs)) (h : ∀ t s', Inv X pins σ H s' → Q (.int kvs.length t) s') : wpAny (model X.prog X.w) A (call (.builtin "len") [.ref a]) Q E s := by
  obtain ⟨z, hd, vs, rel, dd⟩ := dk_rd I.hok e
  refine call_len_dict hd dd (by rw [← rel.length]; rw [sizeLine_eq] at z; omega) ?_
  rw [← rel.length]
  exact h _ _ (I.tok _)
end
def NoSl (i : Expr) : Prop := ∀ ov iv, subscripted i false ov iv = operate [ov, iv] (getItem ov iv)
theorem subD_of {prog : Program} {w : World} {A : Around} {E : Value → Shared → Prop} {s : Shared} {env : Env} {value slice : Expr} {pos : Pos} {T id : String} {Q : Value → Shared → Prop}
    (hl : typeLookup (.type T) "__getitem__" = pure (some (.builtin id))) (hs : NoSl slice)
    (h : wpAny (model prog w) A (eval value env) (fun o s₁ => wpAny (model prog w) A (eval slice env) (fun i s₂ => s₂.TypeIs o T ∧ wpAny (model prog w) A (getItem o i) Q E s₂) E s₁) E s) :
    wpAny (model prog w) A (eval (.Subscript value slice pos) env) Q E s := by
  refine Subscript_ (wpAny_mono h (fun o s₁ h₁ => wpAny_mono h₁ (fun i s₂ h₂ => ?_) fun _ _ x => x) fun _ _ x => x)
  obtain ⟨hT, h₂⟩ := h₂
  unfold subscriptTail
  refine wpAny_bind ?_
  rw [getitemInPython_of_ne hT.not_modules]
  refine wpAny_bind (wpAny_specialOf hT hl ?_)
  have fin : wpAny (model prog w) A (subscripted slice false o i) (fun r s₃ => wpAny (model prog w) A (letTemporaryGo value o r >>= fun _ => pure r) Q E s₃) E s₂ := by
    rw [hs o i]
    exact wpAny_operating (wpAny_mono h₂ (fun r s₃ h₃ => wpAny_bind (wpAny_letTemporaryGo (wpAny_pure h₃))) fun _ _ x => x)
  first
    | exact wpAny_pure (wpAny_bind fin)
    | exact wpAny_bind (wpAny_pure (wpAny_bind fin))
    | exact wpAny_bind fin
theorem dict_typeIs {X : Cx} {pins : List (Addr × Obj)} {σ : St} {H : Hp} {s : Shared} {a : Addr} {y : V} {o : Option V} (I : Inv X pins σ H s) (g : DGet H a y o) : s.TypeIs (.ref a) "dict" := by
  rcases g with ⟨kvs, k, e, _, _⟩ | ⟨kvs, k, b, e, _, _, _⟩
  · obtain ⟨_, _, vs, _, dd⟩ := dk_rd I.hok e
    exact dd.typeIs
  · obtain ⟨_, _, xs, _, dd⟩ := dt_rd I.hok e
    exact dd.typeIs
def tDGet (td ty : TE) : TE := fun σ H Q => td σ H fun x H1 => ty σ H1 fun y H2 => ∃ a v, x = .ref a ∧ DGet H2 a y (some v) ∧ Q v H2
def tDNotIn (ty td : TE) : TE := fun σ H Q => ty σ H fun y H1 => td σ H1 fun x H2 => ∃ a o, x = .ref a ∧ DGet H2 a y o ∧ Q (.bl (!o.isSome)) H2
def sDPut (td ty tv : TE) : TS := fun D σ H => tv σ H fun v H1 => td σ H1 fun x H2 => ty σ H2 fun y H3 => ∃ a H4, x = .ref a ∧ DPut H3 a y v H4 ∧ D.nx σ H4
section
variable {X : Cx} {o i e value : Expr} {pos pos' tpos : Pos} {td ty tv : TE}
theorem pe_dget (hu : X.A.units + 1 < cLine) (ho : PE X o td) (hi : PE X i ty) (hs : NoSl i) : PE X (.Subscript o i pos) (tDGet td ty) := by
  intro pins s σ H Q I h
  refine subD_of PySem.F.slot_dict_getitem.lookup hs (thn (ho pins s σ H _ I h) fun u s1 ⟨x, H1, I1, rx, q1⟩ => thn (hi pins s1 σ H1 _ I1 q1) fun iv s2 ⟨y, H2, I2, ry, a, v, ex, g, q2⟩ => ?_)
  subst ex
  obtain rfl : u = Value.ref a := rx
  exact ⟨dict_typeIs I2 g, d_getItem hu I2 g ry fun w' s3 I3 rw' => ⟨v, H2, I3, rw', q2⟩⟩
theorem pc_dnotin (hu : X.A.units + 1 < cLine) (hi : PE X i ty) (ho : PE X o td) : PC X .NotIn i o (tDNotIn ty td) := by
  intro pins s σ H Q I h
  refine thn (hi pins s σ H _ I h) fun iv s1 ⟨y, H1, I1, ry, q1⟩ => thn (ho pins s1 σ H1 _ I1 q1) fun u s2 ⟨x, H2, I2, rx, a, ov, ex, g, q2⟩ => ?_
  subst ex
  obtain rfl : u = Value.ref a := rx
  exact d_notIn hu I2 g ry fun s3 I3 => ⟨.bl (!ov.isSome), H2, I3, rfl, q2⟩
theorem ps_dput (hu : X.A.units + 1 < cLine) (ho : PE X o td) (hi : PE X i ty) (hv : PE X value tv) (hs : swapsWith value (some (.Subscript o i pos')) pos.line X.env = pure false) :
    PS X (.Assign [.Subscript o i pos'] value pos) (sDPut td ty tv) := by
  intro pins s σ H D I h
  refine wpAny_Assign_Subscript (thn (hv pins s σ H _ I h) fun r s1 ⟨v, H1, I1, rv, q1⟩ => thn (ho pins s1 σ H1 _ I1 q1) fun u s2 ⟨x, H2, I2, rx, q2⟩ => thn (hi pins s2 σ H2 _ I2 q2) fun iv s3 ⟨y, H3, I3, ry, a, H4, ex, g, q3⟩ => ?_) hs
  subst ex
  obtain rfl : u = Value.ref a := rx
  exact d_setItem hu I3 g ry rv fun s4 I4 => ⟨σ, H4, I4, q3⟩
end
theorem dk_empty {P : Program} {w : World} {H : Hp} (h : Heap) (hb : sysModules < h.objs.size) : ObjOk P w H (h.push { cls := .type "dict", data := .dict #[] }) h.objs.size (.dK []) :=
  ⟨Nat.zero_le _, beq_eq_false_iff_ne.mpr (Ne.symm (Nat.ne_of_lt hb)), [], .nil, Heap.DictOf.new h⟩
def tDNewK : TE := fun _ H Q => ∀ p, H p = none → Q (.ref p) (upd H p (.dK []))
section
variable {X : Cx} {pos : Pos}
theorem pe_dnewK : PE X (.Dict [] [] pos) tDNewK := fun pins s σ H Q I h =>
  wpAny_Dict_empty ⟨.ref s.heap.objs.size, _, I.laid (a := s.heap.objs.size) (o := .dK []) (t' := s.toks) (fun _ _ q => Heap.get?_push_of_some _ q) (Nat.le_refl _) (dk_empty s.heap I.big), rfl, h _ (I.hok.fresh (Nat.le_refl _))⟩
end
def tPairs : List (TE × TE) → St → Hp → (List (V × V) → Hp → Prop) → Prop
  | [], _, H, Q => Q [] H
  | (tk, tv) :: r, σ, H, Q => tk σ H fun x H1 => tv σ H1 fun y H2 => tPairs r σ H2 fun ps H3 => Q ((x, y) :: ps) H3
abbrev VV : List (V × V) → List (Value × Value) → Prop := Paired fun p q => RelV p.1 q.1 ∧ RelV p.2 q.2
def PPs (X : Cx) (pos : Pos) (keys : List (Option Expr)) (values : List Expr) (trs : List (TE × TE)) : Prop :=
  ∀ (pins : List (Addr × Obj)) (s : Shared) (σ : St) (H : Hp) (Q : List (V × V) → Hp → Prop), Inv X pins σ H s → tPairs trs σ H Q →
    wpAny (model X.prog X.w) X.A (evalPairs (pairTrees keys values X.env pos)) (fun vs s' => ∃ ps H', Inv X pins σ H' s' ∧ VV ps vs ∧ Q ps H') X.xe s
theorem pps_nil {X : Cx} {pos : Pos} : PPs X pos [] [] [] := fun pins s σ H Q I h => pairTrees_nil_walk ⟨[], H, I, .nil, h⟩
theorem pps_cons {X : Cx} {pos : Pos} {k v : Expr} {ks : List (Option Expr)} {vs : List Expr} {tk tv : TE} {trs : List (TE × TE)} (hk : PE X k tk) (hv : PE X v tv) (hr : PPs X pos ks vs trs) :
    PPs X pos (some k :: ks) (v :: vs) ((tk, tv) :: trs) := fun pins s σ H Q I h =>
  pairTrees_cons_walk (thn (hk pins s σ H _ I h) fun u s1 ⟨x, H1, I1, rx, q1⟩ => thn (hv pins s1 σ H1 _ I1 q1) fun w2 s2 ⟨y, H2, I2, ry, q2⟩ =>
    thn (hr pins s2 σ H2 _ I2 q2) fun ws s3 ⟨ps, H3, I3, rel, q3⟩ => ⟨(x, y) :: ps, H3, I3, .cons ⟨rx, ry⟩ rel, q3⟩)
def mergeK (kvs more : List (Key × V)) : List (Key × V) := more.foldl (fun acc kv => putK acc kv.1 kv.2) kvs
theorem KV.merge : ∀ {more : List (Key × V)} {rs : List (Key × Value)} {kvs : List (Key × V)} {vs : List (Key × Value)}, KV more rs → KV kvs vs → KV (mergeK kvs more) (merged vs rs) := by
  intro more rs kvs vs r
  unfold KV at r
  induction r generalizing kvs vs with
  | nil => intro q; exact q
  | @cons p q ps qs h t ih =>
    intro r0
    have e : KV (putK kvs p.1 p.2) (stored vs q.1 q.2) := by
      have := r0.put p.1 h.2
      rw [← h.1]; exact this
    exact ih e
theorem length_mergeK : ∀ (more kvs : List (Key × V)), (mergeK kvs more).length ≤ kvs.length + more.length
  | [], kvs => by show kvs.length ≤ kvs.length + 0; omega
  | p :: r, kvs => by
    have h1 := length_mergeK r (putK kvs p.1 p.2)
    have h2 := length_putK kvs p.1 p.2
    show (mergeK (putK kvs p.1 p.2) r).length ≤ _
    rw [List.length_cons]; omega
theorem carries_of {P : Program} {w : World} : ∀ {kvs : List (Key × V)} {ws : List (Value × Value)}, VV (kvs.map fun kv => (kV kv.1, kv.2)) ws → ∃ rs, Carries (mixKind P w) ws rs ∧ KV kvs rs
  | [], _, r => by rw [List.map_nil] at r; cases r; exact ⟨[], True.intro, .nil⟩
  | p :: kvs, _, r => by
    rw [List.map_cons] at r
    cases r with
    | @cons a b as bs h t =>
      obtain ⟨rs, c, q⟩ := carries_of (P := P) (w := w) t
      obtain ⟨b1, b2⟩ := b
      exact ⟨(p.1, b2) :: rs, ⟨kV_is h.1, rfl, c⟩, .cons ⟨rfl, h.2⟩ q⟩
def tDisp (trs : List (TE × TE)) : TE := fun σ H Q => ∀ p, H p = none → tPairs trs σ (upd H p (.dK [])) fun ps H2 => H2 p = some (.dK []) ∧ ∃ kvs : List (Key × V), ps = kvs.map (fun kv => (kV kv.1, kv.2)) ∧ kvs.length ≤ 15 ∧ Q (.ref p) (upd H2 p (.dK (mergeK [] kvs)))
theorem pe_disp {X : Cx} {pos : Pos} {keys : List (Option Expr)} {values : List Expr} {trs : List (TE × TE)} (h : PPs X pos keys values trs) (hall : keys.all (·.isSome) = true) (hl : keys.length = values.length) (h0 : keys ≠ [])
    (h15 : keys.length ≤ 15) : PE X (.Dict keys values pos) (tDisp trs) := by
  intro pins s σ H Q I q
  have hn := I.hok.fresh (Nat.le_refl s.heap.objs.size)
  have I1 := I.laid (a := s.heap.objs.size) (o := .dK []) (h' := s.heap.push { cls := .type "dict", data := .dict #[] }) (t' := s.toks) (fun _ _ q => Heap.get?_push_of_some _ q) (Nat.le_refl _) (dk_empty s.heap I.big)
  refine wpAny_Dict_walk (knd := mixKind X.prog X.w) hall hl h0 h15 (thn (h pins _ σ _ _ I1 (q _ hn)) fun ws s2 ⟨ps, H2, I2, rel, e, kvs, ep, lk, q2⟩ => ?_)
  subst ep
  obtain ⟨rs, c, rk⟩ := carries_of (P := X.prog) (w := X.w) rel
  obtain ⟨z, hd, vs0, r0, dd⟩ := dk_of I2.hok e
  cases r0
  refine ⟨rs, c, dd, fun h' dd' hs => ⟨.ref s.heap.objs.size, _, ?_, rfl, q2⟩⟩
  have hz : (mergeK [] kvs).length ≤ sizeLine := by
    have h1 := length_mergeK kvs []
    rw [List.length_nil] at h1
    rw [sizeLine_eq]; omega
  have he : ∃ q, h'.get? s.heap.objs.size = some q := let ⟨q, _, _, hq, _⟩ := dd'; ⟨q, hq⟩
  exact d_write I2 (by rw [e]; exact True.intro) hs he (dk_new hz hd (rk.merge .nil) dd')
section
variable {X : Cx} {pins : List (Addr × Obj)} {σ : St} {H : Hp} {s : Shared} {a : Addr} {y d : V} {u r : Value} {o : Option V} {A : Around} {E : Value → Shared → Prop}
end
section
variable {X : Cx} {o e f : Expr} {apos cpos : Pos} {td ty tx : TE}
end
section
variable {X : Cx} {pins : List (Addr × Obj)} {σ : St} {H : Hp} {s : Shared} {a : Addr} {kvs : List (Key × V)} {A : Around} {E : Value → Shared → Prop}
end
section
variable {X : Cx} {pins : List (Addr × Obj)} {σ : St} {H : Hp} {s : Shared} {a : Addr} {y : V} {u : Value} {A : Around} {E : Value → Shared → Prop}
end
end L2
namespace Att
open PySem PySem.W PySem.Calls PyProof.Rows
theorem ints_of_wellAll {P : Params} {h : Heap} : ∀ (ns : List Int) (vs : List Value), WellAll P h vs (ns.map WData.int) → IntsAre vs ns := by
  intro ns
  induction ns with
  | nil =>
    intro vs w
    rw [List.map_nil] at w
    cases w
    exact .nil
  | cons n ns ih =>
    intro vs w
    rw [List.map_cons] at w
    cases w with
    | cons a b =>
      cases a
      exact .cons _ _ (ih _ b)
theorem script_of {l : OpenLaw} {n : Nat} (hn : l.most = some n) {P : Params} {h : Heap} {args : List WData} {vals : List Value}
    (hpre : l.row.toRowW.claim.pre args = true) (hwl : WellAll P h vals args) :
    ∃ a vs ns, vals = [Value.ref a] ∧ args = [WData.list (ns.map WData.int)] ∧ h.get? a = some { cls := .type "list", data := .seq vs.toArray } ∧ IntsAre vs ns ∧ ns.length ≤ n := by
  have hsh : WShape.hasAll [] args [.list .int] = true := (pre_splitW hpre).1
  have hc : l.pre.holds [] { args := args } = true := (pre_splitW hpre).2
  obtain ⟨d, r, rfl, h1, h2⟩ := hasAllW_cons hsh
  obtain rfl := hasAllW_nil h2
  obtain ⟨xs, rfl, h3⟩ := hasW_list h1
  obtain ⟨ns, rfl⟩ := items_int h3
  have hlen : ns.length ≤ n := by
    unfold OpenLaw.pre at hc
    have h4 : (WTm.not (.lt (.lit (.int (n : Int))) (.len (.arg 0)))).holds [] { args := [.list (ns.map .int)] } = true := by
      have h4 := (holds_andW hc).1
      rw [hn] at h4
      exact h4
    have h5 := condW_of h4 (w_not (w_lt w_lit (w_len_list (w_arg rfl))))
    rw [List.length_map] at h5
    refine Nat.le_of_not_lt fun q => ?_
    have q' : (n : Int) < ((ns.length : Nat) : Int) := by omega
    first
      | (rw [decide_eq_true q'] at h5; exact absurd h5 (by decide))
      | (simp at h5; omega)
  cases hwl with
  | cons w1 w2 =>
    cases w2
    cases w1 with
    | list ho hall => exact ⟨_, _, ns, rfl, rfl, ho, ints_of_wellAll ns _ hall, hlen⟩
theorem post_true (l : OpenLaw) (args : List WData) : l.row.toRowW.claim.post args (.bool true) args = true :=
  postW_of (r := l.row.toRowW) (X := (true == true))
    (show WShape.has [] (.bool true) .bool = true by first | rfl | decide | simp [WShape.has, WShape.arms, WShape.armsAll])
    (show (WTm.eq .res (.lit (.bool true))).value [] { args := args, res := some (.bool true), after := args } = some (.bool (true == true)) from w_eq_bool (w_res rfl) w_lit) rfl
theorem attach_call {l : OpenLaw} {n : Nat} {q : Program} {loose : List Str} {XP : (Str → Option Value) → Heap → Prop} {YP : World → Heap → Prop} {d : DefRec}
    (hn : l.most = some n) (hdf : d.params.defaults = [])
    (call : ∀ (w : World) (s₀ s₁ : Shared) (mg mb : Str → Option Value) (fa : Addr) (o : Obj) (pm cd doc : Value) (a : Addr) (vs : List Value) (ns : List Int),
      Ground q loose [] XP w s₀ mg mb s₁.heap → YP w s₁.heap →
      s₁.heap.get? fa = some o → o.data = .func (docDef d.name d.params d.body d.scope pm cd doc) → s₁.heap.CodeRec cd d.name → mg d.name = some (.ref fa) →
      s₁.heap.get? a = some { cls := .type "list", data := .seq vs.toArray } → IntsAre vs ns → ns.length ≤ n → s₁.gens = #[] →
      codeAny (model l.prog w) callerA (.call (.ref fa) ⟨[.ref a], []⟩) (fun r s' => r = .ok (.ret (.bool true)) ∧ OldK s₁.heap s'.heap ∧ s'.os = s₁.os ∧ AllBare s'.gens) s₁) :
    WalkO q loose XP YP l.row.toRowW d [] (fun f vs => PySem.call f vs) := by
  intro w s₀ s₁ mg mb G Y fa o pm cd doc dV kV ho hd hcd hD hmg hg args vals as hpre hlay hrd hwl hlo
  obtain rfl : dV = .none := Dflts.none hD hdf
  obtain rfl : kV = .none := Dflts.noKw hD
  obtain ⟨a, vs, ns, rfl, rfl, hobj, hints, hlen⟩ := script_of hn hpre hwl
  refine enter_call (codeAny_mono (call w s₀ s₁ mg mb fa o pm cd doc a vs ns G Y ho (fd_plain hd) hcd hmg hobj hints hlen hg) fun r s' hq => ?_)
  obtain ⟨rfl, h2, h3, h4⟩ := hq
  exact ⟨.inl ⟨.bool true, .bool true, [], rfl, fun _ => rfl, .bool true, post_true l _, fun _ => ⟨List.Pairwise.nil, fun _ hm => (nomatch hm)⟩⟩, h2, h3, h4⟩
section
variable {prog : Program} {w : World} {A : Around} {E : Value → Shared → Prop} {s : Shared} {K : Frag}
end
end Att
namespace L2
open PySem PySem.Spec PyProof.Rows
theorem vals_ints : ∀ {vs : List Value} {ns : List Int}, IntsAre vs ns → Vals (ns.map V.int) vs
  | _, _, .nil => .nil
  | _, _, .cons n t h => .cons ⟨t, rfl⟩ (vals_ints h)
def Only (H : Hp) : Prop := ∀ b, H b = none ∨ ∃ o xs, H b = some (.frz o (.lst xs))
theorem law_call {P : Program} {w : World} {K : PySem.W.Frag} {mg mb : Str → Option Value} {CX : CXT} {k : Nat} {fa a : Addr} {fd : FuncData} {x : Str} {sp : Sp} {s₁ : Shared} {vs : List Value} {ns : List Int}
    (KX : K.In s₁.heap) (hns : s₁.heap.Ns mainGlobals mg) (hb : s₁.heap.Ns builtinsNs mb) (hbb : ∀ x : Str, x ≠ "__name__" → mb x = bootBuiltins x) (hlim : s₁.heap.NoLimit) (hg : s₁.gens = #[])
    (ha : s₁.heap.get? a = some { cls := .type "list", data := .seq vs.toArray }) (hi : IntsAre vs ns) (hl : ns.length ≤ sizeLine) (hr : Room k callerA)
    (F : ∀ base : Heap, K.In base → base.Ns mainGlobals mg → FnOk P w K mg base CX k fa fd [x] sp) (hbind : ∀ (s : Shared) (u : Value), BindsTo s fd ⟨[u], []⟩ [(x, u)])
    (hsp : ∀ H : Hp, Only H → SqL K H a (ns.map V.int) → sp [.ref a] H (fun v _ => v = .bl true) fun _ _ _ => False)
    (hCX : ∀ H e s', CX [] H s₁ (fun _ _ _ => False) e s' → False) :
    codeAny (model P w) callerA (.call (.ref fa) ⟨[.ref a], []⟩) (fun r s' => r = .ok (.ret (.bool true)) ∧ OldK s₁.heap s'.heap ∧ s'.os = s₁.os ∧ AllBare s'.gens) s₁ := by
  have rv := vals_ints hi
  have lenV := hi.length
  have core : ∀ H : Hp, Only H → SqL K H a (ns.map V.int) → HOk P w H s₁.heap → (∀ b, H b ≠ none → b = a) → (H a ≠ none → K.lookup a = none) →
      codeAny (model P w) callerA (.call (.ref fa) ⟨[.ref a], []⟩) (fun r s' => r = .ok (.ret (.bool true)) ∧ OldK s₁.heap s'.heap ∧ s'.os = s₁.os ∧ AllBare s'.gens) s₁ := by
    intro H hO hS hok hA hK
    have base_of : ∀ {b : Addr} {o : Obj}, s₁.heap.get? b = some o → H b = none → (hidT s₁.heap H).get? b = some o := fun e n => hidT_get e n
    have noA : ∀ {b : Addr} {o : Obj} {es : Array DictEntry} {ep : Nat}, s₁.heap.get? b = some o → o.data = .dict es ep → H b = none := fun {b o es ep} e d => by
      cases q : H b with
      | none => rfl
      | some u =>
        have e' : b = a := hA b (by rw [q]; simp)
        subst e'
        rw [ha] at e; cases e
        have d' : Data.seq vs.toArray _ = Data.dict es ep := d
        cases d'
    have nsK : ∀ {b : Addr} {m : Str → Option Value}, s₁.heap.Ns b m → (hidT s₁.heap H).Ns b m := fun {b m} ⟨o, es, ep, e, d, r⟩ => ⟨o, es, ep, base_of e (noA e d), d, r⟩
    have hKb : K.In (hidT s₁.heap H) := fun b o e => base_of (KX b o e) (by
      cases q : H b with
      | none => rfl
      | some u =>
        have e' : b = a := hA b (by rw [q]; simp)
        subst e'
        rw [hK (by rw [q]; simp)] at e; cases e)
    have hM : Mod K mg (hidT s₁.heap H) := ⟨hKb, nsK hns, ⟨mb, nsK hb, hbb⟩, let ⟨mc, h1, h2⟩ := hlim; ⟨mc, nsK h1, h2⟩⟩
    have e0 : Env0 P w K mg (hidT s₁.heap H) callerA [] s₁ H := ⟨rfl, hM, fun b o e => of_hidT e, Nat.le_of_eq (hidT_size _ _), trivial, fun b hb => absurd (show b ∈ ([] : List Addr) from hb) (by simp), hok, .of_eq hg⟩
    refine codeAny_mono ((F _ hKb (nsK hns)).run callerA [] s₁ H ⟨[.ref a], []⟩ [.ref a] [.ref a] _ _ hr e0 (hbind s₁ (.ref a)) (.cons rfl .nil) (hsp H hO hS)) fun r s' h => ?_
    cases r with
    | error e => exact (hCX H e s' h).elim
    | ok fl =>
      cases fl with
      | next => exact False.elim h
      | brk => exact False.elim h
      | cont => exact False.elim h
      | ret u =>
        obtain ⟨v, H', os, bare, un, hok', r', q⟩ := h
        have q' : v = .bl true := q
        subst q'
        obtain rfl : u = Value.bool true := r'
        refine ⟨rfl, OldK.of_keep fun b o e => ?_, os, bare⟩
        cases q : H b with
        | none => exact un.keep b o e q (by intro z; exact absurd (show b ∈ ([] : List Addr) from z) (by simp)) (by simp)
        | some u =>
          rcases hO b with z | ⟨ob, xs, z⟩
          · rw [q] at z; cases z
          · have z2 := un.frzs b ob _ z
            obtain ⟨e1, _⟩ := hok b _ z
            obtain ⟨e2, _⟩ := hok' b _ z2
            rw [e] at e1; cases e1
            exact e2
  cases hk : K.lookup a with
  | some o =>
    have e := KX a o hk
    rw [ha] at e
    cases e
    refine core (fun _ => none) (fun _ => .inl rfl) (.inr ⟨_, vs.toArray, _, hk, rfl, rfl, rfl, by rw [List.size_toArray, lenV]; exact hl, by simpa using rv⟩) (fun b u z => by have z' : (none : Option HO) = some u := z; cases z') (fun b z => absurd rfl z) fun z => absurd rfl z
  | none =>
    refine core (fun b => if b = a then some (.frz { cls := .type "list", data := .seq vs.toArray } (.lst (ns.map V.int))) else none) (fun b => ?_) (.inl (.inr ⟨{ cls := .type "list", data := .seq vs.toArray }, if_pos rfl⟩)) (fun b u z => ?_) (fun b z => ?_) fun _ => hk
    · by_cases hb : b = a
      · exact .inr ⟨_, _, if_pos hb⟩
      · exact .inl (if_neg hb)
    · by_cases hb : b = a
      · have z' := (if_pos hb).symm.trans z
        cases z'
        subst hb
        exact ⟨ha, by rw [List.length_map]; exact hl, vs, _, rv, ha⟩
      · have z' := (if_neg hb).symm.trans z
        cases z'
    · by_cases hb : b = a
      · exact hb
      · exact absurd (if_neg hb) z
end L2
namespace L2
open PySem PySem.Spec PyProof.Rows
theorem walk_of {l : PySem.W.OpenLaw} {n k : Nat} {q : Program} {loose : List Str} {XP : (Str → Option Value) → Heap → Prop} {YP : World → Heap → Prop} {d : DefRec} {K : Params → PySem.W.Frag} {CX : World → CXT} {sp : World → Sp} {x : Str}
    (hn : l.most = some n) (hn2 : n ≤ sizeLine) (hdf : d.params.defaults = []) (hr : Room k callerA)
    (hY : ∀ (w : World) (h : Heap), YP w h → (K w.params).In h)
    (F : ∀ (w : World) (mg : Str → Option Value) (fa : Addr) (h : Heap), (K w.params).In h → h.Ns mainGlobals mg → mg d.name = some (.ref fa) →
      ∃ fd : FuncData, (∀ (s : Shared) (u : Value), BindsTo s fd ⟨[u], []⟩ [(x, u)]) ∧
        ∀ base : Heap, (K w.params).In base → base.Ns mainGlobals mg → FnOk l.prog w (K w.params) mg base (CX w) k fa fd [x] (sp w))
    (hsp : ∀ (w : World) (H : Hp) (a : Addr) (ns : List Int), ns.length ≤ n → Only H → SqL (K w.params) H a (ns.map V.int) → sp w [.ref a] H (fun v _ => v = .bl true) fun _ _ _ => False)
    (hCX : ∀ (w : World) (H : Hp) (s : Shared) (e : Value) (s' : Shared), CX w [] H s (fun _ _ _ => False) e s' → False) :
    PySem.W.WalkO q loose XP YP l.row.toRowW d [] (fun f vs => PySem.call f vs) := by
  refine Att.attach_call hn hdf fun w s₀ s₁ mg mb fa o pm cd doc a vs ns G Y ho hd hcd hmg hobj hints hlen hg => ?_
  have KX := hY w _ Y
  obtain ⟨fd, hb, hF⟩ := F w mg fa _ KX G.T.g hmg
  exact law_call KX G.T.g G.T.b G.T.builtins G.T.nolimit hg hobj hints (Nat.le_trans hlen hn2) hr hF hb (fun H hO hS => hsp w H a ns hlen hO hS) fun H e s' => hCX w H s₁ e s'
end L2
namespace L2
open PySem PySem.Spec PyProof.Rows
def inClass (s : Stmt) (j : Nat) : Stmt := match s with
  | .ClassDef _ _ _ body _ _ _ _ _ _ _ => body.getD j (.Pass ⟨0, 0, 0, 0⟩)
  | _ => .Pass ⟨0, 0, 0, 0⟩
def defArgs (s : Stmt) : Arguments := match s with
  | .FunctionDef _ a _ _ _ _ _ _ _ _ => a
  | _ => { posonlyargs := [], args := [], vararg := none, kwonlyargs := [], kw_defaults := [], kwarg := none, defaults := [] }
def defBody (s : Stmt) : List Stmt := match s with
  | .FunctionDef _ _ b _ _ _ _ _ _ _ => b
  | _ => []
def defScope (s : Stmt) : Scope := match s with
  | .FunctionDef _ _ _ _ _ _ sc _ _ _ => sc
  | _ => { kind := .function, names := [], isGenerator := false, isCoroutine := false }
abbrev CX0 : CXT := fun _ _ _ _ _ _ => False
abbrev E0 : XK := fun _ _ _ => False
theorem pass0 {X : Cx} : Passes CX0 X E0 := fun _ _ _ _ _ _ _ h => h.elim
structure Fun (K : PySem.W.Frag) (x qual : Str) (st : Stmt) (f : Addr) (fd : FuncData) : Prop where
  ex : ∃ (oc : Value) (od : Option Addr) (kV doc pm : Value) (an : Option Addr) (cdv ct : Value) (osl : Array (Option Value)),
    fd = PySem.W.fnOf x qual (defArgs st) (defBody st) (defScope st) .none kV doc pm an cdv ct ∧ K.lookup f = some ⟨oc, od, .func fd, osl⟩ ∧ PySem.W.codeIn K cdv qual = true
  kp : PySem.W.keepIn K (.ref f) = true
section
variable {P : Program} {w : World} {K : PySem.W.Frag} {mg : Str → Option Value} {base : Heap}
theorem Fun.ok {x qual : Str} {st : Stmt} {f : Addr} {fd : FuncData} {N ps : List Str} {k : Nat} {sp : Sp} (F : Fun K x qual st f fd) (S : FnScope N ps (defScope st)) (len : ∀ vs H Q E, sp vs H Q E → vs.length = ps.length)
    (hbody : ∀ (cdv : Value) (A : Around) (outer : List Env) (s : Shared) (H : Hp) (vs : List V) (Q : VK) (E : XK), Room k (A.deeper (envOfC qual (defScope st) s.heap.objs.size f cdv)) → sp vs H Q E →
      ∃ t, PSs (cxOf CX0 P w K mg base N qual (defScope st) f cdv A outer s H E).nox (defBody st) t ∧ t { nx := fun _ H' => Q .non H', rt := Q } (start N vs) H) : FnOk P w K mg base CX0 (k + 1) f fd ps sp := by
  obtain ⟨oc, od, kV, doc, pm, an, cdv, ct, osl, rfl, lk, hcd⟩ := F.ex
  refine fn_of lk hcd S len fun A outer s H vs Q E hr hsp => ?_
  obtain ⟨t, h, q⟩ := hbody cdv A outer s H vs Q E hr hsp
  exact ⟨t, h.nox, q⟩
theorem Fun.binds {x qual : Str} {st : Stmt} {f : Addr} {fd : FuncData} {ps : List Str} (F : Fun K x qual st f fd)
    (h : ∀ (kV doc pm : Value) (an : Option Addr) (cdv ct : Value) (us : List Value), us.length = ps.length → bindArgs (PySem.W.fnOf x qual (defArgs st) (defBody st) (defScope st) .none kV doc pm an cdv ct) ⟨us, []⟩ = pure (ps.zip us)) : Binds K fd ps [] := by
  obtain ⟨oc, od, kV, doc, pm, an, cdv, ct, osl, rfl, lk, hcd⟩ := F.ex
  exact .all (h kV doc pm an cdv ct)
theorem fun_mk {x qual : Str} {st : Stmt} {f : Addr} {oc : Value} {od an : Option Addr} {osl : Array (Option Value)} {kV doc pm cdv ct : Value} (l : K.lookup f = some ⟨oc, od, .func (PySem.W.fnOf x qual (defArgs st) (defBody st) (defScope st) .none kV doc pm an cdv ct), osl⟩)
    (c : PySem.W.codeIn K cdv qual = true) (k : PySem.W.keepIn K (.ref f) = true) : Fun K x qual st f (PySem.W.fnOf x qual (defArgs st) (defBody st) (defScope st) .none kV doc pm an cdv ct) := ⟨⟨oc, od, kV, doc, pm, an, cdv, ct, osl, rfl, l, c⟩, k⟩
end
theorem hu_of {A : Around} {k : Nat} (hr : Room k A) : A.units + 1 < cLine := Nat.lt_of_le_of_lt (Nat.add_le_add_left (by decide : 1 ≤ 64) _) hr.units
theorem small1000 {n : Nat} (h : n ≤ 1000) : n < sizeLine := Nat.lt_of_le_of_lt h (by decide)
section
variable {X : Cx}
theorem pv (i : Nat) {x : Str} {pos : Pos} (hN : X.N[i]? = some x := by rfl) (hv : Vis X.env.scope x := by first | exact Or.inl rfl | exact Or.inr (Or.inl rfl) | exact Or.inr (Or.inr rfl)) (hd : (x == ("__debug__" : Str)) = false := by decide)
    (hcd : (x == ("__classdict__" : Str)) = false := by decide) : PE X (.Name x pos) (tVar i) := pe_var hN hv hd hcd
theorem call_lenD : CallR X (.builtin "len") (fun xs H Q => ∃ a kvs, xs = [V.ref a] ∧ H a = some (.dK kvs) ∧ Q (.int kvs.length) H) := by
  intro pins s σ H xs us Q I r h
  obtain ⟨a, kvs, rfl, ha, q⟩ := h
  obtain ⟨u, rfl, ru⟩ := vals1 r
  cases ru
  exact d_len I (.inl ha) fun t s' I' => ⟨.int kvs.length, H, I', ⟨t, rfl⟩, q⟩
end
theorem iteF {A B : Prop} (h : B) : if false = true then A else B := by
  rw [if_neg Bool.false_ne_true]
  exact h
theorem iteT {A B : Prop} (h : A) : if true = true then A else B := by
  rw [if_pos rfl]
  exact h
def Same (H H' : Hp) : Prop := ∀ b o, H b = some o → H' b = some o
theorem Same.refl (H : Hp) : Same H H := fun _ _ h => h
theorem Same.trans {H H1 H2 : Hp} (a : Same H H1) (b : Same H1 H2) : Same H H2 := fun c o h => b c o (a c o h)
theorem Same.free {H H' : Hp} (e : Same H H') {l : Addr} (h : H' l = Option.none) : H l = Option.none := by
  cases q : H l with
  | none => rfl
  | some o =>
    rw [e l o q] at h
    cases h
section
variable {κ : Type} [DecidableEq κ]
end
end L2
namespace OG
open PySem PySem.Spec PyProof.Rows L2
structure WE (X : Cx) (e : Expr) (t : TE) : Prop where
  h : PE X e t
structure WT (X : Cx) (e : Expr) (t : TT) : Prop where
  h : PT X e t
structure WW (X : Cx) (e : Expr) (t : TT) : Prop where
  h : PW X e t
structure WA (X : Cx) (es : List Expr) (t : TA) : Prop where
  h : PA X es t
structure WS (X : Cx) (st : Stmt) (t : TS) : Prop where
  h : PS X st t
structure WSs (X : Cx) (st : List Stmt) (t : TS) : Prop where
  h : PSs X st t
structure WI (X : Cx) (tg iter : Expr) (wi : TI) : Prop where
  h : PI X tg iter wi
structure WG (X : Cx) (target : Expr) (t : TG) : Prop where
  h : PG X target t
structure WGs (X : Cx) (ts : List Expr) (t : TGs) : Prop where
  h : PGs X ts t
structure WC (X : Cx) (op : CmpOp) (a b : Expr) (t : TE) : Prop where
  h : PC X op a b t
structure WO (X : Cx) (e : Option Expr) (t : TO) : Prop where
  h : PO X e t
section
variable {X : Cx}
end
section
variable {X : Cx}
theorem wpe_int {i j pos} : WE X (.Constant (.int i) j pos) (tC (.int i)) := ⟨pe_int ⟩
end
section
variable {X : Cx}
theorem wpe_bl {b j pos} : WE X (.Constant (.bool b) j pos) (tC (.bl b)) := ⟨pe_bl ⟩
end
section
variable {X : Cx}
theorem wpe_non {j pos} : WE X (.Constant .none j pos) (tC .non) := ⟨pe_non ⟩
end
section
variable {X : Cx}
theorem wpe_str {x j pos} : WE X (.Constant (.str x) j pos) (tC (.str x)) := ⟨pe_str ⟩
end
section
variable {X : Cx}
end
section
variable {X : Cx}
end
section
variable {X : Cx}
variable {a b : Expr} {ta tb : TE} {pos : Pos}
end
section
variable {X : Cx}
variable {a b : Expr} {ta tb : TE} {pos : Pos}
end
section
variable {X : Cx}
variable {a b : Expr} {ta tb : TE} {pos : Pos}
end
section
variable {X : Cx}
variable {a b : Expr} {ta tb : TE} {pos : Pos}
end
section
variable {X : Cx}
variable {a b : Expr} {ta tb : TE} {pos : Pos}
end
section
variable {X : Cx}
variable {a b : Expr} {ta tb : TE} {pos : Pos}
end
section
variable {X : Cx}
variable {a b : Expr} {ta tb : TE} {pos : Pos}
end
section
variable {X : Cx}
variable {a b : Expr} {ta tb : TE} {pos : Pos}
end
section
variable {X : Cx}
variable {a b : Expr} {ta tb : TE} {pos : Pos}
end
section
variable {X : Cx}
variable {a b : Expr} {ta tb : TE} {pos : Pos}
end
section
variable {X : Cx}
variable {a b : Expr} {ta tb : TE} {pos : Pos}
end
section
variable {X : Cx}
variable {a b : Expr} {ta tb : TE} {pos : Pos}
end
section
variable {X : Cx}
variable {a b : Expr} {ta tb : TE} {pos : Pos}
theorem wpe_cmp {op : CmpOp} {t : TE} (h : WC X op a b t) (h1 : behindInMarks op b = false := by first | exact nobehind _ (by decide) (by decide) | rfl) : WE X (.Compare a [op] [b] pos) t := ⟨pe_cmp h.h h1⟩
end
section
variable {X : Cx}
variable {a b : Expr} {ta tb : TE} {pos : Pos}
theorem wpt_cmp {op : CmpOp} {t : TE} (h : WC X op a b t) (h1 : behindInMarks op b = false := by first | exact nobehind _ (by decide) (by decide) | rfl) : WT X (.Compare a [op] [b] pos) (tB t) := ⟨pt_cmp h.h h1⟩
end
section
variable {X : Cx}
variable {a b : Expr} {ta tb : TE} {pos : Pos}
theorem wpt_val {e : Expr} {t : TE} (h : WE X e t) (he : ∀ whole, isTrue e X.env whole = (do let v ← whole; standAt e.pos; holding [v] (truthy v)) := by intro _; rfl) : WT X e (tB t) := ⟨pt_val h.h he⟩
end
section
variable {X : Cx}
variable {a b : Expr} {ta tb : TE} {pos : Pos}
variable {tA tB' : TT} {rest : List Expr}
theorem wpw_and1 (ha : WT X a tA) : WW X (.BoolOp .And [a] pos) tA := ⟨pw_and1 ha.h⟩
end
section
variable {X : Cx}
variable {a b : Expr} {ta tb : TE} {pos : Pos}
variable {tA tB' : TT} {rest : List Expr}
theorem wpw_or1 (ha : WT X a tA) : WW X (.BoolOp .Or [a] pos) tA := ⟨pw_or1 ha.h⟩
end
section
variable {X : Cx}
variable {a b : Expr} {ta tb : TE} {pos : Pos}
variable {tA tB' : TT} {rest : List Expr}
theorem wpw_and (ha : WT X a tA) (hb : WW X (.BoolOp .And (b :: rest) pos) tB') : WW X (.BoolOp .And (a :: b :: rest) pos) (tAnd tA tB') := ⟨pw_and ha.h hb.h⟩
end
section
variable {X : Cx}
variable {a b : Expr} {ta tb : TE} {pos : Pos}
variable {tA tB' : TT} {rest : List Expr}
theorem wpw_or (ha : WT X a tA) (hb : WW X (.BoolOp .Or (b :: rest) pos) tB') : WW X (.BoolOp .Or (a :: b :: rest) pos) (tOr tA tB') := ⟨pw_or ha.h hb.h⟩
end
section
variable {X : Cx}
variable {a b : Expr} {ta tb : TE} {pos : Pos}
variable {tA tB' : TT} {rest : List Expr}
theorem wpt_not (ha : WT X a tA) : WT X (.UnaryOp .Not a pos) (tNot tA) := ⟨pt_not ha.h⟩
end
section
variable {X : Cx}
variable {a b : Expr} {ta tb : TE} {pos : Pos}
variable {tA tB' : TT} {rest : List Expr}
theorem wpe_one {op} {t : TE} (h : WE X a t) : WE X (.BoolOp op [a] pos) t := ⟨pe_one h.h⟩
end
section
variable {X : Cx}
variable {a b : Expr} {ta tb : TE} {pos : Pos}
variable {tA tB' : TT} {rest : List Expr}
theorem wpe_and (ha : WE X a ta) (hb : WE X (.BoolOp .And (b :: rest) pos) tb) : WE X (.BoolOp .And (a :: b :: rest) pos) (tAndV ta tb) := ⟨pe_and ha.h hb.h⟩
end
section
variable {X : Cx}
variable {a b : Expr} {ta tb : TE} {pos : Pos}
variable {tA tB' : TT} {rest : List Expr}
end
section
variable {X : Cx}
variable {a b : Expr} {ta tb : TE} {pos : Pos}
variable {tA tB' : TT} {rest : List Expr}
theorem wpe_not (ha : WE X a ta) : WE X (.UnaryOp .Not a pos) (tNotV ta) := ⟨pe_not ha.h⟩
end
section
variable {X : Cx}
variable {a b : Expr} {ta tb : TE} {pos : Pos}
variable {tA tB' : TT} {rest : List Expr}
end
section
variable {X : Cx} {st : Stmt} {rest : List Stmt} {t u : TS} {e : Expr} {te : TE} {pos : Pos}
theorem wpss_nil  : WSs X [] tNext := ⟨pss_nil ⟩
end
section
variable {X : Cx} {st : Stmt} {rest : List Stmt} {t u : TS} {e : Expr} {te : TE} {pos : Pos}
theorem wpss_cons (h1 : WS X st t) (h2 : WSs X rest u) : WSs X (st :: rest) (tSeq t u) := ⟨pss_cons h1.h h2.h⟩
end
section
variable {X : Cx} {st : Stmt} {rest : List Stmt} {t u : TS} {e : Expr} {te : TE} {pos : Pos}
theorem wpss_one (h1 : WS X st t) : WSs X [st] t := ⟨pss_one h1.h⟩
end
section
variable {X : Cx} {st : Stmt} {rest : List Stmt} {t u : TS} {e : Expr} {te : TE} {pos : Pos}
end
section
variable {X : Cx} {st : Stmt} {rest : List Stmt} {t u : TS} {e : Expr} {te : TE} {pos : Pos}
end
section
variable {X : Cx} {st : Stmt} {rest : List Stmt} {t u : TS} {e : Expr} {te : TE} {pos : Pos}
end
section
variable {X : Cx} {st : Stmt} {rest : List Stmt} {t u : TS} {e : Expr} {te : TE} {pos : Pos}
end
section
variable {X : Cx} {st : Stmt} {rest : List Stmt} {t u : TS} {e : Expr} {te : TE} {pos : Pos}
theorem wps_expr (he : WE X e te) (hs : swapsWith e none pos.line X.env = pure false := by rfl) : WS X (.Expr e pos) (tDrop te) := ⟨ps_expr he.h hs⟩
end
section
variable {X : Cx} {st : Stmt} {rest : List Stmt} {t u : TS} {e : Expr} {te : TE} {pos : Pos}
theorem wps_ret (he : WE X e te) : WS X (.Return (some e) pos) (tRet te) := ⟨ps_ret he.h⟩
end
section
variable {X : Cx} {st : Stmt} {rest : List Stmt} {t u : TS} {e : Expr} {te : TE} {pos : Pos}
end
section
variable {X : Cx} {st : Stmt} {rest : List Stmt} {t u : TS} {e : Expr} {te : TE} {pos : Pos}
theorem wps_if {c : Expr} {a b : List Stmt} {tc : TT} (hc : WT X c tc) (ha : WSs X a t) (hb : WSs X b u) : WS X (.If c a b pos) (tIfS tc t u) := ⟨ps_if hc.h ha.h hb.h⟩
end
section
variable {X : Cx} {st : Stmt} {rest : List Stmt} {t u : TS} {e : Expr} {te : TE} {pos : Pos}
end
section
variable {X : Cx} {st : Stmt} {rest : List Stmt} {t u : TS} {e : Expr} {te : TE} {pos : Pos}
end
section
variable {X : Cx} {pos : Pos}
theorem wpg_name {i : Nat} {x : Str} (hN : X.N.Nodup) (hi : X.N[i]? = some x) (hx : Loc X.env.scope x) (hf : X.fn x = true ∨ X.env.scope.names.lookup x = some .local := by first | exact .inl rfl | exact .inr rfl | assumption) : WG X (.Name x pos) (gName i) := ⟨pg_name hN hi hx hf⟩
end
section
variable {X : Cx} {pos : Pos}
theorem wpgs_nil  : WGs X [] gNil := ⟨pgs_nil ⟩
end
section
variable {X : Cx} {pos : Pos}
theorem wpgs_cons {e : Expr} {es : List Expr} {t : TG} {u : TGs} (h1 : WG X e t) (h2 : WGs X es u) (hs : (assignEach (e :: es) X.env).map (·.2) = assign e X.env :: (assignEach es X.env).map (·.2) := by rfl) : WGs X (e :: es) (gCons t u) := ⟨pgs_cons h1.h h2.h hs⟩
end
section
variable {X : Cx} {pos : Pos}
theorem wpg_tup {es : List Expr} {k : Nat} {t : TGs} {n : Nat} (hc : X.calm = true) (h : WGs X es t) (hn : (assignEach es X.env).length = n := by rfl) (hst : (assignEach es X.env).findIdx? (·.1) = none := by rfl) : WG X (.Tuple es k pos) (gTup X.K n t) := ⟨pg_tup hc h.h hn hst⟩
end
section
variable {X : Cx} {pos : Pos}
theorem wpg_sub {o i : Expr} {to ti : TE} {t : TSet} (ho : WE X o to) (hi : WE X i ti) (hs : PSet X t) (ha : ∀ v, assign (.Subscript o i pos) X.env v = (do
      let ov ← holding [v] (eval o X.env)
      let iv ← holding [v, ov] (eval i X.env)
      standAt pos
      holding [v, ov, iv] (setItem ov iv v)
      release [v, ov, iv] []) := by intro _; rfl) : WG X (.Subscript o i pos) (gSub to ti t) := ⟨pg_sub ho.h hi.h hs ha⟩
end
section
variable {X : Cx} {pos : Pos}
theorem wps_asg {tg e : Expr} {te : TE} {g : TG} (he : WE X e te) (hg : WG X tg g) (hs : swapsWithSole [tg] e pos.line X.env = pure false := by rfl) (hw : swappedStores [tg] e X.env = pure none := by rfl) (h1 : (assignEach [tg] X.env).map (·.2) = [assign tg X.env] := by rfl) : WS X (.Assign [tg] e pos) (tAsg te g) := ⟨ps_asg he.h hg.h hs hw h1⟩
end
section
variable {X : Cx} {pos : Pos}
theorem wps_set {i : Nat} {x : Str} {e : Expr} {te : TE} {pos' : Pos} (hN : X.N.Nodup) (hi : X.N[i]? = some x) (hx : Loc X.env.scope x) (he : WE X e te) (hs : swapsWith e (some (.Name x pos')) pos.line X.env = pure false := by rfl) (hf : X.fn x = true ∨ X.env.scope.names.lookup x = some .local := by first | exact .inl rfl | exact .inr rfl | assumption) : WS X (.Assign [.Name x pos'] e pos) (tAsg te (gName i)) := ⟨ps_set hN hi hx he.h hs hf⟩
end
section
variable {X : Cx} {pos : Pos}
end
section
variable {X : Cx} {pos : Pos}
end
section
variable {X : Cx} {pos : Pos}
end
section
variable {X : Cx} {pos : Pos}
theorem wps_while {c : Expr} {body : List Stmt} {tc : TT} {tb : TS} (hp : PassesOwn (model X.prog X.w) X.A X.env X.xe) (hc : WT X c tc) (hb : WSs X body tb) : WS X (.While c body [] pos) (tWhile tc tb) := ⟨ps_while hp hc.h hb.h⟩
end
section
variable {X : Cx} {tg : Expr}
theorem wpi_list {l : Expr} {tl : TE} (hl : WE X l tl) : WI X tg l (iList X.K tl) := ⟨pi_list hl.h⟩
end
section
variable {X : Cx} {tg : Expr}
theorem wpi_tup {l : Expr} {tl : TE} (hl : WE X l tl) : WI X tg l (iTup X.K tl) := ⟨pi_tup hl.h⟩
end
section
variable {X : Cx} {tg : Expr}
theorem wpi_range1 {a : Expr} {ta : TA} {p pos : Pos} (hg : Gl X "range") (hm : X.mg "range" = none) (ha : WA X [a] ta) (hs : starEach [a] X.env = [(false, eval a X.env)] := by rfl) : WI X tg (.Call (.Name "range" p) [a] [] pos) (iRng1 ta) := ⟨pi_range1 hg hm ha.h hs⟩
end
section
variable {X : Cx} {tg : Expr}
end
section
variable {X : Cx} {tg : Expr}
theorem wps_for {iter : Expr} {body : List Stmt} {wi : TI} {g : TG} {tb : TS} {pos : Pos} (hp : PassesOwn (model X.prog X.w) X.A X.env X.xe) (hc : X.calm = true) (hi : WI X tg iter wi) (hg : WG X tg g) (hb : WSs X body tb) (hs : ∀ x, foldedSetIterable iter X.env x = pure x := by intro _; rfl) : WS X (.For tg iter body [] pos) (tFor wi g tb) := ⟨ps_for hp hc hi.h hg.h hb.h hs⟩
end
section
variable {X : Cx} {a b c : Expr} {ta tb tc : TE} {pos : Pos}
theorem wpe_op {op : Operator} {r : R2} (ho : OpR X (binaryOp op) r) (ha : WE X a ta) (hb : WE X b tb) : WE X (.BinOp a op b pos) (tOp r ta tb) := ⟨pe_op ho ha.h hb.h⟩
end
section
variable {X : Cx} {a b c : Expr} {ta tb tc : TE} {pos : Pos}
end
section
variable {X : Cx} {a b c : Expr} {ta tb tc : TE} {pos : Pos}
theorem wpe_cmpR {op : CmpOp} {r : R2} (ho : OpR X (compareOp op) r) (ha : WE X a ta) (hb : WE X b tb) (hm : behindInMarks op b = false) : WE X (.Compare a [op] [b] pos) (tOp r ta tb) := ⟨pe_cmpR ho ha.h hb.h hm⟩
end
section
variable {X : Cx} {a b c : Expr} {ta tb tc : TE} {pos : Pos}
theorem wpt_cmpR {op : CmpOp} {r : R2} (ho : OpR X (compareOp op) r) (ha : WE X a ta) (hb : WE X b tb) (hm : behindInMarks op b = false) : WT X (.Compare a [op] [b] pos) (tTest (tOp r ta tb)) := ⟨pt_cmpR ho ha.h hb.h hm⟩
end
section
variable {X : Cx} {a b c : Expr} {ta tb tc : TE} {pos : Pos}
end
section
variable {X : Cx} {a b c : Expr} {ta tb tc : TE} {pos : Pos}
end
section
variable {X : Cx} {a b c : Expr} {ta tb tc : TE} {pos : Pos}
end
section
variable {X : Cx} {a b c : Expr} {ta tb tc : TE} {pos : Pos}
end
section
variable {X : Cx} {a b c : Expr} {ta tb tc : TE} {pos : Pos}
end
section
variable {X : Cx} {a b c : Expr} {ta tb tc : TE} {pos : Pos}
end
section
variable {X : Cx} {o e value : Expr} {f : Str} {pos pos' tpos : Pos} {ta tv : TE}
theorem wpe_fld (he : WE X e ta) (hb : attributeBase e f X.env (eval e X.env) = eval e X.env) : WE X (.Attribute e f pos) (tFld X.K ta f) := ⟨pe_fld he.h hb⟩
end
section
variable {X : Cx} {o e value : Expr} {f : Str} {pos pos' tpos : Pos} {ta tv : TE}
end
section
variable {X : Cx} {o e value : Expr} {f : Str} {pos pos' tpos : Pos} {ta tv : TE}
theorem wps_fld (ha : WE X o ta) (hv : WE X value tv) (hs : swapsWith value (some (.Attribute o f pos')) pos.line X.env = pure false) : WS X (.Assign [.Attribute o f pos'] value pos) (sFld X.K ta tv f) := ⟨ps_fld ha.h hv.h hs⟩
end
section
variable {X : Cx} {o e value : Expr} {f : Str} {pos pos' tpos : Pos} {ta tv : TE}
end
section
variable {X : Cx} {e : Expr} {es : List Expr} {te : TE} {t : TA} {pos : Pos}
theorem wpa_nil  : WA X [] tNil := ⟨pa_nil ⟩
end
section
variable {X : Cx} {e : Expr} {es : List Expr} {te : TE} {t : TA} {pos : Pos}
theorem wpa_cons (ha : WE X e te) (hr : WA X es t) (hs : starEach (e :: es) X.env = (false, eval e X.env) :: starEach es X.env := by rfl) : WA X (e :: es) (tCons te t) := ⟨pa_cons ha.h hr.h hs⟩
end
section
variable {X : Cx} {e : Expr} {es : List Expr} {te : TE} {t : TA} {pos : Pos}
theorem wpe_tup {x1} (h : WA X es t) : WE X (.Tuple es x1 pos) (tTup t) := ⟨pe_tup h.h⟩
end
section
variable {X : Cx} {e : Expr} {es : List Expr} {te : TE} {t : TA} {pos : Pos}
theorem wpe_lst (h : WA X es t) : WE X (.List es pos) (tLst t) := ⟨pe_lst h.h⟩
end
section
variable {X : Cx} {CX : CXT} {k : Nat} {f C : Addr} {fd : FuncData} {ps : List Str} {sp : Sp} {dvs : List V} {ds : List Value} {E : XK} {x m : Str} {p pos apos : Pos} {e o : Expr} {es : List Expr} {ta : TE} {t : TA}
end
section
variable {X : Cx} {CX : CXT} {k : Nat} {f C : Addr} {fd : FuncData} {ps : List Str} {sp : Sp} {dvs : List V} {ds : List Value} {E : XK} {x m : Str} {p pos apos : Pos} {e o : Expr} {es : List Expr} {ta : TE} {t : TA}
end
section
variable {X : Cx} {CX : CXT} {k : Nat} {f C : Addr} {fd : FuncData} {ps : List Str} {sp : Sp} {dvs : List V} {ds : List Value} {E : XK} {x m : Str} {p pos apos : Pos} {e o : Expr} {es : List Expr} {ta : TE} {t : TA}
theorem wpe_meth {pl : Sem Bool} (he : WE X o ta) (c : Cls X.K C) (hm : Meth X.K C m f) (F : FnOk X.prog X.w X.K X.mg X.base CX k f fd ps sp) (hr : Room k X.A) (hb : Binds X.K fd ps ds) (hd : Vals dvs ds) (hx : Passes CX X E) (ha : WA X (e :: es) t) (hst : starEach (e :: es) X.env = (false, eval e X.env) :: starEach es X.env := by rfl) (hpl : (backTo pos (starEach es X.env)).any (·.1) = false := by rfl) (ht : eval (.Call (.Attribute o m apos) (e :: es) [] pos) X.env = (do
      let ov ← eval o X.env
      standAt apos.atName
      let (f, first) ← holding [ov] (getMethod ov m pl)
      callWith pos f first (backTo pos (starEach (e :: es) X.env)) (backToKw pos (keywordEach [] X.env))) := by rfl) : WE X (.Call (.Attribute o m apos) (e :: es) [] pos) (tMeth C m sp dvs E ta t) := ⟨pe_meth he.h c hm F hr hb hd hx ha.h hst hpl ht⟩
end
section
variable {X : Cx} {CX : CXT} {k : Nat} {f C : Addr} {fd : FuncData} {ps : List Str} {sp : Sp} {dvs : List V} {ds : List Value} {E : XK} {x m : Str} {p pos apos : Pos} {e o : Expr} {es : List Expr} {ta : TE} {t : TA}
theorem wpe_meth0 {pl : Sem Bool} (he : WE X o ta) (c : Cls X.K C) (hm : Meth X.K C m f) (F : FnOk X.prog X.w X.K X.mg X.base CX k f fd ps sp) (hr : Room k X.A) (hb : Binds X.K fd ps ds) (hd : Vals dvs ds) (hx : Passes CX X E) (ht : eval (.Call (.Attribute o m apos) [] [] pos) X.env = (do
      let ov ← eval o X.env
      standAt apos.atName
      let (f, first) ← holding [ov] (getMethod ov m pl)
      callWith pos f first (backTo pos (starEach [] X.env)) (backToKw pos (keywordEach [] X.env))) := by rfl) : WE X (.Call (.Attribute o m apos) [] [] pos) (tMeth C m sp dvs E ta tNil) := ⟨pe_meth0 he.h c hm F hr hb hd hx ht⟩
end
section
variable {X : Cx} {CX : CXT} {k : Nat} {f C : Addr} {fd : FuncData} {ps : List Str} {sp : Sp} {dvs : List V} {ds : List Value} {E : XK} {x m : Str} {p pos apos : Pos} {e o : Expr} {es : List Expr} {ta : TE} {t : TA}
theorem wpe_make (M : Mk X.K C f) (F : FnOk X.prog X.w X.K X.mg X.base CX k f fd ps sp) (hr : Room (k + 1) X.A) (hg : Gl X x) (hm : X.mg x = some (.ref C)) (hb : Binds X.K fd ps ds) (hd : Vals dvs ds) (hx : Passes CX X E) (ha : WA X (e :: es) t) (hdb : (x == ("__debug__" : Str)) = false := by decide) (he : starEach (e :: es) X.env = (false, eval e X.env) :: starEach es X.env := by rfl) (hpl : (backTo pos (starEach es X.env)).any (·.1) = false := by rfl) : WE X (.Call (.Name x p) (e :: es) [] pos) (tMake C sp dvs E t) := ⟨pe_make M F hr hg hm hb hd hx ha.h hdb he hpl⟩
end
section
variable {X : Cx} {CX : CXT} {k : Nat} {f C : Addr} {fd : FuncData} {ps : List Str} {sp : Sp} {dvs : List V} {ds : List Value} {E : XK} {x m : Str} {p pos apos : Pos} {e o : Expr} {es : List Expr} {ta : TE} {t : TA}
end
section
variable {X : Cx} {CX : CXT} {k : Nat} {f C : Addr} {fd : FuncData} {ps ks : List Str} {sp : Sp} {E : XK} {x m : Str} {p pos apos kpos : Pos} {e o : Expr} {es : List Expr} {kws : List Keyword} {te ta : TE} {t tk : TA} {nm : Option Str}
variable {g : List Value → List Value → List Value} {gV : List V → List V → List V}
end
section
variable {X : Cx} {x : Str} {p pos : Pos} {e : Expr} {es : List Expr} {t : TA} {id T : String} {r : List V → Hp → VK → Prop}
theorem wpe_callB (hc : CallR X (.builtin id) r) (hg : Gl X x) (hm : X.mg x = none) (hv : bootBuiltins x = some (.builtin id)) (ha : WA X (e :: es) t) (hn : x ≠ "__name__" := by decide) (hdb : (x == ("__debug__" : Str)) = false := by decide) (he : starEach (e :: es) X.env = (false, eval e X.env) :: starEach es X.env := by rfl) (hpl : (backTo pos (starEach es X.env)).any (·.1) = false := by rfl) : WE X (.Call (.Name x p) (e :: es) [] pos) (tCB r t) := ⟨pe_callB hc hg hm hv ha.h hn hdb he hpl⟩
end
section
variable {X : Cx} {x : Str} {p pos : Pos} {e : Expr} {es : List Expr} {t : TA} {id T : String} {r : List V → Hp → VK → Prop}
theorem wpe_callTy (hc : CallR X (.type T) r) (hg : Gl X x) (hm : X.mg x = none) (hv : bootBuiltins x = some (.type T)) (ha : WA X (e :: es) t) (hn : x ≠ "__name__" := by decide) (hdb : (x == ("__debug__" : Str)) = false := by decide) (he : starEach (e :: es) X.env = (false, eval e X.env) :: starEach es X.env := by rfl) (hpl : (backTo pos (starEach es X.env)).any (·.1) = false := by rfl) : WE X (.Call (.Name x p) (e :: es) [] pos) (tCB r t) := ⟨pe_callTy hc hg hm hv ha.h hn hdb he hpl⟩
end
section
variable {X : Cx} {x : Str} {p pos : Pos} {e : Expr} {es : List Expr} {t : TA} {id T : String} {r : List V → Hp → VK → Prop}
end
section
variable {X : Cx} {e : Expr} {te : TE} {lo hi : Option Expr} {tl th : TO} {pos p2 : Pos}
theorem wpo_none  : WO X none tNoPart := ⟨po_none ⟩
end
section
variable {X : Cx} {e : Expr} {te : TE} {lo hi : Option Expr} {tl th : TO} {pos p2 : Pos}
theorem wpo_some (h : WE X e te) : WO X (some e) (tPart te) := ⟨po_some h.h⟩
end
section
variable {X : Cx} {e : Expr} {te : TE} {lo hi : Option Expr} {tl th : TO} {pos p2 : Pos}
theorem wpe_slice {r : V → Option Int → Option Int → Hp → VK → Prop} (hr : SlR X r) (he : WE X e te) (hl : WO X lo tl) (hu : WO X hi th) : WE X (.Subscript e (.Slice lo hi none p2) pos) (tSl r te tl th) := ⟨pe_slice hr he.h hl.h hu.h⟩
end
section
variable {X : Cx} {a b : Expr} {ta tb : TE} {pos : Pos}
theorem wpe_ix {r : R2} (hr : IxR X r) (ha : WE X a ta) (hb : WE X b tb) (hs : PlainIx b) : WE X (.Subscript a b pos) (tOp r ta tb) := ⟨pe_ix hr ha.h hb.h hs⟩
end
section
variable {X : Cx} {a b : Expr} {ta tb : TE} {pos : Pos}
variable {o e : Expr} {es : List Expr} {to : TE} {t : TA} {name : Str} {apos cpos : Pos} {T id : String} {r : V → List V → Hp → VK → Prop}
end
section
variable {X : Cx} {a b : Expr} {ta tb : TE} {pos : Pos}
variable {o e : Expr} {es : List Expr} {to : TE} {t : TA} {name : Str} {apos cpos : Pos} {T id : String} {r : V → List V → Hp → VK → Prop}
theorem wpe_bm (pa : PlainAttrs T) (slot : Slot T name id) (hty : typeOf (.builtin id) = pure (.type "method_descriptor")) (hm : MtR X id r) (ho : WE X o to) (ha : WA X (e :: es) t) (hbase : attributeBase o name X.env (eval o X.env) = eval o X.env := by rfl) (hfew : ((backTo cpos (starEach (e :: es) X.env)).all (fun x => !x.1) && (backToKw cpos (keywordEach [] X.env)).all (fun x => x.1.isSome)
      && decide ((e :: es).length + ([] : List Keyword).length + (if ([] : List Keyword).isEmpty then 0 else 1) < 30)) = true := by rfl) (hline : (apos.endLine == cpos.line) = true := by rfl) (hs : starEach (e :: es) X.env = (false, eval e X.env) :: starEach es X.env := by rfl) (hplain : (backTo cpos (starEach es X.env)).any (·.1) = false := by rfl) : WE X (.Call (.Attribute o name apos) (e :: es) [] cpos) (tBM X.K T r to t) := ⟨pe_bm pa slot hty hm ho.h ha.h hbase hfew hline hs hplain⟩
end
section
variable {X : Cx} {o i e value : Expr} {pos pos' tpos : Pos} {td ty tv : TE}
theorem wpe_dget (hu : X.A.units + 1 < cLine) (ho : WE X o td) (hi : WE X i ty) (hs : NoSl i) : WE X (.Subscript o i pos) (tDGet td ty) := ⟨pe_dget hu ho.h hi.h hs⟩
end
section
variable {X : Cx} {o i e value : Expr} {pos pos' tpos : Pos} {td ty tv : TE}
end
section
variable {X : Cx} {o i e value : Expr} {pos pos' tpos : Pos} {td ty tv : TE}
theorem wpc_dnotin (hu : X.A.units + 1 < cLine) (hi : WE X i ty) (ho : WE X o td) : WC X .NotIn i o (tDNotIn ty td) := ⟨pc_dnotin hu hi.h ho.h⟩
end
section
variable {X : Cx} {o i e value : Expr} {pos pos' tpos : Pos} {td ty tv : TE}
theorem wps_dput (hu : X.A.units + 1 < cLine) (ho : WE X o td) (hi : WE X i ty) (hv : WE X value tv) (hs : swapsWith value (some (.Subscript o i pos')) pos.line X.env = pure false) : WS X (.Assign [.Subscript o i pos'] value pos) (sDPut td ty tv) := ⟨ps_dput hu ho.h hi.h hv.h hs⟩
end
section
variable {X : Cx} {o i e value : Expr} {pos pos' tpos : Pos} {td ty tv : TE}
end
section
variable {X : Cx} {o i e value : Expr} {pos pos' tpos : Pos} {td ty tv : TE}
end
section
variable {X : Cx} {pos : Pos}
theorem wpe_dnewK  : WE X (.Dict [] [] pos) tDNewK := ⟨pe_dnewK ⟩
end
section
variable {X : Cx} {pos : Pos}
end
section
theorem wpe_disp {X : Cx} {pos : Pos} {keys : List (Option Expr)} {values : List Expr} {trs : List (TE × TE)} (h : PPs X pos keys values trs) (hall : keys.all (·.isSome) = true) (hl : keys.length = values.length) (h0 : keys ≠ []) (h15 : keys.length ≤ 15) : WE X (.Dict keys values pos) (tDisp trs) := ⟨pe_disp h hall hl h0 h15⟩
end
section
variable {X : Cx} {o e f : Expr} {apos cpos : Pos} {td ty tx : TE}
end
section
variable {X : Cx} {o e f : Expr} {apos cpos : Pos} {td ty tx : TE}
end
section
variable {X : Cx} {o e f : Expr} {apos cpos : Pos} {td ty tx : TE}
end
section
variable {X : Cx} {o e f : Expr} {apos cpos : Pos} {td ty tx : TE}
end
section
variable {X : Cx}
theorem wpv (i : Nat) {x : Str} {pos : Pos} (hN : X.N[i]? = some x := by rfl) (hv : Vis X.env.scope x := by first | exact Or.inl rfl | exact Or.inr (Or.inl rfl) | exact Or.inr (Or.inr rfl)) (hd : (x == ("__debug__" : Str)) = false := by decide) (hcd : (x == ("__classdict__" : Str)) = false := by decide) : WE X (.Name x pos) (tVar i) := ⟨pv i hN hv hd hcd⟩
end
theorem WW.pt {X : Cx} {e : Expr} {t : TT} (h : WW X e t) : WT X e t := ⟨h.h.pt⟩
end OG
namespace OG
open PySem PySem.Spec PyProof.Rows L2
section
variable {X : Cx} {a b c e : Expr} {ta tb tc : TE} {pos : Pos}
def CDivB (i j : Int) : Prop := 0 < j ∧ j.natAbs.log2 < 9000
theorem op_fdivB : OpR X (binaryOp .FloorDiv) (rI CDivB fun i j => .int (i / j)) := opI fun i j _ _ _ _ _ hc q => by
  refine PyProof.Rows.floordiv_int (by have := hc.1; omega) ?_ (.inl (PyProof.noPylong_of_log2 hc.2))
  rw [Int.fdiv_eq_ediv_of_nonneg i (Int.le_of_lt hc.1)]
  exact q
theorem call_isinst : CallR X (.builtin "isinstance") (fun xs H Q => ∃ (x : V) (T : String) (t : Value) (k : Bool), xs = [x, .ty T] ∧ TyOf X.K H x t ∧ PySem.W.kitOne X.K t (.type T) = some k ∧ Q (.bl k) H) := by
  rintro pins s σ H xs us Q I r ⟨x, T, t, k, rfl, ty, e, q⟩
  obtain ⟨u, w', rfl, ru, rw'⟩ := vals2 r
  cases rw'
  exact isinst_ok I ru ty e fun tk => ⟨.bl k, H, I.tok tk, rfl, q⟩
end
inductive D where
  | non | bl (b : Bool) | int (i : Int) | str (x : Str) | tup (ds : List D) | lst (ds : List D)
mutual
def Is (H : Hp) : V → D → Prop
  | v, .non => v = .non
  | v, .bl b => v = .bl b
  | v, .int i => v = .int i
  | v, .str x => v = .str x
  | v, .tup ds => ∃ a xs, v = .ref a ∧ H a = some (.tup xs) ∧ IsL H xs ds
  | v, .lst ds => ∃ a xs, v = .ref a ∧ H a = some (.lst xs) ∧ IsL H xs ds
def IsL (H : Hp) : List V → List D → Prop
  | xs, [] => xs = []
  | xs, d :: ds => ∃ x r, xs = x :: r ∧ Is H x d ∧ IsL H r ds
end
mutual
theorem Is.mono {H H' : Hp} (s : Same H H') : ∀ {v : V} {d : D}, Is H v d → Is H' v d
  | v, .non, h => by unfold Is at h ⊢; exact h
  | v, .bl b, h => by unfold Is at h ⊢; exact h
  | v, .int i, h => by unfold Is at h ⊢; exact h
  | v, .str x, h => by unfold Is at h ⊢; exact h
  | v, .tup ds, h => by
    unfold Is at h ⊢
    obtain ⟨a, xs, e, k, l⟩ := h
    exact ⟨a, xs, e, s _ _ k, IsL.mono s l⟩
  | v, .lst ds, h => by
    unfold Is at h ⊢
    obtain ⟨a, xs, e, k, l⟩ := h
    exact ⟨a, xs, e, s _ _ k, IsL.mono s l⟩
theorem IsL.mono {H H' : Hp} (s : Same H H') : ∀ {xs : List V} {ds : List D}, IsL H xs ds → IsL H' xs ds
  | xs, [], h => by unfold IsL at h ⊢; exact h
  | xs, d :: ds, h => by
    unfold IsL at h ⊢
    obtain ⟨x, r, e, k, l⟩ := h
    exact ⟨x, r, e, Is.mono s k, IsL.mono s l⟩
end
section
variable {H H' : Hp} {v : V} {xs ys : List V} {ds es : List D} {d : D} {p q : Addr} {o : HO}
theorem Is.int_ {i : Int} : Is H (.int i) (.int i) := by unfold Is; rfl
theorem Is.bl_ {b : Bool} : Is H (.bl b) (.bl b) := by unfold Is; rfl
theorem Is.non_ : Is H .non .non := by unfold Is; rfl
theorem Is.str_ {x : Str} : Is H (.str x) (.str x) := by unfold Is; rfl
theorem Is.of_int {i : Int} (h : Is H v (.int i)) : v = .int i := by unfold Is at h; exact h
theorem Is.of_bl {b : Bool} (h : Is H v (.bl b)) : v = .bl b := by unfold Is at h; exact h
theorem Is.of_non (h : Is H v .non) : v = .non := by unfold Is at h; exact h
theorem Is.of_str {x : Str} (h : Is H v (.str x)) : v = .str x := by unfold Is at h; exact h
theorem Is.of_tup (h : Is H v (.tup ds)) : ∃ a xs, v = .ref a ∧ H a = some (.tup xs) ∧ IsL H xs ds := by unfold Is at h; exact h
theorem Is.tup_ (e : H p = some (.tup xs)) (h : IsL H xs ds) : Is H (.ref p) (.tup ds) := by unfold Is; exact ⟨p, xs, rfl, e, h⟩
theorem IsL.nil_ : IsL H [] [] := by unfold IsL; rfl
theorem IsL.cons_ {x : V} (h : Is H x d) (t : IsL H xs ds) : IsL H (x :: xs) (d :: ds) := by unfold IsL; exact ⟨x, xs, rfl, h, t⟩
theorem IsL.of_nil (h : IsL H xs []) : xs = [] := by unfold IsL at h; exact h
theorem IsL.of_cons (h : IsL H xs (d :: ds)) : ∃ x r, xs = x :: r ∧ Is H x d ∧ IsL H r ds := by unfold IsL at h; exact h
theorem IsL.length : ∀ {xs : List V} {ds : List D}, IsL H xs ds → xs.length = ds.length
  | xs, [], h => by rw [h.of_nil]; rfl
  | xs, d :: ds, h => by
    obtain ⟨x, r, rfl, _, t⟩ := h.of_cons
    rw [List.length_cons, List.length_cons, IsL.length t]
theorem IsL.getD : ∀ {xs : List V} {ds : List D} {i : Nat} {d : D}, IsL H xs ds → ds[i]? = some d → ∃ x, xs[i]? = some x ∧ Is H x d
  | xs, [], i, x, h, e => by simp at e
  | xs, d :: ds, 0, x, h, e => by
    obtain ⟨y, r, rfl, k, t⟩ := h.of_cons
    simp at e; subst e; exact ⟨y, by simp, k⟩
  | xs, d :: ds, i + 1, x, h, e => by
    obtain ⟨y, r, rfl, k, t⟩ := h.of_cons
    obtain ⟨d', e1, e2⟩ := IsL.getD (i := i) (d := x) t (by simpa using e)
    exact ⟨d', by simpa using e1, e2⟩
theorem IsL.append : ∀ {xs : List V} {ds : List D}, IsL H xs ds → IsL H ys es → IsL H (xs ++ ys) (ds ++ es)
  | xs, [], h, k => by rw [h.of_nil]; exact k
  | xs, d :: ds, h, k => by
    obtain ⟨y, r, rfl, z, t⟩ := h.of_cons
    exact .cons_ z (IsL.append t k)
theorem IsL.ints : ∀ {ns : List Int}, IsL H (ns.map V.int) (ns.map D.int)
  | [] => IsL.nil_
  | _ :: _ => .cons_ .int_ IsL.ints
end
theorem same_new {H : Hp} {p : Addr} (h : H p = none) (o : HO) : Same H (upd H p o) := fun b u q => by rw [upd_ne (ne_of_none q h)]; exact q
def Def (K : PySem.W.Frag) (mg : Str → Option Value) (x : Str) (st : Stmt) (ps : List Str) : Prop :=
  ∃ f fd, Fun K x x st f fd ∧ Binds K fd ps [] ∧ mg x = some (.ref f)
def Has (P : Program) (w : World) (K : PySem.W.Frag) (mg : Str → Option Value) (base : Heap) (x : Str) (k : Nat) (ps : List Str) (sp : Sp) : Prop :=
  ∃ f fd, FnOk P w K mg base CX0 k f fd ps sp ∧ Binds K fd ps [] ∧ PySem.W.keepIn K (.ref f) = true ∧ mg x = some (.ref f)
section
variable {P : Program} {w : World} {K : PySem.W.Frag} {mg : Str → Option Value} {base : Heap} {x : Str} {st : Stmt} {ps N : List Str} {k j : Nat} {sp sp' : Sp}
theorem Has.mono (h : Has P w K mg base x j ps sp) (l : j ≤ k) : Has P w K mg base x k ps sp := by
  obtain ⟨f, fd, a, b, c, d⟩ := h
  exact ⟨f, fd, a.mono l, b, c, d⟩
theorem Def.has (d : Def K mg x st ps) (S : FnScope N ps (defScope st)) (len : ∀ vs H Q E, sp vs H Q E → vs.length = ps.length)
    (hbody : ∀ (f : Addr) (cdv : Value) (A : Around) (outer : List Env) (s : Shared) (H : Hp) (vs : List V) (Q : VK) (E : XK), Room k (A.deeper (envOfC x (defScope st) s.heap.objs.size f cdv)) → sp vs H Q E →
      ∃ t, WSs (cxOf CX0 P w K mg base N x (defScope st) f cdv A outer s H E).nox (defBody st) t ∧ t { nx := fun _ H' => Q .non H', rt := Q } (start N vs) H) : Has P w K mg base x (k + 1) ps sp := by
  obtain ⟨f, fd, F, b, m⟩ := d
  exact ⟨f, fd, F.ok S len (fun cdv A outer s H vs Q E hr h => let ⟨t, a, b⟩ := hbody f cdv A outer s H vs Q E hr h; ⟨t, a.h, b⟩), b, F.kp, m⟩
theorem Def.none (d : Def K mg x st ps) (no : ∀ vs H Q E, ¬ sp vs H Q E) : Has P w K mg base x k ps sp := by
  obtain ⟨f, fd, F, b, m⟩ := d
  exact ⟨f, fd, ⟨fun vs H Q E h => absurd h (no vs H Q E), fun A outer s H args us vs Q E _ _ _ _ h => absurd h (no vs H Q E)⟩, b, F.kp, m⟩
end
theorem wpe_fn {X : Cx} {k : Nat} {ps : List Str} {sp : Sp} {x : Str} {p pos : Pos} {e : Expr} {es : List Expr} {t : TA} (F : Has X.prog X.w X.K X.mg X.base x k ps sp) (hr : Room k X.A) (hg : Gl X x)
    (ha : WA X (e :: es) t) (hdb : (x == ("__debug__" : Str)) = false := by decide) (he : starEach (e :: es) X.env = (false, eval e X.env) :: starEach es X.env := by rfl) (hpl : (backTo pos (starEach es X.env)).any (·.1) = false := by rfl) :
    WE X (.Call (.Name x p) (e :: es) [] pos) (tCall sp [] E0 t) := by
  obtain ⟨f, fd, a, b, c, d⟩ := F
  exact ⟨pe_call a hr hg d c b .nil pass0 ha.h hdb he hpl⟩
structure Blt (mg : Str → Option Value) : Prop where
  len : mg "len" = none
  isinstance : mg "isinstance" = none
  int : mg "int" = none
  bool : mg "bool" = none
  str : mg "str" = none
  tuple : mg "tuple" = none
  list : mg "list" = none
  range : mg "range" = none
  min : mg "min" = none
  sum : mg "sum" = none
  all : mg "all" = none
  zip : mg "zip" = none
  sorted : mg "sorted" = none
  dict : mg "dict" = none
  enumerate : mg "enumerate" = none
  any : mg "any" = none
  max : mg "max" = none
  set : mg "set" = none
theorem smallN {n : Nat} (h : n ≤ 1000) : n ≤ sizeLine := Nat.le_of_lt (small1000 h)
end OG
namespace OG
open PySem PySem.Spec PyProof.Rows L2
section
variable {X : Cx} {st : Stmt} {rest : List Stmt} {t u : TS}
end
end OG
namespace OG
open PySem PySem.Spec PyProof.Rows L2
section
variable {p : Addr} {σ : L2.St} {H0 : Hp} {t ta tb : TE} {tr : TA} {d : D} {ds es : List D} {i j : Int} {o : HO}
end
theorem log2_small {n : Nat} (h : n < 2 ^ 60) : n.log2 < 1920 := by
  by_cases e : n = 0
  · subst e; decide
  · have := (Nat.log2_lt e).mpr h; omega
end OG
namespace OG
open PySem PySem.Spec PyProof.Rows L2
theorem cut_ints (ns : List Int) (lo hi : Option Int) : cutV (ns.map V.int) lo hi = ((ns.drop (HT.sIx (ns.map V.int).length 0 lo)).take (HT.sIx (ns.map V.int).length (ns.map V.int).length hi - HT.sIx (ns.map V.int).length 0 lo)).map V.int := by
  unfold cutV
  rw [List.map_take, List.map_drop]
def spLaw (K : PySem.W.Frag) : Sp := fun vs H Q _ => ∃ (a : Addr) (ns : List Int), vs = [.ref a] ∧ SqL K H a (ns.map V.int) ∧ ns.length ≤ 63 ∧ ∀ H', Q (.bl true) H'
end OG
namespace OG
open PySem PySem.Spec PyProof.Rows L2
theorem boot_int : bootBuiltins "int" = some (.type "int") := rfl
theorem boot_bool : bootBuiltins "bool" = some (.type "bool") := rfl
theorem boot_str : bootBuiltins "str" = some (.type "str") := rfl
theorem boot_tuple : bootBuiltins "tuple" = some (.type "tuple") := rfl
theorem boot_list : bootBuiltins "list" = some (.type "list") := rfl
theorem boot_isinstance : bootBuiltins "isinstance" = some (.builtin "isinstance") := rfl
theorem boot_min : bootBuiltins "min" = some (.builtin "min") := rfl
theorem boot_sorted : bootBuiltins "sorted" = some (.builtin "sorted") := rfl
theorem wpe_ty {X : Cx} {x : Str} {T : String} {pos : Pos} (hg : Gl X x) (hm : X.mg x = none) (hv : bootBuiltins x = some (.type T)) (hn : x ≠ "__name__" := by decide) (hd : (x == ("__debug__" : Str)) = false := by decide) : WE X (.Name x pos) (tC (.ty T)) :=
  ⟨pe_bltn hg hm hv rfl hn hd⟩
end OG
namespace OG
open PySem PySem.Spec PyProof.Rows L2
end OG
namespace OG
open PySem PySem.Spec PyProof.Rows L2
theorem atI_of {α : Type} {xs : List α} {k : Int} {v : α} (h0 : 0 ≤ k) (h : xs[k.toNat]? = some v) : atI xs k = some v := by
  have ek : k = ((k.toNat : Nat) : Int) := by omega
  rw [ek]; exact atI_nat h
end OG
namespace OG
open PySem PySem.Spec PyProof.Rows L2
end OG
namespace OG
open PySem PySem.Spec PyProof.Rows L2
end OG
namespace OG
open PySem PySem.Spec PyProof.Rows L2
theorem Fun.okW {P : Program} {w : World} {K : PySem.W.Frag} {mg : Str → Option Value} {base : Heap} {x qual : Str} {st : Stmt} {f : Addr} {fd : FuncData} {N ps : List Str} {k : Nat} {sp : Sp} (F : Fun K x qual st f fd) (S : FnScope N ps (defScope st)) (len : ∀ vs H Q E, sp vs H Q E → vs.length = ps.length)
    (hbody : ∀ (cdv : Value) (A : Around) (outer : List Env) (s : Shared) (H : Hp) (vs : List V) (Q : VK) (E : XK), Room k (A.deeper (envOfC qual (defScope st) s.heap.objs.size f cdv)) → sp vs H Q E →
      ∃ t, WSs (cxOf CX0 P w K mg base N qual (defScope st) f cdv A outer s H E).nox (defBody st) t ∧ t { nx := fun _ H' => Q .non H', rt := Q } (start N vs) H) : FnOk P w K mg base CX0 (k + 1) f fd ps sp :=
  F.ok S len fun cdv A outer s H vs Q E hr h => let ⟨t, a, b⟩ := hbody cdv A outer s H vs Q E hr h; ⟨t, a.h, b⟩
end OG
set_option maxHeartbeats 1000000
namespace OG
open PySem PySem.Spec PyProof.Rows L2
def AllC (env : Env) : List (Str × Addr) → Prop
  | [] => True
  | p :: r => env.cells.lookup p.1 = some p.2 ∧ AllC env r
theorem AllC.look {env : Env} : ∀ {cl : List (Str × Addr)} {y : Str} {c : Addr}, AllC env cl → cl.lookup y = some c → env.cells.lookup y = some c
  | [], _, _, _, h => by simp at h
  | (n, d) :: r, y, c, a, h => by
    obtain ⟨a1, a2⟩ := a
    rw [List.lookup_cons] at h
    by_cases e : (y == n) = true
    · rw [e] at h
      have e' : y = n := by simpa using e
      subst e'
      cases h
      exact a1
    · have e' : (y == n) = false := by simpa using e
      rw [e'] at h
      exact AllC.look a2 h
abbrev cxC (X : Cx) (Nc : List Str) (scope : Scope) (cl : List (Str × Addr)) (s3 : Shared) (H3 : Hp) (fp : List Addr) : Cx where
  prog := X.prog
  w := X.w
  K := X.K
  mg := X.mg
  base := X.base
  A := X.A
  N := Nc
  s₀ := s3
  H₀ := H3
  env := compEnvC scope cl s3.heap.objs.size X.env
  outer := X.stack
  stack := X.stack
  ex := fp
  fn := fun _ => false
  calm := X.calm
  pn := []
  xe := fun _ _ => False
def stC (n : Nat) (caps : List Nat) (σ : L2.St) : L2.St := List.replicate n none ++ caps.map fun i => (σ[i]?).getD none
def tComp (wi : TI) (g : TG) (te : TE) (n : Nat) (caps : List Nat) : TE := fun σ H Q => wi σ H fun J H1 => ∀ l, H1 l = none → ∃ W : Nat → Nat → L2.St → Hp → Prop, (∃ m, W 0 m (stC n caps σ) (upd H1 l (.lst []))) ∧
  ∀ i m σ' H2, W i m σ' H2 → (J.stop i H2 ∧ Q (.ref l) H2) ∨ (J.go i H2 ∧ ∃ N : L2.St → Hp → Prop, (∀ σ'' H', N σ'' H' → ∃ m', m' < m ∧ W (i + 1) m' σ'' H') ∧
    ∀ x H3, J.yld i H2 x H3 → g x σ' H3 fun σ2 H4 => te σ2 H4 fun v H5 => ∃ ys, H5 l = some (.lst ys) ∧ ys.length < sizeLine ∧ N σ2 (upd H5 l (.lst (ys ++ [v]))))
theorem compLoop_any {prog : Program} {w : World} {A : Around} {R : Result → Shared → Prop} {s : Shared} {elt target iter : Expr} {scope : Scope} {pos : Pos} {it acc : Value} {env : Env} (I : Nat → Shared → Prop)
    (turn : ∀ n s, I n s → wpAny (model prog w) A (pyNext it) (fun r s₁ => match r with
      | none => R (.ok .next) s₁
      | some v => wpAny (model prog w) A (letOwnedTupleGo target it v) (fun _ s₁' => wpAny (model prog w) A (assign target env v) (fun _ s₂ => wpAny (model prog w) A (eval elt env) (fun x s₃ =>
          wpAny (model prog w) A (call (.builtin "list.append") [acc, x]) (fun _ s₄ => ∃ m, m < n ∧ I m s₄) (fun _ _ => False) s₃)
          (fun _ _ => False) s₂) (fun _ _ => False) s₁') (fun _ _ => False) s₁) (fun _ _ => False) s)
    (n : Nat) (h : I n s) :
    codeAny (model prog w) A (.compLoop (.ListComp elt [⟨target, iter, [], 0⟩] scope pos) 0 it acc env) R s := by
  refine codeAny_loop rfl I (fun n s hI => ?_) n h
  show wpAny _ _ ((compTurn (.ListComp elt [⟨target, iter, [], 0⟩] scope pos) 0 it acc env).onRaise (fun x => do noteFrame x env; theTreesLotGoes x)) _ _ s
  refine wpAny_noted ?_
  rw [compTurn_list1]
  refine wpAny_bind (wpAny_standAt (wpAny_bind (wpAny_mono (turn n s hI) (fun r s₁ h₁ => ?_) fun _ _ h' => h'.elim)))
  cases r with
  | none => exact wpAny_pure h₁
  | some v =>
    refine wpAny_bind (wpAny_mono h₁ (fun _ s₁' h₁' => ?_) fun _ _ h' => h'.elim)
    exact wpAny_bind (wpAny_mono h₁' (fun _ s₂ h₂ => wpAny_bind (wpAny_bind (wpAny_mono h₂ (fun x s₃ h₃ => wpAny_bind (wpAny_mono h₃
      (fun _ s₄ h₄ => wpAny_pure (wpAny_pure ⟨rfl, h₄⟩)) fun _ _ h' => h'.elim)) fun _ _ h' => h'.elim))) fun _ _ h' => h'.elim)
section
variable {X : Cx} {pins : List (Addr × Obj)} {σ : L2.St} {H : Hp} {s : Shared} {Nc capN : List Str} {scope : Scope} {cl : List (Str × Addr)} {fp : List Addr} {n : Nat} {caps : List Nat} {tg iter elt : Expr} {pos : Pos} {wi : TI} {g : TG} {te : TE}
def Cap (X : Cx) (scope : Scope) (cl : List (Str × Addr)) (i : Nat) (y : Str) : Prop := X.N[i]? = some y ∧ X.env.scope.names.lookup y = some .cell ∧ (relabel scope X.env).names.lookup y = some .cell ∧ ∃ c, cl.lookup y = some c
theorem Inv.comp {h1 : Heap} {t' : Nat} (I : Inv X pins σ H s) (hc : X.calm = true) (f2 : ∀ b ∈ fp, FpOk X pins H b) (fo : ∀ b ∈ fp, b < s.heap.objs.size) (hkind : scope.kind = .function) (hcl : AllC X.env cl)
    (hhas : ((relabel scope X.env).names.all fun p => !(p.2 == .cell || p.2 == .free) || (cl.lookup p.1).isSome) = true)
    (hcap : Paired (Cap X scope cl) caps capN) (tn : List Str) (hN : Nc = tn ++ capN) (hn : tn.length = n)
    (hns : h1.Ns s.heap.objs.size (fun _ => none)) (hk : ∀ b o, s.heap.get? b = some o → h1.get? b = some o) :
    Inv (cxC X Nc scope cl s H fp) [] (stC n caps σ) H { s with heap := h1, toks := t' } := by
  have lkc : ∀ y c, cl.lookup y = some c → X.env.cells.lookup y = some c := fun y c e => hcl.look e
  refine ⟨⟨I.ok.mod, ?_, I.ok.glob, I.ok.blt, Nat.le_refl _, fun x y c a b => I.ok.inj x y c (lkc _ _ a) (lkc _ _ b), fun x hx => ?_, fun x c z => (nomatch z), I.ok.hd, I.ok.frames, .inl rfl, fun b hb => ⟨Nat.ne_of_lt (fo b hb), fun x c e => (f2 b hb).2.2.2.2.1 x c (lkc _ _ e)⟩, I.bs, Nat.le_trans I.ok.bsz I.sz,
    fun b o e hb => ?_, fun b hb z => ?_, I.stack, I.stkFree⟩, rfl, I.bare, Un.kept hk, ⟨_, hns, fun i y v h1' h2 h3 => ?_⟩, fun y c e => ?_, I.hok.fresh (Nat.le_refl _), fun y c e => I.freeC y c (lkc _ _ e), fun p hp => (by simp at hp), I.hok.kept hk, ?_⟩
  · exact hkind
  · have hx' : (relabel scope X.env).names.lookup x = some .cell ∨ (relabel scope X.env).names.lookup x = some .free := hx
    have mem : ∀ {k}, (relabel scope X.env).names.lookup x = some k → (x, k) ∈ (relabel scope X.env).names := fun {k} e => by
      generalize (relabel scope X.env).names = L at e
      induction L with
      | nil => simp at e
      | cons p r ih =>
        obtain ⟨a, b⟩ := p
        rw [List.lookup_cons] at e
        by_cases q : (x == a) = true
        · rw [q] at e; cases e
          have : x = a := by simpa using q
          subst this; exact List.mem_cons_self
        · rw [show (x == a) = false by simpa using q] at e
          exact List.mem_cons_of_mem _ (ih e)
    have fin : ∀ {k}, (k = NameKind.cell ∨ k = .free) → (relabel scope X.env).names.lookup x = some k → ∃ c, cl.lookup x = some c := fun {k} hk' e => by
      have := List.all_eq_true.mp hhas _ (mem e)
      dsimp only at this
      have q : (cl.lookup x).isSome = true := by
        rcases hk' with z | z <;> subst z <;> simpa using this
      exact Option.isSome_iff_exists.mp q
    rcases hx' with e | e
    · exact fin (.inl rfl) e
    · exact fin (.inr rfl) e
  · rcases (f2 b hb).2.2.2.1 with z | z
    · exact I.ok.noex b o e z
    · exact absurd (Nat.lt_of_lt_of_le (Heap.lt_size e) I.ok.bsz) (Nat.not_lt.mpr z)
  · rcases List.mem_cons.mp (I.stkSub b z) with q | q
    · exact (f2 b hb).2.1 q
    · exact (f2 b hb).2.2.1 q
  · obtain ⟨m, hm, hl⟩ := I.loc
    have h2' : (stC n caps σ)[i]? = some (some v) := h2
    have h1'' : Nc[i]? = some y := h1'
    unfold stC at h2'
    by_cases hi : i < n
    · rw [List.getElem?_append_left (by simpa using hi), List.getElem?_replicate, if_pos hi] at h2'
      cases h2'
    · rw [List.getElem?_append_right (by simp; omega), List.length_replicate, List.getElem?_map] at h2'
      rw [hN, List.getElem?_append_right (by omega), hn] at h1''
      have key : ∀ (j : Nat) {caps : List Nat} {capN : List Str}, Paired (Cap X scope cl) caps capN → capN[j]? = some y → (Option.map (fun i => (σ[i]?).getD none) caps[j]?) = some (some v) → ∃ k, Cap X scope cl k y ∧ σ[k]? = some (some v) := by
        intro j
        induction j with
        | zero =>
          intro caps capN P e1 e2
          cases P with
          | nil => simp at e1
          | @cons a b l r p t =>
            simp at e1 e2
            subst e1
            cases q : σ[a]? with
            | none => rw [q] at e2; simp at e2
            | some w' => rw [q] at e2; simp at e2; subst e2; exact ⟨a, p, q⟩
        | succ j ih =>
          intro caps capN P e1 e2
          cases P with
          | nil => simp at e1
          | cons p t => exact ih t (by simpa using e1) (by simpa using e2)
      obtain ⟨k, ⟨c1, c2, c3, c, c4⟩, e⟩ := key _ hcap h1'' h2'
      obtain ⟨u, r, lk⟩ := hl k y v c1 e (.inr (.inl c2))
      refine ⟨u, r, .inr ⟨.inl c3, c, c4, ?_⟩⟩
      rcases lk with ⟨z, _⟩ | ⟨_, c', e', o, ho, hd⟩
      · have z' : X.env.scope.names.lookup y = some .local := z
        rw [c2] at z'; cases z'
      · rw [lkc _ _ c4] at e'
        cases e'
        exact ⟨o, hk _ _ ho, hd⟩
  · obtain ⟨v, o, ho, hd⟩ := I.cell y c (lkc _ _ e)
    exact ⟨v, o, hk _ _ ho, hd⟩
  · show (stC n caps σ).length = Nc.length
    have pl : caps.length = capN.length := Paired.length hcap
    unfold stC
    rw [List.length_append, List.length_replicate, List.length_map, hN, List.length_append, hn, pl]
end
end OG
namespace OG
open PySem PySem.Spec PyProof.Rows L2
theorem comp_gen {X : Cx} {Nc capN tn : List Str} {scope : Scope} {cl : List (Str × Addr)} {n : Nat} {caps : List Nat} {tg iter elt : Expr} {pos : Pos} {wi : TI} {g : TG} {te : TE}
    (hc : X.calm = true) (hi : WI X tg iter wi) (hg : ∀ s3 H3 fp, WG (cxC X Nc scope cl s3 H3 fp) tg g) (he : ∀ s3 H3 fp, WE (cxC X Nc scope cl s3 H3 fp) elt te)
    (hclos : closureFor scope X.env = pure cl) (hkind : scope.kind = .function) (hnl : ∀ x ∈ scope.names, x.2 = .local → scope.names.lookup x.1 = some .local) (hcell : ∀ x ∈ scope.names, x.2 ≠ .cell)
    (hcl : AllC X.env cl) (hhas : ((relabel scope X.env).names.all fun p => !(p.2 == .cell || p.2 == .free) || (cl.lookup p.1).isSome) = true)
    (hcap : Paired (Cap X scope cl) caps capN) (hN : Nc = tn ++ capN) (hn : tn.length = n)
    {use : Option (Value → Sem Unit)} {pins : List (Addr × Obj)} {σ : L2.St} {H : Hp} {s : Shared} {Q : VK} {Qf : Value → Shared → Prop} (I : Inv X pins σ H s) (h : tComp wi g te n caps σ H Q)
    (hend : ∀ (D C : Addr) (s6 : Shared) (H5 : Hp) (m : Str → Option Value), Inv X pins σ H5 s6 → s6.heap.Ns C m → H5 C = none → C ≠ X.env.locals → X.s₀.heap.objs.size ≤ C → (∀ x c, X.env.cells.lookup x = some c → c ≠ C) → (∀ p ∈ X.pn ++ pins, p.1 ≠ C) → Q (.ref D) H5 → compPost (model X.prog X.w) X.A X.xe use Qf (.ref D) C (.ok .next) s6)
    (hs : ∀ x, foldedSetIterable iter X.env x = pure x) :
    wpAny (model X.prog X.w) X.A (comprehension (.ListComp elt [⟨tg, iter, [], 0⟩] scope pos) scope X.env (firstIterPos [⟨tg, iter, [], 0⟩] pos) (newList []) (firstAsync [⟨tg, iter, [], 0⟩]) (firstIter [⟨tg, iter, [], 0⟩] X.env) use) Qf X.xe s := by
  refine wpAny_comprehension_free (use := use) (g := ⟨tg, iter, [], 0⟩) (gs := []) rfl hs hclos hkind hnl (thn (hi.h pins s σ H _ I h) fun v s1 h1 => thn h1 fun itv s2 h2 => ?_)
  obtain ⟨it, fp, tnn, J, H2, rfl, I2, T, st2, f2, hW⟩ := h2
  have hD := I2.fresh
  obtain ⟨W, ⟨m0, w0⟩, turn⟩ := hW _ hD
  refine wpAny_newObj_type (wpAny_newFunctionEnv hcell (by intro y hy; simp at hy) (fun h₁ hns₁ hsb₁ => ?_) hkind)
  dsimp only at hns₁ hsb₁ ⊢
  have I3 : Inv X pins σ (upd H2 s2.heap.objs.size (.lst [])) { s2 with heap := s2.heap.push { cls := .type "list", dict := none, data := .seq ([] : List Value).toArray }, toks := s2.toks } := I2.lnew (its := []) .nil (Nat.zero_le _)
  generalize hs3 : ({ s2 with heap := s2.heap.push { cls := .type "list", dict := none, data := .seq ([] : List Value).toArray }, toks := s2.toks } : Shared) = s3 at I3
  have es3 : s3.heap = s2.heap.push { cls := .type "list", dict := none, data := .seq ([] : List Value).toArray } := by rw [← hs3]
  generalize hDD : s2.heap.objs.size = D at *
  have kept : ∀ b o, s3.heap.get? b = some o → h₁.get? b = some o := fun b o e => by
    have lt := Heap.lt_size e
    rw [es3] at lt e
    exact hsb₁.extBut b o (Nat.ne_of_lt lt) (Heap.get?_push_of_some _ e)
  have old : ∀ b o, s2.heap.get? b = some o → s3.heap.get? b = some o := fun b o e => by rw [es3]; exact Heap.get?_push_of_some _ e
  have ltD : ∀ b ∈ fp, b < D := fun b hb => by
    obtain ⟨o, e, _⟩ := T.obj 0 _ st2 b hb
    rw [← hDD]; exact Heap.lt_size e
  have fo : ∀ b ∈ fp, b < s3.heap.objs.size := fun b hb => by
    obtain ⟨o, e, _⟩ := T.obj 0 _ st2 b hb
    exact Heap.lt_size (old _ _ e)
  have f3 : ∀ b ∈ fp, FpOk X pins (upd H2 D (.lst [])) b := fun b hb => by
    refine ⟨?_, (f2 b hb).2⟩
    rw [upd_ne (Nat.ne_of_lt (ltD b hb))]
    exact (f2 b hb).1
  rw [← es3] at hns₁ hsb₁ ⊢
  have Ic := fun t' => Inv.comp (h1 := h₁) (t' := t') (Nc := Nc) (n := n) I3 hc f3 fo hkind hcl hhas hcap tn hN hn hns₁ kept
  have stat : ∀ {H' : Hp}, (∀ b ∈ fp, H' b = none) → ∀ b ∈ fp, FpOk (cxC X Nc scope cl s3 (upd H2 D (.lst [])) fp) [] H' b := fun hn' b hb => by
    refine ⟨hn' b hb, Nat.ne_of_lt (fo b hb), fun z => ?_, .inl hb, fun x c e => (f2 b hb).2.2.2.2.1 x c (hcl.look e), fun p hp => (by simp at hp)⟩
    rcases List.mem_cons.mp (I3.stkSub b z) with q | q
    · exact (f2 b hb).2.1 q
    · exact (f2 b hb).2.2.1 q
  have loop : ∀ s4 : Shared, (∃ t', s4 = { s3 with heap := h₁, toks := t' }) → codeAny (model X.prog X.w) X.A (.compLoop (.ListComp elt [⟨tg, iter, [], 0⟩] scope pos) 0 (.ref it) (.ref D) (compEnvC scope cl s3.heap.objs.size X.env))
      (compPost (model X.prog X.w) X.A X.xe use Qf (.ref D) s3.heap.objs.size) s4 := by
    rintro s4 ⟨t', rfl⟩
    refine compLoop_any (fun n' s' => ∃ i σ' H', Inv (cxC X Nc scope cl s3 (upd H2 D (.lst [])) fp) [] σ' H' s' ∧ tnn i s'.heap ∧ (∀ b ∈ fp, H' b = none) ∧ W i n' σ' H') ?_ m0
      ⟨0, _, _, Ic t', T.keep 0 _ _ st2 fun b hb o e => kept _ _ (old _ _ e), fun b hb => (f3 b hb).1, w0⟩
    rintro n' s5 ⟨i, σ5, H5, I5, st5, fr5, w5⟩
    rcases turn i n' σ5 H5 w5 with ⟨stop, qn⟩ | ⟨go, N, hN', step⟩
    · refine thn (T.done (cxC X Nc scope cl s3 (upd H2 D (.lst [])) fp) rfl rfl rfl hc i [] s5 σ5 H5 (fun _ _ => False) I5 (stat fr5) st5 stop) fun r s6 ⟨hr, I6⟩ => ?_
      subst hr
      obtain ⟨m, hm, _⟩ := I6.loc
      have I7 : Inv X pins σ H5 s6 := Inv.call' (ch := fp) I3 I6.os I6.base I6.hok I6.bare fun b hb => ⟨(f2 b hb).2.2.2.1, (f2 b hb).2.1, (f2 b hb).2.2.2.2.1, (f2 b hb).2.2.2.2.2⟩
      exact hend D _ s6 H5 m I7 hm I6.free (Ne.symm (Nat.ne_of_lt I3.lt)) I3.sz (fun x c e => by
          obtain ⟨v', o, ho, _⟩ := I3.cell x c e
          exact Nat.ne_of_lt (Heap.lt_size ho)) (fun p hp => Nat.ne_of_lt (Heap.lt_size (I3.pin p hp).1)) qn
    · refine thn (T.item (cxC X Nc scope cl s3 (upd H2 D (.lst [])) fp) rfl rfl rfl hc i [] s5 σ5 H5 (fun _ _ => False) I5 (stat fr5) st5 go) fun r s6 ⟨u, hr, h6⟩ => ?_
      subst hr
      refine thn h6 fun _ s7 ⟨x, H7, I7, r7, y7, st7, fr7⟩ => ?_
      have I7' := I7.pinned (stat fr7) (T.obj _ _ st7)
      refine thn ((hg s3 (upd H2 D (.lst [])) fp).h _ s7 σ5 H7 x u _ I7' r7 (step x H7 y7)) fun _ s8 ⟨σ8, H8, I8, q8⟩ => ?_
      refine thn ((he s3 (upd H2 D (.lst [])) fp).h _ s8 σ8 H8 _ I8 q8) fun v9 s9 ⟨x9, H9, I9, r9, ys, hy, hlt, q9⟩ => ?_
      refine thn (mt_append (X := cxC X Nc scope cl s3 (upd H2 D (.lst [])) fp) _ s9 σ8 H9 (.ref D) [x9] (.ref D) [v9] (fun _ H' => N σ8 H') I9 rfl (.cons r9 .nil) ⟨D, ys, x9, rfl, rfl, hy, hlt, q9⟩) fun _ s10 ⟨_, H10, I10, _, q10⟩ => ?_
      obtain ⟨m', hm, w10⟩ := hN' σ8 H10 q10
      refine ⟨m', hm, i + 1, σ8, H10, I10.unpinned, T.keep _ _ _ st7 fun b hb o e => (I10.pin (b, o) (List.mem_append_right _ (List.mem_append_right _ (mem_pinsAt hb e)))).1, fun b hb => ?_, w10⟩
      obtain ⟨o, e, d⟩ := T.obj _ _ st7 b hb
      exact (I10.pin (b, o) (List.mem_append_right _ (List.mem_append_right _ (mem_pinsAt hb e)))).2.1
  have e4 : ∀ t', ({ s2 with heap := h₁, toks := t' } : Shared) = { s3 with heap := h₁, toks := t' } := fun t' => by rw [← hs3]
  refine codeAny_compStart_list (loop _ ⟨_, e4 _⟩) (T.self _ 0 _ _ _ (T.keep 0 _ _ st2 fun b hb o e => kept _ _ (old _ _ e)) (loop _ ⟨_, e4 _⟩))
theorem wpe_comp {X : Cx} {Nc capN tn : List Str} {scope : Scope} {cl : List (Str × Addr)} {n : Nat} {caps : List Nat} {tg iter elt : Expr} {pos : Pos} {wi : TI} {g : TG} {te : TE}
    (hc : X.calm = true) (hi : WI X tg iter wi) (hg : ∀ s3 H3 fp, WG (cxC X Nc scope cl s3 H3 fp) tg g) (he : ∀ s3 H3 fp, WE (cxC X Nc scope cl s3 H3 fp) elt te)
    (hclos : closureFor scope X.env = pure cl) (hkind : scope.kind = .function) (hnl : ∀ x ∈ scope.names, x.2 = .local → scope.names.lookup x.1 = some .local) (hcell : ∀ x ∈ scope.names, x.2 ≠ .cell)
    (hcl : AllC X.env cl) (hhas : ((relabel scope X.env).names.all fun p => !(p.2 == .cell || p.2 == .free) || (cl.lookup p.1).isSome) = true)
    (hcap : Paired (Cap X scope cl) caps capN) (hN : Nc = tn ++ capN) (hn : tn.length = n)
    (hs : ∀ x, foldedSetIterable iter X.env x = pure x := by intro _; rfl) :
    WE X (.ListComp elt [⟨tg, iter, [], 0⟩] scope pos) (tComp wi g te n caps) := by
  constructor
  intro pins s σ H Q I h
  rw [eval_ListComp]
  refine comp_gen hc hi hg he hclos hkind hnl hcell hcl hhas hcap hN hn I h (fun D C s6 H5 m I7 hm fr nl sz cn pn qn => ⟨m, hm, fun h' hs' => ?_⟩) hs
  exact ⟨.ref D, H5, I7.turned (t' := s6.toks) (it := C) (fun b o hb e => hs'.extBut b o hb e) fr nl (.inr sz) cn pn, rfl, qn⟩
end OG
namespace OG
open PySem PySem.Spec PyProof.Rows L2
section
variable {X : Cx}
end
end OG
namespace OG
open PySem PySem.Spec PyProof.Rows L2
section
variable {X : Cx} {K : PySem.W.Frag}
end
end OG
set_option maxHeartbeats 1000000
namespace OG
open PySem PySem.Spec PyProof.Rows L2
open PySem.AutoSeq1 (wpAny_loadPart')
theorem cat_tup0 {prog : Program} {w : World} {A : Around} {E : Value → Shared → Prop} {s : Shared} {t b : Addr} {vs ws : List Value} {Q : Value → Shared → Prop} (ht : IsTup s.heap t vs.toArray) (hb : IsTup s.heap b ws.toArray) (hv : vs = [])
    (h1 : Q (.ref b) s) : wpAny (model prog w) A (binaryOp .Add (.ref t) (.ref b)) Q E s := by
  obtain ⟨⟨cls, dd, data, sl⟩, ho, hc, n, hd⟩ := id ht
  obtain ⟨⟨cls2, dd2, data2, sl2⟩, ho2, hc2, n2, hd2⟩ := id hb
  simp only at hc hd hc2 hd2
  subst hc hd hc2 hd2
  exact concat_meets ⟨_, ho, rfl⟩ ⟨_, ho2, rfl⟩ noFill_tuple_add seq_tuple_add PySem.F.slot_tuple_add PySem.F.entry_tuple_add (PySem.F.args_tuple_add_2 _ _)
      (tuple_addW0 t b vs.toArray ws.toArray n n2 dd dd2 sl sl2 (by simp [hv])) ⟨ho, ho2, h1⟩
theorem noFill_tuple_mul : fillsNumberSlot (.type "tuple") "mul" = pure false :=
  PySem.fillsNumberSlot_seq (id := "tuple.__mul__") (r := some (.builtin "tuple.__rmul__")) F.slot_tuple_mul.lookup (by decide +kernel) F.slot_tuple_rmul.lookup (by decide +kernel)
theorem repeat_tuple : seqRepeat? (.type "tuple") = pure (some (.builtin "tuple.__mul__")) := by
  unfold seqRepeat?
  rw [PySem.seqSlot_of (T := "tuple") (name := "__mul__") (id := "tuple.__mul__") F.slot_tuple_mul.lookup (by decide +kernel), PySem.seqSlot_of (T := "tuple") (name := "__rmul__") (id := "tuple.__rmul__") F.slot_tuple_rmul.lookup (by decide +kernel)]
  rfl
theorem int_rmul_tuple (a : Int) (t : Tok) (l : Addr) (items : Array Value) (n : Nat) (dd : Option Addr) (sl : Array (Option Value)) :
    Meets (Builtin.«int.__rmul__» ⟨[.int a t, .ref l], []⟩) (fun _ R s => s.heap.get? l = some { cls := .type "tuple", dict := dd, data := .seq items n, slots := sl } ∧ R (.ok (.ret Value.notImplemented)) s) :=
  .of_wp fun prog w A R s h => by obtain ⟨hp, g, d, tk, os⟩ := s; obtain ⟨hl, h⟩ := h; wp_walk using wpAny_loadPart' hl; exact ⟨_, rfl, h⟩
theorem tuple_mulW1 (l : Addr) (items : Array Value) (n : Nat) (dd : Option Addr) (sl : Array (Option Value)) (t : Tok) :
    Meets (Builtin.«tuple.__mul__» ⟨[.ref l, .int 1 t], []⟩) (fun _ R s => s.heap.get? l = some { cls := .type "tuple", dict := dd, data := .seq items n, slots := sl } ∧ R (.ok (.ret (Value.ref l))) s) :=
  .of_wp fun prog w A R s h => by obtain ⟨hp, g, d, tk, os⟩ := s; obtain ⟨hl, h⟩ := h; have f1 := AutoSeq1.idx_int; wp_walk using wpAny_loadPart' hl; exact ⟨_, rfl, h⟩
theorem tuple_mulW2 (l : Addr) (items : Array Value) (n : Nat) (dd : Option Addr) (sl : Array (Option Value)) (k : Int) (t : Tok) (hc0 : ¬(decide (k < -2 ^ 63) || decide (k ≥ 2 ^ 63)) = true) (hc1 : ¬(items.isEmpty || k == 1) = true) (hc2 : ¬(decide (k ≤ 0) || items.isEmpty) = true)
    (hc3 : ¬((items.size : Int) * k > (2 ^ 63 - 1) / 8)) (hc4 : ¬Builtin.Tuple.tupleTooMany ((items.size : Int) * k) = true) (hz : (List.foldl (fun x1 x2 => x1 ++ x2) #[] (List.replicate k.toNat items)).size ≤ sizeLine) :
    Meets (Builtin.«tuple.__mul__» ⟨[.ref l, .int k t], []⟩) (fun _ R s => s.heap.get? l = some { cls := .type "tuple", dict := dd, data := .seq items n, slots := sl } ∧
      R (.ok (.ret (Value.ref s.heap.objs.size))) { s with heap := s.heap.push { cls := Value.type "tuple", data := Data.seq (List.foldl (fun x1 x2 => x1 ++ x2) #[] (List.replicate k.toNat items)) } }) :=
  .of_wp fun prog w A R s h => by
    obtain ⟨hp, g, d, tk, os⟩ := s
    obtain ⟨hl, h⟩ := h
    have f1 := AutoSeq1.idx_int
    have g0 : (decide (k < -2 ^ 63) || decide (k ≥ 2 ^ 63)) = false := by simpa using hc0
    have g1 : (items.isEmpty || k == 1) = false := by simpa using hc1
    have g2 : (decide (k ≤ 0) || items.isEmpty) = false := by simpa using hc2
    have g4 : Builtin.Tuple.tupleTooMany ((items.size : Int) * k) = false := by simpa using hc4
    wp_walk using wpAny_loadPart' hl
    refine PySem.W.KFB.if_not g0 ?_
    wp_walk using wpAny_loadPart' hl
    try (refine PySem.W.KFB.if_not g1 ?_; wp_walk using wpAny_loadPart' hl)
    try (refine PySem.W.KFB.if_not g2 ?_; wp_walk using wpAny_loadPart' hl)
    try (rw [if_neg hc3]; wp_walk using wpAny_loadPart' hl)
    try (refine PySem.W.KFB.if_not g4 ?_; wp_walk using wpAny_loadPart' hl)
    try (refine wpAny_ite_false (decide_eq_false (Nat.not_lt.mpr hz)) ?_; wp_walk)
    exact ⟨_, rfl, h⟩
section
variable {X : Cx}
end
structure PenX (H : Hp) (p xs : Addr) : Prop where
  ex : ∃ (ns : List Int) (at' cur : Int), H p = some (.lst [.ref xs, .int at', .int cur]) ∧ H xs = some (.lst (ns.map V.int)) ∧ xs ≠ p ∧ 0 ≤ at' ∧ 0 ≤ cur
def spPenX (K : PySem.W.Frag) : Sp := fun vs H Q _ => ∃ (a : Addr) (ns : List Int), vs = [.ref a] ∧ SqL K H a (ns.map V.int) ∧ ∀ (q xs : Addr) (H' : Hp), Same H H' → PenX H' q xs → H q = none → Q (.ref q) H'
theorem log2_9000 {m : Int} (h0 : 0 ≤ m) (h : m < 2 ^ 60) : m.natAbs.log2 < 9000 := by
  have := log2_small (n := m.natAbs) (by omega)
  omega
end OG
namespace OG
open PySem PySem.Spec PyProof.Rows L2
end OG
set_option maxHeartbeats 1000000
namespace OP
open PySem PySem.Spec PyProof.Rows L2 OG
inductive U where
  | non | bl (b : Bool) | int (i : Int) | str (x : Str) | tup (us : List U) | ref (l : Nat)
structure Cl where
  C : Addr
  ns : List Str
inductive O where
  | lst (us : List U) | dic (kvs : List (Key × U)) | ins (c : Cl) (fs : List (Option U)) | fdc (ep : Nat) (kvs : List (Key × U)) | dit (kvs : List (List Key × U))
abbrev Sto := List O
abbrev Rho := List (Option U)
mutual
def Is (K : PySem.W.Frag) (m : List Addr) (H : Hp) : V → U → Prop
  | v, .non => v = .non
  | v, .bl b => v = .bl b
  | v, .int i => v = .int i
  | v, .str x => v = .str x
  | v, .tup us => ∃ a xs, v = .ref a ∧ SqT K H a xs ∧ IsL K m H xs us
  | v, .ref l => ∃ a, m[l]? = some a ∧ v = .ref a
def IsL (K : PySem.W.Frag) (m : List Addr) (H : Hp) : List V → List U → Prop
  | xs, [] => xs = []
  | xs, u :: us => ∃ x r, xs = x :: r ∧ Is K m H x u ∧ IsL K m H r us
end
def Keep (K : PySem.W.Frag) (H H' : Hp) : Prop := ∀ a xs, SqT K H a xs → SqT K H' a xs
structure Ext (K : PySem.W.Frag) (m : List Addr) (H : Hp) (m' : List Addr) (H' : Hp) : Prop where
  pre : ∃ t, m' = m ++ t
  keep : Keep K H H'
section
variable {K : PySem.W.Frag} {m m' m'' : List Addr} {H H' H'' : Hp} {v x : V} {u : U} {xs ys : List V} {us ws : List U} {a q : Addr} {o : HO}
theorem Ext.refl : Ext K m H m H := ⟨⟨[], by simp⟩, fun _ _ h => h⟩
theorem Ext.trans (a : Ext K m H m' H') (b : Ext K m' H' m'' H'') : Ext K m H m'' H'' := by
  obtain ⟨t, rfl⟩ := a.pre
  obtain ⟨t', rfl⟩ := b.pre
  exact ⟨⟨t ++ t', by simp⟩, fun c ys h => b.keep c ys (a.keep c ys h)⟩
theorem Ext.of (k : Keep K H H') : Ext K m H m H' := ⟨⟨[], by simp⟩, k⟩
theorem Ext.new (k : Keep K H H') : Ext K m H (m ++ [q]) H' := ⟨⟨[q], rfl⟩, k⟩
theorem Ext.get {l : Nat} (e : Ext K m H m' H') (h : m[l]? = some a) : m'[l]? = some a := by
  obtain ⟨t, rfl⟩ := e.pre
  rw [List.getElem?_append_left (List.getElem?_eq_some_iff.mp h).1]
  exact h
mutual
theorem Is.mono (e : Ext K m H m' H') : ∀ {v : V} {u : U}, Is K m H v u → Is K m' H' v u
  | v, .non, h => by unfold Is at h ⊢; exact h
  | v, .bl b, h => by unfold Is at h ⊢; exact h
  | v, .int i, h => by unfold Is at h ⊢; exact h
  | v, .str x, h => by unfold Is at h ⊢; exact h
  | v, .tup us, h => by
    unfold Is at h ⊢
    obtain ⟨a, xs, e1, k, l⟩ := h
    exact ⟨a, xs, e1, e.keep _ _ k, IsL.mono e l⟩
  | v, .ref l, h => by
    unfold Is at h ⊢
    obtain ⟨a, k, e1⟩ := h
    exact ⟨a, e.get k, e1⟩
theorem IsL.mono (e : Ext K m H m' H') : ∀ {xs : List V} {us : List U}, IsL K m H xs us → IsL K m' H' xs us
  | xs, [], h => by unfold IsL at h ⊢; exact h
  | xs, u :: us, h => by
    unfold IsL at h ⊢
    obtain ⟨x, r, e1, k, l⟩ := h
    exact ⟨x, r, e1, Is.mono e k, IsL.mono e l⟩
end
theorem Is.int_ {i : Int} : Is K m H (.int i) (.int i) := by unfold Is; rfl
theorem Is.bl_ {b : Bool} : Is K m H (.bl b) (.bl b) := by unfold Is; rfl
theorem Is.non_ : Is K m H .non .non := by unfold Is; rfl
theorem Is.str_ {x : Str} : Is K m H (.str x) (.str x) := by unfold Is; rfl
theorem Is.of_int {i : Int} (h : Is K m H v (.int i)) : v = .int i := by unfold Is at h; exact h
theorem Is.of_bl {b : Bool} (h : Is K m H v (.bl b)) : v = .bl b := by unfold Is at h; exact h
theorem Is.of_non (h : Is K m H v .non) : v = .non := by unfold Is at h; exact h
theorem Is.of_str {x : Str} (h : Is K m H v (.str x)) : v = .str x := by unfold Is at h; exact h
theorem Is.of_tup (h : Is K m H v (.tup us)) : ∃ a xs, v = .ref a ∧ SqT K H a xs ∧ IsL K m H xs us := by unfold Is at h; exact h
theorem Is.of_ref {l : Nat} (h : Is K m H v (.ref l)) : ∃ a, m[l]? = some a ∧ v = .ref a := by unfold Is at h; exact h
theorem Is.tup_ (e : SqT K H a xs) (h : IsL K m H xs us) : Is K m H (.ref a) (.tup us) := by unfold Is; exact ⟨a, xs, rfl, e, h⟩
theorem Is.ref_ {l : Nat} (e : m[l]? = some a) : Is K m H (.ref a) (.ref l) := by unfold Is; exact ⟨a, e, rfl⟩
theorem IsL.nil_ : IsL K m H [] [] := by unfold IsL; rfl
theorem IsL.cons_ (h : Is K m H x u) (t : IsL K m H xs us) : IsL K m H (x :: xs) (u :: us) := by unfold IsL; exact ⟨x, xs, rfl, h, t⟩
theorem IsL.of_nil (h : IsL K m H xs []) : xs = [] := by unfold IsL at h; exact h
theorem IsL.of_cons (h : IsL K m H xs (u :: us)) : ∃ x r, xs = x :: r ∧ Is K m H x u ∧ IsL K m H r us := by unfold IsL at h; exact h
theorem IsL.length : ∀ {xs : List V} {us : List U}, IsL K m H xs us → xs.length = us.length
  | xs, [], h => by rw [h.of_nil]; rfl
  | xs, d :: ds, h => by
    obtain ⟨x, r, rfl, _, t⟩ := h.of_cons
    rw [List.length_cons, List.length_cons, IsL.length t]
theorem IsL.getD : ∀ {xs : List V} {us : List U} {i : Nat} {u : U}, IsL K m H xs us → us[i]? = some u → ∃ x, xs[i]? = some x ∧ Is K m H x u
  | xs, [], i, x, h, e => by simp at e
  | xs, d :: ds, 0, x, h, e => by
    obtain ⟨y, r, rfl, k, t⟩ := h.of_cons
    simp at e; subst e; exact ⟨y, by simp, k⟩
  | xs, d :: ds, i + 1, x, h, e => by
    obtain ⟨y, r, rfl, k, t⟩ := h.of_cons
    obtain ⟨d', e1, e2⟩ := IsL.getD (i := i) (u := x) t (by simpa using e)
    exact ⟨d', by simpa using e1, e2⟩
theorem IsL.append : ∀ {xs : List V} {us : List U}, IsL K m H xs us → IsL K m H ys ws → IsL K m H (xs ++ ys) (us ++ ws)
  | xs, [], h, k => by rw [h.of_nil]; exact k
  | xs, d :: ds, h, k => by
    obtain ⟨y, r, rfl, z, t⟩ := h.of_cons
    exact .cons_ z (IsL.append t k)
theorem IsL.set : ∀ {xs : List V} {us : List U} {j : Nat}, IsL K m H xs us → Is K m H x u → IsL K m H (xs.set j x) (us.set j u)
  | xs, [], j, h, k => by rw [h.of_nil]; exact .nil_
  | xs, d :: ds, 0, h, k => by
    obtain ⟨y, r, rfl, z, t⟩ := h.of_cons
    exact .cons_ k t
  | xs, d :: ds, j + 1, h, k => by
    obtain ⟨y, r, rfl, z, t⟩ := h.of_cons
    exact .cons_ z (IsL.set t k)
theorem IsL.drop : ∀ {xs : List V} {us : List U} (n : Nat), IsL K m H xs us → IsL K m H (xs.drop n) (us.drop n)
  | xs, us, 0, h => h
  | xs, [], n + 1, h => by rw [h.of_nil]; exact .nil_
  | xs, d :: ds, n + 1, h => by
    obtain ⟨y, r, rfl, z, t⟩ := h.of_cons
    exact IsL.drop n t
theorem IsL.take : ∀ {xs : List V} {us : List U} (n : Nat), IsL K m H xs us → IsL K m H (xs.take n) (us.take n)
  | xs, us, 0, h => .nil_
  | xs, [], n + 1, h => by rw [h.of_nil]; exact .nil_
  | xs, d :: ds, n + 1, h => by
    obtain ⟨y, r, rfl, z, t⟩ := h.of_cons
    exact .cons_ z (IsL.take n t)
theorem IsL.rep : ∀ (n : Nat), IsL K m H xs us → IsL K m H (List.replicate n xs).flatten (List.replicate n us).flatten
  | 0, h => .nil_
  | n + 1, h => by
    rw [List.replicate_succ, List.replicate_succ, List.flatten_cons, List.flatten_cons]
    exact h.append (IsL.rep n h)
theorem keep_upd (h : H a = some o) (nt : ∀ xs, o ≠ .tup xs) (nf : ∀ ob xs, o ≠ .frz ob (.tup xs)) (o' : HO) : Keep K H (upd H a o') := fun b xs q => by
  rcases q with (q | ⟨ob, q⟩) | q
  · have n : b ≠ a := fun z => by subst z; rw [q] at h; cases h; exact nt _ rfl
    exact .inl (.inl (by rw [upd_ne n]; exact q))
  · have n : b ≠ a := fun z => by subst z; rw [q] at h; cases h; exact nf _ _ rfl
    exact .inl (.inr ⟨ob, by rw [upd_ne n]; exact q⟩)
  · exact .inr q
theorem keep_same (s : Same H H') : Keep K H H' := fun b xs q => by
  rcases q with (q | ⟨ob, q⟩) | q
  · exact .inl (.inl (s _ _ q))
  · exact .inl (.inr ⟨ob, s _ _ q⟩)
  · exact .inr q
theorem keep_new (h : H q = none) (o' : HO) : Keep K H (upd H q o') := keep_same (same_new h o')
end
def IsP {κ : Type} (K : PySem.W.Frag) (m : List Addr) (H : Hp) (kvs : List (κ × V)) (kus : List (κ × U)) : Prop := kvs.map (·.1) = kus.map (·.1) ∧ IsL K m H (kvs.map (·.2)) (kus.map (·.2))
def Rf (K : PySem.W.Frag) (m : List Addr) (H : Hp) : Option V → Option U → Prop
  | some v, some u => Is K m H v u
  | none, none => True
  | _, _ => False
structure InF (K : PySem.W.Frag) (m : List Addr) (H : Hp) (c : Cl) (fs : List (Str × V)) (fus : List (Option U)) : Prop where
  nd : c.ns.Nodup
  few : c.ns.length < 1000
  knd : (fs.map (·.1)).Nodup
  sub : ∀ x ∈ fs.map (·.1), x ∈ c.ns
  len : fus.length = c.ns.length
  at_ : ∀ (i : Nat) (x : Str), c.ns[i]? = some x → Rf K m H (fs.lookup x) ((fus[i]?).join)
theorem Rf.mono {K : PySem.W.Frag} {m m' : List Addr} {H H' : Hp} {v : Option V} {u : Option U} (e : Ext K m H m' H') (h : Rf K m H v u) : Rf K m' H' v u := by
  cases v with
  | none => cases u with
    | none => trivial
    | some u => exact h.elim
  | some v => cases u with
    | none => exact h.elim
    | some u => exact Is.mono e h
theorem InF.mono {K : PySem.W.Frag} {m m' : List Addr} {H H' : Hp} {c : Cl} {fs : List (Str × V)} {fus : List (Option U)} (e : Ext K m H m' H') (h : InF K m H c fs fus) : InF K m' H' c fs fus := ⟨h.nd, h.few, h.knd, h.sub, h.len, fun i x q => (h.at_ i x q).mono e⟩
def Ob (K : PySem.W.Frag) (m : List Addr) (H : Hp) (a : Addr) : O → Prop
  | .lst us => ∃ xs, H a = some (.lst xs) ∧ IsL K m H xs us
  | .dic kus => ∃ kvs, H a = some (.dK kvs) ∧ IsP K m H kvs kus
  | .ins c fus => ∃ dx fs, H a = some (.ins c.C dx fs) ∧ InF K m H c fs fus
  | .fdc ep kus => ∃ ob es kvs, H a = some (.frz ob (.dK kvs)) ∧ ob.data = .dict es ep ∧ IsP K m H kvs kus
  | .dit kus => ∃ kvs, H a = some (.dT kvs) ∧ IsP K m H kvs kus
structure Sr (K : PySem.W.Frag) (m : List Addr) (S : Sto) (H : Hp) : Prop where
  len : m.length = S.length
  nd : m.Nodup
  ob : ∀ (l : Nat) (a : Addr) (o : O), m[l]? = some a → S[l]? = some o → Ob K m H a o
structure Lr (K : PySem.W.Frag) (m : List Addr) (H : Hp) (ρ : Rho) (σ : L2.St) : Prop where
  len : ρ.length = σ.length
  at_ : ∀ (i : Nat) (u : U), ρ[i]? = some (some u) → ∃ v, σ[i]? = some (some v) ∧ Is K m H v u
section
variable {κ : Type} {K : PySem.W.Frag} {m m' : List Addr} {H H' : Hp} {S S' : Sto} {ρ : Rho} {σ : L2.St} {a q : Addr} {l : Nat} {o : O} {ho : HO} {us : List U} {v : V} {u : U} {kvs : List (κ × V)} {kus : List (κ × U)}
theorem IsP.mono (e : Ext K m H m' H') (h : IsP K m H kvs kus) : IsP K m' H' kvs kus := ⟨h.1, h.2.mono e⟩
theorem IsP.length (h : IsP K m H kvs kus) : kvs.length = kus.length := by have := h.2.length; simpa using this
theorem IsP.nil_ : IsP (κ := κ) K m H [] [] := ⟨rfl, .nil_⟩
theorem IsP.cons_ {k : κ} (h : Is K m H v u) (t : IsP K m H kvs kus) : IsP K m H ((k, v) :: kvs) ((k, u) :: kus) := ⟨by simp [t.1], .cons_ h t.2⟩
theorem IsP.ind {P : List (κ × V) → List (κ × U) → Prop} (h0 : P [] []) (h1 : ∀ k v u kvs kus, Is K m H v u → IsP K m H kvs kus → P kvs kus → P ((k, v) :: kvs) ((k, u) :: kus)) : ∀ {kvs : List (κ × V)} {kus : List (κ × U)}, IsP K m H kvs kus → P kvs kus
  | [], [], _ => h0
  | [], p :: r, h => by have := h.length; simp at this
  | p :: r, [], h => by have := h.length; simp at this
  | (k, v) :: r, (k', u) :: r', h => by
    obtain ⟨e, i⟩ := h
    simp only [List.map_cons, List.cons.injEq] at e
    obtain ⟨e1, e2⟩ := e
    subst e1
    obtain ⟨x, t, e3, iu, it⟩ := i.of_cons
    cases e3
    exact h1 k v u r r' iu ⟨e2, it⟩ (IsP.ind h0 h1 (⟨e2, it⟩ : IsP K m H r r'))
theorem Ob.mono (e : Ext K m H m' H') (h1 : H' a = H a) (h : Ob K m H a o) : Ob K m' H' a o := by
  cases o with
  | lst us => obtain ⟨xs, k, i⟩ := h; exact ⟨xs, h1.trans k, i.mono e⟩
  | dic kus => obtain ⟨xs, k, i⟩ := h; exact ⟨xs, h1.trans k, i.mono e⟩
  | ins C fus => obtain ⟨dx, fs, k, i⟩ := h; exact ⟨dx, fs, h1.trans k, i.mono e⟩
  | fdc ep kus => obtain ⟨ob, es, kvs, k, d, i⟩ := h; exact ⟨ob, es, kvs, h1.trans k, d, i.mono e⟩
  | dit kus => obtain ⟨xs, k, i⟩ := h; exact ⟨xs, h1.trans k, i.mono e⟩
theorem Ob.some (h : Ob K m H a o) : ∃ ho, H a = some ho ∧ (∀ xs, ho ≠ .tup xs) ∧ (∀ ob xs, ho ≠ .frz ob (.tup xs)) := by
  cases o with
  | lst us => obtain ⟨xs, k, i⟩ := h; exact ⟨_, k, by simp, by simp⟩
  | dic kus => obtain ⟨xs, k, i⟩ := h; exact ⟨_, k, by simp, by simp⟩
  | ins C fus => obtain ⟨dx, fs, k, i⟩ := h; exact ⟨_, k, by simp, by simp⟩
  | fdc ep kus => obtain ⟨ob, es, kvs, k, d, i⟩ := h; exact ⟨_, k, by simp, by simp⟩
  | dit kus => obtain ⟨xs, k, i⟩ := h; exact ⟨_, k, by simp, by simp⟩
theorem Lr.mono (e : Ext K m H m' H') (h : Lr K m H ρ σ) : Lr K m' H' ρ σ := ⟨h.len, fun i u e1 => let ⟨v, e2, e3⟩ := h.at_ i u e1; ⟨v, e2, e3.mono e⟩⟩
theorem Lr.set (h : Lr K m H ρ σ) (i : Nat) (hv : Is K m H v u) : Lr K m H (ρ.set i (some u)) (σ.set i (some v)) := by
  refine ⟨by simp [h.len], fun j w e => ?_⟩
  by_cases c : i = j
  · subst c
    rw [List.getElem?_set_self' ] at e
    rw [List.getElem?_set_self']
    have hl := h.len
    cases e1 : ρ[i]? with
    | none => rw [e1] at e; simp at e
    | some z =>
      rw [e1] at e
      simp at e
      subst e
      have : i < σ.length := by rw [← hl]; exact (List.getElem?_eq_some_iff.mp e1).1
      rw [List.getElem?_eq_getElem this]
      exact ⟨v, rfl, hv⟩
  · rw [List.getElem?_set_ne c] at e
    rw [List.getElem?_set_ne c]
    exact h.at_ j w e
theorem Sr.get (r : Sr K m S H) (h : S[l]? = some o) : ∃ a, m[l]? = some a ∧ Ob K m H a o := by
  have hl : l < m.length := by rw [r.len]; exact (List.getElem?_eq_some_iff.mp h).1
  exact ⟨_, List.getElem?_eq_getElem hl, r.ob _ _ _ (List.getElem?_eq_getElem hl) h⟩
theorem Sr.at_ (r : Sr K m S H) (h : m[l]? = some a) : ∃ o, S[l]? = some o ∧ Ob K m H a o := by
  have hl : l < S.length := by rw [← r.len]; exact (List.getElem?_eq_some_iff.mp h).1
  exact ⟨_, List.getElem?_eq_getElem hl, r.ob _ _ _ h (List.getElem?_eq_getElem hl)⟩
theorem Sr.same (r : Sr K m S H) (s : Same H H') : Sr K m S H' := ⟨r.len, r.nd, fun l a o h1 h2 => by
  have q := r.ob l a o h1 h2
  obtain ⟨ho, e, _⟩ := q.some
  exact q.mono (.of (keep_same s)) (by rw [s _ _ e, e])⟩
theorem Sr.new (r : Sr K m S H) (h : H q = none) (n : Ob K (m ++ [q]) (upd H q ho) q o) : Sr K (m ++ [q]) (S ++ [o]) (upd H q ho) := by
  have hq : q ∉ m := fun z => by
    obtain ⟨l, e⟩ := List.getElem?_of_mem z
    obtain ⟨o, _, k⟩ := r.at_ e
    obtain ⟨ho, e2, _⟩ := k.some
    rw [h] at e2; cases e2
  refine ⟨by simp [r.len], ?_, fun l a o' h1 h2 => ?_⟩
  · rw [List.nodup_append]
    exact ⟨r.nd, by simp, fun x hx y hy z => by simp at hy; subst hy; subst z; exact hq hx⟩
  · by_cases c : l < m.length
    · rw [List.getElem?_append_left c] at h1
      rw [List.getElem?_append_left (by rw [← r.len]; exact c)] at h2
      have q' := r.ob l a o' h1 h2
      obtain ⟨ho', e, _⟩ := q'.some
      exact q'.mono (.new (keep_new h _)) (by rw [upd_ne (ne_of_none e h)])
    · have e : l = m.length := by
        have := (List.getElem?_eq_some_iff.mp h1).1
        simp at this; omega
      subst e
      rw [List.getElem?_append_right (Nat.le_refl _)] at h1
      rw [List.getElem?_append_right (by rw [r.len]; exact Nat.le_refl _)] at h2
      simp [r.len] at h1 h2
      subst h1; subst h2
      exact n
theorem Sr.put (r : Sr K m S H) (h : m[l]? = some a) (n : Ob K m (upd H a ho) a o) : Sr K m (S.set l o) (upd H a ho) := by
  obtain ⟨o0, h0, k0⟩ := r.at_ h
  obtain ⟨ho', e, nt, nf⟩ := k0.some
  refine ⟨by simp [r.len], r.nd, fun l' a' o' h1 h2 => ?_⟩
  by_cases c : l = l'
  · subst c
    rw [h] at h1; cases h1
    rw [List.getElem?_set_self (List.getElem?_eq_some_iff.mp h0).1] at h2
    cases h2
    exact n
  · rw [List.getElem?_set_ne c] at h2
    have na : a' ≠ a := fun z => by
      subst z
      obtain ⟨p1, e1⟩ := List.getElem?_eq_some_iff.mp h
      obtain ⟨p2, e2⟩ := List.getElem?_eq_some_iff.mp h1
      exact c ((List.getElem_inj r.nd).mp (e1.trans e2.symm))
    exact (r.ob l' a' o' h1 h2).mono (.of (keep_upd e nt nf _)) (by rw [upd_ne na])
theorem Sr.keep (r : Sr K m S H) (h : m[l]? = some a) (ho : HO) : Keep K H (upd H a ho) := by
  obtain ⟨o0, h0, k0⟩ := r.at_ h
  obtain ⟨ho', e, nt, nf⟩ := k0.some
  exact keep_upd e nt nf _
end
def PostE (K : PySem.W.Frag) (m : List Addr) (H : Hp) (Q : VK) (u : U) (S' : Sto) : Prop := ∀ m' v H', Ext K m H m' H' → Sr K m' S' H' → Is K m' H' v u → Q v H'
abbrev CE := Rho → Sto → Option (U × Sto)
abbrev CT := Rho → Sto → Option (Bool × Sto)
abbrev CA := Rho → Sto → Option (List U × Sto)
inductive Out where
  | nx | rt (u : U) | bk | ct
abbrev CS := Rho → Sto → Option (Out × Rho × Sto)
def PostT (K : PySem.W.Frag) (m : List Addr) (H : Hp) (Q : Bool → Hp → Prop) (b : Bool) (S' : Sto) : Prop := ∀ m' H', Ext K m H m' H' → Sr K m' S' H' → Q b H'
def PostA (K : PySem.W.Frag) (m : List Addr) (H : Hp) (Q : List V → Hp → Prop) (us : List U) (S' : Sto) : Prop := ∀ m' vs H', Ext K m H m' H' → Sr K m' S' H' → IsL K m' H' vs us → Q vs H'
def PostN (K : PySem.W.Frag) (m : List Addr) (H : Hp) (Q : L2.St → Hp → Prop) (ρ' : Rho) (S' : Sto) : Prop := ∀ m' σ' H', Ext K m H m' H' → Sr K m' S' H' → Lr K m' H' ρ' σ' → Q σ' H'
def PostS (K : PySem.W.Frag) (m : List Addr) (H : Hp) (D : Ends) : Out → Rho → Sto → Prop
  | .nx, ρ', S' => PostN K m H D.nx ρ' S'
  | .bk, ρ', S' => PostN K m H D.bk ρ' S'
  | .ct, ρ', S' => PostN K m H D.ct ρ' S'
  | .rt u, _, S' => PostE K m H D.rt u S'
def tE (K : PySem.W.Frag) (c : CE) : TE := fun σ H Q => ∃ m ρ S u S', Sr K m S H ∧ Lr K m H ρ σ ∧ c ρ S = some (u, S') ∧ PostE K m H Q u S'
def tT (K : PySem.W.Frag) (c : CT) : TT := fun σ H Q => ∃ m ρ S u S', Sr K m S H ∧ Lr K m H ρ σ ∧ c ρ S = some (u, S') ∧ PostT K m H Q u S'
def tA (K : PySem.W.Frag) (c : CA) : TA := fun σ H Q => ∃ m ρ S u S', Sr K m S H ∧ Lr K m H ρ σ ∧ c ρ S = some (u, S') ∧ PostA K m H Q u S'
def tS (K : PySem.W.Frag) (c : CS) : TS := fun D σ H => ∃ m ρ S o ρ' S', Sr K m S H ∧ Lr K m H ρ σ ∧ c ρ S = some (o, ρ', S') ∧ PostS K m H D o ρ' S'
abbrev QE (X : Cx) (e : Expr) (c : CE) : Prop := WE X e (tE X.K c)
abbrev QT (X : Cx) (e : Expr) (c : CT) : Prop := WT X e (tT X.K c)
abbrev QW (X : Cx) (e : Expr) (c : CT) : Prop := WW X e (tT X.K c)
abbrev QS (X : Cx) (e : Stmt) (c : CS) : Prop := WS X e (tS X.K c)
abbrev QSs (X : Cx) (e : List Stmt) (c : CS) : Prop := WSs X e (tS X.K c)
structure QA (X : Cx) (es : List Expr) (c : CA) : Prop where
  h : WA X es (tA X.K c)
  len : ∀ ρ S us S', c ρ S = some (us, S') → us.length = es.length
section
variable {X : Cx} {e : Expr} {es : List Expr} {st : Stmt} {sts : List Stmt}
theorem _root_.OG.WE.imp {t t' : TE} (h : WE X e t) (i : ∀ σ H Q, t' σ H Q → t σ H Q) : WE X e t' := ⟨fun pins s σ H Q I k => h.h pins s σ H Q I (i σ H Q k)⟩
theorem _root_.OG.WT.imp {t t' : TT} (h : WT X e t) (i : ∀ σ H Q, t' σ H Q → t σ H Q) : WT X e t' := ⟨fun pins s σ H Q I k => h.h pins s σ H Q I (i σ H Q k)⟩
theorem _root_.OG.WW.imp {t t' : TT} (h : WW X e t) (i : ∀ σ H Q, t' σ H Q → t σ H Q) : WW X e t' := ⟨fun wh pins s σ H Q I k => h.h wh pins s σ H Q I (i σ H Q k)⟩
theorem _root_.OG.WA.imp {t t' : TA} (h : WA X es t) (i : ∀ σ H Q, t' σ H Q → t σ H Q) : WA X es t' := ⟨fun pos pins s σ H Q I k => h.h pos pins s σ H Q I (i σ H Q k)⟩
theorem _root_.OG.WS.imp {t t' : TS} (h : WS X st t) (i : ∀ D σ H, t' D σ H → t D σ H) : WS X st t' := ⟨fun pins s σ H D I k => h.h pins s σ H D I (i D σ H k)⟩
theorem _root_.OG.WSs.imp {t t' : TS} (h : WSs X sts t) (i : ∀ D σ H, t' D σ H → t D σ H) : WSs X sts t' := ⟨fun pins s σ H D I k => h.h pins s σ H D I (i D σ H k)⟩
theorem _root_.OG.WI.imp {tg : Expr} {t t' : TI} (h : WI X tg e t) (i : ∀ σ H R, t' σ H R → t σ H R) : WI X tg e t' := ⟨fun pins s σ H R I k => h.h pins s σ H R I (i σ H R k)⟩
theorem _root_.OG.WG.imp {t t' : TG} (h : WG X e t) (i : ∀ v σ H Q, t' v σ H Q → t v σ H Q) : WG X e t' := ⟨fun pins s σ H v u Q I r k => h.h pins s σ H v u Q I r (i v σ H Q k)⟩
theorem _root_.OG.WGs.imp {t t' : TGs} (h : WGs X es t) (i : ∀ v σ H Q, t' v σ H Q → t v σ H Q) : WGs X es t' := ⟨fun pins s σ H v u Q I r k => h.h pins s σ H v u Q I r (i v σ H Q k)⟩
theorem _root_.OG.WE.or {t t' : TE} (h : WE X e t) (h' : WE X e t') : WE X e (fun σ H Q => t σ H Q ∨ t' σ H Q) := ⟨fun pins s σ H Q I k => k.elim (h.h pins s σ H Q I) (h'.h pins s σ H Q I)⟩
theorem _root_.OG.WT.or {t t' : TT} (h : WT X e t) (h' : WT X e t') : WT X e (fun σ H Q => t σ H Q ∨ t' σ H Q) := ⟨fun pins s σ H Q I k => k.elim (h.h pins s σ H Q I) (h'.h pins s σ H Q I)⟩
theorem _root_.OG.WS.or {t t' : TS} (h : WS X st t) (h' : WS X st t') : WS X st (fun D σ H => t D σ H ∨ t' D σ H) := ⟨fun pins s σ H D I k => k.elim (h.h pins s σ H D I) (h'.h pins s σ H D I)⟩
theorem _root_.OG.WI.or {tg : Expr} {t t' : TI} (h : WI X tg e t) (h' : WI X tg e t') : WI X tg e (fun σ H D => t σ H D ∨ t' σ H D) := ⟨fun pins s σ H D I k => k.elim (h.h pins s σ H D I) (h'.h pins s σ H D I)⟩
end
section
variable {K : PySem.W.Frag} {m m' : List Addr} {H H' : Hp} {Q : VK} {R : L2.St → Hp → Prop} {D : Ends} {u : U} {o : Out} {S' : Sto} {ρ' : Rho}
theorem PostE.mono (e : Ext K m H m' H') (p : PostE K m H Q u S') : PostE K m' H' Q u S' := fun m2 v H2 e2 r i => p m2 v H2 (e.trans e2) r i
theorem PostT.mono {Q : Bool → Hp → Prop} {b : Bool} (e : Ext K m H m' H') (p : PostT K m H Q b S') : PostT K m' H' Q b S' := fun m2 H2 e2 r => p m2 H2 (e.trans e2) r
theorem PostN.mono (e : Ext K m H m' H') (p : PostN K m H R ρ' S') : PostN K m' H' R ρ' S' := fun m2 v H2 e2 r i => p m2 v H2 (e.trans e2) r i
theorem PostS.mono (e : Ext K m H m' H') (p : PostS K m H D o ρ' S') : PostS K m' H' D o ρ' S' := by
  cases o with
  | nx => exact PostN.mono e p
  | rt u => exact PostE.mono e p
  | bk => exact PostN.mono e p
  | ct => exact PostN.mono e p
end
end OP
set_option maxHeartbeats 1000000
namespace OP
open PySem PySem.Spec PyProof.Rows L2 OG
def LIM : Nat := 100000
theorem lim {n : Nat} (h : n ≤ LIM) : n ≤ sizeLine := Nat.le_trans h (by unfold LIM sizeLine; decide)
theorem lim1 {n : Nat} (h : n < LIM) : n < sizeLine := Nat.lt_of_lt_of_le h (by unfold LIM sizeLine; decide)
def cVar (i : Nat) : CE := fun ρ S => match ρ[i]? with
  | some (some u) => some (u, S)
  | _ => none
def cC (u : U) : CE := fun _ S => some (u, S)
section
variable {X : Cx} {e a b c : Expr} {ca cb cc : CE} {pos : Pos}
theorem q_var {i : Nat} (h : WE X e (tVar i)) : QE X e (cVar i) := h.imp fun σ H Q ⟨m, ρ, S, u, S', sr, lr, hc, post⟩ => by
  unfold cVar at hc
  split at hc
  · rename_i u' e
    cases hc
    obtain ⟨v, e1, e2⟩ := lr.at_ i u e
    exact ⟨v, e1, post m v H .refl sr e2⟩
  · cases hc
theorem q_c {v : V} {u : U} (h : WE X e (tC v)) (hi : ∀ m H, Is X.K m H v u) : QE X e (cC u) := h.imp fun σ H Q ⟨m, ρ, S, u', S', sr, lr, hc, post⟩ => by
  cases hc
  exact post m v H .refl sr (hi m H)
theorem q_int {i : Int} (h : WE X e (tC (.int i))) : QE X e (cC (.int i)) := q_c h fun _ _ => .int_
theorem q_bl {i : Bool} (h : WE X e (tC (.bl i))) : QE X e (cC (.bl i)) := q_c h fun _ _ => .bl_
theorem q_str {i : Str} (h : WE X e (tC (.str i))) : QE X e (cC (.str i)) := q_c h fun _ _ => .str_
theorem q_non (h : WE X e (tC .non)) : QE X e (cC .non) := q_c h fun _ _ => .non_
def cOp (f : U → U → Sto → Option (U × Sto)) (ca cb : CE) : CE := fun ρ S => (ca ρ S).bind fun p => (cb ρ p.2).bind fun q => f p.1 q.1 q.2
def OpP (K : PySem.W.Frag) (r : R2) (f : U → U → Sto → Option (U × Sto)) : Prop :=
  ∀ m S H x y v w u S' Q, Sr K m S H → Is K m H v x → Is K m H w y → f x y S = some (u, S') → PostE K m H Q u S' → r v w H Q
theorem op_imp {K : PySem.W.Frag} {r : R2} {f : U → U → Sto → Option (U × Sto)} (hp : OpP K r f) : ∀ σ H Q, tE K (cOp f ca cb) σ H Q → tOp r (tE K ca) (tE K cb) σ H Q := by
  rintro σ H Q ⟨m, ρ, S, u, S', sr, lr, hc, post⟩
  obtain ⟨⟨x, S1⟩, h1, h⟩ := Option.bind_eq_some_iff.mp hc
  obtain ⟨⟨y, S2⟩, h2, h3⟩ := Option.bind_eq_some_iff.mp h
  exact ⟨m, ρ, S, x, S1, sr, lr, h1, fun m1 v1 H1 e1 sr1 i1 => ⟨m1, ρ, S1, y, S2, sr1, lr.mono e1, h2, fun m2 v2 H2 e2 sr2 i2 => hp m2 S2 H2 x y v1 v2 u S' Q sr2 (i1.mono e2) i2 h3 (post.mono (e1.trans e2))⟩⟩
theorem q_op {op : Operator} {r : R2} {f : U → U → Sto → Option (U × Sto)} (ho : OpR X (binaryOp op) r) (hp : OpP X.K r f) (ha : QE X a ca) (hb : QE X b cb) : QE X (.BinOp a op b pos) (cOp f ca cb) := (wpe_op ho ha hb).imp (op_imp hp)
theorem q_cmp {op : CmpOp} {r : R2} {f : U → U → Sto → Option (U × Sto)} (ho : OpR X (compareOp op) r) (hp : OpP X.K r f) (ha : QE X a ca) (hb : QE X b cb) (hm : behindInMarks op b = false) : QE X (.Compare a [op] [b] pos) (cOp f ca cb) := (wpe_cmpR ho ha hb hm).imp (op_imp hp)
def cTest (c : CE) : CT := fun ρ S => (c ρ S).bind fun p => match p.1 with
  | .bl b => some (b, p.2)
  | _ => none
theorem test_imp {K : PySem.W.Frag} {c : CE} {t : TE} (h : ∀ σ H Q, tE K c σ H Q → t σ H Q) : ∀ σ H Q, tT K (cTest c) σ H Q → t σ H fun x H' => ∃ k, x = .bl k ∧ Q k H' := by
  rintro σ H Q ⟨m, ρ, S, u, S', sr, lr, hc, post⟩
  obtain ⟨⟨x, S1⟩, h1, h2⟩ := Option.bind_eq_some_iff.mp hc
  refine h σ H _ ⟨m, ρ, S, x, S1, sr, lr, h1, fun m1 v1 H1 e1 sr1 i1 => ?_⟩
  cases x <;> simp at h2
  obtain ⟨rfl, rfl⟩ := h2
  exact ⟨_, i1.of_bl, post m1 H1 e1 sr1⟩
theorem q_tcmp {op : CmpOp} {r : R2} {f : U → U → Sto → Option (U × Sto)} (ho : OpR X (compareOp op) r) (hp : OpP X.K r f) (ha : QE X a ca) (hb : QE X b cb) (hm : behindInMarks op b = false) : QT X (.Compare a [op] [b] pos) (cTest (cOp f ca cb)) := (wpt_cmpR ho ha hb hm).imp (test_imp (op_imp hp))
theorem q_tval (h : QE X e ca) (he : ∀ whole, isTrue e X.env whole = (do let v ← whole; standAt e.pos; holding [v] (truthy v)) := by intro _; rfl) : QT X e (cTest ca) := (wpt_val h he).imp (test_imp fun _ _ _ z => z)
variable {ta tb : CT} {rest : List Expr}
def cAnd (ta tb : CT) : CT := fun ρ S => (ta ρ S).bind fun p => if p.1 = true then tb ρ p.2 else some (false, p.2)
def cOr (ta tb : CT) : CT := fun ρ S => (ta ρ S).bind fun p => if p.1 = true then some (true, p.2) else tb ρ p.2
def cNot (ta : CT) : CT := fun ρ S => (ta ρ S).bind fun p => some (!p.1, p.2)
theorem q_wt (h : QW X e ta) : QT X e ta := WW.pt h
theorem q_and1 (ha : QT X a ta) : QW X (.BoolOp .And [a] pos) ta := wpw_and1 ha
theorem q_or1 (ha : QT X a ta) : QW X (.BoolOp .Or [a] pos) ta := wpw_or1 ha
theorem q_and (ha : QT X a ta) (hb : QW X (.BoolOp .And (b :: rest) pos) tb) : QW X (.BoolOp .And (a :: b :: rest) pos) (cAnd ta tb) := (wpw_and ha hb).imp fun σ H Q ⟨m, ρ, S, u, S', sr, lr, hc, post⟩ => by
  obtain ⟨⟨x, S1⟩, h1, h2⟩ := Option.bind_eq_some_iff.mp hc
  refine ⟨m, ρ, S, x, S1, sr, lr, h1, fun m1 H1 e1 sr1 => ?_⟩
  cases x with
  | true => exact iteT ⟨m1, ρ, S1, u, S', sr1, lr.mono e1, h2, post.mono e1⟩
  | false => cases h2; exact iteF (post m1 H1 e1 sr1)
theorem q_or (ha : QT X a ta) (hb : QW X (.BoolOp .Or (b :: rest) pos) tb) : QW X (.BoolOp .Or (a :: b :: rest) pos) (cOr ta tb) := (wpw_or ha hb).imp fun σ H Q ⟨m, ρ, S, u, S', sr, lr, hc, post⟩ => by
  obtain ⟨⟨x, S1⟩, h1, h2⟩ := Option.bind_eq_some_iff.mp hc
  refine ⟨m, ρ, S, x, S1, sr, lr, h1, fun m1 H1 e1 sr1 => ?_⟩
  cases x with
  | true => cases h2; exact iteT (post m1 H1 e1 sr1)
  | false => exact iteF ⟨m1, ρ, S1, u, S', sr1, lr.mono e1, h2, post.mono e1⟩
theorem q_tnot (ha : QT X a ta) : QT X (.UnaryOp .Not a pos) (cNot ta) := (wpt_not ha).imp fun σ H Q ⟨m, ρ, S, u, S', sr, lr, hc, post⟩ => by
  obtain ⟨⟨x, S1⟩, h1, h2⟩ := Option.bind_eq_some_iff.mp hc
  cases h2
  exact ⟨m, ρ, S, x, _, sr, lr, h1, fun m1 H1 e1 sr1 => post m1 H1 e1 sr1⟩
def cAndV (ca cb : CE) : CE := fun ρ S => (ca ρ S).bind fun p => match p.1 with
  | .bl true => cb ρ p.2
  | .bl false => some (.bl false, p.2)
  | _ => none
def cOrV (ca cb : CE) : CE := fun ρ S => (ca ρ S).bind fun p => match p.1 with
  | .bl false => cb ρ p.2
  | .bl true => some (.bl true, p.2)
  | _ => none
def cNotV (ca : CE) : CE := fun ρ S => (ca ρ S).bind fun p => match p.1 with
  | .bl b => some (.bl (!b), p.2)
  | _ => none
theorem q_one {op} (h : QE X a ca) : QE X (.BoolOp op [a] pos) ca := wpe_one h
theorem q_andV (ha : QE X a ca) (hb : QE X (.BoolOp .And (b :: rest) pos) cb) : QE X (.BoolOp .And (a :: b :: rest) pos) (cAndV ca cb) := (wpe_and ha hb).imp fun σ H Q ⟨m, ρ, S, u, S', sr, lr, hc, post⟩ => by
  obtain ⟨⟨x, S1⟩, h1, h2⟩ := Option.bind_eq_some_iff.mp hc
  refine ⟨m, ρ, S, x, S1, sr, lr, h1, fun m1 v1 H1 e1 sr1 i1 => ?_⟩
  cases x with
  | bl k =>
    refine ⟨k, i1.of_bl, ?_⟩
    cases k with
    | true => exact iteT ⟨m1, ρ, S1, u, S', sr1, lr.mono e1, h2, post.mono e1⟩
    | false => cases h2; exact iteF (post m1 _ H1 e1 sr1 .bl_)
  | _ => simp at h2
theorem q_notV (ha : QE X a ca) : QE X (.UnaryOp .Not a pos) (cNotV ca) := (wpe_not ha).imp fun σ H Q ⟨m, ρ, S, u, S', sr, lr, hc, post⟩ => by
  obtain ⟨⟨x, S1⟩, h1, h2⟩ := Option.bind_eq_some_iff.mp hc
  refine ⟨m, ρ, S, x, S1, sr, lr, h1, fun m1 v1 H1 e1 sr1 i1 => ?_⟩
  cases x with
  | bl k => cases h2; exact ⟨k, i1.of_bl, post m1 _ H1 e1 sr1 .bl_⟩
  | _ => simp at h2
def cIf (t : CT) (ca cb : CE) : CE := fun ρ S => (t ρ S).bind fun p => if p.1 = true then ca ρ p.2 else cb ρ p.2
variable {es : List Expr} {cr : CA}
def cNil : CA := fun _ S => some ([], S)
def cCons (ca : CE) (cr : CA) : CA := fun ρ S => (ca ρ S).bind fun p => (cr ρ p.2).bind fun q => some (p.1 :: q.1, q.2)
theorem q_nil : QA X [] cNil := ⟨wpa_nil.imp fun σ H Q ⟨m, ρ, S, u, S', sr, lr, hc, post⟩ => by cases hc; exact post m [] H .refl sr .nil_, fun ρ S us S' h => by cases h; rfl⟩
theorem q_cons (ha : QE X e ca) (hr : QA X es cr) (hs : starEach (e :: es) X.env = (false, eval e X.env) :: starEach es X.env := by rfl) : QA X (e :: es) (cCons ca cr) := ⟨(wpa_cons ha hr.h hs).imp fun σ H Q ⟨m, ρ, S, u, S', sr, lr, hc, post⟩ => by
  obtain ⟨⟨x, S1⟩, h1, h⟩ := Option.bind_eq_some_iff.mp hc
  obtain ⟨⟨y, S2⟩, h2, h3⟩ := Option.bind_eq_some_iff.mp h
  cases h3
  exact ⟨m, ρ, S, x, S1, sr, lr, h1, fun m1 v1 H1 e1 sr1 i1 => ⟨m1, ρ, S1, y, S2, sr1, lr.mono e1, h2, fun m2 v2 H2 e2 sr2 i2 => post m2 _ H2 (e1.trans e2) sr2 (.cons_ (i1.mono e2) i2)⟩⟩,
  fun ρ S us S' h => by
  obtain ⟨⟨x, S1⟩, h1, h⟩ := Option.bind_eq_some_iff.mp h
  obtain ⟨⟨y, S2⟩, h2, h3⟩ := Option.bind_eq_some_iff.mp h
  cases h3
  simp [hr.len ρ S1 y S2 h2]⟩
def cTup (cr : CA) : CE := fun ρ S => (cr ρ S).bind fun p => some (.tup p.1, p.2)
def cLst (cr : CA) : CE := fun ρ S => (cr ρ S).bind fun p => some (.ref p.2.length, p.2 ++ [.lst p.1])
theorem last_get {m : List Addr} {S : Sto} {q : Addr} (h : m.length = S.length) : (m ++ [q])[S.length]? = some q := by rw [List.getElem?_append_right (by omega)]; simp [h]
theorem post_tup {K : PySem.W.Frag} {m : List Addr} {H : Hp} {S : Sto} {us : List U} {xs : List V} {Q : VK} {p : Addr} (sr : Sr K m S H) (i : IsL K m H xs us) (post : PostE K m H Q (.tup us) S) (hp : H p = none) : Q (.ref p) (upd H p (.tup xs)) :=
  post m _ _ (.of (keep_new hp _)) (sr.same (same_new hp _)) (.tup_ (SqT.of upd_same) (i.mono (.of (keep_new hp _))))
theorem post_lst {K : PySem.W.Frag} {m : List Addr} {H : Hp} {S : Sto} {us : List U} {xs : List V} {Q : VK} {p : Addr} (sr : Sr K m S H) (i : IsL K m H xs us) (post : PostE K m H Q (.ref S.length) (S ++ [.lst us])) (hp : H p = none) : Q (.ref p) (upd H p (.lst xs)) :=
  post (m ++ [p]) _ _ (.new (keep_new hp _)) (sr.new hp ⟨xs, upd_same, i.mono (.new (keep_new hp _))⟩) (.ref_ (last_get sr.len))
theorem q_tup {x1} (h : QA X es cr) (hl : es.length ≤ 1000 := by exact Nat.le_of_ble_eq_true rfl) : QE X (.Tuple es x1 pos) (cTup cr) := (wpe_tup h.h).imp fun σ H Q ⟨m, ρ, S, u, S', sr, lr, hc, post⟩ => by
  obtain ⟨⟨us, S1⟩, h1, h2⟩ := Option.bind_eq_some_iff.mp hc
  cases h2
  refine ⟨m, ρ, S, us, _, sr, lr, h1, fun m1 v1 H1 e1 sr1 i1 => ⟨smallN ?_, fun p hp => post_tup sr1 i1 (post.mono e1) hp⟩⟩
  rw [i1.length, h.len _ _ _ _ h1]; exact hl
theorem q_lst (h : QA X es cr) (hl : es.length ≤ 1000 := by exact Nat.le_of_ble_eq_true rfl) : QE X (.List es pos) (cLst cr) := (wpe_lst h.h).imp fun σ H Q ⟨m, ρ, S, u, S', sr, lr, hc, post⟩ => by
  obtain ⟨⟨us, S1⟩, h1, h2⟩ := Option.bind_eq_some_iff.mp hc
  cases h2
  refine ⟨m, ρ, S, us, _, sr, lr, h1, fun m1 v1 H1 e1 sr1 i1 => ⟨smallN ?_, fun p hp => post_lst sr1 i1 (post.mono e1) hp⟩⟩
  rw [i1.length, h.len _ _ _ _ h1]; exact hl
def cCB (f : List U → Sto → Option (U × Sto)) (cr : CA) : CE := fun ρ S => (cr ρ S).bind fun p => f p.1 p.2
def CallP (K : PySem.W.Frag) (r : List V → Hp → VK → Prop) (f : List U → Sto → Option (U × Sto)) : Prop :=
  ∀ m S H us vs u S' Q, Sr K m S H → IsL K m H vs us → f us S = some (u, S') → PostE K m H Q u S' → r vs H Q
theorem cb_imp {K : PySem.W.Frag} {r : List V → Hp → VK → Prop} {f : List U → Sto → Option (U × Sto)} (hp : CallP K r f) : ∀ σ H Q, tE K (cCB f cr) σ H Q → tCB r (tA K cr) σ H Q := by
  rintro σ H Q ⟨m, ρ, S, u, S', sr, lr, hc, post⟩
  obtain ⟨⟨us, S1⟩, h1, h2⟩ := Option.bind_eq_some_iff.mp hc
  exact ⟨m, ρ, S, us, S1, sr, lr, h1, fun m1 v1 H1 e1 sr1 i1 => hp m1 S1 H1 us v1 u S' Q sr1 i1 h2 (post.mono e1)⟩
theorem q_callB {id : String} {x : Str} {p : Pos} {r : List V → Hp → VK → Prop} {f : List U → Sto → Option (U × Sto)} (hc : CallR X (.builtin id) r) (hp : CallP X.K r f) (hg : Gl X x) (hm : X.mg x = none) (hv : bootBuiltins x = some (.builtin id)) (ha : QA X (e :: es) cr) (hn : x ≠ "__name__" := by decide) (hdb : (x == ("__debug__" : Str)) = false := by decide) (he : starEach (e :: es) X.env = (false, eval e X.env) :: starEach es X.env := by rfl) (hpl : (backTo pos (starEach es X.env)).any (·.1) = false := by rfl) :
    QE X (.Call (.Name x p) (e :: es) [] pos) (cCB f cr) := (wpe_callB hc hg hm hv ha.h hn hdb he hpl).imp (cb_imp hp)
theorem q_callTy {id : String} {x : Str} {p : Pos} {r : List V → Hp → VK → Prop} {f : List U → Sto → Option (U × Sto)} (hc : CallR X (.type id) r) (hp : CallP X.K r f) (hg : Gl X x) (hm : X.mg x = none) (hv : bootBuiltins x = some (.type id)) (ha : QA X (e :: es) cr) (hn : x ≠ "__name__" := by decide) (hdb : (x == ("__debug__" : Str)) = false := by decide) (he : starEach (e :: es) X.env = (false, eval e X.env) :: starEach es X.env := by rfl) (hpl : (backTo pos (starEach es X.env)).any (·.1) = false := by rfl) :
    QE X (.Call (.Name x p) (e :: es) [] pos) (cCB f cr) := (wpe_callTy hc hg hm hv ha.h hn hdb he hpl).imp (cb_imp hp)
end
def spOf (K : PySem.W.Frag) (f : List U → Sto → Option (U × Sto)) : Sp := fun vs H Q _ => ∃ m us S u S', IsL K m H vs us ∧ Sr K m S H ∧ f us S = some (u, S') ∧ PostE K m H Q u S'
abbrev Fn := List U → Sto → Option (U × Sto)
abbrev HasP (P : Program) (w : World) (K : PySem.W.Frag) (mg : Str → Option Value) (base : Heap) (x : Str) (k : Nat) (ps : List Str) (f : Fn) : Prop := Has P w K mg base x k ps (spOf K f)
def startU (n : Nat) (us : List U) : Rho := us.map some ++ List.replicate (n - us.length) none
def fnU (n k : Nat) (c : CS) : Fn := fun us S => if us.length = k then (c (startU n us) S).bind fun r => match r.1 with
  | .rt u => some (u, r.2.2)
  | .nx => some (.non, r.2.2)
  | _ => none else none
section
variable {P : Program} {w : World} {K : PySem.W.Frag} {mg : Str → Option Value} {base : Heap} {x : Str} {st : Stmt} {ps N : List Str} {k : Nat} {c : CS} {f : Fn}
theorem lr_start {m : List Addr} {H : Hp} {vs : List V} {us : List U} (i : IsL K m H vs us) : Lr K m H (startU N.length us) (L2.start N vs) := by
  have hl := i.length
  refine ⟨by simp [startU, L2.start, hl], fun j u e => ?_⟩
  unfold startU at e
  unfold L2.start
  by_cases c : j < us.length
  · rw [List.getElem?_append_left (by simpa using c), List.getElem?_map] at e
    rw [List.getElem?_append_left (by simpa [hl] using c), List.getElem?_map]
    rw [List.getElem?_eq_getElem c] at e
    simp at e
    obtain ⟨v, e1, e2⟩ := i.getD (List.getElem?_eq_getElem c)
    rw [e1]
    subst e
    exact ⟨v, rfl, e2⟩
  · rw [List.getElem?_append_right (by simpa using c), List.getElem?_replicate] at e
    split at e <;> cases e
theorem fn_body {X : Cx} {body : List Stmt} {Q : VK} {E : XK} {vs : List V} {H : Hp} (hK : X.K = K) (h : spOf K (fnU N.length ps.length c) vs H Q E) : tS X.K c { nx := fun _ H' => Q .non H', rt := Q } (L2.start N vs) H := by
  subst hK
  obtain ⟨m, us, S, u, S', i, sr, hf, post⟩ := h
  unfold fnU at hf
  split at hf
  · obtain ⟨⟨o, ρ', S2⟩, h1, h2⟩ := Option.bind_eq_some_iff.mp hf
    refine ⟨m, _, S, o, ρ', S2, sr, lr_start i, h1, ?_⟩
    cases o with
    | rt v => cases h2; exact post
    | nx => cases h2; exact fun m1 σ1 H1 e1 sr1 _ => post m1 _ H1 e1 sr1 .non_
    | bk => simp at h2
    | ct => simp at h2
  · cases hf
theorem spOf_len {vs : List V} {H : Hp} {Q : VK} {E : XK} {n k : Nat} (h : spOf K (fnU n k c) vs H Q E) : vs.length = k := by
  obtain ⟨m, us, S, u, S', i, sr, hf, post⟩ := h
  unfold fnU at hf
  split at hf
  · rename_i e
    rw [i.length, e]
  · cases hf
theorem _root_.OG.Def.pure (d : Def K mg x st ps) (S : FnScope N ps (defScope st))
    (hb : ∀ (f : Addr) (cdv : Value) (A : Around) (outer : List Env) (s : Shared) (H : Hp) (E : XK), Room k (A.deeper (envOfC x (defScope st) s.heap.objs.size f cdv)) →
      WSs (cxOf CX0 P w K mg base N x (defScope st) f cdv A outer s H E).nox (defBody st) (tS K c)) : HasP P w K mg base x (k + 1) ps (fnU N.length ps.length c) :=
  d.has S (fun vs H Q E h => spOf_len h) fun f cdv A outer s H vs Q E hr h => ⟨_, hb f cdv A outer s H E hr, fn_body (X := (cxOf CX0 P w K mg base N x (defScope st) f cdv A outer s H E).nox) (body := []) (ps := ps) rfl h⟩
theorem _root_.OG.Def.no (d : Def K mg x st ps) : HasP P w K mg base x k ps (fun _ _ => none) := d.none fun vs H Q E h => by
  obtain ⟨m, us, S, u, S', i, sr, hf, post⟩ := h
  cases hf
theorem q_call {X : Cx} {e : Expr} {es : List Expr} {cr : CA} {p pos : Pos} (F : Has X.prog X.w X.K X.mg X.base x k ps (spOf X.K f)) (hr : Room k X.A) (hg : Gl X x) (ha : QA X (e :: es) cr)
    (hdb : (x == ("__debug__" : Str)) = false := by decide) (he : starEach (e :: es) X.env = (false, eval e X.env) :: starEach es X.env := by rfl) (hpl : (backTo pos (starEach es X.env)).any (·.1) = false := by rfl) :
    QE X (.Call (.Name x p) (e :: es) [] pos) (cCB f cr) := (wpe_fn F hr hg ha.h hdb he hpl).imp fun σ H Q ⟨m, ρ, S, u, S', sr, lr, hc, post⟩ => by
  obtain ⟨⟨us, S1⟩, h1, h2⟩ := Option.bind_eq_some_iff.mp hc
  exact ⟨m, ρ, S, us, S1, sr, lr, h1, fun m1 v1 H1 e1 sr1 i1 => ⟨m1, us, S1, u, S', by simpa using i1, sr1, h2, post.mono e1⟩⟩
end
section
variable {X : Cx} {e a b c : Expr} {ca cb cc : CE} {pos : Pos} {st : Stmt} {sts : List Stmt} {c1 c2 : CS}
def cSkip : CS := fun ρ S => some (.nx, ρ, S)
def cSeq (c1 c2 : CS) : CS := fun ρ S => (c1 ρ S).bind fun r => match r.1 with
  | .nx => c2 r.2.1 r.2.2
  | o => some (o, r.2.1, r.2.2)
theorem qs_nil : QSs X [] cSkip := wpss_nil.imp fun D σ H ⟨m, ρ, S, o, ρ', S', sr, lr, hc, post⟩ => by cases hc; exact post m σ H .refl sr lr
theorem qs_cons (h1 : QS X st c1) (h2 : QSs X sts c2) : QSs X (st :: sts) (cSeq c1 c2) := (wpss_cons h1 h2).imp fun D σ H ⟨m, ρ, S, o, ρ', S', sr, lr, hc, post⟩ => by
  obtain ⟨⟨o1, ρ1, S1⟩, h1, h2⟩ := Option.bind_eq_some_iff.mp hc
  refine ⟨m, ρ, S, o1, ρ1, S1, sr, lr, h1, ?_⟩
  cases o1 with
  | nx => exact fun m1 σ1 H1 e1 sr1 lr1 => ⟨m1, ρ1, S1, o, ρ', S', sr1, lr1, h2, post.mono e1⟩
  | rt u => cases h2; exact post
  | bk => cases h2; exact post
  | ct => cases h2; exact post
theorem qs_one (h1 : QS X st c1) : QSs X [st] c1 := wpss_one h1
def cDrop (ca : CE) : CS := fun ρ S => (ca ρ S).bind fun p => some (.nx, ρ, p.2)
theorem qs_expr (he : QE X e ca) (hs : swapsWith e none pos.line X.env = pure false := by rfl) : QS X (.Expr e pos) (cDrop ca) := (wps_expr he hs).imp fun D σ H ⟨m, ρ, S, o, ρ', S', sr, lr, hc, post⟩ => by
  obtain ⟨⟨u, S1⟩, h1, h2⟩ := Option.bind_eq_some_iff.mp hc
  cases h2
  exact ⟨m, ρ, S, u, _, sr, lr, h1, fun m1 v1 H1 e1 sr1 i1 => post m1 σ H1 e1 sr1 (lr.mono e1)⟩
def cRet (ca : CE) : CS := fun ρ S => (ca ρ S).bind fun p => some (.rt p.1, ρ, p.2)
theorem qs_ret (he : QE X e ca) : QS X (.Return (some e) pos) (cRet ca) := (wps_ret he).imp fun D σ H ⟨m, ρ, S, o, ρ', S', sr, lr, hc, post⟩ => by
  obtain ⟨⟨u, S1⟩, h1, h2⟩ := Option.bind_eq_some_iff.mp hc
  cases h2
  exact ⟨m, ρ, S, u, _, sr, lr, h1, post⟩
def cIfS (t : CT) (c1 c2 : CS) : CS := fun ρ S => (t ρ S).bind fun p => if p.1 = true then c1 ρ p.2 else c2 ρ p.2
theorem qs_if {t : CT} {s1 s2 : List Stmt} (hc : QT X c t) (h1 : QSs X s1 c1) (h2 : QSs X s2 c2) : QS X (.If c s1 s2 pos) (cIfS t c1 c2) := (wps_if hc h1 h2).imp fun D σ H ⟨m, ρ, S, o, ρ', S', sr, lr, hc, post⟩ => by
  obtain ⟨⟨x, S1⟩, h1, h2⟩ := Option.bind_eq_some_iff.mp hc
  refine ⟨m, ρ, S, x, S1, sr, lr, h1, fun m1 H1 e1 sr1 => ?_⟩
  cases x with
  | true => exact iteT ⟨m1, ρ, S1, o, ρ', S', sr1, lr.mono e1, h2, post.mono e1⟩
  | false => exact iteF ⟨m1, ρ, S1, o, ρ', S', sr1, lr.mono e1, h2, post.mono e1⟩
abbrev CG := U → Rho → Sto → Option (Rho × Sto)
def tG (K : PySem.W.Frag) (g : CG) : TG := fun v σ H Q => ∃ m ρ S u ρ' S', Sr K m S H ∧ Lr K m H ρ σ ∧ Is K m H v u ∧ g u ρ S = some (ρ', S') ∧ PostN K m H Q ρ' S'
abbrev QG (X : Cx) (e : Expr) (g : CG) : Prop := WG X e (tG X.K g)
def gNm (i : Nat) : CG := fun u ρ S => some (ρ.set i (some u), S)
theorem qg_name {i : Nat} (h : WG X e (gName i)) : QG X e (gNm i) := h.imp fun v σ H Q ⟨m, ρ, S, u, ρ', S', sr, lr, iu, hc, post⟩ => by
  cases hc
  exact post m _ H .refl sr (lr.set i iu)
def setAll : List Nat → List U → Rho → Option Rho
  | [], [], ρ => some ρ
  | i :: is, u :: us, ρ => setAll is us (ρ.set i (some u))
  | _, _, _ => none
def tGs (K : PySem.W.Frag) (is : List Nat) : TGs := fun vs σ H Q => ∃ m ρ S us ρ', Sr K m S H ∧ Lr K m H ρ σ ∧ IsL K m H vs us ∧ setAll is us ρ = some ρ' ∧ PostN K m H Q ρ' S
abbrev QGs (X : Cx) (es : List Expr) (is : List Nat) : Prop := WGs X es (tGs X.K is)
theorem qgs_nil : QGs X [] [] := wpgs_nil.imp fun v σ H Q ⟨m, ρ, S, us, ρ', sr, lr, iu, hc, post⟩ => by
  cases us with
  | nil => cases hc; exact ⟨iu.of_nil, post m σ H .refl sr lr⟩
  | cons a r => simp [setAll] at hc
theorem qgs_cons {i : Nat} {is : List Nat} {es : List Expr} (h : WG X e (gName i)) (h2 : QGs X es is) (hs : (assignEach (e :: es) X.env).map (·.2) = assign e X.env :: (assignEach es X.env).map (·.2) := by rfl) : QGs X (e :: es) (i :: is) := (wpgs_cons h h2 hs).imp fun v σ H Q ⟨m, ρ, S, us, ρ', sr, lr, iu, hc, post⟩ => by
  cases us with
  | nil => simp [setAll] at hc
  | cons u r =>
    obtain ⟨x, xr, rfl, i1, i2⟩ := iu.of_cons
    exact ⟨x, xr, rfl, m, ρ.set i (some u), S, r, ρ', sr, lr.set i i1, i2, hc, post⟩
def gTp (is : List Nat) : CG := fun u ρ S => match u with
  | .tup us => (setAll is us ρ).bind fun ρ' => some (ρ', S)
  | _ => none
theorem setAll_len : ∀ {is : List Nat} {us : List U} {ρ ρ' : Rho}, setAll is us ρ = some ρ' → us.length = is.length
  | [], [], _, _, _ => rfl
  | [], _ :: _, _, _, h => by simp [setAll] at h
  | _ :: _, [], _, _, h => by simp [setAll] at h
  | i :: is, u :: us, ρ, ρ', h => by
    have := setAll_len (is := is) (us := us) h
    simp [this]
theorem qg_tup {is : List Nat} {es : List Expr} {k : Nat} (hc : X.calm = true) (h : QGs X es is) (hn : (assignEach es X.env).length = is.length := by rfl) (hst : (assignEach es X.env).findIdx? (·.1) = none := by rfl) : QG X (.Tuple es k pos) (gTp is) := (wpg_tup hc h hn hst).imp fun v σ H Q ⟨m, ρ, S, u, ρ', S', sr, lr, iu, hc, post⟩ => by
  cases u with
  | tup us =>
    obtain ⟨ρ2, h1, h2⟩ := Option.bind_eq_some_iff.mp hc
    cases h2
    obtain ⟨a, xs, rfl, sq, il⟩ := iu.of_tup
    refine ⟨a, xs, rfl, sq, ?_, m, ρ, S, us, ρ', sr, lr, il, h1, post⟩
    rw [il.length]; exact setAll_len h1
  | _ => simp [gTp] at hc
def cAsg (ca : CE) (g : CG) : CS := fun ρ S => (ca ρ S).bind fun p => (g p.1 ρ p.2).bind fun q => some (.nx, q.1, q.2)
theorem asg_imp {K : PySem.W.Frag} {g : CG} : ∀ D σ H, tS K (cAsg ca g) D σ H → tAsg (tE K ca) (tG K g) D σ H := by
  rintro D σ H ⟨m, ρ, S, o, ρ', S', sr, lr, hc, post⟩
  obtain ⟨⟨u, S1⟩, h1, h2⟩ := Option.bind_eq_some_iff.mp hc
  obtain ⟨⟨ρ2, S2⟩, h3, h4⟩ := Option.bind_eq_some_iff.mp h2
  cases h4
  exact ⟨m, ρ, S, u, S1, sr, lr, h1, fun m1 v1 H1 e1 sr1 i1 => ⟨m1, ρ, S1, u, _, _, sr1, lr.mono e1, i1, h3, PostN.mono e1 post⟩⟩
theorem qs_asg {tg : Expr} {g : CG} (he : QE X e ca) (hg : QG X tg g) (hs : swapsWithSole [tg] e pos.line X.env = pure false := by rfl) (hw : swappedStores [tg] e X.env = pure none := by rfl)
    (h1 : (assignEach [tg] X.env).map (·.2) = [assign tg X.env] := by rfl) : QS X (.Assign [tg] e pos) (cAsg ca g) := (wps_asg he hg hs hw h1).imp asg_imp
def cSet (i : Nat) (ca : CE) : CS := fun ρ S => (ca ρ S).bind fun p => some (.nx, ρ.set i (some p.1), p.2)
theorem qs_set {i : Nat} {x : Str} {pos' : Pos} (hN : X.N.Nodup) (hi : X.N[i]? = some x) (hx : Loc X.env.scope x) (he : QE X e ca) (hs : swapsWith e (some (.Name x pos')) pos.line X.env = pure false := by rfl) (hf : X.fn x = true ∨ X.env.scope.names.lookup x = some .local := by first | exact .inl rfl | exact .inr rfl | assumption) :
    QS X (.Assign [.Name x pos'] e pos) (cSet i ca) := (wps_set hN hi hx he hs hf).imp fun D σ H ⟨m, ρ, S, o, ρ', S', sr, lr, hc, post⟩ => by
  obtain ⟨⟨u, S1⟩, h1, h2⟩ := Option.bind_eq_some_iff.mp hc
  cases h2
  exact ⟨m, ρ, S, u, _, sr, lr, h1, fun m1 v1 H1 e1 sr1 i1 => post m1 _ H1 e1 sr1 ((lr.mono e1).set i i1)⟩
abbrev CI := Rho → Sto → Option (List U × (Sto → Prop) × Sto)
def ItOk (K : PySem.W.Frag) (J : It) (m : List Addr) (H : Hp) (us : List U) (ok : Sto → Prop) : Prop := ∀ m2 S2 H2 i, Ext K m H m2 H2 → Sr K m2 S2 H2 → ok S2 →
  (∀ u, us[i]? = some u → J.go i H2 ∧ ∀ x H3, J.yld i H2 x H3 → Ext K m2 H2 m2 H3 ∧ Sr K m2 S2 H3 ∧ Is K m2 H3 x u) ∧ (us.length ≤ i → J.stop i H2)
def tI (K : PySem.W.Frag) (ci : CI) : TI := fun σ H R => ∃ m ρ S us ok S', Sr K m S H ∧ Lr K m H ρ σ ∧ ci ρ S = some (us, ok, S') ∧ ∀ m' H' J, Ext K m H m' H' → Sr K m' S' H' → ItOk K J m' H' us ok → R J H'
abbrev QI (X : Cx) (tg iter : Expr) (ci : CI) : Prop := WI X tg iter (tI X.K ci)
open Classical in
noncomputable def loopU (ok : Sto → Prop) (g : CG) (cb : CS) : List U → CS
  | [] => fun ρ S => if ok S then some (.nx, ρ, S) else none
  | u :: us => fun ρ S => if ok S then (g u ρ S).bind fun p => (cb p.1 p.2).bind fun r => match r.1 with
    | .nx => loopU ok g cb us r.2.1 r.2.2
    | .ct => loopU ok g cb us r.2.1 r.2.2
    | .bk => some (.nx, r.2.1, r.2.2)
    | .rt v => some (.rt v, r.2.1, r.2.2) else none
noncomputable def cFor (ci : CI) (g : CG) (cb : CS) : CS := fun ρ S => (ci ρ S).bind fun p => loopU p.2.1 g cb p.1 ρ p.2.2
theorem drop_cons {α : Type} {us : List α} {i : Nat} {u : α} (h : us[i]? = some u) : us.drop i = u :: us.drop (i + 1) := by
  obtain ⟨hl, e⟩ := List.getElem?_eq_some_iff.mp h
  rw [List.drop_eq_getElem_cons hl, e]
theorem loop_imp {K : PySem.W.Frag} {g : CG} {cb : CS} {J : It} {us : List U} {ok : Sto → Prop} {D : Ends} {m1 : List Addr} {H1 : Hp} {ρ ρ' : Rho} {σ : L2.St} {S1 S' : Sto} {o : Out} (sr1 : Sr K m1 S1 H1) (lr1 : Lr K m1 H1 ρ σ) (ito : ItOk K J m1 H1 us ok) (h2 : loopU ok g cb us ρ S1 = some (o, ρ', S')) (post : PostS K m1 H1 D o ρ' S') :
    ∃ W : Nat → Nat → L2.St → Hp → Prop, (∃ n, W 0 n σ H1) ∧ ∀ i n σ H, W i n σ H →
      (J.stop i H ∧ D.nx σ H) ∨ (J.go i H ∧ ∃ N : L2.St → Hp → Prop, (∀ σ' H', N σ' H' → ∃ n', n' < n ∧ W (i + 1) n' σ' H') ∧ ∀ x H', J.yld i H x H' → tG K g x σ H' fun σ2 H2 => tS K cb { D with nx := N, ct := N, bk := D.nx } σ2 H2) := by
  let W : Nat → Nat → L2.St → Hp → Prop := fun i n σ2 H2 => n = us.length - i ∧ i ≤ us.length ∧ ∃ m2 ρ2 S2, Ext K m1 H1 m2 H2 ∧ Sr K m2 S2 H2 ∧ Lr K m2 H2 ρ2 σ2 ∧ loopU ok g cb (us.drop i) ρ2 S2 = some (o, ρ', S')
  refine ⟨W, ⟨us.length, by simp, Nat.zero_le _, m1, ρ, S1, .refl, sr1, lr1, by simpa using h2⟩, ?_⟩
  rintro i n σ2 H2 ⟨rfl, hi, m2, ρ2, S2, e2, sr2, lr2, hl⟩
  by_cases hlt : i < us.length
  · have hu := List.getElem?_eq_getElem hlt
    rw [drop_cons hu] at hl
    unfold loopU at hl
    split at hl
    · rename_i hok
      obtain ⟨⟨ρ3, S3⟩, h3, hl⟩ := Option.bind_eq_some_iff.mp hl
      obtain ⟨⟨o4, ρ4, S4⟩, h4, hl⟩ := Option.bind_eq_some_iff.mp hl
      obtain ⟨hgo, hy⟩ := (ito m2 S2 H2 i e2 sr2 hok).1 _ hu
      refine .inr ⟨hgo, W (i + 1) (us.length - (i + 1)), fun σ' H' w' => ⟨_, by omega, w'⟩, fun x H3 y => ?_⟩
      obtain ⟨e3, sr3, ix⟩ := hy x H3 y
      refine ⟨m2, ρ2, S2, _, ρ3, S3, sr3, lr2.mono e3, ix, h3, fun m4 σ4 H4 e4 sr4 lr4 => ⟨m4, ρ3, S3, o4, ρ4, S4, sr4, lr4, h4, ?_⟩⟩
      have e14 := (e2.trans e3).trans e4
      have nxt : loopU ok g cb (us.drop (i + 1)) ρ4 S4 = some (o, ρ', S') → PostN K m4 H4 (W (i + 1) (us.length - (i + 1))) ρ4 S4 := fun hn m5 σ5 H5 e5 sr5 lr5 => ⟨rfl, hlt, m5, ρ4, S4, e14.trans e5, sr5, lr5, hn⟩
      cases o4 with
      | nx => exact nxt hl
      | ct => exact nxt hl
      | bk => cases hl; exact PostN.mono e14 post
      | rt v => cases hl; exact PostE.mono e14 post
    · cases hl
  · have e : i = us.length := by omega
    subst e
    rw [List.drop_length] at hl
    unfold loopU at hl
    split at hl
    · rename_i hok
      cases hl
      exact .inl ⟨(ito m2 _ H2 _ e2 sr2 hok).2 (Nat.le_refl _), post m2 σ2 H2 e2 sr2 lr2⟩
    · cases hl
theorem for_imp {K : PySem.W.Frag} {ci : CI} {g : CG} {cb : CS} : ∀ D σ H, tS K (cFor ci g cb) D σ H → tFor (tI K ci) (tG K g) (tS K cb) D σ H := by
  rintro D σ H ⟨m, ρ, S, o, ρ', S', sr, lr, hc, post⟩
  obtain ⟨⟨us, ok, S1⟩, h1, h2⟩ := Option.bind_eq_some_iff.mp hc
  exact ⟨m, ρ, S, us, ok, S1, sr, lr, h1, fun m1 H1 J e1 sr1 ito => loop_imp sr1 (lr.mono e1) ito h2 (PostS.mono e1 post)⟩
theorem qs_for {tg iter : Expr} {body : List Stmt} {ci : CI} {g : CG} {cb : CS} (hp : PassesOwn (model X.prog X.w) X.A X.env X.xe) (hc : X.calm = true) (hi : QI X tg iter ci) (hg : QG X tg g) (hb : QSs X body cb) (hs : ∀ x, foldedSetIterable iter X.env x = pure x := by intro _; rfl) : QS X (.For tg iter body [] pos) (cFor ci g cb) := (wps_for hp hc hi hg hb hs).imp for_imp
def whileU (t : CT) (cb : CS) : Nat → CS
  | 0 => fun _ _ => none
  | n + 1 => fun ρ S => (t ρ S).bind fun p => if p.1 = true then (cb ρ p.2).bind fun r => match r.1 with
    | .nx => whileU t cb n r.2.1 r.2.2
    | .ct => whileU t cb n r.2.1 r.2.2
    | .bk => some (.nx, r.2.1, r.2.2)
    | .rt v => some (.rt v, r.2.1, r.2.2) else some (.nx, ρ, p.2)
theorem while_imp {K : PySem.W.Frag} {t : CT} {cb : CS} {n : Nat} : ∀ D σ H, tS K (whileU t cb n) D σ H → tWhile (tT K t) (tS K cb) D σ H := by
  rintro D σ H ⟨m, ρ, S, o, ρ', S', sr, lr, hc, post⟩
  let W : Nat → L2.St → Hp → Prop := fun n σ2 H2 => ∃ m2 ρ2 S2, Ext K m H m2 H2 ∧ Sr K m2 S2 H2 ∧ Lr K m2 H2 ρ2 σ2 ∧ whileU t cb n ρ2 S2 = some (o, ρ', S')
  refine ⟨W, ⟨n, m, ρ, S, .refl, sr, lr, hc⟩, ?_⟩
  rintro k σ2 H2 ⟨m2, ρ2, S2, e2, sr2, lr2, hl⟩
  cases k with
  | zero => cases hl
  | succ k =>
    unfold whileU at hl
    obtain ⟨⟨x, S3⟩, h3, hl⟩ := Option.bind_eq_some_iff.mp hl
    refine ⟨m2, ρ2, S2, x, S3, sr2, lr2, h3, fun m3 H3 e3 sr3 => ?_⟩
    have e13 := e2.trans e3
    cases x with
    | true =>
      rw [if_pos rfl] at hl
      refine iteT ?_
      obtain ⟨⟨o4, ρ4, S4⟩, h4, hl⟩ := Option.bind_eq_some_iff.mp hl
      refine ⟨W k, fun σ' H' w' => ⟨k, Nat.lt_succ_self _, w'⟩, m3, ρ2, S3, o4, ρ4, S4, sr3, lr2.mono e3, h4, ?_⟩
      have nxt : whileU t cb k ρ4 S4 = some (o, ρ', S') → PostN K m3 H3 (W k) ρ4 S4 := fun hn m5 σ5 H5 e5 sr5 lr5 => ⟨m5, ρ4, S4, e13.trans e5, sr5, lr5, hn⟩
      cases o4 with
      | nx => exact nxt hl
      | ct => exact nxt hl
      | bk => cases hl; exact PostN.mono e13 post
      | rt v => cases hl; exact PostE.mono e13 post
    | false =>
      rw [if_neg Bool.false_ne_true] at hl
      refine iteF ?_
      cases hl
      exact post m3 σ2 H3 e13 sr3 (lr2.mono e3)
theorem qs_while {body : List Stmt} {t : CT} {cb : CS} (n : Nat) (hp : PassesOwn (model X.prog X.w) X.A X.env X.xe) (hc : QT X c t) (hb : QSs X body cb) : QS X (.While c body [] pos) (whileU t cb n) := (wps_while hp hc hb).imp while_imp
def iTp (ca : CE) : CI := fun ρ S => (ca ρ S).bind fun p => match p.1 with
  | .tup us => some (us, fun _ => True, p.2)
  | .ref l => match p.2[l]? with
    | some (.lst us) => some (us, fun S => S[l]? = some (.lst us), p.2)
    | _ => none
  | _ => none
theorem it_tup {K : PySem.W.Frag} {m : List Addr} {H : Hp} {us : List U} {a : Addr} {xs : List V} (sq : SqT K H a xs) (il : IsL K m H xs us) : ItOk K (Itt K a) m H us (fun _ => True) := by
  intro m2 S2 H2 i e2 sr2 _
  have sq2 := e2.keep _ _ sq
  have il2 := il.mono e2
  refine ⟨fun u hu => ?_, fun hi => ⟨xs, sq2, by rw [il2.length]; exact hi⟩⟩
  obtain ⟨x, hx, ix⟩ := il2.getD hu
  refine ⟨⟨xs, x, sq2, hx⟩, fun y H3 hy => ?_⟩
  obtain ⟨rfl, hy⟩ := hy
  have := hy xs sq2
  rw [hx] at this; cases this
  exact ⟨.refl, sr2, ix⟩
theorem it_lst {K : PySem.W.Frag} {m : List Addr} {H : Hp} {us : List U} {a : Addr} {l : Nat} (hl : m[l]? = some a) : ItOk K (Itl K a) m H us (fun S => S[l]? = some (.lst us)) := by
  intro m2 S2 H2 i e2 sr2 hok
  obtain ⟨a', ha', xs, hx, il⟩ := sr2.get hok
  rw [e2.get hl] at ha'
  cases ha'
  refine ⟨fun u hu => ?_, fun hi => ⟨xs, SqL.of hx, by rw [il.length]; exact hi⟩⟩
  obtain ⟨x, hx', ix⟩ := il.getD hu
  refine ⟨⟨xs, x, SqL.of hx, hx'⟩, fun y H3 hy => ?_⟩
  obtain ⟨rfl, hy⟩ := hy
  have := hy xs (SqL.of hx)
  rw [hx'] at this; cases this
  exact ⟨.refl, sr2, ix⟩
theorem qi_seq {tg : Expr} (h : QE X e ca) : QI X tg e (iTp ca) := ((wpi_tup h).or (wpi_list h)).imp fun σ H R ⟨m, ρ, S, us, ok, S', sr, lr, hc, post⟩ => by
  obtain ⟨⟨u, S1⟩, h1, h2⟩ := Option.bind_eq_some_iff.mp hc
  cases u with
  | tup ws =>
    cases h2
    refine .inl ⟨m, ρ, S, .tup us, _, sr, lr, h1, fun m1 v1 H1 e1 sr1 i1 => ?_⟩
    obtain ⟨a, xs, rfl, sq, il⟩ := i1.of_tup
    exact ⟨a, rfl, ⟨xs, sq⟩, post m1 H1 _ e1 sr1 (it_tup sq il)⟩
  | ref l =>
    simp only at h2
    split at h2
    · rename_i us' hS
      cases h2
      refine .inr ⟨m, ρ, S, .ref l, _, sr, lr, h1, fun m1 v1 H1 e1 sr1 i1 => ?_⟩
      obtain ⟨a, hl, rfl⟩ := i1.of_ref
      obtain ⟨a', ha', xs, hx, il⟩ := sr1.get hS
      rw [hl] at ha'; cases ha'
      exact ⟨a, rfl, ⟨xs, SqL.of hx⟩, post m1 H1 _ e1 sr1 (it_lst hl)⟩
    · cases h2
  | _ => simp at h2
def rangeU (lo : Int) (n : Nat) : List U := (List.range n).map fun i => .int (lo + (i : Nat))
theorem it_range {K : PySem.W.Frag} {m : List Addr} {H : Hp} {lo : Int} {n : Nat} : ItOk K (Itr lo n) m H (rangeU lo n) (fun _ => True) := by
  intro m2 S2 H2 i e2 sr2 _
  refine ⟨fun u hu => ?_, fun hi => by show n ≤ i; simpa [rangeU] using hi⟩
  unfold rangeU at hu
  rw [List.getElem?_map] at hu
  by_cases c : i < n
  · rw [List.getElem?_range c] at hu
    simp at hu
    subst hu
    refine ⟨c, fun y H3 hy => ?_⟩
    obtain ⟨rfl, rfl⟩ := hy
    exact ⟨.refl, sr2, .int_⟩
  · rw [List.getElem?_eq_none (by simpa using c)] at hu
    cases hu
def iRange1 (cr : CA) : CI := fun ρ S => (cr ρ S).bind fun p => match p.1 with
  | [.int j] => if -(2 ^ 62) ≤ j ∧ j < 2 ^ 62 then some (rangeU 0 j.toNat, fun _ => True, p.2) else none
  | _ => none
theorem qi_range1 {tg : Expr} {cr : CA} {p : Pos} (hg : Gl X "range") (hm : X.mg "range" = none) (ha : QA X [a] cr) (hs : starEach [a] X.env = [(false, eval a X.env)] := by rfl) : QI X tg (.Call (.Name "range" p) [a] [] pos) (iRange1 cr) := (wpi_range1 hg hm ha.h hs).imp fun σ H R ⟨m, ρ, S, us, ok, S', sr, lr, hc, post⟩ => by
  obtain ⟨⟨ws, S1⟩, h1, h2⟩ := Option.bind_eq_some_iff.mp hc
  simp only at h2
  split at h2
  · rename_i j
    split at h2
    · rename_i hj
      cases h2
      refine ⟨m, ρ, S, _, S', sr, lr, h1, fun m1 v1 H1 e1 sr1 i1 => ?_⟩
      obtain ⟨x, r, rfl, ix, ir⟩ := i1.of_cons
      rw [ir.of_nil, ix.of_int]
      exact ⟨j, rfl, hj.1, hj.2, post m1 H1 _ e1 sr1 it_range⟩
    · cases h2
  · cases h2
end
end OP
set_option maxHeartbeats 1000000
namespace OP
open PySem PySem.Spec PyProof.Rows L2 OG
def fI (g : Int → Int → Option U) : U → U → Sto → Option (U × Sto)
  | .int i, .int j, S => (g i j).bind fun u => some (u, S)
  | _, _, _ => none
section
variable {X : Cx} {K : PySem.W.Frag}
theorem p_rI {C : Int → Int → Prop} {gV : Int → Int → V} {g : Int → Int → Option U} (h : ∀ i j u, g i j = some u → C i j ∧ ∀ m H, Is K m H (gV i j) u) : OpP K (rI C gV) (fI g) := by
  intro m S H x y v w u S' Q sr ix iy hf post
  cases x <;> cases y <;> simp only [fI] at hf <;> try cases hf
  rename_i i j
  obtain ⟨u1, h1, h2⟩ := Option.bind_eq_some_iff.mp hf
  cases h2
  obtain ⟨hc, hi⟩ := h i j u h1
  exact ⟨i, j, ix.of_int, iy.of_int, hc, post m _ H .refl sr (hi m H)⟩
theorem p_rI0 {gV : Int → Int → V} {g : Int → Int → Option U} (h : ∀ i j u, g i j = some u → ∀ m H, Is K m H (gV i j) u) : OpP K (rI0 gV) (fI g) := by
  intro m S H x y v w u S' Q sr ix iy hf post
  cases x <;> cases y <;> simp only [fI] at hf <;> try cases hf
  rename_i i j
  obtain ⟨u1, h1, h2⟩ := Option.bind_eq_some_iff.mp hf
  cases h2
  exact ⟨i, j, ix.of_int, iy.of_int, post m _ H .refl sr (h i j u h1 m H)⟩
def rCatS (K : PySem.W.Frag) : R2 := fun x y H Q => ∃ a b xs ys, x = .ref a ∧ y = .ref b ∧ SqT K H a xs ∧ SqT K H b ys ∧ xs.length + ys.length ≤ sizeLine ∧ ∀ q H', Same H H' → SqT K H' q (xs ++ ys) → Q (.ref q) H'
theorem op_catS : OpR X (binaryOp .Add) (rCatS X.K) := by
  intro pins s σ H x y v u Q I rx ry h
  obtain ⟨a, b, xs, ys, rfl, rfl, ha, hb, hz, q⟩ := h
  by_cases e : xs = []
  · cases rx
    cases ry
    obtain ⟨its, r1, p1, _⟩ := I.tuple ha
    obtain ⟨its2, r2, p2, _⟩ := I.tuple hb
    refine cat_tup0 p1 p2 (r1.nil_iff.mpr e) ⟨.ref b, H, I, rfl, q b H (.refl _) (by rw [e]; exact hb)⟩
  · refine op_catT pins s σ H _ _ v u Q I rx ry ⟨a, b, xs, ys, rfl, rfl, ha, hb, e, hz, fun z => q a H (.refl _) (by rw [z, List.append_nil]; exact ha), fun _ p hp => q p _ (same_new hp _) (SqT.of upd_same)⟩
def fTupCat : U → U → Sto → Option (U × Sto)
  | .tup a, .tup b, S => if a.length + b.length ≤ LIM then some (.tup (a ++ b), S) else none
  | _, _, _ => none
theorem p_tupCat : OpP K (rCatS K) fTupCat := by
  intro m S H x y v w u S' Q sr ix iy hf post
  cases x <;> cases y <;> simp only [fTupCat] at hf <;> try cases hf
  split at hf <;> try cases hf
  rename_i hl
  obtain ⟨a, xs, rfl, sa, la⟩ := ix.of_tup
  obtain ⟨b, ys, rfl, sb, lb⟩ := iy.of_tup
  refine ⟨a, b, xs, ys, rfl, rfl, sa, sb, lim (by rw [la.length, lb.length]; exact hl), fun q H' s sq => ?_⟩
  exact post m _ H' (.of (keep_same s)) (sr.same s) (.tup_ sq ((la.append lb).mono (.of (keep_same s))))
def fLstCat : U → U → Sto → Option (U × Sto)
  | .ref l, .ref k, S => match S[l]?, S[k]? with
    | some (.lst a), some (.lst b) => if a.length + b.length ≤ LIM then some (.ref S.length, S ++ [.lst (a ++ b)]) else none
    | _, _ => none
  | _, _, _ => none
theorem p_lstCat : OpP K rCat fLstCat := by
  intro m S H x y v w u S' Q sr ix iy hf post
  cases x <;> cases y <;> simp only [fLstCat] at hf <;> try cases hf
  rename_i l k
  split at hf <;> try cases hf
  rename_i a b h1 h2
  split at hf <;> try cases hf
  rename_i hl
  obtain ⟨p, hp, rfl⟩ := ix.of_ref
  obtain ⟨q, hq, rfl⟩ := iy.of_ref
  obtain ⟨p', hp', xs, hx, il⟩ := sr.get h1
  obtain ⟨q', hq', ys, hy, il'⟩ := sr.get h2
  rw [hp] at hp'; cases hp'
  rw [hq] at hq'; cases hq'
  exact ⟨p, q, xs, ys, rfl, rfl, hx, hy, lim (by rw [il.length, il'.length]; exact hl), fun r hr => post_lst sr (il.append il') post hr⟩
def fStrCat : U → U → Sto → Option (U × Sto)
  | .str a, .str b, S => if a.length + b.length ≤ LIM then some (.str (a ++ b), S) else none
  | _, _, _ => none
theorem p_strCat : OpP K (fun x y H Q => ∃ i j, x = .str i ∧ y = .str j ∧ i.length + j.length ≤ sizeLine ∧ Q (.str (i ++ j)) H) fStrCat := by
  intro m S H x y v w u S' Q sr ix iy hf post
  cases x <;> cases y <;> simp only [fStrCat] at hf <;> try cases hf
  split at hf <;> try cases hf
  rename_i hl
  exact ⟨_, _, ix.of_str, iy.of_str, lim hl, post m _ H .refl sr .str_⟩
def fAdd : U → U → Sto → Option (U × Sto)
  | .int i, .int j, S => some (.int (i + j), S)
  | .tup a, .tup b, S => if a.length + b.length ≤ LIM then some (.tup (a ++ b), S) else none
  | .str a, .str b, S => if a.length + b.length ≤ LIM then some (.str (a ++ b), S) else none
  | .ref l, .ref k, S => fLstCat (.ref l) (.ref k) S
  | _, _, _ => none
theorem o_add : OpR X (binaryOp .Add) (fun x y H Q => rI0 (fun i j => .int (i + j)) x y H Q ∨ (rCat x y H Q ∨ (rCatS X.K x y H Q ∨ ∃ i j, x = .str i ∧ y = .str j ∧ i.length + j.length ≤ sizeLine ∧ Q (.str (i ++ j)) H))) := op_add.or (op_cat.or (op_catS.or op_add_str))
theorem p_add : OpP K (fun x y H Q => rI0 (fun i j => .int (i + j)) x y H Q ∨ (rCat x y H Q ∨ (rCatS K x y H Q ∨ ∃ i j, x = .str i ∧ y = .str j ∧ i.length + j.length ≤ sizeLine ∧ Q (.str (i ++ j)) H))) fAdd := by
  intro m S H x y v w u S' Q sr ix iy hf post
  cases x <;> cases y <;> simp only [fAdd] at hf <;> try cases hf
  · exact .inl ⟨_, _, ix.of_int, iy.of_int, post m _ H .refl sr .int_⟩
  · exact .inr (.inr (.inr (p_strCat m S H _ _ v w u S' Q sr ix iy hf post)))
  · exact .inr (.inr (.inl (p_tupCat m S H _ _ v w u S' Q sr ix iy hf post)))
  · exact .inr (.inl (p_lstCat m S H _ _ v w u S' Q sr ix iy hf post))
def fSub := fI fun i j => some (.int (i - j))
theorem p_sub : OpP K (rI0 fun i j => .int (i - j)) fSub := p_rI0 fun i j u h m H => by cases h; exact .int_
instance {i j : Int} : Decidable (CMul i j) := by unfold CMul; exact inferInstance
def fMul := fI fun i j => if CMul i j then some (.int (i * j)) else none
theorem p_mul : OpP K (rI CMul fun i j => .int (i * j)) fMul := p_rI fun i j u h => by
  split at h
  · rename_i c; cases h; exact ⟨c, fun m H => .int_⟩
  · cases h
instance {i j : Int} : Decidable (CDivB i j) := by unfold CDivB; exact inferInstance
def fDiv := fI fun i j => if CDivB i j then some (.int (i / j)) else none
theorem p_div : OpP K (rI CDivB fun i j => .int (i / j)) fDiv := p_rI fun i j u h => by
  split at h
  · rename_i c; cases h; exact ⟨c, fun m H => .int_⟩
  · cases h
def fMod := fI fun i j => if 0 < j then some (.int (i % j)) else none
theorem p_mod : OpP K (rI (fun _ j => 0 < j) fun i j => .int (i % j)) fMod := p_rI fun i j u h => by
  split at h
  · rename_i c; cases h; exact ⟨c, fun m H => .int_⟩
  · cases h
instance {i j : Int} : Decidable (CPow i j) := by unfold CPow; exact inferInstance
def fPow := fI fun i j => if CPow i j then some (.int (i ^ j.toNat)) else none
theorem p_pow : OpP K (rI CPow fun i j => .int (i ^ j.toNat)) fPow := p_rI fun i j u h => by
  split at h
  · rename_i c; cases h; exact ⟨c, fun m H => .int_⟩
  · cases h
def fLt := fI fun i j => some (.bl (decide (i < j)))
def fLe := fI fun i j => some (.bl (decide (i ≤ j)))
def fGt := fI fun i j => some (.bl (decide (j < i)))
def fGe := fI fun i j => some (.bl (decide (j ≤ i)))
theorem p_lt : OpP K (rI0 fun i j => .bl (decide (i < j))) fLt := p_rI0 fun i j u h m H => by cases h; exact .bl_
theorem p_gt : OpP K (rI0 fun i j => .bl (decide (j < i))) fGt := p_rI0 fun i j u h m H => by cases h; exact .bl_
theorem p_ge : OpP K (rI0 fun i j => .bl (decide (j ≤ i))) fGe := p_rI0 fun i j u h m H => by cases h; exact .bl_
def eqS : U → U → Option Bool
  | .int i, .int j => some (decide (i = j))
  | .bl i, .bl j => some (decide (i = j))
  | .str i, .str j => some (decide (i = j))
  | .non, .non => some true
  | .non, .int _ => some false | .int _, .non => some false
  | .non, .bl _ => some false | .bl _, .non => some false
  | .non, .str _ => some false | .str _, .non => some false
  | .int _, .str _ => some false | .str _, .int _ => some false
  | .bl _, .str _ => some false | .str _, .bl _ => some false
  | _, _ => none
def fEq : U → U → Sto → Option (U × Sto) := fun x y S => (eqS x y).bind fun b => some (.bl b, S)
def fNe : U → U → Sto → Option (U × Sto) := fun x y S => (eqS x y).bind fun b => some (.bl (!b), S)
theorem eqS_ok {m : List Addr} {H : Hp} {x y : U} {v w : V} {b : Bool} (ix : Is K m H v x) (iy : Is K m H w y) (h : eqS x y = some b) : scal v w = true ∧ decide (v = w) = b := by
  cases x <;> cases y <;> simp only [eqS] at h <;> (first | cases h | skip)
  all_goals
    (first | (have e1 := ix.of_int) | (have e1 := ix.of_bl) | (have e1 := ix.of_str) | (have e1 := ix.of_non))
    (first | (have e2 := iy.of_int) | (have e2 := iy.of_bl) | (have e2 := iy.of_str) | (have e2 := iy.of_non))
    subst e1 e2
    exact ⟨rfl, by simp⟩
theorem p_eq : OpP K rEq fEq := by
  intro m S H x y v w u S' Q sr ix iy hf post
  obtain ⟨b, h1, h2⟩ := Option.bind_eq_some_iff.mp hf
  cases h2
  obtain ⟨e1, e2⟩ := eqS_ok ix iy h1
  exact ⟨e1, by rw [e2]; exact post m _ H .refl sr .bl_⟩
theorem p_ne : OpP K rNe fNe := by
  intro m S H x y v w u S' Q sr ix iy hf post
  obtain ⟨b, h1, h2⟩ := Option.bind_eq_some_iff.mp hf
  cases h2
  obtain ⟨e1, e2⟩ := eqS_ok ix iy h1
  exact ⟨e1, by rw [e2]; exact post m _ H .refl sr .bl_⟩
def isNon : U → Bool
  | .non => true
  | _ => false
def fIsN : U → U → Sto → Option (U × Sto)
  | x, .non, S => some (.bl (isNon x), S)
  | _, _, _ => none
def fNotN : U → U → Sto → Option (U × Sto)
  | x, .non, S => some (.bl (!isNon x), S)
  | _, _, _ => none
theorem isNon_ok {m : List Addr} {H : Hp} {x : U} {v : V} (ix : Is K m H v x) : decide (v = .non) = isNon x := by
  cases x with
  | non => rw [ix.of_non]; rfl
  | bl b => rw [ix.of_bl]; rfl
  | int i => rw [ix.of_int]; rfl
  | str i => rw [ix.of_str]; rfl
  | tup us => obtain ⟨a, xs, rfl, _⟩ := ix.of_tup; rfl
  | ref l => obtain ⟨a, _, rfl⟩ := ix.of_ref; rfl
theorem p_isN : OpP K (fun x y H Q => y = .non ∧ Q (.bl (decide (x = .non))) H) fIsN := by
  intro m S H x y v w u S' Q sr ix iy hf post
  cases y <;> simp only [fIsN] at hf <;> cases hf
  exact ⟨iy.of_non, by rw [isNon_ok ix]; exact post m _ H .refl sr .bl_⟩
theorem p_notN : OpP K (fun x y H Q => y = .non ∧ Q (.bl (!decide (x = .non))) H) fNotN := by
  intro m S H x y v w u S' Q sr ix iy hf post
  cases y <;> simp only [fNotN] at hf <;> cases hf
  exact ⟨iy.of_non, by rw [isNon_ok ix]; exact post m _ H .refl sr .bl_⟩
section
variable {κ : Type} [DecidableEq κ]
def valG {α : Type} (kvs : List (κ × α)) (k : κ) : Option α := (kvs.find? fun kv => decide (kv.1 = k)).map (·.2)
def putG {α : Type} (kvs : List (κ × α)) (k : κ) (v : α) : List (κ × α) :=
  if (kvs.any fun kv => decide (kv.1 = k)) = true then kvs.map (fun kv => if kv.1 = k then (kv.1, v) else kv) else kvs ++ [(k, v)]
variable {m : List Addr} {H : Hp} {kvs : List (κ × V)} {kus : List (κ × U)} {k : κ} {v : V} {u : U}
theorem IsP.val (h : IsP K m H kvs kus) : Rf K m H (valV kvs k) (valG kus k) := by
  refine IsP.ind (P := fun kvs kus => Rf K m H (valV kvs k) (valG kus k)) trivial (fun k' v u kvs kus i _ ih => ?_) h
  by_cases e : k' = k
  · subst e
    simp [valV, valG, List.find?_cons, Rf, i]
  · simp only [valV, valG, List.find?_cons, decide_eq_false e] at ih ⊢
    exact ih
theorem IsP.any_ (h : IsP K m H kvs kus) : (kvs.any fun kv => decide (kv.1 = k)) = (kus.any fun kv => decide (kv.1 = k)) :=
  IsP.ind (P := fun kvs kus => (kvs.any fun kv => decide (kv.1 = k)) = (kus.any fun kv => decide (kv.1 = k))) rfl (fun k' v u kvs kus i _ ih => by simp only [List.any_cons, ih]) h
theorem IsP.append {kvs' : List (κ × V)} {kus' : List (κ × U)} (h : IsP K m H kvs kus) (h' : IsP K m H kvs' kus') : IsP K m H (kvs ++ kvs') (kus ++ kus') := ⟨by simp [h.1, h'.1], by simpa using h.2.append h'.2⟩
theorem IsP.put (h : IsP K m H kvs kus) (i : Is K m H v u) : IsP K m H (putK kvs k v) (putG kus k u) := by
  unfold putK putG
  rw [h.any_]
  split
  · refine IsP.ind (P := fun kvs kus => IsP K m H (kvs.map fun kv => if kv.1 = k then (kv.1, v) else kv) (kus.map fun kv => if kv.1 = k then (kv.1, u) else kv)) .nil_ (fun k' v' u' kvs kus i' _ ih => ?_) h
    simp only [List.map_cons]
    by_cases e : k' = k
    · simp only [e, if_true]; exact .cons_ i ih
    · simp only [e, if_false]; exact .cons_ i' ih
  · exact h.append (.cons_ i .nil_)
end
def keyU : U → Option Key
  | .int i => some (.inl i)
  | .str x => some (.inr x)
  | _ => none
theorem keyU_ok {m : List Addr} {H : Hp} {x : U} {v : V} {k : Key} (ix : Is K m H v x) (h : keyU x = some k) : v = kV k := by
  cases x <;> simp only [keyU] at h <;> cases h
  · exact ix.of_int
  · exact ix.of_str
def flatU : U → Bool
  | .non => true | .bl _ => true | .int _ => true | .str _ => true | _ => false
def eqF : U → U → Bool
  | .non, .non => true
  | .bl a, .bl b => a == b
  | .bl a, .int b => (if a then 1 else 0) == b
  | .int a, .bl b => a == (if b then 1 else 0)
  | .int a, .int b => a == b
  | .str a, .str b => a == b
  | _, _ => false
def inU (x : U) (us : List U) : Bool := us.any fun y => eqF y x
theorem flat_ok {m : List Addr} {H : Hp} {x : U} {v : V} (ix : Is K m H v x) (h : flatU x = true) : flatV v = true := by
  cases x with
  | non => rw [ix.of_non]; rfl
  | bl b => rw [ix.of_bl]; rfl
  | int i => rw [ix.of_int]; rfl
  | str i => rw [ix.of_str]; rfl
  | tup us => cases h
  | ref l => cases h
theorem eqF_ok {m : List Addr} {H : Hp} {x y : U} {v w : V} (ix : Is K m H v x) (iy : Is K m H w y) (hx : flatU x = true) (hy : flatU y = true) : eqV v w = eqF x y := by
  cases x <;> (first | cases hx | skip) <;> cases y <;> (first | cases hy | skip)
  all_goals
    (first | (have e1 := ix.of_int) | (have e1 := ix.of_bl) | (have e1 := ix.of_str) | (have e1 := ix.of_non))
    (first | (have e2 := iy.of_int) | (have e2 := iy.of_bl) | (have e2 := iy.of_str) | (have e2 := iy.of_non))
    subst e1 e2
    rfl
theorem flats_ok {m : List Addr} {H : Hp} : ∀ {xs : List V} {us : List U}, IsL K m H xs us → us.all flatU = true → xs.all flatV = true
  | xs, [], h, _ => by rw [h.of_nil]; rfl
  | xs, u :: us, h, k => by
    obtain ⟨x, r, rfl, i, t⟩ := h.of_cons
    rw [List.all_cons, Bool.and_eq_true] at k ⊢
    exact ⟨flat_ok i k.1, flats_ok t k.2⟩
theorem inU_ok {m : List Addr} {H : Hp} {x : U} {v : V} (ix : Is K m H v x) (hx : flatU x = true) : ∀ {xs : List V} {us : List U}, IsL K m H xs us → us.all flatU = true → inV v xs = inU x us
  | xs, [], h, _ => by rw [h.of_nil]; rfl
  | xs, u :: us, h, k => by
    obtain ⟨y, r, rfl, i, t⟩ := h.of_cons
    rw [List.all_cons, Bool.and_eq_true] at k
    have ih := inU_ok ix hx t k.2
    unfold inV inU at ih ⊢
    rw [List.any_cons, List.any_cons, ih, eqF_ok i ix k.1 hx]
theorem _root_.L2.DGet.kz {H : Hp} {a : Addr} {ob : Obj} {kvs : List (Key × V)} {k : Key} (e : H a = some (.frz ob (.dK kvs))) : DGet H a (kV k) (valV kvs k) := .inl ⟨kvs, k, .inr ⟨ob, e⟩, rfl, rfl⟩
def fIn (neg : Bool) : U → U → Sto → Option (U × Sto) := fun x y S => match y with
  | .tup us => if flatU x = true ∧ us.all flatU = true then some (.bl (if neg then !inU x us else inU x us), S) else none
  | .ref l => match S[l]? with
    | some (.lst us) => if flatU x = true ∧ us.all flatU = true then some (.bl (if neg then !inU x us else inU x us), S) else none
    | some (.dic kus) => (keyU x).bind fun k => some (.bl (if neg then !(valG kus k).isSome else (valG kus k).isSome), S)
    | some (.fdc ep kus) => (keyU x).bind fun k => some (.bl (if neg then !(valG kus k).isSome else (valG kus k).isSome), S)
    | _ => none
  | _ => none
theorem Rf.isSome {m : List Addr} {H : Hp} {v : Option V} {u : Option U} (h : Rf K m H v u) : v.isSome = u.isSome := by
  cases v <;> cases u <;> first | rfl | exact h.elim
theorem in_imp {ca cb : CE} {neg : Bool} (t2 : TE → TE → TE) (h2 : ∀ ta tb σ H Q, (ta σ H fun y H1 => tb σ H1 fun x H2 => ∃ a o, x = .ref a ∧ DGet H2 a y o ∧ Q (.bl (if neg then !o.isSome else o.isSome)) H2) → t2 ta tb σ H Q) : ∀ σ H Q, tE K (cOp (fIn neg) ca cb) σ H Q → tOp (rIn K neg) (tE K ca) (tE K cb) σ H Q ∨ t2 (tE K ca) (tE K cb) σ H Q := by
  rintro σ H Q ⟨m, ρ, S, u, S', sr, lr, hc, post⟩
  obtain ⟨⟨x, S1⟩, h1, h⟩ := Option.bind_eq_some_iff.mp hc
  obtain ⟨⟨y, S2⟩, h3, h4⟩ := Option.bind_eq_some_iff.mp h
  cases y with
  | tup us =>
    simp only [fIn] at h4
    split at h4 <;> try cases h4
    rename_i hf
    refine .inl ⟨m, ρ, S, x, S1, sr, lr, h1, fun m1 v1 H1 e1 sr1 i1 => ⟨m1, ρ, S1, .tup us, S', sr1, lr.mono e1, h3, fun m2 v2 H2 e2 sr2 i2 => ?_⟩⟩
    obtain ⟨a, xs, rfl, sa, la⟩ := i2.of_tup
    refine ⟨a, xs, rfl, .inr sa, flat_ok (i1.mono e2) hf.1, flats_ok la hf.2, ?_⟩
    rw [inU_ok (i1.mono e2) hf.1 la hf.2]
    exact post m2 _ H2 (e1.trans e2) sr2 .bl_
  | ref l =>
    simp only [fIn] at h4
    split at h4 <;> try cases h4
    · rename_i us hS
      split at h4 <;> try cases h4
      rename_i hf
      refine .inl ⟨m, ρ, S, x, S1, sr, lr, h1, fun m1 v1 H1 e1 sr1 i1 => ⟨m1, ρ, S1, .ref l, S', sr1, lr.mono e1, h3, fun m2 v2 H2 e2 sr2 i2 => ?_⟩⟩
      obtain ⟨a, ha, rfl⟩ := i2.of_ref
      obtain ⟨a', ha', xs, hx, la⟩ := sr2.get hS
      rw [ha] at ha'; cases ha'
      refine ⟨a, xs, rfl, .inl (SqL.of hx), flat_ok (i1.mono e2) hf.1, flats_ok la hf.2, ?_⟩
      rw [inU_ok (i1.mono e2) hf.1 la hf.2]
      exact post m2 _ H2 (e1.trans e2) sr2 .bl_
    · rename_i kus hS
      obtain ⟨k, hk, h5⟩ := Option.bind_eq_some_iff.mp h4
      cases h5
      refine .inr (h2 _ _ _ _ _ ⟨m, ρ, S, x, S1, sr, lr, h1, fun m1 v1 H1 e1 sr1 i1 => ⟨m1, ρ, S1, .ref l, S', sr1, lr.mono e1, h3, fun m2 v2 H2 e2 sr2 i2 => ?_⟩⟩)
      obtain ⟨a, ha, rfl⟩ := i2.of_ref
      obtain ⟨a', ha', kvs, hx, ip⟩ := sr2.get hS
      rw [ha] at ha'; cases ha'
      have ek := keyU_ok (i1.mono e2) hk
      subst ek
      refine ⟨a, _, rfl, DGet.k hx, ?_⟩
      rw [(IsP.val ip).isSome]
      exact post m2 _ H2 (e1.trans e2) sr2 .bl_
    · rename_i ep kus hS
      obtain ⟨k, hk, h5⟩ := Option.bind_eq_some_iff.mp h4
      cases h5
      refine .inr (h2 _ _ _ _ _ ⟨m, ρ, S, x, S1, sr, lr, h1, fun m1 v1 H1 e1 sr1 i1 => ⟨m1, ρ, S1, .ref l, S', sr1, lr.mono e1, h3, fun m2 v2 H2 e2 sr2 i2 => ?_⟩⟩)
      obtain ⟨a, ha, rfl⟩ := i2.of_ref
      obtain ⟨a', ha', ob, es, kvs, hx, hd, ip⟩ := sr2.get hS
      rw [ha] at ha'; cases ha'
      have ek := keyU_ok (i1.mono e2) hk
      subst ek
      refine ⟨a, _, rfl, DGet.kz hx, ?_⟩
      rw [(IsP.val ip).isSome]
      exact post m2 _ H2 (e1.trans e2) sr2 .bl_
  | _ => simp [fIn] at h4
variable {e a b c : Expr} {ca cb cc : CE} {pos : Pos}
theorem q_notin (hu : X.A.units + 1 < cLine) (ha : QE X a ca) (hb : QE X b cb) (hm : behindInMarks .NotIn b = false) : QE X (.Compare a [.NotIn] [b] pos) (cOp (fIn true) ca cb) :=
  ((wpe_cmpR op_notIn_seq ha hb hm).or (wpe_cmp (wpc_dnotin hu ha hb) hm)).imp (in_imp (neg := true) tDNotIn fun _ _ _ _ _ h => h)
theorem q_tnotin (hu : X.A.units + 1 < cLine) (ha : QE X a ca) (hb : QE X b cb) (hm : behindInMarks .NotIn b = false) : QT X (.Compare a [.NotIn] [b] pos) (cTest (cOp (fIn true) ca cb)) :=
  ((wpt_cmpR op_notIn_seq ha hb hm).or (wpt_cmp (wpc_dnotin hu ha hb) hm)).imp (test_imp (in_imp (neg := true) tDNotIn fun _ _ _ _ _ h => h))
def fIx : U → U → Sto → Option (U × Sto) := fun x y S => match x with
  | .tup us => match y with
    | .int i => (atI us i).bind fun u => some (u, S)
    | _ => none
  | .ref l => match S[l]? with
    | some (.lst us) => (match y with
      | .int i => (atI us i).bind fun u => some (u, S)
      | _ => none)
    | some (.dic kus) => (keyU y).bind fun k => (valG kus k).bind fun u => some (u, S)
    | some (.fdc ep kus) => (keyU y).bind fun k => (valG kus k).bind fun u => some (u, S)
    | _ => none
  | _ => none
theorem atI_ok {m : List Addr} {H : Hp} {xs : List V} {us : List U} {i : Int} {u : U} (l : IsL K m H xs us) (h : atI us i = some u) : ∃ v, atI xs i = some v ∧ Is K m H v u := by
  unfold atI at h ⊢
  rw [l.length]
  obtain ⟨j, e1, e2⟩ := Option.bind_eq_some_iff.mp h
  rw [e1]
  obtain ⟨v, e3, e4⟩ := l.getD e2
  exact ⟨v, e3, e4⟩
theorem q_ix (hu : X.A.units + 1 < cLine) (ha : QE X a ca) (hb : QE X b cb) (hs : PlainIx b) (hs2 : NoSl b) : QE X (.Subscript a b pos) (cOp fIx ca cb) :=
  ((wpe_ix (ix_list.or ix_tup) ha hb hs).or (wpe_dget hu ha hb hs2)).imp fun σ H Q ⟨m, ρ, S, u, S', sr, lr, hc, post⟩ => by
  obtain ⟨⟨x, S1⟩, h1, h⟩ := Option.bind_eq_some_iff.mp hc
  obtain ⟨⟨y, S2⟩, h3, h4⟩ := Option.bind_eq_some_iff.mp h
  cases x with
  | tup us =>
    simp only [fIx] at h4
    split at h4 <;> try cases h4
    rename_i i
    obtain ⟨w, hw, h5⟩ := Option.bind_eq_some_iff.mp h4
    cases h5
    refine .inl ⟨m, ρ, S, _, S1, sr, lr, h1, fun m1 v1 H1 e1 sr1 i1 => ⟨m1, ρ, S1, _, S', sr1, lr.mono e1, h3, fun m2 v2 H2 e2 sr2 i2 => .inr ?_⟩⟩
    obtain ⟨a, xs, rfl, sa, la⟩ := (i1.mono e2).of_tup
    obtain ⟨z, ez, iz⟩ := atI_ok la hw
    exact ⟨a, xs, i, z, rfl, i2.of_int, sa, ez, post m2 _ H2 (e1.trans e2) sr2 iz⟩
  | ref l =>
    simp only [fIx] at h4
    split at h4 <;> try cases h4
    · rename_i us hS
      split at h4 <;> try cases h4
      rename_i i
      obtain ⟨w, hw, h5⟩ := Option.bind_eq_some_iff.mp h4
      cases h5
      refine .inl ⟨m, ρ, S, _, S1, sr, lr, h1, fun m1 v1 H1 e1 sr1 i1 => ⟨m1, ρ, S1, _, S', sr1, lr.mono e1, h3, fun m2 v2 H2 e2 sr2 i2 => .inl ?_⟩⟩
      obtain ⟨a, ha, rfl⟩ := (i1.mono e2).of_ref
      obtain ⟨a', ha', xs, hx, la⟩ := sr2.get hS
      rw [ha] at ha'; cases ha'
      obtain ⟨z, ez, iz⟩ := atI_ok la hw
      exact ⟨a, xs, i, z, rfl, i2.of_int, SqL.of hx, ez, post m2 _ H2 (e1.trans e2) sr2 iz⟩
    · rename_i kus hS
      obtain ⟨k, hk, h5⟩ := Option.bind_eq_some_iff.mp h4
      obtain ⟨w, hw, h6⟩ := Option.bind_eq_some_iff.mp h5
      cases h6
      refine .inr ⟨m, ρ, S, _, S1, sr, lr, h1, fun m1 v1 H1 e1 sr1 i1 => ⟨m1, ρ, S1, _, S', sr1, lr.mono e1, h3, fun m2 v2 H2 e2 sr2 i2 => ?_⟩⟩
      obtain ⟨a, ha, rfl⟩ := (i1.mono e2).of_ref
      obtain ⟨a', ha', kvs, hx, ip⟩ := sr2.get hS
      rw [ha] at ha'; cases ha'
      have ek := keyU_ok i2 hk
      subst ek
      have rf := IsP.val (k := k) ip
      rw [hw] at rf
      cases hv : valV kvs k with
      | none => rw [hv] at rf; exact rf.elim
      | some z =>
        rw [hv] at rf
        exact ⟨a, z, rfl, by have := DGet.k (k := k) hx; rw [hv] at this; exact this, post m2 _ H2 (e1.trans e2) sr2 rf⟩
    · rename_i ep kus hS
      obtain ⟨k, hk, h5⟩ := Option.bind_eq_some_iff.mp h4
      obtain ⟨w, hw, h6⟩ := Option.bind_eq_some_iff.mp h5
      cases h6
      refine .inr ⟨m, ρ, S, _, S1, sr, lr, h1, fun m1 v1 H1 e1 sr1 i1 => ⟨m1, ρ, S1, _, S', sr1, lr.mono e1, h3, fun m2 v2 H2 e2 sr2 i2 => ?_⟩⟩
      obtain ⟨a, ha, rfl⟩ := (i1.mono e2).of_ref
      obtain ⟨a', ha', ob, es, kvs, hx, hd, ip⟩ := sr2.get hS
      rw [ha] at ha'; cases ha'
      have ek := keyU_ok i2 hk
      subst ek
      have rf := IsP.val (k := k) ip
      rw [hw] at rf
      cases hv : valV kvs k with
      | none => rw [hv] at rf; exact rf.elim
      | some z =>
        rw [hv] at rf
        exact ⟨a, z, rfl, by have := DGet.kz (k := k) hx; rw [hv] at this; exact this, post m2 _ H2 (e1.trans e2) sr2 rf⟩
  | _ => simp [fIx] at h4
def fSetIx : U → U → U → Sto → Option Sto := fun o i v S => match o with
  | .ref l => match S[l]? with
    | some (.lst us) => (match i with
      | .int k => (ixN us.length k).bind fun j => some (S.set l (.lst (us.set j v)))
      | _ => none)
    | some (.dic kus) => (keyU i).bind fun k => if kus.length < LIM then some (S.set l (.dic (putG kus k v))) else none
    | _ => none
  | _ => none
def cSetIx (co ci cv : CE) : CS := fun ρ S => (cv ρ S).bind fun p => (co ρ p.2).bind fun q => (ci ρ q.2).bind fun r => (fSetIx q.1 r.1 p.1 r.2).bind fun S' => some (.nx, ρ, S')
theorem qs_setIx {o i : Expr} {co ci cv : CE} {pos' : Pos} (hu : X.A.units + 1 < cLine) (ho : QE X o co) (hi : QE X i ci) (hv : QE X e cv)
    (hs0 : swapsWithSole [.Subscript o i pos'] e pos.line X.env = pure false := by rfl) (hw : swappedStores [.Subscript o i pos'] e X.env = pure none := by rfl)
    (h1 : (assignEach [.Subscript o i pos'] X.env).map (·.2) = [assign (.Subscript o i pos') X.env] := by rfl)
    (hs : swapsWith e (some (.Subscript o i pos')) pos.line X.env = pure false := by rfl)
    (ha : ∀ v, assign (.Subscript o i pos') X.env v = (do
      let ov ← holding [v] (eval o X.env)
      let iv ← holding [v, ov] (eval i X.env)
      standAt pos'
      holding [v, ov, iv] (setItem ov iv v)
      release [v, ov, iv] []) := by intro _; rfl) : QS X (.Assign [.Subscript o i pos'] e pos) (cSetIx co ci cv) :=
  ((wps_asg hv (wpg_sub ho hi set_list ha) hs0 hw h1).or (wps_dput hu ho hi hv hs)).imp fun D σ H ⟨m, ρ, S, o, ρ', S', sr, lr, hc, post⟩ => by
  obtain ⟨⟨v, S1⟩, h1, h⟩ := Option.bind_eq_some_iff.mp hc
  obtain ⟨⟨ou, S2⟩, h2, h⟩ := Option.bind_eq_some_iff.mp h
  obtain ⟨⟨iu, S3⟩, h3, h⟩ := Option.bind_eq_some_iff.mp h
  obtain ⟨S4, h4, h⟩ := Option.bind_eq_some_iff.mp h
  cases h
  cases ou with
  | ref l =>
    simp only [fSetIx] at h4
    split at h4 <;> try cases h4
    · rename_i us hS
      split at h4 <;> try cases h4
      rename_i k
      obtain ⟨j, hj, h5⟩ := Option.bind_eq_some_iff.mp h4
      cases h5
      refine .inl ⟨m, ρ, S, v, S1, sr, lr, h1, fun m1 v1 H1 e1 sr1 i1 => ⟨m1, ρ, S1, _, S2, sr1, lr.mono e1, h2, fun m2 v2 H2 e2 sr2 i2 => ⟨m2, ρ, S2, _, S3, sr2, lr.mono (e1.trans e2), h3, fun m3 v3 H3 e3 sr3 i3 => ?_⟩⟩⟩
      obtain ⟨a, ha, rfl⟩ := (i2.mono e3).of_ref
      obtain ⟨a', ha', xs, hx, la⟩ := sr3.get hS
      rw [ha] at ha'; cases ha'
      have e13 := (e1.trans e2).trans e3
      have ek : Ext X.K m3 H3 m3 (upd H3 a (.lst (xs.set j v1))) := .of (sr3.keep ha _)
      refine ⟨a, xs, k, j, rfl, i3.of_int, hx, by rw [la.length]; exact hj, post m3 σ _ (e13.trans ek) (sr3.put ha ⟨_, upd_same, ((la.set (i1.mono (e2.trans e3)))).mono ek⟩) (lr.mono (e13.trans ek))⟩
    · rename_i kus hS
      obtain ⟨k, hk, h5⟩ := Option.bind_eq_some_iff.mp h4
      split at h5 <;> try cases h5
      have hlen : kus.length < LIM := by assumption
      refine .inr ⟨m, ρ, S, v, S1, sr, lr, h1, fun m1 v1 H1 e1 sr1 i1 => ⟨m1, ρ, S1, _, S2, sr1, lr.mono e1, h2, fun m2 v2 H2 e2 sr2 i2 => ⟨m2, ρ, S2, _, S3, sr2, lr.mono (e1.trans e2), h3, fun m3 v3 H3 e3 sr3 i3 => ?_⟩⟩⟩
      obtain ⟨a, ha, rfl⟩ := (i2.mono e3).of_ref
      obtain ⟨a', ha', kvs, hx, ip⟩ := sr3.get hS
      rw [ha] at ha'; cases ha'
      have ek := keyU_ok i3 hk
      subst ek
      have e13 := (e1.trans e2).trans e3
      have ee : Ext X.K m3 H3 m3 (upd H3 a (.dK (putK kvs k v1))) := .of (sr3.keep ha _)
      exact ⟨a, _, rfl, DPut.k hx (lim1 (by rw [IsP.length ip]; exact hlen)), post m3 σ _ (e13.trans ee) (sr3.put ha ⟨_, upd_same, (IsP.put ip (i1.mono (e2.trans e3))).mono ee⟩) (lr.mono (e13.trans ee))⟩
  | _ => simp [fSetIx] at h4
end
end OP
set_option maxHeartbeats 1000000
namespace OP
open PySem PySem.Spec PyProof.Rows L2 OG
theorem nodup_sub_len {α : Type} [DecidableEq α] : ∀ {l l' : List α}, l.Nodup → (∀ x ∈ l, x ∈ l') → l.length ≤ l'.length
  | [], _, _, _ => Nat.zero_le _
  | x :: r, l', nd, s => by
    obtain ⟨h1, h2⟩ := List.nodup_cons.mp nd
    have hx := s x List.mem_cons_self
    have := nodup_sub_len (l := r) (l' := l'.erase x) h2 fun y hy => (List.mem_erase_of_ne (fun z => h1 (by rw [← z]; exact hy))).mpr (s y (List.mem_cons_of_mem _ hy))
    rw [List.length_erase_of_mem hx] at this
    have hp := List.length_pos_of_mem hx
    rw [List.length_cons]
    omega
theorem keys_putF (f : Str) (v : V) : ∀ fs : List (Str × V), (putF f v fs).map (·.1) = if f ∈ fs.map (·.1) then fs.map (·.1) else fs.map (·.1) ++ [f]
  | [] => by simp [putF]
  | (g, x) :: r => by
    unfold putF
    by_cases e : g = f
    · simp [e]
    · have ih := keys_putF f v r
      rw [if_neg e, List.map_cons, List.map_cons, ih]
      by_cases c : f ∈ r.map (·.1)
      · rw [if_pos c, if_pos (List.mem_cons_of_mem _ c)]
      · rw [if_neg c, if_neg (fun z => by rcases List.mem_cons.mp z with z | z; exact e z.symm; exact c z)]
        rfl
section
variable {X : Cx} {K : PySem.W.Frag} {m : List Addr} {H : Hp} {c : Cl} {fs : List (Str × V)} {fus : List (Option U)}
theorem InF.room (h : InF K m H c fs fus) : fs.length < 1000 := by
  have := nodup_sub_len h.knd h.sub
  rw [List.length_map] at this
  have := h.few
  omega
theorem lookup_none {f : Str} : ∀ {fs : List (Str × V)}, f ∉ fs.map (·.1) → fs.lookup f = none
  | [], _ => rfl
  | (g, x) :: r, h => by
    rw [List.lookup_cons]
    have h1 : (f == g) = false := by
      apply beq_eq_false_iff_ne.mpr
      intro z; exact h (by rw [z]; exact List.mem_cons_self)
    rw [h1]
    exact lookup_none fun z => h (List.mem_cons_of_mem _ z)
theorem InF.none_ {f : Str} (h : InF K m H c fs fus) (hf : f ∉ c.ns) : fs.lookup f = none := lookup_none fun z => hf (h.sub f z)
theorem InF.put {f : Str} {i : Nat} {v : V} {u : U} (h : InF K m H c fs fus) (hi : c.ns[i]? = some f) (hv : Is K m H v u) : InF K m H c (putF f v fs) (fus.set i (some u)) := by
  have hfm : f ∈ c.ns := List.mem_of_getElem? hi
  refine ⟨h.nd, h.few, ?_, fun x hx => ?_, by simp [h.len], fun j x hj => ?_⟩
  · rw [keys_putF]
    split
    · exact h.knd
    · rename_i hn
      rw [List.nodup_append]
      exact ⟨h.knd, by simp, fun a ha b hb z => by simp at hb; subst hb; subst z; exact hn ha⟩
  · rw [keys_putF] at hx
    split at hx
    · exact h.sub x hx
    · rcases List.mem_append.mp hx with z | z
      · exact h.sub x z
      · simp at z; subst z; exact hfm
  · rw [lookup_putF]
    by_cases e : i = j
    · subst e
      rw [hi] at hj; cases hj
      rw [if_pos rfl]
      have : i < fus.length := by rw [h.len]; exact (List.getElem?_eq_some_iff.mp hi).1
      rw [List.getElem?_set_self this]
      exact hv
    · have ne : x ≠ f := fun z => by
        subst z
        obtain ⟨p1, e1⟩ := List.getElem?_eq_some_iff.mp hi
        obtain ⟨p2, e2⟩ := List.getElem?_eq_some_iff.mp hj
        exact e ((List.getElem_inj h.nd).mp (e1.trans e2.symm))
      rw [if_neg ne, List.getElem?_set_ne e]
      exact h.at_ j x hj
theorem InF.new (nd : c.ns.Nodup) (few : c.ns.length < 1000) : InF K m H c [] (List.replicate c.ns.length none) := by
  refine ⟨nd, few, by simp, fun x hx => by simp at hx, by simp, fun i x hi => ?_⟩
  rw [List.getElem?_replicate]
  split <;> exact trivial
open Classical in
noncomputable def fFld (c : Cl) (i : Nat) (x : U) (S : Sto) : Option (U × Sto) := match x with
  | .ref l => match S[l]? with
    | some (.ins c' fus) => if c' = c then (fus[i]?).join.bind fun u => some (u, S) else none
    | _ => none
  | _ => none
noncomputable def cFld (c : Cl) (i : Nat) (ca : CE) : CE := fun ρ S => (ca ρ S).bind fun p => fFld c i p.1 p.2
open Classical in
noncomputable def fSetF (c : Cl) (i : Nat) (x v : U) (S : Sto) : Option Sto := match x with
  | .ref l => match S[l]? with
    | some (.ins c' fus) => if c' = c then some (S.set l (.ins c (fus.set i (some v)))) else none
    | _ => none
  | _ => none
noncomputable def cSetF (c : Cl) (i : Nat) (ca cv : CE) : CS := fun ρ S => (cv ρ S).bind fun p => (ca ρ p.2).bind fun q => (fSetF c i q.1 p.1 q.2).bind fun S' => some (.nx, ρ, S')
variable {e : Expr} {ca cv : CE} {pos : Pos} {f : Str} {i : Nat}
theorem q_fld (hcl : Cls X.K c.C) (hna : NoAttr X.K c.C f) (hi : c.ns[i]? = some f) (h : QE X e ca) (hb : attributeBase e f X.env (eval e X.env) = eval e X.env := by rfl) : QE X (.Attribute e f pos) (cFld c i ca) := (wpe_fld h hb).imp fun σ H Q ⟨m, ρ, S, u, S', sr, lr, hc, post⟩ => by
  obtain ⟨⟨x, S1⟩, h1, h2⟩ := Option.bind_eq_some_iff.mp hc
  refine ⟨m, ρ, S, x, S1, sr, lr, h1, fun m1 v1 H1 e1 sr1 i1 => ?_⟩
  cases x with
  | ref l =>
    simp only [fFld] at h2
    split at h2 <;> try cases h2
    rename_i c' fus hS
    split at h2 <;> try cases h2
    rename_i hc'
    subst hc'
    obtain ⟨w, hw, h3⟩ := Option.bind_eq_some_iff.mp h2
    cases h3
    obtain ⟨a, ha, rfl⟩ := i1.of_ref
    obtain ⟨a', ha', dx, fs, hx, inf⟩ := sr1.get hS
    rw [ha] at ha'; cases ha'
    have rf := inf.at_ i f hi
    rw [hw] at rf
    cases hv : fs.lookup f with
    | none => rw [hv] at rf; exact rf.elim
    | some z =>
      rw [hv] at rf
      exact ⟨a, _, dx, fs, z, rfl, hx, hcl, hna, hv, post m1 _ H1 e1 sr1 rf⟩
  | _ => simp [fFld] at h2
theorem qs_setF {o : Expr} {co : CE} {pos' : Pos} (hcl : Cls X.K c.C) (hna : NoAttr X.K c.C f) (hi : c.ns[i]? = some f) (ho : QE X o co) (hv : QE X e cv) (hs : swapsWith e (some (.Attribute o f pos')) pos.line X.env = pure false := by rfl) : QS X (.Assign [.Attribute o f pos'] e pos) (cSetF c i co cv) := (wps_fld ho hv hs).imp fun D σ H ⟨m, ρ, S, o, ρ', S', sr, lr, hc, post⟩ => by
  obtain ⟨⟨v, S1⟩, h1, h⟩ := Option.bind_eq_some_iff.mp hc
  obtain ⟨⟨x, S2⟩, h2, h⟩ := Option.bind_eq_some_iff.mp h
  obtain ⟨S3, h3, h⟩ := Option.bind_eq_some_iff.mp h
  cases h
  refine ⟨m, ρ, S, v, S1, sr, lr, h1, fun m1 v1 H1 e1 sr1 i1 => ⟨m1, ρ, S1, x, S2, sr1, lr.mono e1, h2, fun m2 v2 H2 e2 sr2 i2 => ?_⟩⟩
  cases x with
  | ref l =>
    simp only [fSetF] at h3
    split at h3 <;> try cases h3
    rename_i c' fus hS
    split at h3 <;> try cases h3
    have hc' : c' = c := by assumption
    subst hc'
    obtain ⟨a, ha, rfl⟩ := i2.of_ref
    obtain ⟨a', ha', dx, fs, hx, inf⟩ := sr2.get hS
    rw [ha] at ha'; cases ha'
    have ee : Ext X.K m2 H2 m2 (upd H2 a (.ins c'.C dx (putF f v1 fs))) := .of (sr2.keep ha _)
    have e12 := e1.trans e2
    exact ⟨a, _, dx, fs, rfl, hx, hcl, hna, inf.room, post m2 σ _ (e12.trans ee) (sr2.put ha ⟨dx, _, upd_same, (inf.put hi (i1.mono e2)).mono ee⟩) (lr.mono (e12.trans ee))⟩
  | _ => simp [fSetF] at h3
structure MHas (P : Program) (w : World) (K : PySem.W.Frag) (mg : Str → Option Value) (base : Heap) (c : Cl) (mn : Str) (k : Nat) (ps : List Str) (f : Fn) : Prop where
  ex : ∃ fa fd, Meth K c.C mn fa ∧ FnOk P w K mg base CX0 k fa fd ps (spOf K f) ∧ Binds K fd ps []
theorem MHas.mono {P : Program} {w : World} {mg : Str → Option Value} {base : Heap} {mn : Str} {j k : Nat} {ps : List Str} {f : Fn} (h : MHas P w K mg base c mn j ps f) (l : j ≤ k) : MHas P w K mg base c mn k ps f := by
  obtain ⟨fa, fd, a, b, d⟩ := h.ex
  exact ⟨fa, fd, a, b.mono l, d⟩
open Classical in
noncomputable def fMeth (c : Cl) (f : Fn) (x : U) (S : Sto) (args : Sto → Option (List U × Sto)) : Option (U × Sto) := match x with
  | .ref l => match S[l]? with
    | some (.ins c' _) => if c' = c then (args S).bind fun q => f (.ref l :: q.1) q.2 else none
    | _ => none
  | _ => none
noncomputable def cMeth (c : Cl) (f : Fn) (ca : CE) (cr : CA) : CE := fun ρ S => (ca ρ S).bind fun p => fMeth c f p.1 p.2 (cr ρ)
theorem meth_imp {mn : Str} {g : Fn} {co : CE} {cr : CA} (hmn : mn ∉ c.ns) : ∀ σ H Q, tE K (cMeth c g co cr) σ H Q → tMeth c.C mn (spOf K g) [] E0 (tE K co) (tA K cr) σ H Q := by
  rintro σ H Q ⟨m, ρ, S, u, S', sr, lr, hc, post⟩
  obtain ⟨⟨x, S1⟩, h1, h2⟩ := Option.bind_eq_some_iff.mp hc
  refine ⟨m, ρ, S, x, S1, sr, lr, h1, fun m1 v1 H1 e1 sr1 i1 => ?_⟩
  cases x with
  | ref l =>
    simp only [fMeth] at h2
    split at h2 <;> try cases h2
    rename_i c' fus hS
    split at h2 <;> try cases h2
    rename_i hc'
    subst hc'
    obtain ⟨⟨us, S2⟩, h3, h4⟩ := Option.bind_eq_some_iff.mp h2
    obtain ⟨a, ha, rfl⟩ := i1.of_ref
    obtain ⟨a', ha', dx, fs, hx, inf⟩ := sr1.get hS
    rw [ha] at ha'; cases ha'
    refine ⟨a, dx, fs, rfl, hx, inf.none_ hmn, m1, ρ, S1, us, S2, sr1, lr.mono e1, h3, fun m2 vs H2 e2 sr2 i2 => ?_⟩
    exact ⟨m2, _, S2, u, S', .cons_ (i1.mono e2) (by simpa using i2), sr2, h4, post.mono (e1.trans e2)⟩
  | _ => simp [fMeth] at h2
theorem q_meth {mn : Str} {g : Fn} {k : Nat} {ps : List Str} {o : Expr} {es : List Expr} {co : CE} {cr : CA} {apos : Pos} {pl : Sem Bool} (hcl : Cls X.K c.C) (F : MHas X.prog X.w X.K X.mg X.base c mn k ps g) (hr : Room k X.A) (hmn : mn ∉ c.ns) (ho : QE X o co) (ha : QA X (e :: es) cr)
    (hst : starEach (e :: es) X.env = (false, eval e X.env) :: starEach es X.env := by rfl) (hpl : (backTo pos (starEach es X.env)).any (·.1) = false := by rfl) (ht : eval (.Call (.Attribute o mn apos) (e :: es) [] pos) X.env = (do
      let ov ← eval o X.env
      standAt apos.atName
      let (f, first) ← holding [ov] (getMethod ov mn pl)
      callWith pos f first (backTo pos (starEach (e :: es) X.env)) (backToKw pos (keywordEach [] X.env))) := by rfl) : QE X (.Call (.Attribute o mn apos) (e :: es) [] pos) (cMeth c g co cr) := by
  obtain ⟨fa, fd, hm, F, hb⟩ := F.ex
  exact (wpe_meth ho hcl hm F hr hb .nil pass0 ha.h hst hpl ht).imp (meth_imp hmn)
theorem q_meth0 {mn : Str} {g : Fn} {k : Nat} {ps : List Str} {o : Expr} {co : CE} {apos : Pos} {pl : Sem Bool} (hcl : Cls X.K c.C) (F : MHas X.prog X.w X.K X.mg X.base c mn k ps g) (hr : Room k X.A) (hmn : mn ∉ c.ns) (ho : QE X o co)
    (ht : eval (.Call (.Attribute o mn apos) [] [] pos) X.env = (do
      let ov ← eval o X.env
      standAt apos.atName
      let (f, first) ← holding [ov] (getMethod ov mn pl)
      callWith pos f first (backTo pos (starEach [] X.env)) (backToKw pos (keywordEach [] X.env))) := by rfl) : QE X (.Call (.Attribute o mn apos) [] [] pos) (cMeth c g co cNil) := by
  obtain ⟨fa, fd, hm, F, hb⟩ := F.ex
  refine (wpe_meth0 ho hcl hm F hr hb .nil pass0 ht).imp fun σ H Q h => ?_
  obtain ⟨m, ρ, S, u, S', sr, lr, hc, k⟩ := meth_imp hmn σ H Q h
  refine ⟨m, ρ, S, u, S', sr, lr, hc, fun m1 v1 H1 e1 sr1 i1 => ?_⟩
  obtain ⟨a, dx, fs, h1, h2, h3, m2, ρ2, S2, us, S3, sr2, lr2, h4, h5⟩ := k m1 v1 H1 e1 sr1 i1
  cases h4
  exact ⟨a, dx, fs, h1, h2, h3, h5 m2 [] H1 .refl sr2 .nil_⟩
structure CMk (P : Program) (w : World) (K : PySem.W.Frag) (mg : Str → Option Value) (base : Heap) (c : Cl) (x : Str) (k : Nat) (ps : List Str) (f : Fn) : Prop where
  ex : ∃ fa fd, Mk K c.C fa ∧ FnOk P w K mg base CX0 k fa fd ps (spOf K f) ∧ Binds K fd ps [] ∧ mg x = some (.ref c.C)
  nd : c.ns.Nodup
  few : c.ns.length < 1000
theorem CMk.mono {P : Program} {w : World} {mg : Str → Option Value} {base : Heap} {x : Str} {j k : Nat} {ps : List Str} {f : Fn} (h : CMk P w K mg base c x j ps f) (l : j ≤ k) : CMk P w K mg base c x k ps f := by
  obtain ⟨fa, fd, a, b, d⟩ := h.ex
  exact ⟨⟨fa, fd, a, b.mono l, d⟩, h.nd, h.few⟩
def fMake (c : Cl) (f : Fn) : Fn := fun us S => (f (.ref S.length :: us) (S ++ [.ins c (List.replicate c.ns.length none)])).bind fun p => match p.1 with
  | .non => some (.ref S.length, p.2)
  | _ => none
theorem make_imp {g : Fn} {cr : CA} (nd : c.ns.Nodup) (few : c.ns.length < 1000) : ∀ σ H Q, tE K (cCB (fMake c g) cr) σ H Q → tMake c.C (spOf K g) [] E0 (tA K cr) σ H Q := by
  rintro σ H Q ⟨m, ρ, S, u, S', sr, lr, hc, post⟩
  obtain ⟨⟨us, S1⟩, h1, h2⟩ := Option.bind_eq_some_iff.mp hc
  obtain ⟨⟨w, S2⟩, h3, h4⟩ := Option.bind_eq_some_iff.mp h2
  refine ⟨m, ρ, S, us, S1, sr, lr, h1, fun m1 vs H1 e1 sr1 i1 x dx hx hdx ne => ?_⟩
  cases w with
  | non =>
    cases h4
    have s1 : Same H1 (upd H1 dx (.own x)) := same_new hdx _
    have hx2 : (upd H1 dx (.own x)) x = none := by rw [upd_ne (Ne.symm ne)]; exact hx
    have ee : Ext K m1 H1 (m1 ++ [x]) (upd (upd H1 dx (.own x)) x (.ins c.C dx [])) := .new fun b xs q => keep_new hx2 _ b xs (keep_same s1 b xs q)
    refine ⟨m1 ++ [x], .ref S1.length :: us, S1 ++ [.ins c (List.replicate c.ns.length none)], .non, S2, .cons_ (.ref_ (last_get sr1.len)) (by simpa using i1.mono ee), (sr1.same s1).new (o := .ins c (List.replicate c.ns.length none)) hx2 ⟨dx, [], upd_same, InF.new nd few⟩, h3, fun m2 v2 H2 e2 sr2 i2 => ⟨i2.of_non, ?_⟩⟩
    exact post m2 _ H2 ((e1.trans ee).trans e2) sr2 (.ref_ (e2.get (last_get sr1.len)))
  | _ => simp at h4
theorem q_make {x : Str} {g : Fn} {k : Nat} {ps : List Str} {es : List Expr} {cr : CA} {p : Pos} (M : CMk X.prog X.w X.K X.mg X.base c x k ps g) (hr : Room (k + 1) X.A) (hg : Gl X x) (ha : QA X (e :: es) cr)
    (hdb : (x == ("__debug__" : Str)) = false := by decide) (he : starEach (e :: es) X.env = (false, eval e X.env) :: starEach es X.env := by rfl) (hpl : (backTo pos (starEach es X.env)).any (·.1) = false := by rfl) : QE X (.Call (.Name x p) (e :: es) [] pos) (cCB (fMake c g) cr) := by
  obtain ⟨fa, fd, hm, F, hb, hx⟩ := M.ex
  exact (wpe_make hm F hr hg hx hb .nil pass0 ha.h hdb he hpl).imp (make_imp M.nd M.few)
def cDNew : CE := fun _ S => some (.ref S.length, S ++ [.dic []])
theorem q_dnew : QE X (.Dict [] [] pos) cDNew := wpe_dnewK.imp fun σ H Q ⟨m, ρ, S, u, S', sr, lr, hc, post⟩ => by
  cases hc
  exact fun p hp => post (m ++ [p]) _ _ (.new (keep_new hp _)) (sr.new hp ⟨[], upd_same, .nil_⟩) (.ref_ (last_get sr.len))
def cDGet (cd ck cx : CE) : CE := fun ρ S => (cd ρ S).bind fun p => match p.1 with
  | .ref l => match p.2[l]? with
    | some (.dic _) => (ck ρ p.2).bind fun q => (cx ρ q.2).bind fun r => match r.2[l]? with
      | some (.dic kus) => (keyU q.1).bind fun k => some ((valG kus k).getD r.1, r.2)
      | _ => none
    | _ => none
  | _ => none
end
end OP
set_option maxHeartbeats 1000000
namespace OP
open PySem PySem.Spec PyProof.Rows L2 OG
def rhoC (n : Nat) (caps : List Nat) (ρ : Rho) : Rho := List.replicate n none ++ caps.map fun i => (ρ[i]?).getD none
open Classical in
noncomputable def compU (ok : Sto → Prop) (g : CG) (ce : CE) (l : Nat) : List U → Rho → Sto → Option Sto
  | [], _, S => if ok S then some S else none
  | u :: us, ρ, S => if ok S then (g u ρ S).bind fun p => (ce p.1 p.2).bind fun r => match r.2[l]? with
    | some (.lst ys) => if ys.length < LIM then compU ok g ce l us p.1 (r.2.set l (.lst (ys ++ [r.1]))) else none
    | _ => none else none
noncomputable def cComp (ci : CI) (g : CG) (ce : CE) (n : Nat) (caps : List Nat) : CE := fun ρ S => (ci ρ S).bind fun p => (compU p.2.1 g ce p.2.2.length p.1 (rhoC n caps ρ) (p.2.2 ++ [.lst []])).bind fun S' => some (.ref p.2.2.length, S')
section
variable {X : Cx} {K : PySem.W.Frag}
theorem lr_comp {m : List Addr} {H : Hp} {ρ : Rho} {σ : L2.St} {n : Nat} {caps : List Nat} (lr : Lr K m H ρ σ) : Lr K m H (rhoC n caps ρ) (OG.stC n caps σ) := by
  refine ⟨by simp [rhoC, OG.stC], fun j u e => ?_⟩
  unfold rhoC at e
  unfold OG.stC
  by_cases c : j < n
  · rw [List.getElem?_append_left (by simpa using c), List.getElem?_replicate] at e
    split at e <;> cases e
  · rw [List.getElem?_append_right (by simp; omega), List.getElem?_map] at e ⊢
    simp only [List.length_replicate] at e ⊢
    cases q : caps[j - n]? with
    | none => rw [q] at e; simp at e
    | some i =>
      rw [q] at e
      simp only [Option.map_some, Option.some.injEq] at e ⊢
      have e2 : ρ[i]? = some (some u) := by
        cases z : ρ[i]? with
        | none => rw [z] at e; simp at e
        | some y => rw [z] at e; simp at e; rw [e]
      obtain ⟨v, h1, h2⟩ := lr.at_ i u e2
      exact ⟨v, by rw [h1]; rfl, h2⟩
theorem comp_imp {ci : CI} {g : CG} {ce : CE} {n : Nat} {caps : List Nat} : ∀ σ H Q, tE K (cComp ci g ce n caps) σ H Q → tComp (tI K ci) (tG K g) (tE K ce) n caps σ H Q := by
  rintro σ H Q ⟨m, ρ, S, u, S', sr, lr, hc, post⟩
  obtain ⟨⟨us, ok, S1⟩, h1, h2⟩ := Option.bind_eq_some_iff.mp hc
  obtain ⟨S2, h2, h3⟩ := Option.bind_eq_some_iff.mp h2
  cases h3
  refine ⟨m, ρ, S, us, ok, S1, sr, lr, h1, fun m1 H1 J e1 sr1 ito l hl => ?_⟩
  have ee : Ext K m1 H1 (m1 ++ [l]) (upd H1 l (.lst [])) := .new (keep_new hl _)
  let W : Nat → Nat → L2.St → Hp → Prop := fun i k σ2 H2 => k = us.length - i ∧ i ≤ us.length ∧ ∃ m2 ρ2 S2, Ext K (m1 ++ [l]) (upd H1 l (.lst [])) m2 H2 ∧ Sr K m2 S2 H2 ∧ Lr K m2 H2 ρ2 σ2 ∧ compU ok g ce S1.length (us.drop i) ρ2 S2 = some S'
  refine ⟨W, ⟨us.length, by simp, Nat.zero_le _, m1 ++ [l], rhoC n caps ρ, S1 ++ [.lst []], .refl, sr1.new (o := .lst []) hl ⟨[], upd_same, .nil_⟩, lr_comp (lr.mono (e1.trans ee)), by simpa using h2⟩, ?_⟩
  rintro i k σ2 H2 ⟨rfl, hi, m2, ρ2, S2, e2, sr2, lr2, hl2⟩
  by_cases hlt : i < us.length
  · have hu := List.getElem?_eq_getElem hlt
    rw [drop_cons hu] at hl2
    unfold compU at hl2
    split at hl2
    · rename_i hok
      obtain ⟨⟨ρ3, S3⟩, h3, hl2⟩ := Option.bind_eq_some_iff.mp hl2
      obtain ⟨⟨u4, S4⟩, h4, hl2⟩ := Option.bind_eq_some_iff.mp hl2
      simp only at hl2
      split at hl2 <;> try cases hl2
      rename_i ys hys
      split at hl2 <;> try cases hl2
      rename_i hlen
      obtain ⟨hgo, hy⟩ := (ito m2 S2 H2 i (ee.trans e2) sr2 hok).1 _ hu
      refine .inr ⟨hgo, W (i + 1) (us.length - (i + 1)), fun σ' H' w' => ⟨_, by omega, w'⟩, fun x H3 y => ?_⟩
      obtain ⟨e3, sr3, ix⟩ := hy x H3 y
      refine ⟨m2, ρ2, S2, _, ρ3, S3, sr3, lr2.mono e3, ix, h3, fun m4 σ4 H4 e4 sr4 lr4 => ⟨m4, ρ3, S3, u4, S4, sr4, lr4, h4, fun m5 v5 H5 e5 sr5 i5 => ?_⟩⟩
      obtain ⟨a', ha', xs, hx, il⟩ := sr5.get hys
      have ha : m5[S1.length]? = some l := (((e2.trans e3).trans e4).trans e5).get (last_get sr1.len)
      rw [ha] at ha'; cases ha'
      have eu : Ext K m5 H5 m5 (upd H5 l (.lst (xs ++ [v5]))) := .of (sr5.keep ha _)
      refine ⟨xs, hx, lim1 (by rw [il.length]; exact hlen), rfl, hlt, m5, ρ3, _, ((((e2.trans e3).trans e4).trans e5).trans eu), sr5.put (o := .lst (ys ++ [u4])) ha ⟨_, upd_same, (il.append (.cons_ i5 .nil_)).mono eu⟩, (lr4.mono (e5.trans eu)), hl2⟩
    · cases hl2
  · have e : i = us.length := by omega
    subst e
    rw [List.drop_length] at hl2
    unfold compU at hl2
    split at hl2
    · rename_i hok
      cases hl2
      exact .inl ⟨(ito m2 _ H2 _ (ee.trans e2) sr2 hok).2 (Nat.le_refl _), post m2 _ H2 ((e1.trans ee).trans e2) sr2 (.ref_ (e2.get (last_get sr1.len)))⟩
    · cases hl2
theorem q_comp {Nc capN tn : List Str} {scope : Scope} {cl : List (Str × Addr)} {n : Nat} {caps : List Nat} {tg iter elt : Expr} {pos : Pos} {ci : CI} {g : CG} {ce : CE}
    (hc : X.calm = true) (hi : QI X tg iter ci) (hg : ∀ s3 H3 fp, WG (cxC X Nc scope cl s3 H3 fp) tg (tG X.K g)) (he : ∀ s3 H3 fp, WE (cxC X Nc scope cl s3 H3 fp) elt (tE X.K ce))
    (hclos : closureFor scope X.env = pure cl) (hkind : scope.kind = .function) (hnl : ∀ x ∈ scope.names, x.2 = .local → scope.names.lookup x.1 = some .local) (hcell : ∀ x ∈ scope.names, x.2 ≠ .cell)
    (hcl : AllC X.env cl) (hhas : ((relabel scope X.env).names.all fun p => !(p.2 == .cell || p.2 == .free) || (cl.lookup p.1).isSome) = true)
    (hcap : Paired (Cap X scope cl) caps capN) (hN : Nc = tn ++ capN) (hn : tn.length = n)
    (hs : ∀ x, foldedSetIterable iter X.env x = pure x := by intro _; rfl) :
    QE X (.ListComp elt [⟨tg, iter, [], 0⟩] scope pos) (cComp ci g ce n caps) := (wpe_comp hc hi hg he hclos hkind hnl hcell hcl hhas hcap hN hn hs).imp comp_imp
def fLen : Fn
  | [.tup us], S => some (.int us.length, S)
  | [.ref l], S => match S[l]? with
    | some (.lst us) => some (.int us.length, S)
    | some (.dic us) => some (.int us.length, S)
    | _ => none
  | _, _ => none
abbrev rLen (K : PySem.W.Frag) : List V → Hp → VK → Prop := fun xs H Q => (∃ p ys, xs = [.ref p] ∧ (SqL K H p ys ∨ SqT K H p ys) ∧ Q (.int ys.length) H) ∨ ∃ a kvs, xs = [V.ref a] ∧ H a = some (.dK kvs) ∧ Q (.int kvs.length) H
theorem o_len : CallR X (.builtin "len") (rLen X.K) := call_len_seq.or call_lenD
theorem IsL.one {m : List Addr} {H : Hp} {vs : List V} {u : U} (h : IsL K m H vs [u]) : ∃ v, vs = [v] ∧ Is K m H v u := by
  obtain ⟨x, r, rfl, i, t⟩ := h.of_cons
  rw [t.of_nil]; exact ⟨x, rfl, i⟩
theorem IsL.two {m : List Addr} {H : Hp} {vs : List V} {u w : U} (h : IsL K m H vs [u, w]) : ∃ v x, vs = [v, x] ∧ Is K m H v u ∧ Is K m H x w := by
  obtain ⟨x, r, rfl, i, t⟩ := h.of_cons
  obtain ⟨y, rfl, j⟩ := t.one
  exact ⟨x, y, rfl, i, j⟩
theorem p_len : CallP K (rLen K) fLen := by
  intro m S H us vs u S' Q sr i hf post
  match us, hf with
  | [.tup ws], hf =>
    cases hf
    obtain ⟨v, rfl, iv⟩ := i.one
    obtain ⟨a, xs, rfl, sa, la⟩ := iv.of_tup
    exact .inl ⟨a, xs, rfl, .inr sa, by rw [la.length]; exact post m _ H .refl sr .int_⟩
  | [.ref l], hf =>
    obtain ⟨v, rfl, iv⟩ := i.one
    obtain ⟨a, ha, rfl⟩ := iv.of_ref
    simp only [fLen] at hf
    split at hf <;> try cases hf
    · rename_i ws hS
      obtain ⟨a', ha', xs, hx, la⟩ := sr.get hS
      rw [ha] at ha'; cases ha'
      exact .inl ⟨a, xs, rfl, .inl (SqL.of hx), by rw [la.length]; exact post m _ H .refl sr .int_⟩
    · rename_i ws hS
      obtain ⟨a', ha', xs, hx, la⟩ := sr.get hS
      rw [ha] at ha'; cases ha'
      exact .inr ⟨a, xs, rfl, hx, by rw [IsP.length la]; exact post m _ H .refl sr .int_⟩
def fList : Fn
  | [.tup us], S => some (.ref S.length, S ++ [.lst us])
  | [.ref l], S => match S[l]? with
    | some (.lst us) => some (.ref S.length, S ++ [.lst us])
    | _ => none
  | _, _ => none
theorem p_list : CallP K (fun xs H Q => ∃ p ys, xs = [.ref p] ∧ (SqL K H p ys ∨ SqT K H p ys) ∧ ∀ l, H l = none → Q (.ref l) (upd H l (.lst ys))) fList := by
  intro m S H us vs u S' Q sr i hf post
  match us, hf with
  | [.tup ws], hf =>
    cases hf
    obtain ⟨v, rfl, iv⟩ := i.one
    obtain ⟨a, xs, rfl, sa, la⟩ := iv.of_tup
    exact ⟨a, xs, rfl, .inr sa, fun l hl => post_lst sr la post hl⟩
  | [.ref l], hf =>
    obtain ⟨v, rfl, iv⟩ := i.one
    obtain ⟨a, ha, rfl⟩ := iv.of_ref
    simp only [fList] at hf
    split at hf <;> try cases hf
    rename_i ws hS
    obtain ⟨a', ha', xs, hx, la⟩ := sr.get hS
    rw [ha] at ha'; cases ha'
    exact ⟨a, xs, rfl, .inl (SqL.of hx), fun l hl => post_lst sr la post hl⟩
def fTuple : Fn
  | [.tup us], S => some (.tup us, S)
  | [.ref l], S => match S[l]? with
    | some (.lst us) => some (.tup us, S)
    | _ => none
  | _, _ => none
theorem p_tuple : CallP K (fun xs H Q => ∃ p ys, xs = [.ref p] ∧ ((SqL K H p ys ∧ ∀ l, H l = none → Q (.ref l) (upd H l (.tup ys))) ∨ (SqT K H p ys ∧ Q (.ref p) H))) fTuple := by
  intro m S H us vs u S' Q sr i hf post
  match us, hf with
  | [.tup ws], hf =>
    cases hf
    obtain ⟨v, rfl, iv⟩ := i.one
    obtain ⟨a, xs, rfl, sa, la⟩ := iv.of_tup
    exact ⟨a, xs, rfl, .inr ⟨sa, post m _ H .refl sr iv⟩⟩
  | [.ref l], hf =>
    obtain ⟨v, rfl, iv⟩ := i.one
    obtain ⟨a, ha, rfl⟩ := iv.of_ref
    simp only [fTuple] at hf
    split at hf <;> try cases hf
    rename_i ws hS
    obtain ⟨a', ha', xs, hx, la⟩ := sr.get hS
    rw [ha] at ha'; cases ha'
    exact ⟨a, xs, rfl, .inl ⟨SqL.of hx, fun l hl => post_tup sr la post hl⟩⟩
def fInt : Fn
  | [.int i], S => some (.int i, S)
  | [.bl b], S => some (.int (if b then 1 else 0), S)
  | _, _ => none
theorem p_int : CallP K (fun xs H Q => (∃ i, xs = [.int i] ∧ Q (.int i) H) ∨ ∃ k, xs = [.bl k] ∧ Q (.int (if k then 1 else 0)) H) fInt := by
  intro m S H us vs u S' Q sr i hf post
  match us, hf with
  | [.int j], hf =>
    cases hf
    obtain ⟨v, rfl, iv⟩ := i.one
    exact .inl ⟨j, by rw [iv.of_int], post m _ H .refl sr .int_⟩
  | [.bl j], hf =>
    cases hf
    obtain ⟨v, rfl, iv⟩ := i.one
    exact .inr ⟨j, by rw [iv.of_bl], post m _ H .refl sr .int_⟩
def fMin : Fn
  | [.int i, .int j], S => some (.int (if j < i then j else i), S)
  | _, _ => none
theorem p_min : CallP K (fun xs H Q => ∃ i j, xs = [.int i, .int j] ∧ Q (.int (if j < i then j else i)) H) fMin := by
  intro m S H us vs u S' Q sr i hf post
  match us, hf with
  | [.int j, .int k], hf =>
    cases hf
    obtain ⟨v, w, rfl, iv, iw⟩ := i.two
    exact ⟨j, k, by rw [iv.of_int, iw.of_int], post m _ H .refl sr .int_⟩
def intsU : List U → Option (List Int)
  | [] => some []
  | .int i :: r => (intsU r).map (i :: ·)
  | _ => none
theorem intsU_ok : ∀ {us : List U} {ns : List Int}, intsU us = some ns → us = ns.map U.int
  | [], ns, h => by cases h; rfl
  | u :: r, ns, h => by
    cases u <;> simp only [intsU] at h <;> try cases h
    obtain ⟨ms, e, h⟩ := Option.map_eq_some_iff.mp h
    subst h
    rw [intsU_ok e]; rfl
theorem intsU_map : ∀ (ns : List Int), intsU (ns.map U.int) = some ns
  | [] => rfl
  | n :: r => by simp [intsU, intsU_map r]
theorem IsL.ints {m : List Addr} {H : Hp} : ∀ {xs : List V} {ns : List Int}, IsL K m H xs (ns.map U.int) → xs = ns.map V.int
  | xs, [], h => h.of_nil
  | xs, n :: ns, h => by
    obtain ⟨x, r, rfl, i, t⟩ := h.of_cons
    rw [IsL.ints t, i.of_int]; rfl
theorem isL_ints {m : List Addr} {H : Hp} : ∀ (ns : List Int), IsL K m H (ns.map V.int) (ns.map U.int)
  | [] => .nil_
  | n :: ns => .cons_ .int_ (isL_ints ns)
inductive Ty where
  | non | bool | int | str | tuple | list | dict
def Ty.nm : Ty → String
  | .non => "NoneType" | .bool => "bool" | .int => "int" | .str => "str" | .tuple => "tuple" | .list => "list" | .dict => "dict"
def tyU : U → Sto → Option Ty
  | .non, _ => some .non | .bl _, _ => some .bool | .int _, _ => some .int | .str _, _ => some .str | .tup _, _ => some .tuple
  | .ref l, S => match S[l]? with
    | some (.lst _) => some .list
    | some (.dic _) => some .dict
    | _ => none
def subT : Ty → Ty → Bool
  | .non, .non => true | .bool, .bool => true | .bool, .int => true | .int, .int => true | .str, .str => true | .tuple, .tuple => true | .list, .list => true | .dict, .dict => true
  | _, _ => false
theorem kit_ty (a b : Ty) (hb : b ≠ .non) : PySem.W.kitOne K (.type a.nm) (.type b.nm) = some (subT a b) := by
  cases b <;> first | exact absurd rfl hb | (cases a <;> rfl)
abbrev rIsi (K : PySem.W.Frag) : List V → Hp → VK → Prop := fun xs H Q => (∃ (x : V) (T : String) (t : Value) (k : Bool), xs = [x, .ty T] ∧ TyOf K H x t ∧ PySem.W.kitOne K t (.type T) = some k ∧ Q (.bl k) H) ∨
  ∃ (a : Addr) (ys : List V) (T : String) (k : Bool), xs = [.ref a, .ty T] ∧ SqT K H a ys ∧ PySem.W.kitOne K (.type "tuple") (.type T) = some k ∧ Q (.bl k) H
theorem o_isi : CallR X (.builtin "isinstance") (rIsi X.K) := by
  refine call_isinst.or ?_
  rintro pins s σ H xs us Q I r ⟨a, ys, T, k, rfl, sq, e, q⟩
  obtain ⟨u, w', rfl, ru, rw'⟩ := vals2 r
  cases rw'
  cases ru
  obtain ⟨its, rv, ht, hz⟩ := I.tuple sq
  obtain ⟨o, h1, h2, _⟩ := ht
  exact PySem.W.kia_one PySem.W.kitx_tuple I.kIn ⟨o, h1, h2⟩ e (fun z => nomatch z) fun tk => ⟨.bl k, H, I.tok tk, rfl, q⟩
def cIsi (T : Ty) (ca : CE) : CE := fun ρ S => (ca ρ S).bind fun p => (tyU p.1 p.2).bind fun t => some (.bl (subT t T), p.2)
theorem q_isi {T : Ty} {e eT : Expr} {ca : CE} {p pos : Pos} (hT0 : T ≠ .non) (he : QE X e ca) (hT : WE X eT (tC (.ty T.nm))) (hg : Gl X "isinstance") (hm : X.mg "isinstance" = none)
    (h1 : starEach [e, eT] X.env = (false, eval e X.env) :: starEach [eT] X.env := by rfl) (h2 : starEach [eT] X.env = (false, eval eT X.env) :: starEach [] X.env := by rfl) (hpl : (backTo pos (starEach [eT] X.env)).any (·.1) = false := by rfl) :
    QE X (.Call (.Name "isinstance" p) [e, eT] [] pos) (cIsi T ca) := (wpe_callB o_isi hg hm OG.boot_isinstance (wpa_cons he (wpa_cons hT wpa_nil h2) h1) (by decide) (by decide) h1 hpl).imp fun σ H Q ⟨m, ρ, S, u, S', sr, lr, hc, post⟩ => by
  obtain ⟨⟨x, S1⟩, h1, h2⟩ := Option.bind_eq_some_iff.mp hc
  obtain ⟨t, ht, h3⟩ := Option.bind_eq_some_iff.mp h2
  cases h3
  refine ⟨m, ρ, S, x, _, sr, lr, h1, fun m1 v1 H1 e1 sr1 i1 => ?_⟩
  have fin := post m1 _ H1 e1 sr1 (Is.bl_ (b := subT t T))
  cases x with
  | non => cases ht; rw [i1.of_non]; exact .inl ⟨_, _, _, _, rfl, .non, kit_ty .non T hT0, fin⟩
  | bl b => cases ht; rw [i1.of_bl]; exact .inl ⟨_, _, _, _, rfl, .bl b, kit_ty .bool T hT0, fin⟩
  | int i => cases ht; rw [i1.of_int]; exact .inl ⟨_, _, _, _, rfl, .int i, kit_ty .int T hT0, fin⟩
  | str i => cases ht; rw [i1.of_str]; exact .inl ⟨_, _, _, _, rfl, .str i, kit_ty .str T hT0, fin⟩
  | tup us =>
    cases ht
    obtain ⟨a, xs, rfl, sa, la⟩ := i1.of_tup
    exact .inr ⟨a, xs, _, _, rfl, sa, kit_ty .tuple T hT0, fin⟩
  | ref l =>
    obtain ⟨a, ha, rfl⟩ := i1.of_ref
    simp only [tyU] at ht
    split at ht <;> try cases ht
    · rename_i ws hS
      obtain ⟨a', ha', xs, hx, la⟩ := sr1.get hS
      rw [ha] at ha'; cases ha'
      exact .inl ⟨_, _, _, _, rfl, .lst hx, kit_ty .list T hT0, fin⟩
    · rename_i ws hS
      obtain ⟨a', ha', xs, hx, la⟩ := sr1.get hS
      rw [ha] at ha'; cases ha'
      exact .inl ⟨_, _, _, _, rfl, .dK hx, kit_ty .dict T hT0, fin⟩
def cBM (f : U → List U → Sto → Option (U × Sto)) (co : CE) (cr : CA) : CE := fun ρ S => (co ρ S).bind fun p => match p.1 with
  | .ref l => match p.2[l]? with
    | some (.lst _) => (cr ρ p.2).bind fun q => f p.1 q.1 q.2
    | _ => none
  | _ => none
def MtP (K : PySem.W.Frag) (r : V → List V → Hp → VK → Prop) (f : U → List U → Sto → Option (U × Sto)) : Prop :=
  ∀ m S H x v us vs u S' Q, Sr K m S H → Is K m H v x → IsL K m H vs us → f x us S = some (u, S') → PostE K m H Q u S' → r v vs H Q
theorem bm_imp {r : V → List V → Hp → VK → Prop} {f : U → List U → Sto → Option (U × Sto)} {co : CE} {cr : CA} (hp : MtP K r f) : ∀ σ H Q, tE K (cBM f co cr) σ H Q → tBM K "list" r (tE K co) (tA K cr) σ H Q := by
  rintro σ H Q ⟨m, ρ, S, u, S', sr, lr, hc, post⟩
  obtain ⟨⟨x, S1⟩, h1, h2⟩ := Option.bind_eq_some_iff.mp hc
  refine ⟨m, ρ, S, x, S1, sr, lr, h1, fun m1 v1 H1 e1 sr1 i1 => ?_⟩
  cases x with
  | ref l =>
    simp only at h2
    split at h2 <;> try cases h2
    rename_i ws hS
    obtain ⟨⟨us, S2⟩, h3, h4⟩ := Option.bind_eq_some_iff.mp h2
    obtain ⟨a, ha, rfl⟩ := id i1.of_ref
    obtain ⟨a', ha', xs, hx, la⟩ := sr1.get hS
    rw [ha] at ha'; cases ha'
    exact ⟨.inl ⟨rfl, xs, SqL.of hx⟩, m1, ρ, S1, us, S2, sr1, lr.mono e1, h3, fun m2 vs H2 e2 sr2 i2 => hp m2 S2 H2 _ _ us vs u S' Q sr2 (i1.mono e2) i2 h4 (post.mono (e1.trans e2))⟩
  | _ => simp at h2
def fAppend : U → List U → Sto → Option (U × Sto)
  | .ref l, [u], S => match S[l]? with
    | some (.lst us) => if us.length < LIM then some (.non, S.set l (.lst (us ++ [u]))) else none
    | _ => none
  | _, _, _ => none
theorem p_append : MtP K rAppend fAppend := by
  intro m S H x v us vs u S' Q sr ix i hf post
  match x, us, hf with
  | .ref l, [w], hf =>
    simp only [fAppend] at hf
    split at hf <;> try cases hf
    rename_i ws hS
    split at hf <;> try cases hf
    rename_i hl
    obtain ⟨a, ha, rfl⟩ := ix.of_ref
    obtain ⟨a', ha', xs, hx, la⟩ := sr.get hS
    rw [ha] at ha'; cases ha'
    obtain ⟨y, rfl, iy⟩ := i.one
    have eu : Ext K m H m (upd H a (.lst (xs ++ [y]))) := .of (sr.keep ha _)
    exact ⟨a, xs, y, rfl, rfl, hx, lim1 (by rw [la.length]; exact hl), post m _ _ eu (sr.put ha ⟨_, upd_same, (la.append (.cons_ iy .nil_)).mono eu⟩) .non_⟩
variable {e : Expr} {es : List Expr} {co : CE} {cr : CA} {o : Expr} {apos cpos : Pos}
theorem q_append (ho : QE X o co) (ha : QA X (e :: es) cr) (hbase : attributeBase o "append" X.env (eval o X.env) = eval o X.env := by rfl) (hfew : ((backTo cpos (starEach (e :: es) X.env)).all (fun x => !x.1) && (backToKw cpos (keywordEach [] X.env)).all (fun x => x.1.isSome)
      && decide ((e :: es).length + ([] : List Keyword).length + (if ([] : List Keyword).isEmpty then 0 else 1) < 30)) = true := by rfl) (hline : (apos.endLine == cpos.line) = true := by rfl) (hs : starEach (e :: es) X.env = (false, eval e X.env) :: starEach es X.env := by rfl) (hplain : (backTo cpos (starEach es X.env)).any (·.1) = false := by rfl) :
    QE X (.Call (.Attribute o "append" apos) (e :: es) [] cpos) (cBM fAppend co cr) := (wpe_bm PySem.F.plainAttrs_list PySem.F.slot_list_append PySem.F.type_list_append mt_append ho ha.h hbase hfew hline hs hplain).imp (bm_imp p_append)
end
end OP
namespace OP
open PySem PySem.Spec PyProof.Rows L2 OG
structure TC (K : PySem.W.Frag) (c : Cl) (NS : List Str) : Prop where
  cl : Cls K c.C
  ns : c.ns = NS
  nas : ∀ f ∈ NS, NoAttr K c.C f
section
variable {K : PySem.W.Frag} {c : Cl} {NS : List Str}
theorem TC.ix (T : TC K c NS) {i : Nat} {f : Str} (h : NS[i]? = some f) : c.ns[i]? = some f := by rw [T.ns]; exact h
theorem TC.na (T : TC K c NS) (i : Nat) {f : Str} (h : NS[i]? = some f) : NoAttr K c.C f := T.nas f (List.mem_of_getElem? h)
theorem TC.nm (T : TC K c NS) {f : Str} (h : f ∉ NS) : f ∉ c.ns := by rw [T.ns]; exact h
end
theorem _root_.L2.Fun.pure {P : Program} {w : World} {K : PySem.W.Frag} {mg : Str → Option Value} {base : Heap} {x qual : Str} {st : Stmt} {f : Addr} {fd : FuncData} {N ps : List Str} {k : Nat} {c : CS} (F : Fun K x qual st f fd) (S : FnScope N ps (defScope st))
    (hb : ∀ (cdv : Value) (A : Around) (outer : List Env) (s : Shared) (H : Hp) (E : XK), Room k (A.deeper (envOfC qual (defScope st) s.heap.objs.size f cdv)) →
      WSs (cxOf CX0 P w K mg base N qual (defScope st) f cdv A outer s H E).nox (defBody st) (tS K c)) : FnOk P w K mg base CX0 (k + 1) f fd ps (spOf K (fnU N.length ps.length c)) :=
  Fun.okW F S (fun vs H Q E h => spOf_len h) fun cdv A outer s H vs Q E hr h => ⟨_, hb cdv A outer s H E hr, fn_body (X := (cxOf CX0 P w K mg base N qual (defScope st) f cdv A outer s H E).nox) (body := []) (ps := ps) rfl h⟩
end OP
set_option maxHeartbeats 1000000
namespace OP
open PySem PySem.Spec PyProof.Rows L2 OG
def SI : Bool → Heap → Addr → Addr → Nat → Prop
  | true, h, it, a, i => h.IsListIter it a i
  | false, h, it, a, i => h.IsTupleIter it a i
def SA : Bool → Heap → Addr → Array Value → Prop
  | true, h, a, xs => h.IsList a xs
  | false, h, a, xs => h.IsTuple a xs
theorem SI.at_ {b : Bool} {h h' : Heap} {it a : Addr} {i : Nat} (x : SI b h it a i) (k : ∀ o, h.get? it = some o → h'.get? it = some o) : SI b h' it a i := by
  cases b with
  | true => obtain ⟨o, e, r⟩ := x; exact ⟨o, k o e, r⟩
  | false => obtain ⟨o, e, r⟩ := x; exact ⟨o, k o e, r⟩
theorem SA.at_ {b : Bool} {h h' : Heap} {a : Addr} {xs : Array Value} (x : SA b h a xs) (k : ∀ o, h.get? a = some o → h'.get? a = some o) : SA b h' a xs := by
  cases b with
  | true => obtain ⟨o, e, r⟩ := x; exact ⟨o, k o e, r⟩
  | false => obtain ⟨o, e, r⟩ := x; exact ⟨o, k o e, r⟩
theorem SI.obj {b : Bool} {h : Heap} {it a : Addr} {i : Nat} (x : SI b h it a i) : ∃ o, h.get? it = some o ∧ ∀ v, o.data ≠ .cell v := by
  cases b with
  | true => obtain ⟨o, e, c, d⟩ := x; exact ⟨o, e, fun v z => by rw [d] at z; cases z⟩
  | false => obtain ⟨o, e, c, d⟩ := x; exact ⟨o, e, fun v z => by rw [d] at z; cases z⟩
theorem SA.lt {b : Bool} {h : Heap} {a : Addr} {xs : Array Value} (x : SA b h a xs) : a < h.objs.size := by
  cases b with
  | true => obtain ⟨o, e, _⟩ := x; exact Heap.lt_size e
  | false => obtain ⟨o, e, _⟩ := x; exact Heap.lt_size e
section
variable {prog : Program} {w : World} {A : Around} {E : Value → Shared → Prop} {s : Shared}
theorem tup_draw {I t : Addr} {j : Nat} {ys : Array Value} {y : Value} {Q : Value → Shared → Prop} (hI : s.heap.IsTupleIter I t j) (hT : s.heap.IsTuple t ys) (hy : ys[j]? = some y)
    (k : ∀ h', h'.IsTupleIter I t (j + 1) → Heap.SameBut I s.heap h' → Q y { s with heap := h' }) : wpAny (model prog w) A (Builtin.SmallTypes.nextOf (.ref I)) Q E s := by
  obtain ⟨oi, gi, ci, di⟩ := id hI
  obtain ⟨ot, gt, _, nt, dt⟩ := hT
  unfold Builtin.SmallTypes.nextOf
  refine wpAny_bind (wpAny_callSpecial?_slot (name := Str.ofString "__next__") hI.typeIs PySem.F.slot_tuple_iterator_next (wpAny_call_entry PySem.F.slot_tuple_iterator_next hI.typeIs PySem.F.entry_tuple_iterator_next ?_ (PySem.F.args_tuple_iterator_next_1 _)))
  show wpAny _ _ (field (.ref I) 0 >>= _) _ _ s
  refine wpAny_bind (wpAny_field gi di (x := .ref t) rfl ?_)
  show wpAny _ _ (ite ((Value.ref t == Value.none) = true) _ _) _ _ s
  rw [if_neg (by exact Bool.false_ne_true)]
  show wpAny _ _ (field (.ref I) 1 >>= _) _ _ s
  refine wpAny_bind (wpAny_field gi di (x := .int j 0) rfl ?_)
  show wpAny _ _ (seqItems? (.ref t) >>= _) _ _ s
  refine wpAny_bind (wpAny_seqItems gt dt ?_)
  simp only [hy, Int.toNat_natCast]
  refine wpAny_bind (wpAny_setField gi di (by simp) (wpAny_pure ⟨y, rfl, wpAny_pure (k _ ⟨_, Heap.get?_update_self _ gi (Obj.isFreed_of_fields (Obj.data_mapFields di _)), (Obj.cls_mapFields ..).trans ci, ?_⟩ (Heap.SameBut.update ..))⟩))
  rw [Obj.data_mapFields di]; simp [rawInt]
theorem tup_draw_end {I t : Addr} {j : Nat} {ys : Array Value} {Q : Value → Shared → Prop} (hh : A.handled = none) (hI : s.heap.IsTupleIter I t j) (hT : s.heap.IsTuple t ys) (hy : ys[j]? = none)
    (k : ∀ h' e, Heap.ExtBut I s.heap h' → (∃ o, h'.get? e = some o ∧ o.cls = .type "StopIteration") → E (.ref e) { s with heap := h' }) : wpAny (model prog w) A (Builtin.SmallTypes.nextOf (.ref I)) Q E s := by
  obtain ⟨oi, gi, ci, di⟩ := id hI
  obtain ⟨ot, gt, _, nt, dt⟩ := hT
  unfold Builtin.SmallTypes.nextOf
  refine wpAny_bind (wpAny_callSpecial?_slot (name := Str.ofString "__next__") hI.typeIs PySem.F.slot_tuple_iterator_next (wpAny_call_entry PySem.F.slot_tuple_iterator_next hI.typeIs PySem.F.entry_tuple_iterator_next ?_ (PySem.F.args_tuple_iterator_next_1 _)))
  show wpAny _ _ (field (.ref I) 0 >>= _) _ _ s
  refine wpAny_bind (wpAny_field gi di (x := .ref t) rfl ?_)
  show wpAny _ _ (ite ((Value.ref t == Value.none) = true) _ _) _ _ s
  rw [if_neg (by exact Bool.false_ne_true)]
  show wpAny _ _ (field (.ref I) 1 >>= _) _ _ s
  refine wpAny_bind (wpAny_field gi di (x := .int j 0) rfl ?_)
  show wpAny _ _ (seqItems? (.ref t) >>= _) _ _ s
  refine wpAny_bind (wpAny_seqItems gt dt ?_)
  simp only [hy, Int.toNat_natCast]
  refine wpAny_bind (wpAny_rule (wpAny_bind (wpAny_setField gi di (by simp) ?_)))
  show wpAny _ _ (newExc (.type "StopIteration") [] >>= _) _ _ _
  simp only [newExc, newTuple]; refine wpAny_bind ?_
  refine wpAny_bind (wpAny_newObj_type ?_ (by (size_fits)))
  refine wpAny_bind (m := firstArgMember _ _) (wpAny_of_eq (a := Value.none) (by simp only [firstArgMember] <;> rfl) ?_)
  refine wpAny_newObj_type ?_ (by (size_fits))
  simp only [raiseNew]
  refine wpAny_bind (wpAny_handled ?_)
  rw [show A.in1.handled = none from hh]
  exact wpAny_bind (wpAny_pure (wpAny_throw (k _ _ (((Heap.SameBut.update ..).extBut.push _).push _) ⟨_, Heap.get?_push_size _ rfl, rfl⟩)))
theorem sq_draw {b : Bool} {I t : Addr} {j : Nat} {ys : Array Value} {y : Value} {Q : Value → Shared → Prop} (hI : SI b s.heap I t j) (hT : SA b s.heap t ys) (hy : ys[j]? = some y)
    (k : ∀ h', SI b h' I t (j + 1) → Heap.SameBut I s.heap h' → Q y { s with heap := h' }) : wpAny (model prog w) A (Builtin.SmallTypes.nextOf (.ref I)) Q E s := by
  cases b with
  | true => exact wpAny_nextOf_list_item hI hT hy k
  | false => exact tup_draw hI hT hy k
theorem sq_draw_end {b : Bool} {I t : Addr} {j : Nat} {ys : Array Value} {Q : Value → Shared → Prop} (hh : A.handled = none) (hI : SI b s.heap I t j) (hT : SA b s.heap t ys) (hy : ys[j]? = none)
    (k : ∀ h' e, Heap.ExtBut I s.heap h' → (∃ o, h'.get? e = some o ∧ o.cls = .type "StopIteration") → E (.ref e) { s with heap := h' }) : wpAny (model prog w) A (Builtin.SmallTypes.nextOf (.ref I)) Q E s := by
  cases b with
  | true => exact wpAny_nextOf_list_end hh hI hT hy k
  | false => exact tup_draw_end hh hI hT hy k
structure ZA (z I O i j a c : Addr) : Prop where
  Iz : I ≠ z
  Oz : O ≠ z
  iz : i ≠ z
  jz : j ≠ z
  IO : I ≠ O
  Ii : I ≠ i
  Ij : I ≠ j
  Oi : O ≠ i
  Oj : O ≠ j
  ij : i ≠ j
  az : a ≠ z
  aO : a ≠ O
  ai : a ≠ i
  aj : a ≠ j
  cz : c ≠ z
  cO : c ≠ O
  ci : c ≠ i
  cj : c ≠ j
structure ZSt (b d : Bool) (h : Heap) (z I O i j a c : Addr) (f : Value) (n : Nat) : Prop where
  hz : IsZip h z I O f
  hI : IsPair h I (.ref i) (.ref j)
  hO : ∃ p q, IsPair h O p q
  h1 : SI b h i a n
  h2 : SI d h j c n
theorem ZSt.at_ {b d : Bool} {h h' : Heap} {z I O i j a c : Addr} {f : Value} {n : Nat} (x : ZSt b d h z I O i j a c f n) (k : ∀ e ∈ [z, I, O, i, j], ∀ o, h.get? e = some o → h'.get? e = some o) : ZSt b d h' z I O i j a c f n := by
  obtain ⟨p, q, hO⟩ := x.hO
  exact ⟨k z (by simp) _ x.hz, k I (by simp) _ x.hI, ⟨p, q, k O (by simp) _ hO⟩, x.h1.at_ fun o e => k i (by simp) o e, x.h2.at_ fun o e => k j (by simp) o e⟩
theorem zip_turn {b d : Bool} {z I O i j a c : Addr} {n : Nat} {xs ys : Array Value} {x y : Value} {Q : Value → Shared → Prop} (D : ZA z I O i j a c) (st : ZSt b d s.heap z I O i j a c .none n) (ha : SA b s.heap a xs) (hc : SA d s.heap c ys) (hx : xs[n]? = some x) (hy : ys[n]? = some y)
    (k : ∀ h', ZSt b d h' z I O i j a c (rawInt s.heap.objs.size) (n + 1) → IsPair h' s.heap.objs.size x y →
      (∀ e o, e ≠ z → e ≠ O → e ≠ i → e ≠ j → s.heap.get? e = some o → h'.get? e = some o) → Q (.ref s.heap.objs.size) { s with heap := h' }) :
    wpAny (model prog w) A (Builtin.«zip.__next__» ⟨[.ref z], []⟩) (fun fin s' => ∃ v, fin = .done (.ret v) ∧ Q v s') E s := by
  obtain ⟨hz, hI, ⟨p, q, hO⟩, h1, h2⟩ := st
  show wpAny _ _ (field (.ref z) 2 >>= _) _ _ _
  refine wpAny_bind (wpAny_field hz rfl (x := .bool false) rfl ?_)
  show wpAny _ _ (field (.ref z) 3 >>= _) _ _ _
  refine wpAny_bind (wpAny_field hz rfl (x := .ref I) rfl ?_)
  refine wpAny_bind (wpAny_seqItems hI rfl ?_)
  show wpAny _ _ (Builtin.SmallTypes.ownedTupleIsFree (.ref z) >>= _) _ _ _
  refine wpAny_bind ?_
  unfold Builtin.SmallTypes.ownedTupleIsFree
  refine wpAny_bind (wpAny_field hz rfl (x := .none) rfl (wpAny_pure ?_))
  simp only [if_true]
  refine wpAny_bind (wpAny_rule (wpAny_bind (wpAny_field hz rfl (x := .ref O) rfl (wpAny_bind (wpAny_setField_rec hz (by simp) fun g1 z1 s1 => wpAny_bind ?_)))))
  replace z1 : IsZip g1 z I O .ellipsis := z1
  simp only [List.zipIdx_nil, List.zipIdx_cons, List.forIn_nil, List.forIn_cons]
  refine wpAny_bind (wpAny_bind (wpAny_onRaise ?_))
  show wpAny _ _ (Builtin.SmallTypes.nextOf (.ref i) >>= _) _ _ _
  refine wpAny_bind (sq_draw (b := b) (h1.at_ fun o e => s1.extBut _ _ D.iz e) (ha.at_ fun o e => s1.extBut _ _ D.az e) hx fun g2 i2 s2 => wpAny_pure ?_)
  have O2 : IsPair g2 O p q := s2.extBut _ _ D.Oi (s1.extBut _ _ D.Oz hO)
  refine wpAny_bind (wpAny_seqItems O2 rfl (wpAny_bind (wpAny_updateSeq_pair O2 fun g3 O3 s3 => ?_)))
  replace O3 : IsPair g3 O x q := O3
  refine wpAny_bind (wpAny_letGo (wpAny_pure (wpAny_bind (wpAny_bind (wpAny_onRaise ?_)))))
  show wpAny _ _ (Builtin.SmallTypes.nextOf (.ref j) >>= _) _ _ _
  have up3 : ∀ e o, e ≠ z → e ≠ i → e ≠ O → s.heap.get? e = some o → g3.get? e = some o := fun e o u1 u2 u3 q => s3.extBut _ _ u3 (s2.extBut _ _ u2 (s1.extBut _ _ u1 q))
  refine wpAny_bind (sq_draw (b := d) (h2.at_ fun o e => up3 _ _ D.jz D.ij.symm D.Oj.symm e) (hc.at_ fun o e => up3 _ _ D.cz D.ci D.cO e) hy fun g4 j4 s4 => wpAny_pure ?_)
  have O4 : IsPair g4 O x q := s4.extBut _ _ D.Oj O3
  refine wpAny_bind (wpAny_seqItems O4 rfl (wpAny_bind (wpAny_updateSeq_pair O4 fun g5 O5 s5 => ?_)))
  replace O5 : IsPair g5 O x y := O5
  refine wpAny_bind (wpAny_letGo (wpAny_pure (wpAny_pure (wpAny_bind (wpAny_seqItems O5 rfl (wpAny_bind (wpAny_newTuple ?_)))))))
  have sz : g5.objs.size = s.heap.objs.size := by rw [s5.1, s4.1, s3.1, s2.1, s1.1]
  have z5 : IsZip g5 z I O .ellipsis := s5.extBut _ _ D.Oz.symm (s4.extBut _ _ D.jz.symm (s3.extBut _ _ D.Oz.symm (s2.extBut _ _ D.iz.symm z1)))
  have up5 : ∀ e o, e ≠ z → e ≠ O → e ≠ i → e ≠ j → s.heap.get? e = some o → g5.get? e = some o := fun e o u1 u2 u3 u4 q => s5.extBut _ _ u2 (s4.extBut _ _ u4 (up3 e o u1 u3 u2 q))
  have i5 : SI b g5 i a (n + 1) := i2.at_ fun o e => s5.extBut _ _ D.Oi.symm (s4.extBut _ _ D.ij (s3.extBut _ _ D.Oi.symm e))
  have j5 : SI d g5 j c (n + 1) := j4.at_ fun o e => s5.extBut _ _ D.Oj.symm e
  have zlt : z < g5.objs.size := Heap.lt_size z5
  show wpAny _ _ (Builtin.SmallTypes.ownedTupleHandOut (.ref z) (.ref g5.objs.size) >>= _) _ _ _
  refine wpAny_bind ?_
  unfold Builtin.SmallTypes.ownedTupleHandOut
  have z6 : IsZip (g5.push { cls := .type "tuple", data := .seq #[x, y] }) z I O .ellipsis := Heap.get?_push_of_some _ z5
  refine wpAny_bind (wpAny_setField_rec z6 (by simp) fun g7 z7 s7 => ?_)
  replace z7 : IsZip g7 z I O (rawInt g5.objs.size) := z7
  refine wpAny_setField_rec z7 (by simp) fun g8 z8 s8 => ?_
  replace z8 : IsZip g8 z I O (rawInt g5.objs.size) := z8
  have up8 : ∀ e o, e ≠ z → g5.get? e = some o → g8.get? e = some o := fun e o u1 q => s8.extBut _ _ u1 (s7.extBut _ _ u1 (Heap.get?_push_of_some _ q))
  have T8 : IsPair g8 g5.objs.size x y := s8.extBut _ _ (Nat.ne_of_gt zlt) (s7.extBut _ _ (Nat.ne_of_gt zlt) (Heap.get?_push_size _ rfl))
  rw [sz] at z8 T8
  refine wpAny_pure ⟨_, rfl, ?_⟩
  show Q (.ref g5.objs.size) _
  rw [sz]
  exact k g8 ⟨z8, up8 _ _ D.Iz (up5 _ _ D.Iz D.IO D.Ii D.Ij hI), ⟨x, y, up8 _ _ D.Oz O5⟩, i5.at_ fun o e => up8 _ _ D.iz e, j5.at_ fun o e => up8 _ _ D.jz e⟩ T8 fun e o u1 u2 u3 u4 q => up8 e o u1 (up5 e o u1 u2 u3 u4 q)
theorem zip_stop {b d : Bool} {z I O i j a c : Addr} {n : Nat} {xs ys : Array Value} {Q : PySem.Fin → Shared → Prop} (hh : A.handled = none) (D : ZA z I O i j a c) (st : ZSt b d s.heap z I O i j a c .none n) (ha : SA b s.heap a xs) (hc : SA d s.heap c ys) (hn : xs[n]? = none ∨ ys[n]? = none)
    (k : ∀ h' e, (∀ c o, c ≠ z → c ≠ O → c ≠ i → c ≠ j → s.heap.get? c = some o → h'.get? c = some o) → (∃ o, h'.get? e = some o ∧ o.cls = .type "StopIteration") → E (.ref e) { s with heap := h' }) :
    wpAny (model prog w) A (Builtin.«zip.__next__» ⟨[.ref z], []⟩) Q E s := by
  obtain ⟨hz, hI, ⟨p, q, hO⟩, h1, h2⟩ := st
  show wpAny _ _ (field (.ref z) 2 >>= _) _ _ _
  refine wpAny_bind (wpAny_field hz rfl (x := .bool false) rfl ?_)
  show wpAny _ _ (field (.ref z) 3 >>= _) _ _ _
  refine wpAny_bind (wpAny_field hz rfl (x := .ref I) rfl ?_)
  refine wpAny_bind (wpAny_seqItems hI rfl ?_)
  show wpAny _ _ (Builtin.SmallTypes.ownedTupleIsFree (.ref z) >>= _) _ _ _
  refine wpAny_bind ?_
  unfold Builtin.SmallTypes.ownedTupleIsFree
  refine wpAny_bind (wpAny_field hz rfl (x := .none) rfl (wpAny_pure ?_))
  simp only [if_true]
  refine wpAny_bind (wpAny_rule (wpAny_bind (wpAny_field hz rfl (x := .ref O) rfl (wpAny_bind (wpAny_setField_rec hz (by simp) fun g1 z1 s1 => wpAny_bind ?_)))))
  replace z1 : IsZip g1 z I O .ellipsis := z1
  simp only [List.zipIdx_nil, List.zipIdx_cons, List.forIn_nil, List.forIn_cons]
  refine wpAny_bind (wpAny_bind (wpAny_onRaise ?_))
  show wpAny _ _ (Builtin.SmallTypes.nextOf (.ref i) >>= _) _ _ _
  cases hx : xs[n]? with
  | none =>
    refine wpAny_bind (sq_draw_end (b := b) hh (h1.at_ fun o e => s1.extBut _ _ D.iz e) (ha.at_ fun o e => s1.extBut _ _ D.az e) hx fun g2 e s2 he => ?_)
    obtain ⟨oe, ge, ce⟩ := he
    have z2 : IsZip g2 z I O .ellipsis := s2 _ _ D.iz.symm z1
    have nez : e ≠ z := fun v => by subst v; rw [z2] at ge; cases ge; simp at ce
    exact wpAny_setField_rec z2 (by simp) fun g3 _ s3 => k g3 e (fun c o u1 _ u3 _ v => s3.extBut _ _ u1 (s2 _ _ u3 (s1.extBut _ _ u1 v))) ⟨oe, s3.extBut _ _ nez ge, ce⟩
  | some x =>
    have hy : ys[n]? = none := by rcases hn with v | v; rw [hx] at v; cases v; exact v
    refine wpAny_bind (sq_draw (b := b) (h1.at_ fun o e => s1.extBut _ _ D.iz e) (ha.at_ fun o e => s1.extBut _ _ D.az e) hx fun g2 i2 s2 => wpAny_pure ?_)
    have O2 : IsPair g2 O p q := s2.extBut _ _ D.Oi (s1.extBut _ _ D.Oz hO)
    refine wpAny_bind (wpAny_seqItems O2 rfl (wpAny_bind (wpAny_updateSeq_pair O2 fun g3 O3 s3 => ?_)))
    refine wpAny_bind (wpAny_letGo (wpAny_pure (wpAny_bind (wpAny_bind (wpAny_onRaise ?_)))))
    show wpAny _ _ (Builtin.SmallTypes.nextOf (.ref j) >>= _) _ _ _
    have up3 : ∀ e o, e ≠ z → e ≠ i → e ≠ O → s.heap.get? e = some o → g3.get? e = some o := fun e o u1 u2 u3 q => s3.extBut _ _ u3 (s2.extBut _ _ u2 (s1.extBut _ _ u1 q))
    refine wpAny_bind (sq_draw_end (b := d) hh (h2.at_ fun o e => up3 _ _ D.jz D.ij.symm D.Oj.symm e) (hc.at_ fun o e => up3 _ _ D.cz D.ci D.cO e) hy fun g4 e s4 he => ?_)
    obtain ⟨oe, ge, ce⟩ := he
    have z4 : IsZip g4 z I O .ellipsis := s4 _ _ D.jz.symm (s3.extBut _ _ D.Oz.symm (s2.extBut _ _ D.iz.symm z1))
    have nez : e ≠ z := fun v => by subst v; rw [z4] at ge; cases ge; simp at ce
    exact wpAny_setField_rec z4 (by simp) fun g5 _ s5 => k g5 e (fun c o u1 u2 u3 u4 v => s5.extBut _ _ u1 (s4 _ _ u4 (up3 c o u1 u3 u2 v))) ⟨oe, s5.extBut _ _ nez ge, ce⟩
theorem zip_next {b d : Bool} {z I O i j a c : Addr} {n : Nat} {xs ys : Array Value} {x y : Value} {Q : Option Value → Shared → Prop} (D : ZA z I O i j a c) (st : ZSt b d s.heap z I O i j a c .none n) (ha : SA b s.heap a xs) (hc : SA d s.heap c ys) (hx : xs[n]? = some x) (hy : ys[n]? = some y)
    (k : ∀ h', ZSt b d h' z I O i j a c (rawInt s.heap.objs.size) (n + 1) → IsPair h' s.heap.objs.size x y →
      (∀ e o, e ≠ z → e ≠ O → e ≠ i → e ≠ j → s.heap.get? e = some o → h'.get? e = some o) → Q (some (.ref s.heap.objs.size)) { s with heap := h' }) : wpAny (model prog w) A (pyNext (.ref z)) Q E s := by
  have ty : s.TypeIs (.ref z) "zip" := ⟨_, st.hz, rfl⟩
  unfold pyNext
  exact wpAny_bind (wpAny_attempt (wpAny_callSpecial?_slot (name := Str.ofString "__next__") ty PySem.F.slot_zip_next (wpAny_call_entry PySem.F.slot_zip_next ty PySem.F.entry_zip_next
      (zip_turn D st ha hc hx hy fun h' a1 a2 a3 => wpAny_pure (k h' a1 a2 a3)) (PySem.F.args_zip_next_1 _))))
theorem zip_end {b d : Bool} {z I O i j a c : Addr} {n : Nat} {xs ys : Array Value} {Q : Option Value → Shared → Prop} (hh : A.handled = none) (D : ZA z I O i j a c) (st : ZSt b d s.heap z I O i j a c .none n) (ha : SA b s.heap a xs) (hc : SA d s.heap c ys) (hn : xs[n]? = none ∨ ys[n]? = none)
    (k : ∀ h', (∀ c o, c ≠ z → c ≠ O → c ≠ i → c ≠ j → s.heap.get? c = some o → h'.get? c = some o) → Q none { s with heap := h' }) : wpAny (model prog w) A (pyNext (.ref z)) Q E s := by
  have ty : s.TypeIs (.ref z) "zip" := ⟨_, st.hz, rfl⟩
  unfold pyNext
  refine wpAny_bind (wpAny_attempt (wpAny_callSpecial?_slot (name := Str.ofString "__next__") ty PySem.F.slot_zip_next (wpAny_call_entry PySem.F.slot_zip_next ty PySem.F.entry_zip_next
      (zip_stop hh D st ha hc hn fun h' e hk he => ?_) (PySem.F.args_zip_next_1 _))))
  obtain ⟨o, ho, co⟩ := he
  exact wpAny_bind (wpAny_isInstance (T := "StopIteration") (b := true) ⟨o, ho, co⟩ isSubtype_stop (wpAny_pure (k _ hk)))
def itO (b : Bool) (a : Addr) : Obj := { cls := .type (if b then "list_iterator" else "tuple_iterator"), data := .fields #[.ref a, .int 0 0] }
abbrev zG2 (b d : Bool) (h : Heap) (a c : Addr) : Heap := (h.push (itO b a)).push (itO d c)
abbrev zG4 (b d : Bool) (h : Heap) (a c : Addr) : Heap := ((zG2 b d h a c).push { cls := .type "tuple", data := .seq #[.ref h.objs.size, .ref (h.push (itO b a)).objs.size] }).push { cls := .type "tuple", data := .seq #[.none, .none] }
abbrev zG5 (b d : Bool) (h : Heap) (a c : Addr) : Heap := (zG4 b d h a c).push { cls := .type "zip", data := .fields #[.none, .bool false, .bool false, .ref (zG2 b d h a c).objs.size, .ref ((zG2 b d h a c).push { cls := .type "tuple", data := .seq #[.ref h.objs.size, .ref (h.push (itO b a)).objs.size] }).objs.size] }
theorem zip_new (b d : Bool) (a c : Addr) (xs ys : Array Value) : Meets (Builtin.«zip.__new__» ⟨[.type "zip", .ref a, .ref c], []⟩) (fun _ R s => SA b s.heap a xs ∧ SA d s.heap c ys ∧
      R (.ok (.ret (.ref (zG4 b d s.heap a c).objs.size))) { s with heap := zG5 b d s.heap a c }) :=
  .of_wp fun prog w A R s q => by
    obtain ⟨hp, g, dr, tk, os⟩ := s
    obtain ⟨p1, p2, q⟩ := q
    have sb := sub_zip
    cases b <;> cases d
    · have e1 : Heap.IsTuple (Shared.heap ⟨hp, g, dr, tk, os⟩) a xs := p1
      have e2 : Heap.IsTuple (Shared.heap ⟨hp.push { cls := .type "tuple_iterator", data := .fields #[.ref a, .int 0 0] }, g, dr, tk, os⟩) c ys := SA.at_ (b := false) p2 fun o e => Heap.get?_push_of_some _ e
      wp_walk using wpAny_pyIter_tuple e1, wpAny_pyIter_tuple e2
      exact ⟨_, rfl, q⟩
    · have e1 : Heap.IsTuple (Shared.heap ⟨hp, g, dr, tk, os⟩) a xs := p1
      have e2 : Heap.IsList (Shared.heap ⟨hp.push { cls := .type "tuple_iterator", data := .fields #[.ref a, .int 0 0] }, g, dr, tk, os⟩) c ys := SA.at_ (b := true) p2 fun o e => Heap.get?_push_of_some _ e
      wp_walk using wpAny_pyIter_tuple e1, wpAny_pyIter_list e2
      exact ⟨_, rfl, q⟩
    · have e1 : Heap.IsList (Shared.heap ⟨hp, g, dr, tk, os⟩) a xs := p1
      have e2 : Heap.IsTuple (Shared.heap ⟨hp.push { cls := .type "list_iterator", data := .fields #[.ref a, .int 0 0] }, g, dr, tk, os⟩) c ys := SA.at_ (b := false) p2 fun o e => Heap.get?_push_of_some _ e
      wp_walk using wpAny_pyIter_list e1, wpAny_pyIter_tuple e2
      exact ⟨_, rfl, q⟩
    · have e1 : Heap.IsList (Shared.heap ⟨hp, g, dr, tk, os⟩) a xs := p1
      have e2 : Heap.IsList (Shared.heap ⟨hp.push { cls := .type "list_iterator", data := .fields #[.ref a, .int 0 0] }, g, dr, tk, os⟩) c ys := SA.at_ (b := true) p2 fun o e => Heap.get?_push_of_some _ e
      wp_walk using wpAny_pyIter_list e1, wpAny_pyIter_list e2
      exact ⟨_, rfl, q⟩
theorem itO_is {b : Bool} {a i : Addr} {h : Heap} (e : h.get? i = some (itO b a)) : SI b h i a 0 := by
  cases b with
  | true => exact ⟨_, e, rfl, rfl⟩
  | false => exact ⟨_, e, rfl, rfl⟩
theorem zip_call {b d : Bool} {a c : Addr} {xs ys : Array Value} {Q : Value → Shared → Prop} (ha : SA b s.heap a xs) (hc : SA d s.heap c ys)
    (k : ∀ h' z I O i j, ZA z I O i j a c → ZSt b d h' z I O i j a c .none 0 → (∀ e ∈ [z, I, O, i, j], s.heap.objs.size ≤ e) → (∀ e o, s.heap.get? e = some o → h'.get? e = some o) → Q (.ref z) { s with heap := h' }) :
    wpAny (model prog w) A (call (.type "zip") [.ref a, .ref c]) Q E s := by
  refine callType_new PySem.F.called_zip (by decide) (PySem.F.typeCall_zip_2 _ _) (PySem.F.newCall_zip_2 _ _) (fun obj => PySem.F.args_object_init_3 obj _ _) PySem.F.entry_zip_new (zip_new b d a c xs ys) ⟨ha, hc, ?_⟩
  have n1 : (s.heap.push (itO b a)).objs.size = s.heap.objs.size + 1 := Heap.size_push ..
  have n2 : (zG2 b d s.heap a c).objs.size = s.heap.objs.size + 2 := by rw [Heap.size_push, n1]
  have n3 : ((zG2 b d s.heap a c).push { cls := .type "tuple", data := .seq #[.ref s.heap.objs.size, .ref (s.heap.push (itO b a)).objs.size] }).objs.size = s.heap.objs.size + 3 := by rw [Heap.size_push, n2]
  have n4 : (zG4 b d s.heap a c).objs.size = s.heap.objs.size + 4 := by rw [Heap.size_push, n3]
  have p5 : (zG5 b d s.heap a c).get? (zG4 b d s.heap a c).objs.size = some _ := Heap.get?_push_size _ rfl
  have p4 : (zG5 b d s.heap a c).get? ((zG2 b d s.heap a c).push { cls := .type "tuple", data := .seq #[.ref s.heap.objs.size, .ref (s.heap.push (itO b a)).objs.size] }).objs.size = some _ := Heap.get?_push_of_some _ (Heap.get?_push_size _ rfl)
  have p3 : (zG5 b d s.heap a c).get? (zG2 b d s.heap a c).objs.size = some _ := Heap.get?_push_of_some _ (Heap.get?_push_of_some _ (Heap.get?_push_size _ rfl))
  have p2 : (zG5 b d s.heap a c).get? (s.heap.push (itO b a)).objs.size = some _ := Heap.get?_push_of_some _ (Heap.get?_push_of_some _ (Heap.get?_push_of_some _ (Heap.get?_push_size _ rfl)))
  have p1 : (zG5 b d s.heap a c).get? s.heap.objs.size = some _ := Heap.get?_push_of_some _ (Heap.get?_push_of_some _ (Heap.get?_push_of_some _ (Heap.get?_push_of_some _ (Heap.get?_push_size _ rfl))))
  have la := ha.lt
  have lc := hc.lt
  rw [n4, n2, n3] at p5
  rw [n2, n1] at p3
  rw [n3] at p4
  rw [n1] at p2
  show _ ∧ _
  rw [n4]
  refine ⟨⟨_, p5, rfl⟩, k _ (s.heap.objs.size + 4) (s.heap.objs.size + 2) (s.heap.objs.size + 3) s.heap.objs.size (s.heap.objs.size + 1) ⟨?_, ?_, ?_, ?_, ?_, ?_, ?_, ?_, ?_, ?_, ?_, ?_, ?_, ?_, ?_, ?_, ?_, ?_⟩ ⟨p5, p3, ⟨_, _, p4⟩, itO_is p1, itO_is p2⟩ (fun e he => ?_) fun e o x => Heap.get?_push_of_some _ (Heap.get?_push_of_some _ (Heap.get?_push_of_some _ (Heap.get?_push_of_some _ (Heap.get?_push_of_some _ x))))⟩
  case refine_19 =>
    simp only [List.mem_cons, List.not_mem_nil, or_false] at he
    rcases he with e1 | e1 | e1 | e1 | e1 <;> rw [e1] <;> first | exact Nat.le_refl _ | exact Nat.le_add_right _ _
  all_goals first | exact Nat.ne_of_lt (by omega) | exact Nat.ne_of_gt (by omega) | exact Nat.ne_of_lt (Nat.lt_of_lt_of_le la (by omega)) | exact Nat.ne_of_lt (Nat.lt_of_lt_of_le lc (by omega))
end
end OP
set_option maxHeartbeats 1000000
namespace OP
open PySem PySem.Spec PyProof.Rows L2 OG
def Sq (K : PySem.W.Frag) : Bool → Hp → Addr → List V → Prop
  | true, H, a, xs => SqL K H a xs
  | false, H, a, xs => SqT K H a xs
section
variable {X : Cx} {pins : List (Addr × Obj)} {σ : L2.St} {H : Hp} {s : Shared} {h' : Heap}
theorem _root_.L2.Inv.turnedL {t' : Nat} {ch : List Addr} (I : Inv X pins σ H s) (k : ∀ b o, b ∉ ch → s.heap.get? b = some o → h'.get? b = some o) (hf : ∀ b ∈ ch, FpOk X pins H b) : Inv X pins σ H { s with heap := h', toks := t' } := by
  have nit : ∀ b u, H b = some u → b ∉ ch := fun b u e z => by rw [(hf b z).1] at e; cases e
  refine I.step (g' := s.gens) (d' := s.drawn) (ch := ch) (fun b hb => ⟨(hf b hb).2.2.2.1, (hf b hb).2.1, (hf b hb).2.2.2.2.1, (hf b hb).2.2.2.2.2⟩) (fun b o _ _ hc e _ => k b o hc e) (fun b o _ _ hc e _ => ⟨o.slots, k b o hc e⟩) (fun _ _ _ _ n => n)
    (fun b o hc e => ⟨o, k b o hc e⟩) (fun _ _ e => e) (fun _ _ _ e => e) (fun b ps e => ⟨#[], by rw [e]; simp⟩) (fun m hm => ?_) (fun b u e => ?_) I.bare
  · obtain ⟨o, es, ep, ho, r⟩ := hm
    exact ⟨o, es, ep, k _ o (fun z => (hf _ z).2.1 rfl) ho, r⟩
  · refine (I.hok b u e).stay (fun c v hc q => k c v ?_ q) (fun _ q => q) fun _ _ q => q
    rcases hc with z | z
    · rw [z]; exact nit b u e
    · exact nit c _ z
theorem _root_.L2.Inv.sq {b : Bool} {a : Addr} {xs : List V} (I : Inv X pins σ H s) (h : Sq X.K b H a xs) : ∃ its : List Value, Vals xs its ∧ SA b s.heap a its.toArray := by
  cases b with
  | true => obtain ⟨its, r, p, _⟩ := I.list h; exact ⟨its, r, p.isList⟩
  | false => obtain ⟨its, r, p, _⟩ := I.tuple h; exact ⟨its, r, p⟩
theorem _root_.L2.Inv.sq_inj {b : Bool} {a : Addr} {xs ys : List V} (I : Inv X pins σ H s) (h : Sq X.K b H a xs) (h2 : Sq X.K b H a ys) : xs = ys := by
  cases b with
  | true => exact I.list_inj h h2
  | false => exact I.tuple_inj h h2
end
def Itz (K : PySem.W.Frag) (b d : Bool) (a c : Addr) : It :=
  ⟨fun i H => ∃ xs ys x y, Sq K b H a xs ∧ Sq K d H c ys ∧ xs[i]? = some x ∧ ys[i]? = some y,
   fun i H v H' => ∃ p x y, v = .ref p ∧ H p = none ∧ H' = upd H p (.tup [x, y]) ∧ (∀ xs, Sq K b H a xs → xs[i]? = some x) ∧ ∀ ys, Sq K d H c ys → ys[i]? = some y,
   fun i H => ∃ xs ys, Sq K b H a xs ∧ Sq K d H c ys ∧ (xs.length ≤ i ∨ ys.length ≤ i)⟩
theorem push_old {h : Heap} {ob o : Obj} {e : Addr} (q : (h.push ob).get? e = some o) (ne : e ≠ h.objs.size) : h.get? e = some o := (Heap.get?_push_ne h e ob ne).symm.trans q
theorem pair_new {P : Program} {w : World} {H : Hp} {h : Heap} {a : Addr} {x y : V} {u v : Value} (e : h.get? a = some { cls := .type "tuple", data := .seq #[u, v] }) (rx : RelV x u) (ry : RelV y v) : ObjOk P w H h a (.tup [x, y]) :=
  ⟨by show 2 ≤ sizeLine; decide, [u, v], .cons rx (.cons ry .nil), ⟨_, e, rfl, _, rfl⟩⟩
theorem turn_zip {P : Program} {w : World} {K : PySem.W.Frag} {es : List Expr} {k : Nat} {pos : Pos} {b d : Bool} {z I O i j a c : Addr} (D : ZA z I O i j a c) :
    Turn P w K (.Tuple es k pos) (Itz K b d a c) [z, I, O, i, j] z (fun n h => ZSt b d h z I O i j a c .none n) where
  mem := by simp
  obj := fun n h st e he => by
    obtain ⟨hz, hI, ⟨p, q, hO⟩, h1, h2⟩ := st
    simp only [List.mem_cons, List.not_mem_nil, or_false] at he
    rcases he with rfl | rfl | rfl | rfl | rfl
    · exact ⟨_, hz, fun v q => by cases q⟩
    · exact ⟨_, hI, fun v q => by cases q⟩
    · exact ⟨_, hO, fun v q => by cases q⟩
    · exact h1.obj
    · exact h2.obj
  keep := fun n h h' st kp => st.at_ kp
  item := by
    intro X hP hw hK hc n pins s σ H E Iv hf st hg
    subst hP hw hK
    obtain ⟨xs, ys, x, y, qa, qc, hx, hy⟩ := hg
    obtain ⟨ia, ra, sa⟩ := Iv.sq qa
    obtain ⟨ic, rc, sc⟩ := Iv.sq qc
    obtain ⟨u, hu, ru⟩ := ra.get hx
    obtain ⟨v, hv, rv⟩ := rc.get hy
    refine zip_next D st sa sc (x := u) (y := v) (by simpa using hu) (by simpa using hv) fun h1 st1 T1 up1 => ⟨_, rfl, wpAny_letOwnedTupleGo_zip st1.hz fun h2 z2 s2 => ?_⟩
    have hfr : H s.heap.objs.size = none := Iv.hok.fresh (Nat.le_refl _)
    have sz : ∀ e ∈ [z, I, O, i, j], e < s.heap.objs.size := fun e he => by
      simp only [List.mem_cons, List.not_mem_nil, or_false] at he
      obtain ⟨hz, hI, ⟨p, q, hO⟩, h1', h2'⟩ := st
      rcases he with rfl | rfl | rfl | rfl | rfl
      · exact Heap.lt_size hz
      · exact Heap.lt_size hI
      · exact Heap.lt_size hO
      · obtain ⟨o, e, _⟩ := h1'.obj; exact Heap.lt_size e
      · obtain ⟨o, e, _⟩ := h2'.obj; exact Heap.lt_size e
    have T2 : h2.get? s.heap.objs.size = some { cls := .type "tuple", data := .seq #[u, v] } := s2.extBut _ _ (Nat.ne_of_gt (sz z (by simp))) T1
    have I1 : Inv X pins σ (upd H s.heap.objs.size (.tup [x, y])) { s with heap := s.heap.push { cls := .type "tuple", data := .seq #[u, v] }, toks := s.toks } :=
      Iv.laid (fun b o e => Heap.get?_push_of_some _ e) (Nat.le_refl _) (pair_new (Heap.get?_push_size _ rfl) ru rv)
    have fr2 : ∀ e ∈ [z, I, O, i, j], (upd H s.heap.objs.size (.tup [x, y])) e = none := fun e he => by rw [upd_ne (Nat.ne_of_lt (sz e he))]; exact (hf e he).1
    have I2 : Inv X pins σ (upd H s.heap.objs.size (.tup [x, y])) { s with heap := h2, toks := s.toks } :=
      Inv.turnedL (s := { s with heap := s.heap.push { cls := .type "tuple", data := .seq #[u, v] }, toks := s.toks }) (h' := h2) (t' := s.toks) (ch := [z, I, O, i, j]) I1 (fun e o hn q => by
        by_cases ce : e = s.heap.objs.size
        · subst ce
          have q' : (s.heap.push { cls := .type "tuple", data := .seq #[u, v] }).get? s.heap.objs.size = some o := q
          rw [Heap.get?_push_size _ rfl] at q'
          cases q'; exact T2
        · have q' : s.heap.get? e = some o := push_old q ce
          simp only [List.mem_cons, List.not_mem_nil, or_false, not_or] at hn
          exact s2.extBut _ _ hn.1 (up1 e o hn.1 hn.2.2.1 hn.2.2.2.1 hn.2.2.2.2 q')) fun e he => ⟨fr2 e he, (hf e he).2⟩
    refine ⟨.ref s.heap.objs.size, _, I2, rfl, ⟨_, x, y, rfl, hfr, rfl, fun xs' q => by rw [Iv.sq_inj q qa]; exact hx, fun ys' q => by rw [Iv.sq_inj q qc]; exact hy⟩, ?_, fr2⟩
    obtain ⟨_, hI1, ⟨p, q, hO1⟩, i1, j1⟩ := st1
    exact ⟨z2, s2.extBut _ _ D.Iz hI1, ⟨p, q, s2.extBut _ _ D.Oz hO1⟩, i1.at_ fun o e => s2.extBut _ _ D.iz e, j1.at_ fun o e => s2.extBut _ _ D.jz e⟩
  done := by
    intro X hP hw hK hc n pins s σ H E Iv hf st hg
    subst hP hw hK
    obtain ⟨xs, ys, qa, qc, hx⟩ := hg
    obtain ⟨ia, ra, sa⟩ := Iv.sq qa
    obtain ⟨ic, rc, sc⟩ := Iv.sq qc
    have la := ra.length
    have lc := rc.length
    refine zip_end (Iv.ok.hd hc) D st sa sc (hx.elim (fun q => .inl (by simp; omega)) fun q => .inr (by simp; omega)) fun h1 up1 => ⟨rfl, ?_⟩
    exact Iv.turnedL (t' := s.toks) (ch := [z, I, O, i, j]) (fun e o hn q => by
      simp only [List.mem_cons, List.not_mem_nil, or_false, not_or] at hn
      exact up1 e o hn.1 hn.2.2.1 hn.2.2.2.1 hn.2.2.2.2 q) hf
  self := fun _ _ _ _ _ st h => wpAny_pyIter_zip st.hz h
def iZipT (K : PySem.W.Frag) (ta : TA) : TI := fun σ H R => ta σ H fun vs H2 => ∃ b d a c, vs = [.ref a, .ref c] ∧ (∃ xs, Sq K b H2 a xs) ∧ (∃ ys, Sq K d H2 c ys) ∧ R (Itz K b d a c) H2
theorem boot_zip : bootBuiltins "zip" = some (.type "zip") := rfl
section
variable {X : Cx} {pos : Pos}
theorem wi_zip {es : List Expr} {k : Nat} {tp p : Pos} {a c : Expr} {ta : TA} (hg : Gl X "zip") (hm : X.mg "zip" = none) (ha : WA X [a, c] ta)
    (hs : starEach [a, c] X.env = (false, eval a X.env) :: starEach [c] X.env := by rfl) (hpl : (backTo pos (starEach [c] X.env)).any (·.1) = false := by rfl) : WI X (.Tuple es k tp) (.Call (.Name "zip" p) [a, c] [] pos) (iZipT X.K ta) := by
  constructor
  intro pins s σ H R I h
  refine wpAny_Call_Name_kw (ld_blt I hg hm OP.boot_zip ?_)
  refine PyProof.Rows.callWith_type1 (thn (ha.h pos pins s σ H _ I h) fun us s1 ⟨vs, H1, I1, r1, q1⟩ => ?_) hs hpl
  obtain ⟨b, d, aa, cc, rfl, ⟨xs, qa⟩, ⟨ys, qc⟩, q⟩ := q1
  obtain ⟨u, v, rfl, ru, rv⟩ := vals2 r1
  cases ru
  cases rv
  obtain ⟨ia, ra, sa⟩ := I1.sq qa
  obtain ⟨ic, rc, sc⟩ := I1.sq qc
  refine zip_call sa sc fun h1 z II O i j D st hi up => wpAny_pyIter_zip st.hz ⟨z, [z, II, O, i, j], _, _, H1, rfl, I1.kept (t' := s1.toks) up, turn_zip D, st, fun e he => ?_, q⟩
  exact I1.fpOk (hi e he) (I1.hok.fresh (hi e he))
def seqU : U → Sto → Option (List U × (Sto → Prop))
  | .tup us, _ => some (us, fun _ => True)
  | .ref l, S => match S[l]? with
    | some (.lst us) => some (us, fun S => S[l]? = some (.lst us))
    | _ => none
  | _, _ => none
def pairU (us ws : List U) : List U := (us.zip ws).map fun p => .tup [p.1, p.2]
def iZip (ca cb : CE) : CI := fun ρ S => (ca ρ S).bind fun p => (cb ρ p.2).bind fun q => (seqU p.1 q.2).bind fun x => (seqU q.1 q.2).bind fun y => some (pairU x.1 y.1, fun S => x.2 S ∧ y.2 S, q.2)
theorem seq_ok {K : PySem.W.Frag} {m : List Addr} {S : Sto} {H : Hp} {u : U} {v : V} {us : List U} {ok : Sto → Prop} (sr : Sr K m S H) (iu : Is K m H v u) (h : seqU u S = some (us, ok)) :
    ∃ b a, v = .ref a ∧ (∃ xs, Sq K b H a xs) ∧ ∀ m2 S2 H2, Ext K m H m2 H2 → Sr K m2 S2 H2 → ok S2 → ∃ xs, Sq K b H2 a xs ∧ IsL K m2 H2 xs us := by
  cases u with
  | tup ws =>
    cases h
    obtain ⟨a, xs, rfl, sq, il⟩ := iu.of_tup
    exact ⟨false, a, rfl, ⟨xs, sq⟩, fun m2 S2 H2 e _ _ => ⟨xs, e.keep _ _ sq, il.mono e⟩⟩
  | ref l =>
    simp only [seqU] at h
    split at h <;> try cases h
    rename_i us hS
    obtain ⟨a, ha, rfl⟩ := iu.of_ref
    obtain ⟨a', ha', xs, hx, il⟩ := sr.get hS
    rw [ha] at ha'; cases ha'
    refine ⟨true, a, rfl, ⟨xs, SqL.of hx⟩, fun m2 S2 H2 e sr2 hok => ?_⟩
    obtain ⟨a', ha', xs, hx, il⟩ := sr2.get hok
    rw [e.get ha] at ha'; cases ha'
    exact ⟨xs, SqL.of hx, il⟩
  | _ => simp [seqU] at h
theorem qi_zip {es : List Expr} {k : Nat} {tp p : Pos} {a c : Expr} {ca cc : CE} (hg : Gl X "zip") (hm : X.mg "zip" = none) (ha : QE X a ca) (hc : QE X c cc)
    (hs : starEach [a, c] X.env = (false, eval a X.env) :: starEach [c] X.env := by rfl) (hs2 : starEach [c] X.env = (false, eval c X.env) :: starEach [] X.env := by rfl) (hpl : (backTo pos (starEach [c] X.env)).any (·.1) = false := by rfl) :
    QI X (.Tuple es k tp) (.Call (.Name "zip" p) [a, c] [] pos) (iZip ca cc) := (wi_zip hg hm (wpa_cons ha (wpa_cons hc wpa_nil hs2) hs) hs hpl).imp fun σ H R ⟨m, ρ, S, us, ok, S', sr, lr, hf, post⟩ => by
  obtain ⟨⟨x, S1⟩, h1, h⟩ := Option.bind_eq_some_iff.mp hf
  obtain ⟨⟨y, S2⟩, h2, h⟩ := Option.bind_eq_some_iff.mp h
  obtain ⟨⟨xs, okx⟩, h3, h⟩ := Option.bind_eq_some_iff.mp h
  obtain ⟨⟨ys, oky⟩, h4, h⟩ := Option.bind_eq_some_iff.mp h
  cases h
  refine ⟨m, ρ, S, x, S1, sr, lr, h1, fun m1 v1 H1 e1 sr1 i1 => ⟨m1, ρ, S1, y, _, sr1, lr.mono e1, h2, fun m2 v2 H2 e2 sr2 i2 => ?_⟩⟩
  obtain ⟨b, aa, rfl, q1, k1⟩ := seq_ok sr2 (i1.mono e2) h3
  obtain ⟨d, bb, rfl, q2, k2⟩ := seq_ok sr2 i2 h4
  refine ⟨b, d, aa, bb, rfl, q1, q2, post m2 H2 _ (e1.trans e2) sr2 fun m3 S3 H3 i e3 sr3 hok => ?_⟩
  obtain ⟨vs, sq1, l1⟩ := k1 m3 S3 H3 e3 sr3 hok.1
  obtain ⟨ws, sq2, l2⟩ := k2 m3 S3 H3 e3 sr3 hok.2
  have n1 := l1.length
  have n2 := l2.length
  refine ⟨fun u hu => ?_, fun hi => ⟨vs, ws, sq1, sq2, ?_⟩⟩
  · simp only [pairU, List.getElem?_map, Option.map_eq_some_iff] at hu
    obtain ⟨⟨p, q⟩, hz, rfl⟩ := hu
    obtain ⟨hp, hq⟩ := List.getElem?_zip_eq_some.mp hz
    obtain ⟨vp, ep, ip⟩ := l1.getD hp
    obtain ⟨vq, eq, iq⟩ := l2.getD hq
    refine ⟨⟨vs, ws, vp, vq, sq1, sq2, ep, eq⟩, fun v H4 hy => ?_⟩
    obtain ⟨r, x', y', rfl, hr, rfl, f1, f2⟩ := hy
    have := f1 vs sq1
    rw [ep] at this; cases this
    have := f2 ws sq2
    rw [eq] at this; cases this
    have ee : Ext X.K m3 H3 m3 (upd H3 r (.tup [vp, vq])) := .of (keep_new hr _)
    exact ⟨ee, sr3.same (same_new hr _), .tup_ (SqT.of upd_same) (.cons_ (ip.mono ee) (.cons_ (iq.mono ee) .nil_))⟩
  · simp only [pairU, List.length_map, List.length_zip] at hi
    omega
end
end OP
set_option maxHeartbeats 1000000
namespace OP
open PySem PySem.Spec PyProof.Rows L2 OG
theorem drawsSq {b : Bool} {prog : Program} {w : World} {A : Around} (hh : A.handled = none) (it a : Addr) (hne : a ≠ it) (ys : Array Value) :
    Draws prog w A it [it, a] ys.size (fun i v => ys[i]? = some v) (fun i h => SI b h it a i ∧ SA b h a ys) where
  live := fun _ _ st => let ⟨o, ho, _⟩ := st.1.obj; ⟨o, ho⟩
  frame := fun _ _ _ st hk => ⟨st.1.at_ fun o e => hk it (by simp) o e, st.2.at_ fun o e => hk a (by simp) o e⟩
  item := fun i s Q E hi st hQ => sq_draw st.1 st.2 (y := ys[i]) (by simp [hi]) fun h' it' s' => hQ _ h' s.toks (by simp [hi]) ⟨it', st.2.at_ fun o e => s'.extBut _ _ hne e⟩ s'
  done := fun s Q E st hE => sq_draw_end hh st.1 st.2 (by simp) hE
structure ESt (b : Bool) (h : Heap) (e it a : Addr) (n : Nat) : Prop where
  he : ∃ old, IsEnum h e it n old
  hi : SI b h it a n
theorem enum_newT (l : Addr) (ys : Array Value) (n : Nat) (dct : Option Addr) (sl : Array (Option Value)) :
    Meets (Builtin.«enumerate.__new__» ⟨[.type "enumerate", .ref l], []⟩) (fun _ R s => s.heap.get? l = some { cls := .type "tuple", dict := dct, data := .seq ys n, slots := sl } ∧
      R (.ok (.ret (.ref (s.heap.push (itO false l)).objs.size))) { s with heap := (s.heap.push (itO false l)).push { cls := .type "enumerate", data := .fields #[.none, .bool false, .ref s.heap.objs.size, rawInt 0, .none, .none] } }) :=
  .of_wp fun prog w A R s q => by
    obtain ⟨hp, g, d, tk, os⟩ := s
    obtain ⟨gl, q⟩ := q
    have sb := sub_enumerate
    have tl : Heap.IsTuple (Shared.heap ⟨hp, g, d, tk, os⟩) l ys := ⟨_, gl, rfl, n, rfl⟩
    wp_walk using wpAny_loadPart' gl
    refine wpAny_stack_any (fun st => wpAny_pure ?_)
    split
    · rename_i c _ _ _ _ _
      cases (c == Value.type "enumerate") <;> (wp_walk using wpAny_loadPart' gl, wpAny_pyIter_tuple tl; exact ⟨_, rfl, q⟩)
    · wp_walk using wpAny_loadPart' gl, wpAny_pyIter_tuple tl
      exact ⟨_, rfl, q⟩
theorem enum_call {b : Bool} {prog : Program} {w : World} {A : Around} {E : Value → Shared → Prop} {s : Shared} {a : Addr} {ys : Array Value} {Q : Value → Shared → Prop} (ha : SA b s.heap a ys)
    (k : ∀ h' e it, e ≠ it → s.heap.objs.size ≤ e → s.heap.objs.size ≤ it → ESt b h' e it a 0 → (∀ c o, s.heap.get? c = some o → h'.get? c = some o) → Q (.ref e) { s with heap := h' }) :
    wpAny (model prog w) A (call (.type "enumerate") [.ref a]) Q E s := by
  cases b with
  | true => exact call_enumerate_list ha fun h' e1 e2 sz up => k h' _ _ (by omega) (Nat.le_add_right _ _) (Nat.le_refl _) ⟨⟨_, e1⟩, e2⟩ up
  | false =>
    obtain ⟨⟨c, dct, dt, sl⟩, gl, hc, n, hd⟩ := ha
    simp only at hc hd
    subst hc hd
    refine callType_new PySem.F.called_enumerate (by decide) (PySem.F.typeCall_enumerate_1 _) (PySem.F.newCall_enumerate_1 _) (fun obj => PySem.F.args_object_init_2 obj _) PySem.F.entry_enumerate_new (enum_newT a ys n dct sl) ⟨gl, ?_⟩
    have n1 : (s.heap.push (itO false a)).objs.size = s.heap.objs.size + 1 := Heap.size_push ..
    have p2 := Heap.get?_push_size (s.heap.push (itO false a)) (o := { cls := .type "enumerate", data := .fields #[.none, .bool false, .ref s.heap.objs.size, rawInt 0, .none, .none] }) rfl
    have p1 : ((s.heap.push (itO false a)).push { cls := .type "enumerate", data := .fields #[.none, .bool false, .ref s.heap.objs.size, rawInt 0, .none, .none] }).get? s.heap.objs.size = some (itO false a) := Heap.get?_push_of_some _ (Heap.get?_push_size _ rfl)
    rw [n1] at p2
    show _ ∧ _
    rw [n1]
    exact ⟨⟨_, p2, rfl⟩, k _ (s.heap.objs.size + 1) s.heap.objs.size (Nat.ne_of_gt (Nat.lt_succ_self _)) (Nat.le_add_right _ _) (Nat.le_refl _) ⟨⟨_, p2⟩, itO_is p1⟩ fun c o x => Heap.get?_push_of_some _ (Heap.get?_push_of_some _ x)⟩
theorem enum_end {b : Bool} {prog : Program} {w : World} {A : Around} {E : Value → Shared → Prop} {s : Shared} {e it a : Addr} {i : Int} {j : Nat} {ys : Array Value} {old : Value} {Q : Option Value → Shared → Prop} (hh : A.in1.handled = none) (he : IsEnum s.heap e it i old) (hi : SI b s.heap it a j) (ha : SA b s.heap a ys) (hx : ys[j]? = none)
    (k : ∀ h', Heap.ExtBut it s.heap h' → Q none { s with heap := h' }) : wpAny (model prog w) A (pyNext (.ref e)) Q E s := by
  have ty : s.TypeIs (.ref e) "enumerate" := ⟨_, he, rfl⟩
  unfold pyNext
  refine wpAny_bind (wpAny_attempt (wpAny_callSpecial?_slot (name := Str.ofString "__next__") ty PySem.F.slot_enumerate_next (wpAny_call_entry PySem.F.slot_enumerate_next ty PySem.F.entry_enumerate_next ?_ (PySem.F.args_enumerate_next_1 _))))
  show wpAny _ _ (field (.ref e) 2 >>= fun _ => _) _ _ _
  refine wpAny_bind (wpAny_field he rfl (x := .ref it) rfl (wpAny_bind (sq_draw_end hh hi ha hx fun h' x he' hx' => ?_)))
  obtain ⟨o, ho, co⟩ := hx'
  exact wpAny_bind (wpAny_isInstance (T := "StopIteration") (b := true) ⟨o, ho, co⟩ isSubtype_stop (wpAny_pure (k _ he')))
def Ite (K : PySem.W.Frag) (b : Bool) (a : Addr) : It :=
  ⟨fun i H => ∃ xs x, Sq K b H a xs ∧ xs[i]? = some x,
   fun i H v H' => ∃ p x, v = .ref p ∧ H p = none ∧ H' = upd H p (.tup [.int i, x]) ∧ ∀ xs, Sq K b H a xs → xs[i]? = some x,
   fun i H => ∃ xs, Sq K b H a xs ∧ xs.length ≤ i⟩
theorem turn_enum {P : Program} {w : World} {K : PySem.W.Frag} {es : List Expr} {k : Nat} {pos : Pos} {b : Bool} {e it a : Addr} (ne : e ≠ it) (nae : a ≠ e) (nai : a ≠ it) :
    Turn P w K (.Tuple es k pos) (Ite K b a) [e, it] e (fun n h => ESt b h e it a n) where
  mem := by simp
  obj := fun n h st c hc => by
    obtain ⟨⟨old, he⟩, hi⟩ := st
    simp only [List.mem_cons, List.not_mem_nil, or_false] at hc
    rcases hc with rfl | rfl
    · exact ⟨_, he, fun v q => by cases q⟩
    · exact hi.obj
  keep := fun n h h' st kp => let ⟨old, he⟩ := st.he; ⟨⟨old, kp e (by simp) _ he⟩, st.hi.at_ fun o q => kp it (by simp) o q⟩
  item := by
    intro X hP hw hK hc n pins s σ H E Iv hf st hg
    subst hP hw hK
    obtain ⟨xs, x, qa, hx⟩ := hg
    obtain ⟨ia, ra, sa⟩ := Iv.sq qa
    obtain ⟨u, hu, ru⟩ := ra.get hx
    obtain ⟨⟨old, he⟩, hi⟩ := st
    have hlt : n < ia.toArray.size := by simpa using (List.getElem?_eq_some_iff.mp hu).1
    refine wpAny_pyNext_enum_itemD (drawsSq (b := b) (show X.A.in1.handled = none from Iv.ok.hd hc) it a nai ia.toArray) he ⟨hi, sa⟩ hlt ne (by simp [ne, Ne.symm nae]) fun y h1 tk py out1 st1 T1 sz1 up1 => ⟨_, rfl, wpAny_letOwnedTupleGo_enum out1 fun h2 e2 s2 => ?_⟩
    have ey : y = u := by
      have p' : ia.toArray[n]? = some y := py
      rw [List.getElem?_toArray, hu] at p'; cases p'; rfl
    subst ey
    have hfr : H s.heap.objs.size = none := Iv.hok.fresh (Nat.le_refl _)
    have elt : e < s.heap.objs.size := Heap.lt_size he
    have ilt : it < s.heap.objs.size := by obtain ⟨o, q, _⟩ := hi.obj; exact Heap.lt_size q
    have sz : ∀ c ∈ [e, it], c < s.heap.objs.size := fun c hc => by
      simp only [List.mem_cons, List.not_mem_nil, or_false] at hc
      rcases hc with rfl | rfl
      · exact elt
      · exact ilt
    have T2 : h2.get? s.heap.objs.size = some { cls := .type "tuple", data := .seq #[.int n tk, y] } := s2.extBut _ _ (Nat.ne_of_gt elt) T1
    have I1 : Inv X pins σ (upd H s.heap.objs.size (.tup [.int n, x])) { s with heap := s.heap.push { cls := .type "tuple", data := .seq #[.int n tk, y] }, toks := s.toks } :=
      Iv.laid (fun b o e => Heap.get?_push_of_some _ e) (Nat.le_refl _) (pair_new (Heap.get?_push_size _ rfl) ⟨tk, rfl⟩ ru)
    have fr2 : ∀ c ∈ [e, it], (upd H s.heap.objs.size (.tup [.int n, x])) c = none := fun c hc => by rw [upd_ne (Nat.ne_of_lt (sz c hc))]; exact (hf c hc).1
    have I2 : Inv X pins σ (upd H s.heap.objs.size (.tup [.int n, x])) { s with heap := h2, toks := tk + 1 } :=
      Inv.turnedL (s := { s with heap := s.heap.push { cls := .type "tuple", data := .seq #[.int n tk, y] }, toks := s.toks }) (h' := h2) (t' := tk + 1) (ch := [e, it]) I1 (fun c o hn q => by
        by_cases ce : c = s.heap.objs.size
        · subst ce
          have q' : (s.heap.push { cls := .type "tuple", data := .seq #[.int n tk, y] }).get? s.heap.objs.size = some o := q
          rw [Heap.get?_push_size _ rfl] at q'
          cases q'; exact T2
        · have q' : s.heap.get? c = some o := push_old q ce
          simp only [List.mem_cons, List.not_mem_nil, or_false, not_or] at hn
          exact s2.extBut _ _ hn.1 (up1 c o hn.1 hn.2 q')) fun c hc => ⟨fr2 c hc, (hf c hc).2⟩
    refine ⟨.ref s.heap.objs.size, _, I2, rfl, ⟨_, x, rfl, hfr, rfl, fun xs' q => by rw [Iv.sq_inj q qa]; exact hx⟩, ⟨⟨_, by simpa using e2⟩, st1.1.at_ fun o q => s2.extBut _ _ (Ne.symm ne) q⟩, fr2⟩
  done := by
    intro X hP hw hK hc n pins s σ H E Iv hf st hg
    subst hP hw hK
    obtain ⟨xs, qa, hx⟩ := hg
    obtain ⟨ia, ra, sa⟩ := Iv.sq qa
    have la := ra.length
    obtain ⟨⟨old, he⟩, hi⟩ := st
    refine enum_end (show X.A.in1.handled = none from Iv.ok.hd hc) he hi sa (by simp; omega) fun h1 up1 => ⟨rfl, ?_⟩
    exact Iv.turnedL (t' := s.toks) (ch := [e, it]) (fun c o hn q => by
      simp only [List.mem_cons, List.not_mem_nil, or_false, not_or] at hn
      exact up1 c o hn.2 q) hf
  self := fun _ _ _ _ _ st h => let ⟨old, he⟩ := st.he; wpAny_pyIter_enum he h
def iEnumT (K : PySem.W.Frag) (ta : TA) : TI := fun σ H R => ta σ H fun vs H2 => ∃ b a, vs = [.ref a] ∧ (∃ xs, Sq K b H2 a xs) ∧ R (Ite K b a) H2
theorem boot_enum : bootBuiltins "enumerate" = some (.type "enumerate") := rfl
section
variable {X : Cx} {pos : Pos}
theorem wi_enum {es : List Expr} {k : Nat} {tp p : Pos} {a : Expr} {ta : TA} (hg : Gl X "enumerate") (hm : X.mg "enumerate" = none) (ha : WA X [a] ta)
    (hs : starEach [a] X.env = (false, eval a X.env) :: starEach [] X.env := by rfl) (hpl : (backTo pos (starEach [] X.env)).any (·.1) = false := by rfl) : WI X (.Tuple es k tp) (.Call (.Name "enumerate" p) [a] [] pos) (iEnumT X.K ta) := by
  constructor
  intro pins s σ H R I h
  refine wpAny_Call_Name_kw (ld_blt I hg hm OP.boot_enum ?_)
  refine PyProof.Rows.callWith_type1 (thn (ha.h pos pins s σ H _ I h) fun us s1 ⟨vs, H1, I1, r1, q1⟩ => ?_) hs hpl
  obtain ⟨b, aa, rfl, ⟨xs, qa⟩, q⟩ := q1
  obtain ⟨u, rfl, ru⟩ := vals1 r1
  cases ru
  obtain ⟨ia, ra, sa⟩ := I1.sq qa
  refine enum_call sa fun h1 e it ne he hi st up => ?_
  obtain ⟨old, hE⟩ := st.he
  refine wpAny_pyIter_enum hE ⟨e, [e, it], _, _, H1, rfl, I1.kept (t' := s1.toks) up, turn_enum ne (Nat.ne_of_lt (Nat.lt_of_lt_of_le sa.lt he)) (Nat.ne_of_lt (Nat.lt_of_lt_of_le sa.lt hi)), st, fun c hc => ?_, q⟩
  simp only [List.mem_cons, List.not_mem_nil, or_false] at hc
  rcases hc with rfl | rfl
  · exact I1.fpOk he (I1.hok.fresh he)
  · exact I1.fpOk hi (I1.hok.fresh hi)
def enumU (us : List U) : List U := us.zipIdx.map fun p => .tup [.int p.2, p.1]
def iEnum (ca : CE) : CI := fun ρ S => (ca ρ S).bind fun p => (seqU p.1 p.2).bind fun x => some (enumU x.1, x.2, p.2)
theorem qi_enum {es : List Expr} {k : Nat} {tp p : Pos} {a : Expr} {ca : CE} (hg : Gl X "enumerate") (hm : X.mg "enumerate" = none) (ha : QE X a ca)
    (hs : starEach [a] X.env = (false, eval a X.env) :: starEach [] X.env := by rfl) (hpl : (backTo pos (starEach [] X.env)).any (·.1) = false := by rfl) :
    QI X (.Tuple es k tp) (.Call (.Name "enumerate" p) [a] [] pos) (iEnum ca) := (wi_enum hg hm (wpa_cons ha wpa_nil hs) hs hpl).imp fun σ H R ⟨m, ρ, S, us, ok, S', sr, lr, hf, post⟩ => by
  obtain ⟨⟨x, S1⟩, h1, h⟩ := Option.bind_eq_some_iff.mp hf
  obtain ⟨⟨xs, okx⟩, h3, h⟩ := Option.bind_eq_some_iff.mp h
  cases h
  refine ⟨m, ρ, S, x, _, sr, lr, h1, fun m1 v1 H1 e1 sr1 i1 => ?_⟩
  obtain ⟨b, aa, rfl, q1, k1⟩ := seq_ok sr1 i1 h3
  refine ⟨b, aa, rfl, q1, post m1 H1 _ e1 sr1 fun m3 S3 H3 i e3 sr3 hok => ?_⟩
  obtain ⟨vs, sq1, l1⟩ := k1 m3 S3 H3 e3 sr3 hok
  have n1 := l1.length
  refine ⟨fun u hu => ?_, fun hi => ⟨vs, sq1, ?_⟩⟩
  · simp only [enumU, List.getElem?_map, Option.map_eq_some_iff, List.getElem?_zipIdx] at hu
    obtain ⟨⟨p, q⟩, ⟨y, hp, e⟩, rfl⟩ := hu
    cases e
    obtain ⟨vp, ep, ip⟩ := l1.getD hp
    refine ⟨⟨vs, vp, sq1, ep⟩, fun v H4 hy => ?_⟩
    obtain ⟨r, x', rfl, hr, rfl, f1⟩ := hy
    have := f1 vs sq1
    rw [ep] at this; cases this
    have ee : Ext X.K m3 H3 m3 (upd H3 r (.tup [.int i, vp])) := .of (keep_new hr _)
    exact ⟨ee, sr3.same (same_new hr _), .tup_ (SqT.of upd_same) (.cons_ (by simp only [Nat.zero_add]; exact .int_) (.cons_ (ip.mono ee) .nil_))⟩
  · simp only [enumU, List.length_map, List.length_zipIdx] at hi
    omega
def pairsC : List (CE × CE) → Rho → Sto → Option (List (Key × U) × Sto)
  | [], _, S => some ([], S)
  | (ck, cv) :: r, ρ, S => (ck ρ S).bind fun p => (cv ρ p.2).bind fun q => (keyU p.1).bind fun k => (pairsC r ρ q.2).bind fun z => some ((k, q.1) :: z.1, z.2)
def mergeA (kus : List (Key × U)) (au : List (Key × U)) : List (Key × U) := kus.foldl (fun acc kv => putG acc kv.1 kv.2) au
def mergeG (kus : List (Key × U)) : List (Key × U) := mergeA kus []
def cDisp (prs : List (CE × CE)) : CE := fun ρ S => (pairsC prs ρ (S ++ [.dic []])).bind fun q => match q.2[S.length]? with
  | some (.dic []) => some (.ref S.length, q.2.set S.length (.dic (mergeG q.1)))
  | _ => none
def QP (X : Cx) (pos : Pos) (keys : List (Option Expr)) (values : List Expr) (prs : List (CE × CE)) : Prop := PPs X pos keys values (prs.map fun p => (tE X.K p.1, tE X.K p.2))
theorem qp_nil : QP X pos [] [] [] := pps_nil
theorem qp_cons {k v : Expr} {ks : List (Option Expr)} {vs : List Expr} {ck cv : CE} {prs : List (CE × CE)} (hk : QE X k ck) (hv : QE X v cv) (hr : QP X pos ks vs prs) : QP X pos (some k :: ks) (v :: vs) ((ck, cv) :: prs) := pps_cons hk.h hv.h hr
theorem pairs_imp {K : PySem.W.Frag} {ρ : Rho} {σ : L2.St} : ∀ {prs : List (CE × CE)} {m : List Addr} {S S' : Sto} {H : Hp} {kus : List (Key × U)} {R : List (V × V) → Hp → Prop}, Sr K m S H → Lr K m H ρ σ → pairsC prs ρ S = some (kus, S') →
    (∀ m' kvs H', Ext K m H m' H' → Sr K m' S' H' → IsP K m' H' kvs kus → R (kvs.map fun kv => (kV kv.1, kv.2)) H') → tPairs (prs.map fun p => (tE K p.1, tE K p.2)) σ H R
  | [], m, S, S', H, kus, R, sr, lr, hc, k => by cases hc; exact k m [] H .refl sr .nil_
  | (ck, cv) :: r, m, S, S', H, kus, R, sr, lr, hc, k => by
    obtain ⟨⟨x, S1⟩, h1, h⟩ := Option.bind_eq_some_iff.mp hc
    obtain ⟨⟨y, S2⟩, h2, h⟩ := Option.bind_eq_some_iff.mp h
    obtain ⟨kk, h3, h⟩ := Option.bind_eq_some_iff.mp h
    obtain ⟨⟨zs, S3⟩, h4, h⟩ := Option.bind_eq_some_iff.mp h
    cases h
    refine ⟨m, ρ, S, x, S1, sr, lr, h1, fun m1 v1 H1 e1 sr1 i1 => ⟨m1, ρ, S1, y, S2, sr1, lr.mono e1, h2, fun m2 v2 H2 e2 sr2 i2 => ?_⟩⟩
    refine pairs_imp (prs := r) sr2 (lr.mono (e1.trans e2)) h4 fun m3 kvs H3 e3 sr3 ip => ?_
    have ek := keyU_ok i1 h3
    subst ek
    exact k m3 ((kk, v2) :: kvs) H3 ((e1.trans e2).trans e3) sr3 (.cons_ (i2.mono e3) ip)
theorem pairsC_len : ∀ {prs : List (CE × CE)} {ρ : Rho} {S S' : Sto} {kus : List (Key × U)}, pairsC prs ρ S = some (kus, S') → kus.length = prs.length
  | [], _, _, _, _, h => by cases h; rfl
  | (ck, cv) :: r, ρ, S, S', kus, hc => by
    obtain ⟨⟨x, S1⟩, h1, h⟩ := Option.bind_eq_some_iff.mp hc
    obtain ⟨⟨y, S2⟩, h2, h⟩ := Option.bind_eq_some_iff.mp h
    obtain ⟨kk, h3, h⟩ := Option.bind_eq_some_iff.mp h
    obtain ⟨⟨zs, S3⟩, h4, h⟩ := Option.bind_eq_some_iff.mp h
    cases h
    simp [pairsC_len h4]
theorem IsP.merge {K : PySem.W.Frag} {m : List Addr} {H : Hp} {kvs : List (Key × V)} {kus : List (Key × U)} (h : IsP K m H kvs kus) : ∀ (av : List (Key × V)) (au : List (Key × U)), IsP K m H av au → IsP K m H (mergeK av kvs) (mergeA kus au) :=
  IsP.ind (P := fun kvs kus => ∀ (av : List (Key × V)) (au : List (Key × U)), IsP K m H av au → IsP K m H (mergeK av kvs) (mergeA kus au)) (fun _ _ h => h) (fun k v u kvs kus i _ ih av au ha => ih _ _ (ha.put (k := k) i)) h
theorem q_disp {keys : List (Option Expr)} {values : List Expr} {prs : List (CE × CE)} (h : QP X pos keys values prs) (hall : keys.all (·.isSome) = true) (hl : keys.length = values.length) (h0 : keys ≠ []) (h15 : keys.length ≤ 15) (hp : prs.length ≤ 15) : QE X (.Dict keys values pos) (cDisp prs) :=
  (wpe_disp h hall hl h0 h15).imp fun σ H Q ⟨m, ρ, S, u, S', sr, lr, hc, post⟩ => by
  obtain ⟨⟨kus, S1⟩, h1, h2⟩ := Option.bind_eq_some_iff.mp hc
  simp only at h2
  split at h2 <;> try cases h2
  rename_i hS
  intro p hp'
  have ee : Ext X.K m H (m ++ [p]) (upd H p (.dK [])) := .new (keep_new hp' _)
  refine pairs_imp (sr.new (o := .dic []) hp' ⟨[], upd_same, .nil_⟩) (lr.mono ee) h1 fun m1 kvs H1 e1 sr1 ip => ?_
  have ha : m1[S.length]? = some p := e1.get (last_get sr.len)
  obtain ⟨a', ha', kv0, hx, ip0⟩ := sr1.get hS
  rw [ha] at ha'; cases ha'
  have e0 : kv0 = [] := by have := IsP.length ip0; simpa using this
  subst e0
  have eu : Ext X.K m1 H1 m1 (upd H1 p (.dK (mergeK [] kvs))) := .of (sr1.keep ha _)
  refine ⟨hx, kvs, rfl, by rw [IsP.length ip, pairsC_len h1]; exact hp, post m1 _ _ ((ee.trans e1).trans eu) (sr1.put (o := .dic (mergeG kus)) ha ⟨_, upd_same, (IsP.merge ip _ _ .nil_).mono eu⟩) (.ref_ ha)⟩
end
end OP
set_option maxHeartbeats 1000000
namespace OP
open PySem PySem.Spec PyProof.Rows L2 OG
theorem ints_vals : ∀ {vs : List Value} {ns : List Int}, IntsAre vs ns → Vals (ns.map V.int) vs
  | _, _, .nil => .nil
  | _, _, .cons n t r => .cons ⟨t, rfl⟩ (ints_vals r)
theorem vals_ints : ∀ {ns : List Int} {vs : List Value}, Vals (ns.map V.int) vs → IntsAre vs ns
  | [], _, h => by cases h; exact .nil
  | n :: ns, _, .cons r t => by
    obtain ⟨k, rfl⟩ := r
    exact .cons n k (vals_ints t)
def rSorted (K : PySem.W.Frag) : List V → Hp → VK → Prop := fun xs H Q => ∃ (p : Addr) (ns : List Int), xs = [.ref p] ∧ (SqL K H p (ns.map V.int) ∨ ∃ kvs, H p = some (.dK kvs) ∧ kvs.map (·.1) = ns.map Sum.inl) ∧ ns.length < 64 ∧
  ∀ (l : Addr) (ms : List Int), H l = none → ms.Perm ns → ms.Pairwise (· ≤ ·) → Q (.ref l) (upd H l (.lst (ms.map V.int)))
theorem kv_keys {κ : Type} : ∀ {kvs : List (κ × V)} {vs : List (κ × Value)}, KV kvs vs → vs.map (·.1) = kvs.map (·.1)
  | _, _, .nil => rfl
  | _, _, .cons r t => by rw [List.map_cons, List.map_cons, kv_keys t, r.1]
theorem lst_new {P : Program} {w : World} {H : Hp} {h : Heap} {a : Addr} {ms : List Int} {out : Array Value} {e : Nat} (g : h.get? a = some (seqObj "list" out e)) (hI : IntsAre out.toList ms) (hl : ms.length < 64) : ObjOk P w H h a (.lst (ms.map V.int)) :=
  ⟨by rw [List.length_map]; exact Nat.le_of_lt (Nat.lt_of_lt_of_le hl (by unfold sizeLine; decide)), out.toList, e, ints_vals hI, by rw [Array.toArray_toList]; exact g⟩
theorem o_sorted {X : Cx} (hc : X.calm = true) : CallR X (.builtin "sorted") (rSorted X.K) := by
  rintro pins s σ H xs us Q I r ⟨p, ns, rfl, src, h64, q⟩
  obtain ⟨u, rfl, ru⟩ := vals1 r
  cases ru
  rcases src with hL | ⟨kvs, hD, hk⟩
  · obtain ⟨its, rv, pl, hz⟩ := I.list hL
    have hI := vals_ints rv
    have hlen := rv.length
    rw [List.length_map] at hlen
    refine sorted_ints pl.isList hI (by omega) fun out ms a1 a2 a3 => ?_
    obtain ⟨e, ge⟩ := sortedAll_at s.heap its out
    have hf := I.hok.fresh (Nat.le_succ s.heap.objs.size)
    exact ⟨.ref (s.heap.objs.size + 1), _, I.laid (t' := s.toks) (fun b o e => sortedAll_old e) (Nat.le_succ _) (lst_new ge a1 (by rw [a2.length_eq]; exact h64)), rfl, q _ ms hf a2 a3⟩
  · obtain ⟨z, hd, vs, rel, dd⟩ := dk_of I.hok hD
    obtain ⟨ep, da⟩ := dd.dictAt
    have lkv : kvs.length = ns.length := by have := congrArg List.length hk; simpa using this
    have lv : vs.length = ns.length := by rw [← Paired.length rel]; exact lkv
    have ks : vs.map (·.1) = ns.map Sum.inl := by
      rw [← hk]; exact kv_keys rel
    refine Calls.call_function_entry kind_sorted plain_sorted entry_sorted (args_sorted1 _) ?_
    unfold Builtin.«sorted»
    refine wpAny_bind (m := checkCount "sorted" 1 1 _) (wpAny_pure (wpAny_bind (PySem.W.kdu_collect (PySem.W.kdl_dict (kvs := vs) (ep := ep) hd) (show X.A.in1.handled = none from I.ok.hd hc) da (by rw [lv, ← lkv]; exact z) fun h1 tk acc up hac => ?_)))
    have hla : acc.toList.length = ns.length := by rw [Array.length_toList, hac.1, lv]
    have hI : IntsAre acc.toList ns := by
      have key : ∀ (i : Nat) (v : Value), acc.toList[i]? = some v → ∃ (n : Int) (t : Tok), ns[i]? = some n ∧ v = Value.int n t := fun i v e => by
        obtain ⟨k, x, e1, e2⟩ := hac.2 i v (by rw [← Array.getElem?_toList]; exact e)
        have e3 : (vs.map (·.1))[i]? = some k := by rw [List.getElem?_map, e1]; rfl
        rw [ks, List.getElem?_map] at e3
        obtain ⟨n, e4, e5⟩ := Option.map_eq_some_iff.mp e3
        subst e5
        rcases keyIs_shape (k := Sum.inl n) e2 with ⟨j, t, e6, e7⟩ | ⟨j, t, e6, e7⟩
        · cases e6; exact ⟨n, t, e4, e7⟩
        · cases e6
      clear hac
      generalize acc.toList = L at key hla
      clear ks lv lkv h64 q hk
      induction L generalizing ns with
      | nil => cases ns with
        | nil => exact .nil
        | cons a b => simp at hla
      | cons a b ih => cases ns with
        | nil => simp at hla
        | cons c d =>
          obtain ⟨n, t, e1, e2⟩ := key 0 a (by simp)
          simp at e1; subst e1; subst e2
          exact .cons _ t (ih _ (fun i v e => by have := key (i + 1) v (by simpa using e); simpa using this) (by simpa using hla))
    refine wpAny_bind (wpAny_newList ?_ (by rw [hla, ← lkv]; exact z))
    have gL : (h1.push { cls := .type "list", data := .seq acc.toList.toArray }).get? h1.objs.size = some (seqObj "list" acc.toList.toArray 0) := Heap.get?_push_size _ rfl
    refine wpAny_bind (wpAny_holding (wpAny_call_entry slot_list_sort ⟨_, gL, rfl⟩ entry_list_sort (list_sort_tree (s := { s with heap := h1.push { cls := .type "list", data := .seq acc.toList.toArray }, toks := tk }) gL hI (by omega) fun out ms a1 a2 a3 => ⟨_, rfl, ?_⟩) (args_list_sort _)))
    obtain ⟨e, ge⟩ := sortedHeap_at (out := out) gL
    have I1 : Inv X pins σ H { s with heap := h1, toks := tk } := I.kept up
    have hf := I1.hok.fresh (Nat.le_refl h1.objs.size)
    refine wpAny_pure ⟨_, rfl, .ref h1.objs.size, _, Inv.laid (s := { s with heap := h1, toks := tk }) (h' := sortedHeap (h1.push { cls := .type "list", data := .seq acc.toList.toArray }) h1.objs.size acc.toList out) (t' := tk) I1 (fun b o g1 => ?_) (Nat.le_refl _) (lst_new ge a1 (by rw [a2.length_eq]; exact h64)), rfl, q _ ms hf a2 a3⟩
    have g1 : h1.get? b = some o := g1
    have lt1 := Heap.lt_size g1
    rw [sortedHeap_old (Nat.ne_of_lt lt1) (by rw [Heap.size_push]; exact Nat.lt_succ_of_lt lt1)]
    exact Heap.get?_push_of_some _ g1
def sortI (ns : List Int) : List Int := ns.mergeSort (fun a b => decide (a ≤ b))
theorem sortI_perm (ns : List Int) : (sortI ns).Perm ns := List.mergeSort_perm ..
theorem sortI_sorted (ns : List Int) : (sortI ns).Pairwise (· ≤ ·) := by
  have := List.pairwise_mergeSort (le := fun (a b : Int) => decide (a ≤ b)) (fun a b c h1 h2 => by simp at h1 h2 ⊢; omega) (fun a b => by simp; omega) ns
  exact this.imp fun h => by simpa using h
theorem sortI_of {ns ms : List Int} (p : ms.Perm ns) (s : ms.Pairwise (· ≤ ·)) : ms = sortI ns := PySem.W.lks_uniq (p.trans (sortI_perm ns).symm) s (sortI_sorted ns)
def keysI : List (Key × U) → Option (List Int)
  | [] => some []
  | (.inl n, _) :: r => (keysI r).map (n :: ·)
  | _ => none
theorem keysI_ok : ∀ {kus : List (Key × U)} {ns : List Int}, keysI kus = some ns → kus.map (·.1) = ns.map Sum.inl
  | [], ns, h => by cases h; rfl
  | (k, u) :: r, ns, h => by
    cases k <;> simp only [keysI] at h <;> try cases h
    obtain ⟨ms, e, h⟩ := Option.map_eq_some_iff.mp h
    subst h
    simp [keysI_ok e]
def fSorted : Fn
  | [.ref l], S => match S[l]? with
    | some (.lst us) => (intsU us).bind fun ns => if ns.length < 64 then some (.ref S.length, S ++ [.lst ((sortI ns).map U.int)]) else none
    | some (.dic kus) => (keysI kus).bind fun ns => if ns.length < 64 then some (.ref S.length, S ++ [.lst ((sortI ns).map U.int)]) else none
    | _ => none
  | _, _ => none
theorem p_sorted {K : PySem.W.Frag} : CallP K (rSorted K) fSorted := by
  intro m S H us vs u S' Q sr i hf post
  match us, hf with
  | [.ref l], hf =>
    obtain ⟨v, rfl, iv⟩ := i.one
    obtain ⟨a, ha, rfl⟩ := iv.of_ref
    simp only [fSorted] at hf
    split at hf <;> try cases hf
    · rename_i ws hS
      obtain ⟨ns, hn, h⟩ := Option.bind_eq_some_iff.mp hf
      split at h <;> try cases h
      have hc : ns.length < 64 := by assumption
      obtain ⟨a', ha', xs, hx, la⟩ := sr.get hS
      rw [ha] at ha'; cases ha'
      rw [intsU_ok hn] at la
      rw [la.ints] at hx
      refine ⟨a, ns, rfl, .inl (SqL.of hx), hc, fun p ms hp pm sm => ?_⟩
      rw [sortI_of pm sm]
      exact post_lst sr (isL_ints _) post hp
    · rename_i ws hS
      obtain ⟨ns, hn, h⟩ := Option.bind_eq_some_iff.mp hf
      split at h <;> try cases h
      have hc : ns.length < 64 := by assumption
      obtain ⟨a', ha', kvs, hx, ip⟩ := sr.get hS
      rw [ha] at ha'; cases ha'
      refine ⟨a, ns, rfl, .inr ⟨kvs, hx, by rw [ip.1, keysI_ok hn]⟩, hc, fun p ms hp pm sm => ?_⟩
      rw [sortI_of pm sm]
      exact post_lst sr (isL_ints _) post hp
end OP
set_option maxHeartbeats 1000000
namespace OP
open PySem PySem.Spec PyProof.Rows L2 OG
section
variable {ρ : Rho} {S : Sto} {c1 c2 : CS} {t ta tb : CT} {ca cb cc : CE} {cr : CA} {u x y : U} {us : List U} {i l : Nat} {f g : U → U → Sto → Option (U × Sto)} {b : Bool}
def kVar (S : Sto) : Option (Option U) → Option (U × Sto)
  | some (some u) => some (u, S)
  | _ => none
theorem x_var : cVar i ρ S = kVar S (ρ[i]?) := rfl
theorem x_var' : kVar S (some (some u)) = some (u, S) := rfl
theorem x_c : cC u ρ S = some (u, S) := rfl
def kOp2 (f : U → U → Sto → Option (U × Sto)) (x : U) (q : U × Sto) := f x q.1 q.2
def kOp1 (f : U → U → Sto → Option (U × Sto)) (cb : CE) (ρ : Rho) (p : U × Sto) := (cb ρ p.2).bind (kOp2 f p.1)
theorem x_op : cOp f ca cb ρ S = (ca ρ S).bind (kOp1 f cb ρ) := rfl
theorem x_op1 : kOp1 f cb ρ (x, S) = (cb ρ S).bind (kOp2 f x) := rfl
theorem x_op2 : kOp2 f x (y, S) = f x y S := rfl
def kTest : U × Sto → Option (Bool × Sto)
  | (.bl b, S) => some (b, S)
  | _ => none
theorem x_test : cTest ca ρ S = (ca ρ S).bind kTest := by
  unfold cTest; congr 1; funext p; obtain ⟨u, S⟩ := p; cases u <;> rfl
theorem x_test1 : kTest (.bl b, S) = some (b, S) := rfl
def kAnd (tb : CT) (ρ : Rho) (p : Bool × Sto) := if p.1 = true then tb ρ p.2 else some (false, p.2)
def kOr (tb : CT) (ρ : Rho) (p : Bool × Sto) := if p.1 = true then some (true, p.2) else tb ρ p.2
def kNot (p : Bool × Sto) : Option (Bool × Sto) := some (!p.1, p.2)
theorem x_and : cAnd ta tb ρ S = (ta ρ S).bind (kAnd tb ρ) := rfl
theorem x_and1 : kAnd tb ρ (true, S) = tb ρ S := rfl
theorem x_and2 : kAnd tb ρ (false, S) = some (false, S) := rfl
theorem x_or : cOr ta tb ρ S = (ta ρ S).bind (kOr tb ρ) := rfl
theorem x_or1 : kOr tb ρ (true, S) = some (true, S) := rfl
theorem x_or2 : kOr tb ρ (false, S) = tb ρ S := rfl
theorem x_not : cNot ta ρ S = (ta ρ S).bind kNot := rfl
theorem x_not1 : kNot (b, S) = some (!b, S) := rfl
def kAndV (cb : CE) (ρ : Rho) : U × Sto → Option (U × Sto)
  | (.bl true, S) => cb ρ S
  | (.bl false, S) => some (.bl false, S)
  | _ => none
def kOrV (cb : CE) (ρ : Rho) : U × Sto → Option (U × Sto)
  | (.bl false, S) => cb ρ S
  | (.bl true, S) => some (.bl true, S)
  | _ => none
def kNotV : U × Sto → Option (U × Sto)
  | (.bl b, S) => some (.bl (!b), S)
  | _ => none
theorem x_andV : cAndV ca cb ρ S = (ca ρ S).bind (kAndV cb ρ) := by
  unfold cAndV; congr 1; funext p; obtain ⟨u, S⟩ := p; cases u with
  | bl b => cases b <;> rfl
  | _ => rfl
theorem x_andV1 : kAndV cb ρ (.bl true, S) = cb ρ S := rfl
theorem x_andV2 : kAndV cb ρ (.bl false, S) = some (.bl false, S) := rfl
theorem x_orV : cOrV ca cb ρ S = (ca ρ S).bind (kOrV cb ρ) := by
  unfold cOrV; congr 1; funext p; obtain ⟨u, S⟩ := p; cases u with
  | bl b => cases b <;> rfl
  | _ => rfl
theorem x_orV1 : kOrV cb ρ (.bl false, S) = cb ρ S := rfl
theorem x_orV2 : kOrV cb ρ (.bl true, S) = some (.bl true, S) := rfl
theorem x_notV : cNotV ca ρ S = (ca ρ S).bind kNotV := by
  unfold cNotV; congr 1; funext p; obtain ⟨u, S⟩ := p; cases u <;> rfl
theorem x_notV1 : kNotV (.bl b, S) = some (.bl (!b), S) := rfl
def kCons2 (u : U) (q : List U × Sto) : Option (List U × Sto) := some (u :: q.1, q.2)
def kCons1 (cr : CA) (ρ : Rho) (p : U × Sto) := (cr ρ p.2).bind (kCons2 p.1)
theorem x_nil : cNil ρ S = some ([], S) := rfl
theorem x_cons : cCons ca cr ρ S = (ca ρ S).bind (kCons1 cr ρ) := rfl
theorem x_cons1 : kCons1 cr ρ (u, S) = (cr ρ S).bind (kCons2 u) := rfl
theorem x_cons2 : kCons2 u (us, S) = some (u :: us, S) := rfl
def kTup (p : List U × Sto) : Option (U × Sto) := some (.tup p.1, p.2)
def kLst (p : List U × Sto) : Option (U × Sto) := some (.ref p.2.length, p.2 ++ [.lst p.1])
theorem x_tup : cTup cr ρ S = (cr ρ S).bind kTup := rfl
theorem x_tup1 : kTup (us, S) = some (.tup us, S) := rfl
theorem x_lst : cLst cr ρ S = (cr ρ S).bind kLst := rfl
theorem x_lst1 : kLst (us, S) = some (.ref S.length, S ++ [.lst us]) := rfl
def kCB (f : Fn) (p : List U × Sto) := f p.1 p.2
theorem x_cb {f : Fn} : cCB f cr ρ S = (cr ρ S).bind (kCB f) := rfl
theorem x_cb1 {f : Fn} : kCB f (us, S) = f us S := rfl
def kIsi (T : Ty) (p : U × Sto) : Option (U × Sto) := (tyU p.1 p.2).bind fun t => some (.bl (subT t T), p.2)
theorem x_isi {T : Ty} : cIsi T ca ρ S = (ca ρ S).bind (kIsi T) := rfl
theorem x_isi1 {T : Ty} : kIsi T (u, S) = (tyU u S).bind fun t => some (.bl (subT t T), S) := rfl
def kSeq (c2 : CS) : Out × Rho × Sto → Option (Out × Rho × Sto)
  | (.nx, ρ, S) => c2 ρ S
  | (o, ρ, S) => some (o, ρ, S)
theorem x_skip : cSkip ρ S = some (.nx, ρ, S) := rfl
theorem x_seq : cSeq c1 c2 ρ S = (c1 ρ S).bind (kSeq c2) := by
  unfold cSeq; congr 1; funext p; obtain ⟨o, ρ, S⟩ := p; cases o <;> rfl
theorem x_seq1 : kSeq c2 (.nx, ρ, S) = c2 ρ S := rfl
theorem x_seq2 : kSeq c2 (.rt u, ρ, S) = some (.rt u, ρ, S) := rfl
theorem x_seq3 : kSeq c2 (.bk, ρ, S) = some (.bk, ρ, S) := rfl
theorem x_seq4 : kSeq c2 (.ct, ρ, S) = some (.ct, ρ, S) := rfl
def kDrop (ρ : Rho) (p : U × Sto) : Option (Out × Rho × Sto) := some (.nx, ρ, p.2)
def kRet (ρ : Rho) (p : U × Sto) : Option (Out × Rho × Sto) := some (.rt p.1, ρ, p.2)
theorem x_drop : cDrop ca ρ S = (ca ρ S).bind (kDrop ρ) := rfl
theorem x_drop1 : kDrop ρ (u, S) = some (.nx, ρ, S) := rfl
theorem x_ret : cRet ca ρ S = (ca ρ S).bind (kRet ρ) := rfl
theorem x_ret1 : kRet ρ (u, S) = some (.rt u, ρ, S) := rfl
def kIfS (c1 c2 : CS) (ρ : Rho) (p : Bool × Sto) := if p.1 = true then c1 ρ p.2 else c2 ρ p.2
theorem x_ifs : cIfS t c1 c2 ρ S = (t ρ S).bind (kIfS c1 c2 ρ) := rfl
theorem x_ifs1 : kIfS c1 c2 ρ (true, S) = c1 ρ S := rfl
theorem x_ifs2 : kIfS c1 c2 ρ (false, S) = c2 ρ S := rfl
def kIf (ca cb : CE) (ρ : Rho) (p : Bool × Sto) := if p.1 = true then ca ρ p.2 else cb ρ p.2
theorem x_if : cIf t ca cb ρ S = (t ρ S).bind (kIf ca cb ρ) := rfl
theorem x_if1 : kIf ca cb ρ (true, S) = ca ρ S := rfl
theorem x_if2 : kIf ca cb ρ (false, S) = cb ρ S := rfl
def kSet (i : Nat) (ρ : Rho) (p : U × Sto) : Option (Out × Rho × Sto) := some (.nx, ρ.set i (some p.1), p.2)
theorem x_set : cSet i ca ρ S = (ca ρ S).bind (kSet i ρ) := rfl
theorem x_set1 : kSet i ρ (u, S) = some (.nx, ρ.set i (some u), S) := rfl
def kAsg2 (q : Rho × Sto) : Option (Out × Rho × Sto) := some (.nx, q.1, q.2)
def kAsg (g : CG) (ρ : Rho) (p : U × Sto) := (g p.1 ρ p.2).bind kAsg2
theorem x_asg {g : CG} : cAsg ca g ρ S = (ca ρ S).bind (kAsg g ρ) := rfl
theorem x_asg1 {g : CG} : kAsg g ρ (u, S) = (g u ρ S).bind kAsg2 := rfl
theorem x_asg2 : kAsg2 (ρ, S) = some (.nx, ρ, S) := rfl
theorem x_gnm : gNm i u ρ S = some (ρ.set i (some u), S) := rfl
theorem x_gtp {is : List Nat} : gTp is (.tup us) ρ S = (setAll is us ρ).bind fun ρ' => some (ρ', S) := rfl
theorem x_all0 : setAll [] [] ρ = some ρ := rfl
theorem x_all1 {is : List Nat} : setAll (i :: is) (u :: us) ρ = setAll is us (ρ.set i (some u)) := rfl
def kSI3 (ρ : Rho) (S' : Sto) : Option (Out × Rho × Sto) := some (.nx, ρ, S')
def kSI2 (o v : U) (ρ : Rho) (r : U × Sto) := (fSetIx o r.1 v r.2).bind (kSI3 ρ)
def kSI1 (ci : CE) (v : U) (ρ : Rho) (q : U × Sto) := (ci ρ q.2).bind (kSI2 q.1 v ρ)
def kSI (co ci : CE) (ρ : Rho) (p : U × Sto) := (co ρ p.2).bind (kSI1 ci p.1 ρ)
theorem x_si : cSetIx ca cb cc ρ S = (cc ρ S).bind (kSI ca cb ρ) := rfl
theorem x_si0 : kSI ca cb ρ (u, S) = (ca ρ S).bind (kSI1 cb u ρ) := rfl
theorem x_si1 : kSI1 cb y ρ (u, S) = (cb ρ S).bind (kSI2 u y ρ) := rfl
theorem x_si2 : kSI2 x y ρ (u, S) = (fSetIx x u y S).bind (kSI3 ρ) := rfl
theorem x_si3 : kSI3 ρ S = some (.nx, ρ, S) := rfl
def kIx (y : U) (S : Sto) : Option O → Option (U × Sto)
  | some (.lst us) => (match y with
      | .int i => (atI us i).bind fun u => some (u, S)
      | _ => none)
  | some (.dic kus) => (keyU y).bind fun k => (valG kus k).bind fun u => some (u, S)
  | some (.fdc _ kus) => (keyU y).bind fun k => (valG kus k).bind fun u => some (u, S)
  | _ => none
theorem x_ixt {j : Int} : fIx (.tup us) (.int j) S = (atI us j).bind fun u => some (u, S) := rfl
theorem x_ixr : fIx (.ref l) y S = kIx y S S[l]? := by
  unfold fIx kIx; dsimp only <;> (generalize S[l]? = q; rcases q with _ | o <;> first | rfl | (cases o <;> rfl))
theorem x_ixl {j : Int} : kIx (.int j) S (some (.lst us)) = (atI us j).bind fun u => some (u, S) := rfl
theorem x_ixf {ep : Nat} {kus : List (Key × U)} : kIx y S (some (.fdc ep kus)) = (keyU y).bind fun k => (valG kus k).bind fun u => some (u, S) := rfl
theorem x_ixd {kus : List (Key × U)} : kIx y S (some (.dic kus)) = (keyU y).bind fun k => (valG kus k).bind fun u => some (u, S) := rfl
def kSIx (l : Nat) (i v : U) (S : Sto) : Option O → Option Sto
  | some (.lst us) => (match i with
      | .int k => (ixN us.length k).bind fun j => some (S.set l (.lst (us.set j v)))
      | _ => none)
  | some (.dic kus) => (keyU i).bind fun k => if kus.length < LIM then some (S.set l (.dic (putG kus k v))) else none
  | _ => none
theorem x_six : fSetIx (.ref l) x y S = kSIx l x y S S[l]? := by
  unfold fSetIx kSIx; dsimp only <;> (generalize S[l]? = q; rcases q with _ | o <;> first | rfl | (cases o <;> rfl))
theorem x_sixl {j : Int} : kSIx l (.int j) y S (some (.lst us)) = (ixN us.length j).bind fun j => some (S.set l (.lst (us.set j y))) := rfl
theorem x_sixd {kus : List (Key × U)} : kSIx l x y S (some (.dic kus)) = (keyU x).bind fun k => if kus.length < LIM then some (S.set l (.dic (putG kus k y))) else none := rfl
theorem at0 {α : Type} {a : α} {r : List α} : atI (a :: r) 0 = some a := by show atI _ ((0 : Nat) : Int) = _; exact atI_nat rfl
theorem at1 {α : Type} {a b : α} {r : List α} : atI (a :: b :: r) 1 = some b := by show atI _ ((1 : Nat) : Int) = _; exact atI_nat rfl
theorem at2 {α : Type} {a b c : α} {r : List α} : atI (a :: b :: c :: r) 2 = some c := by show atI _ ((2 : Nat) : Int) = _; exact atI_nat rfl
theorem at3 {α : Type} {a b c d : α} {r : List α} : atI (a :: b :: c :: d :: r) 3 = some d := by show atI _ ((3 : Nat) : Int) = _; exact atI_nat rfl
theorem ix0 {n : Nat} : ixN (n + 1) 0 = some 0 := by simp [ixN]
theorem ix1 {n : Nat} : ixN (n + 1 + 1) 1 = some 1 := by simp [ixN]; omega
theorem ix2 {n : Nat} : ixN (n + 1 + 1 + 1) 2 = some 2 := by simp [ixN]; omega
def kLen (S : Sto) : Option O → Option (U × Sto)
  | some (.lst us) => some (.int us.length, S)
  | some (.dic us) => some (.int us.length, S)
  | _ => none
theorem x_lenr : fLen [.ref l] S = kLen S S[l]? := by
  unfold fLen kLen; dsimp only <;> (generalize S[l]? = q; rcases q with _ | o <;> first | rfl | (cases o <;> rfl))
theorem x_lenl : kLen S (some (.lst us)) = some (.int us.length, S) := rfl
theorem x_lend {kus : List (Key × U)} : kLen S (some (.dic kus)) = some (.int kus.length, S) := rfl
theorem x_lent : fLen [.tup us] S = some (.int us.length, S) := rfl
variable {j k : Int}
theorem x_add : fAdd (.int j) (.int k) S = some (.int (j + k), S) := rfl
theorem x_sub : fSub (.int j) (.int k) S = some (.int (j - k), S) := rfl
theorem x_mul (h : CMul j k) : fMul (.int j) (.int k) S = some (.int (j * k), S) := by simp [fMul, fI, h]
theorem x_div (h : CDivB j k) : fDiv (.int j) (.int k) S = some (.int (j / k), S) := by simp [fDiv, fI, h]
theorem x_mod (h : 0 < k) : fMod (.int j) (.int k) S = some (.int (j % k), S) := by simp [fMod, fI, h]
theorem x_pow (h : CPow j k) : fPow (.int j) (.int k) S = some (.int (j ^ k.toNat), S) := by simp [fPow, fI, h]
theorem x_lt : fLt (.int j) (.int k) S = some (.bl (decide (j < k)), S) := rfl
theorem x_le : fLe (.int j) (.int k) S = some (.bl (decide (j ≤ k)), S) := rfl
theorem x_gt : fGt (.int j) (.int k) S = some (.bl (decide (k < j)), S) := rfl
theorem x_ge : fGe (.int j) (.int k) S = some (.bl (decide (k ≤ j)), S) := rfl
theorem x_eqi : fEq (.int j) (.int k) S = some (.bl (decide (j = k)), S) := rfl
theorem x_nei : fNe (.int j) (.int k) S = some (.bl (!decide (j = k)), S) := rfl
theorem x_eqs {a c : Str} : fEq (.str a) (.str c) S = some (.bl (decide (a = c)), S) := rfl
theorem x_nes {a c : Str} : fNe (.str a) (.str c) S = some (.bl (!decide (a = c)), S) := rfl
theorem x_eqb {a c : Bool} : fEq (.bl a) (.bl c) S = some (.bl (decide (a = c)), S) := rfl
theorem x_neb {a c : Bool} : fNe (.bl a) (.bl c) S = some (.bl (!decide (a = c)), S) := rfl
def kFn : Out × Rho × Sto → Option (U × Sto)
  | (.rt u, _, S) => some (u, S)
  | (.nx, _, S) => some (.non, S)
  | _ => none
theorem x_fn {n k : Nat} (h : us.length = k) : fnU n k c1 us S = (c1 (startU n us) S).bind kFn := by
  unfold fnU; rw [if_pos h]; congr 1; funext p; obtain ⟨o, ρ, S⟩ := p; cases o <;> rfl
theorem x_fn1 : kFn (.rt u, ρ, S) = some (u, S) := rfl
theorem x_fn2 : kFn (.nx, ρ, S) = some (.non, S) := rfl
end
end OP
set_option maxHeartbeats 1000000
namespace OP
open PySem PySem.Spec PyProof.Rows L2 OG
section
variable {ρ : Rho} {S : Sto} {c1 c2 : CS} {t ta tb : CT} {ca cb cc : CE} {cr : CA} {u x y : U} {us : List U} {i l : Nat} {b : Bool} {c : Cl} {fus : List (Option U)} {g : Fn}
open Classical in
noncomputable def kFld2 (c : Cl) (i : Nat) (S : Sto) : Option O → Option (U × Sto)
  | some (.ins c' fus) => if c' = c then (fus[i]?).join.bind fun u => some (u, S) else none
  | _ => none
noncomputable def kFld (c : Cl) (i : Nat) (p : U × Sto) := fFld c i p.1 p.2
theorem x_fld : cFld c i ca ρ S = (ca ρ S).bind (kFld c i) := rfl
theorem x_fld1 : kFld c i (.ref l, S) = kFld2 c i S S[l]? := by
  unfold kFld fFld kFld2; dsimp only <;> (generalize S[l]? = q; rcases q with _ | o <;> first | rfl | (cases o <;> rfl))
theorem x_fld2 : kFld2 c i S (some (.ins c fus)) = ((fus[i]?).join).bind fun u => some (u, S) := by
  unfold kFld2; dsimp only; rw [if_pos rfl]
open Classical in
noncomputable def kSF3 (c : Cl) (i l : Nat) (v : U) (S : Sto) : Option O → Option Sto
  | some (.ins c' fus) => if c' = c then some (S.set l (.ins c (fus.set i (some v)))) else none
  | _ => none
noncomputable def kSF2 (c : Cl) (i : Nat) (v : U) (ρ : Rho) (q : U × Sto) := (fSetF c i q.1 v q.2).bind (kSI3 ρ)
noncomputable def kSF1 (c : Cl) (i : Nat) (ca : CE) (ρ : Rho) (p : U × Sto) := (ca ρ p.2).bind (kSF2 c i p.1 ρ)
theorem x_sf : cSetF c i ca cb ρ S = (cb ρ S).bind (kSF1 c i ca ρ) := rfl
theorem x_sf1 : kSF1 c i ca ρ (u, S) = (ca ρ S).bind (kSF2 c i u ρ) := rfl
theorem x_sf2 : kSF2 c i u ρ (.ref l, S) = (kSF3 c i l u S S[l]?).bind (kSI3 ρ) := by
  unfold kSF2 fSetF kSF3; dsimp only <;> (generalize S[l]? = q; rcases q with _ | o <;> first | rfl | (cases o <;> rfl))
theorem x_sf3 : kSF3 c i l u S (some (.ins c fus)) = some (S.set l (.ins c (fus.set i (some u)))) := by
  unfold kSF3; dsimp only; rw [if_pos rfl]
def kMeth3 (g : Fn) (l : Nat) (q : List U × Sto) := g (.ref l :: q.1) q.2
open Classical in
noncomputable def kMeth2 (c : Cl) (g : Fn) (cr : CA) (ρ : Rho) (l : Nat) (S : Sto) : Option O → Option (U × Sto)
  | some (.ins c' _) => if c' = c then (cr ρ S).bind (kMeth3 g l) else none
  | _ => none
noncomputable def kMeth (c : Cl) (g : Fn) (cr : CA) (ρ : Rho) (p : U × Sto) := fMeth c g p.1 p.2 (cr ρ)
theorem x_meth : cMeth c g ca cr ρ S = (ca ρ S).bind (kMeth c g cr ρ) := rfl
theorem x_meth1 : kMeth c g cr ρ (.ref l, S) = kMeth2 c g cr ρ l S S[l]? := by
  unfold kMeth fMeth kMeth2; dsimp only <;> (generalize S[l]? = q; rcases q with _ | o <;> first | rfl | (cases o <;> rfl))
theorem x_meth2 : kMeth2 c g cr ρ l S (some (.ins c fus)) = (cr ρ S).bind (kMeth3 g l) := by
  unfold kMeth2; dsimp only; rw [if_pos rfl]
theorem x_meth3 : kMeth3 g l (us, S) = g (.ref l :: us) S := rfl
def kMake (n : Nat) : U × Sto → Option (U × Sto)
  | (.non, S) => some (.ref n, S)
  | _ => none
theorem x_make : fMake c g us S = (g (.ref S.length :: us) (S ++ [.ins c (List.replicate c.ns.length none)])).bind (kMake S.length) := by
  unfold fMake; congr 1; funext p; obtain ⟨u, S⟩ := p; cases u <;> rfl
theorem x_make1 : kMake i (.non, S) = some (.ref i, S) := rfl
def kIn (neg : Bool) (x : U) (S : Sto) : Option O → Option (U × Sto)
  | some (.lst us) => if flatU x = true ∧ us.all flatU = true then some (.bl (if neg then !inU x us else inU x us), S) else none
  | some (.dic kus) => (keyU x).bind fun k => some (.bl (if neg then !(valG kus k).isSome else (valG kus k).isSome), S)
  | some (.fdc _ kus) => (keyU x).bind fun k => some (.bl (if neg then !(valG kus k).isSome else (valG kus k).isSome), S)
  | _ => none
theorem x_inr {neg : Bool} : fIn neg x (.ref l) S = kIn neg x S S[l]? := by
  unfold fIn kIn; dsimp only <;> (generalize S[l]? = q; rcases q with _ | o <;> first | rfl | (cases o <;> rfl))
theorem x_ind {neg : Bool} {kus : List (Key × U)} : kIn neg x S (some (.dic kus)) = (keyU x).bind fun k => some (.bl (if neg then !(valG kus k).isSome else (valG kus k).isSome), S) := rfl
theorem x_inl {neg : Bool} (h : flatU x = true ∧ us.all flatU = true) : kIn neg x S (some (.lst us)) = some (.bl (if neg then !inU x us else inU x us), S) := by
  unfold kIn; dsimp only; rw [if_pos h]
theorem x_key {j : Int} : keyU (.int j) = some (.inl j) := rfl
theorem x_keys {z : Str} : keyU (.str z) = some (.inr z) := rfl
def kBM2 (f : U → List U → Sto → Option (U × Sto)) (x : U) (q : List U × Sto) := f x q.1 q.2
def kBM1 (f : U → List U → Sto → Option (U × Sto)) (cr : CA) (ρ : Rho) (x : U) (S : Sto) : Option O → Option (U × Sto)
  | some (.lst _) => (cr ρ S).bind (kBM2 f x)
  | _ => none
def kBM (f : U → List U → Sto → Option (U × Sto)) (cr : CA) (ρ : Rho) : U × Sto → Option (U × Sto)
  | (.ref l, S) => kBM1 f cr ρ (.ref l) S S[l]?
  | _ => none
variable {fm : U → List U → Sto → Option (U × Sto)}
theorem x_bm : cBM fm ca cr ρ S = (ca ρ S).bind (kBM fm cr ρ) := by
  unfold cBM; congr 1; funext p; obtain ⟨u, S⟩ := p
  cases u <;> try rfl
theorem x_bm0 : kBM fm cr ρ (.ref l, S) = kBM1 fm cr ρ (.ref l) S S[l]? := rfl
theorem x_bm1 : kBM1 fm cr ρ x S (some (.lst us)) = (cr ρ S).bind (kBM2 fm x) := rfl
theorem x_bm2 : kBM2 fm x (us, S) = fm x us S := rfl
def kApp (l : Nat) (u : U) (S : Sto) : Option O → Option (U × Sto)
  | some (.lst us) => if us.length < LIM then some (.non, S.set l (.lst (us ++ [u]))) else none
  | _ => none
theorem x_app : fAppend (.ref l) [u] S = kApp l u S S[l]? := by
  unfold fAppend kApp; dsimp only <;> (generalize S[l]? = q; rcases q with _ | o <;> first | rfl | (cases o <;> rfl))
theorem x_app1 (h : us.length < LIM) : kApp l u S (some (.lst us)) = some (.non, S.set l (.lst (us ++ [u]))) := by
  unfold kApp; dsimp only; rw [if_pos h]
def kDG3 (ku xu : U) (S : Sto) : Option O → Option (U × Sto)
  | some (.dic kus) => (keyU ku).bind fun k => some ((valG kus k).getD xu, S)
  | _ => none
def kDG2 (l : Nat) (ku : U) (r : U × Sto) := kDG3 ku r.1 r.2 r.2[l]?
def kDG1 (l : Nat) (cx : CE) (ρ : Rho) (q : U × Sto) := (cx ρ q.2).bind (kDG2 l q.1)
def kDG0 (l : Nat) (ck cx : CE) (ρ : Rho) (S : Sto) : Option O → Option (U × Sto)
  | some (.dic _) => (ck ρ S).bind (kDG1 l cx ρ)
  | _ => none
def kDG (ck cx : CE) (ρ : Rho) : U × Sto → Option (U × Sto)
  | (.ref l, S) => kDG0 l ck cx ρ S S[l]?
  | _ => none
theorem x_dg : cDGet ca cb cc ρ S = (ca ρ S).bind (kDG cb cc ρ) := by
  unfold cDGet; congr 1; funext p; obtain ⟨u, S⟩ := p
  cases u <;> try rfl
theorem x_dg0 : kDG cb cc ρ (.ref l, S) = kDG0 l cb cc ρ S S[l]? := rfl
theorem x_dg1 {kus : List (Key × U)} : kDG0 l cb cc ρ S (some (.dic kus)) = (cb ρ S).bind (kDG1 l cc ρ) := rfl
theorem x_dg2 : kDG1 l cc ρ (u, S) = (cc ρ S).bind (kDG2 l u) := rfl
theorem x_dg3 : kDG2 l u (x, S) = kDG3 u x S S[l]? := rfl
theorem x_dg4 {kus : List (Key × U)} : kDG3 u x S (some (.dic kus)) = (keyU u).bind fun k => some ((valG kus k).getD x, S) := rfl
theorem x_dnew : cDNew ρ S = some (.ref S.length, S ++ [.dic []]) := rfl
def kP3 (k : Key) (u : U) (z : List (Key × U) × Sto) : Option (List (Key × U) × Sto) := some ((k, u) :: z.1, z.2)
def kP2 (r : List (CE × CE)) (ρ : Rho) (x : U) (q : U × Sto) := (keyU x).bind fun k => (pairsC r ρ q.2).bind (kP3 k q.1)
def kP1 (cv : CE) (r : List (CE × CE)) (ρ : Rho) (p : U × Sto) := (cv ρ p.2).bind (kP2 r ρ p.1)
variable {pr : List (CE × CE)}
theorem x_p0 : pairsC [] ρ S = some ([], S) := rfl
theorem x_p : pairsC ((ca, cb) :: pr) ρ S = (ca ρ S).bind (kP1 cb pr ρ) := rfl
theorem x_p1 : kP1 cb pr ρ (u, S) = (cb ρ S).bind (kP2 pr ρ u) := rfl
theorem x_p2 : kP2 pr ρ x (u, S) = (keyU x).bind fun k => (pairsC pr ρ S).bind (kP3 k u) := rfl
theorem x_p3 {k : Key} {z : List (Key × U)} : kP3 k u (z, S) = some ((k, u) :: z, S) := rfl
def kD1 (n : Nat) (kus : List (Key × U)) (S : Sto) : Option O → Option (U × Sto)
  | some (.dic []) => some (.ref n, S.set n (.dic (mergeG kus)))
  | _ => none
def kD (n : Nat) (q : List (Key × U) × Sto) := kD1 n q.1 q.2 q.2[n]?
theorem x_disp : cDisp pr ρ S = (pairsC pr ρ (S ++ [.dic []])).bind (kD S.length) := by
  unfold cDisp; congr 1
theorem x_disp1 {z : List (Key × U)} : kD i (z, S) = kD1 i z S S[i]? := rfl
theorem x_disp2 {z : List (Key × U)} : kD1 i z S (some (.dic [])) = some (.ref i, S.set i (.dic (mergeG z))) := rfl
theorem x_tupt : fTuple [.tup us] S = some (.tup us, S) := rfl
def kTpl (S : Sto) : Option O → Option (U × Sto)
  | some (.lst us) => some (.tup us, S)
  | _ => none
theorem x_tupr : fTuple [.ref l] S = kTpl S S[l]? := by
  unfold fTuple kTpl; dsimp only <;> (generalize S[l]? = q; rcases q with _ | o <;> first | rfl | (cases o <;> rfl))
theorem x_tupl : kTpl S (some (.lst us)) = some (.tup us, S) := rfl
theorem x_listt : fList [.tup us] S = some (.ref S.length, S ++ [.lst us]) := rfl
def kLs (S : Sto) : Option O → Option (U × Sto)
  | some (.lst us) => some (.ref S.length, S ++ [.lst us])
  | _ => none
theorem x_listr : fList [.ref l] S = kLs S S[l]? := by
  unfold fList kLs; dsimp only <;> (generalize S[l]? = q; rcases q with _ | o <;> first | rfl | (cases o <;> rfl))
theorem x_listl : kLs S (some (.lst us)) = some (.ref S.length, S ++ [.lst us]) := rfl
theorem x_intb : fInt [.bl b] S = some (.int (if b then 1 else 0), S) := rfl
theorem ga {X : Sto} {n : Nat} : (S ++ X)[S.length + n]? = X[n]? := by rw [List.getElem?_append_right (Nat.le_add_right _ _), Nat.add_sub_cancel_left]
theorem ga0 {X : Sto} : (S ++ X)[S.length]? = X[0]? := ga (n := 0)
theorem gs {X : Sto} {n : Nat} {o : O} : (S ++ X).set (S.length + n) o = S ++ X.set n o := by rw [List.set_append_right _ _ (Nat.le_add_right _ _), Nat.add_sub_cancel_left]
theorem gs0 {X : Sto} {o : O} : (S ++ X).set S.length o = S ++ X.set 0 o := gs (n := 0)
section
variable {ok : Sto → Prop} {gg : CG} {cbd : CS} {ρ0 ρ1 : Rho} {S0 S1 : Sto}
theorem loop_nil (h : ok S) : loopU ok gg cbd [] ρ S = some (.nx, ρ, S) := by unfold loopU; rw [if_pos h]
theorem loop_nx (h : ok S) (hg : gg u ρ S = some (ρ0, S0)) (hb : cbd ρ0 S0 = some (.nx, ρ1, S1)) : loopU ok gg cbd (u :: us) ρ S = loopU ok gg cbd us ρ1 S1 := by
  rw [loopU]; dsimp only; rw [if_pos h, hg, Option.bind_some]; dsimp only; rw [hb, Option.bind_some]
theorem loop_rt (h : ok S) (hg : gg u ρ S = some (ρ0, S0)) (hb : cbd ρ0 S0 = some (.rt x, ρ1, S1)) : loopU ok gg cbd (u :: us) ρ S = some (.rt x, ρ1, S1) := by
  rw [loopU]; dsimp only; rw [if_pos h, hg, Option.bind_some]; dsimp only; rw [hb, Option.bind_some]
theorem while_nx {n : Nat} (ht : t ρ S = some (true, S0)) (hb : cbd ρ S0 = some (.nx, ρ1, S1)) : whileU t cbd (n + 1) ρ S = whileU t cbd n ρ1 S1 := by
  rw [whileU]; dsimp only; rw [ht, Option.bind_some]; dsimp only; rw [if_pos rfl, hb, Option.bind_some]
theorem while_rt {n : Nat} (ht : t ρ S = some (true, S0)) (hb : cbd ρ S0 = some (.rt x, ρ1, S1)) : whileU t cbd (n + 1) ρ S = some (.rt x, ρ1, S1) := by
  rw [whileU]; dsimp only; rw [ht, Option.bind_some]; dsimp only; rw [if_pos rfl, hb, Option.bind_some]
theorem while_end {n : Nat} (ht : t ρ S = some (false, S0)) : whileU t cbd (n + 1) ρ S = some (.nx, ρ, S0) := by
  rw [whileU]; dsimp only; rw [ht, Option.bind_some]; dsimp only; rw [if_neg (by decide)]
theorem comp_cons {ce : CE} {ys : List U} (h : ok S) (hg : gg u ρ S = some (ρ0, S0)) (he : ce ρ0 S0 = some (x, S1)) (hl : S1[l]? = some (.lst ys)) (hn : ys.length < LIM) : compU ok gg ce l (u :: us) ρ S = compU ok gg ce l us ρ0 (S1.set l (.lst (ys ++ [x]))) := by
  rw [compU, if_pos h, hg, Option.bind_some]; dsimp only; rw [he, Option.bind_some]; dsimp only; rw [hl]; dsimp only; rw [if_pos hn]
theorem comp_nil {ce : CE} (h : ok S) : compU ok gg ce l [] ρ S = some S := by rw [compU, if_pos h]
end
end
end OP
namespace OP
open PySem PySem.Spec PyProof.Rows L2 OG
theorem law_end {K : PySem.W.Frag} {H : Hp} {p xs : Addr} {c : CS} {r : Rho} {σ : L2.St} {v0 : Option V} {Q : VK} {nx bk ct : L2.St → Hp → Prop} (P : PenX H p xs)
    (ok : ∀ (ns : List Int) (a b : Int), 0 ≤ a → 0 ≤ b → ∃ ρ' S', c (none :: some (.ref 1) :: r) [.lst (ns.map U.int), .lst [.ref 0, .int a, .int b]] = some (.rt (.bl true), ρ', S')) (q : ∀ H', Q (.bl true) H')
    (hr : r = List.replicate r.length none := by rfl) (hl : σ.length = r.length := by rfl) : tS K c { nx := nx, rt := Q, bk := bk, ct := ct } (v0 :: some (.ref p) :: σ) H := by
  obtain ⟨ns, a, b, h1, h2, h3, h4, h5⟩ := P
  obtain ⟨ρ', S', e⟩ := ok ns a b h4 h5
  refine ⟨[xs, p], _, _, _, ρ', S', ⟨rfl, by simp [h3], fun l ad o e1 e2 => ?_⟩, ⟨by simp [hl], fun i u e1 => ?_⟩, e, fun m' v H' _ _ iv => by rw [iv.of_bl]; exact q H'⟩
  · match l, e1, e2 with
    | 0, e1, e2 =>
      simp at e1 e2
      subst e1; subst e2
      exact ⟨_, h2, isL_ints ns⟩
    | 1, e1, e2 =>
      simp at e1 e2
      subst e1; subst e2
      exact ⟨_, h1, .cons_ (.ref_ rfl) (.cons_ .int_ (.cons_ .int_ .nil_))⟩
    | l + 2, e1, e2 => simp at e1
  · match i, e1 with
    | 0, e1 => simp at e1
    | 1, e1 =>
      simp at e1
      subst e1
      exact ⟨.ref p, rfl, .ref_ rfl⟩
    | i + 2, e1 =>
      simp at e1
      rw [hr, List.getElem?_replicate] at e1
      split at e1 <;> cases e1
end OP
namespace OP
end OP
set_option maxHeartbeats 1000000
namespace OP
open PySem PySem.Spec PyProof.Rows L2 OG
def FzAt (H : Hp) (a : Addr) (ep : Nat) (ks : List Key) : Prop := ∃ ob es kvs, H a = some (.frz ob (.dK kvs)) ∧ ob.data = .dict es ep ∧ kvs.map (·.1) = ks
def Itd (a : Addr) (ep : Nat) (ks : List Key) : It :=
  ⟨fun i H => i < ks.length ∧ FzAt H a ep ks, fun i H x H' => H' = H ∧ ∃ k, ks[i]? = some k ∧ x = kV k, fun i H => ks.length ≤ i ∧ FzAt H a ep ks⟩
theorem frz_at {P : Program} {w : World} {H : Hp} {h : Heap} {a : Addr} {ob : Obj} {kvs : List (Key × V)} {es : Array DictEntry} {ep : Nat} (ok : HOk P w H h) (e : H a = some (.frz ob (.dK kvs))) (d : ob.data = .dict es ep) : ∃ vs, KV kvs vs ∧ h.DictAt (mixKind P w) a vs ep := by
  obtain ⟨e1, _, _, vs, r, o, es', ep', e2, e3, e4, rest⟩ := (show ObjOk P w H h a (.frz ob (.dK kvs)) from ok a _ e)
  rw [e1] at e2; cases e2
  rw [d] at e4; cases e4
  exact ⟨vs, r, ob, es, e1, e3, d, rest⟩
theorem kv_get {κ : Type} : ∀ {kvs : List (κ × V)} {vs : List (κ × Value)} {i : Nat} {k : κ} {v : V}, KV kvs vs → kvs[i]? = some (k, v) → ∃ u, vs[i]? = some (k, u)
  | _, _, i, k, v, .nil, h => by simp at h
  | _, _, 0, k, v, .cons (b := (k', u)) r t, h => by
    simp at h; subst h
    have : k = k' := r.1
    subst this
    exact ⟨u, by simp⟩
  | _, _, i + 1, k, v, .cons r t, h => by
    obtain ⟨u, e⟩ := kv_get (i := i) t (by simpa using h)
    exact ⟨u, by simpa using e⟩
theorem key_rel {k : Key} {u : Value} (h : keyIs k u = true) : RelV (kV k) u := by
  rcases keyIs_shape h with ⟨i, t, rfl, rfl⟩ | ⟨i, t, rfl, rfl⟩
  · exact ⟨t, rfl⟩
  · exact ⟨t, rfl⟩
theorem turn_dict {P : Program} {w : World} {K : PySem.W.Frag} {tg : Expr} (a it : Addr) {ks : List Key} {ep : Nat} :
    Turn P w K tg (Itd a ep ks) [it] it (fun n h => h.IsKeyIter it a n ks.length ep) where
  mem := by simp
  obj := fun n h st c hc => by
    simp only [List.mem_cons, List.not_mem_nil, or_false] at hc
    subst hc
    obtain ⟨o, e, _, q⟩ := st
    exact ⟨o, e, fun v z => by rw [q] at z; cases z⟩
  keep := fun n h h' st kp => Heap.IsKeyIter.at st fun o q => kp it (by simp) o q
  item := by
    intro X hP hw hK hc n pins s σ H E Iv hf st hg
    subst hP hw hK
    obtain ⟨hi, ob, es, kvs, hq, d, ek⟩ := hg
    obtain ⟨vs, rv, da⟩ := frz_at Iv.hok hq d
    have hl : ks.length = vs.length := by rw [← ek, List.length_map]; exact Paired.length rv
    have hi' : n < kvs.length := by rw [← ek, List.length_map] at hi; exact hi
    have hx : kvs[n]? = some ((kvs[n]).1, (kvs[n]).2) := List.getElem?_eq_getElem hi'
    obtain ⟨u, hu⟩ := kv_get rv hx
    obtain ⟨f0, f1, f2, f3⟩ := hf it (by simp)
    have st' : s.heap.IsKeyIter it a n vs.length ep := by rw [← hl]; exact st
    refine wpAny_pyNext_dict_item st' da hu fun key h1 hk st1 sb => ⟨key, rfl, ?_⟩
    have I1 : Inv X pins σ H { s with heap := h1 } := Iv.turned (t' := s.toks) (fun b o hb e => (sb.2 b hb).trans e) f0 f1 f3.1 f3.2.1 f3.2.2
    have st2 : h1.IsKeyIter it a (n + 1) ks.length ep := by rw [hl]; exact st1
    obtain ⟨o, e, c, q⟩ := id st2
    exact go_of (s := { s with heap := h1 }) e c q (by decide) ⟨kV (kvs[n]).1, H, I1, key_rel hk, ⟨rfl, _, by rw [← ek, List.getElem?_map, hx]; rfl, rfl⟩, st2, fun b hb => (hf b hb).1⟩
  done := by
    intro X hP hw hK hc n pins s σ H E Iv hf st hg
    subst hP hw hK
    obtain ⟨hi, ob, es, kvs, hq, d, ek⟩ := hg
    obtain ⟨vs, rv, da⟩ := frz_at Iv.hok hq d
    have hl : ks.length = vs.length := by rw [← ek, List.length_map]; exact Paired.length rv
    obtain ⟨f0, f1, f2, f3⟩ := hf it (by simp)
    have st' : s.heap.IsKeyIter it a n vs.length ep := by rw [← hl]; exact st
    exact wpAny_pyNext_dict_end (Iv.ok.hd hc) st' da (by rw [List.getElem?_eq_none_iff]; omega) fun h1 eb => ⟨rfl, Iv.turned (t' := s.toks) (fun b o hb e => eb b o hb e) f0 f1 f3.1 f3.2.1 f3.2.2⟩
  self := fun _ _ _ _ _ st h => wpAny_pyIter_keyiter st h
theorem inv_swap {X : Cx} {pins : List (Addr × Obj)} {σ : L2.St} {H : Hp} {s : Shared} {a : Addr} {o u : HO} (I : Inv X pins σ H s) (e : H a = some o) (nt : ∀ xs, o ≠ .tup xs) (no : ∀ x, o ≠ .own x) (nb : ∀ ps, o ≠ .tbl ps)
    (nf : ∀ ob u, X.H₀ a ≠ some (.frz ob u)) (new : ObjOk X.prog X.w (upd H a u) s.heap a u) : Inv X pins σ (upd H a u) s := by
  have nn : ∀ b, H b = none → upd H a u b = none := fun b q => by rw [upd_ne (Ne.symm (ne_of_none e q))]; exact q
  have ho : ∀ b x, H b = some (.own x) → upd H a u b = some (.own x) := fun b x q => by
    rw [upd_ne]; exact q
    intro z; subst z; rw [e] at q; cases q; exact no _ rfl
  have ht : ∀ b xs, H b = some (.tup xs) → upd H a u b = some (.tup xs) := fun b x q => by
    rw [upd_ne]; exact q
    intro z; subst z; rw [e] at q; cases q; exact nt _ rfl
  refine ⟨I.ok, I.os, I.bare, ⟨I.base.keep, I.base.slot, fun b ob q1 q2 q3 => nn _ (I.base.free b ob q1 q2 q3), I.base.there, fun b xs q => ht _ _ (I.base.tups b xs q), fun b ob v q => ?_, fun b ps q => ?_⟩, I.loc, I.cell, nn _ I.free, fun x c q => nn _ (I.freeC x c q), fun p hp => ?_, fun b v q => ?_, I.len⟩
  · rw [upd_ne]; exact I.base.frzs b ob v q
    intro z; subst z; exact nf _ _ q
  · obtain ⟨more, q'⟩ := I.base.tbls b ps q
    refine ⟨more, ?_⟩
    rw [upd_ne]; exact q'
    intro z; subst z; rw [e] at q'; cases q'; exact nb _ rfl
  · obtain ⟨p1, p2, p3⟩ := I.pin p hp
    exact ⟨p1, nn _ p2, p3⟩
  · by_cases hb : b = a
    · subst hb; rw [upd_same] at q; cases q; exact new
    · rw [upd_ne hb] at q
      exact (I.hok b v q).stay (fun _ _ _ g => g) (fun c g => ho c b g) fun c xs g => ht c xs g
def NoFr (X : Cx) (a : Addr) : Prop := ∀ ob u, X.H₀ a ≠ some (.frz ob u)
def iDict (X : Cx) (tl : TE) : TI := fun σ H R => tl σ H fun x H1 => ∃ a kvs, x = .ref a ∧ H1 a = some (.dK kvs) ∧ ∀ ob es ep, NoFr X a → ob.data = .dict es ep → R (Itd a ep (kvs.map (·.1))) (upd H1 a (.frz ob (.dK kvs)))
theorem wi_dict {X : Cx} {tg l : Expr} {tl : TE} (hl : WE X l tl) : WI X tg l (iDict X tl) := by
  constructor
  intro pins s σ H R I h
  refine thn (hl.h pins s σ H _ I h) fun v s1 ⟨x, H1, I1, r1, q1⟩ => ?_
  obtain ⟨a, kvs, rfl, hq, q⟩ := q1
  cases r1
  obtain ⟨hz, hs, vs, rv, ob, es, ep, e1, e2, e3, rest⟩ := dk_of I1.hok hq
  have da : s1.heap.DictAt (mixKind X.prog X.w) a vs ep := ⟨ob, es, e1, e2, e3, rest⟩
  have hl : kvs.length = vs.length := Paired.length rv
  have nf : NoFr X a := fun ob' u' z => by have := I1.base.frzs a ob' u' z; rw [hq] at this; cases this
  have I2 : Inv X pins σ (upd H1 a (.frz ob (.dK kvs))) s1 := inv_swap I1 hq (by simp) (by simp) (by simp) nf ⟨e1, hz, hs, vs, rv, ob, es, ep, e1, e2, e3, rest⟩
  refine wpAny_pyIter_dict hs da ?_
  refine ⟨s1.heap.objs.size, [s1.heap.objs.size], _, _, _, rfl, I2.kept (t' := s1.toks) fun b o g => Heap.get?_push_of_some _ g, turn_dict a _, ⟨_, Heap.get?_push_size _ rfl, rfl, by rw [List.length_map, hl]; rfl⟩, fun b hb => ?_, q ob es ep nf e3⟩
  simp only [List.mem_cons, List.not_mem_nil, or_false] at hb
  subst hb
  exact I2.fpOk (Nat.le_refl _) (I2.hok.fresh (Nat.le_refl _))
def Dthaw (X : Cx) (D : Ends) : Ends where
  nx := fun σ H => ∃ a ob kvs, NoFr X a ∧ H a = some (.frz ob (.dK kvs)) ∧ D.nx σ (upd H a (.dK kvs))
  rt := fun v H => ∃ a ob kvs, NoFr X a ∧ H a = some (.frz ob (.dK kvs)) ∧ D.rt v (upd H a (.dK kvs))
  bk := fun σ H => ∃ a ob kvs, NoFr X a ∧ H a = some (.frz ob (.dK kvs)) ∧ D.bk σ (upd H a (.dK kvs))
  ct := fun σ H => ∃ a ob kvs, NoFr X a ∧ H a = some (.frz ob (.dK kvs)) ∧ D.ct σ (upd H a (.dK kvs))
theorem inv_thaw {X : Cx} {pins : List (Addr × Obj)} {σ : L2.St} {H : Hp} {s : Shared} {a : Addr} {ob : Obj} {kvs : List (Key × V)} (I : Inv X pins σ H s) (nf : NoFr X a) (e : H a = some (.frz ob (.dK kvs))) : Inv X pins σ (upd H a (.dK kvs)) s :=
  inv_swap I e (by simp) (by simp) (by simp) nf (show ObjOk X.prog X.w H s.heap a (.frz ob (.dK kvs)) from I.hok a _ e).2
theorem ws_thaw {X : Cx} {st : Stmt} {t : TS} (h : WS X st t) : WS X st (fun D σ H => t (Dthaw X D) σ H) := by
  constructor
  intro pins s σ H D I k
  refine thn (h.h pins s σ H _ I k) fun f s1 q => ?_
  cases f with
  | next => obtain ⟨σ1, H1, I1, a, ob, kvs, nf, e, r⟩ := q; exact ⟨σ1, _, inv_thaw I1 nf e, r⟩
  | brk => obtain ⟨σ1, H1, I1, a, ob, kvs, nf, e, r⟩ := q; exact ⟨σ1, _, inv_thaw I1 nf e, r⟩
  | cont => obtain ⟨σ1, H1, I1, a, ob, kvs, nf, e, r⟩ := q; exact ⟨σ1, _, inv_thaw I1 nf e, r⟩
  | ret u => obtain ⟨v, σ1, H1, I1, rv, a, ob, kvs, nf, e, r⟩ := q; exact ⟨v, σ1, _, inv_thaw I1 nf e, rv, r⟩
def kU : Key → U
  | .inl i => .int i
  | .inr x => .str x
theorem is_key {K : PySem.W.Frag} {m : List Addr} {H : Hp} (k : Key) : Is K m H (kV k) (kU k) := by
  cases k with
  | inl i => exact .int_
  | inr x => exact .str_
open Classical in
noncomputable def uni {α : Type} (F : Nat → Option α) : Option α := if h : ∃ r, ∀ n, F n = some r then some h.choose else none
theorem uni_of {α : Type} {F : Nat → Option α} {r : α} (h : ∀ n, F n = some r) : uni F = some r := by
  have hx : ∃ r, ∀ n, F n = some r := ⟨r, h⟩
  unfold uni
  rw [dif_pos hx]
  have := hx.choose_spec 0
  rw [h 0] at this
  exact this.symm
theorem uni_some {α : Type} {F : Nat → Option α} {r : α} (h : uni F = some r) (n : Nat) : F n = some r := by
  unfold uni at h
  split at h
  · rename_i hx
    cases h
    exact hx.choose_spec n
  · cases h
noncomputable def cForD (ce : CE) (g : CG) (cb : CS) : CS := fun ρ S => (ce ρ S).bind fun p => match p.1 with
  | .ref l => match p.2[l]? with
    | some (.dic kus) => uni fun ep => (loopU (fun S' => S'[l]? = some (.fdc ep kus)) g cb (kus.map fun q => kU q.1) ρ (p.2.set l (.fdc ep kus))).bind fun r => match r.2.2[l]? with
      | some (.fdc _ kus') => some (r.1, r.2.1, r.2.2.set l (.dic kus'))
      | _ => none
    | _ => none
  | _ => none
theorem it_dict {K : PySem.W.Frag} {m : List Addr} {H : Hp} {a : Addr} {l ep : Nat} {kus : List (Key × U)} (ha : m[l]? = some a) : ItOk K (Itd a ep (kus.map (·.1))) m H (kus.map fun q => kU q.1) (fun S' => S'[l]? = some (.fdc ep kus)) := by
  intro m2 S2 H2 i e sr hok
  obtain ⟨a', ha', ob, es, kvs, hx, hd, ip⟩ := sr.get hok
  have ha2 := e.get ha
  rw [ha2] at ha'; cases ha'
  have hz : FzAt H2 a ep (kus.map (·.1)) := ⟨ob, es, kvs, hx, hd, ip.1⟩
  refine ⟨fun u hu => ?_, fun hu => ⟨by simpa using hu, hz⟩⟩
  have hi : i < kus.length := by have := (List.getElem?_eq_some_iff.mp hu).1; simpa using this
  refine ⟨⟨by simpa using hi, hz⟩, ?_⟩
  rintro x H3 ⟨rfl, k, hk, rfl⟩
  refine ⟨.refl, sr, ?_⟩
  rw [List.getElem?_map] at hk hu
  rw [List.getElem?_eq_getElem hi] at hk hu
  cases hk; cases hu
  exact is_key _
theorem forD_imp {X : Cx} {ce : CE} {g : CG} {cb : CS} : ∀ D σ H, tS X.K (cForD ce g cb) D σ H → tFor (iDict X (tE X.K ce)) (tG X.K g) (tS X.K cb) (Dthaw X D) σ H := by
  rintro D σ H ⟨m, ρ, S, o, ρ', S', sr, lr, hc, post⟩
  obtain ⟨⟨x, S1⟩, h1, h⟩ := Option.bind_eq_some_iff.mp hc
  refine ⟨m, ρ, S, x, S1, sr, lr, h1, fun m1 v1 H1 e1 sr1 i1 => ?_⟩
  cases x with
  | ref l =>
    simp only at h
    split at h <;> try cases h
    rename_i kus hS
    obtain ⟨a, ha, rfl⟩ := i1.of_ref
    obtain ⟨a', ha', kvs, hx, ip⟩ := sr1.get hS
    rw [ha] at ha'; cases ha'
    refine ⟨a, kvs, rfl, hx, fun ob es ep nf hd => ?_⟩
    obtain ⟨⟨o1, ρ1, S2⟩, h2, h3⟩ := Option.bind_eq_some_iff.mp (uni_some h ep)
    simp only at h3
    split at h3 <;> try cases h3
    rename_i ep' kus' hS2
    have kp : Keep X.K H1 (upd H1 a (.frz ob (.dK kvs))) := sr1.keep ha _
    have ee : Ext X.K m1 H1 m1 (upd H1 a (.frz ob (.dK kvs))) := .of kp
    have sr2 : Sr X.K m1 (S1.set l (.fdc ep kus)) (upd H1 a (.frz ob (.dK kvs))) := sr1.put ha ⟨ob, es, kvs, upd_same, hd, ip.mono ee⟩
    rw [ip.1]
    refine loop_imp sr2 (lr.mono (e1.trans ee)) (it_dict ha) h2 ?_
    have back : ∀ m3 H3, Ext X.K m1 (upd H1 a (.frz ob (.dK kvs))) m3 H3 → Sr X.K m3 S2 H3 → ∃ ob' kvs', H3 a = some (.frz ob' (.dK kvs')) ∧ Ext X.K m3 H3 m3 (upd H3 a (.dK kvs')) ∧ Sr X.K m3 (S2.set l (.dic kus')) (upd H3 a (.dK kvs')) := fun m3 H3 e3 sr3 => by
      obtain ⟨a3, ha3, ob3, es3, kvs3, hx3, hd3, ip3⟩ := sr3.get hS2
      rw [e3.get ha] at ha3; cases ha3
      have e4 : Ext X.K m3 H3 m3 (upd H3 a (.dK kvs3)) := .of (sr3.keep (e3.get ha) _)
      exact ⟨ob3, kvs3, hx3, e4, sr3.put (e3.get ha) ⟨kvs3, upd_same, ip3.mono e4⟩⟩
    have nxt : ∀ (R : L2.St → Hp → Prop), PostN X.K m H R ρ' (S2.set l (.dic kus')) → PostN X.K m1 (upd H1 a (.frz ob (.dK kvs))) (fun σ H => ∃ a ob kvs, NoFr X a ∧ H a = some (.frz ob (.dK kvs)) ∧ R σ (upd H a (.dK kvs))) ρ' S2 := fun R p m3 σ3 H3 e3 sr3 lr3 => by
      obtain ⟨ob3, kvs3, hx3, e4, sr4⟩ := back m3 H3 e3 sr3
      exact ⟨a, ob3, kvs3, nf, hx3, p m3 σ3 _ (((e1.trans ee).trans e3).trans e4) sr4 (lr3.mono e4)⟩
    cases o with
    | nx => exact nxt _ post
    | bk => exact nxt _ post
    | ct => exact nxt _ post
    | rt v =>
        intro m3 v3 H3 e3 sr3 i3
        obtain ⟨ob3, kvs3, hx3, e4, sr4⟩ := back m3 H3 e3 sr3
        exact ⟨a, ob3, kvs3, nf, hx3, post m3 v3 _ (((e1.trans ee).trans e3).trans e4) sr4 (i3.mono e4)⟩
  | _ => cases h
theorem qs_forD {X : Cx} {tg iter : Expr} {body : List Stmt} {ce : CE} {g : CG} {cb : CS} {pos : Pos} (hp : PassesOwn (model X.prog X.w) X.A X.env X.xe) (hc : X.calm = true) (hi : QE X iter ce) (hg : QG X tg g) (hb : QSs X body cb) (hs : ∀ x, foldedSetIterable iter X.env x = pure x := by intro _; rfl) : QS X (.For tg iter body [] pos) (cForD ce g cb) :=
  (ws_thaw (wps_for hp hc (wi_dict hi) hg hb hs)).imp forD_imp
end OP
set_option maxHeartbeats 1000000
namespace OG
open PySem PySem.Spec PyProof.Rows L2
def tCompIf (wi : TI) (g : TG) (tt : TT) (te : TE) (n : Nat) (caps : List Nat) : TE := fun σ H Q => wi σ H fun J H1 => ∀ l, H1 l = none → ∃ W : Nat → Nat → L2.St → Hp → Prop, (∃ m, W 0 m (stC n caps σ) (upd H1 l (.lst []))) ∧
  ∀ i m σ' H2, W i m σ' H2 → (J.stop i H2 ∧ Q (.ref l) H2) ∨ (J.go i H2 ∧ ∃ N : L2.St → Hp → Prop, (∀ σ'' H', N σ'' H' → ∃ m', m' < m ∧ W (i + 1) m' σ'' H') ∧
    ∀ x H3, J.yld i H2 x H3 → g x σ' H3 fun σ2 H4 => tt σ2 H4 fun b H5 => match b with
      | true => te σ2 H5 fun v H6 => ∃ ys, H6 l = some (.lst ys) ∧ ys.length < sizeLine ∧ N σ2 (upd H6 l (.lst (ys ++ [v])))
      | false => N σ2 H5)
theorem compLoopIf_any {prog : Program} {w : World} {A : Around} {R : Result → Shared → Prop} {s : Shared} {elt target iter c : Expr} {scope : Scope} {pos : Pos} {it acc : Value} {env : Env} (I : Nat → Shared → Prop)
    (turn : ∀ n s, I n s → wpAny (model prog w) A (pyNext it) (fun r s₁ => match r with
      | none => R (.ok .next) s₁
      | some v => wpAny (model prog w) A (letOwnedTupleGo target it v) (fun _ s₁' => wpAny (model prog w) A (assign target env v) (fun _ s₂ => wpAny (model prog w) A (PySem.isTrue c env (eval c env)) (fun b s₂' => match b with
        | true => wpAny (model prog w) A (eval elt env) (fun x s₃ =>
          wpAny (model prog w) A (call (.builtin "list.append") [acc, x]) (fun _ s₄ => ∃ m, m < n ∧ I m s₄) (fun _ _ => False) s₃)
          (fun _ _ => False) s₂'
        | false => ∃ m, m < n ∧ I m s₂') (fun _ _ => False) s₂) (fun _ _ => False) s₁') (fun _ _ => False) s₁) (fun _ _ => False) s)
    (n : Nat) (h : I n s) :
    codeAny (model prog w) A (.compLoop (.ListComp elt [⟨target, iter, [c], 0⟩] scope pos) 0 it acc env) R s := by
  refine codeAny_loop rfl I (fun n s hI => ?_) n h
  show wpAny _ _ ((compTurn (.ListComp elt [⟨target, iter, [c], 0⟩] scope pos) 0 it acc env).onRaise (fun x => do noteFrame x env; theTreesLotGoes x)) _ _ s
  refine wpAny_noted ?_
  rw [compTurn_list]
  refine wpAny_bind (wpAny_standAt (wpAny_bind (wpAny_mono (turn n s hI) (fun r s₁ h₁ => ?_) fun _ _ h' => h'.elim)))
  cases r with
  | none => exact wpAny_pure h₁
  | some v =>
    refine wpAny_bind (wpAny_mono h₁ (fun _ s₁' h₁' => ?_) fun _ _ h' => h'.elim)
    refine wpAny_bind (wpAny_mono h₁' (fun _ s₂ h₂ => ?_) fun _ _ h' => h'.elim)
    dsimp only
    simp only [List.forIn_cons, List.forIn_nil, if_true, bind_assoc, pure_bind]
    refine wpAny_bind (wpAny_mono h₂ (fun b s₂' h₂' => ?_) fun _ _ h' => h'.elim)
    cases b with
    | true =>
      rw [if_pos rfl]
      exact wpAny_bind (wpAny_mono h₂' (fun x s₃ h₃ => wpAny_bind (wpAny_mono h₃
        (fun _ s₄ h₄ => wpAny_pure ⟨rfl, h₄⟩) fun _ _ h' => h'.elim)) fun _ _ h' => h'.elim)
    | false =>
      rw [if_neg Bool.false_ne_true]
      exact wpAny_pure ⟨rfl, h₂'⟩
theorem compIf_gen {X : Cx} {Nc capN tn : List Str} {scope : Scope} {cl : List (Str × Addr)} {n : Nat} {caps : List Nat} {tg iter elt : Expr} {pos : Pos} {wi : TI} {g : TG} {te : TE} {tt : TT} {c : Expr}
    (hc : X.calm = true) (hi : WI X tg iter wi) (hg : ∀ s3 H3 fp, WG (cxC X Nc scope cl s3 H3 fp) tg g) (he : ∀ s3 H3 fp, WE (cxC X Nc scope cl s3 H3 fp) elt te)
    (ht : ∀ s3 H3 fp, WT (cxC X Nc scope cl s3 H3 fp) c tt)
    (hclos : closureFor scope X.env = pure cl) (hkind : scope.kind = .function) (hnl : ∀ x ∈ scope.names, x.2 = .local → scope.names.lookup x.1 = some .local) (hcell : ∀ x ∈ scope.names, x.2 ≠ .cell)
    (hcl : AllC X.env cl) (hhas : ((relabel scope X.env).names.all fun p => !(p.2 == .cell || p.2 == .free) || (cl.lookup p.1).isSome) = true)
    (hcap : Paired (Cap X scope cl) caps capN) (hN : Nc = tn ++ capN) (hn : tn.length = n)
    {use : Option (Value → Sem Unit)} {pins : List (Addr × Obj)} {σ : L2.St} {H : Hp} {s : Shared} {Q : VK} {Qf : Value → Shared → Prop} (I : Inv X pins σ H s) (h : tCompIf wi g tt te n caps σ H Q)
    (hend : ∀ (D C : Addr) (s6 : Shared) (H5 : Hp) (m : Str → Option Value), Inv X pins σ H5 s6 → s6.heap.Ns C m → H5 C = none → C ≠ X.env.locals → X.s₀.heap.objs.size ≤ C → (∀ x c, X.env.cells.lookup x = some c → c ≠ C) → (∀ p ∈ X.pn ++ pins, p.1 ≠ C) → Q (.ref D) H5 → compPost (model X.prog X.w) X.A X.xe use Qf (.ref D) C (.ok .next) s6)
    (hs : ∀ x, foldedSetIterable iter X.env x = pure x) :
    wpAny (model X.prog X.w) X.A (comprehension (.ListComp elt [⟨tg, iter, [c], 0⟩] scope pos) scope X.env (firstIterPos [⟨tg, iter, [c], 0⟩] pos) (newList []) (firstAsync [⟨tg, iter, [c], 0⟩]) (firstIter [⟨tg, iter, [c], 0⟩] X.env) use) Qf X.xe s := by
  refine wpAny_comprehension_free (use := use) (g := ⟨tg, iter, [c], 0⟩) (gs := []) rfl hs hclos hkind hnl (thn (hi.h pins s σ H _ I h) fun v s1 h1 => thn h1 fun itv s2 h2 => ?_)
  obtain ⟨it, fp, tnn, J, H2, rfl, I2, T, st2, f2, hW⟩ := h2
  have hD := I2.fresh
  obtain ⟨W, ⟨m0, w0⟩, turn⟩ := hW _ hD
  refine wpAny_newObj_type (wpAny_newFunctionEnv hcell (by intro y hy; simp at hy) (fun h₁ hns₁ hsb₁ => ?_) hkind)
  dsimp only at hns₁ hsb₁ ⊢
  have I3 : Inv X pins σ (upd H2 s2.heap.objs.size (.lst [])) { s2 with heap := s2.heap.push { cls := .type "list", dict := none, data := .seq ([] : List Value).toArray }, toks := s2.toks } := I2.lnew (its := []) .nil (Nat.zero_le _)
  generalize hs3 : ({ s2 with heap := s2.heap.push { cls := .type "list", dict := none, data := .seq ([] : List Value).toArray }, toks := s2.toks } : Shared) = s3 at I3
  have es3 : s3.heap = s2.heap.push { cls := .type "list", dict := none, data := .seq ([] : List Value).toArray } := by rw [← hs3]
  generalize hDD : s2.heap.objs.size = D at *
  have kept : ∀ b o, s3.heap.get? b = some o → h₁.get? b = some o := fun b o e => by
    have lt := Heap.lt_size e
    rw [es3] at lt e
    exact hsb₁.extBut b o (Nat.ne_of_lt lt) (Heap.get?_push_of_some _ e)
  have old : ∀ b o, s2.heap.get? b = some o → s3.heap.get? b = some o := fun b o e => by rw [es3]; exact Heap.get?_push_of_some _ e
  have ltD : ∀ b ∈ fp, b < D := fun b hb => by
    obtain ⟨o, e, _⟩ := T.obj 0 _ st2 b hb
    rw [← hDD]; exact Heap.lt_size e
  have fo : ∀ b ∈ fp, b < s3.heap.objs.size := fun b hb => by
    obtain ⟨o, e, _⟩ := T.obj 0 _ st2 b hb
    exact Heap.lt_size (old _ _ e)
  have f3 : ∀ b ∈ fp, FpOk X pins (upd H2 D (.lst [])) b := fun b hb => by
    refine ⟨?_, (f2 b hb).2⟩
    rw [upd_ne (Nat.ne_of_lt (ltD b hb))]
    exact (f2 b hb).1
  rw [← es3] at hns₁ hsb₁ ⊢
  have Ic := fun t' => Inv.comp (h1 := h₁) (t' := t') (Nc := Nc) (n := n) I3 hc f3 fo hkind hcl hhas hcap tn hN hn hns₁ kept
  have stat : ∀ {H' : Hp}, (∀ b ∈ fp, H' b = none) → ∀ b ∈ fp, FpOk (cxC X Nc scope cl s3 (upd H2 D (.lst [])) fp) [] H' b := fun hn' b hb => by
    refine ⟨hn' b hb, Nat.ne_of_lt (fo b hb), fun z => ?_, .inl hb, fun x c e => (f2 b hb).2.2.2.2.1 x c (hcl.look e), fun p hp => (by simp at hp)⟩
    rcases List.mem_cons.mp (I3.stkSub b z) with q | q
    · exact (f2 b hb).2.1 q
    · exact (f2 b hb).2.2.1 q
  have loop : ∀ s4 : Shared, (∃ t', s4 = { s3 with heap := h₁, toks := t' }) → codeAny (model X.prog X.w) X.A (.compLoop (.ListComp elt [⟨tg, iter, [c], 0⟩] scope pos) 0 (.ref it) (.ref D) (compEnvC scope cl s3.heap.objs.size X.env))
      (compPost (model X.prog X.w) X.A X.xe use Qf (.ref D) s3.heap.objs.size) s4 := by
    rintro s4 ⟨t', rfl⟩
    refine compLoopIf_any (fun n' s' => ∃ i σ' H', Inv (cxC X Nc scope cl s3 (upd H2 D (.lst [])) fp) [] σ' H' s' ∧ tnn i s'.heap ∧ (∀ b ∈ fp, H' b = none) ∧ W i n' σ' H') ?_ m0
      ⟨0, _, _, Ic t', T.keep 0 _ _ st2 fun b hb o e => kept _ _ (old _ _ e), fun b hb => (f3 b hb).1, w0⟩
    rintro n' s5 ⟨i, σ5, H5, I5, st5, fr5, w5⟩
    rcases turn i n' σ5 H5 w5 with ⟨stop, qn⟩ | ⟨go, N, hN', step⟩
    · refine thn (T.done (cxC X Nc scope cl s3 (upd H2 D (.lst [])) fp) rfl rfl rfl hc i [] s5 σ5 H5 (fun _ _ => False) I5 (stat fr5) st5 stop) fun r s6 ⟨hr, I6⟩ => ?_
      subst hr
      obtain ⟨m, hm, _⟩ := I6.loc
      have I7 : Inv X pins σ H5 s6 := Inv.call' (ch := fp) I3 I6.os I6.base I6.hok I6.bare fun b hb => ⟨(f2 b hb).2.2.2.1, (f2 b hb).2.1, (f2 b hb).2.2.2.2.1, (f2 b hb).2.2.2.2.2⟩
      exact hend D _ s6 H5 m I7 hm I6.free (Ne.symm (Nat.ne_of_lt I3.lt)) I3.sz (fun x c e => by
          obtain ⟨v', o, ho, _⟩ := I3.cell x c e
          exact Nat.ne_of_lt (Heap.lt_size ho)) (fun p hp => Nat.ne_of_lt (Heap.lt_size (I3.pin p hp).1)) qn
    · refine thn (T.item (cxC X Nc scope cl s3 (upd H2 D (.lst [])) fp) rfl rfl rfl hc i [] s5 σ5 H5 (fun _ _ => False) I5 (stat fr5) st5 go) fun r s6 ⟨u, hr, h6⟩ => ?_
      subst hr
      refine thn h6 fun _ s7 ⟨x, H7, I7, r7, y7, st7, fr7⟩ => ?_
      have I7' := I7.pinned (stat fr7) (T.obj _ _ st7)
      refine thn ((hg s3 (upd H2 D (.lst [])) fp).h _ s7 σ5 H7 x u _ I7' r7 (step x H7 y7)) fun _ s8 ⟨σ8, H8, I8, q8⟩ => ?_
      have fin : ∀ {s10 : Shared} {H10 : Hp}, Inv (cxC X Nc scope cl s3 (upd H2 D (.lst [])) fp) _ σ8 H10 s10 → N σ8 H10 → ∃ m', m' < n' ∧ ∃ i' σ' H', Inv (cxC X Nc scope cl s3 (upd H2 D (.lst [])) fp) [] σ' H' s10 ∧ tnn i' s10.heap ∧ (∀ b ∈ fp, H' b = none) ∧ W i' m' σ' H' := fun {s10 H10} I10 q10 => by
        obtain ⟨m', hm, w10⟩ := hN' σ8 H10 q10
        refine ⟨m', hm, i + 1, σ8, H10, Inv.unpinned I10, T.keep _ _ _ st7 fun b hb o e => (Inv.pin I10 (b, o) (List.mem_append_right _ (List.mem_append_right _ (mem_pinsAt hb e)))).1, fun b hb => ?_, w10⟩
        obtain ⟨o, e, d⟩ := T.obj _ _ st7 b hb
        exact (Inv.pin I10 (b, o) (List.mem_append_right _ (List.mem_append_right _ (mem_pinsAt hb e)))).2.1
      refine thn ((ht s3 (upd H2 D (.lst [])) fp).h _ s8 σ8 H8 _ I8 q8) fun b9 s9' h9 => ?_
      obtain ⟨H9', I9', q9'⟩ := h9
      cases b9 with
      | false => exact fin I9' q9'
      | true =>
        refine thn ((he s3 (upd H2 D (.lst [])) fp).h _ s9' σ8 H9' _ I9' q9') fun v9 s9 ⟨x9, H9, I9, r9, ys, hy, hlt, q9⟩ => ?_
        exact thn (mt_append (X := cxC X Nc scope cl s3 (upd H2 D (.lst [])) fp) _ s9 σ8 H9 (.ref D) [x9] (.ref D) [v9] (fun _ H' => N σ8 H') I9 rfl (.cons r9 .nil) ⟨D, ys, x9, rfl, rfl, hy, hlt, q9⟩) fun _ s10 ⟨_, H10, I10, _, q10⟩ => fin I10 q10
  have e4 : ∀ t', ({ s2 with heap := h₁, toks := t' } : Shared) = { s3 with heap := h₁, toks := t' } := fun t' => by rw [← hs3]
  refine codeAny_compStart_list (loop _ ⟨_, e4 _⟩) (T.self _ 0 _ _ _ (T.keep 0 _ _ st2 fun b hb o e => kept _ _ (old _ _ e)) (loop _ ⟨_, e4 _⟩))
theorem wpe_compIf {X : Cx} {Nc capN tn : List Str} {scope : Scope} {cl : List (Str × Addr)} {n : Nat} {caps : List Nat} {tg iter elt : Expr} {pos : Pos} {wi : TI} {g : TG} {te : TE} {tt : TT} {c : Expr}
    (hc : X.calm = true) (hi : WI X tg iter wi) (hg : ∀ s3 H3 fp, WG (cxC X Nc scope cl s3 H3 fp) tg g) (he : ∀ s3 H3 fp, WE (cxC X Nc scope cl s3 H3 fp) elt te)
    (ht : ∀ s3 H3 fp, WT (cxC X Nc scope cl s3 H3 fp) c tt)
    (hclos : closureFor scope X.env = pure cl) (hkind : scope.kind = .function) (hnl : ∀ x ∈ scope.names, x.2 = .local → scope.names.lookup x.1 = some .local) (hcell : ∀ x ∈ scope.names, x.2 ≠ .cell)
    (hcl : AllC X.env cl) (hhas : ((relabel scope X.env).names.all fun p => !(p.2 == .cell || p.2 == .free) || (cl.lookup p.1).isSome) = true)
    (hcap : Paired (Cap X scope cl) caps capN) (hN : Nc = tn ++ capN) (hn : tn.length = n)
    (hs : ∀ x, foldedSetIterable iter X.env x = pure x := by intro _; rfl) :
    WE X (.ListComp elt [⟨tg, iter, [c], 0⟩] scope pos) (tCompIf wi g tt te n caps) := by
  constructor
  intro pins s σ H Q I h
  rw [eval_ListComp]
  refine compIf_gen hc hi hg he ht hclos hkind hnl hcell hcl hhas hcap hN hn I h (fun D C s6 H5 m I7 hm fr nl sz cn pn qn => ⟨m, hm, fun h' hs' => ?_⟩) hs
  exact ⟨.ref D, H5, I7.turned (t' := s6.toks) (it := C) (fun b o hb e => hs'.extBut b o hb e) fr nl (.inr sz) cn pn, rfl, qn⟩
end OG
namespace OP
open PySem PySem.Spec PyProof.Rows L2 OG
open Classical in
noncomputable def compIfU (ok : Sto → Prop) (g : CG) (ct : CT) (ce : CE) (l : Nat) : List U → Rho → Sto → Option Sto
  | [], _, S => if ok S then some S else none
  | u :: us, ρ, S => if ok S then (g u ρ S).bind fun p => (ct p.1 p.2).bind fun q => if q.1 = true then (ce p.1 q.2).bind fun r => match r.2[l]? with
    | some (.lst ys) => if ys.length < LIM then compIfU ok g ct ce l us p.1 (r.2.set l (.lst (ys ++ [r.1]))) else none
    | _ => none else compIfU ok g ct ce l us p.1 q.2 else none
noncomputable def cCompIf (ci : CI) (g : CG) (ct : CT) (ce : CE) (n : Nat) (caps : List Nat) : CE := fun ρ S => (ci ρ S).bind fun p => (compIfU p.2.1 g ct ce p.2.2.length p.1 (rhoC n caps ρ) (p.2.2 ++ [.lst []])).bind fun S' => some (.ref p.2.2.length, S')
section
variable {X : Cx} {K : PySem.W.Frag}
theorem compIf_imp {ci : CI} {g : CG} {ct : CT} {ce : CE} {n : Nat} {caps : List Nat} : ∀ σ H Q, tE K (cCompIf ci g ct ce n caps) σ H Q → tCompIf (tI K ci) (tG K g) (tT K ct) (tE K ce) n caps σ H Q := by
  rintro σ H Q ⟨m, ρ, S, u, S', sr, lr, hc, post⟩
  obtain ⟨⟨us, ok, S1⟩, h1, h2⟩ := Option.bind_eq_some_iff.mp hc
  obtain ⟨S2, h2, h3⟩ := Option.bind_eq_some_iff.mp h2
  cases h3
  refine ⟨m, ρ, S, us, ok, S1, sr, lr, h1, fun m1 H1 J e1 sr1 ito l hl => ?_⟩
  have ee : Ext K m1 H1 (m1 ++ [l]) (upd H1 l (.lst [])) := .new (keep_new hl _)
  let W : Nat → Nat → L2.St → Hp → Prop := fun i k σ2 H2 => k = us.length - i ∧ i ≤ us.length ∧ ∃ m2 ρ2 S2, Ext K (m1 ++ [l]) (upd H1 l (.lst [])) m2 H2 ∧ Sr K m2 S2 H2 ∧ Lr K m2 H2 ρ2 σ2 ∧ compIfU ok g ct ce S1.length (us.drop i) ρ2 S2 = some S'
  refine ⟨W, ⟨us.length, by simp, Nat.zero_le _, m1 ++ [l], rhoC n caps ρ, S1 ++ [.lst []], .refl, sr1.new (o := .lst []) hl ⟨[], upd_same, .nil_⟩, lr_comp (lr.mono (e1.trans ee)), by simpa using h2⟩, ?_⟩
  rintro i k σ2 H2 ⟨rfl, hi, m2, ρ2, S2, e2, sr2, lr2, hl2⟩
  by_cases hlt : i < us.length
  · have hu := List.getElem?_eq_getElem hlt
    rw [drop_cons hu] at hl2
    unfold compIfU at hl2
    split at hl2
    · rename_i hok
      obtain ⟨⟨ρ3, S3⟩, h3, hl2⟩ := Option.bind_eq_some_iff.mp hl2
      obtain ⟨⟨b4, S4⟩, h4, hl2⟩ := Option.bind_eq_some_iff.mp hl2
      obtain ⟨hgo, hy⟩ := (ito m2 S2 H2 i (ee.trans e2) sr2 hok).1 _ hu
      refine .inr ⟨hgo, W (i + 1) (us.length - (i + 1)), fun σ' H' w' => ⟨_, by omega, w'⟩, fun x H3 y => ?_⟩
      obtain ⟨e3, sr3, ix⟩ := hy x H3 y
      refine ⟨m2, ρ2, S2, _, ρ3, S3, sr3, lr2.mono e3, ix, h3, fun m4 σ4 H4 e4 sr4 lr4 => ⟨m4, ρ3, S3, b4, S4, sr4, lr4, h4, fun m4' H4' e4' sr4' => ?_⟩⟩
      cases b4 with
      | false =>
        rw [if_neg Bool.false_ne_true] at hl2
        exact ⟨rfl, hlt, m4', ρ3, _, (((e2.trans e3).trans e4).trans e4'), sr4', lr4.mono e4', hl2⟩
      | true =>
        rw [if_pos rfl] at hl2
        obtain ⟨⟨u5, S5⟩, h5, hl2⟩ := Option.bind_eq_some_iff.mp hl2
        simp only at hl2
        split at hl2 <;> try cases hl2
        rename_i ys hys
        split at hl2 <;> try cases hl2
        rename_i hlen
        refine ⟨m4', ρ3, S4, u5, S5, sr4', lr4.mono e4', h5, fun m5 v5 H5 e5 sr5 i5 => ?_⟩
        obtain ⟨a', ha', xs, hx, il⟩ := sr5.get hys
        have ha : m5[S1.length]? = some l := ((((e2.trans e3).trans e4).trans e4').trans e5).get (last_get sr1.len)
        rw [ha] at ha'; cases ha'
        have eu : Ext K m5 H5 m5 (upd H5 l (.lst (xs ++ [v5]))) := .of (sr5.keep ha _)
        exact ⟨xs, hx, lim1 (by rw [il.length]; exact hlen), rfl, hlt, m5, ρ3, _, (((((e2.trans e3).trans e4).trans e4').trans e5).trans eu), sr5.put (o := .lst (ys ++ [u5])) ha ⟨_, upd_same, (il.append (.cons_ i5 .nil_)).mono eu⟩, (lr4.mono ((e4'.trans e5).trans eu)), hl2⟩
    · cases hl2
  · have e : i = us.length := by omega
    subst e
    rw [List.drop_length] at hl2
    unfold compIfU at hl2
    split at hl2
    · rename_i hok
      cases hl2
      exact .inl ⟨(ito m2 _ H2 _ (ee.trans e2) sr2 hok).2 (Nat.le_refl _), post m2 _ H2 ((e1.trans ee).trans e2) sr2 (.ref_ (e2.get (last_get sr1.len)))⟩
    · cases hl2
theorem q_compIf {Nc capN tn : List Str} {scope : Scope} {cl : List (Str × Addr)} {n : Nat} {caps : List Nat} {tg iter elt : Expr} {pos : Pos} {ci : CI} {g : CG} {ct : CT} {ce : CE} {c : Expr}
    (hc : X.calm = true) (hi : QI X tg iter ci) (hg : ∀ s3 H3 fp, WG (cxC X Nc scope cl s3 H3 fp) tg (tG X.K g)) (ht : ∀ s3 H3 fp, WT (cxC X Nc scope cl s3 H3 fp) c (tT X.K ct)) (he : ∀ s3 H3 fp, WE (cxC X Nc scope cl s3 H3 fp) elt (tE X.K ce))
    (hclos : closureFor scope X.env = pure cl) (hkind : scope.kind = .function) (hnl : ∀ x ∈ scope.names, x.2 = .local → scope.names.lookup x.1 = some .local) (hcell : ∀ x ∈ scope.names, x.2 ≠ .cell)
    (hcl : AllC X.env cl) (hhas : ((relabel scope X.env).names.all fun p => !(p.2 == .cell || p.2 == .free) || (cl.lookup p.1).isSome) = true)
    (hcap : Paired (Cap X scope cl) caps capN) (hN : Nc = tn ++ capN) (hn : tn.length = n)
    (hs : ∀ x, foldedSetIterable iter X.env x = pure x := by intro _; rfl) :
    QE X (.ListComp elt [⟨tg, iter, [c], 0⟩] scope pos) (cCompIf ci g ct ce n caps) := (wpe_compIf hc hi hg he ht hclos hkind hnl hcell hcl hhas hcap hN hn hs).imp compIf_imp
end
end OP
set_option maxHeartbeats 1000000
namespace OP
open PySem PySem.Spec PyProof PyProof.Rows L2 OG
mutual
inductive RdV (K : PySem.W.Frag) (H : Hp) : V → PyData → Prop
  | non : RdV K H .non .none
  | bl (b : Bool) : RdV K H (.bl b) (.bool b)
  | int (i : Int) : RdV K H (.int i) (.int i)
  | str (x : Str) : RdV K H (.str x) (.str x)
  | lst {a : Addr} {xs : List V} {ds : List PyData} : SqL K H a xs → RdVs K H xs ds → RdV K H (.ref a) (.list ds)
  | tup {a : Addr} {xs : List V} {ds : List PyData} : SqT K H a xs → RdVs K H xs ds → RdV K H (.ref a) (.tuple ds)
inductive RdVs (K : PySem.W.Frag) (H : Hp) : List V → List PyData → Prop
  | nil : RdVs K H [] []
  | cons {x : V} {xs : List V} {d : PyData} {ds : List PyData} : RdV K H x d → RdVs K H xs ds → RdVs K H (x :: xs) (d :: ds)
end
mutual
inductive Dt (S : Sto) : U → PyData → Prop
  | non : Dt S .non .none
  | bl (b : Bool) : Dt S (.bl b) (.bool b)
  | int (i : Int) : Dt S (.int i) (.int i)
  | str (x : Str) : Dt S (.str x) (.str x)
  | lst {l : Nat} {us : List U} {ds : List PyData} : S[l]? = some (.lst us) → DtL S us ds → Dt S (.ref l) (.list ds)
  | tup {us : List U} {ds : List PyData} : DtL S us ds → Dt S (.tup us) (.tuple ds)
inductive DtL (S : Sto) : List U → List PyData → Prop
  | nil : DtL S [] []
  | cons {x : U} {xs : List U} {d : PyData} {ds : List PyData} : Dt S x d → DtL S xs ds → DtL S (x :: xs) (d :: ds)
end
section
variable {X : Cx} {K : PySem.W.Frag} {pins : List (Addr × Obj)} {σ : L2.St} {H : Hp} {s : Shared}
mutual
theorem RdV.reads (I : Inv X pins σ H s) : ∀ {x : V} {d : PyData} {v : Value}, RdV X.K H x d → RelV x v → ∃ as, Reads s.heap v d as
  | _, _, _, .non, r => by cases r; exact ⟨_, .none⟩
  | _, _, _, .bl b, r => by cases r; exact ⟨_, .bool b⟩
  | _, _, _, .int i, r => by obtain ⟨t, rfl⟩ := r; exact ⟨_, .int i t⟩
  | _, _, _, .str i, r => by obtain ⟨t, rfl⟩ := r; exact ⟨_, .str i t⟩
  | _, _, _, .lst (a := a) h t, r => by
    cases r
    obtain ⟨its, rv, pl, _⟩ := I.list h
    obtain ⟨as, k⟩ := RdVs.reads I t rv
    obtain ⟨o, h1, h2, n, h3⟩ := pl.isList
    exact ⟨_, .list h1 h2 h3 (by simpa using k)⟩
  | _, _, _, .tup (a := a) h t, r => by
    cases r
    obtain ⟨its, rv, pl, _⟩ := I.tuple h
    obtain ⟨as, k⟩ := RdVs.reads I t rv
    obtain ⟨o, h1, h2, n, h3⟩ := pl
    exact ⟨_, .tuple h1 h2 h3 (by simpa using k)⟩
theorem RdVs.reads (I : Inv X pins σ H s) : ∀ {xs : List V} {ds : List PyData} {vs : List Value}, RdVs X.K H xs ds → Vals xs vs → ∃ as, ReadsAll s.heap vs ds as
  | _, _, _, .nil, r => by cases r; exact ⟨_, .nil⟩
  | _, _, _, .cons h t, .cons r rs => by
    obtain ⟨as, a⟩ := RdV.reads I h r
    obtain ⟨bs, b⟩ := RdVs.reads I t rs
    exact ⟨_, .cons a b⟩
end
mutual
theorem Dt.rd {m : List Addr} {S : Sto} (sr : Sr K m S H) : ∀ {u : U} {d : PyData} {v : V}, Dt S u d → Is K m H v u → RdV K H v d
  | _, _, _, .non, i => by rw [i.of_non]; exact .non
  | _, _, _, .bl b, i => by rw [i.of_bl]; exact .bl b
  | _, _, _, .int b, i => by rw [i.of_int]; exact .int b
  | _, _, _, .str b, i => by rw [i.of_str]; exact .str b
  | _, _, _, .lst h t, i => by
    obtain ⟨a, ha, rfl⟩ := i.of_ref
    obtain ⟨a', ha', xs, hx, il⟩ := sr.get h
    rw [ha] at ha'; cases ha'
    exact .lst (SqL.of hx) (DtL.rd sr t il)
  | _, _, _, .tup t, i => by
    obtain ⟨a, xs, rfl, sa, la⟩ := i.of_tup
    exact .tup sa (DtL.rd sr t la)
theorem DtL.rd {m : List Addr} {S : Sto} (sr : Sr K m S H) : ∀ {us : List U} {ds : List PyData} {vs : List V}, DtL S us ds → IsL K m H vs us → RdVs K H vs ds
  | _, _, _, .nil, i => by rw [i.of_nil]; exact .nil
  | _, _, _, .cons h t, i => by
    obtain ⟨x, r, rfl, i1, i2⟩ := i.of_cons
    exact .cons (Dt.rd sr h i1) (DtL.rd sr t i2)
end
mutual
theorem Dt.uniq {S : Sto} : ∀ {u : U} {d e : PyData}, Dt S u d → Dt S u e → d = e
  | _, _, _, .non, .non => rfl
  | _, _, _, .bl _, .bl _ => rfl
  | _, _, _, .int _, .int _ => rfl
  | _, _, _, .str _, .str _ => rfl
  | _, _, _, .lst h t, .lst h' t' => by
    rw [h] at h'; cases h'
    rw [DtL.uniq t t']
  | _, _, _, .tup t, .tup t' => by rw [DtL.uniq t t']
theorem DtL.uniq {S : Sto} : ∀ {us : List U} {ds es : List PyData}, DtL S us ds → DtL S us es → ds = es
  | _, _, _, .nil, .nil => rfl
  | _, _, _, .cons h t, .cons h' t' => by rw [Dt.uniq h h', DtL.uniq t t']
end
def LayOk (d : PyData) : Prop := d.canLay0 = true ∧ d.depth ≤ 60
def rEqD (K : PySem.W.Frag) (neg : Bool) : R2 := fun x y H Q => ∃ dx dy, RdV K H x dx ∧ RdV K H y dy ∧ LayOk dx ∧ LayOk dy ∧ Q (.bl (if neg then !dx.eqv dy else dx.eqv dy)) H
theorem op_neD (hu : X.A.units + 64 < cLine) : OpR X (compareOp .NotEq) (rEqD X.K true) := by
  rintro pins s σ H x y v u Q I rx ry ⟨dx, dy, hx, hy, lx, ly, q⟩
  obtain ⟨as, hx⟩ := hx.reads I rx
  obtain ⟨bs, hy⟩ := hy.reads I ry
  exact SeqAt.compareNe_reads hx hy lx.1 ly.1 (by have := lx.2; omega) ⟨.bl _, H, I, rfl, q⟩
def EqOf (x y : U) (S : Sto) (b : Bool) : Prop := ∃ dx dy, Dt S x dx ∧ Dt S y dy ∧ LayOk dx ∧ LayOk dy ∧ b = dx.eqv dy
theorem EqOf.uniq {x y : U} {S : Sto} {b c : Bool} (h : EqOf x y S b) (k : EqOf x y S c) : b = c := by
  obtain ⟨dx, dy, h1, h2, _, _, rfl⟩ := h
  obtain ⟨ex, ey, k1, k2, _, _, rfl⟩ := k
  rw [h1.uniq k1, h2.uniq k2]
open Classical in
noncomputable def fEqD (neg : Bool) : U → U → Sto → Option (U × Sto) := fun x y S => if h : ∃ b, EqOf x y S b then some (.bl (if neg then !h.choose else h.choose), S) else none
theorem fEqD_of {x y : U} {S : Sto} {b : Bool} (neg : Bool) (h : EqOf x y S b) : fEqD neg x y S = some (.bl (if neg then !b else b), S) := by
  unfold fEqD
  rw [dif_pos ⟨b, h⟩]
  have e : (⟨b, h⟩ : ∃ b, EqOf x y S b).choose = b := (Exists.choose_spec (⟨b, h⟩ : ∃ b, EqOf x y S b)).uniq h
  rw [e]
theorem p_eqD {neg : Bool} : OpP K (rEqD K neg) (fEqD neg) := by
  intro m S H x y v w u S' Q sr ix iy hf post
  unfold fEqD at hf
  split at hf <;> try cases hf
  rename_i h
  have hb := h.choose_spec
  generalize h.choose = b at hb post
  obtain ⟨dx, dy, h1, h2, l1, l2, rfl⟩ := hb
  exact ⟨dx, dy, h1.rd sr ix, h2.rd sr iy, l1, l2, post m _ H .refl sr .bl_⟩
def cutU (us : List U) (lo hi : Option Int) : List U := (us.drop (HT.sIx us.length 0 lo)).take (HT.sIx us.length us.length hi - HT.sIx us.length 0 lo)
theorem cut_ok {m : List Addr} {xs : List V} {us : List U} {lo hi : Option Int} (i : IsL K m H xs us) : IsL K m H (cutV xs lo hi) (cutU us lo hi) := by
  unfold cutV cutU
  rw [i.length]
  exact (i.drop _).take _
def fSl (x : U) (lo hi : Option Int) (S : Sto) : Option (U × Sto) := match x with
  | .tup us => if HT.sIx us.length 0 lo = 0 ∧ HT.sIx us.length us.length hi = us.length then none else some (.tup (cutU us lo hi), S)
  | .ref l => match S[l]? with
    | some (.lst us) => some (.ref S.length, S ++ [.lst (cutU us lo hi)])
    | _ => none
  | _ => none
def cPart : Option CE → Rho → Sto → Option (Option Int × Sto)
  | none, _, S => some (none, S)
  | some c, ρ, S => (c ρ S).bind fun p => match p.1 with
    | .int i => some (some i, p.2)
    | _ => none
def cSl (ca : CE) (cl ch : Option CE) : CE := fun ρ S => (ca ρ S).bind fun p => (cPart cl ρ p.2).bind fun q => (cPart ch ρ q.2).bind fun r => fSl p.1 q.1 r.1 r.2
def PostO (K : PySem.W.Frag) (m : List Addr) (H : Hp) (Q : Option Int → Hp → Prop) (o : Option Int) (S' : Sto) : Prop := ∀ m' H', Ext K m H m' H' → Sr K m' S' H' → Q o H'
def tO (K : PySem.W.Frag) (c : Option CE) : TO := fun σ H Q => ∃ m ρ S o S', Sr K m S H ∧ Lr K m H ρ σ ∧ cPart c ρ S = some (o, S') ∧ PostO K m H Q o S'
abbrev QO (X : Cx) (e : Option Expr) (c : Option CE) : Prop := WO X e (tO X.K c)
theorem qo_none : QO X none none := ⟨fun pins s σ H Q I ⟨m, ρ, S, o, S', sr, lr, hc, post⟩ => wpo_none.h pins s σ H Q I (by cases hc; exact post m H .refl sr)⟩
theorem qo_some {e : Expr} {ca : CE} (h : QE X e ca) : QO X (some e) (some ca) := ⟨fun pins s σ H Q I ⟨m, ρ, S, o, S', sr, lr, hc, post⟩ => (wpo_some h).h pins s σ H Q I (by
  obtain ⟨⟨x, S1⟩, h1, h2⟩ := Option.bind_eq_some_iff.mp hc
  refine ⟨m, ρ, S, x, S1, sr, lr, h1, fun m1 v1 H1 e1 sr1 i1 => ?_⟩
  cases x <;> simp at h2
  obtain ⟨rfl, rfl⟩ := h2
  exact ⟨_, i1.of_int, post m1 H1 e1 sr1⟩)⟩
theorem q_sl {e : Expr} {lo hi : Option Expr} {ca : CE} {cl ch : Option CE} {pos p2 : Pos} (ha : QE X e ca) (hl : QO X lo cl) (hh : QO X hi ch) : QE X (.Subscript e (.Slice lo hi none p2) pos) (cSl ca cl ch) := (wpe_slice (sl_list.or sl_tup) ha hl hh).imp fun σ H Q ⟨m, ρ, S, u, S', sr, lr, hc, post⟩ => by
  obtain ⟨⟨x, S1⟩, h1, ha⟩ := Option.bind_eq_some_iff.mp hc
  obtain ⟨⟨l, S2⟩, h2, hb⟩ := Option.bind_eq_some_iff.mp ha
  obtain ⟨⟨k, S3⟩, h3, h⟩ := Option.bind_eq_some_iff.mp hb
  clear ha hb hc
  refine ⟨m, ρ, S, x, S1, sr, lr, h1, fun m1 v1 H1 e1 sr1 i1 => ⟨m1, ρ, S1, l, S2, sr1, lr.mono e1, h2, fun m2 H2 e2 sr2 => ⟨m2, ρ, S2, k, S3, sr2, lr.mono (e1.trans e2), h3, fun m3 H3 e3 sr3 => ?_⟩⟩⟩
  have i3 := i1.mono (e2.trans e3)
  have e03 := (e1.trans e2).trans e3
  cases x with
  | tup us =>
    simp only [fSl] at h
    split at h <;> try cases h
    rename_i hw
    obtain ⟨a, xs, rfl, sa, la⟩ := i3.of_tup
    exact .inr ⟨a, xs, rfl, sa, by rw [la.length]; exact hw, fun p hp => post_tup sr3 (cut_ok la) (post.mono e03) hp⟩
  | ref r =>
    simp only [fSl] at h
    split at h <;> try cases h
    rename_i us hS
    obtain ⟨a, ha, rfl⟩ := i3.of_ref
    obtain ⟨a', ha', xs, hx, la⟩ := sr3.get hS
    rw [ha] at ha'; cases ha'
    exact .inl ⟨a, xs, rfl, SqL.of hx, fun p hp => post_lst sr3 (cut_ok la) (post.mono e03) hp⟩
  | _ => simp [fSl] at h
end
end OP
set_option maxHeartbeats 1000000
namespace OP
open PySem PySem.Spec PyProof PyProof.Rows L2 OG
section
variable {X : Cx} {K : PySem.W.Frag}
def rRepS (K : PySem.W.Frag) : R2 := fun x y H Q => ∃ a k xs, x = .ref a ∧ y = .int k ∧ SqT K H a xs ∧ xs ≠ [] ∧ 1 ≤ k ∧ xs.length * k.toNat ≤ 1000 ∧ ∀ q H', Same H H' → SqT K H' q (List.replicate k.toNat xs).flatten → Q (.ref q) H'
theorem op_repS : OpR X (binaryOp .Mult) (rRepS X.K) := by
  intro pins s σ H x y v u Q I rx ry h
  obtain ⟨a, k, xs, rfl, rfl, ha, hne, hk, hz, q⟩ := h
  cases rx
  obtain ⟨t, rfl⟩ := ry
  obtain ⟨its, r1, p1, hzz⟩ := I.tuple ha
  have hlen := r1.length
  obtain ⟨⟨cls, dd, data, sl⟩, ho, hc, n, hd⟩ := id p1
  simp only at hc hd
  subst hc hd
  have hne' : its ≠ [] := fun z => hne (r1.nil_iff.mp z)
  refine wpAny_binaryOp_repeat_ref (T := "tuple") (U := "int") (by decide) ⟨_, ho, rfl⟩ (fun s' => typeIs_int s' k t) noFill_tuple_mul F.fills_int_mul F.slot_int_rmul repeat_tuple F.slot_int_index.lookup
    (call_meets F.slot_int_rmul (typeIs_int s k t) F.entry_int_rmul (F.args_int_rmul_2 _ _) (int_rmul_tuple k t a its.toArray n dd sl) ⟨ho, rfl, ⟨_, ho, rfl⟩, ?_⟩)
  by_cases k1 : k = 1
  · subst k1
    refine call_meets F.slot_tuple_mul ⟨_, ho, rfl⟩ F.entry_tuple_mul (F.args_tuple_mul_2 _ _) (tuple_mulW1 a its.toArray n dd sl t) ⟨ho, ⟨.ref a, H, I, rfl, q a H (.refl _) ?_⟩⟩
    simpa using ha
  · have hfold : List.foldl (fun x1 x2 => x1 ++ x2) #[] (List.replicate k.toNat its.toArray) = (List.replicate k.toNat its).flatten.toArray := by
      have := foldl_rep its k.toNat []
      rw [List.nil_append] at this
      exact this
    have hfl : (List.replicate k.toNat its).flatten.length ≤ 1000 := by rw [len_rep, ← hlen, Nat.mul_comm]; exact hz
    have hlp : 0 < its.length := List.length_pos_iff.mpr hne'
    have hk2 : k.toNat ≤ 1000 := Nat.le_trans (Nat.le_mul_of_pos_left _ (by rw [hlen]; exact hlp)) hz
    have hsz : (its.toArray.size : Int) * k ≤ 1000 := by
      rw [List.size_toArray, ← hlen]
      have e : k = ((k.toNat : Nat) : Int) := by omega
      rw [e, ← Int.natCast_mul]
      omega
    refine call_meets F.slot_tuple_mul ⟨_, ho, rfl⟩ F.entry_tuple_mul (F.args_tuple_mul_2 _ _) (tuple_mulW2 a its.toArray n dd sl k t ?_ ?_ ?_ ?_ ?_ ?_) ⟨ho, ?_⟩
    · simp; omega
    · simp [hne', k1]
    · simp [hne']; omega
    · omega
    · unfold Builtin.Tuple.tupleTooMany
      have : ¬ (its.toArray.size : Int) * k > (sizeLine : Int) := by
        have : (1000 : Nat) ≤ sizeLine := smallN (Nat.le_refl _)
        omega
      simpa using this
    · rw [hfold, List.size_toArray]; exact smallN hfl
    · rw [hfold]
      refine ⟨.ref s.heap.objs.size, _, I.laid (t' := s.toks) (o := .tup (List.replicate k.toNat xs).flatten) (fun b ob q => Heap.get?_push_of_some _ q) (Nat.le_refl _) ?_, rfl, q _ _ (same_new (I.hok.fresh (Nat.le_refl _)) _) (SqT.of upd_same)⟩
      exact ⟨smallN (by rw [len_rep, Nat.mul_comm]; exact hz), _, r1.rep k.toNat, IsTup.new _ _⟩
def fMulR : U → U → Sto → Option (U × Sto)
  | .int i, .int j, S => if CMul i j then some (.int (i * j), S) else none
  | .tup us, .int k, S => if us ≠ [] ∧ 1 ≤ k ∧ us.length * k.toNat ≤ 1000 then some (.tup (List.replicate k.toNat us).flatten, S) else none
  | .ref l, .int k, S => match S[l]? with
    | some (.lst us) => if 0 ≤ k ∧ k ≤ 100000 ∧ us.length * k.toNat ≤ LIM then some (.ref S.length, S ++ [.lst (List.replicate k.toNat us).flatten]) else none
    | _ => none
  | _, _, _ => none
theorem o_mulR : OpR X (binaryOp .Mult) (fun x y H Q => rI CMul (fun i j => .int (i * j)) x y H Q ∨ (rRepS X.K x y H Q ∨ rRep x y H Q)) := op_mul.or (op_repS.or op_rep)
instance {us : List U} : Decidable (us ≠ []) := match us with
  | [] => .isFalse fun h => h rfl
  | _ :: _ => .isTrue fun h => by cases h
theorem p_mulR : OpP K (fun x y H Q => rI CMul (fun i j => .int (i * j)) x y H Q ∨ (rRepS K x y H Q ∨ rRep x y H Q)) fMulR := by
  intro m S H x y v w u S' Q sr ix iy hf post
  cases x <;> cases y <;> simp only [fMulR] at hf <;> try cases hf
  · split at hf <;> try cases hf
    rename_i hc
    exact .inl ⟨_, _, ix.of_int, iy.of_int, hc, post m _ H .refl sr .int_⟩
  · rename_i us k
    split at hf <;> try cases hf
    rename_i hc
    obtain ⟨a, xs, rfl, sa, la⟩ := ix.of_tup
    refine .inr (.inl ⟨a, k, xs, rfl, iy.of_int, sa, fun z => hc.1 ?_, hc.2.1, by rw [la.length]; exact hc.2.2, fun q H' s sq => ?_⟩)
    · subst z
      have := la.length
      exact List.length_eq_zero_iff.mp this.symm
    · exact post m _ H' (.of (keep_same s)) (sr.same s) (.tup_ sq ((la.rep k.toNat).mono (.of (keep_same s))))
  · rename_i l k
    split at hf <;> try cases hf
    rename_i us hS
    split at hf <;> try cases hf
    rename_i hc
    obtain ⟨a, ha, rfl⟩ := ix.of_ref
    obtain ⟨a', ha', xs, hx, la⟩ := sr.get hS
    rw [ha] at ha'; cases ha'
    exact .inr (.inr ⟨a, k, xs, rfl, iy.of_int, hx, by omega, by omega, lim (by rw [la.length]; exact hc.2.2), fun p hp => post_lst sr (la.rep k.toNat) post hp⟩)
end
end OP
namespace OP
end OP
set_option maxHeartbeats 1000000
namespace OG
open PySem PySem.Spec PyProof.Rows L2
theorem ns_but {C a : Addr} {m : Str → Option Value} {h h' : Heap} (n : h.Ns C m) (s : Heap.SameBut a h h') (ne : C ≠ a) : h'.Ns C m := by
  obtain ⟨o, es, ep, e, r⟩ := n
  exact ⟨o, es, ep, (s.2 C ne).trans e, r⟩
theorem ws_setComp {X : Cx} {Nc capN tn : List Str} {scope : Scope} {cl : List (Str × Addr)} {n : Nat} {caps : List Nat} {tg iter elt : Expr} {pos : Pos} {wi : TI} {g : TG} {te : TE}
    (hc : X.calm = true) (hi : WI X tg iter wi) (hg : ∀ s3 H3 fp, WG (cxC X Nc scope cl s3 H3 fp) tg g) (he : ∀ s3 H3 fp, WE (cxC X Nc scope cl s3 H3 fp) elt te)
    (hclos : closureFor scope X.env = pure cl) (hkind : scope.kind = .function) (hnl : ∀ x ∈ scope.names, x.2 = .local → scope.names.lookup x.1 = some .local) (hcell : ∀ x ∈ scope.names, x.2 ≠ .cell)
    (hcl : AllC X.env cl) (hhas : ((relabel scope X.env).names.all fun p => !(p.2 == .cell || p.2 == .free) || (cl.lookup p.1).isSome) = true)
    (hcap : Paired (Cap X scope cl) caps capN) (hN : Nc = tn ++ capN) (hn : tn.length = n)
    {i₀ : Nat} {x₀ : Str} {pos₀ pos' : Pos} (hN0 : X.N.Nodup) (hi0 : X.N[i₀]? = some x₀) (hx0 : X.env.scope.names.lookup x₀ = some .local)
    (hsw : swapsWith (.ListComp elt [⟨tg, iter, [], 0⟩] scope pos) (some (.Name x₀ pos')) pos₀.line X.env = pure true)
    (hs : ∀ x, foldedSetIterable iter X.env x = pure x := by intro _; rfl) :
    WS X (.Assign [.Name x₀ pos'] (.ListComp elt [⟨tg, iter, [], 0⟩] scope pos) pos₀) (fun D σ H => tComp wi g te n caps σ H fun v H' => D.nx (σ.set i₀ (some v)) H') := by
  constructor
  intro pins s σ H Dn I h
  rw [exec_Assign_arm]
  refine wpAny_bind (wpAny_standAt ?_)
  have hsw' : swapsWithSole [.Name x₀ pos'] (.ListComp elt [⟨tg, iter, [], 0⟩] scope pos) pos₀.line X.env = pure true := hsw
  rw [hsw']
  refine wpAny_bind (wpAny_pure ?_)
  rw [if_pos rfl, arm_evalThenUse_ListComp]
  refine wpAny_bind (wpAny_bind (comp_gen (Qf := fun _ s' => wpAny (model X.prog X.w) X.A (pure ()) (fun _ s' => wpAny (model X.prog X.w) X.A (pure Flow.next) (SP X pins Dn) X.xe s') X.xe s') hc hi hg he hclos hkind hnl hcell hcl hhas hcap hN hn I h (fun D C s6 H5 m I7 hm fr nl sz cn pn qn => ?_) hs))
  show wpAny _ _ (assign (.Name x₀ pos') X.env (.ref D)) _ _ s6
  rw [arm_assign_Name]
  refine wpAny_bind (wpAny_standAt (wpAny_bindName (store_ok2 (v := .ref D) I7 hN0 hi0 (.inl hx0) rfl (fun s7 I7' hsb => ?_) (.inr hx0))))
  obtain ⟨a7, hsb, ha7⟩ := hsb
  have cNe : C ≠ a7 := by
    rcases ha7 with z | z
    · rw [z]; exact nl
    · exact Ne.symm (cn _ _ z)
  refine ⟨m, ns_but hm hsb cNe, fun h' hs' => wpAny_pure (wpAny_pure ⟨_, H5, ?_, qn⟩)⟩
  exact I7'.turned (t' := s7.toks) (it := C) (fun b o hb e => hs'.extBut b o hb e) fr nl (.inr sz) cn pn
end OG
namespace OP
open PySem PySem.Spec PyProof.Rows L2 OG
section
variable {X : Cx} {K : PySem.W.Frag}
theorem qs_setComp {i₀ : Nat} {x₀ : Str} {pos₀ pos' : Pos} {Nc capN tn : List Str} {scope : Scope} {cl : List (Str × Addr)} {n : Nat} {caps : List Nat} {tg iter elt : Expr} {pos : Pos} {ci : CI} {g : CG} {ce : CE}
    (hc : X.calm = true) (hi : QI X tg iter ci) (hg : ∀ s3 H3 fp, WG (cxC X Nc scope cl s3 H3 fp) tg (tG X.K g)) (he : ∀ s3 H3 fp, WE (cxC X Nc scope cl s3 H3 fp) elt (tE X.K ce))
    (hclos : closureFor scope X.env = pure cl) (hkind : scope.kind = .function) (hnl : ∀ x ∈ scope.names, x.2 = .local → scope.names.lookup x.1 = some .local) (hcell : ∀ x ∈ scope.names, x.2 ≠ .cell)
    (hcl : AllC X.env cl) (hhas : ((relabel scope X.env).names.all fun p => !(p.2 == .cell || p.2 == .free) || (cl.lookup p.1).isSome) = true)
    (hcap : Paired (Cap X scope cl) caps capN) (hN : Nc = tn ++ capN) (hn : tn.length = n)
    (hN0 : X.N.Nodup) (hi0 : X.N[i₀]? = some x₀) (hx0 : X.env.scope.names.lookup x₀ = some .local)
    (hsw : swapsWith (.ListComp elt [⟨tg, iter, [], 0⟩] scope pos) (some (.Name x₀ pos')) pos₀.line X.env = pure true)
    (hs : ∀ x, foldedSetIterable iter X.env x = pure x := by intro _; rfl) :
    QS X (.Assign [.Name x₀ pos'] (.ListComp elt [⟨tg, iter, [], 0⟩] scope pos) pos₀) (cSet i₀ (cComp ci g ce n caps)) := (ws_setComp hc hi hg he hclos hkind hnl hcell hcl hhas hcap hN hn hN0 hi0 hx0 hsw hs).imp fun D σ H ⟨m, ρ, S, o, ρ', S', sr, lr, hc, post⟩ => by
  obtain ⟨⟨u, S1⟩, h1, h2⟩ := Option.bind_eq_some_iff.mp hc
  cases h2
  exact comp_imp _ _ _ ⟨m, ρ, S, u, _, sr, lr, h1, fun m1 v1 H1 e1 sr1 i1 => post m1 _ H1 e1 sr1 ((lr.mono e1).set i₀ i1)⟩
end
end OP
set_option maxHeartbeats 1000000
namespace OP
open PySem PySem.Spec PyProof PyProof.Rows L2 OG
end OP
set_option maxHeartbeats 1000000
namespace OP
open PySem PySem.Spec PyProof PyProof.Rows L2 OG
section
variable {X : Cx} {K : PySem.W.Frag}
variable {e : Expr} {es : List Expr} {co : CE} {cr : CA} {o : Expr} {apos cpos : Pos}
end
end OP
set_option maxHeartbeats 4000000
namespace OQ
open PySem PySem.Spec PyProof.Rows L2 OG OP
noncomputable def c__law_take : CS :=
  (cSeq (cIfS (cTest (cOp fEq (cOp fIx (cVar 0) (cC (.int 2))) (cC (.int 0)))) (cSeq (cSet 2 (cOp fIx (cVar 0) (cC (.int 1))))
    (cSeq (cSetIx (cVar 0) (cC (.int 1)) (cOp fAdd (cVar 2) (cC (.int 1))))
    (cSeq (cSet 3 (cC (.int 0)))
    (cSeq (cIfS (cTest (cOp fLt (cVar 2) (cCB fLen (cCons (cOp fIx (cVar 0) (cC (.int 0))) cNil)))) (cSet 3 (cOp fIx (cOp fIx (cVar 0) (cC (.int 0))) (cVar 2))) (cIfS (cTest (cOp fGt (cCB fLen (cCons (cOp fIx (cVar 0) (cC (.int 0))) cNil)) (cC (.int 0)))) (cSet 3 (cOp fAdd (cOp fMod (cOp fIx (cOp fIx (cVar 0) (cC (.int 0))) (cOp fMod (cOp fMul (cVar 2) (cC (.int 3))) (cCB fLen (cCons (cOp fIx (cVar 0) (cC (.int 0))) cNil)))) (cC (.int 1000003))) (cOp fMul (cC (.int 97)) (cVar 2)))) cSkip))
    (cSeq (cSet 4 (cOp fMod (cOp fMul (cOp fAdd (cOp fAdd (cOp fMod (cVar 3) (cC (.int 998244353))) (cOp fMul (cC (.int 53)) (cVar 2))) (cC (.int 1))) (cC (.int 48271))) (cC (.int 2147483647))))
    (cSeq (cSet 5 (cOp fMod (cOp fAdd (cOp fAdd (cOp fMul (cVar 4) (cVar 4)) (cOp fMul (cC (.int 69621)) (cVar 2))) (cC (.int 5))) (cC (.int 1000000007))))
    (cSeq (cSet 6 (cOp fMod (cOp fAdd (cOp fMul (cVar 5) (cVar 5)) (cVar 4)) (cC (.int 998244353))))
    (cSeq (cSetIx (cVar 0) (cC (.int 2)) (cOp fAdd (cOp fDiv (cOp fAdd (cOp fMul (cVar 5) (cC (.int 998244353))) (cVar 6)) (cC (.int 16))) (cC (.int 1))))
    (cIfS (cTest (cOp fGe (cVar 3) (cOp fPow (cC (.int 10)) (cC (.int 18))))) (cSetIx (cVar 0) (cC (.int 2)) (cOp fDiv (cVar 3) (cOp fPow (cC (.int 10)) (cC (.int 18))))) cSkip))))))))) cSkip)
    (cSeq (cSet 7 (cOp fMod (cOp fIx (cVar 0) (cC (.int 2))) (cVar 1)))
    (cSeq (cSetIx (cVar 0) (cC (.int 2)) (cOp fDiv (cOp fIx (cVar 0) (cC (.int 2))) (cVar 1)))
    (cRet (cVar 7)))))
theorem e__law_take {a0 a1 : U} {S : Sto} : fnU 8 2 (c__law_take ) [a0, a1] S = ((c__law_take ) [some a0, some a1, none, none, none, none, none, none] S).bind kFn := x_fn rfl
noncomputable def c__law_world (f__law_take : Fn) : CS :=
  (cRet (cTup (cCons (cOp fAdd (cC (.int 1)) (cCB f__law_take (cCons (cVar 0) (cCons (cC (.int 6)) cNil)))) (cCons (cOp fIx (cLst (cCons (cC (.int 2)) (cCons (cC (.int 3)) (cCons (cC (.int 5)) (cCons (cC (.int 10)) (cCons (cOp fAdd (cC (.int 2)) (cCB f__law_take (cCons (cVar 0) (cCons (cC (.int 999)) cNil)))) cNil)))))) (cCB f__law_take (cCons (cVar 0) (cCons (cC (.int 5)) cNil)))) cNil))))
theorem e__law_world {f__law_take : Fn} {a0 : U} {S : Sto} : fnU 1 1 (c__law_world f__law_take) [a0] S = ((c__law_world f__law_take) [some a0] S).bind kFn := x_fn rfl
noncomputable def c__law_state (f__law_take : Fn) : CS :=
  (cRet (cCB fTuple (cCons (cComp (iRange1 (cCons (cOp fIx (cVar 1) (cC (.int 0))) cNil)) (gNm 0) (cCB f__law_take (cCons (cVar 1) (cCons (cOp fIx (cVar 2) (cC (.int 1))) cNil))) 1 [0, 1]) cNil)))
theorem e__law_state {f__law_take : Fn} {a0 a1 : U} {S : Sto} : fnU 2 2 (c__law_state f__law_take) [a0, a1] S = ((c__law_state f__law_take) [some a0, some a1] S).bind kFn := x_fn rfl
noncomputable def b__law_size_0 (f__law_size : Fn) : CS :=
  (cSeq (cSet 1 (cOp fAdd (cVar 1) (cC (.int 1))))
    (cIfS (cTest (cOp fEq (cOp fIx (cVar 2) (cC (.int 0))) (cC (.str "try")))) (cSet 1 (cOp fAdd (cOp fAdd (cVar 1) (cCB f__law_size (cCons (cOp fIx (cVar 2) (cC (.int 1))) cNil))) (cCB f__law_size (cCons (cOp fIx (cVar 2) (cC (.int 2))) cNil)))) cSkip))
noncomputable def c__law_size (f__law_size : Fn) : CS :=
  (cSeq (cSet 1 (cC (.int 0)))
    (cSeq (cFor (iTp (cVar 0)) (gNm 2) (b__law_size_0 f__law_size))
    (cRet (cVar 1))))
theorem e__law_size {f__law_size : Fn} {a0 : U} {S : Sto} : fnU 3 1 (c__law_size f__law_size) [a0] S = ((c__law_size f__law_size) [some a0, none, none] S).bind kFn := x_fn rfl
noncomputable def c__law_plain_deed (f__law_take : Fn) : CS :=
  (cSeq (cIfS (cTest (cOp fLt (cVar 2) (cC (.int 4)))) (cRet (cTup (cCons (cC (.str "look")) (cCons (cVar 3) (cCons (cCB f__law_take (cCons (cVar 0) (cCons (cOp fIx (cVar 1) (cC (.int 0))) cNil))) cNil))))) cSkip)
    (cSeq (cIfS (cTest (cOp fLt (cVar 2) (cC (.int 7)))) (cRet (cTup (cCons (cC (.str "put")) (cCons (cCB f__law_take (cCons (cVar 0) (cCons (cOp fIx (cVar 1) (cC (.int 0))) cNil))) (cCons (cVar 3) cNil))))) cSkip)
    (cSeq (cIfS (cTest (cOp fLt (cVar 2) (cC (.int 9)))) (cRet (cTup (cCons (cC (.str "set")) (cCons (cVar 3) (cCons (cCB f__law_take (cCons (cVar 0) (cCons (cOp fIx (cVar 1) (cC (.int 1))) cNil))) cNil))))) cSkip)
    (cSeq (cIfS (cTest (cOp fLt (cVar 2) (cC (.int 11)))) (cRet (cTup (cCons (cC (.str "plus")) (cCons (cVar 3) (cCons (cCB f__law_take (cCons (cVar 0) (cCons (cC (.int 4)) cNil))) cNil))))) cSkip)
    (cRet (cTup (cCons (cC (.str "leap")) (cCons (cVar 3) (cCons (cOp fAdd (cC (.int 1)) (cCB f__law_take (cCons (cVar 0) (cCons (cOp fIx (cLst (cCons (cC (.int 2)) (cCons (cC (.int 12)) cNil))) (cCB f__law_take (cCons (cVar 0) (cCons (cC (.int 2)) cNil)))) cNil)))) cNil)))))))))
theorem e__law_plain_deed {f__law_take : Fn} {a0 a1 a2 a3 : U} {S : Sto} : fnU 4 4 (c__law_plain_deed f__law_take) [a0, a1, a2, a3] S = ((c__law_plain_deed f__law_take) [some a0, some a1, some a2, some a3] S).bind kFn := x_fn rfl
noncomputable def b__law_dealing_0 (f__law_take f__law_plain_deed f__law_dealing f__law_size : Fn) : CS :=
  (cSeq (cSet 7 (cCB f__law_take (cCons (cVar 0) (cCons (cC (.int 16)) cNil))))
    (cSeq (cSet 8 (cCB f__law_take (cCons (cVar 0) (cCons (cC (.int 4)) cNil))))
    (cIfS (cAnd (cTest (cOp fGt (cVar 5) (cC (.int 0)))) (cAnd (cTest (cOp fLt (cCB fLen (cCons (cVar 4) cNil)) (cC (.int 12)))) (cTest (cOp fLt (cVar 7) (cC (.int 13)))))) (cSeq (cDrop (cBM fAppend (cVar 4) (cCons (cCB f__law_plain_deed (cCons (cVar 0) (cCons (cVar 1) (cCons (cVar 7) (cCons (cVar 8) cNil))))) cNil)))
    (cSet 5 (cOp fSub (cVar 5) (cC (.int 1))))) (cIfS (cAnd (cTest (cOp fGt (cVar 5) (cC (.int 0)))) (cAnd (cTest (cOp fLt (cCB fLen (cCons (cVar 4) cNil)) (cC (.int 12)))) (cOr (cTest (cOp fEq (cVar 7) (cC (.int 13)))) (cTest (cOp fEq (cVar 3) (cC (.int 0))))))) (cSeq (cIfS (cAnd (cTest (cOp fGt (cVar 5) (cC (.int 1)))) (cAnd (cTest (cOp fLt (cCB fLen (cCons (cVar 4) cNil)) (cC (.int 11)))) (cTest (cOp fGt (cCB f__law_take (cCons (cVar 0) (cCons (cC (.int 4)) cNil))) (cC (.int 0)))))) (cSeq (cDrop (cBM fAppend (cVar 4) (cCons (cTup (cCons (cC (.str "leap")) (cCons (cVar 8) (cCons (cC (.int 1)) cNil)))) cNil)))
    (cSet 5 (cOp fSub (cVar 5) (cC (.int 1))))) cSkip)
    (cSeq (cDrop (cBM fAppend (cVar 4) (cCons (cTup (cCons (cC (.str "wait")) cNil)) cNil)))
    (cSet 5 (cOp fSub (cVar 5) (cC (.int 1)))))) (cIfS (cAnd (cTest (cOp fGt (cVar 5) (cC (.int 0)))) (cTest (cOp fLt (cCB fLen (cCons (cVar 4) cNil)) (cC (.int 12))))) (cSeq (cSet 9 (cCB f__law_dealing (cCons (cVar 0) (cCons (cVar 1) (cCons (cCB f__law_take (cCons (cVar 0) (cCons (cVar 5) cNil))) (cCons (cOp fSub (cVar 3) (cC (.int 1))) cNil))))))
    (cSeq (cSet 5 (cOp fSub (cOp fSub (cVar 5) (cC (.int 1))) (cCB f__law_size (cCons (cVar 9) cNil))))
    (cSeq (cSet 10 (cCB f__law_dealing (cCons (cVar 0) (cCons (cVar 1) (cCons (cCB f__law_take (cCons (cVar 0) (cCons (cOp fAdd (cVar 5) (cC (.int 1))) cNil))) (cCons (cOp fSub (cVar 3) (cC (.int 1))) cNil))))))
    (cSeq (cSet 5 (cOp fSub (cVar 5) (cCB f__law_size (cCons (cVar 10) cNil))))
    (cDrop (cBM fAppend (cVar 4) (cCons (cTup (cCons (cC (.str "try")) (cCons (cVar 9) (cCons (cVar 10) cNil)))) cNil))))))) cSkip)))))
noncomputable def c__law_dealing (f__law_take f__law_plain_deed f__law_dealing f__law_size : Fn) : CS :=
  (cSeq (cSet 4 (cLst cNil))
    (cSeq (cSet 5 (cVar 2))
    (cSeq (cFor (iRange1 (cCons (cCB f__law_take (cCons (cVar 0) (cCons (cOp fAdd (cCB fMin (cCons (cC (.int 12)) (cCons (cVar 2) cNil))) (cC (.int 1))) cNil))) cNil)) (gNm 6) (b__law_dealing_0 f__law_take f__law_plain_deed f__law_dealing f__law_size))
    (cRet (cCB fTuple (cCons (cVar 4) cNil))))))
theorem e__law_dealing {f__law_take f__law_plain_deed f__law_dealing f__law_size : Fn} {a0 a1 a2 a3 : U} {S : Sto} : fnU 11 4 (c__law_dealing f__law_take f__law_plain_deed f__law_dealing f__law_size) [a0, a1, a2, a3] S = ((c__law_dealing f__law_take f__law_plain_deed f__law_dealing f__law_size) [some a0, some a1, some a2, some a3, none, none, none, none, none, none, none] S).bind kFn := x_fn rfl
noncomputable def c__law_plain : CS :=
  (cSeq (cAsg (cVar 1) (gTp [3, 4, 5]))
    (cIfS (cTest (cOp fEq (cVar 3) (cC (.str "look")))) (cSeq (cIfS (cAnd (cTest (cOp (fIn true) (cVar 5) (cOp fIx (cVar 2) (cC (.str "own"))))) (cTest (cOp (fIn true) (cVar 5) (cOp fIx (cVar 2) (cC (.str "looked")))))) (cDrop (cBM fAppend (cOp fIx (cVar 2) (cC (.str "looked"))) (cCons (cVar 5) cNil))) cSkip)
    (cSetIx (cOp fIx (cVar 2) (cC (.str "hands"))) (cVar 4) (cOp fIx (cOp fIx (cVar 2) (cC (.str "state"))) (cVar 5)))) (cIfS (cTest (cOp fEq (cVar 3) (cC (.str "put")))) (cSeq (cSetIx (cOp fIx (cVar 2) (cC (.str "state"))) (cVar 4) (cOp fIx (cOp fIx (cVar 2) (cC (.str "hands"))) (cVar 5)))
    (cIfS (cTest (cOp (fIn true) (cVar 4) (cOp fIx (cVar 2) (cC (.str "own"))))) (cDrop (cBM fAppend (cOp fIx (cVar 2) (cC (.str "own"))) (cCons (cVar 4) cNil))) cSkip)) (cIfS (cTest (cOp fEq (cVar 3) (cC (.str "set")))) (cSetIx (cOp fIx (cVar 2) (cC (.str "hands"))) (cVar 4) (cVar 5)) (cSetIx (cOp fIx (cVar 2) (cC (.str "hands"))) (cVar 4) (cOp fMod (cOp fAdd (cOp fIx (cOp fIx (cVar 2) (cC (.str "hands"))) (cVar 4)) (cOp fIx (cOp fIx (cVar 2) (cC (.str "hands"))) (cVar 5))) (cOp fIx (cVar 0) (cC (.int 1)))))))))
theorem e__law_plain {a0 a1 a2 : U} {S : Sto} : fnU 6 3 (c__law_plain ) [a0, a1, a2] S = ((c__law_plain ) [some a0, some a1, some a2, none, none, none] S).bind kFn := x_fn rfl
noncomputable def b__law_waits_0 (f__law_plain f__law_waits : Fn) : CS :=
  (cSetIx (cVar 2) (cVar 6) (cOp fIx (cVar 5) (cVar 6)))
noncomputable def b__law_waits_1 (f__law_plain f__law_waits : Fn) : CS :=
  (cIfS (cTest (cOp fGt (cVar 3) (cC (.int 0)))) (cSet 3 (cOp fSub (cVar 3) (cC (.int 1)))) (cIfS (cTest (cOp fEq (cOp fIx (cVar 4) (cC (.int 0))) (cC (.str "wait")))) (cRet (cC (.bl true))) (cIfS (cTest (cOp fEq (cOp fIx (cVar 4) (cC (.int 0))) (cC (.str "leap")))) (cSet 3 (cOp fMul (cOp fIx (cVar 4) (cC (.int 2))) (cCB fInt (cCons (cOp fEq (cOp fIx (cOp fIx (cVar 2) (cC (.str "hands"))) (cOp fIx (cVar 4) (cC (.int 1)))) (cC (.int 0))) cNil)))) (cIfS (cTest (cOp fNe (cOp fIx (cVar 4) (cC (.int 0))) (cC (.str "try")))) (cDrop (cCB f__law_plain (cCons (cVar 0) (cCons (cVar 4) (cCons (cVar 2) cNil))))) (cSeq (cSet 5 (cDisp [((cC (.str "state")), (cCB fList (cCons (cOp fIx (cVar 2) (cC (.str "state"))) cNil))), ((cC (.str "own")), (cCB fList (cCons (cOp fIx (cVar 2) (cC (.str "own"))) cNil))), ((cC (.str "hands")), (cCB fList (cCons (cOp fIx (cVar 2) (cC (.str "hands"))) cNil)))]))
    (cIfS (cTest (cCB f__law_waits (cCons (cVar 0) (cCons (cOp fIx (cVar 4) (cC (.int 1))) (cCons (cVar 2) cNil))))) (cSeq (cForD (cVar 5) (gNm 6) (b__law_waits_0 f__law_plain f__law_waits))
    (cIfS (cTest (cCB f__law_waits (cCons (cVar 0) (cCons (cOp fIx (cVar 4) (cC (.int 2))) (cCons (cVar 2) cNil))))) (cRet (cC (.bl true))) cSkip)) cSkip))))))
noncomputable def c__law_waits (f__law_plain f__law_waits : Fn) : CS :=
  (cSeq (cSet 3 (cC (.int 0)))
    (cSeq (cFor (iTp (cVar 1)) (gNm 4) (b__law_waits_1 f__law_plain f__law_waits))
    (cRet (cC (.bl false)))))
theorem e__law_waits {f__law_plain f__law_waits : Fn} {a0 a1 a2 : U} {S : Sto} : fnU 7 3 (c__law_waits f__law_plain f__law_waits) [a0, a1, a2] S = ((c__law_waits f__law_plain f__law_waits) [some a0, some a1, some a2, none, none, none, none] S).bind kFn := x_fn rfl
noncomputable def c__law_same (f__law_same : Fn) : CS :=
  (cSeq (cIfS (cTest (cOp fIsN (cVar 1) (cC .non))) (cRet (cOp fIsN (cVar 0) (cC .non))) cSkip)
    (cSeq (cIfS (cTest (cIsi .bool (cVar 1))) (cRet (cAndV (cIsi .bool (cVar 0)) (cOp fEq (cVar 0) (cVar 1)))) cSkip)
    (cSeq (cIfS (cTest (cIsi .str (cVar 1))) (cRet (cAndV (cIsi .str (cVar 0)) (cOp fEq (cVar 0) (cVar 1)))) cSkip)
    (cSeq (cIfS (cTest (cIsi .int (cVar 1))) (cRet (cAndV (cIsi .int (cVar 0)) (cAndV (cNotV (cIsi .bool (cVar 0))) (cOp fEq (cVar 0) (cVar 1))))) cSkip)
    (cSeq (cIfS (cOr (cTest (cOp fNe (cIsi .tuple (cVar 1)) (cIsi .tuple (cVar 0)))) (cTest (cOp fNe (cIsi .list (cVar 1)) (cIsi .list (cVar 0))))) (cRet (cC (.bl false))) cSkip)
    (cRet (cAndV (cOp fEq (cCB fLen (cCons (cVar 0) cNil)) (cCB fLen (cCons (cVar 1) cNil))) (cOp (fIn true) (cC (.bl false)) (cComp (iZip (cVar 0) (cVar 1)) (gTp [0, 1]) (cCB f__law_same (cCons (cVar 0) (cCons (cVar 1) cNil))) 2 [])))))))))
theorem e__law_same {f__law_same : Fn} {a0 a1 : U} {S : Sto} : fnU 2 2 (c__law_same f__law_same) [a0, a1] S = ((c__law_same f__law_same) [some a0, some a1] S).bind kFn := x_fn rfl
end OQ
set_option maxHeartbeats 4000000
namespace OQ
open PySem PySem.Spec PyProof.Rows L2 OG OP
noncomputable def c_with_at : CS :=
  (cRet (cOp fAdd (cOp fAdd (cSl (cVar 0) none (some (cVar 1))) (cTup (cCons (cVar 2) cNil))) (cSl (cVar 0) (some (cOp fAdd (cVar 1) (cC (.int 1)))) none)))
theorem e_with_at {a0 a1 a2 : U} {S : Sto} : fnU 3 3 (c_with_at ) [a0, a1, a2] S = ((c_with_at ) [some a0, some a1, some a2] S).bind kFn := x_fn rfl
noncomputable def b_onwards_0 (fuel : Nat) : CS :=
  (cSet 1 (cOp fIx (cVar 1) (cC (.int 2))))
noncomputable def c_onwards (fuel : Nat) : CS :=
  (cSeq (cSet 1 (cVar 0))
    (cSeq (whileU (cAnd (cTest (cOp fGe (cOp fIx (cVar 1) (cC (.int 1))) (cCB fLen (cCons (cOp fIx (cVar 1) (cC (.int 0))) cNil)))) (cTest (cOp fNotN (cOp fIx (cVar 1) (cC (.int 2))) (cC .non)))) (b_onwards_0 fuel) fuel)
    (cRet (cVar 1))))
theorem e_onwards {fuel : Nat} {a0 : U} {S : Sto} : fnU 2 1 (c_onwards fuel) [a0] S = ((c_onwards fuel) [some a0, none] S).bind kFn := x_fn rfl
noncomputable def c_Doing_deed (cDoing : Cl) : CS :=
  (cSeq (cIfS (cTest (cOp fGe (cOp fIx (cFld cDoing 3 (cVar 0)) (cC (.int 1))) (cCB fLen (cCons (cOp fIx (cFld cDoing 3 (cVar 0)) (cC (.int 0))) cNil)))) (cRet (cC .non)) cSkip)
    (cRet (cOp fIx (cOp fIx (cFld cDoing 3 (cVar 0)) (cC (.int 0))) (cOp fIx (cFld cDoing 3 (cVar 0)) (cC (.int 1))))))
theorem e_Doing_deed {cDoing : Cl} {a0 : U} {S : Sto} : fnU 1 1 (c_Doing_deed cDoing) [a0] S = ((c_Doing_deed cDoing) [some a0] S).bind kFn := x_fn rfl
noncomputable def c_Doing_asks (f_Doing_deed : Fn) (cDoing : Cl) : CS :=
  (cSeq (cSet 1 (cMeth cDoing f_Doing_deed (cVar 0) cNil))
    (cRet (cAndV (cOp fEq (cOp fIx (cVar 1) (cC (.int 0))) (cC (.str "look"))) (cOp fIsN (cOp fIx (cFld cDoing 2 (cVar 0)) (cOp fIx (cVar 1) (cC (.int 2)))) (cC .non)))))
theorem e_Doing_asks {f_Doing_deed : Fn} {cDoing : Cl} {a0 : U} {S : Sto} : fnU 2 1 (c_Doing_asks f_Doing_deed cDoing) [a0] S = ((c_Doing_asks f_Doing_deed cDoing) [some a0, none] S).bind kFn := x_fn rfl
noncomputable def c_Doing_hold (f_with_at : Fn) (cDoing : Cl) : CS :=
  (cSetF cDoing 1 (cVar 0) (cCB f_with_at (cCons (cFld cDoing 1 (cVar 0)) (cCons (cVar 1) (cCons (cVar 2) cNil)))))
theorem e_Doing_hold {f_with_at : Fn} {cDoing : Cl} {a0 a1 a2 : U} {S : Sto} : fnU 3 3 (c_Doing_hold f_with_at cDoing) [a0, a1, a2] S = ((c_Doing_hold f_with_at cDoing) [some a0, some a1, some a2] S).bind kFn := x_fn rfl
noncomputable def c_Doing_part_behind (cDoing : Cl) : CS :=
  (cSeq (cSet 2 (cFld cDoing 3 (cVar 0)))
    (cRet (cTup (cCons (cOp fIx (cVar 2) (cC (.int 0))) (cCons (cOp fAdd (cOp fAdd (cOp fIx (cVar 2) (cC (.int 1))) (cC (.int 1))) (cVar 1)) (cCons (cOp fIx (cVar 2) (cC (.int 2))) (cCons (cOp fIx (cVar 2) (cC (.int 3))) cNil)))))))
theorem e_Doing_part_behind {cDoing : Cl} {a0 a1 : U} {S : Sto} : fnU 3 2 (c_Doing_part_behind cDoing) [a0, a1] S = ((c_Doing_part_behind cDoing) [some a0, some a1, none] S).bind kFn := x_fn rfl
noncomputable def c_Doing_go_behind (f_onwards f_Doing_part_behind : Fn) (cDoing : Cl) : CS :=
  (cSetF cDoing 3 (cVar 0) (cCB f_onwards (cCons (cMeth cDoing f_Doing_part_behind (cVar 0) (cCons (cVar 1) cNil)) cNil)))
theorem e_Doing_go_behind {f_onwards f_Doing_part_behind : Fn} {cDoing : Cl} {a0 a1 : U} {S : Sto} : fnU 2 2 (c_Doing_go_behind f_onwards f_Doing_part_behind cDoing) [a0, a1] S = ((c_Doing_go_behind f_onwards f_Doing_part_behind cDoing) [some a0, some a1] S).bind kFn := x_fn rfl
noncomputable def c_Doing_hear (f_Doing_hold f_Doing_deed f_Doing_go_behind : Fn) (cDoing : Cl) : CS :=
  (cSeq (cDrop (cMeth cDoing f_Doing_hold (cVar 0) (cCons (cOp fIx (cMeth cDoing f_Doing_deed (cVar 0) cNil) (cC (.int 1))) (cCons (cVar 1) cNil))))
    (cDrop (cMeth cDoing f_Doing_go_behind (cVar 0) (cCons (cC (.int 0)) cNil))))
theorem e_Doing_hear {f_Doing_hold f_Doing_deed f_Doing_go_behind : Fn} {cDoing : Cl} {a0 a1 : U} {S : Sto} : fnU 2 2 (c_Doing_hear f_Doing_hold f_Doing_deed f_Doing_go_behind cDoing) [a0, a1] S = ((c_Doing_hear f_Doing_hold f_Doing_deed f_Doing_go_behind cDoing) [some a0, some a1] S).bind kFn := x_fn rfl
noncomputable def c_Doing_enter_try (f_onwards f_Doing_part_behind : Fn) (cDoing : Cl) : CS :=
  (cSeq (cSet 3 (cMeth cDoing f_Doing_part_behind (cVar 0) (cCons (cC (.int 0)) cNil)))
    (cSeq (cSet 4 (cCB f_onwards (cCons (cTup (cCons (cVar 2) (cCons (cC (.int 0)) (cCons (cVar 3) (cCons (cOp fIx (cVar 3) (cC (.int 3))) cNil))))) cNil)))
    (cSetF cDoing 3 (cVar 0) (cCB f_onwards (cCons (cTup (cCons (cVar 1) (cCons (cC (.int 0)) (cCons (cVar 3) (cCons (cTup (cCons (cFld cDoing 1 (cVar 0)) (cCons (cFld cDoing 2 (cVar 0)) (cCons (cVar 4) cNil)))) cNil))))) cNil)))))
theorem e_Doing_enter_try {f_onwards f_Doing_part_behind : Fn} {cDoing : Cl} {a0 a1 a2 : U} {S : Sto} : fnU 5 3 (c_Doing_enter_try f_onwards f_Doing_part_behind cDoing) [a0, a1, a2] S = ((c_Doing_enter_try f_onwards f_Doing_part_behind cDoing) [some a0, some a1, some a2, none, none] S).bind kFn := x_fn rfl
noncomputable def c_Doing_goes_back (cDoing : Cl) : CS :=
  (cSeq (cSet 1 (cOp fIx (cFld cDoing 3 (cVar 0)) (cC (.int 3))))
    (cSeq (cIfS (cTest (cOp fIsN (cVar 1) (cC .non))) (cRet (cC (.bl false))) cSkip)
    (cSeq (cSetF cDoing 1 (cVar 0) (cOp fIx (cVar 1) (cC (.int 0))))
    (cSeq (cSetF cDoing 2 (cVar 0) (cOp fIx (cVar 1) (cC (.int 1))))
    (cSeq (cSetF cDoing 3 (cVar 0) (cOp fIx (cVar 1) (cC (.int 2))))
    (cRet (cC (.bl true))))))))
theorem e_Doing_goes_back {cDoing : Cl} {a0 : U} {S : Sto} : fnU 2 1 (c_Doing_goes_back cDoing) [a0] S = ((c_Doing_goes_back cDoing) [some a0, none] S).bind kFn := x_fn rfl
noncomputable def c_Doing_do_deed (f_with_at f_Doing_deed f_Doing_goes_back f_Doing_enter_try f_Doing_hold f_Doing_go_behind : Fn) (cDoing : Cl) : CS :=
  (cSeq (cSet 1 (cMeth cDoing f_Doing_deed (cVar 0) cNil))
    (cSeq (cSet 2 (cOp fIx (cVar 1) (cC (.int 0))))
    (cSeq (cIfS (cTest (cOp fEq (cVar 2) (cC (.str "wait")))) (cRet (cMeth cDoing f_Doing_goes_back (cVar 0) cNil)) cSkip)
    (cSeq (cIfS (cTest (cOp fEq (cVar 2) (cC (.str "try")))) (cSeq (cDrop (cMeth cDoing f_Doing_enter_try (cVar 0) (cCons (cOp fIx (cVar 1) (cC (.int 1))) (cCons (cOp fIx (cVar 1) (cC (.int 2))) cNil))))
    (cRet (cC (.bl true)))) cSkip)
    (cSeq (cSet 3 (cC (.int 0)))
    (cSeq (cIfS (cTest (cOp fEq (cVar 2) (cC (.str "look")))) (cDrop (cMeth cDoing f_Doing_hold (cVar 0) (cCons (cOp fIx (cVar 1) (cC (.int 1))) (cCons (cOp fIx (cFld cDoing 2 (cVar 0)) (cOp fIx (cVar 1) (cC (.int 2)))) cNil)))) (cIfS (cTest (cOp fEq (cVar 2) (cC (.str "put")))) (cSetF cDoing 2 (cVar 0) (cCB f_with_at (cCons (cFld cDoing 2 (cVar 0)) (cCons (cOp fIx (cVar 1) (cC (.int 1))) (cCons (cOp fIx (cFld cDoing 1 (cVar 0)) (cOp fIx (cVar 1) (cC (.int 2)))) cNil))))) (cIfS (cTest (cOp fEq (cVar 2) (cC (.str "set")))) (cDrop (cMeth cDoing f_Doing_hold (cVar 0) (cCons (cOp fIx (cVar 1) (cC (.int 1))) (cCons (cOp fIx (cVar 1) (cC (.int 2))) cNil)))) (cIfS (cTest (cOp fEq (cVar 2) (cC (.str "plus")))) (cDrop (cMeth cDoing f_Doing_hold (cVar 0) (cCons (cOp fIx (cVar 1) (cC (.int 1))) (cCons (cOp fMod (cOp fAdd (cOp fIx (cFld cDoing 1 (cVar 0)) (cOp fIx (cVar 1) (cC (.int 1)))) (cOp fIx (cFld cDoing 1 (cVar 0)) (cOp fIx (cVar 1) (cC (.int 2))))) (cFld cDoing 0 (cVar 0))) cNil)))) (cIfS (cTest (cOp fEq (cOp fIx (cFld cDoing 1 (cVar 0)) (cOp fIx (cVar 1) (cC (.int 1)))) (cC (.int 0)))) (cSet 3 (cOp fIx (cVar 1) (cC (.int 2)))) cSkip)))))
    (cSeq (cDrop (cMeth cDoing f_Doing_go_behind (cVar 0) (cCons (cVar 3) cNil)))
    (cRet (cC (.bl true))))))))))
theorem e_Doing_do_deed {f_with_at f_Doing_deed f_Doing_goes_back f_Doing_enter_try f_Doing_hold f_Doing_go_behind : Fn} {cDoing : Cl} {a0 : U} {S : Sto} : fnU 4 1 (c_Doing_do_deed f_with_at f_Doing_deed f_Doing_goes_back f_Doing_enter_try f_Doing_hold f_Doing_go_behind cDoing) [a0] S = ((c_Doing_do_deed f_with_at f_Doing_deed f_Doing_goes_back f_Doing_enter_try f_Doing_hold f_Doing_go_behind cDoing) [some a0, none, none, none] S).bind kFn := x_fn rfl
noncomputable def c_Doing_put_pairs (cDoing : Cl) : CS :=
  (cRet (cCompIf (iEnum (cFld cDoing 2 (cVar 0))) (gTp [0, 1]) (cTest (cOp fNotN (cVar 1) (cC .non))) (cTup (cCons (cVar 0) (cCons (cVar 1) cNil))) 2 []))
theorem e_Doing_put_pairs {cDoing : Cl} {a0 : U} {S : Sto} : fnU 1 1 (c_Doing_put_pairs cDoing) [a0] S = ((c_Doing_put_pairs cDoing) [some a0] S).bind kFn := x_fn rfl
noncomputable def c_Doing_init (f_onwards : Fn) (cDoing : Cl) : CS :=
  (cSeq (cSetF cDoing 0 (cVar 0) (cOp fIx (cVar 1) (cC (.int 1))))
    (cSeq (cSetF cDoing 1 (cVar 0) (cTup (cCons (cC (.int 0)) (cCons (cC (.int 0)) (cCons (cC (.int 0)) (cCons (cC (.int 0)) cNil))))))
    (cSeq (cSetF cDoing 2 (cVar 0) (cOp fMulR (cTup (cCons (cC .non) cNil)) (cOp fIx (cVar 1) (cC (.int 0)))))
    (cSetF cDoing 3 (cVar 0) (cCB f_onwards (cCons (cTup (cCons (cVar 2) (cCons (cC (.int 0)) (cCons (cC .non) (cCons (cC .non) cNil))))) cNil))))))
theorem e_Doing_init {f_onwards : Fn} {cDoing : Cl} {a0 a1 a2 : U} {S : Sto} : fnU 3 3 (c_Doing_init f_onwards cDoing) [a0, a1, a2] S = ((c_Doing_init f_onwards cDoing) [some a0, some a1, some a2] S).bind kFn := x_fn rfl
noncomputable def b_goes_through_0 (f_Doing_deed f_Doing_asks f_Doing_hear f_Doing_do_deed : Fn) (cDoing : Cl) (fuel : Nat) : CS :=
  (cIfS (cTest (cMeth cDoing f_Doing_asks (cVar 0) cNil)) (cSeq (cSet 3 (cOp fIx (cMeth cDoing f_Doing_deed (cVar 0) cNil) (cC (.int 2))))
    (cSeq (cSetIx (cVar 2) (cVar 3) (cC (.bl true)))
    (cDrop (cMeth cDoing f_Doing_hear (cVar 0) (cCons (cOp fIx (cVar 1) (cVar 3)) cNil))))) (cIfS (cNot (cTest (cMeth cDoing f_Doing_do_deed (cVar 0) cNil))) (cRet (cC (.bl false))) cSkip))
noncomputable def c_goes_through (f_Doing_deed f_Doing_asks f_Doing_hear f_Doing_do_deed : Fn) (cDoing : Cl) (fuel : Nat) : CS :=
  (cSeq (whileU (cTest (cOp fNotN (cMeth cDoing f_Doing_deed (cVar 0) cNil) (cC .non))) (b_goes_through_0 f_Doing_deed f_Doing_asks f_Doing_hear f_Doing_do_deed cDoing fuel) fuel)
    (cRet (cC (.bl true))))
theorem e_goes_through {f_Doing_deed f_Doing_asks f_Doing_hear f_Doing_do_deed : Fn} {cDoing : Cl} {fuel : Nat} {a0 a1 a2 : U} {S : Sto} : fnU 4 3 (c_goes_through f_Doing_deed f_Doing_asks f_Doing_hear f_Doing_do_deed cDoing fuel) [a0, a1, a2] S = ((c_goes_through f_Doing_deed f_Doing_asks f_Doing_hear f_Doing_do_deed cDoing fuel) [some a0, some a1, some a2, none] S).bind kFn := x_fn rfl
end OQ
set_option maxHeartbeats 4000000
namespace OQ
open PySem PySem.Spec PyProof.Rows L2 OG OP
noncomputable def c__law_alone (f__law_waits : Fn) : CS :=
  (cSeq (cSet 3 (cDisp [((cC (.str "state")), (cCB fList (cCons (cVar 2) cNil))), ((cC (.str "own")), (cLst cNil)), ((cC (.str "hands")), (cLst (cCons (cC (.int 0)) (cCons (cC (.int 0)) (cCons (cC (.int 0)) (cCons (cC (.int 0)) cNil)))))), ((cC (.str "looked")), (cLst cNil))]))
    (cSeq (cIfS (cTest (cCB f__law_waits (cCons (cVar 0) (cCons (cVar 1) (cCons (cVar 3) cNil))))) (cRet (cTup (cCons (cC (.str "waits")) (cCons (cCB fSorted (cCons (cOp fIx (cVar 3) (cC (.str "looked"))) cNil)) cNil)))) cSkip)
    (cRet (cTup (cCons (cC (.str "done")) (cCons (cCB fTuple (cCons (cOp fIx (cVar 3) (cC (.str "state"))) cNil)) (cCons (cCB fTuple (cCons (cOp fIx (cVar 3) (cC (.str "hands"))) cNil)) cNil)))))))
theorem e__law_alone {f__law_waits : Fn} {a0 a1 a2 : U} {S : Sto} : fnU 4 3 (c__law_alone f__law_waits) [a0, a1, a2] S = ((c__law_alone f__law_waits) [some a0, some a1, some a2, none] S).bind kFn := x_fn rfl
noncomputable def b_alone_0 (f_goes_through f_Doing_put_pairs f_Doing_init : Fn) (cDoing : Cl) : CS :=
  (cSetIx (cVar 5) (cVar 6) (cVar 7))
noncomputable def c_alone (f_goes_through f_Doing_put_pairs f_Doing_init : Fn) (cDoing : Cl) : CS :=
  (cSeq (cSet 3 (cCB (fMake cDoing f_Doing_init) (cCons (cVar 0) (cCons (cVar 1) cNil))))
    (cSeq (cSet 4 cDNew)
    (cSeq (cIfS (cNot (cTest (cCB f_goes_through (cCons (cVar 3) (cCons (cVar 2) (cCons (cVar 4) cNil)))))) (cRet (cTup (cCons (cC (.str "waits")) (cCons (cCB fSorted (cCons (cVar 4) cNil)) cNil)))) cSkip)
    (cSeq (cSet 5 (cCB fList (cCons (cVar 2) cNil)))
    (cSeq (cFor (iTp (cMeth cDoing f_Doing_put_pairs (cVar 3) cNil)) (gTp [6, 7]) (b_alone_0 f_goes_through f_Doing_put_pairs f_Doing_init cDoing))
    (cRet (cTup (cCons (cC (.str "done")) (cCons (cCB fTuple (cCons (cVar 5) cNil)) (cCons (cFld cDoing 1 (cVar 3)) cNil))))))))))
theorem e_alone {f_goes_through f_Doing_put_pairs f_Doing_init : Fn} {cDoing : Cl} {a0 a1 a2 : U} {S : Sto} : fnU 8 3 (c_alone f_goes_through f_Doing_put_pairs f_Doing_init cDoing) [a0, a1, a2] S = ((c_alone f_goes_through f_Doing_put_pairs f_Doing_init cDoing) [some a0, some a1, some a2, none, none, none, none, none] S).bind kFn := x_fn rfl
noncomputable def b_in_row_0 (f_alone : Fn) : CS :=
  (cSeq (cSet 7 (cCB f_alone (cCons (cVar 0) (cCons (cOp fIx (cVar 1) (cVar 6)) (cCons (cVar 4) cNil)))))
    (cSeq (cIfS (cTest (cOp fEq (cOp fIx (cVar 7) (cC (.int 0))) (cC (.str "waits")))) (cRet (cTup (cCons (cC (.str "waits")) (cCons (cVar 5) (cCons (cOp fIx (cVar 7) (cC (.int 1))) cNil))))) cSkip)
    (cSet 4 (cOp fIx (cVar 7) (cC (.int 1))))))
noncomputable def c_in_row (f_alone : Fn) : CS :=
  (cSeq (cSet 4 (cVar 2))
    (cSeq (cFor (iEnum (cVar 3)) (gTp [5, 6]) (b_in_row_0 f_alone))
    (cRet (cTup (cCons (cC (.str "done")) (cCons (cVar 4) cNil))))))
theorem e_in_row {f_alone : Fn} {a0 a1 a2 a3 : U} {S : Sto} : fnU 8 4 (c_in_row f_alone) [a0, a1, a2, a3] S = ((c_in_row f_alone) [some a0, some a1, some a2, some a3, none, none, none, none] S).bind kFn := x_fn rfl
end OQ
local macro_rules
  | `(tactic| rwa $s:rwRuleSeq) => do
    let ts : Array (Lean.TSyntax `term) := s.raw[1].getSepArgs.map fun r => ⟨r[1]⟩
    let us : Array (Lean.TSyntax `term) := (("x_var x_var' x_c x_op x_op1 x_op2 x_test x_test1 x_and x_and1 x_and2 x_or x_or1 x_or2 x_not x_not1 x_andV x_andV1 x_andV2 x_orV x_orV1 x_orV2 x_notV x_notV1 x_nil x_cons x_cons1 x_cons2 x_tup x_tup1 x_lst x_lst1 x_cb x_cb1 x_isi x_isi1 x_skip x_seq x_seq1 x_seq2 x_seq3 x_seq4 x_drop x_drop1 x_ret x_ret1 x_ifs x_ifs1 x_ifs2 x_if x_if1 x_if2 x_set x_set1 x_asg x_asg1 x_asg2 x_gnm x_gtp x_all0 x_all1 x_si x_si0 x_si1 x_si2 x_si3 x_ixt x_ixr x_ixl x_ixd x_six x_sixl x_sixd x_lenr x_lenl x_lend x_lent x_add x_sub x_lt x_le x_gt x_ge x_eqi x_nei x_eqs x_nes x_eqb x_neb x_fn1 x_fn2 at0 at1 at2 at3 ix0 ix1 ix2 Option.bind_some List.getElem?_cons_zero List.getElem?_cons_succ List.set_cons_zero List.set_cons_succ List.length_cons List.length_nil List.map_cons List.map_nil decide_true decide_false Bool.not_true Bool.not_false x_fld x_fld1 x_fld2 x_sf x_sf1 x_sf2 x_sf3 x_meth x_meth1 x_meth2 x_meth3 x_make1 x_inr x_ind x_key x_keys x_bm x_bm0 x_bm1 x_bm2 x_app x_dg x_dg0 x_dg1 x_dg2 x_dg3 x_dg4 x_dnew x_p0 x_p x_p1 x_p2 x_p3 x_disp x_disp1 x_disp2 x_tupt x_tupr x_tupl x_listt x_listr x_listl x_intb ga ga0 gs gs0 Option.join_some Nat.add_zero List.cons_append List.nil_append List.append_assoc" : String).splitOn " ").toArray.map fun x => ⟨(Lean.mkIdent ((x.splitOn ".").foldl Lean.Name.str Lean.Name.anonymous)).raw⟩
    let vs := ts ++ us
    `(tactic| simp only [$[$vs:term],*])
set_option maxHeartbeats 1000000
namespace OQ
open PySem PySem.Spec PyProof.Rows L2 OG OP
def pen (a c : Int) : O := .lst [.ref 0, .int a, .int c]
section
variable {S : Sto} {j k : Int}
theorem x_mulR (h : -(2 ^ 64) < k ∧ k < 2 ^ 64) : fMul (.int j) (.int k) S = some (.int (j * k), S) := x_mul (.inr h)
theorem x_mulL (h : -(2 ^ 64) < j ∧ j < 2 ^ 64) : fMul (.int j) (.int k) S = some (.int (j * k), S) := x_mul (.inl h)
theorem x_m3 : fMul (.int j) (.int 3) S = some (.int (j * 3), S) := x_mulR (by decide)
theorem x_m97 : fMul (.int 97) (.int k) S = some (.int (97 * k), S) := x_mulL (by decide)
theorem x_m53 : fMul (.int 53) (.int k) S = some (.int (53 * k), S) := x_mulL (by decide)
theorem x_m4 : fMul (.int j) (.int 48271) S = some (.int (j * 48271), S) := x_mulR (by decide)
theorem x_m6 : fMul (.int 69621) (.int k) S = some (.int (69621 * k), S) := x_mulL (by decide)
theorem x_m9 : fMul (.int j) (.int 998244353) S = some (.int (j * 998244353), S) := x_mulR (by decide)
theorem x_mm1 : fMul (.int (j % 2147483647)) (.int k) S = some (.int (j % 2147483647 * k), S) := x_mulL (by have := Int.emod_nonneg j (show (2147483647 : Int) ≠ 0 by decide); have := Int.emod_lt_of_pos j (show (0 : Int) < 2147483647 by decide); omega)
theorem x_mm2 : fMul (.int (j % 1000000007)) (.int k) S = some (.int (j % 1000000007 * k), S) := x_mulL (by have := Int.emod_nonneg j (show (1000000007 : Int) ≠ 0 by decide); have := Int.emod_lt_of_pos j (show (0 : Int) < 1000000007 by decide); omega)
theorem x_o1 : fMod (.int j) (.int 998244353) S = some (.int (j % 998244353), S) := x_mod (by decide)
theorem x_o2 : fMod (.int j) (.int 2147483647) S = some (.int (j % 2147483647), S) := x_mod (by decide)
theorem x_o3 : fMod (.int j) (.int 1000000007) S = some (.int (j % 1000000007), S) := x_mod (by decide)
theorem x_o4 : fMod (.int j) (.int 1000003) S = some (.int (j % 1000003), S) := x_mod (by decide)
theorem x_d16 : fDiv (.int j) (.int 16) S = some (.int (j / 16), S) := x_div ⟨by decide, by decide +kernel⟩
theorem x_p18 : fPow (.int 10) (.int 18) S = some (.int 1000000000000000000, S) := x_pow (j := 10) (k := 18) ⟨by decide, by decide, by decide⟩
theorem x_d18 : fDiv (.int j) (.int 1000000000000000000) S = some (.int (j / 1000000000000000000), S) := x_div ⟨by decide, by decide +kernel⟩
theorem atU {ns : List Int} {k : Int} (h0 : 0 ≤ k) (h1 : k < (ns.length : Int)) : ∃ v : Int, atI (ns.map U.int) k = some (.int v) := by
  have hk : k.toNat < ns.length := by omega
  exact ⟨ns[k.toNat], atI_of h0 (by rw [List.getElem?_map, List.getElem?_eq_getElem hk]; rfl)⟩
end
noncomputable def P_take : Fn := fnU 8 2 c__law_take
theorem take_ok (ns : List Int) (T : Sto) {a c m : Int} (ha : 0 ≤ a) (hc : 0 ≤ c) (hm : 0 < m) (hb : m.natAbs.log2 < 9000) :
    ∃ f a' c', P_take [.ref 1, .int m] (.lst (ns.map U.int) :: pen a c :: T) = some (.int f, .lst (ns.map U.int) :: pen a' c' :: T) ∧ 0 ≤ f ∧ f < m ∧ 0 ≤ a' ∧ 0 ≤ c' := by
  unfold P_take
  rw [e__law_take]
  have dm : ∀ {j : Int} {S : Sto}, fDiv (.int j) (.int m) S = some (.int (j / m), S) := x_div ⟨hm, hb⟩
  have mm : ∀ {j : Int} {S : Sto}, fMod (.int j) (.int m) S = some (.int (j % m), S) := x_mod hm
  have fin : ∀ {a' c' : Int}, 0 ≤ a' → 0 ≤ c' → 0 ≤ c' % m ∧ c' % m < m ∧ 0 ≤ a' ∧ 0 ≤ c' / m := fun h1 h2 => ⟨Int.emod_nonneg _ (by omega), Int.emod_lt_of_pos _ hm, h1, Int.ediv_nonneg h2 (by omega)⟩
  by_cases c0 : c = 0
  · subst c0
    have cell : ∃ z : Int, (cIfS (cTest (cOp fLt (cVar 2) (cCB fLen (cCons (cOp fIx (cVar 0) (cC (U.int 0))) cNil))))
                            (cSet 3 (cOp fIx (cOp fIx (cVar 0) (cC (U.int 0))) (cVar 2)))
                            (cIfS
                              (cTest (cOp fGt (cCB fLen (cCons (cOp fIx (cVar 0) (cC (U.int 0))) cNil)) (cC (U.int 0))))
                              (cSet 3
                                (cOp fAdd
                                  (cOp fMod
                                    (cOp fIx (cOp fIx (cVar 0) (cC (U.int 0)))
                                      (cOp fMod (cOp fMul (cVar 2) (cC (U.int 3)))
                                        (cCB fLen (cCons (cOp fIx (cVar 0) (cC (U.int 0))) cNil))))
                                    (cC (U.int 1000003)))
                                  (cOp fMul (cC (U.int 97)) (cVar 2))))
                              cSkip)) [some (.ref 1), some (.int m), some (.int a), some (.int 0), none, none, none, none] (O.lst (ns.map U.int) :: .lst [.ref 0, .int (a + 1), .int 0] :: T) = some (.nx, [some (.ref 1), some (.int m), some (.int a), some (.int z), none, none, none, none], O.lst (ns.map U.int) :: .lst [.ref 0, .int (a + 1), .int 0] :: T) := by
      by_cases h1 : a < (ns.length : Int)
      · obtain ⟨z, hz⟩ := atU ha h1
        exact ⟨z, by rwa [hz, h1, List.length_map]⟩
      · by_cases h2 : (0 : Int) < (ns.length : Int)
        · obtain ⟨z, hz⟩ := atU (ns := ns) (k := a * 3 % (ns.length : Int)) (Int.emod_nonneg _ (by omega)) (Int.emod_lt_of_pos _ h2)
          exact ⟨z % 1000003 + 97 * a, by rwa [h1, h2, x_m3, x_mod h2, hz, x_o4, x_m97, List.length_map]⟩
        · exact ⟨0, by rwa [h1, h2, List.length_map]⟩
    obtain ⟨z, hz⟩ := cell
    rwa [c__law_take, pen, hz, x_o1, x_o2, x_o3, x_m53, x_m4, x_m6, x_m9, x_mm1, x_mm2, x_d16, x_p18]
    by_cases h3 : (1000000000000000000 : Int) ≤ z
    · rwa [h3, x_p18, x_d18, mm, dm]
      exact ⟨_, _, _, rfl, fin (by omega) (Int.ediv_nonneg (by omega) (by omega))⟩
    · rwa [h3, mm, dm]
      refine ⟨_, _, _, rfl, fin (by omega) ?_⟩
      exact Int.add_nonneg (Int.ediv_nonneg (Int.add_nonneg (Int.mul_nonneg (Int.emod_nonneg _ (by decide)) (by decide)) (Int.emod_nonneg _ (by decide))) (by decide)) (by decide)
  · rwa [c__law_take, pen, c0, mm, dm]
    exact ⟨_, _, _, rfl, fin ha hc⟩
theorem l9 {m : Int} (h0 : 0 ≤ m) (h : m < 2 ^ 60) : m.natAbs.log2 < 9000 := log2_9000 h0 h
abbrev scr (ns : List Int) : O := .lst (ns.map U.int)
theorem pickU {f g : Int} (g0 : 0 ≤ g) (g1 : g < 999) (f0 : 0 ≤ f) (f1 : f < 5) : ∃ v : Int, atI [U.int 2, U.int 3, U.int 5, U.int 10, U.int (2 + g)] f = some (.int v) ∧ 2 ≤ v ∧ v ≤ 1000 := by
  have : f = 0 ∨ f = 1 ∨ f = 2 ∨ f = 3 ∨ f = 4 := by omega
  rcases this with rfl | rfl | rfl | rfl | rfl
  · exact ⟨2, rfl, by omega, by omega⟩
  · exact ⟨3, rfl, by omega, by omega⟩
  · exact ⟨5, rfl, by omega, by omega⟩
  · exact ⟨10, rfl, by omega, by omega⟩
  · exact ⟨2 + g, rfl, by omega, by omega⟩
noncomputable def P_world : Fn := fnU 1 1 (c__law_world P_take)
theorem world_ok (ns : List Int) (T : Sto) {a c : Int} (ha : 0 ≤ a) (hc : 0 ≤ c) :
    ∃ n w a' c' G, P_world [.ref 1] (scr ns :: pen a c :: T) = some (.tup [.int n, .int w], scr ns :: pen a' c' :: (T ++ G)) ∧ 1 ≤ n ∧ n ≤ 6 ∧ 2 ≤ w ∧ w ≤ 1000 ∧ 0 ≤ a' ∧ 0 ≤ c' := by
  unfold P_world
  rw [e__law_world]
  obtain ⟨f1, a1, c1, h1, p1, q1, ha1, hc1⟩ := take_ok ns T (m := 6) ha hc (by decide) (by decide +kernel)
  obtain ⟨f2, a2, c2, h2, p2, q2, ha2, hc2⟩ := take_ok ns T (m := 999) ha1 hc1 (by decide) (by decide +kernel)
  obtain ⟨f3, a3, c3, h3, p3, q3, ha3, hc3⟩ := take_ok ns (T ++ [.lst [.int 2, .int 3, .int 5, .int 10, .int (2 + f2)]]) (m := 5) ha2 hc2 (by decide) (by decide +kernel)
  obtain ⟨v, hv, v0, v1⟩ := pickU p2 q2 p3 q3
  refine ⟨1 + f1, v, a3, c3, [.lst [.int 2, .int 3, .int 5, .int 10, .int (2 + f2)]], ?_, by omega, by omega, v0, v1, ha3, hc3⟩
  rwa [c__law_world, h1, h2, h3, hv]
noncomputable def P_state : Fn := fnU 2 2 (c__law_state P_take)
theorem st_loop (ns : List Int) (T : Sto) {n w : Int} (w0 : 2 ≤ w) (w1 : w ≤ 1000) : ∀ (us : List U) (r : Option U) (ys : List Int) {a c : Int}, 0 ≤ a → 0 ≤ c → ys.length + us.length ≤ 1000 →
    ∃ zs a' c', compU (fun _ => True) (gNm 0) (cCB P_take (cCons (cVar 1) (cCons (cOp fIx (cVar 2) (cC (.int 1))) cNil))) (T.length + 1 + 1) us [r, some (.ref 1), some (.tup [.int n, .int w])] (scr ns :: pen a c :: (T ++ [.lst (ys.map U.int)]))
      = some (scr ns :: pen a' c' :: (T ++ [.lst ((ys ++ zs).map U.int)])) ∧ zs.length = us.length ∧ (∀ z ∈ zs, 0 ≤ z ∧ z < w) ∧ 0 ≤ a' ∧ 0 ≤ c'
  | [], r, ys, a, c, ha, hc, hl => ⟨[], a, c, by simp [compU], rfl, by simp, ha, hc⟩
  | u :: us, r, ys, a, c, ha, hc, hl => by
    obtain ⟨f, a1, c1, h1, p1, q1, ha1, hc1⟩ := take_ok ns (T ++ [.lst (ys.map U.int)]) (m := w) ha hc (by omega) (l9 (by omega) (by omega))
    obtain ⟨zs, a2, c2, h2, e2, b2, ha2, hc2⟩ := st_loop ns T (n := n) w0 w1 us (some u) (ys ++ [f]) ha1 hc1 (by simp at hl ⊢; omega)
    refine ⟨f :: zs, a2, c2, ?_, by simp [e2], fun z hz => ?_, ha2, hc2⟩
    · have hlen : (ys.map U.int).length < LIM := by unfold LIM; simp at hl ⊢; omega
      unfold compU
      rwa [h1, if_true, hlen]
      rw [List.map_append] at h2
      simp only [List.map_cons, List.map_nil] at h2
      rw [h2]
      simp
    · rcases List.mem_cons.mp hz with rfl | hz
      · exact ⟨p1, q1⟩
      · exact b2 z hz
theorem state_ok (ns : List Int) (T : Sto) {a c n w : Int} (ha : 0 ≤ a) (hc : 0 ≤ c) (n0 : 1 ≤ n) (n1 : n ≤ 6) (w0 : 2 ≤ w) (w1 : w ≤ 1000) :
    ∃ (zs : List Int) (a' c' : Int) (G : Sto), P_state [.ref 1, .tup [.int n, .int w]] (scr ns :: pen a c :: T) = some (.tup (zs.map U.int), scr ns :: pen a' c' :: (T ++ G)) ∧ zs.length = n.toNat ∧ (∀ z ∈ zs, 0 ≤ z ∧ z < w) ∧ 0 ≤ a' ∧ 0 ≤ c' := by
  unfold P_state
  rw [e__law_state]
  obtain ⟨zs, a', c', h, e, b, ha', hc'⟩ := st_loop ns T (n := n) w0 w1 (rangeU 0 n.toNat) none [] ha hc (by simp [rangeU]; omega)
  refine ⟨zs, a', c', [.lst (zs.map U.int)], ?_, by rw [e]; simp [rangeU], b, ha', hc'⟩
  have hr : -(2 ^ 62) ≤ n ∧ n < 2 ^ 62 := by omega
  simp only [List.map_nil, List.nil_append] at h
  rwa [c__law_state, cComp, iRange1, rhoC, hr, h, if_true, and_self, List.replicate, Option.getD_some]
end OQ
set_option maxHeartbeats 1000000
namespace OQ
open PySem PySem.Spec PyProof.Rows L2 OG OP
inductive Deed where
  | look (h b : Int) | put (b h : Int) | set (h v : Int) | plus (h g : Int) | leap (h k : Int) | wait
def Deed.u : Deed → U
  | .look h b => .tup [.str "look", .int h, .int b]
  | .put b h => .tup [.str "put", .int b, .int h]
  | .set h v => .tup [.str "set", .int h, .int v]
  | .plus h g => .tup [.str "plus", .int h, .int g]
  | .leap h k => .tup [.str "leap", .int h, .int k]
  | .wait => .tup [.str "wait"]
def Deed.ok (n w : Int) : Deed → Prop
  | .look h b => 0 ≤ h ∧ h < 4 ∧ 0 ≤ b ∧ b < n
  | .put b h => 0 ≤ h ∧ h < 4 ∧ 0 ≤ b ∧ b < n
  | .set h v => 0 ≤ h ∧ h < 4 ∧ 0 ≤ v ∧ v < w
  | .plus h g => 0 ≤ h ∧ h < 4 ∧ 0 ≤ g ∧ g < 4
  | .leap h k => 0 ≤ h ∧ h < 4 ∧ 1 ≤ k ∧ k ≤ 12
  | .wait => True
noncomputable def P_plain : Fn := fnU 4 4 (c__law_plain_deed P_take)
theorem plain_ok (ns : List Int) (T : Sto) {a c n w way hand : Int} (ha : 0 ≤ a) (hc : 0 ≤ c) (n0 : 1 ≤ n) (n1 : n ≤ 6) (w0 : 2 ≤ w) (w1 : w ≤ 1000) (y0 : 0 ≤ way) (h0 : 0 ≤ hand) (h1 : hand < 4) :
    ∃ (d : Deed) (a' c' : Int) (G : Sto), P_plain [.ref 1, .tup [.int n, .int w], .int way, .int hand] (scr ns :: pen a c :: T) = some (d.u, scr ns :: pen a' c' :: (T ++ G)) ∧ d.ok n w ∧ 0 ≤ a' ∧ 0 ≤ c' := by
  unfold P_plain
  rw [e__law_plain_deed]
  by_cases c4 : way < 4
  · obtain ⟨f, a1, c1, e1, p1, q1, ha1, hc1⟩ := take_ok ns T (m := n) ha hc (by omega) (l9 (by omega) (by omega))
    exact ⟨.look hand f, a1, c1, [], by rwa [c__law_plain_deed, c4, e1, Deed.u, List.append_nil], ⟨h0, h1, p1, q1⟩, ha1, hc1⟩
  by_cases c7 : way < 7
  · obtain ⟨f, a1, c1, e1, p1, q1, ha1, hc1⟩ := take_ok ns T (m := n) ha hc (by omega) (l9 (by omega) (by omega))
    exact ⟨.put f hand, a1, c1, [], by rwa [c__law_plain_deed, c4, c7, e1, Deed.u, List.append_nil], ⟨h0, h1, p1, q1⟩, ha1, hc1⟩
  by_cases c9 : way < 9
  · obtain ⟨f, a1, c1, e1, p1, q1, ha1, hc1⟩ := take_ok ns T (m := w) ha hc (by omega) (l9 (by omega) (by omega))
    exact ⟨.set hand f, a1, c1, [], by rwa [c__law_plain_deed, c4, c7, c9, e1, Deed.u, List.append_nil], ⟨h0, h1, p1, q1⟩, ha1, hc1⟩
  by_cases c11 : way < 11
  · obtain ⟨f, a1, c1, e1, p1, q1, ha1, hc1⟩ := take_ok ns T (m := 4) ha hc (by omega) (l9 (by omega) (by omega))
    exact ⟨.plus hand f, a1, c1, [], by rwa [c__law_plain_deed, c4, c7, c9, c11, e1, Deed.u, List.append_nil], ⟨h0, h1, p1, q1⟩, ha1, hc1⟩
  obtain ⟨f, a1, c1, e1, p1, q1, ha1, hc1⟩ := take_ok ns (T ++ [.lst [.int 2, .int 12]]) (m := 2) ha hc (by decide) (by decide +kernel)
  have key : ∃ z : Int, atI [U.int 2, U.int 12] f = some (.int z) ∧ 0 < z ∧ z ≤ 12 := by
    have : f = 0 ∨ f = 1 := by omega
    rcases this with rfl | rfl
    · exact ⟨2, rfl, by omega, by omega⟩
    · exact ⟨12, rfl, by omega, by omega⟩
  obtain ⟨z, hz, z0, z1⟩ := key
  obtain ⟨g, a2, c2, e2, p2, q2, ha2, hc2⟩ := take_ok ns (T ++ [.lst [.int 2, .int 12]]) (m := z) ha1 hc1 z0 (l9 (by omega) (by omega))
  exact ⟨.leap hand (1 + g), a2, c2, [.lst [.int 2, .int 12]], by rwa [c__law_plain_deed, c4, c7, c9, c11, e1, e2, hz, Deed.u], ⟨h0, h1, by omega, by omega⟩, ha2, hc2⟩
noncomputable def P_deal (fd fs : Fn) : Fn := fnU 11 4 (c__law_dealing P_take P_plain fd fs)
end OQ
set_option maxHeartbeats 1000000
namespace OQ
open PySem PySem.Spec PyProof.Rows L2 OG OP
theorem sn_wait_leap : decide (("wait" : Str) = "leap") = false := by decide +kernel
theorem sn_wait_try : decide (("wait" : Str) = "try") = false := by decide +kernel
theorem sn_wait_look : decide (("wait" : Str) = "look") = false := by decide +kernel
theorem sn_wait_put : decide (("wait" : Str) = "put") = false := by decide +kernel
theorem sn_wait_set : decide (("wait" : Str) = "set") = false := by decide +kernel
theorem sn_wait_plus : decide (("wait" : Str) = "plus") = false := by decide +kernel
theorem sn_leap_wait : decide (("leap" : Str) = "wait") = false := by decide +kernel
theorem sn_leap_try : decide (("leap" : Str) = "try") = false := by decide +kernel
theorem sn_leap_look : decide (("leap" : Str) = "look") = false := by decide +kernel
theorem sn_leap_put : decide (("leap" : Str) = "put") = false := by decide +kernel
theorem sn_leap_set : decide (("leap" : Str) = "set") = false := by decide +kernel
theorem sn_leap_plus : decide (("leap" : Str) = "plus") = false := by decide +kernel
theorem sn_try_wait : decide (("try" : Str) = "wait") = false := by decide +kernel
theorem sn_try_leap : decide (("try" : Str) = "leap") = false := by decide +kernel
theorem sn_try_look : decide (("try" : Str) = "look") = false := by decide +kernel
theorem sn_try_put : decide (("try" : Str) = "put") = false := by decide +kernel
theorem sn_try_set : decide (("try" : Str) = "set") = false := by decide +kernel
theorem sn_try_plus : decide (("try" : Str) = "plus") = false := by decide +kernel
theorem sn_look_wait : decide (("look" : Str) = "wait") = false := by decide +kernel
theorem sn_look_leap : decide (("look" : Str) = "leap") = false := by decide +kernel
theorem sn_look_try : decide (("look" : Str) = "try") = false := by decide +kernel
theorem sn_look_put : decide (("look" : Str) = "put") = false := by decide +kernel
theorem sn_look_set : decide (("look" : Str) = "set") = false := by decide +kernel
theorem sn_look_plus : decide (("look" : Str) = "plus") = false := by decide +kernel
theorem sn_put_wait : decide (("put" : Str) = "wait") = false := by decide +kernel
theorem sn_put_leap : decide (("put" : Str) = "leap") = false := by decide +kernel
theorem sn_put_try : decide (("put" : Str) = "try") = false := by decide +kernel
theorem sn_put_look : decide (("put" : Str) = "look") = false := by decide +kernel
theorem sn_put_set : decide (("put" : Str) = "set") = false := by decide +kernel
theorem sn_put_plus : decide (("put" : Str) = "plus") = false := by decide +kernel
theorem sn_set_wait : decide (("set" : Str) = "wait") = false := by decide +kernel
theorem sn_set_leap : decide (("set" : Str) = "leap") = false := by decide +kernel
theorem sn_set_try : decide (("set" : Str) = "try") = false := by decide +kernel
theorem sn_set_look : decide (("set" : Str) = "look") = false := by decide +kernel
theorem sn_set_put : decide (("set" : Str) = "put") = false := by decide +kernel
theorem sn_set_plus : decide (("set" : Str) = "plus") = false := by decide +kernel
theorem sn_plus_wait : decide (("plus" : Str) = "wait") = false := by decide +kernel
theorem sn_plus_leap : decide (("plus" : Str) = "leap") = false := by decide +kernel
theorem sn_plus_try : decide (("plus" : Str) = "try") = false := by decide +kernel
theorem sn_plus_look : decide (("plus" : Str) = "look") = false := by decide +kernel
theorem sn_plus_put : decide (("plus" : Str) = "put") = false := by decide +kernel
theorem sn_plus_set : decide (("plus" : Str) = "set") = false := by decide +kernel
theorem SNX : type_of% @sn_wait_leap ∧ type_of% @sn_wait_try ∧ type_of% @sn_wait_look ∧ type_of% @sn_wait_put ∧ type_of% @sn_wait_set ∧ type_of% @sn_wait_plus ∧ type_of% @sn_leap_wait ∧ type_of% @sn_leap_try ∧ type_of% @sn_leap_look ∧ type_of% @sn_leap_put ∧ type_of% @sn_leap_set ∧ type_of% @sn_leap_plus ∧ type_of% @sn_try_wait ∧ type_of% @sn_try_leap ∧ type_of% @sn_try_look ∧ type_of% @sn_try_put ∧ type_of% @sn_try_set ∧ type_of% @sn_try_plus ∧ type_of% @sn_look_wait ∧ type_of% @sn_look_leap ∧ type_of% @sn_look_try ∧ type_of% @sn_look_put ∧ type_of% @sn_look_set ∧ type_of% @sn_look_plus ∧ type_of% @sn_put_wait ∧ type_of% @sn_put_leap ∧ type_of% @sn_put_try ∧ type_of% @sn_put_look ∧ type_of% @sn_put_set ∧ type_of% @sn_put_plus ∧ type_of% @sn_set_wait ∧ type_of% @sn_set_leap ∧ type_of% @sn_set_try ∧ type_of% @sn_set_look ∧ type_of% @sn_set_put ∧ type_of% @sn_set_plus ∧ type_of% @sn_plus_wait ∧ type_of% @sn_plus_leap ∧ type_of% @sn_plus_try ∧ type_of% @sn_plus_look ∧ type_of% @sn_plus_put ∧ type_of% @sn_plus_set := ⟨@sn_wait_leap, @sn_wait_try, @sn_wait_look, @sn_wait_put, @sn_wait_set, @sn_wait_plus, @sn_leap_wait, @sn_leap_try, @sn_leap_look, @sn_leap_put, @sn_leap_set, @sn_leap_plus, @sn_try_wait, @sn_try_leap, @sn_try_look, @sn_try_put, @sn_try_set, @sn_try_plus, @sn_look_wait, @sn_look_leap, @sn_look_try, @sn_look_put, @sn_look_set, @sn_look_plus, @sn_put_wait, @sn_put_leap, @sn_put_try, @sn_put_look, @sn_put_set, @sn_put_plus, @sn_set_wait, @sn_set_leap, @sn_set_try, @sn_set_look, @sn_set_put, @sn_set_plus, @sn_plus_wait, @sn_plus_leap, @sn_plus_try, @sn_plus_look, @sn_plus_put, @sn_plus_set⟩
structure M where
  hs : List Int
  ps : List (Int × Int)
  lk : List Int
def addL (lk : List Int) (b : Int) : List Int := if b ∈ lk then lk else lk ++ [b]
def lookV (first : List Int) (m : M) (b : Int) : Int := (valG m.ps b).getD (first.getD b.toNat 0)
def step (w : Int) (first : List Int) (m : M) : Deed → M
  | .look h b => ⟨m.hs.set h.toNat (lookV first m b), m.ps, if (valG m.ps b).isSome then m.lk else addL m.lk b⟩
  | .put b h => ⟨m.hs, putG m.ps b (m.hs.getD h.toNat 0), m.lk⟩
  | .set h v => ⟨m.hs.set h.toNat v, m.ps, m.lk⟩
  | .plus h g => ⟨m.hs.set h.toNat ((m.hs.getD h.toNat 0 + m.hs.getD g.toNat 0) % w), m.ps, m.lk⟩
  | .leap _ _ => m
  | .wait => m
def encL (lk : List Int) : List (Key × U) := lk.map fun b => (.inl b, .bl true)
theorem put_encL (b : Int) (lk : List Int) : putG (encL lk) (.inl b) (.bl true) = encL (addL lk b) := by
  have ha : ((encL lk).any fun kv => decide (kv.1 = Sum.inl b)) = decide (b ∈ lk) := by
    unfold encL
    induction lk with
    | nil => rfl
    | cons k r ih =>
      simp only [List.map_cons, List.any_cons, ih]
      by_cases e : k = b
      · subst e; simp
      · rw [decide_eq_false (fun z : (Sum.inl k : Key) = Sum.inl b => e (Sum.inl.inj z))]
        simp [Ne.symm e]
  unfold putG addL
  rw [ha]
  by_cases c : b ∈ lk
  · rw [if_pos (decide_eq_true c), if_pos c]
    unfold encL
    rw [List.map_map]
    refine List.map_congr_left fun p _ => ?_
    simp only [Function.comp]
    split <;> rfl
  · rw [if_neg (by simpa using c), if_neg c]
    simp [encL]
theorem at4 {hs : List Int} {h : Int} (l : hs.length = 4) (h0 : 0 ≤ h) (h1 : h < 4) : atI (hs.map U.int) h = some (.int (hs.getD h.toNat 0)) := by
  have hk : h.toNat < hs.length := by omega
  refine atI_of h0 ?_
  rw [List.getElem?_map, List.getElem?_eq_getElem hk, List.getD_eq_getElem?_getD, List.getElem?_eq_getElem hk]; rfl
theorem ixL {us : List U} {h : Int} {n : Nat} (l : us.length = n) (h0 : 0 ≤ h) (h1 : h < n) : ixN us.length h = some h.toNat := by
  unfold ixN; rw [if_pos h0, if_pos (by omega)]
theorem atF {first : List Int} {b n : Int} (l : first.length = n.toNat) (h0 : 0 ≤ b) (h1 : b < n) : atI (first.map U.int) b = some (.int (first.getD b.toNat 0)) := by
  have hk : b.toNat < first.length := by omega
  refine atI_of h0 ?_
  rw [List.getElem?_map, List.getElem?_eq_getElem hk, List.getD_eq_getElem?_getD, List.getElem?_eq_getElem hk]; rfl
theorem map_set {hs : List Int} {k : Nat} {v : Int} : (hs.map U.int).set k (.int v) = (hs.set k v).map U.int := by rw [List.map_set]
inductive DF (α : Type) where
  | pl (d : Deed) | tr (a b : List α)
def DF.u {α : Type} (f : α → U) : DF α → U
  | .pl d => d.u
  | .tr a b => .tup [.str "try", .tup (a.map f), .tup (b.map f)]
section
variable {α : Type} (w : Int) (first : List Int) (rn : List α → M → Bool × M)
def tryF (a b : List α) (m : M) : Bool × M := match rn a m with
  | (true, m') => (true, m')
  | (false, m') => rn b ⟨m.hs, m.ps, m'.lk⟩
def runF : List (DF α) → Nat → M → Bool × M
  | [], _, m => (true, m)
  | _ :: r, k + 1, m => runF r k m
  | .tr a b :: r, 0, m => match tryF rn a b m with
    | (true, m') => runF r 0 m'
    | (false, m') => (false, m')
  | .pl .wait :: _, 0, m => (false, m)
  | .pl (.leap h k) :: r, 0, m => runF r (if m.hs.getD h.toNat 0 = 0 then k.toNat else 0) m
  | .pl (.look h b) :: r, 0, m => runF r 0 (step w first m (.look h b))
  | .pl (.put h b) :: r, 0, m => runF r 0 (step w first m (.put h b))
  | .pl (.set h b) :: r, 0, m => runF r 0 (step w first m (.set h b))
  | .pl (.plus h b) :: r, 0, m => runF r 0 (step w first m (.plus h b))
theorem runF_skip : ∀ (ds : List (DF α)) (k : Nat) (m : M), runF w first rn ds k m = runF w first rn (ds.drop k) 0 m
  | [], k, m => by simp [runF]
  | d :: r, 0, m => by simp
  | d :: r, k + 1, m => by rw [runF, runF_skip r k m]; rfl
end
def Dl : Nat → Type
  | 0 => DF Empty
  | j + 1 => DF (Dl j)
def Dl.u : (j : Nat) → Dl j → U
  | 0, d => DF.u (fun x => nomatch x) d
  | j + 1, d => DF.u (Dl.u j) d
def DF.ok {α : Type} (n w : Int) (k : List α → Prop) : DF α → Prop
  | .pl d => d.ok n w
  | .tr a b => k a ∧ k b
structure Wf (n : Int) (m : M) : Prop where
  h4 : m.hs.length = 4
  pk : (m.ps.map (·.1)).Nodup
  pb : ∀ k ∈ m.ps.map (·.1), 0 ≤ k ∧ k < n
  lk : m.lk.Nodup
  lb : ∀ k ∈ m.lk, 0 ≤ k ∧ k < n
theorem few : ∀ (n : Nat) (l : List Int), l.Nodup → (∀ k ∈ l, 0 ≤ k ∧ k < n) → l.length ≤ n
  | 0, l, _, h => by
    cases l with
    | nil => simp
    | cons a r => have := h a (by simp); omega
  | n + 1, l, nd, h => by
    have ih := few n (l.erase (n : Int)) (nd.erase _) fun k hk => by
      have h1 := h k (List.mem_of_mem_erase hk)
      have h2 : k ≠ (n : Int) := fun z => by subst z; exact (nd.not_mem_erase) hk
      omega
    rw [List.length_erase] at ih
    split at ih <;> omega
theorem Wf.few {n : Int} {m : M} (h : Wf n m) (n0 : 0 ≤ n) (n1 : n ≤ 6) : m.ps.length ≤ 6 ∧ m.lk.length ≤ 6 := by
  have a := OQ.few n.toNat _ h.pk fun k hk => by have := h.pb k hk; omega
  have b := OQ.few n.toNat _ h.lk fun k hk => by have := h.lb k hk; omega
  rw [List.length_map] at a
  omega
theorem addL_nd {l : List Int} {b : Int} (h : l.Nodup) : (addL l b).Nodup := by
  unfold addL
  split
  · exact h
  · rename_i c
    rw [List.nodup_append]
    exact ⟨h, by simp, fun x hx y hy z => by simp at hy; subst hy; subst z; exact c hx⟩
theorem addL_mem {l : List Int} {b k : Int} (h : k ∈ addL l b) : k ∈ l ∨ k = b := by
  unfold addL at h
  split at h
  · exact .inl h
  · simpa using h
theorem putG_keys (b v : Int) (ps : List (Int × Int)) : (putG ps b v).map (·.1) = addL (ps.map (·.1)) b := by
  have ha : (ps.any fun kv => decide (kv.1 = b)) = decide (b ∈ ps.map (·.1)) := by
    induction ps with
    | nil => rfl
    | cons p r ih =>
      simp only [List.any_cons, ih, List.map_cons]
      by_cases e : p.1 = b
      · simp [e]
      · simp [e, Ne.symm e]
  unfold putG addL
  rw [ha]
  by_cases c : b ∈ ps.map (·.1)
  · rw [if_pos (decide_eq_true c), if_pos c, List.map_map]
    refine List.map_congr_left fun p _ => ?_
    simp only [Function.comp]
    split <;> rfl
  · rw [if_neg (by simpa using c), if_neg c]
    simp
theorem step_wf {n w : Int} {first : List Int} {m : M} {d : Deed} (h : Wf n m) (od : d.ok n w) : Wf n (step w first m d) := by
  cases d with
  | look g b =>
    obtain ⟨_, _, b0, b1⟩ := od
    refine ⟨by simpa [step] using h.h4, h.pk, h.pb, ?_, ?_⟩
    · simp only [step]; split
      · exact h.lk
      · exact addL_nd h.lk
    · simp only [step]; split
      · exact h.lb
      · exact fun k hk => (addL_mem hk).elim (h.lb k) fun e => by subst e; exact ⟨b0, b1⟩
  | put b g =>
    obtain ⟨b0, b1, b2, b3⟩ := od
    refine ⟨h.h4, ?_, ?_, h.lk, h.lb⟩
    · simp only [step]; rw [putG_keys]; exact addL_nd h.pk
    · simp only [step]; rw [putG_keys]
      exact fun k hk => (addL_mem hk).elim (h.pb k) fun e => by subst e; constructor <;> omega
  | set g v => exact ⟨by simpa [step] using h.h4, h.pk, h.pb, h.lk, h.lb⟩
  | plus g v => exact ⟨by simpa [step] using h.h4, h.pk, h.pb, h.lk, h.lb⟩
  | leap g k => exact h
  | wait => exact h
structure Fr (ls : List Nat) (S S' : Sto) : Prop where
  len : S.length ≤ S'.length
  old : ∀ l, l < S.length → l ∉ ls → S'[l]? = S[l]?
theorem Fr.refl {ls : List Nat} {S : Sto} : Fr ls S S := ⟨Nat.le_refl _, fun _ _ _ => rfl⟩
theorem Fr.set {ls : List Nat} {S : Sto} {l : Nat} {o : O} (h : l ∈ ls) : Fr ls S (S.set l o) := ⟨by simp, fun k _ hk => by rw [List.getElem?_set_ne (fun z => hk (by subst z; exact h))]⟩
theorem Fr.trans {ls : List Nat} {S S' S'' : Sto} (a : Fr ls S S') (b : Fr ls S' S'') : Fr ls S S'' := ⟨Nat.le_trans a.len b.len, fun l hl hn => by rw [b.old l (Nat.lt_of_lt_of_le hl a.len) hn, a.old l hl hn]⟩
theorem lt_of_get {α : Type} {l : List α} {k : Nat} {x : α} (h : l[k]? = some x) : k < l.length := (List.getElem?_eq_some_iff.mp h).1
theorem get_app {α : Type} {l r : List α} {k : Nat} {x : α} (h : l[k]? = some x) : (l ++ r)[k]? = some x := by rw [List.getElem?_append_left (lt_of_get h)]; exact h
def runD (w : Int) (first : List Int) : (j : Nat) → List (Dl j) → M → Bool × M
  | 0, ds, m => runF w first (fun _ m => (true, m)) ds 0 m
  | j + 1, ds, m => runF w first (runD w first j) ds 0 m
def OkL (n w : Int) : (j : Nat) → List (Dl j) → Prop
  | 0, ds => ds.length ≤ 30 ∧ ∀ d ∈ ds, DF.ok n w (fun _ => False) d
  | j + 1, ds => ds.length ≤ 30 ∧ ∀ d ∈ ds, DF.ok n w (OkL n w j) d
def m0 : M := ⟨[0, 0, 0, 0], [], []⟩
theorem keysI_enc : ∀ lk : List Int, keysI (encL lk) = some lk
  | [] => rfl
  | b :: r => by
    have ih := keysI_enc r
    unfold encL at ih ⊢
    simp only [List.map_cons, keysI, ih, Option.map_some]
def beh (first : List Int) (ps : List (Int × Int)) (k : Nat) : List Int := (first.zipIdx k).map fun p => (valG ps (p.2 : Int)).getD p.1
def told (r : Bool × M) (first : List Int) (l : Nat) : U := match r with
  | (true, m) => .tup [.str "done", .tup ((beh first m.ps 0).map U.int), .tup (m.hs.map U.int)]
  | (false, _) => .tup [.str "waits", .ref l]
theorem fr_app {ls : List Nat} {S0 S' : Sto} (len : S0.length ≤ S'.length) (old : ∀ l, l < S0.length → S'[l]? = S0[l]?) : ∃ G, S' = S0 ++ G := by
  refine ⟨S'.drop S0.length, List.ext_getElem? fun l => ?_⟩
  by_cases c : l < S0.length
  · rw [old l c, List.getElem?_append_left c]
  · rw [List.getElem?_append_right (by omega), List.getElem?_drop]; congr 1; omega
theorem inI (b : Int) : ∀ l : List Int, inU (.int b) (l.map U.int) = decide (b ∈ l)
  | [] => by simp [inU]
  | x :: r => by
    have ih := inI b r
    unfold inU at ih ⊢
    rw [List.map_cons, List.any_cons, ih, show eqF (.int x) (.int b) = (x == b) from rfl]
    by_cases e : x = b
    · subst e; simp
    · have : (x == b) = false := by simpa using e
      rw [this]; simp [Ne.symm e]
theorem flatI (l : List Int) : (l.map U.int).all flatU = true := by
  induction l with
  | nil => rfl
  | cons x r ih => rw [List.map_cons, List.all_cons, ih]; rfl
theorem keyV (b : Int) : ∀ ps : List (Int × Int), decide (b ∈ ps.map (·.1)) = (valG ps b).isSome
  | [] => rfl
  | (k, v) :: r => by
    have ih := keyV b r
    unfold valG at ih ⊢
    simp only [List.map_cons, List.find?_cons]
    by_cases e : k = b
    · subst e; simp
    · rw [decide_eq_false e, ← ih]
      simp [Ne.symm e]
theorem val_put (b v j : Int) (ps : List (Int × Int)) : valG (putG ps b v) j = if j = b then some v else valG ps j := by
  have e1 : ∀ ps : List (Int × Int), valG ps j = (valV (ps.map fun p => (p.1, V.int p.2)) j).map fun x => match x with | .int i => i | _ => 0 := fun ps => by
    unfold valG valV
    induction ps with
    | nil => rfl
    | cons p r ih =>
      simp only [List.map_cons, List.find?_cons]
      by_cases e : p.1 = j
      · simp [e]
      · rw [decide_eq_false e]; exact ih
  have e2 : (putG ps b v).map (fun p => (p.1, V.int p.2)) = putK (ps.map fun p => (p.1, V.int p.2)) b (.int v) := by
    unfold putG putK
    have : (ps.map fun p => (p.1, V.int p.2)).any (fun kv => decide (kv.1 = b)) = ps.any fun kv => decide (kv.1 = b) := by rw [List.any_map]; rfl
    rw [this]
    split
    · rw [List.map_map, List.map_map]
      refine List.map_congr_left fun p _ => ?_
      simp only [Function.comp]
      split <;> rfl
    · simp
  rw [e1, e2, valV_put]
  split
  · rfl
  · exact (e1 ps).symm
theorem beh_len (first : List Int) (ps : List (Int × Int)) (k : Nat) : (beh first ps k).length = first.length := by simp [beh]
theorem beh_get (first : List Int) (ps : List (Int × Int)) (k i : Nat) (h : i < first.length) : (beh first ps k)[i]? = some ((valG ps ((k + i : Nat) : Int)).getD (first.getD i 0)) := by
  unfold beh
  rw [List.getElem?_map, List.getElem?_zipIdx, List.getElem?_eq_getElem h]
  simp [List.getD_eq_getElem?_getD, List.getElem?_eq_getElem h]
theorem beh_at {first : List Int} {m : M} {n b : Int} (lf : first.length = n.toNat) (b0 : 0 ≤ b) (b1 : b < n) : atI ((beh first m.ps 0).map U.int) b = some (.int (lookV first m b)) := by
  have hb : b.toNat < first.length := by omega
  refine atI_of b0 ?_
  rw [List.getElem?_map, beh_get _ _ _ _ hb]
  unfold lookV
  have : ((0 + b.toNat : Nat) : Int) = b := by omega
  rw [this]; rfl
theorem beh_put {first : List Int} {ps : List (Int × Int)} {n b v : Int} (lf : first.length = n.toNat) (b0 : 0 ≤ b) (b1 : b < n) : (beh first ps 0).set b.toNat v = beh first (putG ps b v) 0 := by
  refine List.ext_getElem? fun i => ?_
  by_cases hi : i < first.length
  · rw [beh_get _ _ _ _ hi, List.getElem?_set, beh_len]
    by_cases e : b.toNat = i
    · have : ((0 + i : Nat) : Int) = b := by omega
      rw [if_pos e, if_pos (by omega), val_put, this, if_pos rfl]; rfl
    · rw [if_neg e, beh_get _ _ _ _ hi, val_put, if_neg (by omega)]
  · rw [List.getElem?_eq_none (by simp [beh_len]; omega), List.getElem?_eq_none (by rw [beh_len]; omega)]
section
variable {first : List Int}
theorem beh_nil : beh first [] 0 = first := by
  refine List.ext_getElem? fun i => ?_
  by_cases hi : i < first.length
  · rw [beh_get _ _ _ _ hi, List.getElem?_eq_getElem hi]
    simp [valG, List.getD_eq_getElem?_getD, List.getElem?_eq_getElem hi]
  · rw [List.getElem?_eq_none (by rw [beh_len]; omega), List.getElem?_eq_none (by omega)]
end
end OQ
set_option maxHeartbeats 1000000
namespace OQ
open PySem PySem.Spec PyProof.Rows L2 OG OP
def nowD (ls lo lh ll : Nat) : List (Key × U) := [(.inr "state", .ref ls), (.inr "own", .ref lo), (.inr "hands", .ref lh), (.inr "looked", .ref ll)]
section
variable {ls lo lh ll : Nat}
theorem nv_state : valG (nowD ls lo lh ll) (.inr "state") = some (.ref ls) := by rfl
theorem nv_own : valG (nowD ls lo lh ll) (.inr "own") = some (.ref lo) := by rfl
theorem nv_hands : valG (nowD ls lo lh ll) (.inr "hands") = some (.ref lh) := by rfl
theorem nv_looked : valG (nowD ls lo lh ll) (.inr "looked") = some (.ref ll) := by rfl
theorem np_state {x : Nat} : putG (nowD ls lo lh ll) (.inr "state") (.ref x) = nowD x lo lh ll := by rfl
theorem np_own {x : Nat} : putG (nowD ls lo lh ll) (.inr "own") (.ref x) = nowD ls x lh ll := by rfl
theorem np_hands {x : Nat} : putG (nowD ls lo lh ll) (.inr "hands") (.ref x) = nowD ls lo x ll := by rfl
end
structure Al (first : List Int) (i ls lo lh ll : Nat) (m : M) (S : Sto) : Prop where
  ei : S[i]? = some (.dic (nowD ls lo lh ll))
  es : S[ls]? = some (.lst ((beh first m.ps 0).map U.int))
  eo : S[lo]? = some (.lst ((m.ps.map (·.1)).map U.int))
  eh : S[lh]? = some (.lst (m.hs.map U.int))
  el : S[ll]? = some (.lst (m.lk.map U.int))
  nd : ls ≠ lo ∧ ls ≠ lh ∧ ls ≠ ll ∧ lo ≠ lh ∧ lo ≠ ll ∧ lh ≠ ll
section
variable {w : Int} {first : List Int} {i ls lo lh ll : Nat} {m : M} {S : Sto}
theorem ne_ld {x y : Nat} {kus : List (Key × U)} {us : List U} (a : S[x]? = some (.dic kus)) (b : S[y]? = some (.lst us)) : x ≠ y := fun z => by rw [z, b] at a; cases a
theorem Al.ns (h : Al first i ls lo lh ll m S) : i ≠ ls ∧ i ≠ lo ∧ i ≠ lh ∧ i ≠ ll := ⟨ne_ld h.ei h.es, ne_ld h.ei h.eo, ne_ld h.ei h.eh, ne_ld h.ei h.el⟩
theorem Al.app (h : Al first i ls lo lh ll m S) (T : Sto) : Al first i ls lo lh ll m (S ++ T) := ⟨get_app h.ei, get_app h.es, get_app h.eo, get_app h.eh, get_app h.el, h.nd⟩
theorem Al.setH (h : Al first i ls lo lh ll m S) (hs : List Int) : Al first i ls lo lh ll ⟨hs, m.ps, m.lk⟩ (S.set lh (.lst (hs.map U.int))) := by
  obtain ⟨n1, n2, n3, n4, n5, n6⟩ := h.nd
  obtain ⟨k1, k2, k3, k4⟩ := h.ns
  exact ⟨by rw [List.getElem?_set_ne (Ne.symm k3)]; exact h.ei, by rw [List.getElem?_set_ne (Ne.symm n2)]; exact h.es, by rw [List.getElem?_set_ne (Ne.symm n4)]; exact h.eo, List.getElem?_set_self (lt_of_get h.eh), by rw [List.getElem?_set_ne n6]; exact h.el, h.nd⟩
theorem Al.setL (h : Al first i ls lo lh ll m S) (lk : List Int) : Al first i ls lo lh ll ⟨m.hs, m.ps, lk⟩ (S.set ll (.lst (lk.map U.int))) := by
  obtain ⟨n1, n2, n3, n4, n5, n6⟩ := h.nd
  obtain ⟨k1, k2, k3, k4⟩ := h.ns
  exact ⟨by rw [List.getElem?_set_ne (Ne.symm k4)]; exact h.ei, by rw [List.getElem?_set_ne (Ne.symm n3)]; exact h.es, by rw [List.getElem?_set_ne (Ne.symm n5)]; exact h.eo, by rw [List.getElem?_set_ne (Ne.symm n6)]; exact h.eh, List.getElem?_set_self (lt_of_get h.el), h.nd⟩
theorem set_same {α : Type} {l : List α} {k : Nat} {x : α} (h : l[k]? = some x) : l.set k x = l := by
  refine List.ext_getElem? fun j => ?_
  by_cases c : k = j
  · subst c; rw [List.getElem?_set_self (lt_of_get h), h]
  · rw [List.getElem?_set_ne c]
theorem Al.setP (h : Al first i ls lo lh ll m S) (ps : List (Int × Int)) {S' : Sto} (e : S' = (S.set ls (.lst ((beh first ps 0).map U.int))).set lo (.lst ((ps.map (·.1)).map U.int))) : Al first i ls lo lh ll ⟨m.hs, ps, m.lk⟩ S' := by
  obtain ⟨n1, n2, n3, n4, n5, n6⟩ := h.nd
  obtain ⟨k1, k2, k3, k4⟩ := h.ns
  subst e
  exact ⟨by rw [List.getElem?_set_ne (Ne.symm k2), List.getElem?_set_ne (Ne.symm k1)]; exact h.ei, by rw [List.getElem?_set_ne (Ne.symm n1)]; exact List.getElem?_set_self (lt_of_get h.es), List.getElem?_set_self (by simpa using lt_of_get h.eo), by rw [List.getElem?_set_ne n4, List.getElem?_set_ne n2]; exact h.eh, by rw [List.getElem?_set_ne n5, List.getElem?_set_ne n3]; exact h.el, h.nd⟩
noncomputable def P_lp : Fn := fnU 6 3 c__law_plain
theorem lp_ok {n : Int} {d : Deed} (h : Al first i ls lo lh ll m S) (wf : Wf n m) (od : d.ok n w) (lf : first.length = n.toNat) (n0 : 0 ≤ n) (n1 : n ≤ 6) (w0 : 2 ≤ w) (nw : d ≠ .wait) (nl : ∀ h k, d ≠ .leap h k) :
    ∃ S', P_lp [.tup [.int n, .int w], d.u, .ref i] S = some (.non, S') ∧ Al first i ls lo lh ll (step w first m d) S' ∧ Fr [i, ls, lo, lh, ll] S S' := by
  unfold P_lp
  rw [e__law_plain]
  obtain ⟨f1, f2⟩ := wf.few n0 n1
  have h4 := wf.h4
  have i4 : ∀ {h : Int}, 0 ≤ h → h < 4 → ixN (m.hs.map U.int).length h = some h.toNat := fun h0 h1 => ixL (n := 4) (by simpa using h4) h0 h1
  have fl : ∀ {b : Int} {l : List Int}, flatU (.int b) = true ∧ (l.map U.int).all flatU = true := fun {b l} => ⟨rfl, flatI l⟩
  have hp' : ((m.ps.map (·.1)).map U.int).length < LIM := by simp; unfold LIM; omega
  have hl' : (m.lk.map U.int).length < LIM := by simp; unfold LIM; omega
  cases d with
  | wait => exact absurd rfl nw
  | leap h k => exact absurd rfl (nl h k)
  | look g b =>
    obtain ⟨h0, h1, b0, b1⟩ := od
    have ba := beh_at (m := m) lf b0 b1
    cases hv : (valG m.ps b).isSome with
    | true =>
      have h2 := h.setH (m.hs.set g.toNat (lookV first m b))
      refine ⟨_, ?_, by simp only [step, hv, if_true]; exact h2, .set (by simp)⟩
      rwa [c__law_plain, Deed.u, h.ei, h.es, h.eo, h.eh, h.el, nv_own, nv_hands, nv_state, nv_looked, x_inl fl, inI, keyV, hv, ba, i4 h0 h1, map_set, if_true, SNX]
    | false =>
      by_cases hk : b ∈ m.lk
      · have h2 := h.setH (m.hs.set g.toNat (lookV first m b))
        refine ⟨_, ?_, by simp only [step, hv, addL, hk, if_true, Bool.false_eq_true, if_false]; exact h2, .set (by simp)⟩
        rwa [c__law_plain, Deed.u, h.ei, h.es, h.eo, h.eh, h.el, nv_own, nv_hands, nv_state, nv_looked, x_inl fl, inI, keyV, hv, hk, ba, i4 h0 h1, map_set, if_true, if_false, Bool.false_eq_true, SNX]
      · have h1' := h.setL (m.lk ++ [b])
        have h2 := h1'.setH (m.hs.set g.toNat (lookV first m b))
        simp only [List.map_append, List.map_cons, List.map_nil] at h1' h2
        refine ⟨_, ?_, by simp only [step, hv, addL, hk, if_true, Bool.false_eq_true, if_false]; exact h2, Fr.trans (.set (by simp)) (.set (by simp))⟩
        rwa [c__law_plain, Deed.u, h.ei, h.es, h.eo, h.eh, h.el, h1'.ei, h1'.es, h1'.eh, nv_own, nv_hands, nv_state, nv_looked, x_inl fl, x_app1 hl', inI, keyV, hv, hk, ba, i4 h0 h1, map_set, if_true, if_false, Bool.false_eq_true, SNX]
  | put b g =>
    obtain ⟨h0, h1, b0, b1⟩ := od
    have bi : ixN ((beh first m.ps 0).map U.int).length b = some b.toNat := ixL (n := n.toNat) (by simp [beh_len, lf]) b0 (by omega)
    have bp := beh_put (ps := m.ps) (v := m.hs.getD g.toNat 0) lf b0 b1
    have hk := putG_keys b (m.hs.getD g.toNat 0) m.ps
    obtain ⟨m1, m2, m3, m4, m5, m6⟩ := h.nd
    obtain ⟨k1, k2, k3, k4⟩ := h.ns
    have g1 : ∀ X, (S.set ls X)[i]? = some (.dic (nowD ls lo lh ll)) := fun X => by rw [List.getElem?_set_ne (Ne.symm k1)]; exact h.ei
    have g2 : ∀ X, (S.set ls X)[lo]? = some (.lst ((m.ps.map (·.1)).map U.int)) := fun X => by rw [List.getElem?_set_ne m1]; exact h.eo
    cases hv : (valG m.ps b).isSome with
    | true =>
      have hm : b ∈ m.ps.map (·.1) := of_decide_eq_true (by rw [keyV, hv])
      rw [addL, if_pos hm] at hk
      have h2 := h.setP (putG m.ps b (m.hs.getD g.toNat 0)) (S' := S.set ls (.lst ((beh first (putG m.ps b (m.hs.getD g.toNat 0)) 0).map U.int))) (by
        rw [hk, set_same (g2 _)])
      refine ⟨_, ?_, h2, .set (by simp)⟩
      rwa [c__law_plain, Deed.u, h.ei, h.es, h.eo, h.eh, h.el, g1, g2, nv_own, nv_hands, nv_state, nv_looked, x_inl fl, inI, keyV, hv, bi, bp, at4 h4 h0 h1, map_set, if_true, SNX]
    | false =>
      have hm : ¬ b ∈ m.ps.map (·.1) := of_decide_eq_false (by rw [keyV, hv])
      rw [addL, if_neg hm] at hk
      have h2 := h.setP (putG m.ps b (m.hs.getD g.toNat 0)) rfl
      refine ⟨_, ?_, h2, Fr.trans (.set (by simp)) (.set (by simp))⟩
      rwa [c__law_plain, Deed.u, h.ei, h.es, h.eo, h.eh, h.el, g1, g2, nv_own, nv_hands, nv_state, nv_looked, x_inl fl, x_app1 hp', inI, keyV, hv, bi, bp, hk, at4 h4 h0 h1, map_set, if_true, List.map_append, SNX]
  | set g v =>
    obtain ⟨h0, h1, b0, b1⟩ := od
    have h2 := h.setH (m.hs.set g.toNat v)
    refine ⟨_, ?_, h2, .set (by simp)⟩
    rwa [c__law_plain, Deed.u, h.ei, h.es, h.eo, h.eh, h.el, nv_own, nv_hands, nv_state, nv_looked, i4 h0 h1, map_set, SNX]
  | plus g k =>
    obtain ⟨h0, h1, g0, g1⟩ := od
    have h2 := h.setH (m.hs.set g.toNat ((m.hs.getD g.toNat 0 + m.hs.getD k.toNat 0) % w))
    refine ⟨_, ?_, h2, .set (by simp)⟩
    rwa [c__law_plain, Deed.u, h.ei, h.es, h.eo, h.eh, h.el, nv_own, nv_hands, nv_state, nv_looked, i4 h0 h1, at4 h4 h0 h1, at4 h4 g0 g1, x_mod (show 0 < w by omega), map_set, SNX]
end
section
variable {w : Int} {first : List Int} {i ls lo lh ll : Nat} {m : M} {S : Sto} {n : Int}
theorem pl_go {x x1 x2 : Nat} {S1 : Sto} (len : S.length ≤ S1.length) (p : x1 = x ∨ S.length ≤ x1) (q : x2 = x1 ∨ S1.length ≤ x2) : x2 = x ∨ S.length ≤ x2 := by omega
theorem frl_go {ls1 lo1 lh1 : Nat} {S1 S2 : Sto} (a : Fr [i, ls, lo, lh, ll] S S1) (p : ls1 = ls ∨ S.length ≤ ls1) (q : lo1 = lo ∨ S.length ≤ lo1) (r : lh1 = lh ∨ S.length ≤ lh1) (b : Fr [i, ls1, lo1, lh1, ll] S1 S2) : Fr [i, ls, lo, lh, ll] S S2 :=
  ⟨Nat.le_trans a.len b.len, fun l hl hn => by
    rw [b.old l (Nat.lt_of_lt_of_le hl a.len) ?_, a.old l hl hn]
    simp only [List.mem_cons, List.not_mem_nil, or_false, not_or] at hn ⊢
    omega⟩
def ReL (first : List Int) (i ls lo lh ll : Nat) (S S' : Sto) (r : Bool × M) : Prop :=
  ∃ ls' lo' lh', Al first i ls' lo' lh' ll r.2 S' ∧ Fr [i, ls, lo, lh, ll] S S' ∧ (ls' = ls ∨ S.length ≤ ls') ∧ (lo' = lo ∨ S.length ≤ lo') ∧ (lh' = lh ∨ S.length ≤ lh')
theorem ReL.here (h : Al first i ls lo lh ll m S) {b : Bool} : ReL first i ls lo lh ll S S (b, m) := ⟨ls, lo, lh, h, .refl, .inl rfl, .inl rfl, .inl rfl⟩
theorem ReL.go {ls1 lo1 lh1 : Nat} {S1 S2 : Sto} {r : Bool × M} (a : Fr [i, ls, lo, lh, ll] S S1) (p : ls1 = ls ∨ S.length ≤ ls1) (q : lo1 = lo ∨ S.length ≤ lo1) (t : lh1 = lh ∨ S.length ≤ lh1) (h : ReL first i ls1 lo1 lh1 ll S1 S2 r) : ReL first i ls lo lh ll S S2 r := by
  obtain ⟨ls', lo', lh', e1, e2, e3, e4, e5⟩ := h
  exact ⟨ls', lo', lh', e1, frl_go a p q t e2, pl_go a.len p e3, pl_go a.len q e4, pl_go a.len t e5⟩
variable {α : Type} {fw : Fn} {rn : List α → M → Bool × M} {f : α → U} {k : List α → Prop}
def keptD (N : Nat) : List (Key × U) := [(.inr "state", .ref (N + 1)), (.inr "own", .ref (N + 2)), (.inr "hands", .ref (N + 3))]
theorem kp_mk (N : Nat) : mergeG [(.inr "state", .ref (N + 1)), (.inr "own", .ref (N + 2)), (.inr "hands", .ref (N + 3))] = keptD N := by rfl
theorem kv_state (N : Nat) : valG (keptD N) (.inr "state") = some (.ref (N + 1)) := by rfl
theorem kv_own (N : Nat) : valG (keptD N) (.inr "own") = some (.ref (N + 2)) := by rfl
theorem kv_hands (N : Nat) : valG (keptD N) (.inr "hands") = some (.ref (N + 3)) := by rfl
theorem nowD_len {a b c d : Nat} : (nowD a b c d).length < LIM := by show 4 < LIM; unfold LIM; omega
theorem back_ok {fp : Fn} {N : Nat} {ρ : Rho} (hi : S[i]? = some (.dic (nowD ls lo lh ll))) (hN : S[N]? = some (.dic (keptD N))) {r0 r1 r3 r4 r6 : Option U} :
    ∃ r6', cForD (cVar 5) (gNm 6) (b__law_waits_0 fp fw) [r0, r1, some (.ref i), r3, r4, some (.ref N), r6] S = some (.nx, [r0, r1, some (.ref i), r3, r4, some (.ref N), r6'], S.set i (.dic (nowD (N + 1) (N + 2) (N + 3) ll))) := by
  have ni : i ≠ N := fun z => by subst z; rw [hi] at hN; cases hN
  have li := lt_of_get hi
  have lN := lt_of_get hN
  refine ⟨some (.str "hands"), ?_⟩
  unfold cForD
  simp only [x_var, List.getElem?_cons_succ, List.getElem?_cons_zero, x_var', Option.bind_some, hN]
  refine uni_of fun ep => ?_
  have g0 : ∀ X Y, ((S.set N X).set i Y)[N]? = some X := fun X Y => by rw [List.getElem?_set_ne ni]; exact List.getElem?_set_self lN
  have g00 : ∀ X, (S.set N X)[N]? = some X := fun X => List.getElem?_set_self lN
  have g1 : ∀ X Y, ((S.set N X).set i Y)[i]? = some Y := fun X Y => List.getElem?_set_self (by simpa using li)
  have g2 : ∀ X, (S.set N X)[i]? = some (.dic (nowD ls lo lh ll)) := fun X => by rw [List.getElem?_set_ne (Ne.symm ni)]; exact hi
  have e : loopU (fun S' => S'[N]? = some (.fdc ep (keptD N))) (gNm 6) (b__law_waits_0 fp fw) ((keptD N).map fun q => kU q.1) [r0, r1, some (.ref i), r3, r4, some (.ref N), r6] (S.set N (.fdc ep (keptD N)))
      = some (.nx, [r0, r1, some (.ref i), r3, r4, some (.ref N), some (.str "hands")], (S.set N (.fdc ep (keptD N))).set i (.dic (nowD (N + 1) (N + 2) (N + 3) ll))) := by
    refine (loop_nx (ρ1 := [r0, r1, some (.ref i), r3, r4, some (.ref N), some (.str "state")]) (S1 := (S.set N (.fdc ep (keptD N))).set i (.dic (nowD (N + 1) lo lh ll))) (g00 _) rfl ?_).trans ?_
    · rwa [b__law_waits_0, kU, g00, g2, x_ixf, kv_state, np_state, nowD_len, if_true]
    refine (loop_nx (ρ1 := [r0, r1, some (.ref i), r3, r4, some (.ref N), some (.str "own")]) (S1 := (S.set N (.fdc ep (keptD N))).set i (.dic (nowD (N + 1) (N + 2) lh ll))) (g0 _ _) rfl ?_).trans ?_
    · rwa [b__law_waits_0, kU, g0, g1, x_ixf, kv_own, np_own, nowD_len, if_true, List.set_set]
    refine (loop_nx (ρ1 := [r0, r1, some (.ref i), r3, r4, some (.ref N), some (.str "hands")]) (S1 := (S.set N (.fdc ep (keptD N))).set i (.dic (nowD (N + 1) (N + 2) (N + 3) ll))) (g0 _ _) rfl ?_).trans ?_
    · rwa [b__law_waits_0, kU, g0, g1, x_ixf, kv_hands, np_hands, nowD_len, if_true, List.set_set]
    exact loop_nil (g0 _ _)
  rw [e, Option.bind_some]
  simp only [g0]
  congr 3
  rw [List.set_comm _ _ ni, List.set_set, set_same hN]
end
end OQ
set_option maxHeartbeats 1000000
namespace OQ
open PySem PySem.Spec PyProof.Rows L2 OG OP
theorem Fr.app {ls : List Nat} {S : Sto} (T : Sto) : Fr ls S (S ++ T) := ⟨by simp, fun l hl _ => by rw [List.getElem?_append_left hl]⟩
section
variable {w : Int} {first : List Int} {i ls lo lh ll : Nat} {m : M} {S : Sto} {n : Int}
variable {α : Type} {fw : Fn} {rn : List α → M → Bool × M} {f : α → U} {k : List α → Prop}
def HwT (first : List Int) (n w : Int) (i : Nat) (fw : Fn) (rn : List α → M → Bool × M) (f : α → U) (k : List α → Prop) : Prop := ∀ (a : List α) (m : M) (ls lo lh ll : Nat) (S : Sto), k a → Al first i ls lo lh ll m S → Wf n m → ∃ S', fw [.tup [.int n, .int w], .tup (a.map f), .ref i] S = some (.bl (!(rn a m).1), S') ∧ ReL first i ls lo lh ll S S' (rn a m) ∧ Wf n (rn a m).2
theorem wait_loop (Hw : HwT first n w i fw rn f k) (all : U) (lf : first.length = n.toNat) (n0 : 0 ≤ n) (n1 : n ≤ 6) (w0 : 2 ≤ w) : ∀ (ds : List (DF α)) (out : Nat) (r4 r5 r6 : Option U) (m : M) (ls lo lh : Nat) (S : Sto), (∀ d ∈ ds, d.ok n w k) → Al first i ls lo lh ll m S → Wf n m →
    ∃ ρ S', loopU (fun _ => True) (gNm 4) (b__law_waits_1 P_lp fw) (ds.map (DF.u f)) [some (.tup [.int n, .int w]), some all, some (.ref i), some (.int out), r4, r5, r6] S = some (if (runF w first rn ds out m).1 then Out.nx else Out.rt (.bl true), ρ, S') ∧ ReL first i ls lo lh ll S S' (runF w first rn ds out m) ∧ Wf n (runF w first rn ds out m).2
  | [], out, r4, r5, r6, m, ls, lo, lh, S, _, h, wf => ⟨_, S, by rw [runF]; exact loop_nil trivial, by rw [runF]; exact .here h, by rw [runF]; exact wf⟩
  | d :: r, out + 1, r4, r5, r6, m, ls, lo, lh, S, oa, h, wf => by
    obtain ⟨ρ, S', e, ih⟩ := wait_loop Hw all lf n0 n1 w0 r out (some (d.u f)) r5 r6 m ls lo lh S (fun x hx => oa x (List.mem_cons_of_mem _ hx)) h wf
    rw [runF]
    refine ⟨ρ, S', (loop_nx trivial rfl ?_).trans e, ih⟩
    have e1 : (0 : Int) < ((out + 1 : Nat) : Int) := by omega
    have e2 : ((out + 1 : Nat) : Int) - 1 = (out : Int) := by omega
    rwa [b__law_waits_1, e1, e2]
  | d :: r, 0, r4, r5, r6, m, ls, lo, lh, S, oa, h, wf => by
    have od := oa d List.mem_cons_self
    have or : ∀ x ∈ r, x.ok n w k := fun x hx => oa x (List.mem_cons_of_mem _ hx)
    have z0 : ¬ ((0 : Int) < ((0 : Nat) : Int)) := by decide
    have h4 := wf.h4
    have plain : ∀ d' : Deed, d = .pl d' → d' ≠ .wait → (∀ h k, d' ≠ .leap h k) → (∃ x rr, d'.u = .tup (.str x :: rr) ∧ decide (x = ("wait" : Str)) = false ∧ decide (x = ("leap" : Str)) = false ∧ decide (x = ("try" : Str)) = false) → runF w first rn (.pl d' :: r) 0 m = runF w first rn r 0 (step w first m d') →
        ∃ ρ S', loopU (fun _ => True) (gNm 4) (b__law_waits_1 P_lp fw) ((d :: r).map (DF.u f)) [some (.tup [.int n, .int w]), some all, some (.ref i), some (.int (0 : Nat)), r4, r5, r6] S = some (if (runF w first rn (.pl d' :: r) 0 m).1 then Out.nx else Out.rt (.bl true), ρ, S') ∧ ReL first i ls lo lh ll S S' (runF w first rn (.pl d' :: r) 0 m) ∧ Wf n (runF w first rn (.pl d' :: r) 0 m).2 := by
      rintro d' rfl nw nl ⟨x, rr, e0, s1, s2, s3⟩ e
      obtain ⟨S1, hg, a1, f1⟩ := lp_ok (w := w) h wf od lf n0 n1 w0 nw nl
      obtain ⟨ρ, S', el, ih, iw⟩ := wait_loop Hw all lf n0 n1 w0 r 0 (some d'.u) r5 r6 (step w first m d') ls lo lh S1 or a1 (step_wf wf od)
      rw [e]
      refine ⟨ρ, S', (loop_nx trivial rfl ?_).trans el, .go f1 (.inl rfl) (.inl rfl) (.inl rfl) ih, iw⟩
      simp only [DF.u]
      rw [e0] at hg ⊢
      rwa [b__law_waits_1, z0, s1, s2, s3, hg]
    cases d with
    | tr a b =>
      obtain ⟨ka, kb⟩ := od
      have li := lt_of_get h.ei
      have l1 := lt_of_get h.es
      have l2 := lt_of_get h.eo
      have l3 := lt_of_get h.eh
      have l4 := lt_of_get h.el
      have h1 := h.app [.dic []]
      have h2 := h.app [.dic [], .lst ((beh first m.ps 0).map U.int)]
      have h3 := h.app [.dic [], .lst ((beh first m.ps 0).map U.int), .lst ((m.ps.map (·.1)).map U.int)]
      have h4 := h.app [.dic (keptD S.length), .lst ((beh first m.ps 0).map U.int), .lst ((m.ps.map (·.1)).map U.int), .lst (m.hs.map U.int)]
      obtain ⟨S5, er, ⟨ls5, lo5, lh5, a5, f5, p5, q5, t5⟩, wf5⟩ := Hw a m ls lo lh ll _ ka h4 wf
      have ff : Fr [i, ls, lo, lh, ll] S S5 := Fr.trans (Fr.app _) f5
      have len5 := f5.len
      simp only [List.length_append, List.length_cons, List.length_nil] at len5 p5 q5 t5
      rw [runF]
      unfold tryF
      cases e : rn a m with
      | mk t m' =>
        rw [e] at er a5 wf5
        cases t with
        | true =>
          obtain ⟨ρ, S', el, ih, iw⟩ := wait_loop Hw all lf n0 n1 w0 r 0 (some (DF.u f (.tr a b))) (some (.ref S.length)) r6 m' ls5 lo5 lh5 S5 or a5 wf5
          refine ⟨ρ, S', (loop_nx trivial rfl ?_).trans el, .go ff (by omega) (by omega) (by omega) ih, iw⟩
          rwa [b__law_waits_1, DF.u, z0, h.ei, h1.ei, h1.es, h2.ei, h2.eo, h3.ei, h3.eh, nv_state, nv_own, nv_hands, kp_mk, er, List.length_append, Nat.zero_add, Nat.reduceAdd, SNX]
        | false =>
          have old : ∀ x, x < 4 → S5[S.length + x]? = [O.dic (keptD S.length), .lst ((beh first m.ps 0).map U.int), .lst ((m.ps.map (·.1)).map U.int), .lst (m.hs.map U.int)][x]? := fun x hx => by
            rw [f5.old _ (by simp; omega) (by simp; omega), ga]
          have o0 : S5[S.length]? = some (.dic (keptD S.length)) := old 0 (by omega)
          obtain ⟨r6', eb⟩ := back_ok (fw := fw) (fp := P_lp) (ρ := []) (r0 := some (.tup [.int n, .int w])) (r1 := some all) (r3 := some (.int (0 : Nat))) (r4 := some (DF.u f (.tr a b))) (r6 := r6) a5.ei o0
          have k5 := a5.ns
          have a6 : Al first i (S.length + 1) (S.length + 2) (S.length + 3) ll ⟨m.hs, m.ps, m'.lk⟩ (S5.set i (.dic (nowD (S.length + 1) (S.length + 2) (S.length + 3) ll))) :=
            ⟨List.getElem?_set_self (lt_of_get a5.ei), by rw [List.getElem?_set_ne (by omega)]; exact old 1 (by omega), by rw [List.getElem?_set_ne (by omega)]; exact old 2 (by omega), by rw [List.getElem?_set_ne (by omega)]; exact old 3 (by omega), by rw [List.getElem?_set_ne k5.2.2.2]; exact a5.el, by omega⟩
          have f6 : Fr [i, ls, lo, lh, ll] S (S5.set i (.dic (nowD (S.length + 1) (S.length + 2) (S.length + 3) ll))) := ff.trans (.set (by simp))
          obtain ⟨S7, er7, ⟨ls7, lo7, lh7, a7, f7, p7, q7, t7⟩, wf7⟩ := Hw b ⟨m.hs, m.ps, m'.lk⟩ _ _ _ _ _ kb a6 ⟨wf.h4, wf.pk, wf.pb, wf5.lk, wf5.lb⟩
          have ff7 : Fr [i, ls, lo, lh, ll] S S7 := frl_go f6 (.inr (by omega)) (.inr (by omega)) (.inr (by omega)) f7
          have len7 := f7.len
          simp only [List.length_set] at len7 p7 q7 t7
          simp only [DF.u] at eb
          have e6 := a6.ei
          cases e2 : rn b ⟨m.hs, m.ps, m'.lk⟩ with
          | mk t2 m2 =>
            rw [e2] at er7 a7 wf7
            cases t2 with
            | true =>
              obtain ⟨ρ, S', el, ih, iw⟩ := wait_loop Hw all lf n0 n1 w0 r 0 (some (DF.u f (.tr a b))) (some (.ref S.length)) r6' m2 ls7 lo7 lh7 S7 or a7 wf7
              simp only [e2]
              refine ⟨ρ, S', (loop_nx trivial rfl ?_).trans el, .go ff7 (.inr (by omega)) (.inr (by omega)) (.inr (by omega)) ih, iw⟩
              rwa [b__law_waits_1, DF.u, z0, h.ei, h1.ei, h1.es, h2.ei, h2.eo, h3.ei, h3.eh, nv_state, nv_own, nv_hands, kp_mk, er, eb, er7, List.length_append, Nat.zero_add, Nat.reduceAdd, SNX]
            | false =>
              simp only [e2]
              refine ⟨[some (.tup [.int n, .int w]), some all, some (.ref i), some (.int (0 : Nat)), some (DF.u f (.tr a b)), some (.ref S.length), r6'], S7, loop_rt trivial rfl ?_, ⟨ls7, lo7, lh7, a7, ff7, .inr (by omega), .inr (by omega), .inr (by omega)⟩, wf7⟩
              rwa [b__law_waits_1, DF.u, z0, h.ei, h1.ei, h1.es, h2.ei, h2.eo, h3.ei, h3.eh, nv_state, nv_own, nv_hands, kp_mk, er, eb, er7, List.length_append, Nat.zero_add, Nat.reduceAdd, SNX]
    | pl d =>
      cases d with
      | wait =>
        refine ⟨[some (.tup [.int n, .int w]), some all, some (.ref i), some (.int (0 : Nat)), some (Deed.u .wait), r5, r6], S, (loop_rt trivial rfl ?_).trans (by rw [runF]; rfl), by rw [runF]; exact .here h, by rw [runF]; exact wf⟩
        rwa [b__law_waits_1, z0, DF.u, Deed.u, SNX]
      | leap g j =>
        obtain ⟨h0, h4', k0, k1⟩ := od
        rw [runF]
        have cm : ∀ {x : Int}, CMul j x := fun {x} => .inl ⟨by omega, by omega⟩
        by_cases z : m.hs.getD g.toNat 0 = 0
        · rw [if_pos z]
          obtain ⟨ρ, S', el, ih⟩ := wait_loop Hw all lf n0 n1 w0 r j.toNat (some (Deed.u (.leap g j))) r5 r6 m ls lo lh S or h wf
          refine ⟨ρ, S', (loop_nx trivial rfl ?_).trans el, ih⟩
          have e1 : ((j.toNat : Nat) : Int) = j * 1 := by omega
          rw [e1]
          rwa [b__law_waits_1, z0, DF.u, Deed.u, h.ei, h.eh, nv_hands, at4 h4 h0 h4', z, x_mul cm, if_true, SNX]
        · rw [if_neg z]
          obtain ⟨ρ, S', el, ih⟩ := wait_loop Hw all lf n0 n1 w0 r 0 (some (Deed.u (.leap g j))) r5 r6 m ls lo lh S or h wf
          refine ⟨ρ, S', (loop_nx trivial rfl ?_).trans el, ih⟩
          have e1 : ((0 : Nat) : Int) = j * 0 := by omega
          rw [e1]
          rwa [b__law_waits_1, Int.mul_zero, Int.lt_irrefl, DF.u, Deed.u, h.ei, h.eh, nv_hands, at4 h4 h0 h4', z, x_mul cm, if_false, Bool.false_eq_true, SNX]
      | look g b => exact plain _ rfl (by simp) (by simp) ⟨_, _, rfl, sn_look_wait, sn_look_leap, sn_look_try⟩ (by rw [runF])
      | put g b => exact plain _ rfl (by simp) (by simp) ⟨_, _, rfl, sn_put_wait, sn_put_leap, sn_put_try⟩ (by rw [runF])
      | set g b => exact plain _ rfl (by simp) (by simp) ⟨_, _, rfl, sn_set_wait, sn_set_leap, sn_set_try⟩ (by rw [runF])
      | plus g b => exact plain _ rfl (by simp) (by simp) ⟨_, _, rfl, sn_plus_wait, sn_plus_leap, sn_plus_try⟩ (by rw [runF])
end
section
variable {w : Int} {first : List Int} {i ls lo lh ll : Nat} {m : M} {S : Sto} {n : Int}
noncomputable def P_waits (fw : Fn) : Fn := fnU 7 3 (c__law_waits P_lp fw)
theorem waits_ok {α : Type} {fw : Fn} {rn : List α → M → Bool × M} {f : α → U} {k : List α → Prop} (Hw : HwT first n w i fw rn f k) (lf : first.length = n.toNat) (n0 : 0 ≤ n) (n1 : n ≤ 6) (w0 : 2 ≤ w) (ds : List (DF α)) (oa : ∀ d ∈ ds, d.ok n w k) (h : Al first i ls lo lh ll m S) (wf : Wf n m) :
    ∃ S', P_waits fw [.tup [.int n, .int w], .tup (ds.map (DF.u f)), .ref i] S = some (.bl (!(runF w first rn ds 0 m).1), S') ∧ ReL first i ls lo lh ll S S' (runF w first rn ds 0 m) ∧ Wf n (runF w first rn ds 0 m).2 := by
  unfold P_waits
  rw [e__law_waits]
  obtain ⟨ρ, S', e1, e2, e3⟩ := wait_loop Hw (.tup (ds.map (DF.u f))) lf n0 n1 w0 ds 0 none none none m ls lo lh S oa h wf
  refine ⟨S', ?_, e2, e3⟩
  have z : ((0 : Nat) : Int) = 0 := rfl
  rw [z] at e1
  cases e : (runF w first rn ds 0 m).1 with
  | true => rw [e] at e1; simp only [if_true] at e1; rwa [c__law_waits, cFor, iTp, e1]
  | false => rw [e] at e1; simp only [Bool.false_eq_true, if_false] at e1; rwa [c__law_waits, cFor, iTp, e1]
noncomputable def WaitJ : Nat → Fn
  | 0 => P_waits fun _ _ => none
  | j + 1 => P_waits (WaitJ j)
theorem waitJ_ok (lf : first.length = n.toNat) (n0 : 0 ≤ n) (n1 : n ≤ 6) (w0 : 2 ≤ w) : ∀ J j : Nat, j ≤ J → HwT first n w i (WaitJ J) (runD w first j) (Dl.u j) (OkL n w j)
  | 0, 0, _ => fun a m ls lo lh ll S ka h wf => waits_ok (k := fun _ => False) (fun a m ls lo lh ll S ka => ka.elim) lf n0 n1 w0 a ka.2 h wf
  | J + 1, 0, _ => fun a m ls lo lh ll S ka h wf => waits_ok (k := fun _ => False) (fun a m ls lo lh ll S ka => ka.elim) lf n0 n1 w0 a ka.2 h wf
  | J + 1, j + 1, hJ => fun a m ls lo lh ll S ka h wf => waits_ok (waitJ_ok lf n0 n1 w0 J j (by omega)) lf n0 n1 w0 a ka.2 h wf
noncomputable def P_lalone (j : Nat) : Fn := fnU 4 3 (c__law_alone (WaitJ j))
theorem nm_now (N : Nat) : mergeG [(.inr "state", .ref (N + 1)), (.inr "own", .ref (N + 2)), (.inr "hands", .ref (N + 3)), (.inr "looked", .ref (N + 4))] = nowD (N + 1) (N + 2) (N + 3) (N + 4) := by rfl
theorem lalone_ok {J j : Nat} (hJ : j ≤ J) (S0 : Sto) (ds : List (Dl j)) (od : OkL n w j ds) (lf : first.length = n.toNat) (n0 : 0 ≤ n) (n1 : n ≤ 6) (w0 : 2 ≤ w) :
    ∃ G l, P_lalone J [.tup [.int n, .int w], .tup (ds.map (Dl.u j)), .tup (first.map U.int)] S0 = some (told (runD w first j ds m0) first l, S0 ++ G) ∧ ((runD w first j ds m0).1 = false → (S0 ++ G)[l]? = some (.lst ((sortI (runD w first j ds m0).2.lk).map U.int)) ∧ S0.length ≤ l) ∧ Wf n (runD w first j ds m0).2 := by
  unfold P_lalone
  rw [e__law_alone]
  have h0 : Al first S0.length (S0.length + 1) (S0.length + 2) (S0.length + 3) (S0.length + 4) m0 (S0 ++ [.dic (nowD (S0.length + 1) (S0.length + 2) (S0.length + 3) (S0.length + 4)), .lst (first.map U.int), .lst [], .lst [.int 0, .int 0, .int 0, .int 0], .lst []]) :=
    ⟨by rw [ga0]; rfl, by rw [ga]; simp [m0, beh_nil], by rw [ga]; rfl, by rw [ga]; rfl, by rw [ga]; rfl, by omega⟩
  obtain ⟨S1, er, ⟨ls1, lo1, lh1, a1, f1, p1, q1, t1⟩, wf1⟩ := waitJ_ok lf n0 n1 w0 J j hJ ds m0 _ _ _ _ _ od h0 ⟨rfl, by simp [m0], by simp [m0], by simp [m0], by simp [m0]⟩
  obtain ⟨G1, rfl⟩ : ∃ G, S1 = S0 ++ G := fr_app (ls := []) (by have := f1.len; simp at this; omega) fun l hl => by
    rw [f1.old l (by simp; omega) (by simp; omega), List.getElem?_append_left hl]
  obtain ⟨_, k2⟩ := wf1.few n0 n1
  unfold told
  cases e : runD w first j ds m0 with
  | mk b m =>
    rw [e] at er a1 k2 wf1
    cases b with
    | true =>
      refine ⟨G1, 0, ?_, by simp, wf1⟩
      rwa [c__law_alone, nm_now, nv_state, nv_hands, nv_looked, er, a1.ei, a1.es, a1.eh, List.length_append, Nat.zero_add, Nat.reduceAdd]
    | false =>
      have l0 : m.lk.length < 64 := Nat.lt_of_le_of_lt k2 (by decide)
      have hs : fSorted [.ref (S0.length + 4)] (S0 ++ G1) = some (.ref (S0 ++ G1).length, (S0 ++ G1) ++ [.lst ((sortI m.lk).map U.int)]) := by
        simp only [fSorted, a1.el, intsU_map, Option.bind_some, l0, if_true]
      refine ⟨G1 ++ [.lst ((sortI m.lk).map U.int)], (S0 ++ G1).length, ?_, fun _ => ⟨?_, by simp⟩, wf1⟩
      · rwa [c__law_alone, nm_now, nv_state, nv_hands, nv_looked, er, a1.ei, hs, List.length_append, Nat.zero_add, Nat.reduceAdd]
      · rw [← List.append_assoc, ga0]; rfl
end
end OQ
set_option maxHeartbeats 1000000
namespace OQ
open PySem PySem.Spec PyProof.Rows L2 OG OP
theorem ty_tup {us : List U} {S : Sto} : tyU (.tup us) S = some .tuple := rfl
theorem ty_int {i : Int} {S : Sto} : tyU (.int i) S = some .int := rfl
theorem ty_str {i : Str} {S : Sto} : tyU (.str i) S = some .str := rfl
theorem ty_lst {l : Nat} {us : List U} {S : Sto} (h : S[l]? = some (.lst us)) : tyU (.ref l) S = some .list := by simp only [tyU, h]
theorem x_isn {x : U} {S : Sto} : fIsN x .non S = some (.bl (isNon x), S) := rfl
noncomputable def P_same : Nat → Fn
  | 0 => fun _ _ => none
  | k + 1 => fnU 2 2 (c__law_same (P_same k))
def SameAt (k : Nat) (u v : U) (S : Sto) : Prop := ∀ X, ∃ G, P_same k [u, v] (S ++ X) = some (.bl true, S ++ (X ++ G))
theorem same_int {k : Nat} {i : Int} {S : Sto} : SameAt (k + 1) (.int i) (.int i) S := fun X => ⟨[], by
  unfold P_same; rw [e__law_same]
  rwa [c__law_same, x_isn, isNon, ty_int, subT, eq_self, List.append_nil]⟩
theorem same_str {k : Nat} {i : Str} {S : Sto} : SameAt (k + 1) (.str i) (.str i) S := fun X => ⟨[], by
  unfold P_same; rw [e__law_same]
  rwa [c__law_same, x_isn, isNon, ty_str, subT, eq_self, List.append_nil]⟩
theorem row_loop {k : Nat} {S : Sto} {ok : Sto → Prop} (hok : ∀ X, ok (S ++ X)) : ∀ (ps : List (U × U)) (j : Nat) (X G : Sto) (r0 r1 : Option U), (∀ p ∈ ps, SameAt k p.1 p.2 S) → j + ps.length ≤ 1000 →
    ∃ G', compU ok (gTp [0, 1]) (cCB (P_same k) (cCons (cVar 0) (cCons (cVar 1) cNil))) (S.length + X.length) (ps.map fun p => .tup [p.1, p.2]) [r0, r1] (S ++ (X ++ .lst (List.replicate j (.bl true)) :: G)) = some (S ++ (X ++ .lst (List.replicate (j + ps.length) (.bl true)) :: G'))
  | [], j, X, G, r0, r1, _, _ => ⟨G, comp_nil (hok _)⟩
  | p :: ps, j, X, G, r0, r1, h, hl => by
    obtain ⟨G1, e1⟩ := h p List.mem_cons_self (X ++ .lst (List.replicate j (.bl true)) :: G)
    obtain ⟨G2, ih⟩ := row_loop hok ps (j + 1) X (G ++ G1) (some p.1) (some p.2) (fun q hq => h q (List.mem_cons_of_mem _ hq)) (by simp at hl; omega)
    refine ⟨G2, ?_⟩
    have e2 : j + (p :: ps).length = j + 1 + ps.length := by simp; omega
    rw [e2, List.map_cons]
    refine (comp_cons (ρ0 := [some p.1, some p.2]) (S0 := S ++ (X ++ .lst (List.replicate j (.bl true)) :: G)) (S1 := S ++ (X ++ .lst (List.replicate j (.bl true)) :: (G ++ G1))) (x := .bl true) (ys := List.replicate j (.bl true)) (hok _) (by rwa []) ?_ ?_ (by unfold LIM; simp at hl ⊢; omega)).trans ?_
    · rwa [e1]
    · rw [ga, ← Nat.add_zero X.length, ga]; rfl
    · rw [gs, ← Nat.add_zero X.length, gs]
      rw [show (O.lst (List.replicate j (U.bl true)) :: (G ++ G1)).set 0 (.lst (List.replicate j (.bl true) ++ [.bl true])) = .lst (List.replicate (j + 1) (.bl true)) :: (G ++ G1) by rw [List.replicate_succ']; rfl]
      exact ih
theorem same_row {k : Nat} {us vs : List U} {S : Sto} (hl : us.length = vs.length) (hn : us.length ≤ 1000) (h : ∀ p ∈ us.zip vs, SameAt k p.1 p.2 S) : SameAt (k + 1) (.tup us) (.tup vs) S := fun X => by
  obtain ⟨G, e⟩ := row_loop (ok := fun _ => True ∧ True) (S := S) (fun _ => ⟨trivial, trivial⟩) (us.zip vs) 0 X [] none none h (by simp [hl]; omega)
  refine ⟨.lst (List.replicate (0 + (us.zip vs).length) (.bl true)) :: G, ?_⟩
  unfold P_same; rw [e__law_same]
  have fl : flatU (.bl false) = true ∧ (List.replicate (0 + (us.zip vs).length) (U.bl true)).all flatU = true := ⟨rfl, by simp [flatU]⟩
  have nin : inU (.bl false) (List.replicate (0 + (us.zip vs).length) (U.bl true)) = false := by
    unfold inU; rw [List.any_eq_false]; intro x hx; rw [List.eq_of_mem_replicate hx]; decide
  have g1 : (S ++ (X ++ O.lst (List.replicate (0 + (us.zip vs).length) (U.bl true)) :: G))[S.length + X.length]? = some (.lst (List.replicate (0 + (us.zip vs).length) (.bl true))) := by rw [ga, ← Nat.add_zero X.length, ga]; rfl
  have hl' : ((us.length : Nat) : Int) = (vs.length : Int) := by omega
  have e' : compU (fun _ => True ∧ True) (gTp [0, 1]) (cCB (P_same k) (cCons (cVar 0) (cCons (cVar 1) cNil))) (S.length + X.length) (pairU us vs) [none, none] (S ++ (X ++ [.lst []])) = some (S ++ (X ++ .lst (List.replicate (0 + (us.zip vs).length) (.bl true)) :: G)) := e
  rwa [c__law_same, x_isn, isNon, ty_tup, subT, hl', eq_self, cComp, iZip, seqU, rhoC, List.replicate, List.length_append, e', g1, x_inl fl, nin, if_true]
theorem same_lst {k : Nat} {us vs : List U} {S : Sto} {l1 l2 : Nat} (h1 : S[l1]? = some (.lst us)) (h2 : S[l2]? = some (.lst vs)) (hl : us.length = vs.length) (hn : us.length ≤ 1000) (h : ∀ p ∈ us.zip vs, SameAt k p.1 p.2 S) : SameAt (k + 1) (.ref l1) (.ref l2) S := fun X => by
  have up : ∀ {l : Nat} {o : O} (Y : Sto), S[l]? = some o → (S ++ Y)[l]? = some o := fun {l o} Y q => by rw [List.getElem?_append_left (List.getElem?_eq_some_iff.mp q).1]; exact q
  obtain ⟨G, e⟩ := row_loop (ok := fun S' => S'[l1]? = some (.lst us) ∧ S'[l2]? = some (.lst vs)) (S := S) (fun Y => ⟨up Y h1, up Y h2⟩) (us.zip vs) 0 X [] none none h (by simp [hl]; omega)
  refine ⟨.lst (List.replicate (0 + (us.zip vs).length) (.bl true)) :: G, ?_⟩
  unfold P_same; rw [e__law_same]
  have fl : flatU (.bl false) = true ∧ (List.replicate (0 + (us.zip vs).length) (U.bl true)).all flatU = true := ⟨rfl, by simp [flatU]⟩
  have nin : inU (.bl false) (List.replicate (0 + (us.zip vs).length) (U.bl true)) = false := by
    unfold inU; rw [List.any_eq_false]; intro x hx; rw [List.eq_of_mem_replicate hx]; decide
  have g1 : (S ++ (X ++ O.lst (List.replicate (0 + (us.zip vs).length) (U.bl true)) :: G))[S.length + X.length]? = some (.lst (List.replicate (0 + (us.zip vs).length) (.bl true))) := by rw [ga, ← Nat.add_zero X.length, ga]; rfl
  have hl' : ((us.length : Nat) : Int) = (vs.length : Int) := by omega
  have e' : compU (fun S' => S'[l1]? = some (.lst us) ∧ S'[l2]? = some (.lst vs)) (gTp [0, 1]) (cCB (P_same k) (cCons (cVar 0) (cCons (cVar 1) cNil))) (S.length + X.length) (pairU us vs) [none, none] (S ++ (X ++ [.lst []])) = some (S ++ (X ++ .lst (List.replicate (0 + (us.zip vs).length) (.bl true)) :: G)) := e
  have q1 := up X h1
  have q2 := up X h2
  rwa [c__law_same, x_isn, isNon, ty_lst q1, ty_lst q2, q1, q2, subT, hl', eq_self, cComp, iZip, seqU, rhoC, List.replicate, List.length_append, e', g1, x_inl fl, nin, if_true]
theorem zip_self {us : List U} {P : U × U → Prop} (h : ∀ u ∈ us, P (u, u)) : ∀ p ∈ us.zip us, P p := fun p hp => by
  obtain ⟨e, m⟩ := mem_zip_self hp
  have : p = (p.1, p.1) := by cases p; simp at e; rw [e]
  rw [this]; exact h _ m
theorem same_ints {k : Nat} {ns : List Int} {S : Sto} (hn : ns.length ≤ 1000) : SameAt (k + 2) (.tup (ns.map U.int)) (.tup (ns.map U.int)) S :=
  same_row rfl (by simpa using hn) (zip_self fun u hu => by
    obtain ⟨i, _, rfl⟩ := List.mem_map.mp hu
    exact same_int)
end OQ
set_option maxHeartbeats 1000000
namespace OQ
open PySem PySem.Spec PyProof.Rows L2 OG OP
section
variable {α : Type} {n w : Int} {f : α → U} {k : List α → Prop} {s : List α → Int}
def szF (s : List α → Int) : List (DF α) → Int
  | [] => 0
  | .pl _ :: r => 1 + szF s r
  | .tr a b :: r => 1 + s a + s b + szF s r
theorem szF_app (s : List α → Int) : ∀ (x y : List (DF α)), szF s (x ++ y) = szF s x + szF s y
  | [], y => by simp [szF]
  | .pl d :: r, y => by simp only [List.cons_append, szF, szF_app s r y]; omega
  | .tr a b :: r, y => by simp only [List.cons_append, szF, szF_app s r y]; omega
def HsT (fs : Fn) (f : α → U) (k : List α → Prop) (s : List α → Int) : Prop := ∀ (a : List α) (S : Sto), k a → fs [.tup (a.map f)] S = some (.int (s a), S)
noncomputable def P_size (fs : Fn) : Fn := fnU 3 1 (c__law_size fs)
theorem size_loop {fs : Fn} (Hs : HsT fs f k s) (x : U) : ∀ (ds : List (DF α)) (many : Int) (r2 : Option U) (S : Sto), (∀ d ∈ ds, d.ok n w k) →
    ∃ r2', loopU (fun _ => True) (gNm 2) (b__law_size_0 fs) (ds.map (DF.u f)) [some x, some (.int many), r2] S = some (.nx, [some x, some (.int (many + szF s ds)), r2'], S)
  | [], many, r2, S, _ => ⟨r2, by simp only [szF, Int.add_zero, List.map_nil]; exact loop_nil trivial⟩
  | d :: r, many, r2, S, oa => by
    have od := oa d List.mem_cons_self
    cases d with
    | pl d =>
      obtain ⟨r2', ih⟩ := size_loop Hs x r (many + 1) (some d.u) S fun y hy => oa y (List.mem_cons_of_mem _ hy)
      have e : many + szF s (.pl d :: r) = many + 1 + szF s r := by simp only [szF]; omega
      rw [e]
      refine ⟨r2', (loop_nx trivial rfl ?_).trans ih⟩
      have h0 : ∃ y rr, d.u = .tup (.str y :: rr) ∧ decide (y = ("try" : Str)) = false := by
        cases d <;> first | exact ⟨_, _, rfl, sn_look_try⟩ | exact ⟨_, _, rfl, sn_put_try⟩ | exact ⟨_, _, rfl, sn_set_try⟩ | exact ⟨_, _, rfl, sn_plus_try⟩ | exact ⟨_, _, rfl, by decide +kernel⟩
      obtain ⟨y, rr, e0, e1⟩ := h0
      simp only [DF.u]
      rw [e0]
      rwa [b__law_size_0, e1]
    | tr a b =>
      obtain ⟨ka, kb⟩ := od
      obtain ⟨r2', ih⟩ := size_loop Hs x r (many + 1 + s a + s b) (some (DF.u f (.tr a b))) S fun y hy => oa y (List.mem_cons_of_mem _ hy)
      have e : many + szF s (.tr a b :: r) = many + 1 + s a + s b + szF s r := by simp only [szF]; omega
      rw [e]
      refine ⟨r2', (loop_nx trivial rfl ?_).trans ih⟩
      rwa [b__law_size_0, DF.u, Hs a _ ka, Hs b _ kb, SNX]
theorem size_ok {fs : Fn} (Hs : HsT fs f k s) (ds : List (DF α)) (S : Sto) (oa : ∀ d ∈ ds, d.ok n w k) : P_size fs [.tup (ds.map (DF.u f))] S = some (.int (szF s ds), S) := by
  unfold P_size
  rw [e__law_size]
  obtain ⟨r2, e⟩ := size_loop Hs (.tup (ds.map (DF.u f))) ds 0 none S oa
  rw [Int.zero_add] at e
  rwa [c__law_size, cFor, iTp, e]
end
noncomputable def SizeJ : Nat → Fn
  | 0 => P_size fun _ _ => none
  | j + 1 => P_size (SizeJ j)
def sizeD : (j : Nat) → List (Dl j) → Int
  | 0, ds => szF (fun _ => 0) ds
  | j + 1, ds => szF (sizeD j) ds
theorem sizeJ_ok {n w : Int} : ∀ J j : Nat, j ≤ J → HsT (SizeJ J) (Dl.u j) (OkL n w j) (sizeD j)
  | 0, 0, _ => fun a S ka => size_ok (n := n) (w := w) (k := fun _ => False) (fun _ _ z => z.elim) a S ka.2
  | J + 1, 0, _ => fun a S ka => size_ok (n := n) (w := w) (k := fun _ => False) (fun _ _ z => z.elim) a S ka.2
  | J + 1, j + 1, h => fun a S ka => size_ok (n := n) (w := w) (sizeJ_ok J j (by omega)) a S ka.2
section
variable {α : Type} {f : α → U} {k : List α → Prop} {s : List α → Int}
def HdT (n w t : Int) (fd : Fn) (f : α → U) (k : List α → Prop) (s : List α → Int) : Prop := ∀ (ns : List Int) (T : Sto) (a c room : Int), 0 ≤ a → 0 ≤ c → 0 ≤ room → room ≤ 40 →
  ∃ (ds : List α) (a' c' : Int) (G : Sto), fd [.ref 1, .tup [.int n, .int w], .int room, .int t] (scr ns :: pen a c :: T) = some (.tup (ds.map f), scr ns :: pen a' c' :: (T ++ G)) ∧ k ds ∧ s ds ≤ room ∧ 0 ≤ s ds ∧ 0 ≤ a' ∧ 0 ≤ c' ∧ ds.length ≤ 12
noncomputable def r_deal (f__law_take f__law_plain_deed f__law_dealing f__law_size : Fn) : CS :=
  (cIfS (cAnd (cTest (cOp fGt (cVar 5) (cC (.int 0)))) (cAnd (cTest (cOp fLt (cCB fLen (cCons (cVar 4) cNil)) (cC (.int 12)))) (cTest (cOp fLt (cVar 7) (cC (.int 13)))))) (cSeq (cDrop (cBM fAppend (cVar 4) (cCons (cCB f__law_plain_deed (cCons (cVar 0) (cCons (cVar 1) (cCons (cVar 7) (cCons (cVar 8) cNil))))) cNil)))
    (cSet 5 (cOp fSub (cVar 5) (cC (.int 1))))) (cIfS (cAnd (cTest (cOp fGt (cVar 5) (cC (.int 0)))) (cAnd (cTest (cOp fLt (cCB fLen (cCons (cVar 4) cNil)) (cC (.int 12)))) (cOr (cTest (cOp fEq (cVar 7) (cC (.int 13)))) (cTest (cOp fEq (cVar 3) (cC (.int 0))))))) (cSeq (cIfS (cAnd (cTest (cOp fGt (cVar 5) (cC (.int 1)))) (cAnd (cTest (cOp fLt (cCB fLen (cCons (cVar 4) cNil)) (cC (.int 11)))) (cTest (cOp fGt (cCB f__law_take (cCons (cVar 0) (cCons (cC (.int 4)) cNil))) (cC (.int 0)))))) (cSeq (cDrop (cBM fAppend (cVar 4) (cCons (cTup (cCons (cC (.str "leap")) (cCons (cVar 8) (cCons (cC (.int 1)) cNil)))) cNil)))
    (cSet 5 (cOp fSub (cVar 5) (cC (.int 1))))) cSkip)
    (cSeq (cDrop (cBM fAppend (cVar 4) (cCons (cTup (cCons (cC (.str "wait")) cNil)) cNil)))
    (cSet 5 (cOp fSub (cVar 5) (cC (.int 1)))))) (cIfS (cAnd (cTest (cOp fGt (cVar 5) (cC (.int 0)))) (cTest (cOp fLt (cCB fLen (cCons (cVar 4) cNil)) (cC (.int 12))))) (cSeq (cSet 9 (cCB f__law_dealing (cCons (cVar 0) (cCons (cVar 1) (cCons (cCB f__law_take (cCons (cVar 0) (cCons (cVar 5) cNil))) (cCons (cOp fSub (cVar 3) (cC (.int 1))) cNil))))))
    (cSeq (cSet 5 (cOp fSub (cOp fSub (cVar 5) (cC (.int 1))) (cCB f__law_size (cCons (cVar 9) cNil))))
    (cSeq (cSet 10 (cCB f__law_dealing (cCons (cVar 0) (cCons (cVar 1) (cCons (cCB f__law_take (cCons (cVar 0) (cCons (cOp fAdd (cVar 5) (cC (.int 1))) cNil))) (cCons (cOp fSub (cVar 3) (cC (.int 1))) cNil))))))
    (cSeq (cSet 5 (cOp fSub (cVar 5) (cCB f__law_size (cCons (cVar 10) cNil))))
    (cDrop (cBM fAppend (cVar 4) (cCons (cTup (cCons (cC (.str "try")) (cCons (cVar 9) (cCons (cVar 10) cNil)))) cNil))))))) cSkip)))
theorem b_deal {f g h i : Fn} : b__law_dealing_0 f g h i = cSeq (cSet 7 (cCB f (cCons (cVar 0) (cCons (cC (.int 16)) cNil)))) (cSeq (cSet 8 (cCB f (cCons (cVar 0) (cCons (cC (.int 4)) cNil)))) (r_deal f g h i)) := rfl
theorem deal_loopT (ns : List Int) (T : Sto) {n w room t : Int} {fd fs : Fn} (Hs : HsT fs f k s) (Hd : t ≠ 0 → HdT n w (t - 1) fd f k s) (n0 : 1 ≤ n) (n1 : n ≤ 6) (w0 : 2 ≤ w) (w1 : w ≤ 1000) (rm : room ≤ 40) : ∀ (us : List U) (r6 r7 r8 r9 r10 : Option U) (left : Int) (ds : List (DF α)) (G : Sto) {a c : Int}, 0 ≤ a → 0 ≤ c → ds.length ≤ 12 → (∀ d ∈ ds, d.ok n w k) → 0 ≤ left → szF s ds + left ≤ room → 0 ≤ szF s ds →
    ∃ (ds' : List (DF α)) (ρ : Rho) (a' c' : Int) (G' : Sto), loopU (fun _ => True) (gNm 6) (b__law_dealing_0 P_take P_plain fd fs) us [some (.ref 1), some (.tup [.int n, .int w]), some (.int room), some (.int t), some (.ref (T.length + 1 + 1)), some (.int left), r6, r7, r8, r9, r10] (scr ns :: pen a c :: (T ++ .lst (ds.map (DF.u f)) :: G))
      = some (.nx, some (.ref 1) :: some (.tup [.int n, .int w]) :: some (.int room) :: some (.int t) :: some (.ref (T.length + 1 + 1)) :: ρ, scr ns :: pen a' c' :: (T ++ .lst (ds'.map (DF.u f)) :: G')) ∧ ds'.length ≤ 12 ∧ (∀ d ∈ ds', d.ok n w k) ∧ szF s ds' ≤ room ∧ 0 ≤ szF s ds' ∧ 0 ≤ a' ∧ 0 ≤ c'
  | [], r6, r7, r8, r9, r10, left, ds, G, a, c, ha, hc, hl, hd, l0, sz, s0 => ⟨ds, _, a, c, G, by simp [loopU]; rfl, hl, hd, by omega, s0, ha, hc⟩
  | u :: us, r6, r7, r8, r9, r10, left, ds, G, a, c, ha, hc, hl, hd, l0, sz, s0 => by
    obtain ⟨f1, a1, c1, e1, p1, q1, ha1, hc1⟩ := take_ok ns (T ++ .lst (ds.map (DF.u f)) :: G) (m := 16) ha hc (by decide) (by decide +kernel)
    obtain ⟨f2, a2, c2, e2, p2, q2, ha2, hc2⟩ := take_ok ns (T ++ .lst (ds.map (DF.u f)) :: G) (m := 4) ha1 hc1 (by decide) (by decide +kernel)
    have pre : b__law_dealing_0 P_take P_plain fd fs [some (.ref 1), some (.tup [.int n, .int w]), some (.int room), some (.int t), some (.ref (T.length + 1 + 1)), some (.int left), some u, r7, r8, r9, r10] (scr ns :: pen a c :: (T ++ .lst (ds.map (DF.u f)) :: G))
        = r_deal P_take P_plain fd fs [some (.ref 1), some (.tup [.int n, .int w]), some (.int room), some (.int t), some (.ref (T.length + 1 + 1)), some (.int left), some u, some (.int f1), some (.int f2), r9, r10] (scr ns :: pen a2 c2 :: (T ++ .lst (ds.map (DF.u f)) :: G)) := by
      rw [b_deal]
      rwa [e1, e2]
    by_cases hL : 0 < left
    case neg =>
      obtain ⟨ds', ρ, a', c', G', h, kk⟩ := deal_loopT ns T (room := room) (t := t) (fd := fd) (fs := fs) Hs Hd n0 n1 w0 w1 rm us (some u) (some (.int f1)) (some (.int f2)) r9 r10 left ds G ha2 hc2 hl hd l0 sz s0
      exact ⟨ds', ρ, a', c', G', (loop_nx trivial rfl (pre.trans (by rwa [r_deal, hL]))).trans h, kk⟩
    by_cases hN : (ds.length : Int) < 12
    case neg =>
      obtain ⟨ds', ρ, a', c', G', h, kk⟩ := deal_loopT ns T (room := room) (t := t) (fd := fd) (fs := fs) Hs Hd n0 n1 w0 w1 rm us (some u) (some (.int f1)) (some (.int f2)) r9 r10 left ds G ha2 hc2 hl hd l0 sz s0
      exact ⟨ds', ρ, a', c', G', (loop_nx trivial rfl (pre.trans (by rwa [r_deal, hL, hN, List.length_map]))).trans h, kk⟩
    have hlm : (ds.map (DF.u f)).length < LIM := by unfold LIM; simp; omega
    have okd : ∀ {ds : List (DF α)} {d : DF α}, (∀ d ∈ ds, d.ok n w k) → d.ok n w k → ∀ x ∈ ds ++ [d], x.ok n w k := fun h1 h2 x hx => by
      rcases List.mem_append.mp hx with z | z
      · exact h1 x z
      · simp at z; subst z; exact h2
    have s1 : ∀ (x : List (DF α)) (d : Deed), szF s (x ++ [.pl d]) = szF s x + 1 := fun x d => by rw [szF_app]; simp [szF]
    by_cases hW : f1 < 13
    · obtain ⟨d, a3, c3, G3, e3, od, ha3, hc3⟩ := plain_ok ns (T ++ .lst (ds.map (DF.u f)) :: G) ha2 hc2 n0 n1 w0 w1 p1 p2 q2
      obtain ⟨ds', ρ, a', c', G', h, kk⟩ := deal_loopT ns T (room := room) (t := t) (fd := fd) (fs := fs) Hs Hd n0 n1 w0 w1 rm us (some u) (some (.int f1)) (some (.int f2)) r9 r10 (left - 1) (ds ++ [.pl d]) (G ++ G3) ha3 hc3 (by simp; omega) (okd hd (show DF.ok n w k (.pl d) from od)) (by omega) (by rw [s1]; omega) (by rw [s1]; omega)
      simp only [List.map_append, List.map_cons, List.map_nil, DF.u] at h
      exact ⟨ds', ρ, a', c', G', (loop_nx trivial rfl (pre.trans (by rwa [r_deal, e3, hL, hN, hW, x_app1 hlm, List.length_map]))).trans h, kk⟩
    · have wt : DF.u f (.pl .wait) = U.tup [.str "wait"] := rfl
      obtain ⟨bE, hE⟩ : ∃ b, decide (f1 = 13) = b := ⟨_, rfl⟩
      obtain ⟨bT, hT⟩ : ∃ b, decide (t = 0) = b := ⟨_, rfl⟩
      by_cases hX : bE = false ∧ bT = false
      · obtain ⟨rfl, rfl⟩ := hX
        have tz : t ≠ 0 := of_decide_eq_false hT
        obtain ⟨f3, a3, c3, e3, p3, q3, ha3, hc3⟩ := take_ok ns (T ++ .lst (ds.map (DF.u f)) :: G) (m := left) ha2 hc2 hL (l9 (by omega) (by omega))
        obtain ⟨A, a4, c4, G4, e4, kA, sA, sA0, ha4, hc4, _⟩ := Hd tz ns (T ++ .lst (ds.map (DF.u f)) :: G) a3 c3 f3 ha3 hc3 p3 (by omega)
        obtain ⟨f5, a5, c5, e5, p5, q5, ha5, hc5⟩ := take_ok ns (T ++ .lst (ds.map (DF.u f)) :: (G ++ G4)) (m := left - 1 - s A + 1) ha4 hc4 (by omega) (l9 (by omega) (by omega))
        obtain ⟨B, a6, c6, G6, e6, kB, sB, sB0, ha6, hc6, _⟩ := Hd tz ns (T ++ .lst (ds.map (DF.u f)) :: (G ++ G4)) a5 c5 f5 ha5 hc5 p5 (by omega)
        have s2 : szF s (ds ++ [.tr A B]) = szF s ds + 1 + s A + s B := by rw [szF_app]; simp only [szF]; omega
        obtain ⟨ds', ρ, a', c', G', h, kk⟩ := deal_loopT ns T (room := room) (t := t) (fd := fd) (fs := fs) Hs Hd n0 n1 w0 w1 rm us (some u) (some (.int f1)) (some (.int f2)) (some (.tup (A.map f))) (some (.tup (B.map f))) (left - 1 - s A - s B) (ds ++ [.tr A B]) (G ++ (G4 ++ G6)) ha6 hc6 (by simp; omega) (okd hd (show DF.ok n w k (.tr A B) from ⟨kA, kB⟩)) (by omega) (by rw [s2]; omega) (by rw [s2]; omega)
        simp only [List.map_append, List.map_cons, List.map_nil, DF.u] at h
        simp only [List.append_assoc, List.cons_append] at e4 e6
        exact ⟨ds', ρ, a', c', G', (loop_nx trivial rfl (pre.trans (by rwa [r_deal, e3, e4, e5, e6, Hs A _ kA, Hs B _ kB, hL, hN, hW, hE, hT, x_app1 hlm, List.length_map]))).trans h, kk⟩
      have hO : (bE || bT) = true := by cases bE <;> cases bT <;> simp_all
      have hC : ∀ S' : Sto, (cOr (cTest (cOp fEq (cVar 7) (cC (.int 13)))) (cTest (cOp fEq (cVar 3) (cC (.int 0))))) [some (.ref 1), some (.tup [.int n, .int w]), some (.int room), some (.int t), some (.ref (T.length + 1 + 1)), some (.int left), some u, some (.int f1), some (.int f2), r9, r10] S' = some (true, S') := fun S' => by
        cases bE <;> cases bT <;> first | (exact absurd hO (by decide)) | rwa [hE, hT]
      by_cases hM : 1 < left
      case neg =>
        obtain ⟨ds', ρ, a', c', G', h, kk⟩ := deal_loopT ns T (room := room) (t := t) (fd := fd) (fs := fs) Hs Hd n0 n1 w0 w1 rm us (some u) (some (.int f1)) (some (.int f2)) r9 r10 (left - 1) (ds ++ [.pl .wait]) G ha2 hc2 (by simp; omega) (okd hd (show DF.ok n w k (.pl .wait) from trivial)) (by omega) (by rw [s1]; omega) (by rw [s1]; omega)
        simp only [List.map_append, List.map_cons, List.map_nil] at h
        refine ⟨ds', ρ, a', c', G', (loop_nx trivial rfl ?_).trans h, kk⟩
        refine pre.trans ?_
        rwa [r_deal, hC, hL, hN, hW, hM, wt, x_app1 hlm, List.length_map]
      by_cases hK : (ds.length : Int) < 11
      case neg =>
        obtain ⟨ds', ρ, a', c', G', h, kk⟩ := deal_loopT ns T (room := room) (t := t) (fd := fd) (fs := fs) Hs Hd n0 n1 w0 w1 rm us (some u) (some (.int f1)) (some (.int f2)) r9 r10 (left - 1) (ds ++ [.pl .wait]) G ha2 hc2 (by simp; omega) (okd hd (show DF.ok n w k (.pl .wait) from trivial)) (by omega) (by rw [s1]; omega) (by rw [s1]; omega)
        simp only [List.map_append, List.map_cons, List.map_nil] at h
        refine ⟨ds', ρ, a', c', G', (loop_nx trivial rfl ?_).trans h, kk⟩
        refine pre.trans ?_
        rwa [r_deal, hC, hL, hN, hW, hM, hK, wt, x_app1 hlm, List.length_map]
      obtain ⟨f3, a3, c3, e3, p3, q3, ha3, hc3⟩ := take_ok ns (T ++ .lst (ds.map (DF.u f)) :: G) (m := 4) ha2 hc2 (by decide) (by decide +kernel)
      by_cases hZ : 0 < f3
      · have lp : DF.u f (.pl (.leap f2 1)) = U.tup [.str "leap", .int f2, .int 1] := rfl
        have hlm2 : (ds.map (DF.u f) ++ [U.tup [.str "leap", .int f2, .int 1]]).length < LIM := by unfold LIM; simp; omega
        obtain ⟨ds', ρ, a', c', G', h, kk⟩ := deal_loopT ns T (room := room) (t := t) (fd := fd) (fs := fs) Hs Hd n0 n1 w0 w1 rm us (some u) (some (.int f1)) (some (.int f2)) r9 r10 (left - 1 - 1) (ds ++ [.pl (.leap f2 1)] ++ [.pl .wait]) G ha3 hc3 (by simp; omega) (okd (okd hd (show DF.ok n w k (.pl (.leap f2 1)) from ⟨p2, q2, by omega, by omega⟩)) (show DF.ok n w k (.pl .wait) from trivial)) (by omega) (by rw [s1, s1]; omega) (by rw [s1, s1]; omega)
        simp only [List.map_append, List.map_cons, List.map_nil] at h
        refine ⟨ds', ρ, a', c', G', (loop_nx trivial rfl ?_).trans h, kk⟩
        refine pre.trans ?_
        rwa [r_deal, hC, e3, hL, hN, hW, hM, hK, hZ, lp, wt, x_app1 hlm, x_app1 hlm2, List.length_map]
      · obtain ⟨ds', ρ, a', c', G', h, kk⟩ := deal_loopT ns T (room := room) (t := t) (fd := fd) (fs := fs) Hs Hd n0 n1 w0 w1 rm us (some u) (some (.int f1)) (some (.int f2)) r9 r10 (left - 1) (ds ++ [.pl .wait]) G ha3 hc3 (by simp; omega) (okd hd (show DF.ok n w k (.pl .wait) from trivial)) (by omega) (by rw [s1]; omega) (by rw [s1]; omega)
        simp only [List.map_append, List.map_cons, List.map_nil] at h
        refine ⟨ds', ρ, a', c', G', (loop_nx trivial rfl ?_).trans h, kk⟩
        refine pre.trans ?_
        rwa [r_deal, hC, e3, hL, hN, hW, hM, hK, hZ, wt, x_app1 hlm, List.length_map]
theorem deal_okT {n w t : Int} {fd fs : Fn} (Hs : HsT fs f k s) (Hd : t ≠ 0 → HdT n w (t - 1) fd f k s) (n0 : 1 ≤ n) (n1 : n ≤ 6) (w0 : 2 ≤ w) (w1 : w ≤ 1000) : HdT n w t (P_deal fd fs) (DF.u f) (fun ds => ds.length ≤ 30 ∧ ∀ d ∈ ds, DF.ok n w k d) (szF s) := by
  intro ns T a c room ha hc r0 r1
  unfold P_deal
  rw [e__law_dealing]
  have hm : fMin [.int 12, .int room] = fun S => some (.int (if room < 12 then room else 12), S) := rfl
  have hk : 0 ≤ (if room < 12 then room else 12) ∧ (if room < 12 then room else 12) ≤ 12 := by split <;> omega
  generalize (if room < 12 then room else 12) = mm at hm hk
  obtain ⟨f1, a1, c1, e1, p1, q1, ha1, hc1⟩ := take_ok ns (T ++ [.lst []]) (m := mm + 1) ha hc (by omega) (l9 (by omega) (by omega))
  obtain ⟨ds, ρ, a', c', G, h, k1, k2, k3, k4, k5, k6⟩ := deal_loopT ns T (room := room) (t := t) (fd := fd) (fs := fs) Hs Hd n0 n1 w0 w1 r1 (rangeU 0 f1.toNat) none none none none none room [] [] ha1 hc1 (by simp) (by simp) r0 (by simp [szF]) (by simp [szF])
  refine ⟨ds, a', c', .lst (ds.map (DF.u f)) :: G, ?_, ⟨by omega, k2⟩, k3, k4, k5, k6, k1⟩
  have hr : -(2 ^ 62) ≤ f1 ∧ f1 < 2 ^ 62 := by omega
  simp only [List.map_nil] at h
  rwa [c__law_dealing, cFor, iRange1, hm, e1, hr, h, if_true, and_self]
end
noncomputable def DealJ : Nat → Fn
  | 0 => P_deal (fun _ _ => none) fun _ _ => none
  | j + 1 => P_deal (DealJ j) (SizeJ j)
theorem dealJ_ok {n w : Int} (n0 : 1 ≤ n) (n1 : n ≤ 6) (w0 : 2 ≤ w) (w1 : w ≤ 1000) : ∀ (J j t : Nat), t ≤ j → j ≤ J → HdT n w t (DealJ J) (Dl.u j) (OkL n w j) (sizeD j)
  | 0, 0, 0, _, _ => deal_okT (k := fun _ => False) (fun _ _ z => z.elim) (fun z => absurd rfl z) n0 n1 w0 w1
  | J + 1, 0, 0, _, _ => deal_okT (k := fun _ => False) (fun _ _ z => z.elim) (fun z => absurd rfl z) n0 n1 w0 w1
  | J + 1, j + 1, 0, _, h => deal_okT (sizeJ_ok J j (by omega)) (fun z => absurd rfl z) n0 n1 w0 w1
  | J + 1, j + 1, t + 1, h, h' => deal_okT (sizeJ_ok J j (by omega)) (fun _ => by
      have e : ((t + 1 : Nat) : Int) - 1 = (t : Int) := by omega
      rw [e]; exact dealJ_ok n0 n1 w0 w1 J j t (by omega) (by omega)) n0 n1 w0 w1
end OQ
set_option maxHeartbeats 1000000
namespace OQ
open PySem PySem.Spec PyProof.Rows L2 OG OP
theorem x_ntn {x : U} {S : Sto} : fNotN x .non S = some (.bl (!isNon x), S) := rfl
theorem in_non : isNon .non = true := rfl
theorem in_tup {us : List U} : isNon (.tup us) = false := rfl
theorem in_int {i : Int} : isNon (.int i) = false := rfl
theorem sl_to {us : List U} {k : Nat} {S : Sto} (h : k < us.length) : fSl (.tup us) none (some (k : Int)) S = some (.tup (us.take k), S) := by
  have e : HT.sIx us.length us.length (some (k : Int)) = k := by rw [HT.sIx_nat]; omega
  simp only [fSl, HT.sIx_none, e, cutU, List.drop_zero, Nat.sub_zero]
  rw [if_neg (by omega)]
theorem sl_from {us : List U} {k : Nat} {S : Sto} (h0 : 0 < k) (h : k ≤ us.length) : fSl (.tup us) (some (k : Int)) none S = some (.tup (us.drop k), S) := by
  have e : HT.sIx us.length 0 (some (k : Int)) = k := by rw [HT.sIx_nat]; omega
  simp only [fSl, HT.sIx_none, e, cutU]
  rw [if_neg (by omega), List.take_of_length_le (by simp)]
noncomputable def P_with : Fn := fnU 3 3 c_with_at
theorem with_ok {us : List U} {k : Int} {v : U} {S : Sto} (k0 : 0 ≤ k) (h : k < us.length) (hl : us.length ≤ 50) : P_with [.tup us, .int k, v] S = some (.tup (us.set k.toNat v), S) := by
  unfold P_with
  rw [e_with_at]
  have ek : k = ((k.toNat : Nat) : Int) := by omega
  have hk : k.toNat < us.length := by omega
  have e1 : k + 1 = ((k.toNat + 1 : Nat) : Int) := by omega
  have a1 : fSl (.tup us) none (some k) S = some (.tup (us.take k.toNat), S) := by rw [ek]; exact sl_to hk
  have a2 : fSl (.tup us) (some (k + 1)) none S = some (.tup (us.drop (k.toNat + 1)), S) := by rw [e1]; exact sl_from (by omega) (by omega)
  have b1 : fAdd (.tup (us.take k.toNat)) (.tup [v]) S = some (.tup (us.take k.toNat ++ [v]), S) := by
    unfold fAdd; simp only; rw [if_pos (by simp; unfold LIM; omega)]
  have b2 : fAdd (.tup (us.take k.toNat ++ [v])) (.tup (us.drop (k.toNat + 1))) S = some (.tup (us.take k.toNat ++ [v] ++ us.drop (k.toNat + 1)), S) := by
    unfold fAdd; simp only; rw [if_pos (by simp; unfold LIM; omega)]
  rw [List.set_eq_take_append_cons_drop, if_pos hk]
  rwa [c_with_at, cSl, cPart, a1, a2, b1, b2]
def pt (ds : List U) (q : Int) (A B : U) : U := .tup [.tup ds, .int q, A, B]
inductive Onw : Nat → U → U → Prop
  | stop {d : Nat} {ds : List U} {q : Int} {A B : U} : q < ds.length → Onw d (pt ds q A B) (pt ds q A B)
  | top {d : Nat} {ds : List U} {q : Int} {B : U} : Onw d (pt ds q .non B) (pt ds q .non B)
  | up {d : Nat} {ds ds' : List U} {q q' : Int} {A' B B' y : U} : (ds.length : Int) ≤ q → Onw d (pt ds' q' A' B') y → Onw (d + 1) (pt ds q (pt ds' q' A' B') B) y
noncomputable def P_onw : Fn := fnU 2 1 (c_onwards 100)
theorem onw_loop {F : Nat} {d : Nat} {x y : U} {S : Sto} {r : Option U} (h : Onw d x y) : ∀ (fuel : Nat), d < fuel →
    whileU (cAnd (cTest (cOp fGe (cOp fIx (cVar 1) (cC (.int 1))) (cCB fLen (cCons (cOp fIx (cVar 1) (cC (.int 0))) cNil)))) (cTest (cOp fNotN (cOp fIx (cVar 1) (cC (.int 2))) (cC .non)))) (b_onwards_0 F) fuel [r, some x] S = some (.nx, [r, some y], S) := by
  induction h with
  | @stop d ds q A B h =>
    intro fuel hf
    obtain ⟨f, rfl⟩ : ∃ f, fuel = f + 1 := ⟨fuel - 1, by omega⟩
    have c : ¬ (ds.length : Int) ≤ q := by omega
    refine while_end ?_
    unfold pt
    rwa [c]
  | @top d ds q B =>
    intro fuel hf
    obtain ⟨f, rfl⟩ : ∃ f, fuel = f + 1 := ⟨fuel - 1, by omega⟩
    refine while_end ?_
    unfold pt
    by_cases c : (ds.length : Int) ≤ q
    · rwa [c, x_ntn, in_non]
    · rwa [c]
  | @up d ds ds' q q' A' B B' y h _ ih =>
    intro fuel hf
    obtain ⟨f, rfl⟩ : ∃ f, fuel = f + 1 := ⟨fuel - 1, by omega⟩
    refine (while_nx (ρ1 := [r, some (pt ds' q' A' B')]) (S1 := S) (S0 := S) ?_ ?_).trans (ih f (by omega))
    · unfold pt
      rwa [h, x_ntn, in_tup]
    · unfold pt
      rwa [b_onwards_0]
theorem onw_ok {d : Nat} {x y : U} {S : Sto} (h : Onw d x y) (hd : d < 100) : P_onw [x] S = some (y, S) := by
  unfold P_onw
  rw [e_onwards]
  rwa [c_onwards, onw_loop h 100 hd]
def encQ (n : Nat) (ps : List (Int × Int)) : List U := (List.range n).map fun b : Nat => ((valG ps (b : Int)).map U.int).getD .non
theorem encQ_len {n : Nat} {ps : List (Int × Int)} : (encQ n ps).length = n := by simp [encQ]
theorem encQ_at {n : Nat} {ps : List (Int × Int)} {b : Int} (b0 : 0 ≤ b) (b1 : b < n) : atI (encQ n ps) b = some (((valG ps b).map U.int).getD .non) := by
  refine atI_of b0 ?_
  unfold encQ
  rw [List.getElem?_map, List.getElem?_range (by omega)]
  have : ((b.toNat : Nat) : Int) = b := by omega
  simp [this]
theorem encQ_put {n : Nat} {ps : List (Int × Int)} {b v : Int} (b0 : 0 ≤ b) (b1 : b < n) : (encQ n ps).set b.toNat (.int v) = encQ n (putG ps b v) := by
  refine List.ext_getElem? fun i => ?_
  by_cases hi : i < n
  · rw [List.getElem?_set, encQ_len]
    unfold encQ
    rw [List.getElem?_map, List.getElem?_map, List.getElem?_range hi]
    simp only [Option.map_some, val_put]
    by_cases e : b.toNat = i
    · have : (i : Int) = b := by omega
      rw [if_pos e, if_pos (by omega), this, if_pos rfl]; rfl
    · rw [if_neg e, if_neg (by omega)]
  · rw [List.getElem?_eq_none (by rw [List.length_set, encQ_len]; omega), List.getElem?_eq_none (by rw [encQ_len]; omega)]
theorem encQ_nil {n : Nat} : encQ n [] = List.replicate n .non := by
  unfold encQ
  refine List.ext_getElem? fun i => ?_
  by_cases hi : i < n
  · rw [List.getElem?_map, List.getElem?_range hi, List.getElem?_replicate, if_pos hi]; rfl
  · rw [List.getElem?_eq_none (by simp; omega), List.getElem?_eq_none (by simp; omega)]
def dO (cD : Cl) (w : Int) (n : Nat) (m : M) (x : U) : O := .ins cD [some (.int w), some (.tup (m.hs.map U.int)), some (.tup (encQ n m.ps)), some x]
structure Cf (cD : Cl) (w : Int) (n i ll : Nat) (m : M) (x : U) (S : Sto) : Prop where
  ei : S[i]? = some (dO cD w n m x)
  el : S[ll]? = some (.dic (encL m.lk))
structure Kp (ls : List Nat) (S S' : Sto) : Prop where
  len : S'.length = S.length
  old : ∀ l, l ∉ ls → S'[l]? = S[l]?
theorem Kp.refl {ls : List Nat} {S : Sto} : Kp ls S S := ⟨rfl, fun _ _ => rfl⟩
theorem Kp.set {ls : List Nat} {S : Sto} {l : Nat} {o : O} (h : l ∈ ls) : Kp ls S (S.set l o) := ⟨by simp, fun k hk => by rw [List.getElem?_set_ne (fun z => hk (by subst z; exact h))]⟩
theorem Kp.trans {ls : List Nat} {S S' S'' : Sto} (a : Kp ls S S') (b : Kp ls S' S'') : Kp ls S S'' := ⟨b.len.trans a.len, fun l hn => by rw [b.old l hn, a.old l hn]⟩
section
variable {cD : Cl} {w : Int} {n i ll : Nat} {m : M} {x A B : U} {S : Sto} {ds : List U} {q : Int}
theorem Cf.ne (h : Cf cD w n i ll m x S) : i ≠ ll := fun z => by have a := h.ei; have b := h.el; rw [z, b] at a; cases a
theorem Cf.setI (h : Cf cD w n i ll m x S) (hs : List Int) (ps : List (Int × Int)) (y : U) : Cf cD w n i ll ⟨hs, ps, m.lk⟩ y (S.set i (dO cD w n ⟨hs, ps, m.lk⟩ y)) :=
  ⟨List.getElem?_set_self (lt_of_get h.ei), by rw [List.getElem?_set_ne h.ne]; exact h.el⟩
theorem Cf.setL (h : Cf cD w n i ll m x S) (lk : List Int) : Cf cD w n i ll ⟨m.hs, m.ps, lk⟩ x (S.set ll (.dic (encL lk))) :=
  ⟨by rw [List.getElem?_set_ne (Ne.symm h.ne)]; exact h.ei, List.getElem?_set_self (lt_of_get h.el)⟩
noncomputable def P_deed (cD : Cl) : Fn := fnU 1 1 (c_Doing_deed cD)
theorem deed_ok {u : U} (h : Cf cD w n i ll m (pt ds q A B) S) (q0 : 0 ≤ q) (hu : ds[q.toNat]? = some u) : P_deed cD [.ref i] S = some (u, S) := by
  unfold P_deed
  rw [e_Doing_deed]
  have hl := lt_of_get hu
  have c : ¬ (ds.length : Int) ≤ q := by omega
  have ha : atI ds q = some u := atI_of q0 hu
  have e := h.ei
  unfold dO pt at e
  rwa [c_Doing_deed, e, c, ha]
theorem deed_end (h : Cf cD w n i ll m (pt ds q A B) S) (hq : (ds.length : Int) ≤ q) : P_deed cD [.ref i] S = some (.non, S) := by
  unfold P_deed
  rw [e_Doing_deed]
  have e := h.ei
  unfold dO pt at e
  rwa [c_Doing_deed, e, hq]
noncomputable def P_hold (cD : Cl) : Fn := fnU 3 3 (c_Doing_hold P_with cD)
theorem hold_ok {k v : Int} (h : Cf cD w n i ll m x S) (h4 : m.hs.length = 4) (k0 : 0 ≤ k) (k1 : k < 4) : P_hold cD [.ref i, .int k, .int v] S = some (.non, S.set i (dO cD w n ⟨m.hs.set k.toNat v, m.ps, m.lk⟩ x)) := by
  unfold P_hold
  rw [e_Doing_hold]
  have e := h.ei
  unfold dO at e ⊢
  have hw := with_ok (us := m.hs.map U.int) (v := .int v) (S := S) k0 (by simp; omega) (by simp; omega)
  rw [map_set] at hw
  rwa [c_Doing_hold, e, hw]
noncomputable def P_pb (cD : Cl) : Fn := fnU 3 2 (c_Doing_part_behind cD)
theorem pb_ok {k : Int} (h : Cf cD w n i ll m (pt ds q A B) S) : P_pb cD [.ref i, .int k] S = some (pt ds (q + 1 + k) A B, S) := by
  unfold P_pb
  rw [e_Doing_part_behind]
  have e := h.ei
  unfold dO pt at e
  unfold pt
  rwa [c_Doing_part_behind, e]
noncomputable def P_gb (cD : Cl) : Fn := fnU 2 2 (c_Doing_go_behind P_onw (P_pb cD) cD)
theorem gb_ok {k : Int} {d : Nat} {y : U} (h : Cf cD w n i ll m (pt ds q A B) S) (ho : Onw d (pt ds (q + 1 + k) A B) y) (hd : d < 100) : P_gb cD [.ref i, .int k] S = some (.non, S.set i (dO cD w n m y)) := by
  unfold P_gb
  rw [e_Doing_go_behind]
  have e := h.ei
  have ep := pb_ok (k := k) h
  have eo := onw_ok (S := S) ho hd
  unfold dO at e ⊢
  rwa [c_Doing_go_behind, e, ep, eo]
noncomputable def P_hear (cD : Cl) : Fn := fnU 2 2 (c_Doing_hear (P_hold cD) (P_deed cD) (P_gb cD) cD)
theorem hear_ok {g b v : Int} {d : Nat} {y : U} (h : Cf cD w n i ll m (pt ds q A B) S) (h4 : m.hs.length = 4) (q0 : 0 ≤ q) (hu : ds[q.toNat]? = some (Deed.u (.look g b))) (g0 : 0 ≤ g) (g1 : g < 4) (ho : Onw d (pt ds (q + 1 + 0) A B) y) (hd : d < 100) :
    P_hear cD [.ref i, .int v] S = some (.non, S.set i (dO cD w n ⟨m.hs.set g.toNat v, m.ps, m.lk⟩ y)) := by
  unfold P_hear
  rw [e_Doing_hear]
  have e := h.ei
  have ed := deed_ok h q0 hu
  have eh := hold_ok (v := v) h h4 g0 g1
  have h2 := h.setI (m.hs.set g.toNat v) m.ps (pt ds q A B)
  have e2 := h2.ei
  have eg := gb_ok h2 ho hd
  unfold dO at e e2 eh eg ⊢
  rw [List.set_set] at eg
  unfold Deed.u at ed
  rwa [c_Doing_hear, e, ed, eh, e2, eg]
noncomputable def P_back (cD : Cl) : Fn := fnU 2 1 (c_Doing_goes_back cD)
theorem back_none (h : Cf cD w n i ll m (pt ds q A .non) S) : P_back cD [.ref i] S = some (.bl false, S) := by
  unfold P_back
  rw [e_Doing_goes_back]
  have e := h.ei
  unfold dO pt at e
  rwa [c_Doing_goes_back, e, x_isn, in_non]
def bk (n : Nat) (hs : List Int) (ps : List (Int × Int)) (y : U) : U := .tup [.tup (hs.map U.int), .tup (encQ n ps), y]
theorem back_some {hs : List Int} {ps : List (Int × Int)} {y : U} (h : Cf cD w n i ll m (pt ds q A (bk n hs ps y)) S) : P_back cD [.ref i] S = some (.bl true, S.set i (dO cD w n ⟨hs, ps, m.lk⟩ y)) := by
  unfold P_back
  rw [e_Doing_goes_back]
  have l := lt_of_get h.ei
  have e := h.ei
  unfold dO pt bk at e
  unfold dO
  have g : ∀ o : O, (S.set i o)[i]? = some o := fun o => List.getElem?_set_self l
  rwa [c_Doing_goes_back, e, x_isn, in_tup, g, List.set_set]
noncomputable def P_enter (cD : Cl) : Fn := fnU 5 3 (c_Doing_enter_try P_onw (P_pb cD) cD)
theorem enter_ok {a b : List U} {d d' : Nat} {y z : U} (h : Cf cD w n i ll m (pt ds q A B) S) (ho : Onw d (pt b 0 (pt ds (q + 1 + 0) A B) B) z) (hd : d < 100)
    (ho' : Onw d' (pt a 0 (pt ds (q + 1 + 0) A B) (bk n m.hs m.ps z)) y) (hd' : d' < 100) : P_enter cD [.ref i, .tup a, .tup b] S = some (.non, S.set i (dO cD w n m y)) := by
  unfold P_enter
  rw [e_Doing_enter_try]
  have e := h.ei
  have ep := pb_ok (k := 0) h
  have e1 := onw_ok (S := S) ho hd
  have e2 := onw_ok (S := S) ho' hd'
  unfold dO at e ⊢
  unfold pt at ep e1 e2 e
  unfold bk at e2
  rwa [c_Doing_enter_try, e, ep, e1, e2]
end
end OQ
set_option maxHeartbeats 1000000
namespace OQ
open PySem PySem.Spec PyProof.Rows L2 OG OP
def lv (m : M) : Deed → Int
  | .leap h k => if m.hs.getD h.toNat 0 = 0 then k else 0
  | _ => 0
section
variable {cD : Cl} {w n : Int} {first : List Int} {i ll : Nat} {m : M} {A B : U} {S : Sto} {ds : List U} {q : Int} {r3 : Option U} {F : Nat}
noncomputable def P_asks (cD : Cl) : Fn := fnU 2 1 (c_Doing_asks (P_deed cD) cD)
theorem asks_no {x : Str} {r : List U} (h : Cf cD w n.toNat i ll m (pt ds q A B) S) (q0 : 0 ≤ q) (hu : ds[q.toNat]? = some (.tup (.str x :: r))) (hx : decide (x = ("look" : Str)) = false) : P_asks cD [.ref i] S = some (.bl false, S) := by
  unfold P_asks
  rw [e_Doing_asks]
  have e := h.ei
  have ed := deed_ok h q0 hu
  unfold dO at e
  rwa [c_Doing_asks, e, ed, hx]
theorem asks_look {g b : Int} (h : Cf cD w n.toNat i ll m (pt ds q A B) S) (q0 : 0 ≤ q) (hu : ds[q.toNat]? = some (Deed.u (.look g b))) (b0 : 0 ≤ b) (b1 : b < n) : P_asks cD [.ref i] S = some (.bl (!(valG m.ps b).isSome), S) := by
  unfold P_asks
  rw [e_Doing_asks]
  have e := h.ei
  have ed := deed_ok h q0 hu
  have ea := encQ_at (n := n.toNat) (ps := m.ps) b0 (by omega)
  have ei : isNon (((valG m.ps b).map U.int).getD .non) = !(valG m.ps b).isSome := by cases valG m.ps b <;> rfl
  unfold dO at e
  unfold Deed.u at ed
  rwa [c_Doing_asks, e, ed, ea, x_isn, ei, SNX]
noncomputable def P_do (cD : Cl) : Fn := fnU 4 1 (c_Doing_do_deed P_with (P_deed cD) (P_back cD) (P_enter cD) (P_hold cD) (P_gb cD) cD)
theorem do_wait (h : Cf cD w n.toNat i ll m (pt ds q A B) S) (q0 : 0 ≤ q) (hu : ds[q.toNat]? = some (Deed.u .wait)) {r : U × Sto} (hb : P_back cD [.ref i] S = some r) : P_do cD [.ref i] S = some r := by
  unfold P_do
  rw [e_Doing_do_deed]
  have e := h.ei
  have ed := deed_ok h q0 hu
  unfold dO at e
  unfold Deed.u at ed
  obtain ⟨u, S'⟩ := r
  rwa [c_Doing_do_deed, e, ed, hb, SNX]
theorem do_try {a b : List U} {d d' : Nat} {y z : U} (h : Cf cD w n.toNat i ll m (pt ds q A B) S) (q0 : 0 ≤ q) (hu : ds[q.toNat]? = some (.tup [.str "try", .tup a, .tup b])) (ho : Onw d (pt b 0 (pt ds (q + 1 + 0) A B) B) z) (hd : d < 100)
    (ho' : Onw d' (pt a 0 (pt ds (q + 1 + 0) A B) (bk n.toNat m.hs m.ps z)) y) (hd' : d' < 100) : P_do cD [.ref i] S = some (.bl true, S.set i (dO cD w n.toNat m y)) := by
  unfold P_do
  rw [e_Doing_do_deed]
  have e := h.ei
  have ed := deed_ok h q0 hu
  have en := enter_ok h ho hd ho' hd'
  unfold dO at e en ⊢
  rwa [c_Doing_do_deed, e, ed, en, SNX]
theorem do_plain {d : Deed} {dd : Nat} {y : U} (nw : d ≠ .wait) (h : Cf cD w n.toNat i ll m (pt ds q A B) S) (wf : Wf n m) (w0 : 2 ≤ w) (n1 : n ≤ 6) (od : d.ok n w) (q0 : 0 ≤ q) (hu : ds[q.toNat]? = some d.u) (ha : ∀ g b, d = .look g b → (valG m.ps b).isSome = true) (ho : Onw dd (pt ds (q + 1 + lv m d) A B) y) (hd : dd < 100) :
    P_do cD [.ref i] S = some (.bl true, S.set i (dO cD w n.toNat (step w first m d) y)) := by
  unfold P_do
  rw [e_Doing_do_deed]
  have e := h.ei
  have ed := deed_ok h q0 hu
  have h4 := wf.h4
  cases d with
  | wait => exact absurd rfl nw
  | look g b =>
    obtain ⟨g0, g1, b0, b1⟩ := od
    obtain ⟨v, hv⟩ := Option.isSome_iff_exists.mp (ha g b rfl)
    have ea := encQ_at (n := n.toNat) (ps := m.ps) b0 (by omega)
    rw [hv, Option.map_some, Option.getD_some] at ea
    have eh := hold_ok (v := v) h h4 g0 g1
    have h2 := h.setI (m.hs.set g.toNat v) m.ps (pt ds q A B)
    have e2 := h2.ei
    have eg := gb_ok h2 ho hd
    unfold dO at e e2 eh eg ⊢
    rw [List.set_set] at eg
    unfold Deed.u at ed
    simp only [step, lookV, hv, Option.getD_some, Option.isSome_some, if_true]
    simp only [lv] at eg
    rwa [c_Doing_do_deed, e, ed, ea, eh, e2, eg, SNX]
  | put b g =>
    obtain ⟨g0, g1, b0, b1⟩ := od
    have hw := with_ok (us := encQ n.toNat m.ps) (v := .int (m.hs.getD g.toNat 0)) (S := S) b0 (by rw [encQ_len]; omega) (by rw [encQ_len]; omega)
    rw [encQ_put b0 (by omega)] at hw
    have h2 := h.setI m.hs (putG m.ps b (m.hs.getD g.toNat 0)) (pt ds q A B)
    have e2 := h2.ei
    have eg := gb_ok h2 ho hd
    unfold dO at e e2 eg ⊢
    rw [List.set_set] at eg
    unfold Deed.u at ed
    simp only [lv] at eg
    simp only [step]
    rwa [c_Doing_do_deed, e, ed, at4 h4 g0 g1, hw, e2, eg, SNX]
  | set g v =>
    obtain ⟨g0, g1, b0, b1⟩ := od
    have eh := hold_ok (v := v) h h4 g0 g1
    have h2 := h.setI (m.hs.set g.toNat v) m.ps (pt ds q A B)
    have e2 := h2.ei
    have eg := gb_ok h2 ho hd
    unfold dO at e e2 eh eg ⊢
    rw [List.set_set] at eg
    unfold Deed.u at ed
    simp only [lv] at eg
    simp only [step]
    rwa [c_Doing_do_deed, e, ed, eh, e2, eg, SNX]
  | plus g k =>
    obtain ⟨g0, g1, b0, b1⟩ := od
    have eh := hold_ok (v := (m.hs.getD g.toNat 0 + m.hs.getD k.toNat 0) % w) h h4 g0 g1
    have h2 := h.setI (m.hs.set g.toNat ((m.hs.getD g.toNat 0 + m.hs.getD k.toNat 0) % w)) m.ps (pt ds q A B)
    have e2 := h2.ei
    have eg := gb_ok h2 ho hd
    unfold dO at e e2 eh eg ⊢
    rw [List.set_set] at eg
    unfold Deed.u at ed
    simp only [lv] at eg
    simp only [step]
    rwa [c_Doing_do_deed, e, ed, at4 h4 g0 g1, at4 h4 b0 b1, x_mod (show 0 < w by omega), eh, e2, eg, SNX]
  | leap g k =>
    obtain ⟨g0, g1, b0, b1⟩ := od
    have eg := gb_ok h ho hd
    unfold dO at e eg ⊢
    unfold Deed.u at ed
    simp only [step]
    simp only [lv] at eg
    by_cases z : m.hs.getD g.toNat 0 = 0
    · rw [if_pos z] at eg
      rwa [c_Doing_do_deed, e, ed, at4 h4 g0 g1, z, eg, SNX]
    · rw [if_neg z] at eg
      rwa [c_Doing_do_deed, e, ed, at4 h4 g0 g1, z, eg, SNX]
noncomputable abbrev bG (cD : Cl) (F : Nat) : CS := b_goes_through_0 (P_deed cD) (P_asks cD) (P_hear cD) (P_do cD) cD F
theorem u_head (d : Deed) : ∃ x r, d.u = .tup (.str x :: r) := by cases d <;> exact ⟨_, _, rfl⟩
theorem it_plain {d : Deed} {dd : Nat} {y : U} (nw : d ≠ .wait) (h : Cf cD w n.toNat i ll m (pt ds q A B) S) (wf : Wf n m) (lf : first.length = n.toNat) (w0 : 2 ≤ w) (n0 : 0 ≤ n) (n1 : n ≤ 6) (od : d.ok n w) (q0 : 0 ≤ q) (hu : ds[q.toNat]? = some d.u) (ho : Onw dd (pt ds (q + 1 + lv m d) A B) y) (hd : dd < 100) :
    ∃ r3' S', bG cD F [some (.ref i), some (.tup (first.map U.int)), some (.ref ll), r3] S = some (.nx, [some (.ref i), some (.tup (first.map U.int)), some (.ref ll), r3'], S') ∧ Cf cD w n.toNat i ll (step w first m d) y S' ∧ Kp [i, ll] S S' := by
  have e := h.ei
  have go : (∀ g b, d = .look g b → (valG m.ps b).isSome = true) → P_asks cD [.ref i] S = some (.bl false, S) → (step w first m d).lk = m.lk → ∃ r3' S', bG cD F [some (.ref i), some (.tup (first.map U.int)), some (.ref ll), r3] S = some (.nx, [some (.ref i), some (.tup (first.map U.int)), some (.ref ll), r3'], S') ∧ Cf cD w n.toNat i ll (step w first m d) y S' ∧ Kp [i, ll] S S' := by
    intro ha hk hl
    have ed := do_plain (first := first) nw h wf w0 n1 od q0 hu ha ho hd
    refine ⟨r3, _, ?_, ⟨List.getElem?_set_self (lt_of_get h.ei), by rw [List.getElem?_set_ne h.ne, hl]; exact h.el⟩, .set (by simp)⟩
    unfold dO at e
    rwa [bG, b_goes_through_0, e, hk, ed]
  have other : ∀ x r, d.u = .tup (.str x :: r) → decide (x = ("look" : Str)) = false → P_asks cD [.ref i] S = some (.bl false, S) := fun x r e1 e2 => asks_no h q0 (by rw [hu, e1]) e2
  cases d with
  | wait => exact absurd rfl nw
  | put b g => exact go (by intro _ _ z; cases z) (other _ _ rfl (by decide +kernel)) rfl
  | set b g => exact go (by intro _ _ z; cases z) (other _ _ rfl (by decide +kernel)) rfl
  | plus b g => exact go (by intro _ _ z; cases z) (other _ _ rfl (by decide +kernel)) rfl
  | leap b g => exact go (by intro _ _ z; cases z) (other _ _ rfl (by decide +kernel)) rfl
  | look g b =>
    obtain ⟨g0, g1, b0, b1⟩ := id od
    have hk := asks_look h q0 hu b0 b1
    cases hv : valG m.ps b with
    | some v =>
      rw [hv] at hk
      exact go (by intro _ _ z; cases z; rw [hv]; rfl) hk (by simp [step, hv])
    | none =>
      rw [hv] at hk
      have h2 := h.setL (addL m.lk b)
      have ed := deed_ok h q0 hu
      have eh := hear_ok (v := first.getD b.toNat 0) h2 wf.h4 q0 hu g0 g1 ho hd
      have h3 := h2.setI (m.hs.set g.toNat (first.getD b.toNat 0)) m.ps y
      have e2 := h2.ei
      have es : step w first m (.look g b) = ⟨m.hs.set g.toNat (first.getD b.toNat 0), m.ps, addL m.lk b⟩ := by simp [step, lookV, hv]
      rw [es]
      refine ⟨some (.int b), _, ?_, h3, (Kp.set (by simp)).trans (.set (by simp))⟩
      have fl : (encL m.lk).length < LIM := by have := (wf.few n0 n1).2; unfold encL LIM; simp; omega
      unfold dO at e e2
      unfold Deed.u at ed
      simp only [Option.isSome_none] at hk
      rwa [bG, b_goes_through_0, e, hk, ed, h.el, put_encL, fl, if_true, e2, atF lf b0 b1, eh]
theorem it_try {a b : List U} {d d' : Nat} {y z : U} (h : Cf cD w n.toNat i ll m (pt ds q A B) S) (q0 : 0 ≤ q) (hu : ds[q.toNat]? = some (.tup [.str "try", .tup a, .tup b])) (ho : Onw d (pt b 0 (pt ds (q + 1 + 0) A B) B) z) (hd : d < 100)
    (ho' : Onw d' (pt a 0 (pt ds (q + 1 + 0) A B) (bk n.toNat m.hs m.ps z)) y) (hd' : d' < 100) :
    ∃ S', bG cD F [some (.ref i), some (.tup (first.map U.int)), some (.ref ll), r3] S = some (.nx, [some (.ref i), some (.tup (first.map U.int)), some (.ref ll), r3], S') ∧ Cf cD w n.toNat i ll m y S' ∧ Kp [i, ll] S S' := by
  have e := h.ei
  have hk := asks_no h q0 hu (by decide +kernel)
  have ed := do_try h q0 hu ho hd ho' hd'
  refine ⟨_, ?_, h.setI m.hs m.ps y, .set (by simp)⟩
  unfold dO at e
  rwa [bG, b_goes_through_0, e, hk, ed]
theorem it_back {hs : List Int} {ps : List (Int × Int)} {y : U} (h : Cf cD w n.toNat i ll m (pt ds q A (bk n.toNat hs ps y)) S) (q0 : 0 ≤ q) (hu : ds[q.toNat]? = some (Deed.u .wait)) :
    ∃ S', bG cD F [some (.ref i), some (.tup (first.map U.int)), some (.ref ll), r3] S = some (.nx, [some (.ref i), some (.tup (first.map U.int)), some (.ref ll), r3], S') ∧ Cf cD w n.toNat i ll ⟨hs, ps, m.lk⟩ y S' ∧ Kp [i, ll] S S' := by
  have e := h.ei
  have hk := asks_no h q0 hu (by decide +kernel)
  have ed := do_wait h q0 hu (back_some h)
  refine ⟨_, ?_, h.setI hs ps y, .set (by simp)⟩
  unfold dO at e
  rwa [bG, b_goes_through_0, e, hk, ed]
theorem it_wait (h : Cf cD w n.toNat i ll m (pt ds q A .non) S) (q0 : 0 ≤ q) (hu : ds[q.toNat]? = some (Deed.u .wait)) :
    bG cD F [some (.ref i), some (.tup (first.map U.int)), some (.ref ll), r3] S = some (.rt (.bl false), [some (.ref i), some (.tup (first.map U.int)), some (.ref ll), r3], S) := by
  have e := h.ei
  have hk := asks_no h q0 hu (by decide +kernel)
  have ed := do_wait h q0 hu (back_none h)
  unfold dO at e
  rwa [bG, b_goes_through_0, e, hk, ed]
end
end OQ
set_option maxHeartbeats 1000000
namespace OQ
open PySem PySem.Spec PyProof.Rows L2 OG OP
def OnA (dep : Nat) (ds : List U) (A B : U) : Prop := ∀ p : Int, (ds.length : Int) ≤ p → ∃ y, Onw dep (pt ds p A B) y
theorem OnA.any {dep : Nat} {ds : List U} {A B : U} (h : OnA dep ds A B) (p : Int) : ∃ y, Onw dep (pt ds p A B) y := by
  by_cases c : p < ds.length
  · exact ⟨_, .stop c⟩
  · exact h p (by omega)
theorem OnA.top {dep : Nat} {ds : List U} {B : U} : OnA dep ds .non B := fun p _ => ⟨_, .top⟩
theorem OnA.up {dep : Nat} {ds ds' : List U} {q' : Int} {A' B B' y : U} (h : Onw dep (pt ds' q' A' B') y) : OnA (dep + 1) ds (pt ds' q' A' B') B := fun p hp => ⟨y, .up hp h⟩
theorem Onw.here {dep : Nat} {ds : List U} {q : Int} {A B x : U} (h : Onw dep (pt ds q A B) x) (c : q < ds.length) : x = pt ds q A B := by
  generalize e : pt ds q A B = z at h
  cases h with
  | stop _ => rfl
  | top => rfl
  | up h' _ =>
    unfold pt at e
    injection e with e
    injection e with e1 e2
    injection e1 with e1
    injection e2 with e2 _
    injection e2 with e2
    subst e1 e2
    omega
theorem Onw.upInv {dep : Nat} {ds ds' : List U} {q q' : Int} {A' B B' x : U} (h : Onw (dep + 1) (pt ds q (pt ds' q' A' B') B) x) (c : (ds.length : Int) ≤ q) : Onw dep (pt ds' q' A' B') x := by
  generalize e : pt ds q (pt ds' q' A' B') B = z at h
  generalize e0 : dep + 1 = k at h
  cases h with
  | stop h' =>
    unfold pt at e
    injection e with e
    injection e with e1 e2
    injection e1 with e1
    injection e2 with e2 _
    injection e2 with e2
    subst e1 e2
    omega
  | top =>
    unfold pt at e
    injection e with e
    injection e with _ e
    injection e with _ e
    injection e with e _
    cases e
  | up h' h2 =>
    unfold pt at e
    injection e with e
    injection e with _ e
    injection e with _ e
    injection e with e _
    injection e with e
    injection e with e1 e
    injection e1 with e1
    injection e with e2 e
    injection e2 with e2
    injection e with e3 e
    injection e with e4 _
    subst e1 e2 e3 e4
    cases e0
    exact h2
section
variable {cD : Cl} {w n : Int} {first : List Int} {i ll F : Nat}
noncomputable abbrev tG (cD : Cl) : CT := cTest (cOp fNotN (cMeth cD (P_deed cD) (cVar 0) cNil) (cC .non))
theorem test_go {m : M} {ds us : List U} {q : Int} {A B : U} {S : Sto} {ρ : Rho} (h : Cf cD w n.toNat i ll m (pt ds q A B) S) (q0 : 0 ≤ q) (hu : ds[q.toNat]? = some (.tup us)) : tG cD (some (.ref i) :: ρ) S = some (true, S) := by
  have e := h.ei
  have ed := deed_ok h q0 hu
  unfold dO at e
  rwa [tG, e, ed, x_ntn, in_tup]
theorem test_end {m : M} {ds : List U} {q : Int} {A B : U} {S : Sto} {ρ : Rho} (h : Cf cD w n.toNat i ll m (pt ds q A B) S) (hq : (ds.length : Int) ≤ q) : tG cD (some (.ref i) :: ρ) S = some (false, S) := by
  have e := h.ei
  have ed := deed_end h hq
  unfold dO at e
  rwa [tG, e, ed, x_ntn, in_non]
abbrev envG (first : List Int) (i ll : Nat) (r3 : Option U) : Rho := [some (.ref i), some (.tup (first.map U.int)), some (.ref ll), r3]
def Rch (cD : Cl) (F : Nat) (first : List Int) (i ll s : Nat) (S S' : Sto) : Prop := ∀ r3, ∃ r3', ∀ fuel, whileU (tG cD) (bG cD F) (fuel + s) (envG first i ll r3) S = whileU (tG cD) (bG cD F) fuel (envG first i ll r3') S'
theorem Rch.refl {S : Sto} : Rch cD F first i ll 0 S S := fun r3 => ⟨r3, fun _ => rfl⟩
theorem Rch.trans {s t : Nat} {S S' S'' : Sto} (a : Rch cD F first i ll s S S') (b : Rch cD F first i ll t S' S'') : Rch cD F first i ll (s + t) S S'' := fun r3 => by
  obtain ⟨r4, ha⟩ := a r3
  obtain ⟨r5, hb⟩ := b r4
  exact ⟨r5, fun fuel => by rw [show fuel + (s + t) = fuel + t + s by omega, ha, hb]⟩
theorem Rch.one {S S' : Sto} (ht : ∀ r3, tG cD (envG first i ll r3) S = some (true, S)) (h : ∀ r3, ∃ r3', bG cD F (envG first i ll r3) S = some (.nx, envG first i ll r3', S')) : Rch cD F first i ll 1 S S' := fun r3 => by
  obtain ⟨r4, h⟩ := h r3
  exact ⟨r4, fun fuel => while_nx (ht r3) h⟩
def AtW (B x : U) : Prop := ∃ ds q A, x = pt ds q A B ∧ 0 ≤ q ∧ ds[q.toNat]? = some (Deed.u .wait)
def EndR (dep : Nat) (ds : List U) (A B x : U) : Bool → Prop
  | true => ∃ p : Int, (ds.length : Int) ≤ p ∧ Onw dep (pt ds p A B) x
  | false => AtW B x
def HrT {α : Type} (cD : Cl) (F : Nat) (w n : Int) (first : List Int) (i ll D c : Nat) (rn : List α → M → Bool × M) (f : α → U) (k : List α → Prop) : Prop :=
  ∀ (a : List α) (m : M) (dep : Nat) (A B x : U) (S : Sto), k a → Wf n m → dep ≤ D → OnA dep (a.map f) A B → Onw dep (pt (a.map f) 0 A B) x → Cf cD w n.toNat i ll m x S →
    Wf n (rn a m).2 ∧ ∃ s x' S', s ≤ c ∧ Cf cD w n.toNat i ll (rn a m).2 x' S' ∧ Kp [i, ll] S S' ∧ Rch cD F first i ll s S S' ∧ EndR dep (a.map f) A B x' (rn a m).1
variable {α : Type} {rn : List α → M → Bool × M} {f : α → U} {k : List α → Prop} {D c : Nat}
theorem run_list (Hr : HrT cD F w n first i ll (D + 1) c rn f k) (hD : D ≤ 90) (lf : first.length = n.toNat) (w0 : 2 ≤ w) (n0 : 0 ≤ n) (n1 : n ≤ 6) (all : List (DF α)) (oa : ∀ d ∈ all, d.ok n w k) {dep : Nat} {A B : U} (hdep : dep ≤ D) (hA : OnA dep (all.map (DF.u f)) A B) :
    ∀ (N place : Nat) (m : M) (x : U) (S : Sto), all.length - place ≤ N → Wf n m → Onw dep (pt (all.map (DF.u f)) place A B) x → Cf cD w n.toNat i ll m x S →
    Wf n (runF w first rn (all.drop place) 0 m).2 ∧ ∃ s x' S', s ≤ N * (2 * c + 2) ∧ Cf cD w n.toNat i ll (runF w first rn (all.drop place) 0 m).2 x' S' ∧ Kp [i, ll] S S' ∧ Rch cD F first i ll s S S' ∧ EndR dep (all.map (DF.u f)) A B x' (runF w first rn (all.drop place) 0 m).1 := by
  intro N
  induction N with
  | zero =>
    intro place m x S hN wf ho h
    rw [List.drop_eq_nil_of_le (by omega), runF]
    exact ⟨wf, 0, x, S, Nat.zero_le _, h, .refl, .refl, (place : Int), by simp; omega, ho⟩
  | succ N ih =>
    intro place m x S hN wf ho h
    by_cases cl : place < all.length
    case neg =>
      rw [List.drop_eq_nil_of_le (by omega), runF]
      exact ⟨wf, 0, x, S, Nat.zero_le _, h, .refl, .refl, (place : Int), by simp; omega, ho⟩
    have hd := List.getElem?_eq_getElem cl
    have od := oa _ (List.getElem_mem cl)
    generalize all[place] = d at hd od
    rw [drop_cons hd]
    have hx := ho.here (by simp; omega)
    subst hx
    have hu : (all.map (DF.u f))[(place : Int).toNat]? = some (d.u f) := by rw [Int.toNat_natCast, List.getElem?_map, hd]; rfl
    have q0 : (0 : Int) ≤ place := by omega
    have c2 : (N + 1) * (2 * c + 2) = N * (2 * c + 2) + (2 * c + 2) := by rw [Nat.succ_mul]
    have goon : ∀ (p : Nat) (m' : M) (x' : U) (s1 : Nat) (S1 : Sto), place < p → Wf n m' → Onw dep (pt (all.map (DF.u f)) p A B) x' → Cf cD w n.toNat i ll m' x' S1 → Kp [i, ll] S S1 → s1 ≤ 2 * c + 2 → Rch cD F first i ll s1 S S1 →
        Wf n (runF w first rn (all.drop p) 0 m').2 ∧ ∃ s x' S', s ≤ (N + 1) * (2 * c + 2) ∧ Cf cD w n.toNat i ll (runF w first rn (all.drop p) 0 m').2 x' S' ∧ Kp [i, ll] S S' ∧ Rch cD F first i ll s S S' ∧ EndR dep (all.map (DF.u f)) A B x' (runF w first rn (all.drop p) 0 m').1 := by
      intro p m' x' s1 S1 hp wf1 ho1 h1 k1 l1 r1
      obtain ⟨wf2, s2, x2, S2, l2, h2, k2, r2, e2⟩ := ih p m' x' S1 (by omega) wf1 ho1 h1
      exact ⟨wf2, s1 + s2, x2, S2, by omega, h2, k1.trans k2, r1.trans r2, e2⟩
    cases d with
    | pl d =>
      by_cases dw : d = .wait
      · subst dw
        rw [runF]
        exact ⟨wf, 0, _, S, Nat.zero_le _, h, .refl, .refl, _, _, _, rfl, q0, hu⟩
      · have lv0 : 0 ≤ lv m d := by
          cases d <;> simp only [lv] <;> try exact Int.le_refl _
          obtain ⟨_, _, b, _⟩ := od
          split <;> omega
        obtain ⟨y, hy⟩ := hA.any ((place : Int) + 1 + lv m d)
        have e1 : (place : Int) + 1 + lv m d = ((place + 1 + (lv m d).toNat : Nat) : Int) := by omega
        have one : ∃ S1, Rch cD F first i ll 1 S S1 ∧ Cf cD w n.toNat i ll (step w first m d) y S1 ∧ Kp [i, ll] S S1 := by
          obtain ⟨_, S1, e0, h1, k1⟩ := it_plain (F := F) (r3 := none) dw h wf lf w0 n0 n1 od q0 hu hy (by omega)
          refine ⟨S1, .one (fun r3 => ?_) (fun r3 => ?_), h1, k1⟩
          · obtain ⟨x0, r0, ex⟩ := u_head d
            exact test_go h q0 (by rw [hu]; simp only [DF.u]; rw [ex])
          · obtain ⟨r4, S2, e2, h2, k2⟩ := it_plain (F := F) (r3 := r3) dw h wf lf w0 n0 n1 od q0 hu hy (by omega)
            have es : S2 = S1 := by
              refine List.ext_getElem? fun l => ?_
              by_cases z1 : l = i
              · subst z1; rw [h2.ei, h1.ei]
              · by_cases z2 : l = ll
                · subst z2; rw [h2.el, h1.el]
                · rw [k2.old l (by simp [z1, z2]), k1.old l (by simp [z1, z2])]
            exact ⟨r4, by rw [e2, es]⟩
        obtain ⟨S1, r1, h1, k1⟩ := one
        have er : runF w first rn (.pl d :: all.drop (place + 1)) 0 m = runF w first rn (all.drop (place + 1 + (lv m d).toNat)) 0 (step w first m d) := by
          cases d with
          | wait => exact absurd rfl dw
          | leap g j =>
            rw [runF, runF_skip, List.drop_drop]
            simp only [lv, step]
            split <;> simp
          | look g b => rw [runF]; simp [lv]
          | put g b => rw [runF]; simp [lv]
          | set g b => rw [runF]; simp [lv]
          | plus g b => rw [runF]; simp [lv]
        rw [er]
        rw [e1] at hy
        exact goon _ _ y 1 S1 (by omega) (step_wf wf od) hy h1 k1 (by omega) r1
    | tr a b =>
      obtain ⟨ka, kb⟩ := od
      simp only [DF.u] at hu
      obtain ⟨yb, hyb⟩ := hA.any ((place : Int) + 1 + 0)
      have onb : ∀ (ds : List U) (B' : U), OnA (dep + 1) ds (pt (all.map (DF.u f)) ((place : Int) + 1 + 0) A B) B' := fun ds B' => .up hyb
      obtain ⟨z, hz⟩ := (onb (b.map f) B).any 0
      obtain ⟨y, hy⟩ := (onb (a.map f) (bk n.toNat m.hs m.ps z)).any 0
      have e1 : (place : Int) + 1 + 0 = ((place + 1 : Nat) : Int) := by omega
      have one : ∃ S1, Rch cD F first i ll 1 S S1 ∧ Cf cD w n.toNat i ll m y S1 ∧ Kp [i, ll] S S1 := by
        obtain ⟨S1, e0, h1, k1⟩ := it_try (F := F) (first := first) (r3 := none) h q0 hu hz (by omega) hy (by omega)
        refine ⟨S1, .one (fun r3 => test_go h q0 hu) (fun r3 => ?_), h1, k1⟩
        obtain ⟨S2, e2, h2, k2⟩ := it_try (F := F) (first := first) (r3 := r3) h q0 hu hz (by omega) hy (by omega)
        have es : S2 = S1 := by
          refine List.ext_getElem? fun l => ?_
          by_cases z1 : l = i
          · subst z1; rw [h2.ei, h1.ei]
          · by_cases z2 : l = ll
            · subst z2; rw [h2.el, h1.el]
            · rw [k2.old l (by simp [z1, z2]), k1.old l (by simp [z1, z2])]
        exact ⟨r3, by rw [e2, es]⟩
      obtain ⟨S1, r1, h1, k1⟩ := one
      obtain ⟨wf2, s2, x2, S2, l2, h2, k2, r2, e2⟩ := Hr a m (dep + 1) _ _ y S1 ka wf (by omega) (onb _ _) hy h1
      rw [runF]
      unfold tryF
      cases er : rn a m with
      | mk t m' =>
        rw [er] at wf2 h2 e2
        cases t with
        | true =>
          obtain ⟨p, hp, hp2⟩ := e2
          have := hp2.upInv hp
          rw [e1] at this
          exact goon (place + 1) m' x2 (1 + s2) S2 (by omega) wf2 this h2 (k1.trans k2) (by omega) (r1.trans r2)
        | false =>
          obtain ⟨ds', q', A', rfl, q0', hw⟩ := e2
          have back : ∃ S3, Rch cD F first i ll 1 S2 S3 ∧ Cf cD w n.toNat i ll ⟨m.hs, m.ps, m'.lk⟩ z S3 ∧ Kp [i, ll] S2 S3 := by
            obtain ⟨S3, e0, h3, k3⟩ := it_back (F := F) (first := first) (r3 := none) h2 q0' hw
            refine ⟨S3, .one (fun r3 => test_go h2 q0' hw) (fun r3 => ?_), h3, k3⟩
            obtain ⟨S4, e4, h4, k4⟩ := it_back (F := F) (first := first) (r3 := r3) h2 q0' hw
            have es : S4 = S3 := by
              refine List.ext_getElem? fun l => ?_
              by_cases z1 : l = i
              · subst z1; rw [h4.ei, h3.ei]
              · by_cases z2 : l = ll
                · subst z2; rw [h4.el, h3.el]
                · rw [k4.old l (by simp [z1, z2]), k3.old l (by simp [z1, z2])]
            exact ⟨r3, by rw [e4, es]⟩
          obtain ⟨S3, r3, h3, k3⟩ := back
          obtain ⟨wf4, s4, x4, S4, l4, h4, k4, r4, e4⟩ := Hr b ⟨m.hs, m.ps, m'.lk⟩ (dep + 1) _ _ z S3 kb ⟨wf.h4, wf.pk, wf.pb, wf2.lk, wf2.lb⟩ (by omega) (onb _ _) hz h3
          have kk := ((k1.trans k2).trans k3).trans k4
          have rr := ((r1.trans r2).trans r3).trans r4
          simp only
          cases er2 : rn b ⟨m.hs, m.ps, m'.lk⟩ with
          | mk t2 m2 =>
            rw [er2] at wf4 h4 e4
            cases t2 with
            | true =>
              obtain ⟨p, hp, hp2⟩ := e4
              have := hp2.upInv hp
              rw [e1] at this
              exact goon (place + 1) m2 x4 (1 + s2 + 1 + s4) S4 (by omega) wf4 this h4 kk (by omega) rr
            | false => exact ⟨wf4, 1 + s2 + 1 + s4, x4, S4, by omega, h4, kk, rr, e4⟩
theorem run_df (Hr : HrT cD F w n first i ll (D + 1) c rn f k) (hD : D ≤ 90) (lf : first.length = n.toNat) (w0 : 2 ≤ w) (n0 : 0 ≤ n) (n1 : n ≤ 6) : HrT cD F w n first i ll D (30 * (2 * c + 2)) (fun ds m => runF w first rn ds 0 m) (DF.u f) (fun ds => ds.length ≤ 30 ∧ ∀ d ∈ ds, DF.ok n w k d) := by
  intro a m dep A B x S ka wf hdep hA ho h
  exact run_list Hr hD lf w0 n0 n1 a ka.2 hdep hA 30 0 m x S (by omega) wf ho h
def cJ : Nat → Nat
  | 0 => 60
  | j + 1 => 30 * (2 * cJ j + 2)
theorem runD_ok (lf : first.length = n.toNat) (w0 : 2 ≤ w) (n0 : 0 ≤ n) (n1 : n ≤ 6) : ∀ (j D : Nat), D + j ≤ 90 → HrT cD F w n first i ll D (cJ j) (runD w first j) (Dl.u j) (OkL n w j)
  | 0, D, hD => run_df (c := 0) (k := fun _ => False) (fun a m dep A B x S ka => ka.elim) (by omega) lf w0 n0 n1
  | j + 1, D, hD => run_df (k := OkL n w j) (runD_ok lf w0 n0 n1 j (D + 1) (by omega)) (by omega) lf w0 n0 n1
noncomputable def P_goes (cD : Cl) : Fn := fnU 4 3 (c_goes_through (P_deed cD) (P_asks cD) (P_hear cD) (P_do cD) cD 20000000)
theorem goes_ok {j : Nat} (hj : j ≤ 3) (lf : first.length = n.toNat) (w0 : 2 ≤ w) (n0 : 0 ≤ n) (n1 : n ≤ 6) (ds : List (Dl j)) (od : OkL n w j ds) {m : M} {S : Sto} (wf : Wf n m) (h : Cf cD w n.toNat i ll m (pt (ds.map (Dl.u j)) 0 .non .non) S) :
    Wf n (runD w first j ds m).2 ∧ ∃ x' S', P_goes cD [.ref i, .tup (first.map U.int), .ref ll] S = some (.bl (runD w first j ds m).1, S') ∧ Cf cD w n.toNat i ll (runD w first j ds m).2 x' S' ∧ Kp [i, ll] S S' := by
  obtain ⟨wf1, s, x', S', ls, h1, k1, r1, e1⟩ := runD_ok (cD := cD) (F := 20000000) (i := i) (ll := ll) lf w0 n0 n1 j 0 (by omega) ds m 0 .non .non _ S od wf (Nat.le_refl _) .top .top h
  refine ⟨wf1, x', S', ?_, h1, k1⟩
  have hc : cJ j ≤ 13179660 := by
    have : j = 0 ∨ j = 1 ∨ j = 2 ∨ j = 3 := by omega
    rcases this with rfl | rfl | rfl | rfl <;> decide
  obtain ⟨r3, r1⟩ := r1 none
  have r2 := r1 (20000000 - s)
  rw [show 20000000 - s + s = 20000000 by omega] at r2
  unfold P_goes
  rw [e_goes_through]
  obtain ⟨fl, hfl⟩ : ∃ fl, 20000000 - s = fl + 1 := ⟨20000000 - s - 1, by omega⟩
  rw [hfl] at r2
  cases er : (runD w first j ds m).1 with
  | true =>
    rw [er] at e1
    obtain ⟨p, hp, ho⟩ := e1
    have hx : x' = pt (ds.map (Dl.u j)) p .non .non := by
      generalize ez : pt (ds.map (Dl.u j)) p .non .non = z at ho
      cases ho with
      | stop _ => rfl
      | top => rfl
    subst hx
    have ht := test_end (ρ := [some (.tup (first.map U.int)), some (.ref ll), r3]) h1 hp
    have r4 := r2.trans (while_end ht)
    rwa [c_goes_through, r4]
  | false =>
    rw [er] at e1
    obtain ⟨ds', q', A', rfl, q0', hw⟩ := e1
    have ht := test_go (ρ := [some (.tup (first.map U.int)), some (.ref ll), r3]) h1 q0' hw
    have r4 := r2.trans (while_rt ht (it_wait h1 q0' hw))
    rwa [c_goes_through, r4]
end
end OQ
set_option maxHeartbeats 1000000
namespace OQ
open PySem PySem.Spec PyProof.Rows L2 OG OP
def prs : List (Option Int) → Nat → List (Int × Int)
  | [], _ => []
  | none :: r, k => prs r (k + 1)
  | some v :: r, k => ((k : Int), v) :: prs r (k + 1)
def oq (n : Nat) (ps : List (Int × Int)) : List (Option Int) := (List.range n).map fun b : Nat => valG ps (b : Int)
def ou : Option Int → U
  | none => .non
  | some v => .int v
theorem encQ_oq {n : Nat} {ps : List (Int × Int)} : encQ n ps = (oq n ps).map ou := by
  unfold encQ oq
  rw [List.map_map]
  refine List.map_congr_left fun b _ => ?_
  simp only [Function.comp]
  cases valG ps (b : Int) <;> rfl
def pU (p : Int × Int) : U := .tup [.int p.1, .int p.2]
theorem compIf_nil {ok : Sto → Prop} {g : CG} {ct : CT} {ce : CE} {l : Nat} {ρ : Rho} {S : Sto} (h : ok S) : compIfU ok g ct ce l [] ρ S = some S := by rw [compIfU, if_pos h]
theorem compIf_no {ok : Sto → Prop} {g : CG} {ct : CT} {ce : CE} {l : Nat} {ρ ρ0 : Rho} {S S0 S1 : Sto} {u : U} {us : List U} (h : ok S) (hg : g u ρ S = some (ρ0, S0)) (ht : ct ρ0 S0 = some (false, S1)) : compIfU ok g ct ce l (u :: us) ρ S = compIfU ok g ct ce l us ρ0 S1 := by
  rw [compIfU, if_pos h, hg, Option.bind_some, ht, Option.bind_some, if_neg Bool.false_ne_true]
theorem compIf_yes {ok : Sto → Prop} {g : CG} {ct : CT} {ce : CE} {l : Nat} {ρ ρ0 : Rho} {S S0 S1 S2 : Sto} {u x : U} {us ys : List U} (h : ok S) (hg : g u ρ S = some (ρ0, S0)) (ht : ct ρ0 S0 = some (true, S1)) (he : ce ρ0 S1 = some (x, S2)) (hl : S2[l]? = some (.lst ys)) (hn : ys.length < LIM) :
    compIfU ok g ct ce l (u :: us) ρ S = compIfU ok g ct ce l us ρ0 (S2.set l (.lst (ys ++ [x]))) := by
  rw [compIfU, if_pos h, hg, Option.bind_some, ht, Option.bind_some, if_pos rfl, he, Option.bind_some]
  simp only [hl, hn, if_true]
theorem pp_loop (S : Sto) : ∀ (qs : List (Option Int)) (k : Nat) (ys : List (Int × Int)) (r0 r1 : Option U), ys.length + qs.length ≤ 1000 →
    compIfU (fun _ => True) (gTp [0, 1]) (cTest (cOp fNotN (cVar 1) (cC .non))) (cTup (cCons (cVar 0) (cCons (cVar 1) cNil))) S.length (((qs.map ou).zipIdx k).map fun p => .tup [.int p.2, p.1]) [r0, r1] (S ++ [.lst (ys.map pU)])
      = some (S ++ [.lst ((ys ++ prs qs k).map pU)])
  | [], k, ys, r0, r1, hl => by
    simp only [List.map_nil, List.zipIdx_nil, prs, List.append_nil]
    exact compIf_nil trivial
  | none :: qs, k, ys, r0, r1, hl => by
    have ih := pp_loop S qs (k + 1) ys (some (.int k)) (some .non) (by simp at hl ⊢; omega)
    simp only [List.map_cons, List.zipIdx_cons, prs, ou]
    refine (compIf_no (ρ0 := [some (.int k), some .non]) (S0 := S ++ [.lst (ys.map pU)]) (S1 := S ++ [.lst (ys.map pU)]) trivial rfl ?_).trans ih
    rwa [x_ntn, in_non]
  | some v :: qs, k, ys, r0, r1, hl => by
    have ih := pp_loop S qs (k + 1) (ys ++ [((k : Int), v)]) (some (.int k)) (some (.int v)) (by simp at hl ⊢; omega)
    simp only [List.map_cons, List.zipIdx_cons, prs, ou]
    refine (compIf_yes (ρ0 := [some (.int k), some (.int v)]) (S0 := S ++ [.lst (ys.map pU)]) (S1 := S ++ [.lst (ys.map pU)]) (S2 := S ++ [.lst (ys.map pU)]) (x := pU (k, v)) (ys := ys.map pU) trivial rfl ?_ ?_ ?_ (by simp at hl ⊢; unfold LIM; omega)).trans ?_
    · rwa [x_ntn, in_int]
    · rwa [pU]
    · rwa []
    · have e5 : (S ++ [O.lst (ys.map pU)]).set S.length (.lst (ys.map pU ++ [pU ((k : Int), v)])) = S ++ [.lst ((ys ++ [((k : Int), v)]).map pU)] := by
        rwa [List.map_append, List.map_cons, List.map_nil]
      rw [e5, ih]
      simp
section
variable {cD : Cl} {w n : Int} {first : List Int} {i ll : Nat} {m : M} {x : U} {S : Sto}
noncomputable def P_pp (cD : Cl) : Fn := fnU 1 1 (c_Doing_put_pairs cD)
def ppL (n : Int) (m : M) : List (Int × Int) := prs (oq n.toNat m.ps) 0
theorem pp_ok (h : Cf cD w n.toNat i ll m x S) (n1 : n ≤ 6) : P_pp cD [.ref i] S = some (.ref S.length, S ++ [.lst ((ppL n m).map pU)]) := by
  unfold P_pp
  rw [e_Doing_put_pairs]
  have e := h.ei
  unfold dO at e
  have hb := pp_loop S (oq n.toNat m.ps) 0 [] none none (by simp [oq]; omega)
  simp only [List.nil_append, List.map_nil] at hb
  rw [encQ_oq] at e
  unfold ppL
  rwa [c_Doing_put_pairs, cCompIf, iEnum, seqU, enumU, rhoC, e, hb, List.replicate]
theorem prs_mem : ∀ (qs : List (Option Int)) (k : Nat) (p : Int × Int), p ∈ prs qs k → ∃ j : Nat, p.1 = ((k + j : Nat) : Int) ∧ qs[j]? = some (some p.2)
  | [], k, p, h => by simp [prs] at h
  | none :: r, k, p, h => by
    obtain ⟨j, e1, e2⟩ := prs_mem r (k + 1) p (by simpa [prs] using h)
    exact ⟨j + 1, by rw [e1]; omega, by simpa using e2⟩
  | some v :: r, k, p, h => by
    simp only [prs, List.mem_cons] at h
    rcases h with rfl | h
    · exact ⟨0, by simp, by simp⟩
    · obtain ⟨j, e1, e2⟩ := prs_mem r (k + 1) p h
      exact ⟨j + 1, by rw [e1]; omega, by simpa using e2⟩
theorem oq_get {ps : List (Int × Int)} {j : Nat} {v : Int} : (oq n.toNat ps)[j]? = some (some v) ↔ (j < n.toNat ∧ valG ps (j : Int) = some v) := by
  unfold oq
  rw [List.getElem?_map]
  by_cases c : j < n.toNat
  · rw [List.getElem?_range c]; simp [c]
  · rw [List.getElem?_eq_none (by simpa using c)]; simp [c]
theorem ppL_mem {p : Int × Int} (h : p ∈ ppL n m) : 0 ≤ p.1 ∧ p.1 < n ∧ valG m.ps p.1 = some p.2 := by
  obtain ⟨j, e1, e2⟩ := prs_mem _ _ _ h
  obtain ⟨e3, e4⟩ := oq_get.mp e2
  rw [Nat.zero_add] at e1
  rw [e1]
  exact ⟨by omega, by omega, e4⟩
theorem fold_get : ∀ (qs : List (Option Int)) (k : Nat) (R : List Int) (j : Nat), ((prs qs k).foldl (fun r p => r.set p.1.toNat p.2) R)[j]? = (R[j]?).map fun x => if k ≤ j then ((qs[j - k]?).join).getD x else x
  | [], k, R, j => by simp [prs]
  | none :: r, k, R, j => by
    rw [prs, fold_get r (k + 1) R j]
    congr 1
    funext x
    by_cases h1 : k + 1 ≤ j
    · rw [if_pos h1, if_pos (by omega), show j - k = j - (k + 1) + 1 by omega, List.getElem?_cons_succ]
    · rw [if_neg h1]
      by_cases h2 : k ≤ j
      · rw [if_pos h2, show j - k = 0 by omega]; simp
      · rw [if_neg h2]
  | some v :: r, k, R, j => by
    rw [prs, List.foldl_cons, fold_get r (k + 1) _ j]
    simp only [Int.toNat_natCast]
    by_cases h1 : k + 1 ≤ j
    · rw [List.getElem?_set_ne (by omega)]
      congr 1
      funext x
      rw [if_pos h1, if_pos (by omega), show j - k = j - (k + 1) + 1 by omega, List.getElem?_cons_succ]
    · by_cases h2 : k = j
      · subst h2
        rw [List.getElem?_set_self']
        cases R[k]? with
        | none => rfl
        | some z => simp; intro h; omega
      · rw [List.getElem?_set_ne h2]
        congr 1
        funext x
        rw [if_neg h1, if_neg (by omega)]
theorem fold_beh (lf : first.length = n.toNat) : (ppL n m).foldl (fun r p => r.set p.1.toNat p.2) first = beh first m.ps 0 := by
  refine List.ext_getElem? fun j => ?_
  unfold ppL
  rw [fold_get]
  by_cases c : j < first.length
  · rw [beh_get _ _ _ _ c, List.getElem?_eq_getElem c]
    have e : (oq n.toNat m.ps)[j]? = some (valG m.ps (j : Int)) := by unfold oq; rw [List.getElem?_map, List.getElem?_range (by omega)]; rfl
    simp only [Option.map_some, Nat.zero_le, if_true, Nat.sub_zero, e, Option.join_some, Nat.zero_add, List.getD_eq_getElem?_getD, List.getElem?_eq_getElem c, Option.getD_some]
  · rw [List.getElem?_eq_none (l := first) (by omega), List.getElem?_eq_none (l := beh first m.ps 0) (by rw [beh_len]; omega)]; rfl
end
end OQ
set_option maxHeartbeats 1000000
namespace OQ
open PySem PySem.Spec PyProof.Rows L2 OG OP
section
variable {cD : Cl} {w n : Int} {first : List Int}
noncomputable def P_init (cD : Cl) : Fn := fnU 3 3 (c_Doing_init P_onw cD)
theorem init_ok {S0 : Sto} {ds : List U} (n0 : 1 ≤ n) (n1 : n ≤ 6) : P_init cD [.ref S0.length, .tup [.int n, .int w], .tup ds] (S0 ++ [.ins cD [none, none, none, none]]) = some (.non, S0 ++ [dO cD w n.toNat m0 (pt ds 0 .non .non)]) := by
  unfold P_init
  rw [e_Doing_init]
  have eo : ∀ S : Sto, P_onw [.tup [.tup ds, .int 0, .non, .non]] S = some (.tup [.tup ds, .int 0, .non, .non], S) := fun S => onw_ok (d := 0) (.top : Onw 0 (pt ds 0 .non .non) _) (by decide)
  have em : ∀ S : Sto, fMulR (.tup [.non]) (.int n) S = some (.tup (encQ n.toNat []), S) := fun S => by
    unfold fMulR
    simp only
    rw [if_pos ⟨by simp, n0, by simp; omega⟩, encQ_nil]
    congr 3
    induction n.toNat with
    | zero => rfl
    | succ k ih => rw [List.replicate_succ, List.replicate_succ, List.flatten_cons, ih]; rfl
  unfold dO pt m0
  rwa [c_Doing_init, em, eo]
theorem sorted_lk {S : Sto} {ll : Nat} {lk : List Int} (h : S[ll]? = some (.dic (encL lk))) (hl : lk.length < 64) : fSorted [.ref ll] S = some (.ref S.length, S ++ [.lst ((sortI lk).map U.int)]) := by
  simp only [fSorted, h, keysI_enc, Option.bind_some, hl, if_true]
theorem kp_app {S0 : Sto} {X : Sto} {S' : Sto} {a b : Nat} (k : Kp [a, b] (S0 ++ X) S') (ha : S0.length ≤ a) (hb : S0.length ≤ b) : ∃ Y, S' = S0 ++ Y ∧ Y.length = X.length := by
  obtain ⟨Y, rfl⟩ := fr_app (ls := []) (S0 := S0) (S' := S') (by have := k.len; simp at this; omega) fun l hl => by
    rw [k.old l (by simp; omega), List.getElem?_append_left hl]
  exact ⟨Y, rfl, by have := k.len; simp at this; omega⟩
theorem wf0 : Wf n m0 := ⟨rfl, by simp [m0], by simp [m0], by simp [m0], by simp [m0]⟩
noncomputable def P_alone (cD : Cl) : Fn := fnU 8 3 (c_alone (P_goes cD) (P_pp cD) (P_init cD) cD)
theorem al_loop {x3 x4 : Option U} {lr lp : Nat} {us : List U} {xs : U} {ys : U} {f1 f2 f3 : Fn} : ∀ (ps : List (Int × Int)) (R : List Int) (S : Sto) (r6 r7 : Option U), S[lr]? = some (.lst (R.map U.int)) → S[lp]? = some (.lst us) → lr ≠ lp → (∀ p ∈ ps, 0 ≤ p.1 ∧ p.1 < R.length) →
    ∃ r6' r7', loopU (fun S => S[lp]? = some (.lst us)) (gTp [6, 7]) (b_alone_0 f1 f2 f3 cD) (ps.map pU) [some xs, some ys, some (.tup (first.map U.int)), x3, x4, some (.ref lr), r6, r7] S
      = some (.nx, [some xs, some ys, some (.tup (first.map U.int)), x3, x4, some (.ref lr), r6', r7'], S.set lr (.lst ((ps.foldl (fun r p => r.set p.1.toNat p.2) R).map U.int)))
  | [], R, S, r6, r7, h1, h2, ne, _ => ⟨r6, r7, by rw [List.map_nil, loop_nil h2, List.foldl_nil, set_same h1]⟩
  | p :: ps, R, S, r6, r7, h1, h2, ne, hb => by
    obtain ⟨b0, b1⟩ := hb p List.mem_cons_self
    have h1' : (S.set lr (.lst ((R.set p.1.toNat p.2).map U.int)))[lr]? = some (.lst ((R.set p.1.toNat p.2).map U.int)) := List.getElem?_set_self (lt_of_get h1)
    obtain ⟨r6', r7', ih⟩ := al_loop (x3 := x3) (x4 := x4) (lr := lr) (lp := lp) (us := us) (xs := xs) (ys := ys) (f1 := f1) (f2 := f2) (f3 := f3) ps (R.set p.1.toNat p.2) (S.set lr (.lst ((R.set p.1.toNat p.2).map U.int))) (some (.int p.1)) (some (.int p.2)) h1' (by rw [List.getElem?_set_ne ne]; exact h2) ne fun q hq => by rw [List.length_set]; exact hb q (List.mem_cons_of_mem _ hq)
    rw [List.set_set] at ih
    refine ⟨r6', r7', ?_⟩
    rw [List.map_cons, List.foldl_cons]
    refine (loop_nx h2 (ρ0 := [some xs, some ys, some (.tup (first.map U.int)), x3, x4, some (.ref lr), some (.int p.1), some (.int p.2)]) (S0 := S) (by rwa [pU]) ?_).trans ih
    have ix : ixN (R.map U.int).length p.1 = some p.1.toNat := by unfold ixN; rw [if_pos b0, if_pos (by simp; omega)]
    rwa [b_alone_0, h1, ix, map_set]
theorem alone_ok {j : Nat} (hj : j ≤ 3) (S0 : Sto) (hns : cD.ns.length = 4) (ds : List (Dl j)) (od : OkL n w j ds) (lf : first.length = n.toNat) (n0 : 1 ≤ n) (n1 : n ≤ 6) (w0 : 2 ≤ w) :
    Wf n (runD w first j ds m0).2 ∧ ∃ G l, P_alone cD [.tup [.int n, .int w], .tup (ds.map (Dl.u j)), .tup (first.map U.int)] S0 = some (told (runD w first j ds m0) first l, S0 ++ G) ∧ ((runD w first j ds m0).1 = false → (S0 ++ G)[l]? = some (.lst ((sortI (runD w first j ds m0).2.lk).map U.int)) ∧ S0.length ≤ l) := by
  have c0 : Cf cD w n.toNat S0.length (S0.length + 1) m0 (pt (ds.map (Dl.u j)) 0 .non .non) (S0 ++ [dO cD w n.toNat m0 (pt (ds.map (Dl.u j)) 0 .non .non), .dic []]) := ⟨by rw [ga0]; rfl, by rw [ga]; rfl⟩
  obtain ⟨wf, x', S', eg, c1, k1⟩ := goes_ok hj lf w0 (by omega) n1 ds od wf0 c0
  refine ⟨wf, ?_⟩
  have hi := init_ok (cD := cD) (w := w) (S0 := S0) (ds := ds.map (Dl.u j)) n0 n1
  obtain ⟨Y, rfl, lY⟩ := kp_app k1 (Nat.le_refl _) (by omega)
  have lk6 := (wf.few (by omega) n1).2
  unfold P_alone
  rw [e_alone]
  have es := sorted_lk c1.el (by omega)
  unfold told
  cases er : runD w first j ds m0 with
  | mk t m =>
    rw [er] at eg c1 es lk6 wf
    cases t with
    | false =>
      refine ⟨Y ++ [.lst ((sortI m.lk).map U.int)], S0.length + Y.length, ?_, fun _ => ⟨?_, by omega⟩⟩
      · simp only [List.length_append, List.append_assoc] at es
        rwa [c_alone, x_make, hns, List.replicate, hi, eg, es, List.length_append]
      · rw [← List.append_assoc, ← List.length_append, ga0]; rfl
    | true =>
      have c2 : Cf cD w n.toNat S0.length (S0.length + 1) m x' (S0 ++ (Y ++ [.lst (first.map U.int)])) := by rw [← List.append_assoc]; exact ⟨get_app c1.ei, get_app c1.el⟩
      have ep := pp_ok c2 n1
      have ei := c2.ei
      have c3 : Cf cD w n.toNat S0.length (S0.length + 1) m x' (S0 ++ (Y ++ [.lst ((beh first m.ps 0).map U.int), .lst ((ppL n m).map pU)])) := by rw [← List.append_assoc]; exact ⟨get_app c1.ei, get_app c1.el⟩
      have e3 := c3.ei
      obtain ⟨r6, r7, el⟩ := al_loop (first := first) (cD := cD) (f1 := P_goes cD) (f2 := P_pp cD) (f3 := P_init cD) (x3 := some (.ref S0.length)) (x4 := some (.ref (S0.length + 1))) (xs := .tup [.int n, .int w]) (ys := .tup (ds.map (Dl.u j))) (lr := S0.length + Y.length) (lp := S0.length + (Y.length + 1)) (us := (ppL n m).map pU) (ppL n m) first (S0 ++ (Y ++ [.lst (first.map U.int), .lst ((ppL n m).map pU)])) none none
        (by rw [← List.append_assoc, ← List.length_append, ga0]; rfl) (by rw [← List.append_assoc, ← Nat.add_assoc, ← List.length_append, ga]; rfl) (by omega) (fun p hp => by obtain ⟨a, b, _⟩ := ppL_mem hp; omega)
      rw [fold_beh lf] at el
      have gset : (S0 ++ (Y ++ [O.lst (first.map U.int), .lst ((ppL n m).map pU)])).set (S0.length + Y.length) (.lst ((beh first m.ps 0).map U.int)) = S0 ++ (Y ++ [.lst ((beh first m.ps 0).map U.int), .lst ((ppL n m).map pU)]) := by
        rw [gs, gs0]; rfl
      rw [gset] at el
      have gl : (S0 ++ (Y ++ [O.lst (first.map U.int), .lst ((ppL n m).map pU)]))[S0.length + (Y.length + 1)]? = some (.lst ((ppL n m).map pU)) := by rw [← List.append_assoc, ← Nat.add_assoc, ← List.length_append, ga]; rfl
      have gr : (S0 ++ (Y ++ [O.lst ((beh first m.ps 0).map U.int), .lst ((ppL n m).map pU)]))[S0.length + Y.length]? = some (.lst ((beh first m.ps 0).map U.int)) := by rw [← List.append_assoc, ← List.length_append, ga0]; rfl
      refine ⟨Y ++ [.lst ((beh first m.ps 0).map U.int), .lst ((ppL n m).map pU)], 0, ?_, fun z => by cases z⟩
      simp only [List.length_append, List.append_assoc, List.length_cons, List.length_nil, Nat.zero_add, List.cons_append, List.nil_append] at ep
      unfold dO at ei e3
      rwa [c_alone, x_make, hns, List.replicate, hi, eg, ep, ei, cFor, iTp, el, e3, gl, gr, List.length_append]
end
end OQ
set_option maxHeartbeats 1000000
namespace OQ
open PySem PySem.Spec PyProof.Rows L2 OG OP
section
variable {cD : Cl} {n w : Int} {first : List Int}
end
theorem sn_done_waits : decide (("done" : Str) = "waits") = false := by decide +kernel
end OQ
set_option maxHeartbeats 1000000
namespace OQ
open PySem PySem.Spec PyProof.Rows L2 OG OP
section
variable {w : Int} {first : List Int} {i ls lo lh ll : Nat} {m : M} {T : Sto} {n : Int}
theorem same_lints {k : Nat} {ns : List Int} {S : Sto} {l1 l2 : Nat} (h1 : S[l1]? = some (.lst (ns.map U.int))) (h2 : S[l2]? = some (.lst (ns.map U.int))) (hn : ns.length ≤ 1000) : SameAt (k + 2) (.ref l1) (.ref l2) S :=
  same_lst h1 h2 rfl (by simpa using hn) (zip_self fun u hu => by
    obtain ⟨p, _, rfl⟩ := List.mem_map.mp hu
    exact same_int)
end
end OQ
set_option maxHeartbeats 1000000
namespace OQ
open PySem PySem.Spec PyProof.Rows L2 OG OP
def Lay (k : Nat) (S : Sto) (u : U) : Prop := ∃ d, Dt S u d ∧ d.canLay0 = true ∧ d.depth ≤ k
def SameD (k : Nat) (S : Sto) (u v : U) : Prop := ∃ d, Dt S u d ∧ Dt S v d ∧ d.canLay0 = true ∧ d.depth ≤ k
def SameDL (k : Nat) (S : Sto) (us vs : List U) : Prop := ∃ ds, DtL S us ds ∧ DtL S vs ds ∧ PyData.canLayAll0 ds = true ∧ PyData.depthAll ds ≤ k
section
variable {k j : Nat} {S : Sto} {u v : U} {us vs : List U}
theorem Lay.mono (h : Lay k S u) (l : k ≤ j) : Lay j S u := by obtain ⟨d, a, b, c⟩ := h; exact ⟨d, a, b, Nat.le_trans c l⟩
theorem Lay.int {i : Int} : Lay k S (.int i) := ⟨_, .int i, rfl, Nat.zero_le _⟩
theorem Lay.str {x : Str} (h : PyData.strOk x = true) : Lay k S (.str x) := ⟨_, .str x, h, Nat.zero_le _⟩
theorem SameD.refl (h : Lay k S u) : SameD k S u u := by obtain ⟨d, a, b, c⟩ := h; exact ⟨d, a, a, b, c⟩
theorem SameDL.nil : SameDL k S [] [] := ⟨[], .nil, .nil, rfl, Nat.zero_le _⟩
theorem SameDL.cons (h : SameD k S u v) (t : SameDL k S us vs) : SameDL k S (u :: us) (v :: vs) := by
  obtain ⟨d, a, b, c, e⟩ := h
  obtain ⟨ds, a', b', c', e'⟩ := t
  refine ⟨d :: ds, .cons a a', .cons b b', by unfold PyData.canLayAll0; rw [c, c']; rfl, ?_⟩
  unfold PyData.depthAll
  exact Nat.max_le.mpr ⟨e, e'⟩
theorem SameDL.all : ∀ {us : List U}, (∀ u ∈ us, Lay k S u) → SameDL k S us us
  | [], _ => .nil
  | u :: us, h => .cons (.refl (h u List.mem_cons_self)) (SameDL.all fun x hx => h x (List.mem_cons_of_mem _ hx))
theorem SameD.tup (h : SameDL k S us vs) : SameD (k + 1) S (.tup us) (.tup vs) := by
  obtain ⟨ds, a, b, c, e⟩ := h
  refine ⟨.tuple ds, .tup a, .tup b, by unfold PyData.canLay0; exact c, ?_⟩
  unfold PyData.depth
  omega
theorem SameD.lst {l l' : Nat} (h1 : S[l]? = some (.lst us)) (h2 : S[l']? = some (.lst vs)) (h : SameDL k S us vs) : SameD (k + 1) S (.ref l) (.ref l') := by
  obtain ⟨ds, a, b, c, e⟩ := h
  refine ⟨.list ds, .lst h1 a, .lst h2 b, by unfold PyData.canLay0; exact c, ?_⟩
  unfold PyData.depth
  omega
theorem Lay.tup (h : ∀ u ∈ us, Lay k S u) : Lay (k + 1) S (.tup us) := by
  obtain ⟨d, a, _, b, c⟩ := SameD.tup (SameDL.all h)
  exact ⟨d, a, b, c⟩
theorem SameD.ne (h : SameD k S u v) (hk : k ≤ 60) : fEqD true u v S = some (.bl false, S) := by
  obtain ⟨d, a, b, c, e⟩ := h
  exact fEqD_of true ⟨d, d, a, b, ⟨c, Nat.le_trans e hk⟩, ⟨c, Nat.le_trans e hk⟩, (SeqAt.eqv_refl d c).symm⟩
theorem Lay.deed (d : Deed) : Lay 1 S d.u := by
  cases d
  all_goals
    refine .tup fun u hu => ?_
    simp only [List.mem_cons, List.not_mem_nil, or_false] at hu
    first
    | (rcases hu with rfl | rfl | rfl
       · exact .str (by decide +kernel)
       · exact .int
       · exact .int)
    | (subst hu; exact .str (by decide +kernel))
theorem Lay.df {α : Type} {f : α → U} (hf : ∀ a, Lay k S (f a)) (d : DF α) : Lay (k + 2) S (d.u f) := by
  cases d with
  | pl d => exact (Lay.deed d).mono (by omega)
  | tr a b =>
    refine .tup fun u hu => ?_
    simp only [List.mem_cons, List.not_mem_nil, or_false] at hu
    rcases hu with rfl | rfl | rfl
    · exact .str (by decide +kernel)
    · refine .tup fun u hu => ?_
      obtain ⟨i, _, rfl⟩ := List.mem_map.mp hu
      exact hf i
    · refine .tup fun u hu => ?_
      obtain ⟨i, _, rfl⟩ := List.mem_map.mp hu
      exact hf i
theorem Lay.dl : ∀ (j : Nat) (d : Dl j), Lay (2 * j + 2) S (Dl.u j d)
  | 0, d => Lay.df (k := 0) (fun a => nomatch a) d
  | j + 1, d => (Lay.df (k := 2 * j + 2) (Lay.dl j) d).mono (by omega)
theorem Lay.dls {j : Nat} (ds : List (Dl j)) : Lay (2 * j + 3) S (.tup (ds.map (Dl.u j))) := .tup fun u hu => by
  obtain ⟨i, _, rfl⟩ := List.mem_map.mp hu
  exact Lay.dl j i
end
inductive RowR where
  | done (st : List Int) | waits (pl : Nat) (lk : List Int)
def rowR {j : Nat} (w : Int) (Ds : List (List (Dl j))) : List Int → Nat → List Int → RowR
  | [], _, st => .done st
  | o :: os, k, st => match runD w st j (Ds.getD o.toNat []) m0 with
    | (true, m) => rowR w Ds os (k + 1) (beh st m.ps 0)
    | (false, m) => .waits k m.lk
def rowU (r : RowR) (l : Nat) : U := match r with
  | .done st => .tup [.str "done", .tup (st.map U.int)]
  | .waits k _ => .tup [.str "waits", .int k, .ref l]
def RowOk (n : Int) (S : Sto) (l : Nat) : RowR → Prop
  | .done st => st.length = n.toNat
  | .waits _ lk => S[l]? = some (.lst ((sortI lk).map U.int)) ∧ lk.length ≤ 6
def dlU {j : Nat} (d : List (Dl j)) : U := .tup (d.map (Dl.u j))
section
variable {cD : Cl} {n w : Int} {j : Nat} {Ds : List (List (Dl j))} {ld lo : Nat} {x2 : Option U} {us : List U}
theorem ds_at {o : Int} (o0 : 0 ≤ o) (o1 : o < Ds.length) : atI (Ds.map dlU) o = some (dlU (Ds.getD o.toNat [])) := by
  have hk : o.toNat < Ds.length := by omega
  refine atI_of o0 ?_
  rw [List.getElem?_map, List.getElem?_eq_getElem hk, List.getD_eq_getElem?_getD, List.getElem?_eq_getElem hk]; rfl
theorem ds_ok {o : Int} (hd : ∀ d ∈ Ds, OkL n w j d) (o0 : 0 ≤ o) (o1 : o < Ds.length) : OkL n w j (Ds.getD o.toNat []) := by
  have hk : o.toNat < Ds.length := by omega
  rw [List.getD_eq_getElem?_getD, List.getElem?_eq_getElem hk]
  exact hd _ (List.getElem_mem hk)
noncomputable def P_row (cD : Cl) : Fn := fnU 8 4 (c_in_row (P_alone cD))
theorem inrow_loop (hj : j ≤ 3) (hns : cD.ns.length = 4) (n0 : 1 ≤ n) (n1 : n ≤ 6) (w0 : 2 ≤ w) (hd : ∀ d ∈ Ds, OkL n w j d) : ∀ (os : List Int) (k : Nat) (st : List Int) (S : Sto) (r5 r6 r7 : Option U), S[ld]? = some (.lst (Ds.map dlU)) → S[lo]? = some (.lst us) → (∀ o ∈ os, 0 ≤ o ∧ o < (Ds.length : Int)) → st.length = n.toNat →
    ∃ X ρ l, RowOk n (S ++ X) l (rowR w Ds os k st) ∧ S.length ≤ l ∧ (match rowR w Ds os k st with
      | .done st' => ∃ r5 r6 r7, loopU (fun S => S[lo]? = some (.lst us)) (gTp [5, 6]) (b_in_row_0 (P_alone cD)) (((os.map U.int).zipIdx k).map fun p => .tup [.int p.2, p.1]) ρ S = some (.nx, [some (.tup [.int n, .int w]), some (.ref ld), x2, some (.ref lo), some (.tup (st'.map U.int)), r5, r6, r7], S ++ X)
      | .waits k' lk => ∃ ρ', loopU (fun S => S[lo]? = some (.lst us)) (gTp [5, 6]) (b_in_row_0 (P_alone cD)) (((os.map U.int).zipIdx k).map fun p => .tup [.int p.2, p.1]) ρ S = some (.rt (rowU (.waits k' lk) l), ρ', S ++ X)) ∧ ρ = [some (.tup [.int n, .int w]), some (.ref ld), x2, some (.ref lo), some (.tup (st.map U.int)), r5, r6, r7]
  | [], k, st, S, r5, r6, r7, h1, h2, ho, hs => ⟨[], _, S.length, hs, Nat.le_refl _, ⟨r5, r6, r7, by rw [List.append_nil]; exact loop_nil h2⟩, rfl⟩
  | o :: os, k, st, S, r5, r6, r7, h1, h2, ho, hs => by
    obtain ⟨o0, o1⟩ := ho o List.mem_cons_self
    obtain ⟨wf, G, l, e1, g1⟩ := alone_ok (cD := cD) hj S hns (Ds.getD o.toNat []) (ds_ok hd o0 o1) hs n0 n1 w0
    have ea := ds_at o0 o1
    have k6 := (wf.few (by omega) n1).2
    rw [rowR]
    cases er : runD w st j (Ds.getD o.toNat []) m0 with
    | mk t m =>
      rw [er] at e1 g1 k6
      simp only [dlU] at ea
      cases t with
      | true =>
        dsimp only [told] at e1
        obtain ⟨X, ρ, l', rk, ll, rm, rfl⟩ := inrow_loop hj hns n0 n1 w0 hd os (k + 1) (beh st m.ps 0) (S ++ G) (some (.int k)) (some (.int o)) (some (.tup [.str "done", .tup ((beh st m.ps 0).map U.int), .tup (m.hs.map U.int)])) (get_app h1) (get_app h2) (fun x hx => ho x (List.mem_cons_of_mem _ hx)) (by rw [beh_len]; exact hs)
        refine ⟨G ++ X, _, l', by rw [← List.append_assoc]; exact rk, by simp at ll; omega, ?_, rfl⟩
        have one : loopU (fun S => S[lo]? = some (.lst us)) (gTp [5, 6]) (b_in_row_0 (P_alone cD)) ((((o :: os).map U.int).zipIdx k).map fun p => .tup [.int p.2, p.1]) [some (.tup [.int n, .int w]), some (.ref ld), x2, some (.ref lo), some (.tup (st.map U.int)), r5, r6, r7] S
            = loopU (fun S => S[lo]? = some (.lst us)) (gTp [5, 6]) (b_in_row_0 (P_alone cD)) (((os.map U.int).zipIdx (k + 1)).map fun p => .tup [.int p.2, p.1]) [some (.tup [.int n, .int w]), some (.ref ld), x2, some (.ref lo), some (.tup ((beh st m.ps 0).map U.int)), some (.int k), some (.int o), some (.tup [.str "done", .tup ((beh st m.ps 0).map U.int), .tup (m.hs.map U.int)])] (S ++ G) := by
          simp only [List.map_cons, List.zipIdx_cons]
          refine loop_nx h2 rfl ?_
          rwa [b_in_row_0, h1, ea, e1, sn_done_waits]
        dsimp only
        cases er2 : rowR w Ds os (k + 1) (beh st m.ps 0) with
        | done st' =>
          rw [er2] at rm
          obtain ⟨a, b, c, e⟩ := rm
          exact ⟨a, b, c, by rw [one, e, List.append_assoc]⟩
        | waits k' lk =>
          rw [er2] at rm
          obtain ⟨ρ', e⟩ := rm
          exact ⟨ρ', by rw [one, e, List.append_assoc]⟩
      | false =>
        dsimp only [told] at e1
        obtain ⟨g2, g3⟩ := g1 rfl
        refine ⟨G, _, l, ⟨g2, k6⟩, g3, ⟨[some (.tup [.int n, .int w]), some (.ref ld), x2, some (.ref lo), some (.tup (st.map U.int)), some (.int k), some (.int o), some (.tup [.str "waits", .ref l])], ?_⟩, rfl⟩
        simp only [List.map_cons, List.zipIdx_cons, rowU]
        refine loop_rt h2 rfl ?_
        rwa [b_in_row_0, h1, ea, e1, eq_self]
theorem inrow_ok (hj : j ≤ 3) (hns : cD.ns.length = 4) (n0 : 1 ≤ n) (n1 : n ≤ 6) (w0 : 2 ≤ w) (hd : ∀ d ∈ Ds, OkL n w j d) (os : List Int) (st : List Int) (S : Sto) (h1 : S[ld]? = some (.lst (Ds.map dlU))) (h2 : S[lo]? = some (.lst (os.map U.int))) (ho : ∀ o ∈ os, 0 ≤ o ∧ o < (Ds.length : Int)) (hs : st.length = n.toNat) :
    ∃ X l, RowOk n (S ++ X) l (rowR w Ds os 0 st) ∧ S.length ≤ l ∧ P_row cD [.tup [.int n, .int w], .ref ld, .tup (st.map U.int), .ref lo] S = some (rowU (rowR w Ds os 0 st) l, S ++ X) := by
  unfold P_row
  rw [e_in_row]
  obtain ⟨X, ρ, l, rk, ll, rm, rfl⟩ := inrow_loop (cD := cD) (x2 := some (.tup (st.map U.int))) (us := os.map U.int) (ld := ld) (lo := lo) hj hns n0 n1 w0 hd os 0 st S none none none h1 h2 ho hs
  refine ⟨X, l, rk, ll, ?_⟩
  have es : seqU (.ref lo) S = some (os.map U.int, fun S => S[lo]? = some (.lst (os.map U.int))) := by simp only [seqU, h2]
  cases er : rowR w Ds os 0 st with
  | done st' =>
    rw [er] at rm
    obtain ⟨a, b, c, e⟩ := rm
    rwa [c_in_row, cFor, iEnum, es, enumU, e, rowU]
  | waits k' lk =>
    rw [er] at rm
    obtain ⟨ρ', e⟩ := rm
    rwa [c_in_row, cFor, iEnum, es, enumU, e, rowU]
end
end OQ
set_option maxHeartbeats 4000000
namespace OL
open PySem PySem.Spec PyProof.Rows L2 OG OP OQ
def top (i : Nat) : Stmt := PySem.Challenge.pw_oneglance_k09_one_after_another.main.body.getD i (.Pass ⟨0, 0, 0, 0⟩)
abbrev s_Doing_init : Stmt := inClass (top 1) 0
abbrev s_Doing_deed : Stmt := inClass (top 1) 1
abbrev s_Doing_asks : Stmt := inClass (top 1) 2
abbrev s_Doing_hear : Stmt := inClass (top 1) 3
abbrev s_Doing_do_deed : Stmt := inClass (top 1) 4
abbrev s_Doing_hold : Stmt := inClass (top 1) 5
abbrev s_Doing_part_behind : Stmt := inClass (top 1) 6
abbrev s_Doing_go_behind : Stmt := inClass (top 1) 7
abbrev s_Doing_enter_try : Stmt := inClass (top 1) 8
abbrev s_Doing_goes_back : Stmt := inClass (top 1) 9
abbrev s_Doing_put_pairs : Stmt := inClass (top 1) 10
abbrev s_with_at : Stmt := top 2
abbrev s_onwards : Stmt := top 3
abbrev s_goes_through : Stmt := top 4
abbrev s_alone : Stmt := top 5
abbrev s_in_row : Stmt := top 7
abbrev s__law_pen : Stmt := top 9
abbrev s__law_take : Stmt := top 10
abbrev s__law_world : Stmt := top 11
abbrev s__law_state : Stmt := top 12
abbrev s__law_size : Stmt := top 13
abbrev s__law_plain_deed : Stmt := top 14
abbrev s__law_dealing : Stmt := top 15
abbrev s__law_plain : Stmt := top 16
abbrev s__law_waits : Stmt := top 17
abbrev s__law_alone : Stmt := top 18
abbrev s__law_same : Stmt := top 19
abbrev s_law : Stmt := top 20
section
variable {P : Program} {w : World} {K : PySem.W.Frag} {mg : Str → Option Value} {base : Heap}
theorem sc__law_take : FnScope ["pen", "many", "at", "cell", "one", "two", "three", "found"] ["pen", "many"] (defScope s__law_take) := ⟨rfl, rfl, rfl, by decide +kernel, rfl, by decide +kernel, by decide +kernel⟩
theorem h__law_take {k : Nat} (d : Def K mg "_law_take" s__law_take ["pen", "many"]) (B : Blt mg) : HasP P w K mg base "_law_take" (k + 1) ["pen", "many"] (fnU 8 2 (c__law_take )) :=
  d.pure sc__law_take fun f cdv A outer s H E hr => by
    have hu := hu_of hr
    have nd := sc__law_take.nd
    exact (qs_cons (qs_if (q_tcmp op_eq p_eq (q_ix hu (q_var (wpv 0)) (q_int wpe_int) (fun _ _ => rfl) (fun _ _ => rfl)) (q_int wpe_int) (nomark _)) (qs_cons (qs_set (i := 2) nd rfl (by first | exact Or.inl rfl | exact Or.inr rfl) (q_ix hu (q_var (wpv 0)) (q_int wpe_int) (fun _ _ => rfl) (fun _ _ => rfl)))
      (qs_cons (qs_setIx hu (q_var (wpv 0)) (q_int wpe_int) (q_op o_add p_add (q_var (wpv 2)) (q_int wpe_int)))
      (qs_cons (qs_set (i := 3) nd rfl (by first | exact Or.inl rfl | exact Or.inr rfl) (q_int wpe_int))
      (qs_cons (qs_if (q_tcmp op_lt p_lt (q_var (wpv 2)) (q_callB o_len p_len rfl B.len PySem.boot_len (q_cons (q_ix hu (q_var (wpv 0)) (q_int wpe_int) (fun _ _ => rfl) (fun _ _ => rfl)) q_nil)) (nomark _)) (qs_one (qs_set (i := 3) nd rfl (by first | exact Or.inl rfl | exact Or.inr rfl) (q_ix hu (q_ix hu (q_var (wpv 0)) (q_int wpe_int) (fun _ _ => rfl) (fun _ _ => rfl)) (q_var (wpv 2)) (fun _ _ => rfl) (fun _ _ => rfl)))) (qs_one (qs_if (q_tcmp op_gt p_gt (q_callB o_len p_len rfl B.len PySem.boot_len (q_cons (q_ix hu (q_var (wpv 0)) (q_int wpe_int) (fun _ _ => rfl) (fun _ _ => rfl)) q_nil)) (q_int wpe_int) (nomark _)) (qs_one (qs_set (i := 3) nd rfl (by first | exact Or.inl rfl | exact Or.inr rfl) (q_op o_add p_add (q_op op_mod p_mod (q_ix hu (q_ix hu (q_var (wpv 0)) (q_int wpe_int) (fun _ _ => rfl) (fun _ _ => rfl)) (q_op op_mod p_mod (q_op op_mul p_mul (q_var (wpv 2)) (q_int wpe_int)) (q_callB o_len p_len rfl B.len PySem.boot_len (q_cons (q_ix hu (q_var (wpv 0)) (q_int wpe_int) (fun _ _ => rfl) (fun _ _ => rfl)) q_nil))) (fun _ _ => rfl) (fun _ _ => rfl)) (q_int wpe_int)) (q_op op_mul p_mul (q_int wpe_int) (q_var (wpv 2)))))) qs_nil)))
      (qs_cons (qs_set (i := 4) nd rfl (by first | exact Or.inl rfl | exact Or.inr rfl) (q_op op_mod p_mod (q_op op_mul p_mul (q_op o_add p_add (q_op o_add p_add (q_op op_mod p_mod (q_var (wpv 3)) (q_int wpe_int)) (q_op op_mul p_mul (q_int wpe_int) (q_var (wpv 2)))) (q_int wpe_int)) (q_int wpe_int)) (q_int wpe_int)))
      (qs_cons (qs_set (i := 5) nd rfl (by first | exact Or.inl rfl | exact Or.inr rfl) (q_op op_mod p_mod (q_op o_add p_add (q_op o_add p_add (q_op op_mul p_mul (q_var (wpv 4)) (q_var (wpv 4))) (q_op op_mul p_mul (q_int wpe_int) (q_var (wpv 2)))) (q_int wpe_int)) (q_int wpe_int)))
      (qs_cons (qs_set (i := 6) nd rfl (by first | exact Or.inl rfl | exact Or.inr rfl) (q_op op_mod p_mod (q_op o_add p_add (q_op op_mul p_mul (q_var (wpv 5)) (q_var (wpv 5))) (q_var (wpv 4))) (q_int wpe_int)))
      (qs_cons (qs_setIx hu (q_var (wpv 0)) (q_int wpe_int) (q_op o_add p_add (q_op op_fdivB p_div (q_op o_add p_add (q_op op_mul p_mul (q_var (wpv 5)) (q_int wpe_int)) (q_var (wpv 6))) (q_int wpe_int)) (q_int wpe_int)))
      (qs_one (qs_if (q_tcmp op_ge p_ge (q_var (wpv 3)) (q_op op_pow p_pow (q_int wpe_int) (q_int wpe_int)) (nomark _)) (qs_one (qs_setIx hu (q_var (wpv 0)) (q_int wpe_int) (q_op op_fdivB p_div (q_var (wpv 3)) (q_op op_pow p_pow (q_int wpe_int) (q_int wpe_int))))) qs_nil)))))))))) qs_nil)
      (qs_cons (qs_set (i := 7) nd rfl (by first | exact Or.inl rfl | exact Or.inr rfl) (q_op op_mod p_mod (q_ix hu (q_var (wpv 0)) (q_int wpe_int) (fun _ _ => rfl) (fun _ _ => rfl)) (q_var (wpv 1))))
      (qs_cons (qs_setIx hu (q_var (wpv 0)) (q_int wpe_int) (q_op op_fdivB p_div (q_ix hu (q_var (wpv 0)) (q_int wpe_int) (fun _ _ => rfl) (fun _ _ => rfl)) (q_var (wpv 1))))
      (qs_one (qs_ret (q_var (wpv 7)))))))
theorem sc__law_world : FnScope ["pen"] ["pen"] (defScope s__law_world) := ⟨rfl, rfl, rfl, by decide +kernel, rfl, by decide +kernel, by decide +kernel⟩
theorem h__law_world {k : Nat} {f__law_take : Fn} (d : Def K mg "_law_world" s__law_world ["pen"]) (B : Blt mg) (G__law_take : HasP P w K mg base "_law_take" (k) ["pen", "many"] f__law_take) : HasP P w K mg base "_law_world" (k + 1) ["pen"] (fnU 1 1 (c__law_world f__law_take)) :=
  d.pure sc__law_world fun f cdv A outer s H E hr => by
    have hu := hu_of hr
    have nd := sc__law_world.nd
    exact (qs_one (qs_ret (q_tup (q_cons (q_op o_add p_add (q_int wpe_int) (q_call G__law_take hr rfl (q_cons (q_var (wpv 0)) (q_cons (q_int wpe_int) q_nil)))) (q_cons (q_ix hu (q_lst (q_cons (q_int wpe_int) (q_cons (q_int wpe_int) (q_cons (q_int wpe_int) (q_cons (q_int wpe_int) (q_cons (q_op o_add p_add (q_int wpe_int) (q_call G__law_take hr rfl (q_cons (q_var (wpv 0)) (q_cons (q_int wpe_int) q_nil)))) q_nil)))))) (q_call G__law_take hr rfl (q_cons (q_var (wpv 0)) (q_cons (q_int wpe_int) q_nil))) (fun _ _ => rfl) (fun _ _ => rfl)) q_nil)))))
theorem sc__law_state : FnScope ["pen", "world"] ["pen", "world"] (defScope s__law_state) := ⟨rfl, rfl, rfl, by decide +kernel, rfl, by decide +kernel, by decide +kernel⟩
theorem h__law_state {k : Nat} {f__law_take : Fn} (d : Def K mg "_law_state" s__law_state ["pen", "world"]) (B : Blt mg) (G__law_take : HasP P w K mg base "_law_take" (k) ["pen", "many"] f__law_take) : HasP P w K mg base "_law_state" (k + 1) ["pen", "world"] (fnU 2 2 (c__law_state f__law_take)) :=
  d.pure sc__law_state fun f cdv A outer s H E hr => by
    have hu := hu_of hr
    have nd := sc__law_state.nd
    exact (qs_one (qs_ret (q_callTy call_tuple_of p_tuple rfl B.tuple OG.boot_tuple (q_cons (q_comp (Nc := ["box", "pen", "world"]) (tn := ["box"]) (capN := ["pen", "world"]) (caps := [0, 1]) rfl (qi_range1 rfl B.range (q_cons (q_ix hu (q_var (wpv 1)) (q_int wpe_int) (fun _ _ => rfl) (fun _ _ => rfl)) q_nil)) (fun _ _ _ => (qg_name (wpg_name (i := 0) (show (["box", "pen", "world"] : List Str).Nodup by decide +kernel) rfl (by first | exact Or.inl rfl | exact Or.inr rfl)))) (fun _ _ _ => (q_call G__law_take hr rfl (q_cons (q_var (wpv 1)) (q_cons (q_ix hu (q_var (wpv 2)) (q_int wpe_int) (fun _ _ => rfl) (fun _ _ => rfl)) q_nil)))) rfl rfl (by decide +kernel) (by decide +kernel) ⟨rfl, rfl, trivial⟩ rfl (.cons ⟨rfl, rfl, rfl, _, rfl⟩ (.cons ⟨rfl, rfl, rfl, _, rfl⟩ .nil)) rfl rfl) q_nil))))
theorem sc__law_size : FnScope ["dealing", "many", "deed"] ["dealing"] (defScope s__law_size) := ⟨rfl, rfl, rfl, by decide +kernel, rfl, by decide +kernel, by decide +kernel⟩
theorem h__law_size {k : Nat} {f__law_size : Fn} (d : Def K mg "_law_size" s__law_size ["dealing"]) (B : Blt mg) (G__law_size : HasP P w K mg base "_law_size" (k) ["dealing"] f__law_size) : HasP P w K mg base "_law_size" (k + 1) ["dealing"] (fnU 3 1 (c__law_size f__law_size)) :=
  d.pure sc__law_size fun f cdv A outer s H E hr => by
    have hu := hu_of hr
    have nd := sc__law_size.nd
    exact (qs_cons (qs_set (i := 1) nd rfl (by first | exact Or.inl rfl | exact Or.inr rfl) (q_int wpe_int))
      (qs_cons (qs_for PassesOwn.never rfl (qi_seq (q_var (wpv 0))) (qg_name (wpg_name (i := 2) nd rfl (by first | exact Or.inl rfl | exact Or.inr rfl))) (qs_cons (qs_set (i := 1) nd rfl (by first | exact Or.inl rfl | exact Or.inr rfl) (q_op o_add p_add (q_var (wpv 1)) (q_int wpe_int)))
      (qs_one (qs_if (q_tcmp op_eq p_eq (q_ix hu (q_var (wpv 2)) (q_int wpe_int) (fun _ _ => rfl) (fun _ _ => rfl)) (q_str wpe_str) (nomark _)) (qs_one (qs_set (i := 1) nd rfl (by first | exact Or.inl rfl | exact Or.inr rfl) (q_op o_add p_add (q_op o_add p_add (q_var (wpv 1)) (q_call G__law_size hr rfl (q_cons (q_ix hu (q_var (wpv 2)) (q_int wpe_int) (fun _ _ => rfl) (fun _ _ => rfl)) q_nil))) (q_call G__law_size hr rfl (q_cons (q_ix hu (q_var (wpv 2)) (q_int wpe_int) (fun _ _ => rfl) (fun _ _ => rfl)) q_nil))))) qs_nil))))
      (qs_one (qs_ret (q_var (wpv 1))))))
theorem sc__law_plain_deed : FnScope ["pen", "world", "way", "hand"] ["pen", "world", "way", "hand"] (defScope s__law_plain_deed) := ⟨rfl, rfl, rfl, by decide +kernel, rfl, by decide +kernel, by decide +kernel⟩
theorem h__law_plain_deed {k : Nat} {f__law_take : Fn} (d : Def K mg "_law_plain_deed" s__law_plain_deed ["pen", "world", "way", "hand"]) (B : Blt mg) (G__law_take : HasP P w K mg base "_law_take" (k) ["pen", "many"] f__law_take) : HasP P w K mg base "_law_plain_deed" (k + 1) ["pen", "world", "way", "hand"] (fnU 4 4 (c__law_plain_deed f__law_take)) :=
  d.pure sc__law_plain_deed fun f cdv A outer s H E hr => by
    have hu := hu_of hr
    have nd := sc__law_plain_deed.nd
    exact (qs_cons (qs_if (q_tcmp op_lt p_lt (q_var (wpv 2)) (q_int wpe_int) (nomark _)) (qs_one (qs_ret (q_tup (q_cons (q_str wpe_str) (q_cons (q_var (wpv 3)) (q_cons (q_call G__law_take hr rfl (q_cons (q_var (wpv 0)) (q_cons (q_ix hu (q_var (wpv 1)) (q_int wpe_int) (fun _ _ => rfl) (fun _ _ => rfl)) q_nil))) q_nil)))))) qs_nil)
      (qs_cons (qs_if (q_tcmp op_lt p_lt (q_var (wpv 2)) (q_int wpe_int) (nomark _)) (qs_one (qs_ret (q_tup (q_cons (q_str wpe_str) (q_cons (q_call G__law_take hr rfl (q_cons (q_var (wpv 0)) (q_cons (q_ix hu (q_var (wpv 1)) (q_int wpe_int) (fun _ _ => rfl) (fun _ _ => rfl)) q_nil))) (q_cons (q_var (wpv 3)) q_nil)))))) qs_nil)
      (qs_cons (qs_if (q_tcmp op_lt p_lt (q_var (wpv 2)) (q_int wpe_int) (nomark _)) (qs_one (qs_ret (q_tup (q_cons (q_str wpe_str) (q_cons (q_var (wpv 3)) (q_cons (q_call G__law_take hr rfl (q_cons (q_var (wpv 0)) (q_cons (q_ix hu (q_var (wpv 1)) (q_int wpe_int) (fun _ _ => rfl) (fun _ _ => rfl)) q_nil))) q_nil)))))) qs_nil)
      (qs_cons (qs_if (q_tcmp op_lt p_lt (q_var (wpv 2)) (q_int wpe_int) (nomark _)) (qs_one (qs_ret (q_tup (q_cons (q_str wpe_str) (q_cons (q_var (wpv 3)) (q_cons (q_call G__law_take hr rfl (q_cons (q_var (wpv 0)) (q_cons (q_int wpe_int) q_nil))) q_nil)))))) qs_nil)
      (qs_one (qs_ret (q_tup (q_cons (q_str wpe_str) (q_cons (q_var (wpv 3)) (q_cons (q_op o_add p_add (q_int wpe_int) (q_call G__law_take hr rfl (q_cons (q_var (wpv 0)) (q_cons (q_ix hu (q_lst (q_cons (q_int wpe_int) (q_cons (q_int wpe_int) q_nil))) (q_call G__law_take hr rfl (q_cons (q_var (wpv 0)) (q_cons (q_int wpe_int) q_nil))) (fun _ _ => rfl) (fun _ _ => rfl)) q_nil)))) q_nil))))))))))
theorem sc__law_dealing : FnScope ["pen", "world", "room", "tries", "deeds", "left", "k", "way", "hand", "one", "other"] ["pen", "world", "room", "tries"] (defScope s__law_dealing) := ⟨rfl, rfl, rfl, by decide +kernel, rfl, by decide +kernel, by decide +kernel⟩
theorem h__law_dealing {k : Nat} {f__law_take f__law_plain_deed f__law_dealing f__law_size : Fn} (d : Def K mg "_law_dealing" s__law_dealing ["pen", "world", "room", "tries"]) (B : Blt mg) (G__law_take : HasP P w K mg base "_law_take" (k) ["pen", "many"] f__law_take) (G__law_plain_deed : HasP P w K mg base "_law_plain_deed" (k) ["pen", "world", "way", "hand"] f__law_plain_deed) (G__law_dealing : HasP P w K mg base "_law_dealing" (k) ["pen", "world", "room", "tries"] f__law_dealing) (G__law_size : HasP P w K mg base "_law_size" (k) ["dealing"] f__law_size) : HasP P w K mg base "_law_dealing" (k + 1) ["pen", "world", "room", "tries"] (fnU 11 4 (c__law_dealing f__law_take f__law_plain_deed f__law_dealing f__law_size)) :=
  d.pure sc__law_dealing fun f cdv A outer s H E hr => by
    have hu := hu_of hr
    have nd := sc__law_dealing.nd
    exact (qs_cons (qs_set (i := 4) nd rfl (by first | exact Or.inl rfl | exact Or.inr rfl) (q_lst q_nil))
      (qs_cons (qs_set (i := 5) nd rfl (by first | exact Or.inl rfl | exact Or.inr rfl) (q_var (wpv 2)))
      (qs_cons (qs_for PassesOwn.never rfl (qi_range1 rfl B.range (q_cons (q_call G__law_take hr rfl (q_cons (q_var (wpv 0)) (q_cons (q_op o_add p_add (q_callB (call_min2 rfl) p_min rfl B.min OG.boot_min (q_cons (q_int wpe_int) (q_cons (q_var (wpv 2)) q_nil))) (q_int wpe_int)) q_nil))) q_nil)) (qg_name (wpg_name (i := 6) nd rfl (by first | exact Or.inl rfl | exact Or.inr rfl))) (qs_cons (qs_set (i := 7) nd rfl (by first | exact Or.inl rfl | exact Or.inr rfl) (q_call G__law_take hr rfl (q_cons (q_var (wpv 0)) (q_cons (q_int wpe_int) q_nil))))
      (qs_cons (qs_set (i := 8) nd rfl (by first | exact Or.inl rfl | exact Or.inr rfl) (q_call G__law_take hr rfl (q_cons (q_var (wpv 0)) (q_cons (q_int wpe_int) q_nil))))
      (qs_one (qs_if (q_wt (q_and (q_tcmp op_gt p_gt (q_var (wpv 5)) (q_int wpe_int) (nomark _)) (q_and (q_tcmp op_lt p_lt (q_callB o_len p_len rfl B.len PySem.boot_len (q_cons (q_var (wpv 4)) q_nil)) (q_int wpe_int) (nomark _)) (q_and1 (q_tcmp op_lt p_lt (q_var (wpv 7)) (q_int wpe_int) (nomark _)))))) (qs_cons (qs_expr (q_append (q_var (wpv 4)) (q_cons (q_call G__law_plain_deed hr rfl (q_cons (q_var (wpv 0)) (q_cons (q_var (wpv 1)) (q_cons (q_var (wpv 7)) (q_cons (q_var (wpv 8)) q_nil))))) q_nil)))
      (qs_one (qs_set (i := 5) nd rfl (by first | exact Or.inl rfl | exact Or.inr rfl) (q_op op_sub p_sub (q_var (wpv 5)) (q_int wpe_int))))) (qs_one (qs_if (q_wt (q_and (q_tcmp op_gt p_gt (q_var (wpv 5)) (q_int wpe_int) (nomark _)) (q_and (q_tcmp op_lt p_lt (q_callB o_len p_len rfl B.len PySem.boot_len (q_cons (q_var (wpv 4)) q_nil)) (q_int wpe_int) (nomark _)) (q_and1 (q_wt (q_or (q_tcmp op_eq p_eq (q_var (wpv 7)) (q_int wpe_int) (nomark _)) (q_or1 (q_tcmp op_eq p_eq (q_var (wpv 3)) (q_int wpe_int) (nomark _))))))))) (qs_cons (qs_if (q_wt (q_and (q_tcmp op_gt p_gt (q_var (wpv 5)) (q_int wpe_int) (nomark _)) (q_and (q_tcmp op_lt p_lt (q_callB o_len p_len rfl B.len PySem.boot_len (q_cons (q_var (wpv 4)) q_nil)) (q_int wpe_int) (nomark _)) (q_and1 (q_tcmp op_gt p_gt (q_call G__law_take hr rfl (q_cons (q_var (wpv 0)) (q_cons (q_int wpe_int) q_nil))) (q_int wpe_int) (nomark _)))))) (qs_cons (qs_expr (q_append (q_var (wpv 4)) (q_cons (q_tup (q_cons (q_str wpe_str) (q_cons (q_var (wpv 8)) (q_cons (q_int wpe_int) q_nil)))) q_nil)))
      (qs_one (qs_set (i := 5) nd rfl (by first | exact Or.inl rfl | exact Or.inr rfl) (q_op op_sub p_sub (q_var (wpv 5)) (q_int wpe_int))))) qs_nil)
      (qs_cons (qs_expr (q_append (q_var (wpv 4)) (q_cons (q_tup (q_cons (q_str wpe_str) q_nil)) q_nil)))
      (qs_one (qs_set (i := 5) nd rfl (by first | exact Or.inl rfl | exact Or.inr rfl) (q_op op_sub p_sub (q_var (wpv 5)) (q_int wpe_int)))))) (qs_one (qs_if (q_wt (q_and (q_tcmp op_gt p_gt (q_var (wpv 5)) (q_int wpe_int) (nomark _)) (q_and1 (q_tcmp op_lt p_lt (q_callB o_len p_len rfl B.len PySem.boot_len (q_cons (q_var (wpv 4)) q_nil)) (q_int wpe_int) (nomark _))))) (qs_cons (qs_set (i := 9) nd rfl (by first | exact Or.inl rfl | exact Or.inr rfl) (q_call G__law_dealing hr rfl (q_cons (q_var (wpv 0)) (q_cons (q_var (wpv 1)) (q_cons (q_call G__law_take hr rfl (q_cons (q_var (wpv 0)) (q_cons (q_var (wpv 5)) q_nil))) (q_cons (q_op op_sub p_sub (q_var (wpv 3)) (q_int wpe_int)) q_nil))))))
      (qs_cons (qs_set (i := 5) nd rfl (by first | exact Or.inl rfl | exact Or.inr rfl) (q_op op_sub p_sub (q_op op_sub p_sub (q_var (wpv 5)) (q_int wpe_int)) (q_call G__law_size hr rfl (q_cons (q_var (wpv 9)) q_nil))))
      (qs_cons (qs_set (i := 10) nd rfl (by first | exact Or.inl rfl | exact Or.inr rfl) (q_call G__law_dealing hr rfl (q_cons (q_var (wpv 0)) (q_cons (q_var (wpv 1)) (q_cons (q_call G__law_take hr rfl (q_cons (q_var (wpv 0)) (q_cons (q_op o_add p_add (q_var (wpv 5)) (q_int wpe_int)) q_nil))) (q_cons (q_op op_sub p_sub (q_var (wpv 3)) (q_int wpe_int)) q_nil))))))
      (qs_cons (qs_set (i := 5) nd rfl (by first | exact Or.inl rfl | exact Or.inr rfl) (q_op op_sub p_sub (q_var (wpv 5)) (q_call G__law_size hr rfl (q_cons (q_var (wpv 10)) q_nil))))
      (qs_one (qs_expr (q_append (q_var (wpv 4)) (q_cons (q_tup (q_cons (q_str wpe_str) (q_cons (q_var (wpv 9)) (q_cons (q_var (wpv 10)) q_nil)))) q_nil)))))))) qs_nil)))))))))
      (qs_one (qs_ret (q_callTy call_tuple_of p_tuple rfl B.tuple OG.boot_tuple (q_cons (q_var (wpv 4)) q_nil)))))))
theorem sc__law_plain : FnScope ["world", "deed", "now", "word", "one", "other"] ["world", "deed", "now"] (defScope s__law_plain) := ⟨rfl, rfl, rfl, by decide +kernel, rfl, by decide +kernel, by decide +kernel⟩
theorem h__law_plain {k : Nat} (d : Def K mg "_law_plain" s__law_plain ["world", "deed", "now"]) (B : Blt mg) : HasP P w K mg base "_law_plain" (k + 1) ["world", "deed", "now"] (fnU 6 3 (c__law_plain )) :=
  d.pure sc__law_plain fun f cdv A outer s H E hr => by
    have hu := hu_of hr
    have nd := sc__law_plain.nd
    exact (qs_cons (qs_asg (q_var (wpv 1)) (qg_tup rfl (qgs_cons (wpg_name (i := 3) nd rfl (by first | exact Or.inl rfl | exact Or.inr rfl)) (qgs_cons (wpg_name (i := 4) nd rfl (by first | exact Or.inl rfl | exact Or.inr rfl)) (qgs_cons (wpg_name (i := 5) nd rfl (by first | exact Or.inl rfl | exact Or.inr rfl)) qgs_nil)))))
      (qs_one (qs_if (q_tcmp op_eq p_eq (q_var (wpv 3)) (q_str wpe_str) (nomark _)) (qs_cons (qs_if (q_wt (q_and (q_tnotin hu (q_var (wpv 5)) (q_ix hu (q_var (wpv 2)) (q_str wpe_str) (fun _ _ => rfl) (fun _ _ => rfl)) (by with_unfolding_all rfl)) (q_and1 (q_tnotin hu (q_var (wpv 5)) (q_ix hu (q_var (wpv 2)) (q_str wpe_str) (fun _ _ => rfl) (fun _ _ => rfl)) (by with_unfolding_all rfl))))) (qs_one (qs_expr (q_append (q_ix hu (q_var (wpv 2)) (q_str wpe_str) (fun _ _ => rfl) (fun _ _ => rfl)) (q_cons (q_var (wpv 5)) q_nil)))) qs_nil)
      (qs_one (qs_setIx hu (q_ix hu (q_var (wpv 2)) (q_str wpe_str) (fun _ _ => rfl) (fun _ _ => rfl)) (q_var (wpv 4)) (q_ix hu (q_ix hu (q_var (wpv 2)) (q_str wpe_str) (fun _ _ => rfl) (fun _ _ => rfl)) (q_var (wpv 5)) (fun _ _ => rfl) (fun _ _ => rfl))))) (qs_one (qs_if (q_tcmp op_eq p_eq (q_var (wpv 3)) (q_str wpe_str) (nomark _)) (qs_cons (qs_setIx hu (q_ix hu (q_var (wpv 2)) (q_str wpe_str) (fun _ _ => rfl) (fun _ _ => rfl)) (q_var (wpv 4)) (q_ix hu (q_ix hu (q_var (wpv 2)) (q_str wpe_str) (fun _ _ => rfl) (fun _ _ => rfl)) (q_var (wpv 5)) (fun _ _ => rfl) (fun _ _ => rfl)))
      (qs_one (qs_if (q_tnotin hu (q_var (wpv 4)) (q_ix hu (q_var (wpv 2)) (q_str wpe_str) (fun _ _ => rfl) (fun _ _ => rfl)) (by with_unfolding_all rfl)) (qs_one (qs_expr (q_append (q_ix hu (q_var (wpv 2)) (q_str wpe_str) (fun _ _ => rfl) (fun _ _ => rfl)) (q_cons (q_var (wpv 4)) q_nil)))) qs_nil))) (qs_one (qs_if (q_tcmp op_eq p_eq (q_var (wpv 3)) (q_str wpe_str) (nomark _)) (qs_one (qs_setIx hu (q_ix hu (q_var (wpv 2)) (q_str wpe_str) (fun _ _ => rfl) (fun _ _ => rfl)) (q_var (wpv 4)) (q_var (wpv 5)))) (qs_one (qs_setIx hu (q_ix hu (q_var (wpv 2)) (q_str wpe_str) (fun _ _ => rfl) (fun _ _ => rfl)) (q_var (wpv 4)) (q_op op_mod p_mod (q_op o_add p_add (q_ix hu (q_ix hu (q_var (wpv 2)) (q_str wpe_str) (fun _ _ => rfl) (fun _ _ => rfl)) (q_var (wpv 4)) (fun _ _ => rfl) (fun _ _ => rfl)) (q_ix hu (q_ix hu (q_var (wpv 2)) (q_str wpe_str) (fun _ _ => rfl) (fun _ _ => rfl)) (q_var (wpv 5)) (fun _ _ => rfl) (fun _ _ => rfl))) (q_ix hu (q_var (wpv 0)) (q_int wpe_int) (fun _ _ => rfl) (fun _ _ => rfl))))))))))))
theorem sc__law_waits : FnScope ["world", "dealing", "now", "out", "deed", "kept", "part"] ["world", "dealing", "now"] (defScope s__law_waits) := ⟨rfl, rfl, rfl, by decide +kernel, rfl, by decide +kernel, by decide +kernel⟩
theorem h__law_waits {k : Nat} {f__law_plain f__law_waits : Fn} (d : Def K mg "_law_waits" s__law_waits ["world", "dealing", "now"]) (B : Blt mg) (G__law_plain : HasP P w K mg base "_law_plain" (k) ["world", "deed", "now"] f__law_plain) (G__law_waits : HasP P w K mg base "_law_waits" (k) ["world", "dealing", "now"] f__law_waits) : HasP P w K mg base "_law_waits" (k + 1) ["world", "dealing", "now"] (fnU 7 3 (c__law_waits f__law_plain f__law_waits)) :=
  d.pure sc__law_waits fun f cdv A outer s H E hr => by
    have hu := hu_of hr
    have nd := sc__law_waits.nd
    exact (qs_cons (qs_set (i := 3) nd rfl (by first | exact Or.inl rfl | exact Or.inr rfl) (q_int wpe_int))
      (qs_cons (qs_for PassesOwn.never rfl (qi_seq (q_var (wpv 1))) (qg_name (wpg_name (i := 4) nd rfl (by first | exact Or.inl rfl | exact Or.inr rfl))) (qs_one (qs_if (q_tcmp op_gt p_gt (q_var (wpv 3)) (q_int wpe_int) (nomark _)) (qs_one (qs_set (i := 3) nd rfl (by first | exact Or.inl rfl | exact Or.inr rfl) (q_op op_sub p_sub (q_var (wpv 3)) (q_int wpe_int)))) (qs_one (qs_if (q_tcmp op_eq p_eq (q_ix hu (q_var (wpv 4)) (q_int wpe_int) (fun _ _ => rfl) (fun _ _ => rfl)) (q_str wpe_str) (nomark _)) (qs_one (qs_ret (q_bl wpe_bl))) (qs_one (qs_if (q_tcmp op_eq p_eq (q_ix hu (q_var (wpv 4)) (q_int wpe_int) (fun _ _ => rfl) (fun _ _ => rfl)) (q_str wpe_str) (nomark _)) (qs_one (qs_set (i := 3) nd rfl (by first | exact Or.inl rfl | exact Or.inr rfl) (q_op op_mul p_mul (q_ix hu (q_var (wpv 4)) (q_int wpe_int) (fun _ _ => rfl) (fun _ _ => rfl)) (q_callTy call_int1 p_int rfl B.int OG.boot_int (q_cons (q_cmp op_eq p_eq (q_ix hu (q_ix hu (q_var (wpv 2)) (q_str wpe_str) (fun _ _ => rfl) (fun _ _ => rfl)) (q_ix hu (q_var (wpv 4)) (q_int wpe_int) (fun _ _ => rfl) (fun _ _ => rfl)) (fun _ _ => rfl) (fun _ _ => rfl)) (q_int wpe_int) (nomark _)) q_nil))))) (qs_one (qs_if (q_tcmp op_ne p_ne (q_ix hu (q_var (wpv 4)) (q_int wpe_int) (fun _ _ => rfl) (fun _ _ => rfl)) (q_str wpe_str) (nomark _)) (qs_one (qs_expr (q_call G__law_plain hr rfl (q_cons (q_var (wpv 0)) (q_cons (q_var (wpv 4)) (q_cons (q_var (wpv 2)) q_nil)))))) (qs_cons (qs_set (i := 5) nd rfl (by first | exact Or.inl rfl | exact Or.inr rfl) (q_disp (qp_cons (q_str wpe_str) (q_callTy call_list_of p_list rfl B.list OG.boot_list (q_cons (q_ix hu (q_var (wpv 2)) (q_str wpe_str) (fun _ _ => rfl) (fun _ _ => rfl)) q_nil)) (qp_cons (q_str wpe_str) (q_callTy call_list_of p_list rfl B.list OG.boot_list (q_cons (q_ix hu (q_var (wpv 2)) (q_str wpe_str) (fun _ _ => rfl) (fun _ _ => rfl)) q_nil)) (qp_cons (q_str wpe_str) (q_callTy call_list_of p_list rfl B.list OG.boot_list (q_cons (q_ix hu (q_var (wpv 2)) (q_str wpe_str) (fun _ _ => rfl) (fun _ _ => rfl)) q_nil)) qp_nil))) rfl rfl (by simp) (by exact Nat.le_of_ble_eq_true rfl) (by exact Nat.le_of_ble_eq_true rfl)))
      (qs_one (qs_if (q_tval (q_call G__law_waits hr rfl (q_cons (q_var (wpv 0)) (q_cons (q_ix hu (q_var (wpv 4)) (q_int wpe_int) (fun _ _ => rfl) (fun _ _ => rfl)) (q_cons (q_var (wpv 2)) q_nil))))) (qs_cons (qs_forD PassesOwn.never rfl (q_var (wpv 5)) (qg_name (wpg_name (i := 6) nd rfl (by first | exact Or.inl rfl | exact Or.inr rfl))) (qs_one (qs_setIx hu (q_var (wpv 2)) (q_var (wpv 6)) (q_ix hu (q_var (wpv 5)) (q_var (wpv 6)) (fun _ _ => rfl) (fun _ _ => rfl)))))
      (qs_one (qs_if (q_tval (q_call G__law_waits hr rfl (q_cons (q_var (wpv 0)) (q_cons (q_ix hu (q_var (wpv 4)) (q_int wpe_int) (fun _ _ => rfl) (fun _ _ => rfl)) (q_cons (q_var (wpv 2)) q_nil))))) (qs_one (qs_ret (q_bl wpe_bl))) qs_nil))) qs_nil))))))))))))
      (qs_one (qs_ret (q_bl wpe_bl)))))
theorem sc__law_alone : FnScope ["world", "dealing", "state", "now"] ["world", "dealing", "state"] (defScope s__law_alone) := ⟨rfl, rfl, rfl, by decide +kernel, rfl, by decide +kernel, by decide +kernel⟩
theorem h__law_alone {k : Nat} {f__law_waits : Fn} (d : Def K mg "_law_alone" s__law_alone ["world", "dealing", "state"]) (B : Blt mg) (G__law_waits : HasP P w K mg base "_law_waits" (k) ["world", "dealing", "now"] f__law_waits) : HasP P w K mg base "_law_alone" (k + 1) ["world", "dealing", "state"] (fnU 4 3 (c__law_alone f__law_waits)) :=
  d.pure sc__law_alone fun f cdv A outer s H E hr => by
    have hu := hu_of hr
    have nd := sc__law_alone.nd
    exact (qs_cons (qs_set (i := 3) nd rfl (by first | exact Or.inl rfl | exact Or.inr rfl) (q_disp (qp_cons (q_str wpe_str) (q_callTy call_list_of p_list rfl B.list OG.boot_list (q_cons (q_var (wpv 2)) q_nil)) (qp_cons (q_str wpe_str) (q_lst q_nil) (qp_cons (q_str wpe_str) (q_lst (q_cons (q_int wpe_int) (q_cons (q_int wpe_int) (q_cons (q_int wpe_int) (q_cons (q_int wpe_int) q_nil))))) (qp_cons (q_str wpe_str) (q_lst q_nil) qp_nil)))) rfl rfl (by simp) (by exact Nat.le_of_ble_eq_true rfl) (by exact Nat.le_of_ble_eq_true rfl)))
      (qs_cons (qs_if (q_tval (q_call G__law_waits hr rfl (q_cons (q_var (wpv 0)) (q_cons (q_var (wpv 1)) (q_cons (q_var (wpv 3)) q_nil))))) (qs_one (qs_ret (q_tup (q_cons (q_str wpe_str) (q_cons (q_callB (o_sorted rfl) p_sorted rfl B.sorted OG.boot_sorted (q_cons (q_ix hu (q_var (wpv 3)) (q_str wpe_str) (fun _ _ => rfl) (fun _ _ => rfl)) q_nil)) q_nil))))) qs_nil)
      (qs_one (qs_ret (q_tup (q_cons (q_str wpe_str) (q_cons (q_callTy call_tuple_of p_tuple rfl B.tuple OG.boot_tuple (q_cons (q_ix hu (q_var (wpv 3)) (q_str wpe_str) (fun _ _ => rfl) (fun _ _ => rfl)) q_nil)) (q_cons (q_callTy call_tuple_of p_tuple rfl B.tuple OG.boot_tuple (q_cons (q_ix hu (q_var (wpv 3)) (q_str wpe_str) (fun _ _ => rfl) (fun _ _ => rfl)) q_nil)) q_nil))))))))
theorem sc__law_same : FnScope ["found", "due"] ["found", "due"] (defScope s__law_same) := ⟨rfl, rfl, rfl, by decide +kernel, rfl, by decide +kernel, by decide +kernel⟩
theorem h__law_same {k : Nat} {f__law_same : Fn} (d : Def K mg "_law_same" s__law_same ["found", "due"]) (B : Blt mg) (G__law_same : HasP P w K mg base "_law_same" (k) ["found", "due"] f__law_same) : HasP P w K mg base "_law_same" (k + 1) ["found", "due"] (fnU 2 2 (c__law_same f__law_same)) :=
  d.pure sc__law_same fun f cdv A outer s H E hr => by
    have hu := hu_of hr
    have nd := sc__law_same.nd
    exact (qs_cons (qs_if (q_tcmp op_isN p_isN (q_var (wpv 1)) (q_non wpe_non) (nomark _)) (qs_one (qs_ret (q_cmp op_isN p_isN (q_var (wpv 0)) (q_non wpe_non) (nomark _)))) qs_nil)
      (qs_cons (qs_if (q_tval (q_isi (T := .bool) (by intro z; cases z) (q_var (wpv 1)) (wpe_ty rfl B.bool OG.boot_bool) rfl B.isinstance)) (qs_one (qs_ret (q_andV (q_isi (T := .bool) (by intro z; cases z) (q_var (wpv 0)) (wpe_ty rfl B.bool OG.boot_bool) rfl B.isinstance) (q_one (q_cmp op_eq p_eq (q_var (wpv 0)) (q_var (wpv 1)) (nomark _)))))) qs_nil)
      (qs_cons (qs_if (q_tval (q_isi (T := .str) (by intro z; cases z) (q_var (wpv 1)) (wpe_ty rfl B.str OG.boot_str) rfl B.isinstance)) (qs_one (qs_ret (q_andV (q_isi (T := .str) (by intro z; cases z) (q_var (wpv 0)) (wpe_ty rfl B.str OG.boot_str) rfl B.isinstance) (q_one (q_cmp op_eq p_eq (q_var (wpv 0)) (q_var (wpv 1)) (nomark _)))))) qs_nil)
      (qs_cons (qs_if (q_tval (q_isi (T := .int) (by intro z; cases z) (q_var (wpv 1)) (wpe_ty rfl B.int OG.boot_int) rfl B.isinstance)) (qs_one (qs_ret (q_andV (q_isi (T := .int) (by intro z; cases z) (q_var (wpv 0)) (wpe_ty rfl B.int OG.boot_int) rfl B.isinstance) (q_andV (q_notV (q_isi (T := .bool) (by intro z; cases z) (q_var (wpv 0)) (wpe_ty rfl B.bool OG.boot_bool) rfl B.isinstance)) (q_one (q_cmp op_eq p_eq (q_var (wpv 0)) (q_var (wpv 1)) (nomark _))))))) qs_nil)
      (qs_cons (qs_if (q_wt (q_or (q_tcmp op_ne p_ne (q_isi (T := .tuple) (by intro z; cases z) (q_var (wpv 1)) (wpe_ty rfl B.tuple OG.boot_tuple) rfl B.isinstance) (q_isi (T := .tuple) (by intro z; cases z) (q_var (wpv 0)) (wpe_ty rfl B.tuple OG.boot_tuple) rfl B.isinstance) (nomark _)) (q_or1 (q_tcmp op_ne p_ne (q_isi (T := .list) (by intro z; cases z) (q_var (wpv 1)) (wpe_ty rfl B.list OG.boot_list) rfl B.isinstance) (q_isi (T := .list) (by intro z; cases z) (q_var (wpv 0)) (wpe_ty rfl B.list OG.boot_list) rfl B.isinstance) (nomark _))))) (qs_one (qs_ret (q_bl wpe_bl))) qs_nil)
      (qs_one (qs_ret (q_andV (q_cmp op_eq p_eq (q_callB o_len p_len rfl B.len PySem.boot_len (q_cons (q_var (wpv 0)) q_nil)) (q_callB o_len p_len rfl B.len PySem.boot_len (q_cons (q_var (wpv 1)) q_nil)) (nomark _)) (q_one (q_notin hu (q_bl wpe_bl) (q_comp (Nc := ["one", "other"]) (tn := ["one", "other"]) (capN := []) (caps := []) rfl (qi_zip rfl B.zip (q_var (wpv 0)) (q_var (wpv 1))) (fun _ _ _ => (qg_tup rfl (qgs_cons (wpg_name (i := 0) (show (["one", "other"] : List Str).Nodup by decide +kernel) rfl (by first | exact Or.inl rfl | exact Or.inr rfl)) (qgs_cons (wpg_name (i := 1) (show (["one", "other"] : List Str).Nodup by decide +kernel) rfl (by first | exact Or.inl rfl | exact Or.inr rfl)) qgs_nil)))) (fun _ _ _ => (q_call G__law_same hr rfl (q_cons (q_var (wpv 0)) (q_cons (q_var (wpv 1)) q_nil)))) rfl rfl (by decide +kernel) (by decide +kernel) trivial rfl .nil rfl rfl) (by with_unfolding_all rfl)))))))))))
theorem sc_with_at : FnScope ["row", "place", "value"] ["row", "place", "value"] (defScope s_with_at) := ⟨rfl, rfl, rfl, by decide +kernel, rfl, by decide +kernel, by decide +kernel⟩
theorem h_with_at {k : Nat} (d : Def K mg "with_at" s_with_at ["row", "place", "value"]) (B : Blt mg) : HasP P w K mg base "with_at" (k + 1) ["row", "place", "value"] (fnU 3 3 (c_with_at )) :=
  d.pure sc_with_at fun f cdv A outer s H E hr => by
    have hu := hu_of hr
    have nd := sc_with_at.nd
    exact (qs_one (qs_ret (q_op o_add p_add (q_op o_add p_add (q_sl (q_var (wpv 0)) qo_none (qo_some (q_var (wpv 1)))) (q_tup (q_cons (q_var (wpv 2)) q_nil))) (q_sl (q_var (wpv 0)) (qo_some (q_op o_add p_add (q_var (wpv 1)) (q_int wpe_int))) qo_none))))
theorem sc_onwards : FnScope ["part", "reached"] ["part"] (defScope s_onwards) := ⟨rfl, rfl, rfl, by decide +kernel, rfl, by decide +kernel, by decide +kernel⟩
theorem h_onwards {k : Nat} {fuel : Nat} (d : Def K mg "onwards" s_onwards ["part"]) (B : Blt mg) : HasP P w K mg base "onwards" (k + 1) ["part"] (fnU 2 1 (c_onwards fuel)) :=
  d.pure sc_onwards fun f cdv A outer s H E hr => by
    have hu := hu_of hr
    have nd := sc_onwards.nd
    exact (qs_cons (qs_set (i := 1) nd rfl (by first | exact Or.inl rfl | exact Or.inr rfl) (q_var (wpv 0)))
      (qs_cons (qs_while fuel PassesOwn.never (q_wt (q_and (q_tcmp op_ge p_ge (q_ix hu (q_var (wpv 1)) (q_int wpe_int) (fun _ _ => rfl) (fun _ _ => rfl)) (q_callB o_len p_len rfl B.len PySem.boot_len (q_cons (q_ix hu (q_var (wpv 1)) (q_int wpe_int) (fun _ _ => rfl) (fun _ _ => rfl)) q_nil)) (nomark _)) (q_and1 (q_tcmp op_notN p_notN (q_ix hu (q_var (wpv 1)) (q_int wpe_int) (fun _ _ => rfl) (fun _ _ => rfl)) (q_non wpe_non) (nomark _))))) (qs_one (qs_set (i := 1) nd rfl (by first | exact Or.inl rfl | exact Or.inr rfl) (q_ix hu (q_var (wpv 1)) (q_int wpe_int) (fun _ _ => rfl) (fun _ _ => rfl)))))
      (qs_one (qs_ret (q_var (wpv 1))))))
theorem sc_Doing_deed : FnScope ["self"] ["self"] (defScope s_Doing_deed) := ⟨rfl, rfl, rfl, by decide +kernel, rfl, by decide +kernel, by decide +kernel⟩
theorem h_Doing_deed {k : Nat} {cDoing : Cl} {fa : Addr} {fd : FuncData} (F : Fun K "deed" "Doing.deed" s_Doing_deed fa fd) (bi : Binds K fd ["self"] []) (mt : Meth K cDoing.C "deed" fa) (B : Blt mg) (TDoing : TC K cDoing ["wheel", "held", "puts", "part"]) : MHas P w K mg base cDoing "deed" (k + 1) ["self"] (fnU 1 1 (c_Doing_deed cDoing)) :=
  ⟨⟨fa, fd, mt, F.pure sc_Doing_deed fun cdv A outer s H E hr => (by
    have hu := hu_of hr
    have nd := sc_Doing_deed.nd
    exact (qs_cons (qs_if (q_tcmp op_ge p_ge (q_ix hu (q_fld TDoing.cl (TDoing.na 3 rfl) (TDoing.ix rfl) (q_var (wpv 0))) (q_int wpe_int) (fun _ _ => rfl) (fun _ _ => rfl)) (q_callB o_len p_len rfl B.len PySem.boot_len (q_cons (q_ix hu (q_fld TDoing.cl (TDoing.na 3 rfl) (TDoing.ix rfl) (q_var (wpv 0))) (q_int wpe_int) (fun _ _ => rfl) (fun _ _ => rfl)) q_nil)) (nomark _)) (qs_one (qs_ret (q_non wpe_non))) qs_nil)
      (qs_one (qs_ret (q_ix hu (q_ix hu (q_fld TDoing.cl (TDoing.na 3 rfl) (TDoing.ix rfl) (q_var (wpv 0))) (q_int wpe_int) (fun _ _ => rfl) (fun _ _ => rfl)) (q_ix hu (q_fld TDoing.cl (TDoing.na 3 rfl) (TDoing.ix rfl) (q_var (wpv 0))) (q_int wpe_int) (fun _ _ => rfl) (fun _ _ => rfl)) (fun _ _ => rfl) (fun _ _ => rfl)))))), bi⟩⟩
theorem sc_Doing_asks : FnScope ["self", "deed"] ["self"] (defScope s_Doing_asks) := ⟨rfl, rfl, rfl, by decide +kernel, rfl, by decide +kernel, by decide +kernel⟩
theorem h_Doing_asks {k : Nat} {f_Doing_deed : Fn} {cDoing : Cl} {fa : Addr} {fd : FuncData} (F : Fun K "asks" "Doing.asks" s_Doing_asks fa fd) (bi : Binds K fd ["self"] []) (mt : Meth K cDoing.C "asks" fa) (B : Blt mg) (TDoing : TC K cDoing ["wheel", "held", "puts", "part"]) (M_Doing_deed : MHas P w K mg base cDoing "deed" (k) ["self"] f_Doing_deed) : MHas P w K mg base cDoing "asks" (k + 1) ["self"] (fnU 2 1 (c_Doing_asks f_Doing_deed cDoing)) :=
  ⟨⟨fa, fd, mt, F.pure sc_Doing_asks fun cdv A outer s H E hr => (by
    have hu := hu_of hr
    have nd := sc_Doing_asks.nd
    exact (qs_cons (qs_set (i := 1) nd rfl (by first | exact Or.inl rfl | exact Or.inr rfl) (q_meth0 TDoing.cl M_Doing_deed hr (TDoing.nm (by decide +kernel)) (q_var (wpv 0))))
      (qs_one (qs_ret (q_andV (q_cmp op_eq p_eq (q_ix hu (q_var (wpv 1)) (q_int wpe_int) (fun _ _ => rfl) (fun _ _ => rfl)) (q_str wpe_str) (nomark _)) (q_one (q_cmp op_isN p_isN (q_ix hu (q_fld TDoing.cl (TDoing.na 2 rfl) (TDoing.ix rfl) (q_var (wpv 0))) (q_ix hu (q_var (wpv 1)) (q_int wpe_int) (fun _ _ => rfl) (fun _ _ => rfl)) (fun _ _ => rfl) (fun _ _ => rfl)) (q_non wpe_non) (nomark _)))))))), bi⟩⟩
theorem sc_Doing_hold : FnScope ["self", "hand", "number"] ["self", "hand", "number"] (defScope s_Doing_hold) := ⟨rfl, rfl, rfl, by decide +kernel, rfl, by decide +kernel, by decide +kernel⟩
theorem h_Doing_hold {k : Nat} {f_with_at : Fn} {cDoing : Cl} {fa : Addr} {fd : FuncData} (F : Fun K "hold" "Doing.hold" s_Doing_hold fa fd) (bi : Binds K fd ["self", "hand", "number"] []) (mt : Meth K cDoing.C "hold" fa) (B : Blt mg) (TDoing : TC K cDoing ["wheel", "held", "puts", "part"]) (G_with_at : HasP P w K mg base "with_at" (k) ["row", "place", "value"] f_with_at) : MHas P w K mg base cDoing "hold" (k + 1) ["self", "hand", "number"] (fnU 3 3 (c_Doing_hold f_with_at cDoing)) :=
  ⟨⟨fa, fd, mt, F.pure sc_Doing_hold fun cdv A outer s H E hr => (by
    have hu := hu_of hr
    have nd := sc_Doing_hold.nd
    exact (qs_one (qs_setF TDoing.cl (TDoing.na 1 rfl) (TDoing.ix rfl) (q_var (wpv 0)) (q_call G_with_at hr rfl (q_cons (q_fld TDoing.cl (TDoing.na 1 rfl) (TDoing.ix rfl) (q_var (wpv 0))) (q_cons (q_var (wpv 1)) (q_cons (q_var (wpv 2)) q_nil))))))), bi⟩⟩
theorem sc_Doing_part_behind : FnScope ["self", "left_out", "part"] ["self", "left_out"] (defScope s_Doing_part_behind) := ⟨rfl, rfl, rfl, by decide +kernel, rfl, by decide +kernel, by decide +kernel⟩
theorem h_Doing_part_behind {k : Nat} {cDoing : Cl} {fa : Addr} {fd : FuncData} (F : Fun K "part_behind" "Doing.part_behind" s_Doing_part_behind fa fd) (bi : Binds K fd ["self", "left_out"] []) (mt : Meth K cDoing.C "part_behind" fa) (B : Blt mg) (TDoing : TC K cDoing ["wheel", "held", "puts", "part"]) : MHas P w K mg base cDoing "part_behind" (k + 1) ["self", "left_out"] (fnU 3 2 (c_Doing_part_behind cDoing)) :=
  ⟨⟨fa, fd, mt, F.pure sc_Doing_part_behind fun cdv A outer s H E hr => (by
    have hu := hu_of hr
    have nd := sc_Doing_part_behind.nd
    exact (qs_cons (qs_set (i := 2) nd rfl (by first | exact Or.inl rfl | exact Or.inr rfl) (q_fld TDoing.cl (TDoing.na 3 rfl) (TDoing.ix rfl) (q_var (wpv 0))))
      (qs_one (qs_ret (q_tup (q_cons (q_ix hu (q_var (wpv 2)) (q_int wpe_int) (fun _ _ => rfl) (fun _ _ => rfl)) (q_cons (q_op o_add p_add (q_op o_add p_add (q_ix hu (q_var (wpv 2)) (q_int wpe_int) (fun _ _ => rfl) (fun _ _ => rfl)) (q_int wpe_int)) (q_var (wpv 1))) (q_cons (q_ix hu (q_var (wpv 2)) (q_int wpe_int) (fun _ _ => rfl) (fun _ _ => rfl)) (q_cons (q_ix hu (q_var (wpv 2)) (q_int wpe_int) (fun _ _ => rfl) (fun _ _ => rfl)) q_nil))))))))), bi⟩⟩
theorem sc_Doing_go_behind : FnScope ["self", "left_out"] ["self", "left_out"] (defScope s_Doing_go_behind) := ⟨rfl, rfl, rfl, by decide +kernel, rfl, by decide +kernel, by decide +kernel⟩
theorem h_Doing_go_behind {k : Nat} {f_onwards f_Doing_part_behind : Fn} {cDoing : Cl} {fa : Addr} {fd : FuncData} (F : Fun K "go_behind" "Doing.go_behind" s_Doing_go_behind fa fd) (bi : Binds K fd ["self", "left_out"] []) (mt : Meth K cDoing.C "go_behind" fa) (B : Blt mg) (TDoing : TC K cDoing ["wheel", "held", "puts", "part"]) (G_onwards : HasP P w K mg base "onwards" (k) ["part"] f_onwards) (M_Doing_part_behind : MHas P w K mg base cDoing "part_behind" (k) ["self", "left_out"] f_Doing_part_behind) : MHas P w K mg base cDoing "go_behind" (k + 1) ["self", "left_out"] (fnU 2 2 (c_Doing_go_behind f_onwards f_Doing_part_behind cDoing)) :=
  ⟨⟨fa, fd, mt, F.pure sc_Doing_go_behind fun cdv A outer s H E hr => (by
    have hu := hu_of hr
    have nd := sc_Doing_go_behind.nd
    exact (qs_one (qs_setF TDoing.cl (TDoing.na 3 rfl) (TDoing.ix rfl) (q_var (wpv 0)) (q_call G_onwards hr rfl (q_cons (q_meth TDoing.cl M_Doing_part_behind hr (TDoing.nm (by decide +kernel)) (q_var (wpv 0)) (q_cons (q_var (wpv 1)) q_nil)) q_nil))))), bi⟩⟩
theorem sc_Doing_hear : FnScope ["self", "number"] ["self", "number"] (defScope s_Doing_hear) := ⟨rfl, rfl, rfl, by decide +kernel, rfl, by decide +kernel, by decide +kernel⟩
theorem h_Doing_hear {k : Nat} {f_Doing_hold f_Doing_deed f_Doing_go_behind : Fn} {cDoing : Cl} {fa : Addr} {fd : FuncData} (F : Fun K "hear" "Doing.hear" s_Doing_hear fa fd) (bi : Binds K fd ["self", "number"] []) (mt : Meth K cDoing.C "hear" fa) (B : Blt mg) (TDoing : TC K cDoing ["wheel", "held", "puts", "part"]) (M_Doing_hold : MHas P w K mg base cDoing "hold" (k) ["self", "hand", "number"] f_Doing_hold) (M_Doing_deed : MHas P w K mg base cDoing "deed" (k) ["self"] f_Doing_deed) (M_Doing_go_behind : MHas P w K mg base cDoing "go_behind" (k) ["self", "left_out"] f_Doing_go_behind) : MHas P w K mg base cDoing "hear" (k + 1) ["self", "number"] (fnU 2 2 (c_Doing_hear f_Doing_hold f_Doing_deed f_Doing_go_behind cDoing)) :=
  ⟨⟨fa, fd, mt, F.pure sc_Doing_hear fun cdv A outer s H E hr => (by
    have hu := hu_of hr
    have nd := sc_Doing_hear.nd
    exact (qs_cons (qs_expr (q_meth TDoing.cl M_Doing_hold hr (TDoing.nm (by decide +kernel)) (q_var (wpv 0)) (q_cons (q_ix hu (q_meth0 TDoing.cl M_Doing_deed hr (TDoing.nm (by decide +kernel)) (q_var (wpv 0))) (q_int wpe_int) (fun _ _ => rfl) (fun _ _ => rfl)) (q_cons (q_var (wpv 1)) q_nil))))
      (qs_one (qs_expr (q_meth TDoing.cl M_Doing_go_behind hr (TDoing.nm (by decide +kernel)) (q_var (wpv 0)) (q_cons (q_int wpe_int) q_nil)))))), bi⟩⟩
theorem sc_Doing_enter_try : FnScope ["self", "one", "other", "behind", "instead"] ["self", "one", "other"] (defScope s_Doing_enter_try) := ⟨rfl, rfl, rfl, by decide +kernel, rfl, by decide +kernel, by decide +kernel⟩
theorem h_Doing_enter_try {k : Nat} {f_onwards f_Doing_part_behind : Fn} {cDoing : Cl} {fa : Addr} {fd : FuncData} (F : Fun K "enter_try" "Doing.enter_try" s_Doing_enter_try fa fd) (bi : Binds K fd ["self", "one", "other"] []) (mt : Meth K cDoing.C "enter_try" fa) (B : Blt mg) (TDoing : TC K cDoing ["wheel", "held", "puts", "part"]) (G_onwards : HasP P w K mg base "onwards" (k) ["part"] f_onwards) (M_Doing_part_behind : MHas P w K mg base cDoing "part_behind" (k) ["self", "left_out"] f_Doing_part_behind) : MHas P w K mg base cDoing "enter_try" (k + 1) ["self", "one", "other"] (fnU 5 3 (c_Doing_enter_try f_onwards f_Doing_part_behind cDoing)) :=
  ⟨⟨fa, fd, mt, F.pure sc_Doing_enter_try fun cdv A outer s H E hr => (by
    have hu := hu_of hr
    have nd := sc_Doing_enter_try.nd
    exact (qs_cons (qs_set (i := 3) nd rfl (by first | exact Or.inl rfl | exact Or.inr rfl) (q_meth TDoing.cl M_Doing_part_behind hr (TDoing.nm (by decide +kernel)) (q_var (wpv 0)) (q_cons (q_int wpe_int) q_nil)))
      (qs_cons (qs_set (i := 4) nd rfl (by first | exact Or.inl rfl | exact Or.inr rfl) (q_call G_onwards hr rfl (q_cons (q_tup (q_cons (q_var (wpv 2)) (q_cons (q_int wpe_int) (q_cons (q_var (wpv 3)) (q_cons (q_ix hu (q_var (wpv 3)) (q_int wpe_int) (fun _ _ => rfl) (fun _ _ => rfl)) q_nil))))) q_nil)))
      (qs_one (qs_setF TDoing.cl (TDoing.na 3 rfl) (TDoing.ix rfl) (q_var (wpv 0)) (q_call G_onwards hr rfl (q_cons (q_tup (q_cons (q_var (wpv 1)) (q_cons (q_int wpe_int) (q_cons (q_var (wpv 3)) (q_cons (q_tup (q_cons (q_fld TDoing.cl (TDoing.na 1 rfl) (TDoing.ix rfl) (q_var (wpv 0))) (q_cons (q_fld TDoing.cl (TDoing.na 2 rfl) (TDoing.ix rfl) (q_var (wpv 0))) (q_cons (q_var (wpv 4)) q_nil)))) q_nil))))) q_nil))))))), bi⟩⟩
theorem sc_Doing_goes_back : FnScope ["self", "back"] ["self"] (defScope s_Doing_goes_back) := ⟨rfl, rfl, rfl, by decide +kernel, rfl, by decide +kernel, by decide +kernel⟩
theorem h_Doing_goes_back {k : Nat} {cDoing : Cl} {fa : Addr} {fd : FuncData} (F : Fun K "goes_back" "Doing.goes_back" s_Doing_goes_back fa fd) (bi : Binds K fd ["self"] []) (mt : Meth K cDoing.C "goes_back" fa) (B : Blt mg) (TDoing : TC K cDoing ["wheel", "held", "puts", "part"]) : MHas P w K mg base cDoing "goes_back" (k + 1) ["self"] (fnU 2 1 (c_Doing_goes_back cDoing)) :=
  ⟨⟨fa, fd, mt, F.pure sc_Doing_goes_back fun cdv A outer s H E hr => (by
    have hu := hu_of hr
    have nd := sc_Doing_goes_back.nd
    exact (qs_cons (qs_set (i := 1) nd rfl (by first | exact Or.inl rfl | exact Or.inr rfl) (q_ix hu (q_fld TDoing.cl (TDoing.na 3 rfl) (TDoing.ix rfl) (q_var (wpv 0))) (q_int wpe_int) (fun _ _ => rfl) (fun _ _ => rfl)))
      (qs_cons (qs_if (q_tcmp op_isN p_isN (q_var (wpv 1)) (q_non wpe_non) (nomark _)) (qs_one (qs_ret (q_bl wpe_bl))) qs_nil)
      (qs_cons (qs_setF TDoing.cl (TDoing.na 1 rfl) (TDoing.ix rfl) (q_var (wpv 0)) (q_ix hu (q_var (wpv 1)) (q_int wpe_int) (fun _ _ => rfl) (fun _ _ => rfl)))
      (qs_cons (qs_setF TDoing.cl (TDoing.na 2 rfl) (TDoing.ix rfl) (q_var (wpv 0)) (q_ix hu (q_var (wpv 1)) (q_int wpe_int) (fun _ _ => rfl) (fun _ _ => rfl)))
      (qs_cons (qs_setF TDoing.cl (TDoing.na 3 rfl) (TDoing.ix rfl) (q_var (wpv 0)) (q_ix hu (q_var (wpv 1)) (q_int wpe_int) (fun _ _ => rfl) (fun _ _ => rfl)))
      (qs_one (qs_ret (q_bl wpe_bl))))))))), bi⟩⟩
theorem sc_Doing_do_deed : FnScope ["self", "deed", "word", "left_out"] ["self"] (defScope s_Doing_do_deed) := ⟨rfl, rfl, rfl, by decide +kernel, rfl, by decide +kernel, by decide +kernel⟩
theorem h_Doing_do_deed {k : Nat} {f_with_at f_Doing_deed f_Doing_goes_back f_Doing_enter_try f_Doing_hold f_Doing_go_behind : Fn} {cDoing : Cl} {fa : Addr} {fd : FuncData} (F : Fun K "do_deed" "Doing.do_deed" s_Doing_do_deed fa fd) (bi : Binds K fd ["self"] []) (mt : Meth K cDoing.C "do_deed" fa) (B : Blt mg) (TDoing : TC K cDoing ["wheel", "held", "puts", "part"]) (G_with_at : HasP P w K mg base "with_at" (k) ["row", "place", "value"] f_with_at) (M_Doing_deed : MHas P w K mg base cDoing "deed" (k) ["self"] f_Doing_deed) (M_Doing_goes_back : MHas P w K mg base cDoing "goes_back" (k) ["self"] f_Doing_goes_back) (M_Doing_enter_try : MHas P w K mg base cDoing "enter_try" (k) ["self", "one", "other"] f_Doing_enter_try) (M_Doing_hold : MHas P w K mg base cDoing "hold" (k) ["self", "hand", "number"] f_Doing_hold) (M_Doing_go_behind : MHas P w K mg base cDoing "go_behind" (k) ["self", "left_out"] f_Doing_go_behind) : MHas P w K mg base cDoing "do_deed" (k + 1) ["self"] (fnU 4 1 (c_Doing_do_deed f_with_at f_Doing_deed f_Doing_goes_back f_Doing_enter_try f_Doing_hold f_Doing_go_behind cDoing)) :=
  ⟨⟨fa, fd, mt, F.pure sc_Doing_do_deed fun cdv A outer s H E hr => (by
    have hu := hu_of hr
    have nd := sc_Doing_do_deed.nd
    exact (qs_cons (qs_set (i := 1) nd rfl (by first | exact Or.inl rfl | exact Or.inr rfl) (q_meth0 TDoing.cl M_Doing_deed hr (TDoing.nm (by decide +kernel)) (q_var (wpv 0))))
      (qs_cons (qs_set (i := 2) nd rfl (by first | exact Or.inl rfl | exact Or.inr rfl) (q_ix hu (q_var (wpv 1)) (q_int wpe_int) (fun _ _ => rfl) (fun _ _ => rfl)))
      (qs_cons (qs_if (q_tcmp op_eq p_eq (q_var (wpv 2)) (q_str wpe_str) (nomark _)) (qs_one (qs_ret (q_meth0 TDoing.cl M_Doing_goes_back hr (TDoing.nm (by decide +kernel)) (q_var (wpv 0))))) qs_nil)
      (qs_cons (qs_if (q_tcmp op_eq p_eq (q_var (wpv 2)) (q_str wpe_str) (nomark _)) (qs_cons (qs_expr (q_meth TDoing.cl M_Doing_enter_try hr (TDoing.nm (by decide +kernel)) (q_var (wpv 0)) (q_cons (q_ix hu (q_var (wpv 1)) (q_int wpe_int) (fun _ _ => rfl) (fun _ _ => rfl)) (q_cons (q_ix hu (q_var (wpv 1)) (q_int wpe_int) (fun _ _ => rfl) (fun _ _ => rfl)) q_nil))))
      (qs_one (qs_ret (q_bl wpe_bl)))) qs_nil)
      (qs_cons (qs_set (i := 3) nd rfl (by first | exact Or.inl rfl | exact Or.inr rfl) (q_int wpe_int))
      (qs_cons (qs_if (q_tcmp op_eq p_eq (q_var (wpv 2)) (q_str wpe_str) (nomark _)) (qs_one (qs_expr (q_meth TDoing.cl M_Doing_hold hr (TDoing.nm (by decide +kernel)) (q_var (wpv 0)) (q_cons (q_ix hu (q_var (wpv 1)) (q_int wpe_int) (fun _ _ => rfl) (fun _ _ => rfl)) (q_cons (q_ix hu (q_fld TDoing.cl (TDoing.na 2 rfl) (TDoing.ix rfl) (q_var (wpv 0))) (q_ix hu (q_var (wpv 1)) (q_int wpe_int) (fun _ _ => rfl) (fun _ _ => rfl)) (fun _ _ => rfl) (fun _ _ => rfl)) q_nil))))) (qs_one (qs_if (q_tcmp op_eq p_eq (q_var (wpv 2)) (q_str wpe_str) (nomark _)) (qs_one (qs_setF TDoing.cl (TDoing.na 2 rfl) (TDoing.ix rfl) (q_var (wpv 0)) (q_call G_with_at hr rfl (q_cons (q_fld TDoing.cl (TDoing.na 2 rfl) (TDoing.ix rfl) (q_var (wpv 0))) (q_cons (q_ix hu (q_var (wpv 1)) (q_int wpe_int) (fun _ _ => rfl) (fun _ _ => rfl)) (q_cons (q_ix hu (q_fld TDoing.cl (TDoing.na 1 rfl) (TDoing.ix rfl) (q_var (wpv 0))) (q_ix hu (q_var (wpv 1)) (q_int wpe_int) (fun _ _ => rfl) (fun _ _ => rfl)) (fun _ _ => rfl) (fun _ _ => rfl)) q_nil)))))) (qs_one (qs_if (q_tcmp op_eq p_eq (q_var (wpv 2)) (q_str wpe_str) (nomark _)) (qs_one (qs_expr (q_meth TDoing.cl M_Doing_hold hr (TDoing.nm (by decide +kernel)) (q_var (wpv 0)) (q_cons (q_ix hu (q_var (wpv 1)) (q_int wpe_int) (fun _ _ => rfl) (fun _ _ => rfl)) (q_cons (q_ix hu (q_var (wpv 1)) (q_int wpe_int) (fun _ _ => rfl) (fun _ _ => rfl)) q_nil))))) (qs_one (qs_if (q_tcmp op_eq p_eq (q_var (wpv 2)) (q_str wpe_str) (nomark _)) (qs_one (qs_expr (q_meth TDoing.cl M_Doing_hold hr (TDoing.nm (by decide +kernel)) (q_var (wpv 0)) (q_cons (q_ix hu (q_var (wpv 1)) (q_int wpe_int) (fun _ _ => rfl) (fun _ _ => rfl)) (q_cons (q_op op_mod p_mod (q_op o_add p_add (q_ix hu (q_fld TDoing.cl (TDoing.na 1 rfl) (TDoing.ix rfl) (q_var (wpv 0))) (q_ix hu (q_var (wpv 1)) (q_int wpe_int) (fun _ _ => rfl) (fun _ _ => rfl)) (fun _ _ => rfl) (fun _ _ => rfl)) (q_ix hu (q_fld TDoing.cl (TDoing.na 1 rfl) (TDoing.ix rfl) (q_var (wpv 0))) (q_ix hu (q_var (wpv 1)) (q_int wpe_int) (fun _ _ => rfl) (fun _ _ => rfl)) (fun _ _ => rfl) (fun _ _ => rfl))) (q_fld TDoing.cl (TDoing.na 0 rfl) (TDoing.ix rfl) (q_var (wpv 0)))) q_nil))))) (qs_one (qs_if (q_tcmp op_eq p_eq (q_ix hu (q_fld TDoing.cl (TDoing.na 1 rfl) (TDoing.ix rfl) (q_var (wpv 0))) (q_ix hu (q_var (wpv 1)) (q_int wpe_int) (fun _ _ => rfl) (fun _ _ => rfl)) (fun _ _ => rfl) (fun _ _ => rfl)) (q_int wpe_int) (nomark _)) (qs_one (qs_set (i := 3) nd rfl (by first | exact Or.inl rfl | exact Or.inr rfl) (q_ix hu (q_var (wpv 1)) (q_int wpe_int) (fun _ _ => rfl) (fun _ _ => rfl)))) qs_nil)))))))))
      (qs_cons (qs_expr (q_meth TDoing.cl M_Doing_go_behind hr (TDoing.nm (by decide +kernel)) (q_var (wpv 0)) (q_cons (q_var (wpv 3)) q_nil)))
      (qs_one (qs_ret (q_bl wpe_bl))))))))))), bi⟩⟩
theorem sc_Doing_put_pairs : FnScope ["self"] ["self"] (defScope s_Doing_put_pairs) := ⟨rfl, rfl, rfl, by decide +kernel, rfl, by decide +kernel, by decide +kernel⟩
theorem h_Doing_put_pairs {k : Nat} {cDoing : Cl} {fa : Addr} {fd : FuncData} (F : Fun K "put_pairs" "Doing.put_pairs" s_Doing_put_pairs fa fd) (bi : Binds K fd ["self"] []) (mt : Meth K cDoing.C "put_pairs" fa) (B : Blt mg) (TDoing : TC K cDoing ["wheel", "held", "puts", "part"]) : MHas P w K mg base cDoing "put_pairs" (k + 1) ["self"] (fnU 1 1 (c_Doing_put_pairs cDoing)) :=
  ⟨⟨fa, fd, mt, F.pure sc_Doing_put_pairs fun cdv A outer s H E hr => (by
    have hu := hu_of hr
    have nd := sc_Doing_put_pairs.nd
    exact (qs_one (qs_ret (q_compIf (Nc := ["box", "number"]) (tn := ["box", "number"]) (capN := []) (caps := []) rfl (qi_enum rfl B.enumerate (q_fld TDoing.cl (TDoing.na 2 rfl) (TDoing.ix rfl) (q_var (wpv 0)))) (fun _ _ _ => (qg_tup rfl (qgs_cons (wpg_name (i := 0) (show (["box", "number"] : List Str).Nodup by decide +kernel) rfl (by first | exact Or.inl rfl | exact Or.inr rfl)) (qgs_cons (wpg_name (i := 1) (show (["box", "number"] : List Str).Nodup by decide +kernel) rfl (by first | exact Or.inl rfl | exact Or.inr rfl)) qgs_nil)))) (fun _ _ _ => (q_tcmp op_notN p_notN (q_var (wpv 1)) (q_non wpe_non) (nomark _))) (fun _ _ _ => (q_tup (q_cons (q_var (wpv 0)) (q_cons (q_var (wpv 1)) q_nil)))) rfl rfl (by decide +kernel) (by decide +kernel) trivial rfl .nil rfl rfl)))), bi⟩⟩
theorem sc_Doing_init : FnScope ["self", "world", "dealing"] ["self", "world", "dealing"] (defScope s_Doing_init) := ⟨rfl, rfl, rfl, by decide +kernel, rfl, by decide +kernel, by decide +kernel⟩
theorem h_Doing_init {k : Nat} {f_onwards : Fn} {cDoing : Cl} {fa : Addr} {fd : FuncData} (F : Fun K "__init__" "Doing.__init__" s_Doing_init fa fd) (bi : Binds K fd ["self", "world", "dealing"] []) (mk : Mk K cDoing.C fa) (hmg : mg "Doing" = some (.ref cDoing.C)) (B : Blt mg) (TDoing : TC K cDoing ["wheel", "held", "puts", "part"]) (G_onwards : HasP P w K mg base "onwards" (k) ["part"] f_onwards) : CMk P w K mg base cDoing "Doing" (k + 1) ["self", "world", "dealing"] (fnU 3 3 (c_Doing_init f_onwards cDoing)) :=
  ⟨⟨fa, fd, mk, F.pure sc_Doing_init fun cdv A outer s H E hr => (by
    have hu := hu_of hr
    have nd := sc_Doing_init.nd
    exact (qs_cons (qs_setF TDoing.cl (TDoing.na 0 rfl) (TDoing.ix rfl) (q_var (wpv 0)) (q_ix hu (q_var (wpv 1)) (q_int wpe_int) (fun _ _ => rfl) (fun _ _ => rfl)))
      (qs_cons (qs_setF TDoing.cl (TDoing.na 1 rfl) (TDoing.ix rfl) (q_var (wpv 0)) (q_tup (q_cons (q_int wpe_int) (q_cons (q_int wpe_int) (q_cons (q_int wpe_int) (q_cons (q_int wpe_int) q_nil))))))
      (qs_cons (qs_setF TDoing.cl (TDoing.na 2 rfl) (TDoing.ix rfl) (q_var (wpv 0)) (q_op o_mulR p_mulR (q_tup (q_cons (q_non wpe_non) q_nil)) (q_ix hu (q_var (wpv 1)) (q_int wpe_int) (fun _ _ => rfl) (fun _ _ => rfl))))
      (qs_one (qs_setF TDoing.cl (TDoing.na 3 rfl) (TDoing.ix rfl) (q_var (wpv 0)) (q_call G_onwards hr rfl (q_cons (q_tup (q_cons (q_var (wpv 2)) (q_cons (q_int wpe_int) (q_cons (q_non wpe_non) (q_cons (q_non wpe_non) q_nil))))) q_nil)))))))), bi, hmg⟩, by rw [TDoing.ns]; decide +kernel, by rw [TDoing.ns]; decide⟩
theorem sc_goes_through : FnScope ["doing", "state", "looked", "box"] ["doing", "state", "looked"] (defScope s_goes_through) := ⟨rfl, rfl, rfl, by decide +kernel, rfl, by decide +kernel, by decide +kernel⟩
theorem h_goes_through {k : Nat} {f_Doing_deed f_Doing_asks f_Doing_hear f_Doing_do_deed : Fn} {cDoing : Cl} {fuel : Nat} (d : Def K mg "goes_through" s_goes_through ["doing", "state", "looked"]) (B : Blt mg) (TDoing : TC K cDoing ["wheel", "held", "puts", "part"]) (M_Doing_deed : MHas P w K mg base cDoing "deed" (k) ["self"] f_Doing_deed) (M_Doing_asks : MHas P w K mg base cDoing "asks" (k) ["self"] f_Doing_asks) (M_Doing_hear : MHas P w K mg base cDoing "hear" (k) ["self", "number"] f_Doing_hear) (M_Doing_do_deed : MHas P w K mg base cDoing "do_deed" (k) ["self"] f_Doing_do_deed) : HasP P w K mg base "goes_through" (k + 1) ["doing", "state", "looked"] (fnU 4 3 (c_goes_through f_Doing_deed f_Doing_asks f_Doing_hear f_Doing_do_deed cDoing fuel)) :=
  d.pure sc_goes_through fun f cdv A outer s H E hr => by
    have hu := hu_of hr
    have nd := sc_goes_through.nd
    exact (qs_cons (qs_while fuel PassesOwn.never (q_tcmp op_notN p_notN (q_meth0 TDoing.cl M_Doing_deed hr (TDoing.nm (by decide +kernel)) (q_var (wpv 0))) (q_non wpe_non) (nomark _)) (qs_one (qs_if (q_tval (q_meth0 TDoing.cl M_Doing_asks hr (TDoing.nm (by decide +kernel)) (q_var (wpv 0)))) (qs_cons (qs_set (i := 3) nd rfl (by first | exact Or.inl rfl | exact Or.inr rfl) (q_ix hu (q_meth0 TDoing.cl M_Doing_deed hr (TDoing.nm (by decide +kernel)) (q_var (wpv 0))) (q_int wpe_int) (fun _ _ => rfl) (fun _ _ => rfl)))
      (qs_cons (qs_setIx hu (q_var (wpv 2)) (q_var (wpv 3)) (q_bl wpe_bl))
      (qs_one (qs_expr (q_meth TDoing.cl M_Doing_hear hr (TDoing.nm (by decide +kernel)) (q_var (wpv 0)) (q_cons (q_ix hu (q_var (wpv 1)) (q_var (wpv 3)) (fun _ _ => rfl) (fun _ _ => rfl)) q_nil)))))) (qs_one (qs_if (q_tnot (q_tval (q_meth0 TDoing.cl M_Doing_do_deed hr (TDoing.nm (by decide +kernel)) (q_var (wpv 0))))) (qs_one (qs_ret (q_bl wpe_bl))) qs_nil)))))
      (qs_one (qs_ret (q_bl wpe_bl))))
theorem sc_alone : FnScope ["world", "dealing", "state", "doing", "looked", "reached", "box", "number"] ["world", "dealing", "state"] (defScope s_alone) := ⟨rfl, rfl, rfl, by decide +kernel, rfl, by decide +kernel, by decide +kernel⟩
theorem h_alone {k : Nat} {f_goes_through f_Doing_put_pairs f_Doing_init : Fn} {cDoing : Cl} (d : Def K mg "alone" s_alone ["world", "dealing", "state"]) (B : Blt mg) (TDoing : TC K cDoing ["wheel", "held", "puts", "part"]) (G_goes_through : HasP P w K mg base "goes_through" (k + 1) ["doing", "state", "looked"] f_goes_through) (M_Doing_put_pairs : MHas P w K mg base cDoing "put_pairs" (k + 1) ["self"] f_Doing_put_pairs) (M_Doing : CMk P w K mg base cDoing "Doing" k ["self", "world", "dealing"] f_Doing_init) : HasP P w K mg base "alone" (k + 1 + 1) ["world", "dealing", "state"] (fnU 8 3 (c_alone f_goes_through f_Doing_put_pairs f_Doing_init cDoing)) :=
  d.pure sc_alone fun f cdv A outer s H E hr => by
    have hu := hu_of hr
    have nd := sc_alone.nd
    exact (qs_cons (qs_set (i := 3) nd rfl (by first | exact Or.inl rfl | exact Or.inr rfl) (q_make M_Doing hr rfl (q_cons (q_var (wpv 0)) (q_cons (q_var (wpv 1)) q_nil))))
      (qs_cons (qs_set (i := 4) nd rfl (by first | exact Or.inl rfl | exact Or.inr rfl) q_dnew)
      (qs_cons (qs_if (q_tnot (q_tval (q_call G_goes_through hr rfl (q_cons (q_var (wpv 3)) (q_cons (q_var (wpv 2)) (q_cons (q_var (wpv 4)) q_nil)))))) (qs_one (qs_ret (q_tup (q_cons (q_str wpe_str) (q_cons (q_callB (o_sorted rfl) p_sorted rfl B.sorted OG.boot_sorted (q_cons (q_var (wpv 4)) q_nil)) q_nil))))) qs_nil)
      (qs_cons (qs_set (i := 5) nd rfl (by first | exact Or.inl rfl | exact Or.inr rfl) (q_callTy call_list_of p_list rfl B.list OG.boot_list (q_cons (q_var (wpv 2)) q_nil)))
      (qs_cons (qs_for PassesOwn.never rfl (qi_seq (q_meth0 TDoing.cl M_Doing_put_pairs hr (TDoing.nm (by decide +kernel)) (q_var (wpv 3)))) (qg_tup rfl (qgs_cons (wpg_name (i := 6) nd rfl (by first | exact Or.inl rfl | exact Or.inr rfl)) (qgs_cons (wpg_name (i := 7) nd rfl (by first | exact Or.inl rfl | exact Or.inr rfl)) qgs_nil))) (qs_one (qs_setIx hu (q_var (wpv 5)) (q_var (wpv 6)) (q_var (wpv 7)))))
      (qs_one (qs_ret (q_tup (q_cons (q_str wpe_str) (q_cons (q_callTy call_tuple_of p_tuple rfl B.tuple OG.boot_tuple (q_cons (q_var (wpv 5)) q_nil)) (q_cons (q_fld TDoing.cl (TDoing.na 1 rfl) (TDoing.ix rfl) (q_var (wpv 3))) q_nil)))))))))))
theorem sc_in_row : FnScope ["world", "dealings", "state", "order", "reached", "place", "number", "told"] ["world", "dealings", "state", "order"] (defScope s_in_row) := ⟨rfl, rfl, rfl, by decide +kernel, rfl, by decide +kernel, by decide +kernel⟩
theorem h_in_row {k : Nat} {f_alone : Fn} (d : Def K mg "in_row" s_in_row ["world", "dealings", "state", "order"]) (B : Blt mg) (G_alone : HasP P w K mg base "alone" (k) ["world", "dealing", "state"] f_alone) : HasP P w K mg base "in_row" (k + 1) ["world", "dealings", "state", "order"] (fnU 8 4 (c_in_row f_alone)) :=
  d.pure sc_in_row fun f cdv A outer s H E hr => by
    have hu := hu_of hr
    have nd := sc_in_row.nd
    exact (qs_cons (qs_set (i := 4) nd rfl (by first | exact Or.inl rfl | exact Or.inr rfl) (q_var (wpv 2)))
      (qs_cons (qs_for PassesOwn.never rfl (qi_enum rfl B.enumerate (q_var (wpv 3))) (qg_tup rfl (qgs_cons (wpg_name (i := 5) nd rfl (by first | exact Or.inl rfl | exact Or.inr rfl)) (qgs_cons (wpg_name (i := 6) nd rfl (by first | exact Or.inl rfl | exact Or.inr rfl)) qgs_nil))) (qs_cons (qs_set (i := 7) nd rfl (by first | exact Or.inl rfl | exact Or.inr rfl) (q_call G_alone hr rfl (q_cons (q_var (wpv 0)) (q_cons (q_ix hu (q_var (wpv 1)) (q_var (wpv 6)) (fun _ _ => rfl) (fun _ _ => rfl)) (q_cons (q_var (wpv 4)) q_nil)))))
      (qs_cons (qs_if (q_tcmp op_eq p_eq (q_ix hu (q_var (wpv 7)) (q_int wpe_int) (fun _ _ => rfl) (fun _ _ => rfl)) (q_str wpe_str) (nomark _)) (qs_one (qs_ret (q_tup (q_cons (q_str wpe_str) (q_cons (q_var (wpv 5)) (q_cons (q_ix hu (q_var (wpv 7)) (q_int wpe_int) (fun _ _ => rfl) (fun _ _ => rfl)) q_nil)))))) qs_nil)
      (qs_one (qs_set (i := 4) nd rfl (by first | exact Or.inl rfl | exact Or.inr rfl) (q_ix hu (q_var (wpv 7)) (q_int wpe_int) (fun _ _ => rfl) (fun _ _ => rfl)))))))
      (qs_one (qs_ret (q_tup (q_cons (q_str wpe_str) (q_cons (q_var (wpv 4)) q_nil)))))))
theorem sc_law : FnScope ["script", "pen", "world", "state", "dealings", "turn", "order", "now", "due", "at", "number", "told", "handed", "again", "found"] ["script"] (defScope s_law) := ⟨rfl, rfl, rfl, by decide +kernel, rfl, by decide +kernel, by decide +kernel⟩
noncomputable def b_law_0 (f__law_world f__law_state f__law_take f__law_dealing f__law_alone f_in_row f__law_same : Fn) : CS :=
  (cIfS (cTest (cOp fIsN (cVar 8) (cC .non))) (cSeq (cSet 11 (cCB f__law_alone (cCons (cVar 2) (cCons (cOp fIx (cVar 4) (cVar 10)) (cCons (cVar 7) cNil)))))
    (cIfS (cTest (cOp fEq (cOp fIx (cVar 11) (cC (.int 0))) (cC (.str "waits")))) (cSet 8 (cTup (cCons (cC (.str "waits")) (cCons (cVar 9) (cCons (cOp fIx (cVar 11) (cC (.int 1))) cNil))))) (cSet 7 (cOp fIx (cVar 11) (cC (.int 1)))))) cSkip)
noncomputable def b_law_1 (f__law_world f__law_state f__law_take f__law_dealing f__law_alone f_in_row f__law_same : Fn) : CS :=
  (cSeq (cSet 14 (cCB f_in_row (cCons (cVar 2) (cCons (cOp fIx (cVar 12) (cC (.int 0))) (cCons (cVar 3) (cCons (cOp fIx (cVar 12) (cC (.int 1))) cNil))))))
    (cSeq (cIfS (cOr (cNot (cTest (cCB f__law_same (cCons (cVar 14) (cCons (cVar 8) cNil))))) (cTest (cOp (fEqD true) (cVar 12) (cLst (cCons (cVar 4) (cCons (cVar 6) cNil)))))) (cRet (cC (.bl false))) cSkip)
    (cIfS (cTest (cOp fEq (cOp fIx (cVar 14) (cC (.int 0))) (cC (.str "waits")))) (cDrop (cBM fAppend (cOp fIx (cVar 14) (cC (.int 2))) (cCons (cC (.int 9)) cNil))) cSkip)))
noncomputable def b_law_2 (f__law_world f__law_state f__law_take f__law_dealing f__law_alone f_in_row f__law_same : Fn) : CS :=
  (cSeq (cSet 6 (cComp (iRange1 (cCons (cCB f__law_take (cCons (cVar 1) (cCons (cC (.int 11)) cNil))) cNil)) (gNm 0) (cCB f__law_take (cCons (cVar 1) (cCons (cCB fLen (cCons (cVar 2) cNil)) cNil))) 1 [1, 4]))
    (cSeq (cSet 7 (cVar 3))
    (cSeq (cSet 8 (cC .non))
    (cSeq (cFor (iEnum (cVar 6)) (gTp [9, 10]) (b_law_0 f__law_world f__law_state f__law_take f__law_dealing f__law_alone f_in_row f__law_same))
    (cSeq (cIfS (cTest (cOp fIsN (cVar 8) (cC .non))) (cSet 8 (cTup (cCons (cC (.str "done")) (cCons (cVar 7) cNil)))) cSkip)
    (cSeq (cSet 12 (cLst (cCons (cCB fList (cCons (cVar 4) cNil)) (cCons (cCB fList (cCons (cVar 6) cNil)) cNil))))
    (cFor (iRange1 (cCons (cC (.int 2)) cNil)) (gNm 13) (b_law_1 f__law_world f__law_state f__law_take f__law_dealing f__law_alone f_in_row f__law_same))))))))
noncomputable def c_law (f__law_world f__law_state f__law_take f__law_dealing f__law_alone f_in_row f__law_same : Fn) : CS :=
  (cSeq (cSet 2 (cCB f__law_world (cCons (cVar 1) cNil)))
    (cSeq (cSet 3 (cCB f__law_state (cCons (cVar 1) (cCons (cVar 2) cNil))))
    (cSeq (cSet 4 (cComp (iRange1 (cCons (cOp fAdd (cC (.int 1)) (cCB f__law_take (cCons (cVar 1) (cCons (cOp fIx (cLst (cCons (cC (.int 4)) (cCons (cC (.int 12)) cNil))) (cCB f__law_take (cCons (cVar 1) (cCons (cC (.int 2)) cNil)))) cNil)))) cNil)) (gNm 0) (cCB f__law_dealing (cCons (cVar 1) (cCons (cVar 2) (cCons (cC (.int 8)) (cCons (cC (.int 2)) cNil))))) 1 [1, 2]))
    (cSeq (cFor (iRange1 (cCons (cC (.int 3)) cNil)) (gNm 5) (b_law_2 f__law_world f__law_state f__law_take f__law_dealing f__law_alone f_in_row f__law_same))
    (cRet (cC (.bl true)))))))
theorem h_law {k : Nat} {f__law_world f__law_state f__law_take f__law_dealing f__law_alone f_in_row f__law_same : Fn} {fa : Addr} {fd : FuncData} (F : Fun K "law" "law" s_law fa fd) (B : Blt mg) (G__law_pen : Has P w K mg base "_law_pen" k ["script"] (spPenX K)) (G__law_world : HasP P w K mg base "_law_world" k ["pen"] f__law_world) (G__law_state : HasP P w K mg base "_law_state" k ["pen", "world"] f__law_state) (G__law_take : HasP P w K mg base "_law_take" k ["pen", "many"] f__law_take) (G__law_dealing : HasP P w K mg base "_law_dealing" k ["pen", "world", "room", "tries"] f__law_dealing) (G__law_alone : HasP P w K mg base "_law_alone" k ["world", "dealing", "state"] f__law_alone) (G_in_row : HasP P w K mg base "in_row" k ["world", "dealings", "state", "order"] f_in_row) (G__law_same : HasP P w K mg base "_law_same" k ["found", "due"] f__law_same)
    (ok : ∀ (ns : List Int) (a c : Int), 0 ≤ a → 0 ≤ c → ∃ ρ' S', c_law f__law_world f__law_state f__law_take f__law_dealing f__law_alone f_in_row f__law_same [none, some (.ref 1), none, none, none, none, none, none, none, none, none, none, none, none, none] [.lst (ns.map U.int), .lst [.ref 0, .int a, .int c]] = some (.rt (.bl true), ρ', S')) : FnOk P w K mg base CX0 (k + 1) fa fd ["script"] (spLaw K) := by
  refine Fun.okW F sc_law (fun vs H Q E h => (by obtain ⟨a, ns, rfl, _⟩ := h; rfl)) fun cdv A outer s H vs Q E hr h => ?_
  obtain ⟨a, ns, rfl, hS, hlen, q⟩ := h
  have hu := hu_of hr
  have nd := sc_law.nd
  refine ⟨_, wpss_cons (u := tS K (c_law f__law_world f__law_state f__law_take f__law_dealing f__law_alone f_in_row f__law_same)) (wps_set (i := 1) nd rfl (by first | exact Or.inl rfl | exact Or.inr rfl) (wpe_fn G__law_pen hr rfl (wpa_cons (wpv 0) wpa_nil))) (qs_cons (qs_set (i := 2) nd rfl (by first | exact Or.inl rfl | exact Or.inr rfl) (q_call G__law_world hr rfl (q_cons (q_var (wpv 1)) q_nil)))
      (qs_cons (qs_set (i := 3) nd rfl (by first | exact Or.inl rfl | exact Or.inr rfl) (q_call G__law_state hr rfl (q_cons (q_var (wpv 1)) (q_cons (q_var (wpv 2)) q_nil))))
      (qs_cons (qs_set (i := 4) nd rfl (by first | exact Or.inl rfl | exact Or.inr rfl) (q_comp (Nc := ["k", "pen", "world"]) (tn := ["k"]) (capN := ["pen", "world"]) (caps := [1, 2]) rfl (qi_range1 rfl B.range (q_cons (q_op o_add p_add (q_int wpe_int) (q_call G__law_take hr rfl (q_cons (q_var (wpv 1)) (q_cons (q_ix hu (q_lst (q_cons (q_int wpe_int) (q_cons (q_int wpe_int) q_nil))) (q_call G__law_take hr rfl (q_cons (q_var (wpv 1)) (q_cons (q_int wpe_int) q_nil))) (fun _ _ => rfl) (fun _ _ => rfl)) q_nil)))) q_nil)) (fun _ _ _ => (qg_name (wpg_name (i := 0) (show (["k", "pen", "world"] : List Str).Nodup by decide +kernel) rfl (by first | exact Or.inl rfl | exact Or.inr rfl)))) (fun _ _ _ => (q_call G__law_dealing hr rfl (q_cons (q_var (wpv 1)) (q_cons (q_var (wpv 2)) (q_cons (q_int wpe_int) (q_cons (q_int wpe_int) q_nil)))))) rfl rfl (by decide +kernel) (by decide +kernel) ⟨rfl, rfl, trivial⟩ rfl (.cons ⟨rfl, rfl, rfl, _, rfl⟩ (.cons ⟨rfl, rfl, rfl, _, rfl⟩ .nil)) rfl rfl))
      (qs_cons (qs_for PassesOwn.never rfl (qi_range1 rfl B.range (q_cons (q_int wpe_int) q_nil)) (qg_name (wpg_name (i := 5) nd rfl (by first | exact Or.inl rfl | exact Or.inr rfl))) (qs_cons (qs_setComp (Nc := ["k", "pen", "dealings"]) (tn := ["k"]) (capN := ["pen", "dealings"]) (caps := [1, 4]) rfl (qi_range1 rfl B.range (q_cons (q_call G__law_take hr rfl (q_cons (q_var (wpv 1)) (q_cons (q_int wpe_int) q_nil))) q_nil)) (fun _ _ _ => (qg_name (wpg_name (i := 0) (show (["k", "pen", "dealings"] : List Str).Nodup by decide +kernel) rfl (by first | exact Or.inl rfl | exact Or.inr rfl)))) (fun _ _ _ => (q_call G__law_take hr rfl (q_cons (q_var (wpv 1)) (q_cons (q_callB o_len p_len rfl B.len PySem.boot_len (q_cons (q_var (wpv 2)) q_nil)) q_nil)))) rfl rfl (by decide +kernel) (by decide +kernel) ⟨rfl, rfl, trivial⟩ rfl (.cons ⟨rfl, rfl, rfl, _, rfl⟩ (.cons ⟨rfl, rfl, rfl, _, rfl⟩ .nil)) rfl rfl nd rfl rfl rfl)
      (qs_cons (qs_set (i := 7) nd rfl (by first | exact Or.inl rfl | exact Or.inr rfl) (q_var (wpv 3)))
      (qs_cons (qs_set (i := 8) nd rfl (by first | exact Or.inl rfl | exact Or.inr rfl) (q_non wpe_non))
      (qs_cons (qs_for PassesOwn.never rfl (qi_enum rfl B.enumerate (q_var (wpv 6))) (qg_tup rfl (qgs_cons (wpg_name (i := 9) nd rfl (by first | exact Or.inl rfl | exact Or.inr rfl)) (qgs_cons (wpg_name (i := 10) nd rfl (by first | exact Or.inl rfl | exact Or.inr rfl)) qgs_nil))) (qs_one (qs_if (q_tcmp op_isN p_isN (q_var (wpv 8)) (q_non wpe_non) (nomark _)) (qs_cons (qs_set (i := 11) nd rfl (by first | exact Or.inl rfl | exact Or.inr rfl) (q_call G__law_alone hr rfl (q_cons (q_var (wpv 2)) (q_cons (q_ix hu (q_var (wpv 4)) (q_var (wpv 10)) (fun _ _ => rfl) (fun _ _ => rfl)) (q_cons (q_var (wpv 7)) q_nil)))))
      (qs_one (qs_if (q_tcmp op_eq p_eq (q_ix hu (q_var (wpv 11)) (q_int wpe_int) (fun _ _ => rfl) (fun _ _ => rfl)) (q_str wpe_str) (nomark _)) (qs_one (qs_set (i := 8) nd rfl (by first | exact Or.inl rfl | exact Or.inr rfl) (q_tup (q_cons (q_str wpe_str) (q_cons (q_var (wpv 9)) (q_cons (q_ix hu (q_var (wpv 11)) (q_int wpe_int) (fun _ _ => rfl) (fun _ _ => rfl)) q_nil)))))) (qs_one (qs_set (i := 7) nd rfl (by first | exact Or.inl rfl | exact Or.inr rfl) (q_ix hu (q_var (wpv 11)) (q_int wpe_int) (fun _ _ => rfl) (fun _ _ => rfl))))))) qs_nil)))
      (qs_cons (qs_if (q_tcmp op_isN p_isN (q_var (wpv 8)) (q_non wpe_non) (nomark _)) (qs_one (qs_set (i := 8) nd rfl (by first | exact Or.inl rfl | exact Or.inr rfl) (q_tup (q_cons (q_str wpe_str) (q_cons (q_var (wpv 7)) q_nil))))) qs_nil)
      (qs_cons (qs_set (i := 12) nd rfl (by first | exact Or.inl rfl | exact Or.inr rfl) (q_lst (q_cons (q_callTy call_list_of p_list rfl B.list OG.boot_list (q_cons (q_var (wpv 4)) q_nil)) (q_cons (q_callTy call_list_of p_list rfl B.list OG.boot_list (q_cons (q_var (wpv 6)) q_nil)) q_nil))))
      (qs_one (qs_for PassesOwn.never rfl (qi_range1 rfl B.range (q_cons (q_int wpe_int) q_nil)) (qg_name (wpg_name (i := 13) nd rfl (by first | exact Or.inl rfl | exact Or.inr rfl))) (qs_cons (qs_set (i := 14) nd rfl (by first | exact Or.inl rfl | exact Or.inr rfl) (q_call G_in_row hr rfl (q_cons (q_var (wpv 2)) (q_cons (q_ix hu (q_var (wpv 12)) (q_int wpe_int) (fun _ _ => rfl) (fun _ _ => rfl)) (q_cons (q_var (wpv 3)) (q_cons (q_ix hu (q_var (wpv 12)) (q_int wpe_int) (fun _ _ => rfl) (fun _ _ => rfl)) q_nil))))))
      (qs_cons (qs_if (q_wt (q_or (q_tnot (q_tval (q_call G__law_same hr rfl (q_cons (q_var (wpv 14)) (q_cons (q_var (wpv 8)) q_nil))))) (q_or1 (q_tcmp (op_neD hr.units) p_eqD (q_var (wpv 12)) (q_lst (q_cons (q_var (wpv 4)) (q_cons (q_var (wpv 6)) q_nil))) (nomark _))))) (qs_one (qs_ret (q_bl wpe_bl))) qs_nil)
      (qs_one (qs_if (q_tcmp op_eq p_eq (q_ix hu (q_var (wpv 14)) (q_int wpe_int) (fun _ _ => rfl) (fun _ _ => rfl)) (q_str wpe_str) (nomark _)) (qs_one (qs_expr (q_append (q_ix hu (q_var (wpv 14)) (q_int wpe_int) (fun _ _ => rfl) (fun _ _ => rfl)) (q_cons (q_int wpe_int) q_nil)))) qs_nil)))))))))))))
      (qs_one (qs_ret (q_bl wpe_bl))))))), ?_⟩
  refine ⟨_, rfl, a, ns, rfl, hS, fun p xs H1 s1 P1 n1 => ?_⟩
  exact law_end P1 ok q
end
end OL
set_option maxHeartbeats 1000000
namespace OL
open PySem PySem.Spec PyProof.Rows L2 OG OP OQ
noncomputable abbrev fL (cD : Cl) (f : Fn → Fn → Fn → Fn → Fn → Fn → Fn → CS) : CS := f P_world P_state P_take (DealJ 3) (P_lalone 3) (P_row cD) (P_same 3)
abbrev enumK (os : List Int) (k : Nat) : List U := ((os.map U.int).zipIdx k).map fun p => .tup [.int p.2, p.1]
section
variable {cD : Cl} {n w : Int} {Ds : List (List (Dl 2))} {ld lo : Nat} {us : List U} {x3 x5 x7 x12 x13 x14 : Option U}
theorem due_loop {d : List U} : ∀ (os : List Int) (k : Nat) (S : Sto) (r9 r10 r11 : Option U), S[lo]? = some (.lst us) →
    ∃ r9' r10', loopU (fun S => S[lo]? = some (.lst us)) (gTp [9, 10]) (fL cD b_law_0) (enumK os k) [none, some (.ref 1), some (.tup [.int n, .int w]), x3, some (.ref ld), x5, some (.ref lo), x7, some (.tup d), r9, r10, r11, x12, x13, x14] S
      = some (.nx, [none, some (.ref 1), some (.tup [.int n, .int w]), x3, some (.ref ld), x5, some (.ref lo), x7, some (.tup d), r9', r10', r11, x12, x13, x14], S)
  | [], k, S, r9, r10, r11, h2 => ⟨r9, r10, loop_nil h2⟩
  | o :: os, k, S, r9, r10, r11, h2 => by
    obtain ⟨r9', r10', ih⟩ := due_loop os (k + 1) S (some (.int k)) (some (.int o)) r11 h2
    refine ⟨r9', r10', ?_⟩
    simp only [enumK, List.map_cons, List.zipIdx_cons]
    refine (loop_nx h2 rfl ?_).trans ih
    rwa [fL, b_law_0, x_isn, in_tup]
theorem law_row (n0 : 1 ≤ n) (n1 : n ≤ 6) (w0 : 2 ≤ w) (hd : ∀ d ∈ Ds, OkL n w 2 d) : ∀ (os : List Int) (k : Nat) (st : List Int) (S : Sto) (r9 r10 r11 : Option U), S[ld]? = some (.lst (Ds.map dlU)) → S[lo]? = some (.lst us) → (∀ o ∈ os, 0 ≤ o ∧ o < (Ds.length : Int)) → st.length = n.toNat →
    ∃ X l y7 y8 r9' r10' r11', RowOk n (S ++ X) l (rowR w Ds os k st) ∧ (match rowR w Ds os k st with
        | .done st' => y7 = .tup (st'.map U.int) ∧ y8 = .non
        | .waits k' lk => y8 = rowU (.waits k' lk) l) ∧
      loopU (fun S => S[lo]? = some (.lst us)) (gTp [9, 10]) (fL cD b_law_0) (enumK os k) [none, some (.ref 1), some (.tup [.int n, .int w]), x3, some (.ref ld), x5, some (.ref lo), some (.tup (st.map U.int)), some .non, r9, r10, r11, x12, x13, x14] S
        = some (.nx, [none, some (.ref 1), some (.tup [.int n, .int w]), x3, some (.ref ld), x5, some (.ref lo), some y7, some y8, r9', r10', r11', x12, x13, x14], S ++ X)
  | [], k, st, S, r9, r10, r11, h1, h2, ho, hs => ⟨[], 0, _, _, r9, r10, r11, hs, ⟨rfl, rfl⟩, by rw [List.append_nil]; exact loop_nil h2⟩
  | o :: os, k, st, S, r9, r10, r11, h1, h2, ho, hs => by
    obtain ⟨o0, o1⟩ := ho o List.mem_cons_self
    obtain ⟨G, l, e1, g1, wf⟩ := lalone_ok (J := 3) (j := 2) (by omega) S (Ds.getD o.toNat []) (ds_ok hd o0 o1) hs (by omega) n1 w0
    have ea := ds_at o0 o1
    have k6 := (wf.few (by omega) n1).2
    rw [rowR]
    simp only [dlU] at ea
    cases er : runD w st 2 (Ds.getD o.toNat []) m0 with
    | mk t m =>
      rw [er] at e1 g1 k6
      cases t with
      | true =>
        dsimp only [told] at e1
        obtain ⟨X, l', y7, y8, a9, a10, a11, rk, rm, ih⟩ := law_row n0 n1 w0 hd os (k + 1) (beh st m.ps 0) (S ++ G) (some (.int k)) (some (.int o)) (some (.tup [.str "done", .tup ((beh st m.ps 0).map U.int), .tup (m.hs.map U.int)])) (get_app h1) (get_app h2) (fun x hx => ho x (List.mem_cons_of_mem _ hx)) (by rw [beh_len]; exact hs)
        refine ⟨G ++ X, l', y7, y8, a9, a10, a11, by rw [← List.append_assoc]; exact rk, rm, ?_⟩
        rw [← List.append_assoc, ← ih]
        simp only [enumK, List.map_cons, List.zipIdx_cons]
        refine loop_nx h2 rfl ?_
        rwa [fL, b_law_0, x_isn, in_non, h1, ea, e1, sn_done_waits]
      | false =>
        dsimp only [told] at e1
        obtain ⟨g2, g3⟩ := g1 rfl
        obtain ⟨r9', r10', ih⟩ := due_loop (cD := cD) (n := n) (w := w) (ld := ld) (lo := lo) (us := us) (x3 := x3) (x5 := x5) (x7 := some (.tup (st.map U.int))) (x12 := x12) (x13 := x13) (x14 := x14) (d := [.str "waits", .int k, .ref l]) os (k + 1) (S ++ G) (some (.int k)) (some (.int o)) (some (.tup [.str "waits", .ref l])) (get_app h2)
        refine ⟨G, l, .tup (st.map U.int), rowU (.waits k m.lk) l, r9', r10', some (.tup [.str "waits", .ref l]), ⟨g2, k6⟩, rfl, ?_⟩
        rw [rowU, ← ih]
        simp only [enumK, List.map_cons, List.zipIdx_cons]
        refine loop_nx h2 rfl ?_
        rwa [fL, b_law_0, x_isn, in_non, h1, ea, e1, eq_self]
theorem row_same {r : RowR} {l1 l2 : Nat} {S : Sto} (n1 : n ≤ 6) (h1 : RowOk n S l1 r) (h2 : RowOk n S l2 r) : SameAt 3 (rowU r l1) (rowU r l2) S := by
  cases r with
  | done st =>
    have h1' : st.length = n.toNat := h1
    refine same_row rfl (by simp) fun p hp => ?_
    simp only [List.zip_cons_cons, List.zip_nil_left, List.mem_cons, List.not_mem_nil, or_false] at hp
    rcases hp with rfl | rfl
    · exact same_str
    · exact same_ints (by omega)
  | waits k lk =>
    obtain ⟨g1, k6⟩ := h1
    obtain ⟨g2, _⟩ := h2
    refine same_row rfl (by simp) fun p hp => ?_
    simp only [List.zip_cons_cons, List.zip_nil_left, List.mem_cons, List.not_mem_nil, or_false] at hp
    rcases hp with rfl | rfl | rfl
    · exact same_str
    · exact same_int
    · exact same_lints g1 g2 (by rw [(sortI_perm _).length_eq]; omega)
theorem RowOk.app {r : RowR} {l : Nat} {S : Sto} (h : RowOk n S l r) (T : Sto) : RowOk n (S ++ T) l r := by
  cases r with
  | done st => exact h
  | waits k lk => exact ⟨get_app h.1, h.2⟩
theorem again_loop {st : List Int} {os : List Int} {l2 lh l3 l4 : Nat} (hns : cD.ns.length = 4) (n0 : 1 ≤ n) (n1 : n ≤ 6) (w0 : 2 ≤ w) (hd : ∀ d ∈ Ds, OkL n w 2 d) (ho : ∀ o ∈ os, 0 ≤ o ∧ o < (Ds.length : Int)) (hs : st.length = n.toNat) {x7 x9 x10 x11 : Option U} : ∀ (vs : List U) (S : Sto) (r13 r14 : Option U), S[ld]? = some (.lst (Ds.map dlU)) → S[lo]? = some (.lst (os.map U.int)) → S[lh]? = some (.lst [.ref l3, .ref l4]) → S[l3]? = some (.lst (Ds.map dlU)) → S[l4]? = some (.lst (os.map U.int)) → RowOk n S l2 (rowR w Ds os 0 st) →
    ∃ X r13' r14', loopU (fun _ => True) (gNm 13) (fL cD b_law_1) vs [none, some (.ref 1), some (.tup [.int n, .int w]), some (.tup (st.map U.int)), some (.ref ld), x5, some (.ref lo), x7, some (rowU (rowR w Ds os 0 st) l2), x9, x10, x11, some (.ref lh), r13, r14] S
      = some (.nx, [none, some (.ref 1), some (.tup [.int n, .int w]), some (.tup (st.map U.int)), some (.ref ld), x5, some (.ref lo), x7, some (rowU (rowR w Ds os 0 st) l2), x9, x10, x11, some (.ref lh), r13', r14'], S ++ X)
  | [], S, r13, r14, _, _, _, _, _, _ => ⟨[], r13, r14, by rw [List.append_nil]; exact loop_nil trivial⟩
  | v :: vs, S, r13, r14, h1, h2, h3, h4, h5, h6 => by
    obtain ⟨G, l, rk, ll, e1⟩ := inrow_ok (cD := cD) (j := 2) (by omega) hns n0 n1 w0 hd os st S h4 h5 ho hs
    obtain ⟨G', e2⟩ := row_same n1 rk (RowOk.app h6 G) []
    rw [List.append_nil, List.nil_append, List.append_assoc] at e2
    have sd : ∀ Y : Sto, SameD 10 (S ++ (Y ++ [.lst [.ref ld, .ref lo]])) (.ref lh) (.ref (S ++ Y).length) := fun Y => by
      have u : ∀ {l : Nat} {o : O}, S[l]? = some o → (S ++ (Y ++ [.lst [.ref ld, .ref lo]]))[l]? = some o := fun h => get_app h
      refine SameD.lst (k := 9) (u h3) (by rw [← List.append_assoc, ga0]; rfl) (.cons ?_ (.cons ?_ .nil))
      · refine SameD.lst (k := 8) (u h4) (u h1) (.all fun x hx => ?_)
        obtain ⟨d, _, rfl⟩ := List.mem_map.mp hx
        exact (Lay.dls d).mono (by omega)
      · refine SameD.lst (k := 8) (u h5) (u h2) (.all fun x hx => ?_)
        obtain ⟨d, _, rfl⟩ := List.mem_map.mp hx
        exact .int
    have en := (sd (G ++ G')).ne (by omega)
    rw [List.length_append, List.length_append] at en
    have key : ∃ X, (fL cD b_law_1) [none, some (.ref 1), some (.tup [.int n, .int w]), some (.tup (st.map U.int)), some (.ref ld), x5, some (.ref lo), x7, some (rowU (rowR w Ds os 0 st) l2), x9, x10, x11, some (.ref lh), some v, r14] S
        = some (.nx, [none, some (.ref 1), some (.tup [.int n, .int w]), some (.tup (st.map U.int)), some (.ref ld), x5, some (.ref lo), x7, some (rowU (rowR w Ds os 0 st) l2), x9, x10, x11, some (.ref lh), some v, some (rowU (rowR w Ds os 0 st) l)], S ++ X) := by
      cases er : rowR w Ds os 0 st with
      | done st' =>
        rw [er] at e1 e2
        refine ⟨G ++ (G' ++ [.lst [.ref ld, .ref lo]]), ?_⟩
        simp only [rowU, List.append_assoc] at e1 e2 en ⊢
        rwa [fL, b_law_1, h3, e1, e2, en, sn_done_waits, List.length_append]
      | waits k lk =>
        rw [er] at e1 e2 rk
        obtain ⟨g2, k6⟩ := rk
        have g4 : (S ++ (G ++ (G' ++ [O.lst [.ref ld, .ref lo]])))[l]? = some (.lst ((sortI lk).map U.int)) := by rw [← List.append_assoc]; exact get_app g2
        obtain ⟨X, eX⟩ : ∃ X, (S ++ (G ++ (G' ++ [O.lst [.ref ld, .ref lo]]))).set l (O.lst ((sortI lk).map U.int ++ [U.int 9])) = S ++ X := fr_app (ls := []) (by simp) fun l' hl => by
          rw [List.getElem?_set_ne (by omega), List.getElem?_append_left hl]
        refine ⟨X, ?_⟩
        rw [← eX]
        have hk : ((sortI lk).map U.int).length < LIM := by
          rw [List.length_map, (sortI_perm _).length_eq]
          unfold LIM; omega
        simp only [rowU, List.append_assoc] at e1 e2 en ⊢
        rwa [fL, b_law_1, h3, e1, e2, en, g4, x_app1 hk, eq_self, List.length_append]
    obtain ⟨X, e3⟩ := key
    obtain ⟨Y, a, b, ih⟩ := again_loop hns n0 n1 w0 hd ho hs vs (S ++ X) (some v) (some (rowU (rowR w Ds os 0 st) l)) (get_app h1) (get_app h2) (get_app h3) (get_app h4) (get_app h5) (RowOk.app h6 X)
    exact ⟨X ++ Y, a, b, ((loop_nx trivial rfl e3).trans ih).trans (by rw [List.append_assoc])⟩
end
theorem ord_loop (ns : List Int) (T : Sto) {N : Nat} {ld : Nat} {ds : List U} (hN : ds.length = N) (N0 : 0 < N) (N1 : N ≤ 12) (hd : T[ld]? = some (.lst ds)) : ∀ (us : List U) (r : Option U) (ys : List Int) {a c : Int}, 0 ≤ a → 0 ≤ c → ys.length + us.length ≤ 1000 →
    ∃ zs a' c', compU (fun _ => True) (gNm 0) (cCB P_take (cCons (cVar 1) (cCons (cCB fLen (cCons (cVar 2) cNil)) cNil))) (T.length + 1 + 1) us [r, some (.ref 1), some (.ref (ld + 1 + 1))] (scr ns :: pen a c :: (T ++ [.lst (ys.map U.int)]))
      = some (scr ns :: pen a' c' :: (T ++ [.lst ((ys ++ zs).map U.int)])) ∧ zs.length = us.length ∧ (∀ z ∈ zs, 0 ≤ z ∧ z < (N : Int)) ∧ 0 ≤ a' ∧ 0 ≤ c'
  | [], r, ys, a, c, ha, hc, hl => ⟨[], a, c, by simp [compU], rfl, by simp, ha, hc⟩
  | u :: us, r, ys, a, c, ha, hc, hl => by
    obtain ⟨f, a1, c1, h1, p1, q1, ha1, hc1⟩ := take_ok ns (T ++ [.lst (ys.map U.int)]) (m := (N : Int)) ha hc (by omega) (l9 (by omega) (by omega))
    obtain ⟨zs, a2, c2, h2, e2, b2, ha2, hc2⟩ := ord_loop ns T hN N0 N1 hd us (some u) (ys ++ [f]) ha1 hc1 (by simp at hl ⊢; omega)
    refine ⟨f :: zs, a2, c2, ?_, by simp [e2], fun z hz => ?_, ha2, hc2⟩
    · have hlen : (ys.map U.int).length < LIM := by unfold LIM; simp at hl ⊢; omega
      have hd' : (T ++ [O.lst (ys.map U.int)])[ld]? = some (.lst ds) := get_app hd
      unfold compU
      rwa [h1, hd', hN, if_true, hlen]
      rw [List.map_append] at h2
      simp only [List.map_cons, List.map_nil] at h2
      rw [h2]
      simp
    · rcases List.mem_cons.mp hz with rfl | hz
      · exact ⟨p1, q1⟩
      · exact b2 z hz
theorem dls_loop (ns : List Int) (T : Sto) {n w : Int} (n0 : 1 ≤ n) (n1 : n ≤ 6) (w0 : 2 ≤ w) (w1 : w ≤ 1000) : ∀ (us : List U) (r : Option U) (ys : List (List (Dl 2))) (G : Sto) {a c : Int}, 0 ≤ a → 0 ≤ c → ys.length + us.length ≤ 1000 → (∀ d ∈ ys, OkL n w 2 d) →
    ∃ (zs : List (List (Dl 2))) (a' c' : Int) (G' : Sto), compU (fun _ => True) (gNm 0) (cCB (DealJ 3) (cCons (cVar 1) (cCons (cVar 2) (cCons (cC (.int 8)) (cCons (cC (.int 2)) cNil))))) (T.length + 1 + 1) us [r, some (.ref 1), some (.tup [.int n, .int w])] (scr ns :: pen a c :: (T ++ .lst (ys.map dlU) :: G))
      = some (scr ns :: pen a' c' :: (T ++ .lst (zs.map dlU) :: G')) ∧ zs.length = ys.length + us.length ∧ (∀ d ∈ zs, OkL n w 2 d) ∧ 0 ≤ a' ∧ 0 ≤ c'
  | [], r, ys, G, a, c, ha, hc, hl, hy => ⟨ys, a, c, G, comp_nil trivial, rfl, hy, ha, hc⟩
  | u :: us, r, ys, G, a, c, ha, hc, hl, hy => by
    obtain ⟨d, a1, c1, G1, h1, kd, _, _, ha1, hc1, _⟩ := dealJ_ok n0 n1 w0 w1 3 2 2 (by omega) (by omega) ns (T ++ .lst (ys.map dlU) :: G) a c 8 ha hc (by omega) (by omega)
    obtain ⟨zs, a2, c2, G2, h2, e2, b2, ha2, hc2⟩ := dls_loop ns T n0 n1 w0 w1 us (some u) (ys ++ [d]) (G ++ G1) ha1 hc1 (by simp at hl ⊢; omega) (fun x hx => by
      rcases List.mem_append.mp hx with z | z
      · exact hy x z
      · simp at z; subst z; exact kd)
    refine ⟨zs, a2, c2, G2, ?_, by simp at e2 ⊢; omega, b2, ha2, hc2⟩
    have c2' : ((2 : Nat) : Int) = 2 := rfl
    simp only [c2', List.append_assoc, List.cons_append] at h1
    refine (comp_cons (ρ0 := [some u, some (.ref 1), some (.tup [.int n, .int w])]) (S0 := scr ns :: pen a c :: (T ++ .lst (ys.map dlU) :: G)) (S1 := scr ns :: pen a1 c1 :: (T ++ .lst (ys.map dlU) :: (G ++ G1))) (x := dlU d) (ys := ys.map dlU) trivial rfl ?_ ?_ (by unfold LIM; simp at hl ⊢; omega)).trans ?_
    · rwa [h1, dlU]
    · rwa []
    · rw [← h2]
      rwa [List.map_append, List.map_cons, List.map_nil]
theorem turn_loop {cD : Cl} (hns : cD.ns.length = 4) (ns : List Int) {n w : Int} {Ds : List (List (Dl 2))} {st : List Int} {ld : Nat} (n0 : 1 ≤ n) (n1 : n ≤ 6) (w0 : 2 ≤ w) (w1 : w ≤ 1000) (hd : ∀ d ∈ Ds, OkL n w 2 d) (hs : st.length = n.toNat) (N0 : 0 < Ds.length) (N1 : Ds.length ≤ 12) : ∀ (us : List U) (T : Sto) (a c : Int) (r5 r6 r7 r8 r9 r10 r11 r12 r13 r14 : Option U), 0 ≤ a → 0 ≤ c → T[ld]? = some (.lst (Ds.map dlU)) →
    ∃ ρ S', loopU (fun _ => True) (gNm 5) (fL cD b_law_2) us [none, some (.ref 1), some (.tup [.int n, .int w]), some (.tup (st.map U.int)), some (.ref (ld + 1 + 1)), r5, r6, r7, r8, r9, r10, r11, r12, r13, r14] (scr ns :: pen a c :: T) = some (.nx, ρ, S')
  | [], T, a, c, r5, r6, r7, r8, r9, r10, r11, r12, r13, r14, _, _, _ => ⟨_, _, loop_nil trivial⟩
  | u :: us, T, a, c, r5, r6, r7, r8, r9, r10, r11, r12, r13, r14, ha, hc, hT => by
    obtain ⟨f, a1, c1, e1, p1, q1, ha1, hc1⟩ := take_ok ns T (m := 11) ha hc (by decide) (by decide +kernel)
    obtain ⟨os, a2, c2, e2, l2, b2, ha2, hc2⟩ := ord_loop ns T (N := Ds.length) (by simp) N0 N1 hT (rangeU 0 f.toNat) none [] ha1 hc1 (by simp [rangeU]; omega)
    simp only [List.map_nil, List.nil_append] at e2
    have gld : (scr ns :: pen a2 c2 :: (T ++ [.lst (os.map U.int)]))[ld + 1 + 1]? = some (.lst (Ds.map dlU)) := by simp only [List.getElem?_cons_succ]; exact get_app hT
    have glo : (scr ns :: pen a2 c2 :: (T ++ [O.lst (os.map U.int)]))[T.length + 1 + 1]? = some (.lst (os.map U.int)) := by rwa []
    obtain ⟨X, l, y7, y8, a9, a10, a11, rk, rm, el⟩ := law_row (cD := cD) (x3 := some (.tup (st.map U.int))) (x5 := some u) (x12 := r12) (x13 := r13) (x14 := r14) (us := os.map U.int) n0 n1 w0 hd os 0 st (scr ns :: pen a2 c2 :: (T ++ [.lst (os.map U.int)])) r9 r10 r11 gld glo b2 hs
    obtain ⟨y8', hy8⟩ : ∃ y, y = rowU (rowR w Ds os 0 st) l := ⟨_, rfl⟩
    have ed : (cIfS (cTest (cOp fIsN (cVar 8) (cC .non))) (cSet 8 (cTup (cCons (cC (.str "done")) (cCons (cVar 7) cNil)))) cSkip) [none, some (.ref 1), some (.tup [.int n, .int w]), some (.tup (st.map U.int)), some (.ref (ld + 1 + 1)), some u, some (.ref (T.length + 1 + 1)), some y7, some y8, a9, a10, a11, r12, r13, r14] ((scr ns :: pen a2 c2 :: (T ++ [.lst (os.map U.int)])) ++ X)
        = some (.nx, [none, some (.ref 1), some (.tup [.int n, .int w]), some (.tup (st.map U.int)), some (.ref (ld + 1 + 1)), some u, some (.ref (T.length + 1 + 1)), some y7, some y8', a9, a10, a11, r12, r13, r14], (scr ns :: pen a2 c2 :: (T ++ [.lst (os.map U.int)])) ++ X) := by
      rw [hy8]
      cases er : rowR w Ds os 0 st with
      | done st' =>
        rw [er] at rm
        obtain ⟨rfl, rfl⟩ := rm
        rwa [rowU, x_isn, in_non]
      | waits k lk =>
        rw [er] at rm
        have rm' : y8 = rowU (.waits k lk) l := rm
        subst rm'
        rwa [rowU, x_isn, in_tup]
    have S2 : (scr ns :: pen a2 c2 :: (T ++ [O.lst (os.map U.int)])) ++ X ++ [.lst (Ds.map dlU), .lst (os.map U.int), .lst [.ref (T.length + 1 + X.length + 1 + 1), .ref (T.length + 1 + X.length + 1 + 1 + 1)]] = scr ns :: pen a2 c2 :: (T ++ (.lst (os.map U.int) :: (X ++ [.lst (Ds.map dlU), .lst (os.map U.int), .lst [.ref (T.length + 1 + X.length + 1 + 1), .ref (T.length + 1 + X.length + 1 + 1 + 1)]]))) := by simp
    have B : ∀ (k : Nat) (o : O), [O.lst (Ds.map dlU), .lst (os.map U.int), .lst [.ref (T.length + 1 + X.length + 1 + 1), .ref (T.length + 1 + X.length + 1 + 1 + 1)]][k]? = some o → ((scr ns :: pen a2 c2 :: (T ++ [O.lst (os.map U.int)])) ++ X ++ [.lst (Ds.map dlU), .lst (os.map U.int), .lst [.ref (T.length + 1 + X.length + 1 + 1), .ref (T.length + 1 + X.length + 1 + 1 + 1)]])[T.length + 1 + X.length + 1 + 1 + k]? = some o := fun k o h => by
      rw [show T.length + 1 + X.length + 1 + 1 + k = ((scr ns :: pen a2 c2 :: (T ++ [O.lst (os.map U.int)])) ++ X).length + k by simp; omega, ga]; exact h
    obtain ⟨Y, b13, b14, ea⟩ := again_loop (cD := cD) (Ds := Ds) (x5 := some u) (x7 := some y7) (x9 := a9) (x10 := a10) (x11 := a11) (l2 := l) (lh := T.length + 1 + X.length + 1 + 1 + 2) (l3 := T.length + 1 + X.length + 1 + 1) (l4 := T.length + 1 + X.length + 1 + 1 + 1) (ld := ld + 1 + 1) (lo := T.length + 1 + 1) hns n0 n1 w0 hd b2 hs (rangeU 0 2) _ r13 r14 (get_app (get_app gld)) (get_app (get_app glo)) (B 2 _ rfl) (B 0 _ rfl) (B 1 _ rfl) (RowOk.app rk _)
    rw [← hy8, S2] at ea
    obtain ⟨ρ', S', ih⟩ := turn_loop hns ns n0 n1 w0 w1 hd hs N0 N1 us (T ++ (.lst (os.map U.int) :: (X ++ [.lst (Ds.map dlU), .lst (os.map U.int), .lst [.ref (T.length + 1 + X.length + 1 + 1), .ref (T.length + 1 + X.length + 1 + 1 + 1)]])) ++ Y) a2 c2 (some u) (some (.ref (T.length + 1 + 1))) (some y7) (some y8') a9 a10 a11 (some (.ref (T.length + 1 + X.length + 1 + 1 + 2))) b13 b14 ha2 hc2 (get_app (get_app hT))
    refine ⟨ρ', S', (loop_nx trivial rfl ?_).trans ih⟩
    have hr : -(2 ^ 62) ≤ f ∧ f < 2 ^ 62 := by omega
    have r2 : iRange1 (cCons (cC (.int 2)) cNil) = fun ρ S => some (rangeU 0 2, fun _ => True, S) := rfl
    simp only [List.append_assoc, List.cons_append, List.nil_append] at e1 el ed ea
    have gT : (T ++ (O.lst (os.map U.int) :: X))[ld]? = some (.lst (Ds.map dlU)) := get_app hT
    have gT2 : (T ++ (O.lst (os.map U.int) :: (X ++ [O.lst (Ds.map dlU)])))[ld]? = some (.lst (Ds.map dlU)) := get_app hT
    have es : ∀ S : Sto, S[T.length + 1 + 1]? = some (.lst (os.map U.int)) → seqU (.ref (T.length + 1 + 1)) S = some (os.map U.int, fun S => S[T.length + 1 + 1]? = some (.lst (os.map U.int))) := fun S h => by simp only [seqU, h]
    simp only [enumK] at el
    have L1 : T.length + (X.length + 1) + 1 + 1 = T.length + 1 + X.length + 1 + 1 := by omega
    rwa [fL, b_law_2, cComp, cFor, iEnum, enumU, iRange1, rhoC, List.replicate, e1, hr, if_true, and_self, Option.getD_some, e2, es _ glo, el, ed, r2, gT, gT2, L1, List.length_append]
    have L2 : T.length + (X.length + (0 + 1 + 1) + 1) + 1 + 1 = T.length + 1 + X.length + 1 + 1 + 2 := by omega
    have L3 : T.length + (X.length + (0 + 1) + 1) + 1 + 1 = T.length + 1 + X.length + 1 + 1 + 1 := by omega
    rw [L2, L3]
    exact ea
theorem law_ok {cD : Cl} (hns : cD.ns.length = 4) (ns : List Int) (a c : Int) (ha : 0 ≤ a) (hc : 0 ≤ c) : ∃ ρ' S', (fL cD c_law) [none, some (.ref 1), none, none, none, none, none, none, none, none, none, none, none, none, none] [.lst (ns.map U.int), .lst [.ref 0, .int a, .int c]] = some (.rt (.bl true), ρ', S') := by
  obtain ⟨n, w, a1, c1, G, e1, n0, n1, w0, w1, ha1, hc1⟩ := world_ok ns [] ha hc
  obtain ⟨st, a2, c2, G2, e2, hs, _, ha2, hc2⟩ := state_ok ns ([] ++ G) ha1 hc1 n0 n1 w0 w1
  obtain ⟨f, a3, c3, e3, p3, q3, ha3, hc3⟩ := take_ok ns ([] ++ G ++ G2 ++ [.lst [.int 4, .int 12]]) (m := 2) ha2 hc2 (by decide) (by decide +kernel)
  obtain ⟨z, hz, z0, z1⟩ : ∃ z : Int, atI [U.int 4, U.int 12] f = some (.int z) ∧ 0 < z ∧ z ≤ 12 := by
    have : f = 0 ∨ f = 1 := by omega
    rcases this with rfl | rfl
    · exact ⟨4, rfl, by omega, by omega⟩
    · exact ⟨12, rfl, by omega, by omega⟩
  obtain ⟨g, a4, c4, e4, p4, q4, ha4, hc4⟩ := take_ok ns ([] ++ G ++ G2 ++ [.lst [.int 4, .int 12]]) (m := z) ha3 hc3 z0 (l9 (by omega) (by omega))
  obtain ⟨Ds, a5, c5, G5, e5, l5, k5, ha5, hc5⟩ := dls_loop ns ([] ++ G ++ G2 ++ [.lst [.int 4, .int 12]]) n0 n1 w0 w1 (rangeU 0 (1 + g).toNat) none [] [] ha4 hc4 (by simp [rangeU]; omega) (by simp)
  have hl : Ds.length = (1 + g).toNat := by simpa [rangeU] using l5
  obtain ⟨ρ, S', e6⟩ := turn_loop (cD := cD) (Ds := Ds) (st := st) (ld := ([] ++ G ++ G2 ++ [O.lst [.int 4, .int 12]]).length) hns ns n0 n1 w0 w1 k5 hs (by omega) (by omega) (rangeU 0 3) ([] ++ G ++ G2 ++ [.lst [.int 4, .int 12]] ++ .lst (Ds.map dlU) :: G5) a5 c5 none none none none none none none none none none ha5 hc5 (by rw [ga0]; rfl)
  refine ⟨ρ, S', ?_⟩
  have r3 : iRange1 (cCons (cC (.int 3)) cNil) = fun ρ S => some (rangeU 0 3, fun _ => True, S) := rfl
  have hr : -(2 ^ 62) ≤ 1 + g ∧ 1 + g < 2 ^ 62 := by omega
  show c_law P_world P_state P_take (DealJ 3) (P_lalone 3) (P_row cD) (P_same 3) _ [scr ns, pen a c] = _
  simp only [List.nil_append, List.append_assoc, List.cons_append, List.map_nil, List.length_append, List.length_cons, List.length_nil, Nat.zero_add] at e2 e3 e4 e5 e6
  rwa [c_law, cFor, r3, cComp, iRange1, rhoC, List.replicate, e1, e2, e3, hz, e4, hr, if_true, and_self, Option.getD_some, e5, List.length_append, Nat.zero_add]
  rw [e6]
  rfl
end OL
set_option maxHeartbeats 4000000
namespace OL
open PySem PySem.Spec PyProof.Rows L2 OG OP OQ
section
variable {P : Program} {w : World} {K : PySem.W.Frag} {mg : Str → Option Value} {base : Heap}
theorem sc__law_pen : FnScope ["script"] ["script"] (defScope s__law_pen) := ⟨rfl, rfl, rfl, by decide +kernel, rfl, by decide +kernel, by decide +kernel⟩
theorem has_pen {k : Nat} (B : Blt mg) (d : Def K mg "_law_pen" s__law_pen ["script"]) : Has P w K mg base "_law_pen" (k+1) ["script"] (spPenX K) := by
  refine d.has sc__law_pen (fun vs H Q E h => ?_) (fun f cdv A outer s H vs Q E hr h => ?_)
  · obtain ⟨a, ns, rfl, _⟩ := h; rfl
  obtain ⟨a, ns, rfl, hS, q⟩ := h
  have nd := sc__law_pen.nd
  refine ⟨_, (wpss_one (wps_ret (wpe_lst (wpa_cons (wpe_callTy call_list_of rfl B.list OG.boot_list (wpa_cons (wpe_slice sl_list (wpv 0) wpo_none (wpo_some wpe_int)) wpa_nil)) (wpa_cons wpe_int (wpa_cons wpe_int wpa_nil)))))), ?_⟩
  refine ⟨_, rfl, _, rfl, a, _, rfl, hS, fun p hp => ⟨p, _, rfl, .inl (SqL.of upd_same), fun l hl => ⟨(by show 3 ≤ sizeLine; decide), fun r hr' => ?_⟩⟩⟩
  obtain ⟨ms, em⟩ : ∃ ms : List Int, cutV (ns.map V.int) none (some 63) = ms.map V.int := ⟨_, cut_ints _ _ _⟩
  rw [em] at hl hr' ⊢
  refine q r l _ (((same_new hp _).trans (same_new hl _)).trans (same_new hr' _)) ⟨ms, 0, 0, upd_same, ?_, ne_of_none upd_same hr', by decide, by decide⟩ ?_
  · rw [upd_ne (ne_of_none upd_same hr')]; exact upd_same
  · exact (((same_new hp _).trans (same_new hl _))).free hr'
end
theorem all_mk {l : PySem.W.OpenLaw} {w : World} {K : PySem.W.Frag} {h : Heap} {mg : Str → Option Value} {fa : Addr} (X : K.In h) (G : h.Ns mainGlobals mg) (hfa : mg "law" = some (.ref fa))
    {f1 : Addr} {od1 an1 : Option Addr} {sl1 : Array (Option Value)} {oc1 kV1 dc1 pm1 cd1 ct1 : Value}
    {f2 : Addr} {od2 an2 : Option Addr} {sl2 : Array (Option Value)} {oc2 kV2 dc2 pm2 cd2 ct2 : Value}
    {f3 : Addr} {od3 an3 : Option Addr} {sl3 : Array (Option Value)} {oc3 kV3 dc3 pm3 cd3 ct3 : Value}
    {f4 : Addr} {od4 an4 : Option Addr} {sl4 : Array (Option Value)} {oc4 kV4 dc4 pm4 cd4 ct4 : Value}
    {f5 : Addr} {od5 an5 : Option Addr} {sl5 : Array (Option Value)} {oc5 kV5 dc5 pm5 cd5 ct5 : Value}
    {f6 : Addr} {od6 an6 : Option Addr} {sl6 : Array (Option Value)} {oc6 kV6 dc6 pm6 cd6 ct6 : Value}
    {f7 : Addr} {od7 an7 : Option Addr} {sl7 : Array (Option Value)} {oc7 kV7 dc7 pm7 cd7 ct7 : Value}
    {f8 : Addr} {od8 an8 : Option Addr} {sl8 : Array (Option Value)} {oc8 kV8 dc8 pm8 cd8 ct8 : Value}
    {f9 : Addr} {od9 an9 : Option Addr} {sl9 : Array (Option Value)} {oc9 kV9 dc9 pm9 cd9 ct9 : Value}
    {f10 : Addr} {od10 an10 : Option Addr} {sl10 : Array (Option Value)} {oc10 kV10 dc10 pm10 cd10 ct10 : Value}
    {f11 : Addr} {od11 an11 : Option Addr} {sl11 : Array (Option Value)} {oc11 kV11 dc11 pm11 cd11 ct11 : Value}
    {f12 : Addr} {od12 an12 : Option Addr} {sl12 : Array (Option Value)} {oc12 kV12 dc12 pm12 cd12 ct12 : Value}
    {f13 : Addr} {od13 an13 : Option Addr} {sl13 : Array (Option Value)} {oc13 kV13 dc13 pm13 cd13 ct13 : Value}
    {f14 : Addr} {od14 an14 : Option Addr} {sl14 : Array (Option Value)} {oc14 kV14 dc14 pm14 cd14 ct14 : Value}
    {f15 : Addr} {od15 an15 : Option Addr} {sl15 : Array (Option Value)} {oc15 kV15 dc15 pm15 cd15 ct15 : Value}
    {f16 : Addr} {od16 an16 : Option Addr} {sl16 : Array (Option Value)} {oc16 kV16 dc16 pm16 cd16 ct16 : Value}
    {f17 : Addr} {od17 an17 : Option Addr} {sl17 : Array (Option Value)} {oc17 kV17 dc17 pm17 cd17 ct17 : Value}
    {CDoing : Addr}
    {f18 : Addr} {od18 an18 : Option Addr} {sl18 : Array (Option Value)} {oc18 kV18 dc18 pm18 cd18 ct18 : Value}
    {f19 : Addr} {od19 an19 : Option Addr} {sl19 : Array (Option Value)} {oc19 kV19 dc19 pm19 cd19 ct19 : Value}
    {f20 : Addr} {od20 an20 : Option Addr} {sl20 : Array (Option Value)} {oc20 kV20 dc20 pm20 cd20 ct20 : Value}
    {f21 : Addr} {od21 an21 : Option Addr} {sl21 : Array (Option Value)} {oc21 kV21 dc21 pm21 cd21 ct21 : Value}
    {f22 : Addr} {od22 an22 : Option Addr} {sl22 : Array (Option Value)} {oc22 kV22 dc22 pm22 cd22 ct22 : Value}
    {f23 : Addr} {od23 an23 : Option Addr} {sl23 : Array (Option Value)} {oc23 kV23 dc23 pm23 cd23 ct23 : Value}
    {f24 : Addr} {od24 an24 : Option Addr} {sl24 : Array (Option Value)} {oc24 kV24 dc24 pm24 cd24 ct24 : Value}
    {f25 : Addr} {od25 an25 : Option Addr} {sl25 : Array (Option Value)} {oc25 kV25 dc25 pm25 cd25 ct25 : Value}
    {f26 : Addr} {od26 an26 : Option Addr} {sl26 : Array (Option Value)} {oc26 kV26 dc26 pm26 cd26 ct26 : Value}
    {f27 : Addr} {od27 an27 : Option Addr} {sl27 : Array (Option Value)} {oc27 kV27 dc27 pm27 cd27 ct27 : Value}
    {f28 : Addr} {od28 an28 : Option Addr} {sl28 : Array (Option Value)} {oc28 kV28 dc28 pm28 cd28 ct28 : Value}
    (a1 : PySem.W.nsIn K mainGlobals "_law_take" = some (some (.ref f1))) (l1 : K.lookup f1 = some ⟨oc1, od1, .func (PySem.W.fnOf "_law_take" "_law_take" (defArgs s__law_take) (defBody s__law_take) (defScope s__law_take) .none kV1 dc1 pm1 an1 cd1 ct1), sl1⟩) (c1 : PySem.W.codeIn K cd1 "_law_take" = true) (k1 : PySem.W.keepIn K (.ref f1) = true)
    (a2 : PySem.W.nsIn K mainGlobals "_law_world" = some (some (.ref f2))) (l2 : K.lookup f2 = some ⟨oc2, od2, .func (PySem.W.fnOf "_law_world" "_law_world" (defArgs s__law_world) (defBody s__law_world) (defScope s__law_world) .none kV2 dc2 pm2 an2 cd2 ct2), sl2⟩) (c2 : PySem.W.codeIn K cd2 "_law_world" = true) (k2 : PySem.W.keepIn K (.ref f2) = true)
    (a3 : PySem.W.nsIn K mainGlobals "_law_state" = some (some (.ref f3))) (l3 : K.lookup f3 = some ⟨oc3, od3, .func (PySem.W.fnOf "_law_state" "_law_state" (defArgs s__law_state) (defBody s__law_state) (defScope s__law_state) .none kV3 dc3 pm3 an3 cd3 ct3), sl3⟩) (c3 : PySem.W.codeIn K cd3 "_law_state" = true) (k3 : PySem.W.keepIn K (.ref f3) = true)
    (a4 : PySem.W.nsIn K mainGlobals "_law_size" = some (some (.ref f4))) (l4 : K.lookup f4 = some ⟨oc4, od4, .func (PySem.W.fnOf "_law_size" "_law_size" (defArgs s__law_size) (defBody s__law_size) (defScope s__law_size) .none kV4 dc4 pm4 an4 cd4 ct4), sl4⟩) (c4 : PySem.W.codeIn K cd4 "_law_size" = true) (k4 : PySem.W.keepIn K (.ref f4) = true)
    (a5 : PySem.W.nsIn K mainGlobals "_law_plain_deed" = some (some (.ref f5))) (l5 : K.lookup f5 = some ⟨oc5, od5, .func (PySem.W.fnOf "_law_plain_deed" "_law_plain_deed" (defArgs s__law_plain_deed) (defBody s__law_plain_deed) (defScope s__law_plain_deed) .none kV5 dc5 pm5 an5 cd5 ct5), sl5⟩) (c5 : PySem.W.codeIn K cd5 "_law_plain_deed" = true) (k5 : PySem.W.keepIn K (.ref f5) = true)
    (a6 : PySem.W.nsIn K mainGlobals "_law_dealing" = some (some (.ref f6))) (l6 : K.lookup f6 = some ⟨oc6, od6, .func (PySem.W.fnOf "_law_dealing" "_law_dealing" (defArgs s__law_dealing) (defBody s__law_dealing) (defScope s__law_dealing) .none kV6 dc6 pm6 an6 cd6 ct6), sl6⟩) (c6 : PySem.W.codeIn K cd6 "_law_dealing" = true) (k6 : PySem.W.keepIn K (.ref f6) = true)
    (a7 : PySem.W.nsIn K mainGlobals "_law_plain" = some (some (.ref f7))) (l7 : K.lookup f7 = some ⟨oc7, od7, .func (PySem.W.fnOf "_law_plain" "_law_plain" (defArgs s__law_plain) (defBody s__law_plain) (defScope s__law_plain) .none kV7 dc7 pm7 an7 cd7 ct7), sl7⟩) (c7 : PySem.W.codeIn K cd7 "_law_plain" = true) (k7 : PySem.W.keepIn K (.ref f7) = true)
    (a8 : PySem.W.nsIn K mainGlobals "_law_waits" = some (some (.ref f8))) (l8 : K.lookup f8 = some ⟨oc8, od8, .func (PySem.W.fnOf "_law_waits" "_law_waits" (defArgs s__law_waits) (defBody s__law_waits) (defScope s__law_waits) .none kV8 dc8 pm8 an8 cd8 ct8), sl8⟩) (c8 : PySem.W.codeIn K cd8 "_law_waits" = true) (k8 : PySem.W.keepIn K (.ref f8) = true)
    (a9 : PySem.W.nsIn K mainGlobals "_law_alone" = some (some (.ref f9))) (l9 : K.lookup f9 = some ⟨oc9, od9, .func (PySem.W.fnOf "_law_alone" "_law_alone" (defArgs s__law_alone) (defBody s__law_alone) (defScope s__law_alone) .none kV9 dc9 pm9 an9 cd9 ct9), sl9⟩) (c9 : PySem.W.codeIn K cd9 "_law_alone" = true) (k9 : PySem.W.keepIn K (.ref f9) = true)
    (a10 : PySem.W.nsIn K mainGlobals "_law_same" = some (some (.ref f10))) (l10 : K.lookup f10 = some ⟨oc10, od10, .func (PySem.W.fnOf "_law_same" "_law_same" (defArgs s__law_same) (defBody s__law_same) (defScope s__law_same) .none kV10 dc10 pm10 an10 cd10 ct10), sl10⟩) (c10 : PySem.W.codeIn K cd10 "_law_same" = true) (k10 : PySem.W.keepIn K (.ref f10) = true)
    (a11 : PySem.W.nsIn K mainGlobals "with_at" = some (some (.ref f11))) (l11 : K.lookup f11 = some ⟨oc11, od11, .func (PySem.W.fnOf "with_at" "with_at" (defArgs s_with_at) (defBody s_with_at) (defScope s_with_at) .none kV11 dc11 pm11 an11 cd11 ct11), sl11⟩) (c11 : PySem.W.codeIn K cd11 "with_at" = true) (k11 : PySem.W.keepIn K (.ref f11) = true)
    (a12 : PySem.W.nsIn K mainGlobals "onwards" = some (some (.ref f12))) (l12 : K.lookup f12 = some ⟨oc12, od12, .func (PySem.W.fnOf "onwards" "onwards" (defArgs s_onwards) (defBody s_onwards) (defScope s_onwards) .none kV12 dc12 pm12 an12 cd12 ct12), sl12⟩) (c12 : PySem.W.codeIn K cd12 "onwards" = true) (k12 : PySem.W.keepIn K (.ref f12) = true)
    (a13 : PySem.W.nsIn K mainGlobals "goes_through" = some (some (.ref f13))) (l13 : K.lookup f13 = some ⟨oc13, od13, .func (PySem.W.fnOf "goes_through" "goes_through" (defArgs s_goes_through) (defBody s_goes_through) (defScope s_goes_through) .none kV13 dc13 pm13 an13 cd13 ct13), sl13⟩) (c13 : PySem.W.codeIn K cd13 "goes_through" = true) (k13 : PySem.W.keepIn K (.ref f13) = true)
    (a14 : PySem.W.nsIn K mainGlobals "alone" = some (some (.ref f14))) (l14 : K.lookup f14 = some ⟨oc14, od14, .func (PySem.W.fnOf "alone" "alone" (defArgs s_alone) (defBody s_alone) (defScope s_alone) .none kV14 dc14 pm14 an14 cd14 ct14), sl14⟩) (c14 : PySem.W.codeIn K cd14 "alone" = true) (k14 : PySem.W.keepIn K (.ref f14) = true)
    (a15 : PySem.W.nsIn K mainGlobals "in_row" = some (some (.ref f15))) (l15 : K.lookup f15 = some ⟨oc15, od15, .func (PySem.W.fnOf "in_row" "in_row" (defArgs s_in_row) (defBody s_in_row) (defScope s_in_row) .none kV15 dc15 pm15 an15 cd15 ct15), sl15⟩) (c15 : PySem.W.codeIn K cd15 "in_row" = true) (k15 : PySem.W.keepIn K (.ref f15) = true)
    (a16 : PySem.W.nsIn K mainGlobals "_law_pen" = some (some (.ref f16))) (l16 : K.lookup f16 = some ⟨oc16, od16, .func (PySem.W.fnOf "_law_pen" "_law_pen" (defArgs s__law_pen) (defBody s__law_pen) (defScope s__law_pen) .none kV16 dc16 pm16 an16 cd16 ct16), sl16⟩) (c16 : PySem.W.codeIn K cd16 "_law_pen" = true) (k16 : PySem.W.keepIn K (.ref f16) = true)
    (a17 : PySem.W.nsIn K mainGlobals "law" = some (some (.ref f17))) (l17 : K.lookup f17 = some ⟨oc17, od17, .func (PySem.W.fnOf "law" "law" (defArgs s_law) (defBody s_law) (defScope s_law) .none kV17 dc17 pm17 an17 cd17 ct17), sl17⟩) (c17 : PySem.W.codeIn K cd17 "law" = true) (k17 : PySem.W.keepIn K (.ref f17) = true)
    (aCDoing : PySem.W.nsIn K mainGlobals "Doing" = some (some (.ref CDoing))) (pgDoing : PySem.W.plainGet K CDoing Str.empty = true) (hdDoing : PySem.W.hasDictIn K CDoing = true) (poDoing : PySem.W.plainOver K CDoing = true) (saDoing : PySem.W.findIn K (.ref CDoing) "__setattr__" = some (some (.builtin "object.__setattr__"))) (mkDoing : PySem.W.makesIn K CDoing = true) (kcDoing : PySem.W.keepIn K (.ref CDoing) = true)
    (nfDoing0 : PySem.W.findIn K (.ref CDoing) "wheel" = some none)
    (nfDoing1 : PySem.W.findIn K (.ref CDoing) "held" = some none)
    (nfDoing2 : PySem.W.findIn K (.ref CDoing) "puts" = some none)
    (nfDoing3 : PySem.W.findIn K (.ref CDoing) "part" = some none)
    (a18 : PySem.W.findIn K (.ref CDoing) "__init__" = some (some (.ref f18))) (i18 : PySem.W.isFn K (.ref f18) = true) (l18 : K.lookup f18 = some ⟨oc18, od18, .func (PySem.W.fnOf "__init__" "Doing.__init__" (defArgs s_Doing_init) (defBody s_Doing_init) (defScope s_Doing_init) .none kV18 dc18 pm18 an18 cd18 ct18), sl18⟩) (c18 : PySem.W.codeIn K cd18 "Doing.__init__" = true) (k18 : PySem.W.keepIn K (.ref f18) = true)
    (a19 : PySem.W.findIn K (.ref CDoing) "deed" = some (some (.ref f19))) (i19 : PySem.W.isFn K (.ref f19) = true) (l19 : K.lookup f19 = some ⟨oc19, od19, .func (PySem.W.fnOf "deed" "Doing.deed" (defArgs s_Doing_deed) (defBody s_Doing_deed) (defScope s_Doing_deed) .none kV19 dc19 pm19 an19 cd19 ct19), sl19⟩) (c19 : PySem.W.codeIn K cd19 "Doing.deed" = true) (k19 : PySem.W.keepIn K (.ref f19) = true)
    (a20 : PySem.W.findIn K (.ref CDoing) "asks" = some (some (.ref f20))) (i20 : PySem.W.isFn K (.ref f20) = true) (l20 : K.lookup f20 = some ⟨oc20, od20, .func (PySem.W.fnOf "asks" "Doing.asks" (defArgs s_Doing_asks) (defBody s_Doing_asks) (defScope s_Doing_asks) .none kV20 dc20 pm20 an20 cd20 ct20), sl20⟩) (c20 : PySem.W.codeIn K cd20 "Doing.asks" = true) (k20 : PySem.W.keepIn K (.ref f20) = true)
    (a21 : PySem.W.findIn K (.ref CDoing) "hold" = some (some (.ref f21))) (i21 : PySem.W.isFn K (.ref f21) = true) (l21 : K.lookup f21 = some ⟨oc21, od21, .func (PySem.W.fnOf "hold" "Doing.hold" (defArgs s_Doing_hold) (defBody s_Doing_hold) (defScope s_Doing_hold) .none kV21 dc21 pm21 an21 cd21 ct21), sl21⟩) (c21 : PySem.W.codeIn K cd21 "Doing.hold" = true) (k21 : PySem.W.keepIn K (.ref f21) = true)
    (a22 : PySem.W.findIn K (.ref CDoing) "part_behind" = some (some (.ref f22))) (i22 : PySem.W.isFn K (.ref f22) = true) (l22 : K.lookup f22 = some ⟨oc22, od22, .func (PySem.W.fnOf "part_behind" "Doing.part_behind" (defArgs s_Doing_part_behind) (defBody s_Doing_part_behind) (defScope s_Doing_part_behind) .none kV22 dc22 pm22 an22 cd22 ct22), sl22⟩) (c22 : PySem.W.codeIn K cd22 "Doing.part_behind" = true) (k22 : PySem.W.keepIn K (.ref f22) = true)
    (a23 : PySem.W.findIn K (.ref CDoing) "go_behind" = some (some (.ref f23))) (i23 : PySem.W.isFn K (.ref f23) = true) (l23 : K.lookup f23 = some ⟨oc23, od23, .func (PySem.W.fnOf "go_behind" "Doing.go_behind" (defArgs s_Doing_go_behind) (defBody s_Doing_go_behind) (defScope s_Doing_go_behind) .none kV23 dc23 pm23 an23 cd23 ct23), sl23⟩) (c23 : PySem.W.codeIn K cd23 "Doing.go_behind" = true) (k23 : PySem.W.keepIn K (.ref f23) = true)
    (a24 : PySem.W.findIn K (.ref CDoing) "hear" = some (some (.ref f24))) (i24 : PySem.W.isFn K (.ref f24) = true) (l24 : K.lookup f24 = some ⟨oc24, od24, .func (PySem.W.fnOf "hear" "Doing.hear" (defArgs s_Doing_hear) (defBody s_Doing_hear) (defScope s_Doing_hear) .none kV24 dc24 pm24 an24 cd24 ct24), sl24⟩) (c24 : PySem.W.codeIn K cd24 "Doing.hear" = true) (k24 : PySem.W.keepIn K (.ref f24) = true)
    (a25 : PySem.W.findIn K (.ref CDoing) "enter_try" = some (some (.ref f25))) (i25 : PySem.W.isFn K (.ref f25) = true) (l25 : K.lookup f25 = some ⟨oc25, od25, .func (PySem.W.fnOf "enter_try" "Doing.enter_try" (defArgs s_Doing_enter_try) (defBody s_Doing_enter_try) (defScope s_Doing_enter_try) .none kV25 dc25 pm25 an25 cd25 ct25), sl25⟩) (c25 : PySem.W.codeIn K cd25 "Doing.enter_try" = true) (k25 : PySem.W.keepIn K (.ref f25) = true)
    (a26 : PySem.W.findIn K (.ref CDoing) "goes_back" = some (some (.ref f26))) (i26 : PySem.W.isFn K (.ref f26) = true) (l26 : K.lookup f26 = some ⟨oc26, od26, .func (PySem.W.fnOf "goes_back" "Doing.goes_back" (defArgs s_Doing_goes_back) (defBody s_Doing_goes_back) (defScope s_Doing_goes_back) .none kV26 dc26 pm26 an26 cd26 ct26), sl26⟩) (c26 : PySem.W.codeIn K cd26 "Doing.goes_back" = true) (k26 : PySem.W.keepIn K (.ref f26) = true)
    (a27 : PySem.W.findIn K (.ref CDoing) "do_deed" = some (some (.ref f27))) (i27 : PySem.W.isFn K (.ref f27) = true) (l27 : K.lookup f27 = some ⟨oc27, od27, .func (PySem.W.fnOf "do_deed" "Doing.do_deed" (defArgs s_Doing_do_deed) (defBody s_Doing_do_deed) (defScope s_Doing_do_deed) .none kV27 dc27 pm27 an27 cd27 ct27), sl27⟩) (c27 : PySem.W.codeIn K cd27 "Doing.do_deed" = true) (k27 : PySem.W.keepIn K (.ref f27) = true)
    (a28 : PySem.W.findIn K (.ref CDoing) "put_pairs" = some (some (.ref f28))) (i28 : PySem.W.isFn K (.ref f28) = true) (l28 : K.lookup f28 = some ⟨oc28, od28, .func (PySem.W.fnOf "put_pairs" "Doing.put_pairs" (defArgs s_Doing_put_pairs) (defBody s_Doing_put_pairs) (defScope s_Doing_put_pairs) .none kV28 dc28 pm28 an28 cd28 ct28), sl28⟩) (c28 : PySem.W.codeIn K cd28 "Doing.put_pairs" = true) (k28 : PySem.W.keepIn K (.ref f28) = true)
    (z29 : PySem.W.nsIn K mainGlobals "len" = some none)
    (z30 : PySem.W.nsIn K mainGlobals "isinstance" = some none)
    (z31 : PySem.W.nsIn K mainGlobals "int" = some none)
    (z32 : PySem.W.nsIn K mainGlobals "bool" = some none)
    (z33 : PySem.W.nsIn K mainGlobals "str" = some none)
    (z34 : PySem.W.nsIn K mainGlobals "tuple" = some none)
    (z35 : PySem.W.nsIn K mainGlobals "list" = some none)
    (z36 : PySem.W.nsIn K mainGlobals "range" = some none)
    (z37 : PySem.W.nsIn K mainGlobals "min" = some none)
    (z38 : PySem.W.nsIn K mainGlobals "sum" = some none)
    (z39 : PySem.W.nsIn K mainGlobals "all" = some none)
    (z40 : PySem.W.nsIn K mainGlobals "zip" = some none)
    (z41 : PySem.W.nsIn K mainGlobals "sorted" = some none)
    (z42 : PySem.W.nsIn K mainGlobals "dict" = some none)
    (z43 : PySem.W.nsIn K mainGlobals "enumerate" = some none)
    (z44 : PySem.W.nsIn K mainGlobals "any" = some none)
    (z45 : PySem.W.nsIn K mainGlobals "max" = some none)
    (z46 : PySem.W.nsIn K mainGlobals "set" = some none) :
    ∃ fd : FuncData, (∀ (s : Shared) (v : Value), BindsTo s fd ⟨[v], []⟩ [("script", v)]) ∧ ∀ base : Heap, K.In base → base.Ns mainGlobals mg → FnOk l.prog w K mg base CX0 7 fa fd ["script"] (spLaw K) := by
  have e := hfa.symm.trans (PySem.W.mg_of X G a17)
  cases e
  have F__law_take := fun_mk (st := s__law_take) l1 c1 k1
  have D__law_take : Def K mg "_law_take" s__law_take ["pen", "many"] := ⟨_, _, F__law_take, F__law_take.binds (ps := ["pen", "many"]) fun _ _ _ _ _ _ us hl => match us, hl with | [_, _], _ => rfl, PySem.W.mg_of X G a1⟩
  have F__law_world := fun_mk (st := s__law_world) l2 c2 k2
  have D__law_world : Def K mg "_law_world" s__law_world ["pen"] := ⟨_, _, F__law_world, F__law_world.binds (ps := ["pen"]) fun _ _ _ _ _ _ us hl => match us, hl with | [_], _ => rfl, PySem.W.mg_of X G a2⟩
  have F__law_state := fun_mk (st := s__law_state) l3 c3 k3
  have D__law_state : Def K mg "_law_state" s__law_state ["pen", "world"] := ⟨_, _, F__law_state, F__law_state.binds (ps := ["pen", "world"]) fun _ _ _ _ _ _ us hl => match us, hl with | [_, _], _ => rfl, PySem.W.mg_of X G a3⟩
  have F__law_size := fun_mk (st := s__law_size) l4 c4 k4
  have D__law_size : Def K mg "_law_size" s__law_size ["dealing"] := ⟨_, _, F__law_size, F__law_size.binds (ps := ["dealing"]) fun _ _ _ _ _ _ us hl => match us, hl with | [_], _ => rfl, PySem.W.mg_of X G a4⟩
  have F__law_plain_deed := fun_mk (st := s__law_plain_deed) l5 c5 k5
  have D__law_plain_deed : Def K mg "_law_plain_deed" s__law_plain_deed ["pen", "world", "way", "hand"] := ⟨_, _, F__law_plain_deed, F__law_plain_deed.binds (ps := ["pen", "world", "way", "hand"]) fun _ _ _ _ _ _ us hl => match us, hl with | [_, _, _, _], _ => rfl, PySem.W.mg_of X G a5⟩
  have F__law_dealing := fun_mk (st := s__law_dealing) l6 c6 k6
  have D__law_dealing : Def K mg "_law_dealing" s__law_dealing ["pen", "world", "room", "tries"] := ⟨_, _, F__law_dealing, F__law_dealing.binds (ps := ["pen", "world", "room", "tries"]) fun _ _ _ _ _ _ us hl => match us, hl with | [_, _, _, _], _ => rfl, PySem.W.mg_of X G a6⟩
  have F__law_plain := fun_mk (st := s__law_plain) l7 c7 k7
  have D__law_plain : Def K mg "_law_plain" s__law_plain ["world", "deed", "now"] := ⟨_, _, F__law_plain, F__law_plain.binds (ps := ["world", "deed", "now"]) fun _ _ _ _ _ _ us hl => match us, hl with | [_, _, _], _ => rfl, PySem.W.mg_of X G a7⟩
  have F__law_waits := fun_mk (st := s__law_waits) l8 c8 k8
  have D__law_waits : Def K mg "_law_waits" s__law_waits ["world", "dealing", "now"] := ⟨_, _, F__law_waits, F__law_waits.binds (ps := ["world", "dealing", "now"]) fun _ _ _ _ _ _ us hl => match us, hl with | [_, _, _], _ => rfl, PySem.W.mg_of X G a8⟩
  have F__law_alone := fun_mk (st := s__law_alone) l9 c9 k9
  have D__law_alone : Def K mg "_law_alone" s__law_alone ["world", "dealing", "state"] := ⟨_, _, F__law_alone, F__law_alone.binds (ps := ["world", "dealing", "state"]) fun _ _ _ _ _ _ us hl => match us, hl with | [_, _, _], _ => rfl, PySem.W.mg_of X G a9⟩
  have F__law_same := fun_mk (st := s__law_same) l10 c10 k10
  have D__law_same : Def K mg "_law_same" s__law_same ["found", "due"] := ⟨_, _, F__law_same, F__law_same.binds (ps := ["found", "due"]) fun _ _ _ _ _ _ us hl => match us, hl with | [_, _], _ => rfl, PySem.W.mg_of X G a10⟩
  have F_with_at := fun_mk (st := s_with_at) l11 c11 k11
  have D_with_at : Def K mg "with_at" s_with_at ["row", "place", "value"] := ⟨_, _, F_with_at, F_with_at.binds (ps := ["row", "place", "value"]) fun _ _ _ _ _ _ us hl => match us, hl with | [_, _, _], _ => rfl, PySem.W.mg_of X G a11⟩
  have F_onwards := fun_mk (st := s_onwards) l12 c12 k12
  have D_onwards : Def K mg "onwards" s_onwards ["part"] := ⟨_, _, F_onwards, F_onwards.binds (ps := ["part"]) fun _ _ _ _ _ _ us hl => match us, hl with | [_], _ => rfl, PySem.W.mg_of X G a12⟩
  have F_goes_through := fun_mk (st := s_goes_through) l13 c13 k13
  have D_goes_through : Def K mg "goes_through" s_goes_through ["doing", "state", "looked"] := ⟨_, _, F_goes_through, F_goes_through.binds (ps := ["doing", "state", "looked"]) fun _ _ _ _ _ _ us hl => match us, hl with | [_, _, _], _ => rfl, PySem.W.mg_of X G a13⟩
  have F_alone := fun_mk (st := s_alone) l14 c14 k14
  have D_alone : Def K mg "alone" s_alone ["world", "dealing", "state"] := ⟨_, _, F_alone, F_alone.binds (ps := ["world", "dealing", "state"]) fun _ _ _ _ _ _ us hl => match us, hl with | [_, _, _], _ => rfl, PySem.W.mg_of X G a14⟩
  have F_in_row := fun_mk (st := s_in_row) l15 c15 k15
  have D_in_row : Def K mg "in_row" s_in_row ["world", "dealings", "state", "order"] := ⟨_, _, F_in_row, F_in_row.binds (ps := ["world", "dealings", "state", "order"]) fun _ _ _ _ _ _ us hl => match us, hl with | [_, _, _, _], _ => rfl, PySem.W.mg_of X G a15⟩
  have F__law_pen := fun_mk (st := s__law_pen) l16 c16 k16
  have D__law_pen : Def K mg "_law_pen" s__law_pen ["script"] := ⟨_, _, F__law_pen, F__law_pen.binds (ps := ["script"]) fun _ _ _ _ _ _ us hl => match us, hl with | [_], _ => rfl, PySem.W.mg_of X G a16⟩
  have F_law := fun_mk (st := s_law) l17 c17 k17
  have D_law : Def K mg "law" s_law ["script"] := ⟨_, _, F_law, F_law.binds (ps := ["script"]) fun _ _ _ _ _ _ us hl => match us, hl with | [_], _ => rfl, PySem.W.mg_of X G a17⟩
  have TDoing : TC K (⟨CDoing, ["wheel", "held", "puts", "part"]⟩ : Cl) ["wheel", "held", "puts", "part"] := ⟨⟨pgDoing, hdDoing, poDoing, saDoing⟩, rfl, fun f hf => by
    simp only [List.mem_cons, List.not_mem_nil, or_false] at hf
    rcases hf with rfl | rfl | rfl | rfl
    · exact nfDoing0
    · exact nfDoing1
    · exact nfDoing2
    · exact nfDoing3⟩
  have mgC_Doing := PySem.W.mg_of X G aCDoing
  have F_Doing_init := fun_mk (st := s_Doing_init) l18 c18 k18
  have bi_Doing_init := F_Doing_init.binds (ps := ["self", "world", "dealing"]) fun _ _ _ _ _ _ us hl => match us, hl with | [_, _, _], _ => rfl
  have mk_Doing : Mk K (⟨CDoing, ["wheel", "held", "puts", "part"]⟩ : Cl).C f18 := ⟨mkDoing, a18, i18, kcDoing⟩
  have F_Doing_deed := fun_mk (st := s_Doing_deed) l19 c19 k19
  have bi_Doing_deed := F_Doing_deed.binds (ps := ["self"]) fun _ _ _ _ _ _ us hl => match us, hl with | [_], _ => rfl
  have mt_Doing_deed : Meth K (⟨CDoing, ["wheel", "held", "puts", "part"]⟩ : Cl).C "deed" f19 := ⟨a19, i19, k19⟩
  have F_Doing_asks := fun_mk (st := s_Doing_asks) l20 c20 k20
  have bi_Doing_asks := F_Doing_asks.binds (ps := ["self"]) fun _ _ _ _ _ _ us hl => match us, hl with | [_], _ => rfl
  have mt_Doing_asks : Meth K (⟨CDoing, ["wheel", "held", "puts", "part"]⟩ : Cl).C "asks" f20 := ⟨a20, i20, k20⟩
  have F_Doing_hold := fun_mk (st := s_Doing_hold) l21 c21 k21
  have bi_Doing_hold := F_Doing_hold.binds (ps := ["self", "hand", "number"]) fun _ _ _ _ _ _ us hl => match us, hl with | [_, _, _], _ => rfl
  have mt_Doing_hold : Meth K (⟨CDoing, ["wheel", "held", "puts", "part"]⟩ : Cl).C "hold" f21 := ⟨a21, i21, k21⟩
  have F_Doing_part_behind := fun_mk (st := s_Doing_part_behind) l22 c22 k22
  have bi_Doing_part_behind := F_Doing_part_behind.binds (ps := ["self", "left_out"]) fun _ _ _ _ _ _ us hl => match us, hl with | [_, _], _ => rfl
  have mt_Doing_part_behind : Meth K (⟨CDoing, ["wheel", "held", "puts", "part"]⟩ : Cl).C "part_behind" f22 := ⟨a22, i22, k22⟩
  have F_Doing_go_behind := fun_mk (st := s_Doing_go_behind) l23 c23 k23
  have bi_Doing_go_behind := F_Doing_go_behind.binds (ps := ["self", "left_out"]) fun _ _ _ _ _ _ us hl => match us, hl with | [_, _], _ => rfl
  have mt_Doing_go_behind : Meth K (⟨CDoing, ["wheel", "held", "puts", "part"]⟩ : Cl).C "go_behind" f23 := ⟨a23, i23, k23⟩
  have F_Doing_hear := fun_mk (st := s_Doing_hear) l24 c24 k24
  have bi_Doing_hear := F_Doing_hear.binds (ps := ["self", "number"]) fun _ _ _ _ _ _ us hl => match us, hl with | [_, _], _ => rfl
  have mt_Doing_hear : Meth K (⟨CDoing, ["wheel", "held", "puts", "part"]⟩ : Cl).C "hear" f24 := ⟨a24, i24, k24⟩
  have F_Doing_enter_try := fun_mk (st := s_Doing_enter_try) l25 c25 k25
  have bi_Doing_enter_try := F_Doing_enter_try.binds (ps := ["self", "one", "other"]) fun _ _ _ _ _ _ us hl => match us, hl with | [_, _, _], _ => rfl
  have mt_Doing_enter_try : Meth K (⟨CDoing, ["wheel", "held", "puts", "part"]⟩ : Cl).C "enter_try" f25 := ⟨a25, i25, k25⟩
  have F_Doing_goes_back := fun_mk (st := s_Doing_goes_back) l26 c26 k26
  have bi_Doing_goes_back := F_Doing_goes_back.binds (ps := ["self"]) fun _ _ _ _ _ _ us hl => match us, hl with | [_], _ => rfl
  have mt_Doing_goes_back : Meth K (⟨CDoing, ["wheel", "held", "puts", "part"]⟩ : Cl).C "goes_back" f26 := ⟨a26, i26, k26⟩
  have F_Doing_do_deed := fun_mk (st := s_Doing_do_deed) l27 c27 k27
  have bi_Doing_do_deed := F_Doing_do_deed.binds (ps := ["self"]) fun _ _ _ _ _ _ us hl => match us, hl with | [_], _ => rfl
  have mt_Doing_do_deed : Meth K (⟨CDoing, ["wheel", "held", "puts", "part"]⟩ : Cl).C "do_deed" f27 := ⟨a27, i27, k27⟩
  have F_Doing_put_pairs := fun_mk (st := s_Doing_put_pairs) l28 c28 k28
  have bi_Doing_put_pairs := F_Doing_put_pairs.binds (ps := ["self"]) fun _ _ _ _ _ _ us hl => match us, hl with | [_], _ => rfl
  have mt_Doing_put_pairs : Meth K (⟨CDoing, ["wheel", "held", "puts", "part"]⟩ : Cl).C "put_pairs" f28 := ⟨a28, i28, k28⟩
  have B : Blt mg := ⟨PySem.W.mg_none_of X G z29, PySem.W.mg_none_of X G z30, PySem.W.mg_none_of X G z31, PySem.W.mg_none_of X G z32, PySem.W.mg_none_of X G z33, PySem.W.mg_none_of X G z34, PySem.W.mg_none_of X G z35, PySem.W.mg_none_of X G z36, PySem.W.mg_none_of X G z37, PySem.W.mg_none_of X G z38, PySem.W.mg_none_of X G z39, PySem.W.mg_none_of X G z40, PySem.W.mg_none_of X G z41, PySem.W.mg_none_of X G z42, PySem.W.mg_none_of X G z43, PySem.W.mg_none_of X G z44, PySem.W.mg_none_of X G z45, PySem.W.mg_none_of X G z46⟩
  refine ⟨PySem.W.fnOf "law" "law" (defArgs s_law) (defBody s_law) (defScope s_law) .none kV17 dc17 pm17 an17 cd17 ct17, fun s v => .of_eq rfl, fun base _ _ => ?_⟩
  have Gp := has_pen (P := l.prog) (w := w) (base := base) (k := 0) B D__law_pen
  have G__law_take := h__law_take (P := l.prog) (w := w) (base := base) (k := 0) D__law_take B 
  have G__law_world := h__law_world (P := l.prog) (w := w) (base := base) (k := 1) D__law_world B G__law_take
  have G__law_state := h__law_state (P := l.prog) (w := w) (base := base) (k := 1) D__law_state B G__law_take
  have G__law_size0 : HasP l.prog w K mg base "_law_size" 1 ["dealing"] (SizeJ 0) := h__law_size (P := l.prog) (w := w) (base := base) (k := 0) D__law_size B (D__law_size.no)
  have G__law_size1 : HasP l.prog w K mg base "_law_size" 2 ["dealing"] (SizeJ 1) := h__law_size (P := l.prog) (w := w) (base := base) (k := 1) D__law_size B G__law_size0
  have G__law_size2 : HasP l.prog w K mg base "_law_size" 3 ["dealing"] (SizeJ 2) := h__law_size (P := l.prog) (w := w) (base := base) (k := 2) D__law_size B G__law_size1
  have G__law_plain_deed := h__law_plain_deed (P := l.prog) (w := w) (base := base) (k := 1) D__law_plain_deed B G__law_take
  have G__law_dealing0 : HasP l.prog w K mg base "_law_dealing" 3 ["pen", "world", "room", "tries"] (DealJ 0) := h__law_dealing (P := l.prog) (w := w) (base := base) (k := 2) D__law_dealing B (Has.mono G__law_take (by decide)) G__law_plain_deed (D__law_dealing.no) (D__law_size.no)
  have G__law_dealing1 : HasP l.prog w K mg base "_law_dealing" 4 ["pen", "world", "room", "tries"] (DealJ 1) := h__law_dealing (P := l.prog) (w := w) (base := base) (k := 3) D__law_dealing B (Has.mono G__law_take (by decide)) (Has.mono G__law_plain_deed (by decide)) G__law_dealing0 (Has.mono G__law_size0 (by decide))
  have G__law_dealing2 : HasP l.prog w K mg base "_law_dealing" 5 ["pen", "world", "room", "tries"] (DealJ 2) := h__law_dealing (P := l.prog) (w := w) (base := base) (k := 4) D__law_dealing B (Has.mono G__law_take (by decide)) (Has.mono G__law_plain_deed (by decide)) G__law_dealing1 (Has.mono G__law_size1 (by decide))
  have G__law_dealing3 : HasP l.prog w K mg base "_law_dealing" 6 ["pen", "world", "room", "tries"] (DealJ 3) := h__law_dealing (P := l.prog) (w := w) (base := base) (k := 5) D__law_dealing B (Has.mono G__law_take (by decide)) (Has.mono G__law_plain_deed (by decide)) G__law_dealing2 (Has.mono G__law_size2 (by decide))
  have G__law_plain := h__law_plain (P := l.prog) (w := w) (base := base) (k := 0) D__law_plain B 
  have G__law_waits0 : HasP l.prog w K mg base "_law_waits" 2 ["world", "dealing", "now"] (WaitJ 0) := h__law_waits (P := l.prog) (w := w) (base := base) (k := 1) D__law_waits B G__law_plain (D__law_waits.no)
  have G__law_waits1 : HasP l.prog w K mg base "_law_waits" 3 ["world", "dealing", "now"] (WaitJ 1) := h__law_waits (P := l.prog) (w := w) (base := base) (k := 2) D__law_waits B (Has.mono G__law_plain (by decide)) G__law_waits0
  have G__law_waits2 : HasP l.prog w K mg base "_law_waits" 4 ["world", "dealing", "now"] (WaitJ 2) := h__law_waits (P := l.prog) (w := w) (base := base) (k := 3) D__law_waits B (Has.mono G__law_plain (by decide)) G__law_waits1
  have G__law_waits3 : HasP l.prog w K mg base "_law_waits" 5 ["world", "dealing", "now"] (WaitJ 3) := h__law_waits (P := l.prog) (w := w) (base := base) (k := 4) D__law_waits B (Has.mono G__law_plain (by decide)) G__law_waits2
  have G__law_alone := h__law_alone (P := l.prog) (w := w) (base := base) (k := 5) D__law_alone B G__law_waits3
  have G__law_same0 : HasP l.prog w K mg base "_law_same" 1 ["found", "due"] (P_same 1) := h__law_same (P := l.prog) (w := w) (base := base) (k := 0) D__law_same B (D__law_same.no)
  have G__law_same1 : HasP l.prog w K mg base "_law_same" 2 ["found", "due"] (P_same 2) := h__law_same (P := l.prog) (w := w) (base := base) (k := 1) D__law_same B G__law_same0
  have G__law_same2 : HasP l.prog w K mg base "_law_same" 3 ["found", "due"] (P_same 3) := h__law_same (P := l.prog) (w := w) (base := base) (k := 2) D__law_same B G__law_same1
  have G_with_at := h_with_at (P := l.prog) (w := w) (base := base) (k := 0) D_with_at B 
  have G_onwards := h_onwards (P := l.prog) (w := w) (base := base) (k := 0) (fuel := 100) D_onwards B 
  have M_Doing_deed := h_Doing_deed (P := l.prog) (w := w) (base := base) (k := 0) F_Doing_deed bi_Doing_deed mt_Doing_deed B TDoing
  have M_Doing_asks := h_Doing_asks (P := l.prog) (w := w) (base := base) (k := 1) F_Doing_asks bi_Doing_asks mt_Doing_asks B TDoing M_Doing_deed
  have M_Doing_hold := h_Doing_hold (P := l.prog) (w := w) (base := base) (k := 1) F_Doing_hold bi_Doing_hold mt_Doing_hold B TDoing G_with_at
  have M_Doing_part_behind := h_Doing_part_behind (P := l.prog) (w := w) (base := base) (k := 0) F_Doing_part_behind bi_Doing_part_behind mt_Doing_part_behind B TDoing
  have M_Doing_go_behind := h_Doing_go_behind (P := l.prog) (w := w) (base := base) (k := 1) F_Doing_go_behind bi_Doing_go_behind mt_Doing_go_behind B TDoing G_onwards M_Doing_part_behind
  have M_Doing_hear := h_Doing_hear (P := l.prog) (w := w) (base := base) (k := 2) F_Doing_hear bi_Doing_hear mt_Doing_hear B TDoing M_Doing_hold (M_Doing_deed.mono (by decide)) M_Doing_go_behind
  have M_Doing_enter_try := h_Doing_enter_try (P := l.prog) (w := w) (base := base) (k := 1) F_Doing_enter_try bi_Doing_enter_try mt_Doing_enter_try B TDoing G_onwards M_Doing_part_behind
  have M_Doing_goes_back := h_Doing_goes_back (P := l.prog) (w := w) (base := base) (k := 0) F_Doing_goes_back bi_Doing_goes_back mt_Doing_goes_back B TDoing
  have M_Doing_do_deed := h_Doing_do_deed (P := l.prog) (w := w) (base := base) (k := 2) F_Doing_do_deed bi_Doing_do_deed mt_Doing_do_deed B TDoing (Has.mono G_with_at (by decide)) (M_Doing_deed.mono (by decide)) (M_Doing_goes_back.mono (by decide)) M_Doing_enter_try M_Doing_hold M_Doing_go_behind
  have M_Doing_put_pairs := h_Doing_put_pairs (P := l.prog) (w := w) (base := base) (k := 0) F_Doing_put_pairs bi_Doing_put_pairs mt_Doing_put_pairs B TDoing
  have M_Doing_init := h_Doing_init (P := l.prog) (w := w) (base := base) (k := 1) F_Doing_init bi_Doing_init mk_Doing mgC_Doing B TDoing G_onwards
  have G_goes_through := h_goes_through (P := l.prog) (w := w) (base := base) (k := 3) (fuel := 20000000) D_goes_through B TDoing (M_Doing_deed.mono (by decide)) (M_Doing_asks.mono (by decide)) M_Doing_hear M_Doing_do_deed
  have G_alone := h_alone (P := l.prog) (w := w) (base := base) (k := 3) D_alone B TDoing G_goes_through (M_Doing_put_pairs.mono (by decide)) (M_Doing_init.mono (by decide))
  have G_in_row := h_in_row (P := l.prog) (w := w) (base := base) (k := 5) D_in_row B G_alone
  exact h_law (P := l.prog) (w := w) (base := base) (k := 6) F_law B (Has.mono Gp (by decide)) (Has.mono G__law_world (by decide)) (Has.mono G__law_state (by decide)) (Has.mono G__law_take (by decide)) G__law_dealing3 G__law_alone G_in_row (Has.mono G__law_same2 (by decide)) fun ns a c ha hc => law_ok (cD := ⟨CDoing, _⟩) rfl ns a c ha hc
theorem walk {l : PySem.W.OpenLaw} {q : Program} {loose : List Str} {XP : (Str → Option Value) → Heap → Prop} {YP : World → Heap → Prop} {d : DefRec} {K : Params → PySem.W.Frag} (hn : l.most = some 63) (hdf : d.params.defaults = [])
    (hY : ∀ (w : World) (h : Heap), YP w h → (K w.params).In h)
    (F : ∀ (w : World) (mg : Str → Option Value) (fa : Addr) (h : Heap), (K w.params).In h → h.Ns mainGlobals mg → mg d.name = some (.ref fa) →
      ∃ fd : FuncData, (∀ (s : Shared) (u : Value), BindsTo s fd ⟨[u], []⟩ [("script", u)]) ∧ ∀ base : Heap, (K w.params).In base → base.Ns mainGlobals mg → FnOk l.prog w (K w.params) mg base CX0 7 fa fd ["script"] (spLaw (K w.params))) :
    PySem.W.WalkO q loose XP YP l.row.toRowW d [] (fun f vs => PySem.call f vs) :=
  L2.walk_of (n := 63) (k := 7) (x := "script") (CX := fun _ => CX0) (sp := fun w => spLaw (K w.params)) hn (by decide) hdf ⟨rfl, by decide, by decide⟩ hY F (fun _ _ a ns hl _ hS => ⟨a, ns, rfl, hS, hl, fun _ => rfl⟩) fun _ _ _ _ _ z => z
end OL
open PySem PySem.W PyProof.Rows
set_option maxRecDepth 100000 in
set_option maxHeartbeats 0 in
theorem PySem.Challenge.cw_oneglance_k09_one_after_another_holds : PySem.Challenge.rw_oneglance_k09_one_after_another.Holds := by
  w_on; o_law; k_head; (case hw => w_witness2)
  k_fill
  refine OL.walk (l := PySem.Challenge.rw_oneglance_k09_one_after_another) rfl rfl (fun w h Y => PySem.W.kIn_of Y) ?F
  case F =>
    intro w mg fa h KX G hmg
    refine' OL.all_mk KX G hmg ?a1 ?l1 ?c1 ?k1 ?a2 ?l2 ?c2 ?k2 ?a3 ?l3 ?c3 ?k3 ?a4 ?l4 ?c4 ?k4 ?a5 ?l5 ?c5 ?k5 ?a6 ?l6 ?c6 ?k6 ?a7 ?l7 ?c7 ?k7 ?a8 ?l8 ?c8 ?k8 ?a9 ?l9 ?c9 ?k9 ?a10 ?l10 ?c10 ?k10 ?a11 ?l11 ?c11 ?k11 ?a12 ?l12 ?c12 ?k12 ?a13 ?l13 ?c13 ?k13 ?a14 ?l14 ?c14 ?k14 ?a15 ?l15 ?c15 ?k15 ?a16 ?l16 ?c16 ?k16 ?a17 ?l17 ?c17 ?k17 ?aCDoing ?pgDoing ?hdDoing ?poDoing ?saDoing ?mkDoing ?kcDoing ?nfDoing0 ?nfDoing1 ?nfDoing2 ?nfDoing3 ?a18 ?i18 ?l18 ?c18 ?k18 ?a19 ?i19 ?l19 ?c19 ?k19 ?a20 ?i20 ?l20 ?c20 ?k20 ?a21 ?i21 ?l21 ?c21 ?k21 ?a22 ?i22 ?l22 ?c22 ?k22 ?a23 ?i23 ?l23 ?c23 ?k23 ?a24 ?i24 ?l24 ?c24 ?k24 ?a25 ?i25 ?l25 ?c25 ?k25 ?a26 ?i26 ?l26 ?c26 ?k26 ?a27 ?i27 ?l27 ?c27 ?k27 ?a28 ?i28 ?l28 ?c28 ?k28 ?z29 ?z30 ?z31 ?z32 ?z33 ?z34 ?z35 ?z36 ?z37 ?z38 ?z39 ?z40 ?z41 ?z42 ?z43 ?z44 ?z45 ?z46
    (case a1 => k_is)
    (case l1 => k_is)
    (case c1 => k_is)
    (case k1 => k_is)
    (case a2 => k_is)
    (case l2 => k_is)
    (case c2 => k_is)
    (case k2 => k_is)
    (case a3 => k_is)
    (case l3 => k_is)
    (case c3 => k_is)
    (case k3 => k_is)
    (case a4 => k_is)
    (case l4 => k_is)
    (case c4 => k_is)
    (case k4 => k_is)
    (case a5 => k_is)
    (case l5 => k_is)
    (case c5 => k_is)
    (case k5 => k_is)
    (case a6 => k_is)
    (case l6 => k_is)
    (case c6 => k_is)
    (case k6 => k_is)
    (case a7 => k_is)
    (case l7 => k_is)
    (case c7 => k_is)
    (case k7 => k_is)
    (case a8 => k_is)
    (case l8 => k_is)
    (case c8 => k_is)
    (case k8 => k_is)
    (case a9 => k_is)
    (case l9 => k_is)
    (case c9 => k_is)
    (case k9 => k_is)
    (case a10 => k_is)
    (case l10 => k_is)
    (case c10 => k_is)
    (case k10 => k_is)
    (case a11 => k_is)
    (case l11 => k_is)
    (case c11 => k_is)
    (case k11 => k_is)
    (case a12 => k_is)
    (case l12 => k_is)
    (case c12 => k_is)
    (case k12 => k_is)
    (case a13 => k_is)
    (case l13 => k_is)
    (case c13 => k_is)
    (case k13 => k_is)
    (case a14 => k_is)
    (case l14 => k_is)
    (case c14 => k_is)
    (case k14 => k_is)
    (case a15 => k_is)
    (case l15 => k_is)
    (case c15 => k_is)
    (case k15 => k_is)
    (case a16 => k_is)
    (case l16 => k_is)
    (case c16 => k_is)
    (case k16 => k_is)
    (case a17 => k_is)
    (case l17 => k_is)
    (case c17 => k_is)
    (case k17 => k_is)
    (case aCDoing => k_is)
    (case pgDoing => k_is)
    (case hdDoing => k_is)
    (case poDoing => k_is)
    (case saDoing => k_is)
    (case mkDoing => k_is)
    (case kcDoing => k_is)
    (case nfDoing0 => k_is)
    (case nfDoing1 => k_is)
    (case nfDoing2 => k_is)
    (case nfDoing3 => k_is)
    (case a18 => k_is)
    (case i18 => k_is)
    (case l18 => k_is)
    (case c18 => k_is)
    (case k18 => k_is)
    (case a19 => k_is)
    (case i19 => k_is)
    (case l19 => k_is)
    (case c19 => k_is)
    (case k19 => k_is)
    (case a20 => k_is)
    (case i20 => k_is)
    (case l20 => k_is)
    (case c20 => k_is)
    (case k20 => k_is)
    (case a21 => k_is)
    (case i21 => k_is)
    (case l21 => k_is)
    (case c21 => k_is)
    (case k21 => k_is)
    (case a22 => k_is)
    (case i22 => k_is)
    (case l22 => k_is)
    (case c22 => k_is)
    (case k22 => k_is)
    (case a23 => k_is)
    (case i23 => k_is)
    (case l23 => k_is)
    (case c23 => k_is)
    (case k23 => k_is)
    (case a24 => k_is)
    (case i24 => k_is)
    (case l24 => k_is)
    (case c24 => k_is)
    (case k24 => k_is)
    (case a25 => k_is)
    (case i25 => k_is)
    (case l25 => k_is)
    (case c25 => k_is)
    (case k25 => k_is)
    (case a26 => k_is)
    (case i26 => k_is)
    (case l26 => k_is)
    (case c26 => k_is)
    (case k26 => k_is)
    (case a27 => k_is)
    (case i27 => k_is)
    (case l27 => k_is)
    (case c27 => k_is)
    (case k27 => k_is)
    (case a28 => k_is)
    (case i28 => k_is)
    (case l28 => k_is)
    (case c28 => k_is)
    (case k28 => k_is)
    (case z29 => k_is)
    (case z30 => k_is)
    (case z31 => k_is)
    (case z32 => k_is)
    (case z33 => k_is)
    (case z34 => k_is)
    (case z35 => k_is)
    (case z36 => k_is)
    (case z37 => k_is)
    (case z38 => k_is)
    (case z39 => k_is)
    (case z40 => k_is)
    (case z41 => k_is)
    (case z42 => k_is)
    (case z43 => k_is)
    (case z44 => k_is)
    (case z45 => k_is)
    (case z46 => k_is)
