import PyProof.Rows.All
import Wide.All
import OpenK.AllK
import Wide.FinOn
import Lean
import PyProof.EqAt
import PyProof.EqKinds
import PyProof.TupleCall
import PySem.Challenge.RW_oneglance_k13_looks_and_puts
set_option Elab.async false
set_option linter.all false
set_option maxRecDepth 100000
namespace L2
open PySem PySem.Spec PyProof.Rows
abbrev Key := Sum Int Str
def keyIs : Key → Value → Bool
  | .inl k, v => Value.isInt k v
  | .inr x, v => Value.isStrOf x v
def keyH (w : World) : Key → Int
  | .inl k => hashInt k
  | .inr x => hashStr w x
theorem keyIs_shape : ∀ {k : Key} {v : Value}, keyIs k v = true → (∃ i t, k = Sum.inl i ∧ v = Value.int i t) ∨ (∃ x t, k = Sum.inr x ∧ v = Value.str x t)
  | .inl i, v, h => by
    obtain ⟨t, e⟩ := Value.isInt_shape (k := i) (v := v) h
    exact .inl ⟨i, t, rfl, e⟩
  | .inr x, v, h => by
    obtain ⟨t, e⟩ := Value.isStrOf_shape (x := x) (v := v) h
    exact .inr ⟨x, t, rfl, e⟩
theorem keyIs_int (i : Int) (t : Tok) : keyIs (.inl i) (.int i t) = true := by simp [keyIs, Value.isInt]
theorem keyIs_str (x : Str) (t : Tok) : keyIs (.inr x) (.str x t) = true := by simp [keyIs, Value.isStrOf]
theorem key_ll (a b : Int) : decide ((Sum.inl a : Key) = Sum.inl b) = (a == b) := by
  by_cases e : a = b
  · subst e; simp
  · have h : ¬ (Sum.inl a : Key) = Sum.inl b := fun q => e (Sum.inl.inj q)
    rw [decide_eq_false h]
    exact (beq_eq_false_iff_ne.mpr e).symm
theorem key_rr (a b : Str) : decide ((Sum.inr a : Key) = Sum.inr b) = decide (a = b) := by
  by_cases e : a = b
  · subst e; simp
  · have h : ¬ (Sum.inr a : Key) = Sum.inr b := fun q => e (Sum.inr.inj q)
    rw [decide_eq_false h, decide_eq_false e]
theorem key_lr (a : Int) (b : Str) : decide ((Sum.inl a : Key) = Sum.inr b) = false := decide_eq_false (fun q => nomatch q)
theorem key_rl (a : Str) (b : Int) : decide ((Sum.inr a : Key) = Sum.inl b) = false := decide_eq_false (fun q => nomatch q)
def mixKind (prog : Program) (w : World) : PySem.KeyKind prog w Key where
  is := keyIs
  hash := keyH w
  inj := fun v a b ha hb => by
    rcases keyIs_shape ha with ⟨i, t, rfl, rfl⟩ | ⟨x, t, rfl, rfl⟩
    · rcases keyIs_shape hb with ⟨j, u, rfl, e⟩ | ⟨y, u, rfl, e⟩
      · injection e with e1 _; rw [e1]
      · exact nomatch e
    · rcases keyIs_shape hb with ⟨j, u, rfl, e⟩ | ⟨y, u, rfl, e⟩
      · exact nomatch e
      · injection e with e1 _; rw [e1]
  byValue := fun k v h => by
    rcases keyIs_shape h with ⟨i, t, rfl, rfl⟩ | ⟨x, t, rfl, rfl⟩ <;> rfl
  pyHash := fun hv h => by
    rcases keyIs_shape hv with ⟨i, t, rfl, rfl⟩ | ⟨x, t, rfl, rfl⟩
    · exact wpAny_pyHash_int h
    · exact wpAny_pyHash_str h
  eqBool := fun hu hv h => by
    rcases keyIs_shape hu with ⟨i, t, rfl, rfl⟩ | ⟨x, t, rfl, rfl⟩
    · rcases keyIs_shape hv with ⟨j, u, rfl, rfl⟩ | ⟨y, u, rfl, rfl⟩
      · rw [key_ll] at h; exact wpAny_eqBool_int h
      · rw [key_lr] at h; exact SeqAt.EqAt.int_str i t y u _ _ _ _ h
    · rcases keyIs_shape hv with ⟨j, u, rfl, rfl⟩ | ⟨y, u, rfl, rfl⟩
      · rw [key_rl] at h; exact SeqAt.EqAt.str_int x t j u _ _ _ _ h
      · rw [key_rr] at h; exact wpAny_eqBool_str h
  «strs» := fun k x t v h => by
    rcases keyIs_shape h with ⟨i, u, rfl, e⟩ | ⟨y, u, rfl, e⟩
    · exact nomatch e
    · injection e with e1 _
      subst e1
      cases v <;> rfl
theorem mixKind_int (prog : Program) (w : World) (i : Int) (t : Tok) : (mixKind prog w).is (.inl i) (.int i t) = true := keyIs_int i t
theorem mixKind_str (prog : Program) (w : World) (x : Str) (t : Tok) : (mixKind prog w).is (.inr x) (.str x t) = true := keyIs_str x t
end L2
namespace L2
open PySem PySem.Spec PyProof.Rows
inductive V where
  | non | bl (b : Bool) | int (i : Int) | str (x : Str) | byt (b : Array UInt8) | flt (b : UInt64) | ref (a : Addr) | ty (n : String)
  deriving DecidableEq
def RelV : V → Value → Prop
  | .non, u => u = Value.none
  | .bl b, u => u = Value.bool b
  | .int i, u => ∃ t, u = Value.int i t
  | .str x, u => ∃ t, u = Value.str x t
  | .byt b, u => ∃ t, u = Value.bytes b t
  | .flt b, u => ∃ t, u = Value.float b t
  | .ref a, u => u = Value.ref a
  | .ty n, u => u = Value.type n
abbrev Vals : List V → List Value → Prop := Paired RelV
theorem Vals.length {xs : List V} {us : List Value} (r : Vals xs us) : xs.length = us.length := Paired.length r
theorem Vals.get : ∀ {xs : List V} {us : List Value} {i : Nat} {x : V}, Vals xs us → xs[i]? = some x → ∃ u, us[i]? = some u ∧ RelV x u
  | _, _, _, _, .nil, e => by simp at e
  | _, _, 0, _, .cons r _, e => by simp at e; subst e; exact ⟨_, rfl, r⟩
  | _, _, i + 1, x, .cons _ t, e => by
    obtain ⟨u, h1, h2⟩ := Vals.get (i := i) (x := x) t (by simpa using e)
    exact ⟨u, by simpa using h1, h2⟩
theorem Vals.set {x : V} {u : Value} (r : RelV x u) : ∀ {xs : List V} {us : List Value} (i : Nat), Vals xs us → Vals (xs.set i x) (us.set i u)
  | _, _, _, .nil => .nil
  | _, _, 0, .cons _ t => .cons r t
  | _, _, i + 1, .cons q t => .cons q (Vals.set r i t)
theorem Vals.append : ∀ {xs ys : List V} {us ws : List Value}, Vals xs us → Vals ys ws → Vals (xs ++ ys) (us ++ ws)
  | _, _, _, _, .nil, s => s
  | _, _, _, _, .cons r t, s => .cons r (Vals.append t s)
theorem Vals.take : ∀ {xs : List V} {us : List Value} (n : Nat), Vals xs us → Vals (xs.take n) (us.take n)
  | _, _, 0, _ => .nil
  | _, _, _ + 1, .nil => .nil
  | _, _, n + 1, .cons r t => .cons r (Vals.take n t)
theorem Vals.drop : ∀ {xs : List V} {us : List Value} (n : Nat), Vals xs us → Vals (xs.drop n) (us.drop n)
  | _, _, 0, r => r
  | _, _, _ + 1, .nil => .nil
  | _, _, n + 1, .cons _ t => Vals.drop n t
def RelO : Option V → Option Value → Prop
  | some v, some u => RelV v u
  | none, none => True
  | _, _ => False
def KV {κ : Type} : List (κ × V) → List (κ × Value) → Prop := Paired fun (p : κ × V) (q : κ × Value) => p.1 = q.1 ∧ RelV p.2 q.2
def kV : Key → V
  | .inl i => .int i
  | .inr x => .str x
inductive HO where
  | lst (xs : List V)
  | tup (xs : List V)
  | dK (kvs : List (Key × V)) | dT (kvs : List (List Key × V))
  | set (S : Int → Bool) (n : Nat)
  | ins (C dx : Addr) (fs : List (Str × V))
  | own (x : Addr)
  | xd (fs : List (Str × V))
  | met (f x : Addr)
  | rng (lo hi : Int)
  | frz (o : Obj) (u : HO)
  | tbl (ps : Array Value)
  | ext (φ : Heap → Prop)
abbrev Hp := Addr → Option HO
def upd (H : Hp) (a : Addr) (o : HO) : Hp := fun b => if b = a then some o else H b
theorem upd_same {H : Hp} {a : Addr} {o : HO} : upd H a o a = some o := by unfold upd; rw [if_pos rfl]
theorem upd_ne {H : Hp} {a b : Addr} {o : HO} (h : b ≠ a) : upd H a o b = H b := by unfold upd; rw [if_neg h]
theorem ne_of {H : Hp} {a b : Addr} {o u : HO} (h : H a = some o) (h' : H b = some u) (d : o ≠ u) : a ≠ b := by
  intro e; subst e; rw [h] at h'; exact d (Option.some.inj h')
theorem ne_of_none {H : Hp} {a b : Addr} {o : HO} (h : H a = some o) (h' : H b = none) : a ≠ b := by
  intro e; subst e; rw [h] at h'; cases h'
section
variable (P : Program) (w : World)
def ObjOk (H : Hp) (h : Heap) (a : Addr) : HO → Prop
  | .lst xs => xs.length ≤ sizeLine ∧ ∃ (its : List Value) (n : Nat), Vals xs its ∧ h.get? a = some { cls := .type "list", data := .seq its.toArray n }
  | .tup xs => xs.length ≤ sizeLine ∧ ∃ its : List Value, Vals xs its ∧ IsTup h a its.toArray
  | .dK kvs => kvs.length ≤ sizeLine ∧ (a == sysModules) = false ∧ ∃ vs, KV kvs vs ∧ h.DictOf (mixKind P w) a vs
  | .dT kvs => kvs.length ≤ sizeLine ∧ (a == sysModules) = false ∧ ∃ xs : List (List Key × Addr × Value),
      Paired (fun (p : List Key × V) (q : List Key × Addr × Value) => p.1 = q.1 ∧ H q.2.1 = some (.tup (p.1.map kV)) ∧ RelV p.2 q.2.2) kvs xs ∧
      ∃ o es ep, h.get? a = some o ∧ o.ExactDict ∧ o.data = .dict es ep ∧ es.toList = xs.map (entryOfKey (tupleKind (mixKind P w))) ∧ (xs.map (·.1)).Nodup
  | .set S n => h.SetOf (intKind P w) a S n
  | .ins C dx fs => H dx = some (.own a) ∧ fs.length ≤ 1000 ∧ dx ≠ a ∧ h.get? a = some (PySem.W.instObj C dx) ∧
      ∃ mA, h.Ns1 dx mA ∧ (∀ f, RelO (fs.lookup f) (mA f)) ∧ PySem.Within mA (fs.map (·.1))
  | .own _ => ∃ o, h.get? a = some o
  | .xd fs => ∃ mA, h.Ns1 a mA ∧ ∀ f, RelO (fs.lookup f) (mA f)
  | .rng lo hi => ∃ t u v, h.get? a = some { cls := .type "range", data := .fields #[.int lo t, .int hi u, .int 1 v] }
  | .frz o u => h.get? a = some o ∧ ObjOk H h a u
  | .tbl ps => h.get? a = some { cls := .none, data := .fields ps }
  | .met f x => h.get? a = some (PySem.W.methodObj (.ref f) (.ref x))
  | .ext φ => φ h ∧ (∃ o, h.get? a = some o) ∧ ∀ h1 h2 : Heap, φ h1 → (∀ o, h1.get? a = some o → h2.get? a = some o) → φ h2
def HOk (H : Hp) (h : Heap) : Prop := ∀ a o, H a = some o → ObjOk P w H h a o
end
section
variable {P : Program} {w : World} {H H' : Hp} {h h' : Heap} {a : Addr} {o : HO}
theorem ObjOk.lt (x : ObjOk P w H h a o) : a < h.objs.size := by
  cases o with
  | lst xs => obtain ⟨_, _, _, _, e⟩ := x; exact Heap.lt_size e
  | tup xs => obtain ⟨_, _, _, p⟩ := x; exact p.lt
  | dK kvs => obtain ⟨_, _, _, _, o, _, _, e, _⟩ := x; exact Heap.lt_size e
  | dT kvs => obtain ⟨_, _, _, _, o, _, _, e, _⟩ := x; exact Heap.lt_size e
  | set S n => obtain ⟨o, _, _, _, e, _⟩ := x; exact Heap.lt_size e
  | ins C dx fs => obtain ⟨_, _, _, e, _⟩ := x; exact Heap.lt_size e
  | own y => obtain ⟨_, e⟩ := x; exact Heap.lt_size e
  | xd fs => obtain ⟨_, ⟨_, _, _, e, _⟩, _⟩ := x; exact Heap.lt_size e
  | rng lo hi => obtain ⟨_, _, _, e⟩ := x; exact Heap.lt_size e
  | frz ob u => obtain ⟨e, _⟩ := x; exact Heap.lt_size e
  | tbl ps => exact Heap.lt_size (show h.get? a = some _ from x)
  | met f y => exact Heap.lt_size (show h.get? a = some _ from x)
  | ext φ => obtain ⟨_, ⟨_, e⟩, _⟩ := x; exact Heap.lt_size e
theorem Paired.mapP {α β : Type} {F G : α → β → Prop} : ∀ {l₁ : List α} {l₂ : List β}, Paired F l₁ l₂ → (∀ a b, F a b → G a b) → Paired G l₁ l₂
  | _, _, .nil, _ => .nil
  | _, _, .cons r t, f => .cons (f _ _ r) (Paired.mapP t f)
theorem ObjOk.stay (x : ObjOk P w H h a o) (k : ∀ b u, (b = a ∨ H b = some (.own a)) → h.get? b = some u → h'.get? b = some u)
    (ho : ∀ b, H b = some (.own a) → H' b = some (.own a)) (ht : ∀ b xs, H b = some (.tup xs) → H' b = some (.tup xs)) : ObjOk P w H' h' a o := by
  induction o with
  | lst xs => obtain ⟨z, its, n, r, e⟩ := x; exact ⟨z, its, n, r, k _ _ (.inl rfl) e⟩
  | tup xs => obtain ⟨z, its, r, ob, e, c⟩ := x; exact ⟨z, its, r, ob, k _ _ (.inl rfl) e, c⟩
  | dK kvs => obtain ⟨z, y, vs, r, ob, es, ep, e, c⟩ := x; exact ⟨z, y, vs, r, ob, es, ep, k _ _ (.inl rfl) e, c⟩
  | dT kvs =>
    obtain ⟨z, y, xs, r, ob, es, ep, e, c⟩ := x
    exact ⟨z, y, xs, Paired.mapP r fun p q z => ⟨z.1, ht _ _ z.2.1, z.2.2⟩, ob, es, ep, k _ _ (.inl rfl) e, c⟩
  | set S n => obtain ⟨ob, es, ep, t, e, c⟩ := x; exact ⟨ob, es, ep, t, k _ _ (.inl rfl) e, c⟩
  | ins C dx fs =>
    obtain ⟨d, z, ne, e, mA, ⟨od, es, ep, e2, c⟩, r⟩ := x
    exact ⟨ho _ d, z, ne, k _ _ (.inl rfl) e, mA, ⟨od, es, ep, k _ _ (.inr d) e2, c⟩, r⟩
  | own y => obtain ⟨ob, e⟩ := x; exact ⟨ob, k _ _ (.inl rfl) e⟩
  | xd fs => obtain ⟨mA, ⟨od, es, ep, e, c⟩, r⟩ := x; exact ⟨mA, ⟨od, es, ep, k _ _ (.inl rfl) e, c⟩, r⟩
  | rng lo hi => obtain ⟨t, u, v, e⟩ := x; exact ⟨t, u, v, k _ _ (.inl rfl) e⟩
  | frz ob u ih => obtain ⟨e, q⟩ := x; exact ⟨k _ _ (.inl rfl) e, ih q⟩
  | tbl ps =>
    have e : h.get? a = some { cls := .none, data := .fields ps } := x
    show h'.get? a = some { cls := .none, data := .fields ps }
    exact k a _ (.inl rfl) e
  | met f y =>
    have e : h.get? a = some (PySem.W.methodObj (.ref f) (.ref y)) := x
    show h'.get? a = some (PySem.W.methodObj (.ref f) (.ref y))
    exact k a _ (.inl rfl) e
  | ext φ => obtain ⟨p, ⟨o, e⟩, st⟩ := x; exact ⟨st _ _ p fun o q => k _ _ (.inl rfl) q, ⟨o, k _ _ (.inl rfl) e⟩, st⟩
theorem HOk.lt (x : HOk P w H h) (e : H a = some o) : a < h.objs.size := (x a o e).lt
theorem HOk.fresh (x : HOk P w H h) (e : h.objs.size ≤ a) : H a = none := by
  cases q : H a with
  | none => rfl
  | some u => exact absurd (Nat.lt_of_lt_of_le (x.lt q) e) (Nat.lt_irrefl _)
theorem HOk.kept (x : HOk P w H h) (k : ∀ b u, h.get? b = some u → h'.get? b = some u) : HOk P w H h' := fun a o e =>
  (x a o e).stay (fun b u _ q => k b u q) (fun _ q => q) fun _ _ q => q
theorem HOk.laid (x : HOk P w H h) (k : ∀ b u, h.get? b = some u → h'.get? b = some u) (hp : h.objs.size ≤ a) (new : ObjOk P w (upd H a o) h' a o) : HOk P w (upd H a o) h' := fun b u e => by
  have hn := x.fresh hp
  by_cases hb : b = a
  · subst hb; rw [upd_same] at e; cases e; exact new
  · rw [upd_ne hb] at e
    exact (x b u e).stay (fun c v _ q => k c v q) (fun c q => by rw [upd_ne (ne_of_none q hn)]; exact q) fun c xs q => by rw [upd_ne (ne_of_none q hn)]; exact q
end
def Rd (H : Hp) (a : Addr) (u : HO) : Prop := H a = some u ∨ ∃ o, H a = some (.frz o u)
theorem Rd.ok {P : Program} {w : World} {H : Hp} {h : Heap} {a : Addr} {u : HO} (r : Rd H a u) (x : HOk P w H h) : ObjOk P w H h a u := by
  rcases r with r | ⟨o, r⟩
  · exact x a u r
  · obtain ⟨_, q⟩ := x a _ r
    exact q
def Mut : Option HO → Prop
  | some (.lst _) => True
  | some (.dK _) => True
  | some (.dT _) => True
  | some (.set _ _) => True
  | some (.ins _ _ _) => True
  | some (.ext _) => True
  | _ => False
section
variable {P : Program} {w : World} {H : Hp} {h h' : Heap} {x e : Addr} {o' : HO}
theorem HOk.write (ok : HOk P w H h) (mu : Mut (H x)) (he : e = x ∨ H e = some (.own x)) (k : ∀ b u, b ≠ e → h.get? b = some u → h'.get? b = some u) (heo : ∃ u, h'.get? e = some u)
    (new : ObjOk P w (upd H x o') h' x o') : HOk P w (upd H x o') h' := fun b u q => by
  have nown : ∀ c y, H c = some (.own y) → c ≠ x := fun c y r z => by subst z; rw [r] at mu; exact mu
  have ntup : ∀ c xs, H c = some (.tup xs) → c ≠ x := fun c xs r z => by subst z; rw [r] at mu; exact mu
  by_cases hb : b = x
  · subst hb; rw [upd_same] at q; cases q; exact new
  · rw [upd_ne hb] at q
    by_cases hbe : b = e
    · have q' : H b = some (.own x) := by
        rcases he with z | z
        · exact absurd (hbe.trans z) hb
        · rw [hbe]; exact z
      rw [q] at q'; cases q'
      obtain ⟨v, hv⟩ := heo
      exact ⟨v, by rw [hbe]; exact hv⟩
    · refine (ok b u q).stay (fun c v hc r => k c v ?_ r) (fun c r => by rw [upd_ne (nown c b r)]; exact r) fun c xs r => by rw [upd_ne (ntup c xs r)]; exact r
      rcases hc with rfl | hc
      · exact hbe
      · rintro rfl
        rcases he with z | z
        · exact nown c b hc z
        · rw [hc] at z; cases z; exact hb rfl
end
structure Un (fs ex : List Addr) (H H' : Hp) (h h' : Heap) : Prop where
  keep : ∀ b o, h.get? b = some o → H b = none → b ∉ fs → b ∉ ex → h'.get? b = some o
  slot : ∀ b o, h.get? b = some o → H b = none → b ∈ fs → b ∉ ex → ∃ sl, h'.get? b = some { o with slots := sl }
  free : ∀ b o, h.get? b = some o → H b = none → b ∉ ex → H' b = none
  there : ∀ b o, h.get? b = some o → b ∉ ex → ∃ o', h'.get? b = some o'
  tups : ∀ b xs, H b = some (.tup xs) → H' b = some (.tup xs)
  frzs : ∀ b o u, H b = some (.frz o u) → H' b = some (.frz o u)
  tbls : ∀ b ps, H b = some (.tbl ps) → ∃ more, H' b = some (.tbl (ps ++ more))
section
variable {fs fs' ex ex' : List Addr} {H H1 H2 : Hp} {h h1 h2 h' : Heap} {a x e : Addr} {o : HO}
theorem Un.any (u : Un fs ex H H1 h h1) {b : Addr} {ob : Obj} (q : h.get? b = some ob) (n : H b = none) (hx : b ∉ ex) : ∃ sl, h1.get? b = some { ob with slots := sl } := by
  by_cases hb : b ∈ fs
  · exact u.slot b ob q n hb hx
  · exact ⟨ob.slots, u.keep b ob q n hb hx⟩
theorem Un.kept (k : ∀ b u, h.get? b = some u → h'.get? b = some u) : Un fs ex H H h h' :=
  ⟨fun b ob q _ _ _ => k b ob q, fun b ob q _ _ _ => ⟨ob.slots, k b ob q⟩, fun _ _ _ n _ => n, fun b ob q _ => ⟨ob, k b ob q⟩, fun _ _ q => q, fun _ _ _ q => q, fun _ ps q => ⟨#[], by rw [q]; simp⟩⟩
theorem Un.refl : Un fs ex H H h h := Un.kept fun _ _ q => q
theorem Un.laid (k : ∀ b u, h.get? b = some u → h'.get? b = some u) (hp : h.objs.size ≤ a) (hn : H a = none) : Un fs ex H (upd H a o) h h' where
  keep := fun b u q _ _ _ => k b u q
  slot := fun b u q _ _ _ => ⟨u.slots, k b u q⟩
  free := fun b u q n _ => by rw [upd_ne (Nat.ne_of_lt (Nat.lt_of_lt_of_le (Heap.lt_size q) hp))]; exact n
  there := fun b u q _ => ⟨u, k b u q⟩
  tups := fun b xs q => by rw [upd_ne (ne_of_none q hn)]; exact q
  frzs := fun b u xs q => by rw [upd_ne (ne_of_none q hn)]; exact q
  tbls := fun b ps q => ⟨#[], by rw [upd_ne (ne_of_none q hn), q]; simp⟩
theorem Un.write (mu : Mut (H x)) (he : e = x ∨ H e = some (.own x)) (k : ∀ b u, b ≠ e → h.get? b = some u → h'.get? b = some u) (heo : ∃ u, h'.get? e = some u) : Un fs ex H (upd H x o) h h' := by
  have hx : ∀ b, H b = none → b ≠ x := fun b n z => by subst z; rw [n] at mu; exact mu
  have hb : ∀ b, H b = none → b ≠ e := fun b n z => by
    subst z
    rcases he with r | r
    · exact hx b n r
    · rw [n] at r; cases r
  have hm : ∀ b u, H b = some u → ¬ Mut (some u) → b ≠ x := fun b u q nm z => by subst z; rw [q] at mu; exact nm mu
  refine ⟨fun b u q n _ _ => k b u (hb b n) q, fun b u q n _ _ => ⟨u.slots, k b u (hb b n) q⟩, fun b u q n _ => by rw [upd_ne (hx b n)]; exact n, fun b u q _ => ?_,
    fun b xs q => by rw [upd_ne (hm b _ q fun z => z)]; exact q, fun b u xs q => by rw [upd_ne (hm b _ q fun z => z)]; exact q, fun b ps q => ⟨#[], by rw [upd_ne (hm b _ q fun z => z), q]; simp⟩⟩
  by_cases hbe : b = e
  · subst hbe; exact heo
  · exact ⟨u, k b u hbe q⟩
end
def trk (h : Heap) (H : Hp) : List Addr := (List.range h.objs.size).filter fun a => (H a).isSome
def hidT (h : Heap) (H : Hp) : Heap := PySem.W.hideAll h (trk h H)
theorem hidT_size (h : Heap) (H : Hp) : (hidT h H).objs.size = h.objs.size := PySem.W.hideAll_size _ _
theorem hidT_get {h : Heap} {H : Hp} {b : Addr} {o : Obj} (e : h.get? b = some o) (n : H b = none) : (hidT h H).get? b = some o :=
  PySem.W.hideAll_get _ e fun hm => by
    have q : (H b).isSome = true := (List.mem_filter.mp hm).2
    rw [n] at q; simp at q
theorem of_hidT {h : Heap} {H : Hp} {b : Addr} {o : Obj} (e : (hidT h H).get? b = some o) : h.get? b = some o ∧ H b = none := by
  have e' : h.get? b = some o := PySem.W.of_hideAll (trk h H) e
  refine ⟨e', ?_⟩
  cases q : H b with
  | none => rfl
  | some x =>
    have hm : b ∈ trk h H := List.mem_filter.mpr ⟨List.mem_range.mpr (Heap.lt_size e'), by simp [q]⟩
    have z : (hidT h H).get? b = none := PySem.W.hideAll_none (trk h H) hm
    rw [z] at e; cases e
def allNews (g h : Heap) (L : Addr) : List (Addr × Obj) := (List.range h.objs.size).filterMap fun a => if a = L ∨ (g.get? a).isSome = true then none else (h.get? a).map fun o => (a, o)
def rest (g h : Heap) (L d : Addr) : List (Addr × Obj) := (allNews g h L).filter fun p => decide (p.1 ≠ d)
end L2
namespace L2
open PySem PySem.Spec PyProof.Rows
structure Mod (K : PySem.W.Frag) (mg : Str → Option Value) (base : Heap) : Prop where
  kin : K.In base
  glob : base.Ns mainGlobals mg
  blt : ∃ mb, base.Ns builtinsNs mb ∧ ∀ x : Str, x ≠ "__name__" → mb x = bootBuiltins x
  nolimit : base.NoLimit
structure Cx where
  prog : Program
  w : World
  K : PySem.W.Frag
  mg : Str → Option Value
  base : Heap
  A : Around
  N : List Str
  s₀ : Shared
  H₀ : Hp
  env : Env
  outer : List Env
  stack : List Env
  ex : List Addr
  fn : Str → Bool
  calm : Bool
  pn : List (Addr × Obj)
  xe : Value → Shared → Prop
def frs (l : List Env) : List Addr := l.filterMap (·.frame)
abbrev Cx.fs (X : Cx) : List Addr := frs X.outer
def Vis (sc : Scope) (x : Str) : Prop := sc.names.lookup x = some .local ∨ sc.names.lookup x = some .cell ∨ sc.names.lookup x = some .free
def Loc (sc : Scope) (x : Str) : Prop := sc.names.lookup x = some .local ∨ sc.names.lookup x = some .cell
def Look (env : Env) (h : Heap) (m : Str → Option Value) (x : Str) (u : Value) : Prop :=
  (env.kindOf x = some .local ∧ m x = some u) ∨ ((env.kindOf x = some .cell ∨ env.kindOf x = some .free) ∧ ∃ c, env.cells.lookup x = some c ∧ h.IsCell c (some u))
structure Cx.Ok (X : Cx) : Prop where
  mod : Mod X.K X.mg X.base
  kind : X.env.scope.kind = .function
  glob : X.env.globals = mainGlobals
  blt : X.env.builtins = builtinsNs
  above : X.s₀.heap.objs.size ≤ X.env.locals
  inj : ∀ x y c, X.env.cells.lookup x = some c → X.env.cells.lookup y = some c → x = y
  has : ∀ x, (X.env.kindOf x = some .cell ∨ X.env.kindOf x = some .free) → ∃ c, X.env.cells.lookup x = some c
  cab : ∀ x c, X.fn x = true → X.env.cells.lookup x = some c → X.s₀.heap.objs.size ≤ c
  hd : X.calm = true → X.A.handled = none
  frames : X.A.frames = some X.stack
  stk : X.stack = X.outer ∨ (X.stack = X.env :: X.outer ∧ X.env.frame = some X.env.locals)
  exf : ∀ b ∈ X.ex, b ≠ X.env.locals ∧ ∀ x c, X.env.cells.lookup x = some c → c ≠ b
  bs : ∀ b o, X.base.get? b = some o → X.s₀.heap.get? b = some o ∧ X.H₀ b = none
  bsz : X.base.objs.size ≤ X.s₀.heap.objs.size
  noex : ∀ b o, X.base.get? b = some o → b ∉ X.ex
  exfs : ∀ b ∈ X.ex, b ∉ X.fs
  funs : X.s₀.heap.FunFrames X.base X.outer
  frf : ∀ b ∈ X.fs, X.H₀ b = none
structure Inv (X : Cx) (pins : List (Addr × Obj)) (σ : List (Option V)) (H : Hp) (s : Shared) : Prop where
  ok : X.Ok
  os : s.os = X.s₀.os
  bare : AllBare s.gens
  base : Un X.fs X.ex X.H₀ H X.s₀.heap s.heap
  loc : ∃ m, s.heap.Ns X.env.locals m ∧ ∀ (i : Nat) (x : Str) (v : V), X.N[i]? = some x → σ[i]? = some (some v) → Vis X.env.scope x → ∃ u, RelV v u ∧ Look X.env s.heap m x u
  cell : ∀ x c, X.env.cells.lookup x = some c → ∃ v, s.heap.IsCell c v
  free : H X.env.locals = none
  freeC : ∀ x c, X.env.cells.lookup x = some c → H c = none
  pin : ∀ p ∈ X.pn ++ pins, s.heap.get? p.1 = some p.2 ∧ H p.1 = none ∧ p.1 ≠ X.env.locals ∧ p.1 ∉ X.fs ∧ ∀ v, p.2.data ≠ .cell v
  hok : HOk X.prog X.w H s.heap
  len : σ.length = X.N.length
section
variable {X : Cx} {pins : List (Addr × Obj)} {σ : List (Option V)} {H H' : Hp} {s : Shared} {h' : Heap}
theorem Cx.Ok.nofr (ok : X.Ok) {b : Addr} {o : Obj} (e : X.base.get? b = some o) : b ∉ X.fs := fun hb => by
  have := (ok.funs.mem hb).1
  rw [e] at this; cases this
theorem Inv.bs (I : Inv X pins σ H s) : ∀ b o, X.base.get? b = some o → s.heap.get? b = some o ∧ H b = none := fun b o e =>
  ⟨I.base.keep b o (I.ok.bs b o e).1 (I.ok.bs b o e).2 (I.ok.nofr e) (I.ok.noex b o e), I.base.free b o (I.ok.bs b o e).1 (I.ok.bs b o e).2 (I.ok.noex b o e)⟩
theorem Inv.bk (I : Inv X pins σ H s) : ∀ b o, X.base.get? b = some o → s.heap.get? b = some o := fun b o e => (I.bs b o e).1
theorem Inv.mod (I : Inv X pins σ H s) : Mod X.K X.mg X.base := I.ok.mod
theorem Inv.kIn (I : Inv X pins σ H s) : X.K.In s.heap := I.ok.mod.kin.keeps I.bk
theorem Inv.lt (I : Inv X pins σ H s) : X.env.locals < s.heap.objs.size := let ⟨_, hn, _⟩ := I.loc; hn.lt
theorem Inv.sz (I : Inv X pins σ H s) : X.s₀.heap.objs.size ≤ s.heap.objs.size := Nat.le_trans I.ok.above (Nat.le_of_lt I.lt)
theorem Inv.nofs (I : Inv X pins σ H s) {a : Addr} (h : s.heap.objs.size ≤ a) : a ∉ X.fs := fun hb => by
  obtain ⟨_, o, ho, _⟩ := I.ok.funs.mem hb
  exact absurd (Nat.lt_of_lt_of_le (Heap.lt_size ho) (Nat.le_trans I.sz h)) (Nat.lt_irrefl _)
theorem Inv.cne (I : Inv X pins σ H s) : ∀ x c, X.env.cells.lookup x = some c → c ≠ X.env.locals := fun x c e z => by
  obtain ⟨v, o, ho, hd⟩ := I.cell x c e
  obtain ⟨m, ⟨o', es, ep, ho', hd', _⟩, _⟩ := I.loc
  rw [z, ho'] at ho; cases ho; rw [hd'] at hd; cases hd
theorem Inv.funs (I : Inv X pins σ H s) : s.heap.FunFrames X.base X.outer := by
  have all : ∀ (l : List Env), (∀ b ∈ frs l, b ∈ X.fs) → X.s₀.heap.FunFrames X.base l → s.heap.FunFrames X.base l := by
    intro l
    induction l with
    | nil => intro _ _; trivial
    | cons env r ih =>
      intro hs hl
      obtain ⟨hk, ⟨L, o, hf, hn, ho, hd⟩, hr⟩ := hl
      have hL : L ∈ X.fs := hs L (by unfold frs; rw [List.filterMap_cons, hf]; exact List.mem_cons_self)
      obtain ⟨sl, e⟩ := I.base.slot L o ho (I.ok.frf L hL) hL fun z => I.ok.exfs L z hL
      exact ⟨hk, ⟨L, _, hf, hn, e, hd⟩, ih (fun b hb => hs b (by unfold frs; rw [List.filterMap_cons, hf]; exact List.mem_cons_of_mem _ hb)) hr⟩
  exact all X.outer (fun _ hb => hb) I.ok.funs
theorem Inv.stack (I : Inv X pins σ H s) : s.heap.FunFrames X.base X.stack := by
  rcases I.ok.stk with e | ⟨e, hf⟩
  · rw [e]; exact I.funs
  · rw [e]
    obtain ⟨m, hn, _⟩ := I.loc
    refine .cons (by rw [I.ok.kind]; decide) hf hn ?_ I.funs
    exact Heap.get?_none_of_le (Nat.le_trans I.ok.bsz I.ok.above)
theorem Inv.stkSub (I : Inv X pins σ H s) : ∀ b ∈ frs X.stack, b ∈ X.env.locals :: X.fs := fun b hb => by
  rcases I.ok.stk with e | ⟨e, hf⟩
  · rw [e] at hb; exact List.mem_cons_of_mem _ hb
  · rw [e] at hb
    unfold frs at hb
    rw [List.filterMap_cons, hf] at hb
    exact hb
theorem Inv.stkFree (I : Inv X pins σ H s) : ∀ b ∈ frs X.stack, H b = none := fun b hb => by
  rcases List.mem_cons.mp (I.stkSub b hb) with e | hb
  · rw [e]; exact I.free
  · obtain ⟨_, o, ho, _⟩ := I.ok.funs.mem hb
    exact I.base.free b o ho (I.ok.frf b hb) fun z => I.ok.exfs b z hb
theorem Inv.step {g' : Array GenState} {t' : Nat} {d' : Drawn} {ch : List Addr} (I : Inv X pins σ H s)
    (hch : ∀ b ∈ ch, (b ∈ X.ex ∨ X.s₀.heap.objs.size ≤ b) ∧ b ≠ X.env.locals ∧ (∀ x c, X.env.cells.lookup x = some c → c ≠ b) ∧ ∀ p ∈ X.pn ++ pins, p.1 ≠ b)
    (keep : ∀ b o, b ≠ X.env.locals → b ∉ X.fs → b ∉ ch → s.heap.get? b = some o → H b = none → h'.get? b = some o)
    (slot : ∀ b o, b ≠ X.env.locals → b ∈ X.fs → b ∉ ch → s.heap.get? b = some o → H b = none → ∃ sl, h'.get? b = some { o with slots := sl }) (free : ∀ b o, b ∉ ch → s.heap.get? b = some o → H b = none → H' b = none)
    (there : ∀ b o, b ∉ ch → s.heap.get? b = some o → ∃ o', h'.get? b = some o')
    (tups : ∀ b xs, H b = some (.tup xs) → H' b = some (.tup xs)) (frzs : ∀ b o u, H b = some (.frz o u) → H' b = some (.frz o u)) (tbls : ∀ b ps, H b = some (.tbl ps) → ∃ more, H' b = some (.tbl (ps ++ more)))
    (ns : ∀ m, s.heap.Ns X.env.locals m → h'.Ns X.env.locals m) (hok : HOk X.prog X.w H' h') (hg : AllBare g') :
    Inv X pins σ H' { s with heap := h', gens := g', drawn := d', toks := t' } := by
  have neL : ∀ b o, X.s₀.heap.get? b = some o → b ≠ X.env.locals := fun b o e => Nat.ne_of_lt (Nat.lt_of_lt_of_le (Heap.lt_size e) I.ok.above)
  have neC : ∀ b o, X.s₀.heap.get? b = some o → b ∉ X.ex → b ∉ ch := fun b o e hx hb => by
    rcases (hch b hb).1 with z | z
    · exact hx z
    · exact absurd (Nat.lt_of_lt_of_le (Heap.lt_size e) z) (Nat.lt_irrefl _)
  have cellK : ∀ x c, X.env.cells.lookup x = some c → ∀ v, s.heap.IsCell c v → h'.IsCell c v := fun x c e v ⟨o, ho, hd⟩ => by
    have nch : c ∉ ch := fun z => (hch c z).2.2.1 x c e rfl
    by_cases hc : c ∈ X.fs
    · obtain ⟨sl, q⟩ := slot c o (I.cne x c e) hc nch ho (I.freeC x c e)
      exact ⟨_, q, hd⟩
    · exact ⟨o, keep c o (I.cne x c e) hc nch ho (I.freeC x c e), hd⟩
  refine ⟨I.ok, I.os, hg, ⟨fun b o e n hb hx => ?_, fun b o e n hb hx => ?_, fun b o e n hx => ?_, fun b o e hx => ?_, fun b xs e => tups b xs (I.base.tups b xs e), fun b o xs e => frzs b o xs (I.base.frzs b o xs e), fun b ps e => ?_⟩, ?_, fun x c e => ?_, ?_, fun x c e => ?_, fun p hp => ?_, hok, I.len⟩
  · exact keep b o (neL b o e) hb (neC b o e hx) (I.base.keep b o e n hb hx) (I.base.free b o e n hx)
  · obtain ⟨sl, e1⟩ := I.base.slot b o e n hb hx
    obtain ⟨sl', e2⟩ := slot b _ (neL b o e) hb (neC b o e hx) e1 (I.base.free b o e n hx)
    exact ⟨sl', e2⟩
  · obtain ⟨o', e1⟩ := I.base.there b o e hx
    exact free b o' (neC b o e hx) e1 (I.base.free b o e n hx)
  · obtain ⟨o', e1⟩ := I.base.there b o e hx
    exact there b o' (neC b o e hx) e1
  · obtain ⟨m1, e1⟩ := I.base.tbls b ps e
    obtain ⟨m2, e2⟩ := tbls b _ e1
    exact ⟨m1 ++ m2, by rw [e2, Array.append_assoc]⟩
  · obtain ⟨m, hn, hl⟩ := I.loc
    refine ⟨m, ns m hn, fun i x v e1 e2 e3 => ?_⟩
    obtain ⟨u, r, l⟩ := hl i x v e1 e2 e3
    refine ⟨u, r, ?_⟩
    rcases l with l | ⟨k, c, e, z⟩
    · exact .inl l
    · exact .inr ⟨k, c, e, cellK x c e _ z⟩
  · obtain ⟨v, z⟩ := I.cell x c e
    exact ⟨v, cellK x c e v z⟩
  · obtain ⟨m, ⟨o, _, _, ho, _⟩, _⟩ := I.loc
    exact free _ o (fun z => (hch _ z).2.1 rfl) ho I.free
  · obtain ⟨v, o, ho, hd⟩ := I.cell x c e
    exact free c o (fun z => (hch c z).2.2.1 x c e rfl) ho (I.freeC x c e)
  · obtain ⟨e, n, ne, nf, d⟩ := I.pin p hp
    have nch : p.1 ∉ ch := fun z => (hch p.1 z).2.2.2 p hp rfl
    exact ⟨keep p.1 p.2 ne nf nch e n, free p.1 p.2 nch e n, ne, nf, d⟩
theorem Inv.un {t' : Nat} (I : Inv X pins σ H s) (u : Un X.fs [] H H' s.heap h') (hok : HOk X.prog X.w H' h') : Inv X pins σ H' { s with heap := h', toks := t' } := by
  obtain ⟨m, ⟨o, es, ep, ho, r⟩, _⟩ := id I.loc
  obtain ⟨sl, hL⟩ := u.any ho I.free (by simp)
  exact I.step (g' := s.gens) (d' := s.drawn) (ch := []) (fun _ z => nomatch z) (fun b o _ hb _ e n => u.keep b o e n hb (by simp)) (fun b o _ hb _ e n => u.slot b o e n hb (by simp)) (fun b o _ e n => u.free b o e n (by simp)) (fun b o _ e => u.there b o e (by simp)) u.tups u.frzs u.tbls (fun m' hm => by
    obtain ⟨o', es', ep', ho', r'⟩ := hm
    rw [ho] at ho'; cases ho'
    exact ⟨_, es', ep', hL, r'⟩) hok I.bare
theorem Inv.call {g' : Array GenState} {t' : Nat} {d' : Drawn} {ch : List Addr} (I : Inv X pins σ H s) (u : Un (frs X.stack) ch H H' s.heap h') (hok : HOk X.prog X.w H' h') (hg : AllBare g')
    (hch : ∀ b ∈ ch, (b ∈ X.ex ∨ X.s₀.heap.objs.size ≤ b) ∧ b ≠ X.env.locals ∧ (∀ x c, X.env.cells.lookup x = some c → c ≠ b) ∧ ∀ p ∈ X.pn ++ pins, p.1 ≠ b) :
    Inv X pins σ H' { s with heap := h', gens := g', drawn := d', toks := t' } := by
  obtain ⟨m, ⟨o, es, ep, ho, r⟩, _⟩ := id I.loc
  obtain ⟨sl, hL⟩ := u.any ho I.free fun z => (hch _ z).2.1 rfl
  exact I.step (ch := ch) hch (fun b o hL hb hc e n => u.keep b o e n (fun z => (List.mem_cons.mp (I.stkSub b z)).elim hL hb) hc) (fun b o _ _ hc e n => u.any e n hc) (fun b o hc e n => u.free b o e n hc) (fun b o hc e => u.there b o e hc) u.tups u.frzs u.tbls (fun m' hm => by
    obtain ⟨o', es', ep', ho', r'⟩ := hm
    rw [ho] at ho'; cases ho'
    exact ⟨_, es', ep', hL, r'⟩) hok hg
theorem Inv.turned {t' : Nat} {it : Addr} (I : Inv X pins σ H s) (k : ∀ b o, b ≠ it → s.heap.get? b = some o → h'.get? b = some o) (hn : H it = none) (hL : it ≠ X.env.locals)
    (h1 : it ∈ X.ex ∨ X.s₀.heap.objs.size ≤ it) (h2 : ∀ x c, X.env.cells.lookup x = some c → c ≠ it) (h3 : ∀ p ∈ X.pn ++ pins, p.1 ≠ it) : Inv X pins σ H { s with heap := h', toks := t' } := by
  have nit : ∀ b u, H b = some u → b ≠ it := fun b u e z => by rw [z, hn] at e; cases e
  refine I.step (g' := s.gens) (d' := s.drawn) (ch := [it]) (fun b hb => ?_) (fun b o _ _ hc e _ => k b o (fun z => hc (by simp [z])) e) (fun b o _ _ hc e _ => ⟨o.slots, k b o (fun z => hc (by simp [z])) e⟩) (fun _ _ _ _ n => n)
    (fun b o hc e => ⟨o, k b o (fun z => hc (by simp [z])) e⟩) (fun _ _ e => e) (fun _ _ _ e => e) (fun b ps e => ⟨#[], by rw [e]; simp⟩) (fun m hm => ?_) (fun b u e => ?_) I.bare
  · have e : b = it := by simpa using hb
    subst e
    exact ⟨h1, hL, h2, h3⟩
  · obtain ⟨o, es, ep, ho, r⟩ := hm
    exact ⟨o, es, ep, k _ o (Ne.symm hL) ho, r⟩
  · refine (I.hok b u e).stay (fun c v hc q => k c v ?_ q) (fun _ q => q) fun _ _ q => q
    rcases hc with z | z
    · rw [z]; exact nit b u e
    · exact nit c _ z
theorem Inv.tok (I : Inv X pins σ H s) (t : Nat) : Inv X pins σ H { s with toks := t } := I.un (h' := s.heap) (t' := t) Un.refl I.hok
theorem Inv.kept {t' : Nat} (I : Inv X pins σ H s) (k : ∀ b u, s.heap.get? b = some u → h'.get? b = some u) : Inv X pins σ H { s with heap := h', toks := t' } := I.un (Un.kept k) (I.hok.kept k)
theorem Inv.laid {a : Addr} {o : HO} {t' : Nat} (I : Inv X pins σ H s) (k : ∀ b u, s.heap.get? b = some u → h'.get? b = some u) (hp : s.heap.objs.size ≤ a) (new : ObjOk X.prog X.w (upd H a o) h' a o) :
    Inv X pins σ (upd H a o) { s with heap := h', toks := t' } := I.un (Un.laid k hp (I.hok.fresh hp)) (I.hok.laid k hp new)
theorem Inv.write {x e : Addr} {o : HO} {t' : Nat} (I : Inv X pins σ H s) (mu : Mut (H x)) (he : e = x ∨ H e = some (.own x)) (k : ∀ b u, b ≠ e → s.heap.get? b = some u → h'.get? b = some u) (heo : ∃ u, h'.get? e = some u)
    (new : ObjOk X.prog X.w (upd H x o) h' x o) : Inv X pins σ (upd H x o) { s with heap := h', toks := t' } := I.un (Un.write mu he k heo) (I.hok.write mu he k heo new)
theorem Inv.pins_of {pins' : List (Addr × Obj)} (I : Inv X pins σ H s) (h : ∀ p ∈ pins', s.heap.get? p.1 = some p.2 ∧ H p.1 = none ∧ p.1 ≠ X.env.locals ∧ p.1 ∉ X.fs ∧ ∀ v, p.2.data ≠ .cell v) : Inv X pins' σ H s :=
  ⟨I.ok, I.os, I.bare, I.base, I.loc, I.cell, I.free, I.freeC, fun p hp => (List.mem_append.mp hp).elim (fun z => I.pin p (List.mem_append_left _ z)) (h p), I.hok, I.len⟩
theorem nodup_ix {N : List Str} (hN : N.Nodup) {i j : Nat} {x : Str} (a : N[i]? = some x) (b : N[j]? = some x) : i = j := by
  obtain ⟨h1, e1⟩ := List.getElem?_eq_some_iff.mp a
  obtain ⟨h2, e2⟩ := List.getElem?_eq_some_iff.mp b
  exact (List.getElem_inj hN).mp (e1.trans e2.symm)
theorem store_ok2 {M : Model} {A : Around} {E : Value → Shared → Prop} {i : Nat} {x : Str} {v : V} {u : Value} {Q : Unit → Shared → Prop} (I : Inv X pins σ H s) (hN : X.N.Nodup) (hi : X.N[i]? = some x) (hx : Loc X.env.scope x) (r : RelV v u)
    (h : ∀ s', Inv X pins (σ.set i (some v)) H s' → (∃ a, Heap.SameBut a s.heap s'.heap ∧ (a = X.env.locals ∨ X.env.cells.lookup x = some a)) → Q () s') (hf : X.fn x = true ∨ X.env.scope.names.lookup x = some .local := by first | exact .inl rfl | exact .inr rfl | assumption) : wpAny M A (storeName X.env x u) Q E s := by
  obtain ⟨m, hn, hl⟩ := id I.loc
  have hcls : (X.env.scope.kind == .class || (X.env.scope.kind == .module && X.env.locals != X.env.globals)) = false := by rw [I.ok.kind]; rfl
  have hiσ : i < σ.length := by rw [I.len]; exact (List.getElem?_eq_some_iff.mp hi).1
  have cne := I.cne
  have tracked : ∀ {a : Addr} {h' : Heap}, (∃ o, s.heap.get? a = some o ∧ H a = none) → Heap.SameBut a s.heap h' → HOk X.prog X.w H h' := fun {a h'} ha hs b ob e => by
    obtain ⟨_, _, hfree⟩ := ha
    refine (I.hok b ob e).stay (fun c w' hc q => (hs.2 c ?_).trans q) (fun _ q => q) fun _ _ q => q
    rintro rfl
    rcases hc with rfl | hc
    · rw [hfree] at e; cases e
    · rw [hfree] at hc; cases hc
  rcases hx with hk | hk
  · refine wpAny_storeName_local hk hn (fun h' hn' hs => ?_) hcls
    obtain ⟨oL, _, _, hoL, _⟩ := id hn
    refine h _ ⟨I.ok, I.os, I.bare, ⟨fun b o e n hb hx => ?_, fun b o e n hb hx => ?_, I.base.free, fun b o e hx => ?_, I.base.tups, I.base.frzs, I.base.tbls⟩, ⟨_, hn', fun j y v' e1 e2 e3 => ?_⟩, fun y c e => ?_, I.free, I.freeC, fun p hp => ?_, tracked ⟨oL, hoL, I.free⟩ hs, by simpa using I.len⟩ ⟨_, hs, .inl rfl⟩
    · exact (hs.2 b (Nat.ne_of_lt (Nat.lt_of_lt_of_le (Heap.lt_size e) I.ok.above))).trans (I.base.keep b o e n hb hx)
    · obtain ⟨sl, e1⟩ := I.base.slot b o e n hb hx
      exact ⟨sl, (hs.2 b (Nat.ne_of_lt (Nat.lt_of_lt_of_le (Heap.lt_size e) I.ok.above))).trans e1⟩
    · obtain ⟨o', e1⟩ := I.base.there b o e hx
      exact ⟨o', (hs.2 b (Nat.ne_of_lt (Nat.lt_of_lt_of_le (Heap.lt_size e) I.ok.above))).trans e1⟩
    · by_cases hj : j = i
      · subst hj
        rw [hi] at e1; cases e1
        rw [List.getElem?_set_self hiσ] at e2
        cases e2
        exact ⟨u, r, .inl ⟨hk, by simp⟩⟩
      · rw [List.getElem?_set_ne (Ne.symm hj)] at e2
        obtain ⟨u', r', q⟩ := hl j y v' e1 e2 e3
        refine ⟨u', r', ?_⟩
        rcases q with ⟨k, e⟩ | ⟨k, c, e, z⟩
        · refine .inl ⟨k, ?_⟩
          have : y ≠ x := fun e => hj (nodup_ix hN e1 (e ▸ hi))
          simp [this, e]
        · exact .inr ⟨k, c, e, z.sameBut hs (cne y c e)⟩
    · obtain ⟨w', z⟩ := I.cell y c e
      exact ⟨w', z.sameBut hs (cne y c e)⟩
    · obtain ⟨e, n, ne, nf, d⟩ := I.pin p hp
      exact ⟨(hs.2 p.1 ne).trans e, n, ne, nf, d⟩
  · have hfn : X.fn x = true := by
      rcases hf with z | z
      · exact z
      · rw [z] at hk; cases hk
    obtain ⟨c, hc⟩ := I.ok.has x (.inl hk)
    obtain ⟨w', z⟩ := I.cell x c hc
    refine wpAny_storeName_cell I.ok.kind hk hc z (fun h' hc' hs => ?_)
    obtain ⟨oc, hoc, hocd⟩ := id z
    refine h { s with heap := h' } ⟨I.ok, I.os, I.bare, ⟨fun b o e n hb hx => ?_, fun b o e n hb hx => ?_, I.base.free, fun b o e hx => ?_, I.base.tups, I.base.frzs, I.base.tbls⟩, ⟨m, hn.sameBut hs (Ne.symm (cne x c hc)), fun j y v' e1 e2 e3 => ?_⟩, fun y c' e => ?_, I.free, I.freeC, fun p hp => ?_, tracked ⟨oc, hoc, I.freeC x c hc⟩ hs, by simpa using I.len⟩ ⟨c, hs, .inr hc⟩
    · exact (hs.2 b (Nat.ne_of_lt (Nat.lt_of_lt_of_le (Heap.lt_size e) (I.ok.cab x c hfn hc)))).trans (I.base.keep b o e n hb hx)
    · obtain ⟨sl, e1⟩ := I.base.slot b o e n hb hx
      exact ⟨sl, (hs.2 b (Nat.ne_of_lt (Nat.lt_of_lt_of_le (Heap.lt_size e) (I.ok.cab x c hfn hc)))).trans e1⟩
    · obtain ⟨o', e1⟩ := I.base.there b o e hx
      exact ⟨o', (hs.2 b (Nat.ne_of_lt (Nat.lt_of_lt_of_le (Heap.lt_size e) (I.ok.cab x c hfn hc)))).trans e1⟩
    · by_cases hj : j = i
      · subst hj
        rw [hi] at e1; cases e1
        rw [List.getElem?_set_self hiσ] at e2
        cases e2
        exact ⟨u, r, .inr ⟨.inl hk, c, hc, hc'⟩⟩
      · rw [List.getElem?_set_ne (Ne.symm hj)] at e2
        obtain ⟨u', r', q⟩ := hl j y v' e1 e2 e3
        refine ⟨u', r', ?_⟩
        rcases q with q | ⟨k, c', e, z'⟩
        · exact .inl q
        · refine .inr ⟨k, c', e, z'.sameBut hs ?_⟩
          rintro rfl
          exact hj (nodup_ix hN e1 (I.ok.inj _ _ _ e hc ▸ hi))
    · by_cases hcc : c' = c
      · subst hcc; exact ⟨_, hc'⟩
      · obtain ⟨w2, z2⟩ := I.cell y c' e
        exact ⟨w2, z2.sameBut hs hcc⟩
    · obtain ⟨e, n, ne, nf, d⟩ := I.pin p hp
      refine ⟨(hs.2 p.1 ?_).trans e, n, ne, nf, d⟩
      intro q
      rw [q, hoc] at e
      have q' : oc = p.2 := Option.some.inj e
      exact d w' (by rw [← q']; exact hocd)
theorem store_ok {M : Model} {A : Around} {E : Value → Shared → Prop} {i : Nat} {x : Str} {v : V} {u : Value} {Q : Unit → Shared → Prop} (I : Inv X pins σ H s) (hN : X.N.Nodup) (hi : X.N[i]? = some x) (hx : Loc X.env.scope x) (r : RelV v u)
    (h : ∀ s', Inv X pins (σ.set i (some v)) H s' → Q () s') (hf : X.fn x = true ∨ X.env.scope.names.lookup x = some .local := by first | exact .inl rfl | exact .inr rfl | assumption) : wpAny M A (storeName X.env x u) Q E s :=
  store_ok2 I hN hi hx r (fun s' I' _ => h s' I') hf
theorem Inv.call' {s' : Shared} {ch : List Addr} (I : Inv X pins σ H s) (ho : s'.os = s.os) (u : Un (frs X.stack) ch H H' s.heap s'.heap) (hok : HOk X.prog X.w H' s'.heap) (hg : AllBare s'.gens)
    (hch : ∀ b ∈ ch, (b ∈ X.ex ∨ X.s₀.heap.objs.size ≤ b) ∧ b ≠ X.env.locals ∧ (∀ x c, X.env.cells.lookup x = some c → c ≠ b) ∧ ∀ p ∈ X.pn ++ pins, p.1 ≠ b) : Inv X pins σ H' s' := by
  obtain ⟨h', g', d', t', o'⟩ := s'
  have e : o' = s.os := ho
  subst e
  exact I.call (g' := g') (t' := t') (d' := d') u hok hg hch
end
abbrev XK := Value → Option Addr → Hp → Prop
abbrev St := List (Option V)
abbrev VK := V → Hp → Prop
abbrev TE := St → Hp → VK → Prop
abbrev TT := St → Hp → (Bool → Hp → Prop) → Prop
abbrev TA := St → Hp → (List V → Hp → Prop) → Prop
structure Ends where
  nx : St → Hp → Prop
  rt : VK
  bk : St → Hp → Prop := fun _ _ => False
  ct : St → Hp → Prop := fun _ _ => False
abbrev TS := Ends → St → Hp → Prop
def EP (X : Cx) (pins : List (Addr × Obj)) (σ : St) (Q : VK) (u : Value) (s' : Shared) : Prop := ∃ v H', Inv X pins σ H' s' ∧ RelV v u ∧ Q v H'
def TP (X : Cx) (pins : List (Addr × Obj)) (σ : St) (Q : Bool → Hp → Prop) (b : Bool) (s' : Shared) : Prop := ∃ H', Inv X pins σ H' s' ∧ Q b H'
def AP (X : Cx) (pins : List (Addr × Obj)) (σ : St) (Q : List V → Hp → Prop) (us : List Value) (s' : Shared) : Prop := ∃ vs H', Inv X pins σ H' s' ∧ Vals vs us ∧ Q vs H'
def SP (X : Cx) (pins : List (Addr × Obj)) (D : Ends) (f : Flow) (s' : Shared) : Prop :=
  match f with
  | .next => ∃ σ' H', Inv X pins σ' H' s' ∧ D.nx σ' H'
  | .brk => ∃ σ' H', Inv X pins σ' H' s' ∧ D.bk σ' H'
  | .cont => ∃ σ' H', Inv X pins σ' H' s' ∧ D.ct σ' H'
  | .ret u => ∃ v σ' H', Inv X pins σ' H' s' ∧ RelV v u ∧ D.rt v H'
def PE (X : Cx) (e : Expr) (t : TE) : Prop :=
  ∀ (pins : List (Addr × Obj)) (s : Shared) (σ : St) (H : Hp) (Q : VK), Inv X pins σ H s → t σ H Q → wpAny (model X.prog X.w) X.A (eval e X.env) (EP X pins σ Q) X.xe s
def PT (X : Cx) (e : Expr) (t : TT) : Prop :=
  ∀ (pins : List (Addr × Obj)) (s : Shared) (σ : St) (H : Hp) (Q : Bool → Hp → Prop), Inv X pins σ H s → t σ H Q → wpAny (model X.prog X.w) X.A (isTrue e X.env (eval e X.env)) (TP X pins σ Q) X.xe s
def PW (X : Cx) (e : Expr) (t : TT) : Prop :=
  ∀ (whole : Sem Value) (pins : List (Addr × Obj)) (s : Shared) (σ : St) (H : Hp) (Q : Bool → Hp → Prop), Inv X pins σ H s → t σ H Q → wpAny (model X.prog X.w) X.A (isTrue e X.env whole) (TP X pins σ Q) X.xe s
theorem PW.pt {X : Cx} {e : Expr} {t : TT} (h : PW X e t) : PT X e t := h _
def PA (X : Cx) (es : List Expr) (t : TA) : Prop :=
  ∀ (pos : Pos) (pins : List (Addr × Obj)) (s : Shared) (σ : St) (H : Hp) (Q : List V → Hp → Prop), Inv X pins σ H s → t σ H Q → wpAny (model X.prog X.w) X.A (spliced (backTo pos (starEach es X.env))) (AP X pins σ Q) X.xe s
def PS (X : Cx) (st : Stmt) (t : TS) : Prop :=
  ∀ (pins : List (Addr × Obj)) (s : Shared) (σ : St) (H : Hp) (D : Ends), Inv X pins σ H s → t D σ H → wpAny (model X.prog X.w) X.A (exec st X.env) (SP X pins D) X.xe s
def PSs (X : Cx) (st : List Stmt) (t : TS) : Prop :=
  ∀ (pins : List (Addr × Obj)) (s : Shared) (σ : St) (H : Hp) (D : Ends), Inv X pins σ H s → t D σ H → wpAny (model X.prog X.w) X.A (execs st X.env) (SP X pins D) X.xe s
theorem thn {α : Type} {t : Sem α} {Q Q' : α → Shared → Prop} {M : Model} {A : Around} {E : Value → Shared → Prop} {s : Shared} (h : wpAny M A t Q E s) (hQ : ∀ a s, Q a s → Q' a s) : wpAny M A t Q' E s := wpAny_mono h hQ fun _ _ x => x
end L2
namespace L2
open PySem PySem.Spec PyProof.Rows
section
variable {X : Cx}
def tVar (i : Nat) : TE := fun σ H Q => ∃ v, σ[i]? = some (some v) ∧ Q v H
def tC (v : V) : TE := fun _ H Q => Q v H
theorem pe_var {i : Nat} {x : Str} {pos : Pos} (hN : X.N[i]? = some x) (hv : Vis X.env.scope x) (hd : (x == ("__debug__" : Str)) = false := by decide) (hcd : (x == ("__classdict__" : Str)) = false := by decide) : PE X (.Name x pos) (tVar i) := by
  intro pins s σ H Q I h
  obtain ⟨v, e, h⟩ := h
  obtain ⟨m, hn, hl⟩ := I.loc
  obtain ⟨u, r, l⟩ := hl i x v hN e hv
  have fin : EP X pins σ Q u s := ⟨v, H, I, r, h⟩
  rcases l with ⟨hk, hm⟩ | ⟨hk, c, hc, hcell⟩
  · exact wpAny_Name (wpAny_loadName_local I.ok.kind hk hn hm fin) hd
  · rcases hk with hk | hk
    · exact wpAny_Name (wpAny_loadName_cell I.ok.kind hk hc hcell fin) hd
    · exact wpAny_Name (wpAny_loadName_free I.ok.kind hk hc hcell fin hcd) hd
theorem pe_int {i j pos} : PE X (.Constant (.int i) j pos) (tC (.int i)) := fun _ _ _ H _ I h => wpAny_Constant_int ⟨.int i, H, I.tok _, ⟨_, rfl⟩, h⟩
theorem pe_bl {b j pos} : PE X (.Constant (.bool b) j pos) (tC (.bl b)) := fun _ _ _ H _ I h => Constant_bool ⟨.bl b, H, I, rfl, h⟩
theorem pe_non {j pos} : PE X (.Constant .none j pos) (tC .non) := fun _ _ _ H _ I h => Constant_none ⟨.non, H, I, rfl, h⟩
theorem pe_str {x j pos} : PE X (.Constant (.str x) j pos) (tC (.str x)) := fun _ _ _ H _ I h => Calls.Constant_str ⟨.str x, H, I.tok _, ⟨_, rfl⟩, h⟩
def Gl (X : Cx) (x : Str) : Prop := X.env.kindOf x = some .globalImplicit
theorem ld_glob {E : Value → Shared → Prop} {pins : List (Addr × Obj)} {s : Shared} {σ : St} {H : Hp} {x : Str} {u : Value} {pos : Pos} {Q : Value → Shared → Prop} (I : Inv X pins σ H s) (hg : Gl X x) (hm : X.mg x = some u) (h : Q u s)
    (hd : (x == ("__debug__" : Str)) = false := by decide) : wpAny (model X.prog X.w) X.A (eval (.Name x pos) X.env) Q E s :=
  Calls.Name_function_global I.ok.kind hg (Calls.loadGlobal_global (by rw [I.ok.glob]; exact I.mod.glob.keeps I.bk) hm h) hd
theorem ld_blt {E : Value → Shared → Prop} {pins : List (Addr × Obj)} {s : Shared} {σ : St} {H : Hp} {x : Str} {u : Value} {pos : Pos} {Q : Value → Shared → Prop} (I : Inv X pins σ H s) (hg : Gl X x) (hm : X.mg x = none) (hv : bootBuiltins x = some u) (h : Q u s)
    (hn : x ≠ "__name__" := by decide) (hd : (x == ("__debug__" : Str)) = false := by decide) : wpAny (model X.prog X.w) X.A (eval (.Name x pos) X.env) Q E s := by
  obtain ⟨mb, h1, h2⟩ := I.mod.blt
  exact Calls.Name_function_global I.ok.kind hg (Calls.loadGlobal_builtin (by rw [I.ok.glob]; exact I.mod.glob.keeps I.bk) hm (by rw [I.ok.blt]; exact h1.keeps I.bk) ((h2 x hn).trans hv) h) hd
theorem pe_bltn {x : Str} {v : V} {u : Value} {pos : Pos} (hg : Gl X x) (hm : X.mg x = none) (hv : bootBuiltins x = some u) (r : RelV v u) (hn : x ≠ "__name__" := by decide) (hd : (x == ("__debug__" : Str)) = false := by decide) : PE X (.Name x pos) (tC v) :=
  fun _ _ _ H _ I h => ld_blt I hg hm hv ⟨v, H, I, r, h⟩ hn hd
variable {a b : Expr} {ta tb : TE} {pos : Pos}
def PC (X : Cx) (op : CmpOp) (a b : Expr) (t : TE) : Prop :=
  ∀ (pins : List (Addr × Obj)) (s : Shared) (σ : St) (H : Hp) (Q : VK), Inv X pins σ H s → t σ H Q →
    wpAny (model X.prog X.w) X.A (eval a X.env) (fun v s₁ => wpAny (model X.prog X.w) X.A (eval b X.env) (fun u s₂ => wpAny (model X.prog X.w) X.A (compareOp op v u) (EP X pins σ Q) X.xe s₂) X.xe s₁) X.xe s
theorem nobehind (b : Expr) {op : CmpOp} (h : op ≠ .In) (h2 : op ≠ .NotIn) : behindInMarks op b = false := by
  have e1 : (op == CmpOp.In) = false := by cases op <;> first | rfl | exact absurd rfl h
  have e2 : (op == CmpOp.NotIn) = false := by cases op <;> first | rfl | exact absurd rfl h2
  cases b <;> simp [behindInMarks, e1, e2]
def tB (t : TE) : TT := fun σ H Q => t σ H fun x H1 => ∃ c, x = .bl c ∧ Q c H1
theorem pe_cmp {op : CmpOp} {t : TE} (h : PC X op a b t) (h1 : behindInMarks op b = false := by first | exact nobehind _ (by decide) (by decide) | rfl) : PE X (.Compare a [op] [b] pos) t := fun pins s σ H Q I hw => wpAny_Compare1 (h pins s σ H Q I hw) h1
theorem pt_cmp {op : CmpOp} {t : TE} (h : PC X op a b t) (h1 : behindInMarks op b = false := by first | exact nobehind _ (by decide) (by decide) | rfl) : PT X (.Compare a [op] [b] pos) (tB t) := by
  intro pins s σ H Q I hw
  refine wpAny_isTrue_Compare1 (thn (h pins s σ H _ I hw) fun v s1 h1 => thn h1 fun u s2 h2 => thn h2 fun c s3 ⟨x, H1, I1, r1, q1⟩ => ?_) h1
  obtain ⟨d, rfl, q⟩ := q1
  cases r1
  exact wpAny_truthy_bool ⟨H1, I1, q⟩
theorem pt_val {e : Expr} {t : TE} (h : PE X e t) (he : ∀ whole, isTrue e X.env whole = (do let v ← whole; standAt e.pos; holding [v] (truthy v)) := by intro _; rfl) : PT X e (tB t) := by
  intro pins s σ H Q I hw
  refine isTrue_plain (thn (h pins s σ H _ I hw) fun v s1 ⟨x, H1, I1, r1, q1⟩ => ?_) (he _)
  obtain ⟨d, rfl, q⟩ := q1
  cases r1
  exact wpAny_truthy_bool ⟨H1, I1, q⟩
variable {tA tB' : TT} {rest : List Expr}
def tAnd (t u : TT) : TT := fun σ H Q => t σ H fun c H1 => if c = true then u σ H1 Q else Q false H1
def tOr (t u : TT) : TT := fun σ H Q => t σ H fun c H1 => if c = true then Q true H1 else u σ H1 Q
def tNot (t : TT) : TT := fun σ H Q => t σ H fun c H1 => Q (!c) H1
theorem pw_and1 (ha : PT X a tA) : PW X (.BoolOp .And [a] pos) tA := by
  intro wh pins s σ H Q I h
  refine isTrue_and (thn (ha pins s σ H Q I h) fun c s1 e => ?_)
  cases c with
  | true => exact isTrue_and_nil e
  | false => exact e
theorem pw_or1 (ha : PT X a tA) : PW X (.BoolOp .Or [a] pos) tA := by
  intro wh pins s σ H Q I h
  refine isTrue_or (thn (ha pins s σ H Q I h) fun c s1 e => ?_)
  cases c with
  | false => exact isTrue_or_nil e
  | true => exact e
theorem pw_and (ha : PT X a tA) (hb : PW X (.BoolOp .And (b :: rest) pos) tB') : PW X (.BoolOp .And (a :: b :: rest) pos) (tAnd tA tB') := by
  intro wh pins s σ H Q I h
  refine isTrue_and (thn (ha pins s σ H _ I h) fun c s1 ⟨H1, I1, q1⟩ => ?_)
  cases c with
  | true => exact hb wh pins s1 σ H1 Q I1 q1
  | false => exact ⟨H1, I1, q1⟩
theorem pw_or (ha : PT X a tA) (hb : PW X (.BoolOp .Or (b :: rest) pos) tB') : PW X (.BoolOp .Or (a :: b :: rest) pos) (tOr tA tB') := by
  intro wh pins s σ H Q I h
  refine isTrue_or (thn (ha pins s σ H _ I h) fun c s1 ⟨H1, I1, q1⟩ => ?_)
  cases c with
  | true => exact ⟨H1, I1, q1⟩
  | false => exact hb wh pins s1 σ H1 Q I1 q1
theorem pt_not (ha : PT X a tA) : PT X (.UnaryOp .Not a pos) (tNot tA) := by
  intro pins s σ H Q I h
  exact isTrue_not (ha pins s σ H (fun c H1 => Q (!c) H1) I h)
def tAndV (ta tb : TE) : TE := fun σ H Q => ta σ H fun x H1 => ∃ c, x = .bl c ∧ if c = true then tb σ H1 Q else Q (.bl false) H1
def tNotV (ta : TE) : TE := fun σ H Q => ta σ H fun x H1 => ∃ c, x = .bl c ∧ Q (.bl (!c)) H1
theorem pe_one {op} {t : TE} (h : PE X a t) : PE X (.BoolOp op [a] pos) t := fun pins s σ H Q I hw => BoolOp_one (h pins s σ H Q I hw)
theorem pe_and (ha : PE X a ta) (hb : PE X (.BoolOp .And (b :: rest) pos) tb) : PE X (.BoolOp .And (a :: b :: rest) pos) (tAndV ta tb) := by
  intro pins s σ H Q I h
  refine BoolOp_and (thn (ha pins s σ H _ I h) fun v s1 ⟨x, H1, I1, r1, q1⟩ => ?_)
  obtain ⟨c, rfl, q1⟩ := q1
  cases r1
  refine wpAny_truthy_bool ?_
  cases c with
  | true => exact hb pins s1 σ H1 Q I1 q1
  | false => exact ⟨.bl false, H1, I1, rfl, q1⟩
theorem pe_not (ha : PE X a ta) : PE X (.UnaryOp .Not a pos) (tNotV ta) := by
  intro pins s σ H Q I h
  refine UnaryOp_ (thn (ha pins s σ H _ I h) fun v s1 ⟨x, H1, I1, r1, q1⟩ => ?_)
  obtain ⟨c, rfl, q1⟩ := q1
  cases r1
  exact not_of (wpAny_truthy_bool ⟨.bl (!c), H1, I1, rfl, q1⟩)
end
end L2
namespace L2
open PySem PySem.Spec PyProof.Rows
def SqL (K : PySem.W.Frag) (H : Hp) (a : Addr) (xs : List V) : Prop :=
  Rd H a (.lst xs) ∨
    ∃ (o : Obj) (its : Array Value) (n : Nat), K.lookup a = some o ∧ o.cls = .type "list" ∧ o.dict = none ∧ o.data = .seq its n ∧ its.size ≤ sizeLine ∧ Vals xs its.toList
def SqT (K : PySem.W.Frag) (H : Hp) (a : Addr) (xs : List V) : Prop :=
  Rd H a (.tup xs) ∨
    ∃ (o : Obj) (its : Array Value) (n : Nat), K.lookup a = some o ∧ o.cls = .type "tuple" ∧ o.data = .seq its n ∧ its.size ≤ sizeLine ∧ Vals xs its.toList
def absV : Value → Option V
  | .none => some .non
  | .bool b => some (.bl b)
  | .int i _ => some (.int i)
  | .str x _ => some (.str x)
  | .bytes b _ => some (.byt b)
  | .float b _ => some (.flt b)
  | .ref a => some (.ref a)
  | .type n => some (.ty n)
  | _ => none
theorem RelV.abs {x : V} {u : Value} (r : RelV x u) : absV u = some x := by
  cases x with
  | non => cases r; rfl
  | bl _ => cases r; rfl
  | int _ => obtain ⟨t, rfl⟩ := r; rfl
  | str _ => obtain ⟨t, rfl⟩ := r; rfl
  | byt _ => obtain ⟨t, rfl⟩ := r; rfl
  | flt _ => obtain ⟨t, rfl⟩ := r; rfl
  | ref _ => cases r; rfl
  | ty _ => cases r; rfl
theorem RelV.inj {x y : V} {u : Value} (r : RelV x u) (q : RelV y u) : x = y := Option.some.inj (r.abs.symm.trans q.abs)
theorem Vals.inj : ∀ {xs ys : List V} {us : List Value}, Vals xs us → Vals ys us → xs = ys
  | _, _, _, .nil, .nil => rfl
  | _, _, _, .cons r t, .cons r' t' => by rw [r.inj r', Vals.inj t t']
section
variable {X : Cx} {pins : List (Addr × Obj)} {σ : St} {H : Hp} {s : Shared} {a : Addr} {xs ys : List V}
theorem SqL.of {K : PySem.W.Frag} (h : H a = some (.lst xs)) : SqL K H a xs := .inl (.inl h)
theorem SqT.of {K : PySem.W.Frag} (h : H a = some (.tup xs)) : SqT K H a xs := .inl (.inl h)
theorem Inv.list (I : Inv X pins σ H s) (h : SqL X.K H a xs) : ∃ its : List Value, Vals xs its ∧ PlainL s.heap a its.toArray ∧ xs.length ≤ sizeLine := by
  rcases h with h | ⟨o, its, n, hk, hc, hd, hs, hz, r⟩
  · obtain ⟨z, its, n, r, e⟩ := h.ok I.hok
    exact ⟨its, r, ⟨_, n, e, rfl, rfl, rfl⟩, z⟩
  · refine ⟨its.toList, r, ⟨o, n, I.kIn a o hk, hc, hd, by simpa using hs⟩, ?_⟩
    have e := r.length
    simp only [Array.length_toList] at e
    omega
theorem Inv.tuple (I : Inv X pins σ H s) (h : SqT X.K H a xs) : ∃ its : List Value, Vals xs its ∧ IsTup s.heap a its.toArray ∧ xs.length ≤ sizeLine := by
  rcases h with h | ⟨o, its, n, hk, hc, hs, hz, r⟩
  · obtain ⟨z, its, r, p⟩ := h.ok I.hok
    exact ⟨its, r, p, z⟩
  · refine ⟨its.toList, r, ⟨o, I.kIn a o hk, hc, n, by simpa using hs⟩, ?_⟩
    have e := r.length
    simp only [Array.length_toList] at e
    omega
theorem Inv.list_inj (I : Inv X pins σ H s) (h : SqL X.K H a xs) (h' : SqL X.K H a ys) : xs = ys := by
  obtain ⟨its, r, ⟨o, n, e, _, _, d⟩, _⟩ := I.list h
  obtain ⟨its', r', ⟨o', n', e', _, _, d'⟩, _⟩ := I.list h'
  rw [e] at e'; cases e'
  rw [d] at d'
  injection d' with d1 _
  have : its = its' := by simpa using congrArg Array.toList d1
  subst this
  exact r.inj r'
theorem Inv.tuple_inj (I : Inv X pins σ H s) (h : SqT X.K H a xs) (h' : SqT X.K H a ys) : xs = ys := by
  obtain ⟨its, r, ⟨o, e, _, n, d⟩, _⟩ := I.tuple h
  obtain ⟨its', r', ⟨o', e', _, n', d'⟩, _⟩ := I.tuple h'
  rw [e] at e'; cases e'
  rw [d] at d'
  injection d' with d1 _
  have : its = its' := by simpa using congrArg Array.toList d1
  subst this
  exact r.inj r'
end
abbrev Cx.wish (X : Cx) (E : Value → Shared → Prop) : Cx := { X with xe := E }
abbrev Cx.nox (X : Cx) : Cx := X.wish fun _ _ => False
theorem Cx.Ok.wish {X : Cx} (ok : X.Ok) (E : Value → Shared → Prop) : (X.wish E).Ok :=
  ⟨ok.mod, ok.kind, ok.glob, ok.blt, ok.above, ok.inj, ok.has, ok.cab, ok.hd, ok.frames, ok.stk, ok.exf, ok.bs, ok.bsz, ok.noex, ok.exfs, ok.funs, ok.frf⟩
theorem Cx.Ok.unwish {X : Cx} {E : Value → Shared → Prop} (ok : (X.wish E).Ok) : X.Ok :=
  ⟨ok.mod, ok.kind, ok.glob, ok.blt, ok.above, ok.inj, ok.has, ok.cab, ok.hd, ok.frames, ok.stk, ok.exf, ok.bs, ok.bsz, ok.noex, ok.exfs, ok.funs, ok.frf⟩
section
variable {X : Cx} {pins : List (Addr × Obj)} {σ : St} {H : Hp} {s : Shared} {E : Value → Shared → Prop}
theorem Inv.wish (I : Inv X pins σ H s) (E : Value → Shared → Prop) : Inv (X.wish E) pins σ H s := ⟨I.ok.wish E, I.os, I.bare, I.base, I.loc, I.cell, I.free, I.freeC, I.pin, I.hok, I.len⟩
theorem Inv.unwish (I : Inv (X.wish E) pins σ H s) : Inv X pins σ H s := ⟨I.ok.unwish, I.os, I.bare, I.base, I.loc, I.cell, I.free, I.freeC, I.pin, I.hok, I.len⟩
theorem SP.unwish {D : Ends} {f : Flow} {s' : Shared} (h : SP (X.wish E) pins D f s') : SP X pins D f s' := by
  cases f with
  | next => obtain ⟨σ', H', I, q⟩ := h; exact ⟨σ', H', I.unwish, q⟩
  | brk => obtain ⟨σ', H', I, q⟩ := h; exact ⟨σ', H', I.unwish, q⟩
  | cont => obtain ⟨σ', H', I, q⟩ := h; exact ⟨σ', H', I.unwish, q⟩
  | ret u => obtain ⟨v, σ', H', I, r, q⟩ := h; exact ⟨v, σ', H', I.unwish, r, q⟩
theorem PSs.nox {st : List Stmt} {t : TS} (h : PSs X.nox st t) : PSs X st t := fun pins s σ H D I hw =>
  wpAny_mono (h pins s σ H D (I.wish _) hw) (fun _ _ q => q.unwish) fun _ _ z => False.elim z
end
section
variable {X : Cx} {st : Stmt} {rest : List Stmt} {t u : TS} {e : Expr} {te : TE} {pos : Pos}
def tNext : TS := fun D σ H => D.nx σ H
def tSeq (t u : TS) : TS := fun D σ H => t { D with nx := u D } σ H
theorem pss_nil : PSs X [] tNext := fun _ _ σ H _ I h => wpAny_execs_nil ⟨σ, H, I, h⟩
theorem pss_cons (h1 : PS X st t) (h2 : PSs X rest u) : PSs X (st :: rest) (tSeq t u) := by
  intro pins s σ H D I h
  refine wpAny_execs_cons (thn (h1 pins s σ H { D with nx := u D } I h) fun f s1 q => ?_)
  cases f with
  | next =>
    obtain ⟨σ', H', I', q⟩ := q
    exact h2 pins s1 σ' H' D I' q
  | ret v => exact q
  | brk => exact q
  | cont => exact q
theorem pss_one (h1 : PS X st t) : PSs X [st] t := by
  intro pins s σ H D I h
  refine wpAny_execs_cons (thn (h1 pins s σ H D I h) fun f s1 q => ?_)
  cases f with
  | next => exact wpAny_execs_nil q
  | ret v => exact q
  | brk => exact q
  | cont => exact q
theorem Inv.quiet {pins : List (Addr × Obj)} {σ : St} {H : Hp} {s : Shared} (I : Inv X pins σ H s) : interactive X.env = false := by simp [interactive, I.ok.kind]
def tDrop (te : TE) : TS := fun D σ H => te σ H fun _ H1 => D.nx σ H1
theorem ps_expr (he : PE X e te) (hs : swapsWith e none pos.line X.env = pure false := by rfl) : PS X (.Expr e pos) (tDrop te) := by
  intro pins s σ H D I h
  exact wpAny_Expr_any (thn (he pins s σ H _ I h) fun v s1 ⟨x, H1, I1, r1, q1⟩ => ⟨σ, H1, I1, q1⟩) I.quiet hs
def tRet (te : TE) : TS := fun D σ H => te σ H D.rt
theorem ps_ret (he : PE X e te) : PS X (.Return (some e) pos) (tRet te) := by
  intro pins s σ H D I h
  exact wpAny_Return_some (thn (he pins s σ H _ I h) fun v s1 ⟨x, H1, I1, r1, q1⟩ => ⟨x, σ, H1, I1, r1, q1⟩)
def tIfS (c : TT) (t u : TS) : TS := fun D σ H => c σ H fun b H1 => if b = true then t D σ H1 else u D σ H1
theorem ps_if {c : Expr} {a b : List Stmt} {tc : TT} (hc : PT X c tc) (ha : PSs X a t) (hb : PSs X b u) : PS X (.If c a b pos) (tIfS tc t u) := by
  intro pins s σ H D I h
  refine wpAny_If (thn (hc pins s σ H _ I h) fun d s1 ⟨H1, I1, q1⟩ => ?_)
  cases d with
  | true => exact ha pins s1 σ H1 D I1 q1
  | false => exact hb pins s1 σ H1 D I1 q1
end
abbrev TG := V → St → Hp → (St → Hp → Prop) → Prop
abbrev TGs := List V → St → Hp → (St → Hp → Prop) → Prop
def PG (X : Cx) (target : Expr) (t : TG) : Prop :=
  ∀ (pins : List (Addr × Obj)) (s : Shared) (σ : St) (H : Hp) (v : V) (u : Value) (Q : St → Hp → Prop), Inv X pins σ H s → RelV v u → t v σ H Q →
    wpAny (model X.prog X.w) X.A (assign target X.env u) (fun _ s' => ∃ σ' H', Inv X pins σ' H' s' ∧ Q σ' H') X.xe s
def PGs (X : Cx) (ts : List Expr) (t : TGs) : Prop :=
  ∀ (pins : List (Addr × Obj)) (s : Shared) (σ : St) (H : Hp) (vs : List V) (us : List Value) (Q : St → Hp → Prop), Inv X pins σ H s → Vals vs us → t vs σ H Q →
    wpAny (model X.prog X.w) X.A (assignInOrder ((assignEach ts X.env).map (·.2)) us) (fun _ s' => ∃ σ' H', Inv X pins σ' H' s' ∧ Q σ' H') X.xe s
abbrev TSet := V → V → V → Hp → (Hp → Prop) → Prop
def PSet (X : Cx) (t : TSet) : Prop :=
  ∀ (pins : List (Addr × Obj)) (s : Shared) (σ : St) (H : Hp) (o i v : V) (ov iv u : Value) (Q : Hp → Prop), Inv X pins σ H s → RelV o ov → RelV i iv → RelV v u → t o i v H Q →
    wpAny (model X.prog X.w) X.A (setItem ov iv u) (fun _ s' => ∃ H', Inv X pins σ H' s' ∧ Q H') X.xe s
section
variable {X : Cx} {pos : Pos}
def gName (i : Nat) : TG := fun v σ H Q => Q (σ.set i (some v)) H
theorem pg_name {i : Nat} {x : Str} (hN : X.N.Nodup) (hi : X.N[i]? = some x) (hx : Loc X.env.scope x) (hf : X.fn x = true ∨ X.env.scope.names.lookup x = some .local := by first | exact .inl rfl | exact .inr rfl | assumption) : PG X (.Name x pos) (gName i) := by
  intro pins s σ H v u Q I r h
  exact wpAny_assign_Name (store_ok I hN hi hx r (fun s' I' => ⟨_, H, I', h⟩) hf)
def gNil : TGs := fun vs σ H Q => vs = [] ∧ Q σ H
def gCons (t : TG) (u : TGs) : TGs := fun vs σ H Q => ∃ v r, vs = v :: r ∧ t v σ H fun σ' H' => u r σ' H' Q
theorem pgs_nil : PGs X [] gNil := by
  intro pins s σ H vs us Q I r h
  obtain ⟨e, h⟩ := h
  subst e
  cases r
  exact assignInOrder_nil ⟨σ, H, I, h⟩
theorem pgs_cons {e : Expr} {es : List Expr} {t : TG} {u : TGs} (h1 : PG X e t) (h2 : PGs X es u)
    (hs : (assignEach (e :: es) X.env).map (·.2) = assign e X.env :: (assignEach es X.env).map (·.2) := by rfl) : PGs X (e :: es) (gCons t u) := by
  intro pins s σ H vs us Q I r h
  obtain ⟨v, vr, e1, h⟩ := h
  subst e1
  cases r with
  | cons r rr =>
    rw [hs]
    refine assignInOrder_cons (thn (h1 pins s σ H _ _ _ I r h) fun _ s1 ⟨σ1, H1, I1, q1⟩ => ?_)
    exact h2 pins s1 σ1 H1 _ _ Q I1 rr q1
def gTup (K : PySem.W.Frag) (n : Nat) (t : TGs) : TG := fun v σ H Q => ∃ a xs, v = .ref a ∧ SqT K H a xs ∧ xs.length = n ∧ t xs σ H Q
theorem pg_tup {es : List Expr} {k : Nat} {t : TGs} {n : Nat} (hc : X.calm = true) (h : PGs X es t)
    (hn : (assignEach es X.env).length = n := by rfl) (hst : (assignEach es X.env).findIdx? (·.1) = none := by rfl) : PG X (.Tuple es k pos) (gTup X.K n t) := by
  intro pins s σ H v u Q I r hw
  obtain ⟨a, xs, e1, hq, hl, hw⟩ := hw
  subst e1
  cases r
  obtain ⟨its, rv, ht, hz⟩ := I.tuple hq
  refine assign_Tuple_tuple (I.ok.hd hc) ht (by simp [hn, ← hl, rv.length]) hst fun h' hx => ?_
  have I1 : Inv X pins σ H { s with heap := h' } := I.kept (t' := s.toks) fun b o e => hx b o (Nat.ne_of_lt (Heap.lt_size e)) e
  exact h pins _ σ H xs _ Q I1 (by simpa using rv) hw
def gSub (to ti : TE) (t : TSet) : TG := fun v σ H Q => to σ H fun o H1 => ti σ H1 fun i H2 => t o i v H2 fun H3 => Q σ H3
theorem pg_sub {o i : Expr} {to ti : TE} {t : TSet} (ho : PE X o to) (hi : PE X i ti) (hs : PSet X t)
    (ha : ∀ v, assign (.Subscript o i pos) X.env v = (do
      let ov ← holding [v] (eval o X.env)
      let iv ← holding [v, ov] (eval i X.env)
      standAt pos
      holding [v, ov, iv] (setItem ov iv v)
      release [v, ov, iv] []) := by intro _; rfl) : PG X (.Subscript o i pos) (gSub to ti t) := by
  intro pins s σ H v u Q I r h
  rw [ha]
  refine wpAny_bind (wpAny_holding (thn (ho pins s σ H _ I h) fun ov s1 ⟨x, H1, I1, r1, q1⟩ => ?_))
  refine wpAny_bind (wpAny_holding (thn (hi pins s1 σ H1 _ I1 q1) fun iv s2 ⟨y, H2, I2, r2, q2⟩ => ?_))
  refine wpAny_bind (wpAny_standAt (wpAny_bind (wpAny_holding (thn (hs pins s2 σ H2 x y v ov iv u _ I2 r1 r2 r q2) fun _ s3 ⟨H3, I3, q3⟩ => ?_))))
  exact wpAny_release ⟨σ, H3, I3, q3⟩
def tAsg (te : TE) (g : TG) : TS := fun D σ H => te σ H fun x H1 => g x σ H1 D.nx
theorem ps_asg {tg e : Expr} {te : TE} {g : TG} (he : PE X e te) (hg : PG X tg g) (hs : swapsWithSole [tg] e pos.line X.env = pure false := by rfl) (hw : swappedStores [tg] e X.env = pure none := by rfl)
    (h1 : (assignEach [tg] X.env).map (·.2) = [assign tg X.env] := by rfl) : PS X (.Assign [tg] e pos) (tAsg te g) := by
  intro pins s σ H D I h
  refine wpAny_Assign_stores (thn (he pins s σ H _ I h) fun v s1 ⟨x, H1, I1, r1, q1⟩ => ?_) hs hw
  rw [h1]
  exact thn (hg pins s1 σ H1 x v _ I1 r1 q1) fun _ s2 q => q
theorem ps_set {i : Nat} {x : Str} {e : Expr} {te : TE} {pos' : Pos} (hN : X.N.Nodup) (hi : X.N[i]? = some x) (hx : Loc X.env.scope x) (he : PE X e te) (hs : swapsWith e (some (.Name x pos')) pos.line X.env = pure false := by rfl) (hf : X.fn x = true ∨ X.env.scope.names.lookup x = some .local := by first | exact .inl rfl | exact .inr rfl | assumption) :
    PS X (.Assign [.Name x pos'] e pos) (tAsg te (gName i)) := by
  intro pins s σ H D I h
  refine wpAny_Assign_Name (thn (he pins s σ H _ I h) fun v s1 ⟨y, H1, I1, r1, q1⟩ => ?_) hs
  exact store_ok I1 hN hi hx r1 (fun s2 I2 => ⟨_, H1, I2, q1⟩) hf
end
section
variable {X : Cx} {pos : Pos}
end
structure It where
  go : Nat → Hp → Prop
  yld : Nat → Hp → V → Hp → Prop
  stop : Nat → Hp → Prop
def FpOk (X : Cx) (pins : List (Addr × Obj)) (H : Hp) (b : Addr) : Prop :=
  H b = none ∧ b ≠ X.env.locals ∧ b ∉ X.fs ∧ (b ∈ X.ex ∨ X.s₀.heap.objs.size ≤ b) ∧ (∀ x c, X.env.cells.lookup x = some c → c ≠ b) ∧ ∀ p ∈ X.pn ++ pins, p.1 ≠ b
theorem Inv.fpOk {X : Cx} {pins : List (Addr × Obj)} {σ : St} {H H' : Hp} {s : Shared} {b : Addr} (I : Inv X pins σ H s) (hb : s.heap.objs.size ≤ b) (hn : H' b = none) : FpOk X pins H' b := by
  refine ⟨hn, Nat.ne_of_gt (Nat.lt_of_lt_of_le I.lt hb), I.nofs hb, .inr (Nat.le_trans I.sz hb), fun x c e z => ?_, fun p hp z => ?_⟩
  · obtain ⟨v, q⟩ := I.cell x c e
    exact absurd (Nat.lt_of_lt_of_le q.lt (by rw [z]; exact hb)) (Nat.lt_irrefl _)
  · exact absurd (Nat.lt_of_lt_of_le (Heap.lt_size (I.pin p hp).1) (by rw [z]; exact hb)) (Nat.lt_irrefl _)
structure Turn (P : Program) (w : World) (K : PySem.W.Frag) (tg : Expr) (J : It) (fp : List Addr) (it : Addr) (tn : Nat → Heap → Prop) : Prop where
  mem : it ∈ fp
  obj : ∀ i h, tn i h → ∀ b ∈ fp, ∃ o, h.get? b = some o ∧ ∀ v, o.data ≠ .cell v
  keep : ∀ i h h', tn i h → (∀ b ∈ fp, ∀ o, h.get? b = some o → h'.get? b = some o) → tn i h'
  item : ∀ (X : Cx), X.prog = P → X.w = w → X.K = K → X.calm = true → ∀ (i : Nat) (pins : List (Addr × Obj)) (s : Shared) (σ : St) (H : Hp) (E : Value → Shared → Prop), Inv X pins σ H s → (∀ b ∈ fp, FpOk X pins H b) → tn i s.heap → J.go i H →
    wpAny (model P w) X.A (pyNext (.ref it)) (fun r s1 => ∃ u, r = some u ∧
      wpAny (model P w) X.A (letOwnedTupleGo tg (.ref it) u) (fun _ s2 => ∃ x H', Inv X pins σ H' s2 ∧ RelV x u ∧ J.yld i H x H' ∧ tn (i + 1) s2.heap ∧ ∀ b ∈ fp, H' b = none) E s1) E s
  done : ∀ (X : Cx), X.prog = P → X.w = w → X.K = K → X.calm = true → ∀ (i : Nat) (pins : List (Addr × Obj)) (s : Shared) (σ : St) (H : Hp) (E : Value → Shared → Prop), Inv X pins σ H s → (∀ b ∈ fp, FpOk X pins H b) → tn i s.heap → J.stop i H →
    wpAny (model P w) X.A (pyNext (.ref it)) (fun r s1 => r = none ∧ Inv X pins σ H s1) E s
  self : ∀ (A : Around) (i : Nat) (s : Shared) (Q : Value → Shared → Prop) (E : Value → Shared → Prop), tn i s.heap → Q (.ref it) s → wpAny (model P w) A (pyIter (.ref it)) Q E s
abbrev TI := St → Hp → (It → Hp → Prop) → Prop
def PIE (X : Cx) (pins : List (Addr × Obj)) (σ : St) (tg : Expr) (R : It → Hp → Prop) (itv : Value) (s2 : Shared) : Prop :=
  ∃ (it : Addr) (fp : List Addr) (tn : Nat → Heap → Prop) (J : It) (H' : Hp), itv = .ref it ∧ Inv X pins σ H' s2 ∧ Turn X.prog X.w X.K tg J fp it tn ∧ tn 0 s2.heap ∧ (∀ b ∈ fp, FpOk X pins H' b) ∧ R J H'
def PI (X : Cx) (tg iter : Expr) (wi : TI) : Prop :=
  ∀ (pins : List (Addr × Obj)) (s : Shared) (σ : St) (H : Hp) (R : It → Hp → Prop), Inv X pins σ H s → wi σ H R →
    wpAny (model X.prog X.w) X.A (eval iter X.env) (fun v s1 => wpAny (model X.prog X.w) X.A (pyIter v) (PIE X pins σ tg R) X.xe s1) X.xe s
theorem go_of {M : Model} {A : Around} {E : Value → Shared → Prop} {s : Shared} {tg : Expr} {it : Addr} {u : Value} {o : Obj} {n : String} {vs : Array Value} {Q : Unit → Shared → Prop} (ho : s.heap.get? it = some o) (hc : o.cls = .type n) (hd : o.data = .fields vs)
    (hn : ["enumerate", "zip", "dict_itemiterator", "dict_reverseitemiterator", "odict_iterator", "itertools.zip_longest", "itertools.pairwise"].contains n = false) (hQ : Q () s) : wpAny M A (letOwnedTupleGo tg (.ref it) u) Q E s := by
  unfold letOwnedTupleGo
  cases tg <;> first
    | exact wpAny_pure hQ
    | (cases u <;> first
        | exact wpAny_pure hQ
        | (refine wpAny_bind (wpAny_load ho ?_)
           rw [hc, hd]
           show wpAny M A (if (["enumerate", "zip", "dict_itemiterator", "dict_reverseitemiterator", "odict_iterator", "itertools.zip_longest", "itertools.pairwise"].contains n && vs[0]? == some (rawInt _)) = true then _ else _) Q E s
           rw [if_neg (by intro h; rw [hn, Bool.false_and] at h; cases h)]
           exact wpAny_pure hQ))
def Itl (K : PySem.W.Frag) (a : Addr) : It :=
  ⟨fun i H => ∃ xs x, SqL K H a xs ∧ xs[i]? = some x, fun i H x H' => H' = H ∧ ∀ xs, SqL K H a xs → xs[i]? = some x, fun i H => ∃ xs, SqL K H a xs ∧ xs.length ≤ i⟩
def Itt (K : PySem.W.Frag) (a : Addr) : It :=
  ⟨fun i H => ∃ xs x, SqT K H a xs ∧ xs[i]? = some x, fun i H x H' => H' = H ∧ ∀ xs, SqT K H a xs → xs[i]? = some x, fun i H => ∃ xs, SqT K H a xs ∧ xs.length ≤ i⟩
def Itr (lo : Int) (n : Nat) : It := ⟨fun i _ => i < n, fun i H x H' => H' = H ∧ x = .int (lo + i), fun i _ => n ≤ i⟩
theorem turn_list {P : Program} {w : World} {K : PySem.W.Frag} {tg : Expr} (a it : Addr) : Turn P w K tg (Itl K a) [it] it (fun i h => h.IsListIter it a i) where
  mem := by simp
  obj := fun i h st b hb => by
    have e : b = it := by simpa using hb
    subst e
    obtain ⟨o, e, c, d⟩ := st
    exact ⟨o, e, fun v z => by rw [d] at z; cases z⟩
  keep := fun i h h' st k => st.at fun o e => k it (by simp) o e
  item := by
    intro X hP hw hK hc i pins s σ H E I hf st hg
    subst hP hw hK
    obtain ⟨xs, x, hq, hx⟩ := hg
    obtain ⟨its, rv, p, hz⟩ := I.list hq
    obtain ⟨u, hu, ru⟩ := rv.get hx
    obtain ⟨f0, f1, f2, f3, f4, f5⟩ := hf it (by simp)
    refine wpAny_pyNext_list_item st p.isList (x := u) (by simpa using hu) fun h' st' sb => ?_
    have I1 : Inv X pins σ H { s with heap := h' } := I.turned (t' := s.toks) (fun b o hb e => (sb.2 b hb).trans e) f0 f1 f3 f4 f5
    obtain ⟨o, e, c, d⟩ := id st'
    exact ⟨u, rfl, go_of (s := { s with heap := h' }) e c d (by decide) ⟨x, H, I1, ru, ⟨rfl, fun ys hy => by rw [I.list_inj hy hq]; exact hx⟩, st', fun b hb => (hf b hb).1⟩⟩
  done := by
    intro X hP hw hK hc i pins s σ H E I hf st hg
    subst hP hw hK
    obtain ⟨xs, hq, hx⟩ := hg
    obtain ⟨its, rv, p, hz⟩ := I.list hq
    obtain ⟨f0, f1, f2, f3, f4, f5⟩ := hf it (by simp)
    have hl := rv.length
    exact wpAny_pyNext_list_end (I.ok.hd hc) st p.isList (by simp; omega) fun h' eb => ⟨rfl, I.turned (t' := s.toks) (fun b o hb e => eb b o hb e) f0 f1 f3 f4 f5⟩
  self := fun _ _ _ _ _ st h => wpAny_pyIter_listiter st h
theorem turn_tuple {P : Program} {w : World} {K : PySem.W.Frag} {tg : Expr} (a it : Addr) : Turn P w K tg (Itt K a) [it] it (fun i h => h.IsTupleIter it a i) where
  mem := by simp
  obj := fun i h st b hb => by
    have e : b = it := by simpa using hb
    subst e
    obtain ⟨o, e, c, d⟩ := st
    exact ⟨o, e, fun v z => by rw [d] at z; cases z⟩
  keep := fun i h h' st k => st.at fun o e => k it (by simp) o e
  item := by
    intro X hP hw hK hc i pins s σ H E I hf st hg
    subst hP hw hK
    obtain ⟨xs, x, hq, hx⟩ := hg
    obtain ⟨its, rv, p, hz⟩ := I.tuple hq
    obtain ⟨u, hu, ru⟩ := rv.get hx
    obtain ⟨f0, f1, f2, f3, f4, f5⟩ := hf it (by simp)
    refine wpAny_pyNext_tuple_item st (show s.heap.IsTuple a its.toArray from p) (x := u) (by simpa using hu) fun h' st' sb => ?_
    have I1 : Inv X pins σ H { s with heap := h' } := I.turned (t' := s.toks) (fun b o hb e => (sb.2 b hb).trans e) f0 f1 f3 f4 f5
    obtain ⟨o, e, c, d⟩ := id st'
    exact ⟨u, rfl, go_of (s := { s with heap := h' }) e c d (by decide) ⟨x, H, I1, ru, ⟨rfl, fun ys hy => by rw [I.tuple_inj hy hq]; exact hx⟩, st', fun b hb => (hf b hb).1⟩⟩
  done := by
    intro X hP hw hK hc i pins s σ H E I hf st hg
    subst hP hw hK
    obtain ⟨xs, hq, hx⟩ := hg
    obtain ⟨its, rv, p, hz⟩ := I.tuple hq
    obtain ⟨f0, f1, f2, f3, f4, f5⟩ := hf it (by simp)
    have hl := rv.length
    exact wpAny_pyNext_tuple_end (I.ok.hd hc) st (show s.heap.IsTuple a its.toArray from p) (by simp; omega) fun h' eb => ⟨rfl, I.turned (t' := s.toks) (fun b o hb e => eb b o hb e) f0 f1 f3 f4 f5⟩
  self := fun _ _ _ _ _ st h => wpAny_pyIter_tupleiter st h
theorem turn_range {P : Program} {w : World} {K : PySem.W.Frag} {tg : Expr} (it : Addr) (lo : Int) (n : Nat) : Turn P w K tg (Itr lo n) [it] it (fun i h => IsRangeIter h it (lo + (i : Nat) * 1) ((n : Int) - (i : Nat)) 1) where
  mem := by simp
  obj := fun i h st b hb => by
    have e : b = it := by simpa using hb
    subst e
    exact ⟨_, st, fun v z => by
      have z' : Data.fields _ = Data.cell v := z
      cases z'⟩
  keep := fun i h h' st k => k it (by simp) _ st
  item := by
    intro X hP hw hK hc i pins s σ H E I hf st hg
    subst hP hw hK
    obtain ⟨f0, f1, f2, f3, f4, f5⟩ := hf it (by simp)
    have W := Walks.range (prog := X.prog) (w := X.w) (I.ok.hd hc) it lo 1 n
    refine W.item i s _ _ hg st fun v h' tk hv st' kk => ?_
    obtain ⟨t, rfl⟩ := hv
    have I1 : Inv X pins σ H { s with heap := h', toks := tk } := I.turned (fun b o hb e => kk b o (by simpa using hb) e) f0 f1 f3 f4 f5
    refine ⟨_, rfl, go_of (s := { s with heap := h', toks := tk }) (n := "range_iterator") st' rfl rfl (by decide) ⟨.int (lo + i), H, I1, ⟨t, ?_⟩, ⟨rfl, rfl⟩, st', fun b hb => (hf b hb).1⟩⟩
    rw [Int.mul_one]
  done := by
    intro X hP hw hK hc i pins s σ H E I hf st hg
    subst hP hw hK
    obtain ⟨f0, f1, f2, f3, f4, f5⟩ := hf it (by simp)
    exact wpAny_pyNext_range_end (I.ok.hd hc) st (by have : n ≤ i := hg; omega) fun h' eb => ⟨rfl, I.turned (t' := s.toks) (fun b o hb e => eb b o hb e) f0 f1 f3 f4 f5⟩
  self := fun _ _ _ _ _ st h => wpAny_pyIter_rangeiter st h
end L2
namespace L2
open PySem PySem.Spec PyProof.Rows
section
variable {X : Cx} {tg : Expr}
def iList (K : PySem.W.Frag) (tl : TE) : TI := fun σ H R => tl σ H fun x H1 => ∃ a, x = .ref a ∧ (∃ xs, SqL K H1 a xs) ∧ R (Itl K a) H1
def iTup (K : PySem.W.Frag) (tl : TE) : TI := fun σ H R => tl σ H fun x H1 => ∃ a, x = .ref a ∧ (∃ xs, SqT K H1 a xs) ∧ R (Itt K a) H1
theorem pi_list {l : Expr} {tl : TE} (hl : PE X l tl) : PI X tg l (iList X.K tl) := by
  intro pins s σ H R I h
  refine thn (hl pins s σ H _ I h) fun v s1 ⟨x, H1, I1, r1, q1⟩ => ?_
  obtain ⟨a, e, ⟨xs, hq⟩, q⟩ := q1
  subst e
  cases r1
  obtain ⟨its, rv, p, hz⟩ := I1.list hq
  refine wpAny_pyIter_list p.isList ?_
  refine ⟨s1.heap.objs.size, [s1.heap.objs.size], _, _, H1, rfl, I1.kept (t' := s1.toks) fun b o e => Heap.get?_push_of_some _ e, turn_list a _, ⟨_, Heap.get?_push_size _ rfl, rfl, rfl⟩, fun b hb => ?_, q⟩
  have e : b = s1.heap.objs.size := by simpa using hb
  subst e
  exact I1.fpOk (Nat.le_refl _) (I1.hok.fresh (Nat.le_refl _))
theorem pi_tup {l : Expr} {tl : TE} (hl : PE X l tl) : PI X tg l (iTup X.K tl) := by
  intro pins s σ H R I h
  refine thn (hl pins s σ H _ I h) fun v s1 ⟨x, H1, I1, r1, q1⟩ => ?_
  obtain ⟨a, e, ⟨xs, hq⟩, q⟩ := q1
  subst e
  cases r1
  obtain ⟨its, rv, p, hz⟩ := I1.tuple hq
  refine wpAny_pyIter_tuple (show s1.heap.IsTuple a its.toArray from p) ?_
  refine ⟨s1.heap.objs.size, [s1.heap.objs.size], _, _, H1, rfl, I1.kept (t' := s1.toks) fun b o e => Heap.get?_push_of_some _ e, turn_tuple a _, ⟨_, Heap.get?_push_size _ rfl, rfl, rfl⟩, fun b hb => ?_, q⟩
  have e : b = s1.heap.objs.size := by simpa using hb
  subst e
  exact I1.fpOk (Nat.le_refl _) (I1.hok.fresh (Nat.le_refl _))
theorem range_it {pins : List (Addr × Obj)} {σ : St} {H : Hp} {s : Shared} {R : It → Hp → Prop} {E : Value → Shared → Prop} {lo hi : Int} {t u v : Tok} {tk : Nat} (I : Inv X pins σ H s) (h1 : -(2 ^ 62) ≤ lo) (h2 : lo < 2 ^ 62) (h3 : -(2 ^ 62) ≤ hi) (h4 : hi < 2 ^ 62)
    (q : R (Itr lo (hi - lo).toNat) H) : wpAny (model X.prog X.w) X.A (pyIter (.ref s.heap.objs.size)) (PIE X pins σ tg R) E { s with heap := s.heap.push { cls := .type "range", data := .fields #[.int lo t, .int hi u, .int 1 v] }, toks := tk } := by
  refine wpAny_pyIter_range (IsRange.new ..) (small_one h1 h2 h3 h4) ?_
  have I1 : Inv X pins σ H { s with heap := s.heap.push { cls := .type "range", data := .fields #[.int lo t, .int hi u, .int 1 v] }, toks := tk } := I.kept fun b o e => Heap.get?_push_of_some _ e
  refine ⟨(s.heap.push { cls := .type "range", data := .fields #[.int lo t, .int hi u, .int 1 v] }).objs.size, [(s.heap.push { cls := .type "range", data := .fields #[.int lo t, .int hi u, .int 1 v] }).objs.size], _, _, H, rfl,
    I1.kept (t' := tk) fun b o e => Heap.get?_push_of_some _ e, turn_range _ lo (hi - lo).toNat, ?_, fun b hb => ?_, q⟩
  · have e1 : lo + ((0 : Nat) : Int) * 1 = lo := by simp
    have e2 : (((hi - lo).toNat : Nat) : Int) - ((0 : Nat) : Int) = Builtin.Range.rangeSize lo hi 1 := by rw [rangeSize_one]; split <;> omega
    show IsRangeIter _ _ (lo + ((0 : Nat) : Int) * 1) ((((hi - lo).toNat : Nat) : Int) - ((0 : Nat) : Int)) 1
    rw [e1, e2]
    exact Heap.get?_push_size _ rfl
  · have e : b = (s.heap.push { cls := .type "range", data := .fields #[.int lo t, .int hi u, .int 1 v] }).objs.size := by simpa using hb
    subst e
    exact I1.fpOk (Nat.le_refl _) (I1.hok.fresh (Nat.le_refl _))
def iRng1 (ta : TA) : TI := fun σ H R => ta σ H fun vs H1 => ∃ j : Int, vs = [.int j] ∧ -(2 ^ 62) ≤ j ∧ j < 2 ^ 62 ∧ R (Itr 0 j.toNat) H1
theorem pi_range1 {a : Expr} {ta : TA} {p pos : Pos} (hg : Gl X "range") (hm : X.mg "range" = none) (ha : PA X [a] ta) (hs : starEach [a] X.env = [(false, eval a X.env)] := by rfl) : PI X tg (.Call (.Name "range" p) [a] [] pos) (iRng1 ta) := by
  intro pins s σ H R I h
  refine Call_ (ld_blt I hg hm boot_range (PyProof.Rows.callWith_type1 (thn (ha pos pins s σ H _ I h) fun us s1 ⟨vs, H1, I1, r1, q1⟩ => ?_) hs rfl))
  obtain ⟨j, e, q1, q2, q⟩ := q1
  subst e
  cases r1 with
  | cons r rr =>
    cases rr
    obtain ⟨t, rfl⟩ := r
    exact call_range_1 (range_it I1 (by omega) (by omega) q1 q2 (by simpa using q))
def tFor (wi : TI) (g : TG) (tb : TS) : TS := fun D σ H => wi σ H fun J H1 => ∃ W : Nat → Nat → St → Hp → Prop, (∃ m, W 0 m σ H1) ∧ ∀ i m σ H, W i m σ H →
  (J.stop i H ∧ D.nx σ H) ∨ (J.go i H ∧ ∃ N : St → Hp → Prop, (∀ σ' H', N σ' H' → ∃ m', m' < m ∧ W (i + 1) m' σ' H') ∧ ∀ x H', J.yld i H x H' → g x σ H' fun σ2 H2 => tb { D with nx := N, ct := N, bk := D.nx } σ2 H2)
def pinsAt (fp : List Addr) (h : Heap) : List (Addr × Obj) := fp.filterMap fun b => (h.get? b).map fun o => (b, o)
theorem mem_pinsAt {fp : List Addr} {h : Heap} {b : Addr} {o : Obj} (hb : b ∈ fp) (e : h.get? b = some o) : (b, o) ∈ pinsAt fp h := List.mem_filterMap.mpr ⟨b, hb, by rw [e]; rfl⟩
theorem of_pinsAt {fp : List Addr} {h : Heap} {p : Addr × Obj} (hp : p ∈ pinsAt fp h) : p.1 ∈ fp ∧ h.get? p.1 = some p.2 := by
  obtain ⟨b, hb, e⟩ := List.mem_filterMap.mp hp
  cases q : h.get? b with
  | none => rw [q] at e; cases e
  | some o =>
    rw [q] at e
    have e' : (b, o) = p := Option.some.inj e
    subst e'
    exact ⟨hb, q⟩
theorem Inv.pinned {pins : List (Addr × Obj)} {σ : St} {H : Hp} {s : Shared} {fp : List Addr} (I : Inv X pins σ H s) (hf : ∀ b ∈ fp, FpOk X pins H b) (ho : ∀ b ∈ fp, ∃ o, s.heap.get? b = some o ∧ ∀ v, o.data ≠ .cell v) : Inv X (pins ++ pinsAt fp s.heap) σ H s :=
  I.pins_of fun p hp => (List.mem_append.mp hp).elim (fun z => I.pin p (List.mem_append_right _ z)) fun z => by
    obtain ⟨hb, e⟩ := of_pinsAt z
    obtain ⟨f0, f1, f2, _⟩ := hf p.1 hb
    obtain ⟨o, e', d⟩ := ho p.1 hb
    rw [e] at e'; cases e'
    exact ⟨e, f0, f1, f2, d⟩
theorem Inv.unpinned {pins pl : List (Addr × Obj)} {σ : St} {H : Hp} {s : Shared} (I : Inv X (pins ++ pl) σ H s) : Inv X pins σ H s := I.pins_of fun p hp => I.pin p (List.mem_append_right _ (List.mem_append_left _ hp))
theorem ps_for {iter : Expr} {body : List Stmt} {wi : TI} {g : TG} {tb : TS} {pos : Pos} (hp : PassesOwn (model X.prog X.w) X.A X.env X.xe) (hc : X.calm = true) (hi : PI X tg iter wi) (hg : PG X tg g) (hb : PSs X body tb)
    (hs : ∀ x, foldedSetIterable iter X.env x = pure x := by intro _; rfl) : PS X (.For tg iter body [] pos) (tFor wi g tb) := by
  intro pins s σ H D I h
  refine wpAny_For (thn (hi pins s σ H _ I h) fun v s1 h1 => thn h1 fun itv s2 h2 => ?_) hs
  obtain ⟨it, fp, tn, J, H2, e, I2, T, st2, f2, W, ⟨m0, w0⟩, turn⟩ := h2
  subst e
  have stat : ∀ {H' : Hp}, (∀ b ∈ fp, H' b = none) → ∀ b ∈ fp, FpOk X pins H' b := fun hn b hb => ⟨hn b hb, (f2 b hb).2⟩
  refine codeAny_forLoop_any (fun n s' => ∃ i σ' H', Inv X pins σ' H' s' ∧ tn i s'.heap ∧ (∀ b ∈ fp, H' b = none) ∧ W i n σ' H') ?_ m0 ⟨0, σ, H2, I2, st2, fun b hb => (f2 b hb).1, w0⟩
  rintro n s3 ⟨i, σ3, H3, I3, st3, fr3, w3⟩
  rcases turn i n σ3 H3 w3 with ⟨stop, qn⟩ | ⟨go, N, hN, step⟩
  · refine wpAny_passesOwn hp (thn (T.done X rfl rfl rfl hc i pins s3 σ3 H3 X.xe I3 (stat fr3) st3 stop) fun r s4 ⟨hr, I4⟩ => ?_)
    subst hr
    exact wpAny_execs_nil ⟨σ3, H3, I4, qn⟩
  · refine wpAny_passesOwn hp (thn (T.item X rfl rfl rfl hc i pins s3 σ3 H3 X.xe I3 (stat fr3) st3 go) fun r s4 ⟨u, hr, h4⟩ => ?_)
    subst hr
    refine wpAny_passesOwn hp (thn h4 fun _ s5 ⟨x, H5, I5, r5, y5, st5, fr5⟩ => ?_)
    have I5' := I5.pinned (stat fr5) (T.obj _ _ st5)
    refine wpAny_passesOwn hp (thn (hg _ s5 σ3 H5 x u _ I5' r5 (step x H5 y5)) fun _ s6 ⟨σ6, H6, I6, q6⟩ => ?_)
    refine wpAny_passesOwn hp (thn (hb _ s6 σ6 H6 _ I6 q6) fun f s7 q7 => ?_)
    have again : ∀ {σ7 : St} {H7 : Hp}, Inv X (pins ++ pinsAt fp s5.heap) σ7 H7 s7 → N σ7 H7 → ∃ m, m < n ∧ ∃ i σ' H', Inv X pins σ' H' s7 ∧ tn i s7.heap ∧ (∀ b ∈ fp, H' b = none) ∧ W i m σ' H' := fun {σ7 H7} I7 n7 => by
      obtain ⟨m', hm, w7⟩ := hN σ7 H7 n7
      refine ⟨m', hm, i + 1, σ7, H7, I7.unpinned, T.keep _ _ _ st5 fun b hb o e => (I7.pin (b, o) (List.mem_append_right _ (List.mem_append_right _ (mem_pinsAt hb e)))).1, fun b hb => ?_, w7⟩
      obtain ⟨o, e, d⟩ := T.obj _ _ st5 b hb
      exact (I7.pin (b, o) (List.mem_append_right _ (List.mem_append_right _ (mem_pinsAt hb e)))).2.1
    cases f with
    | next => obtain ⟨σ7, H7, I7, n7⟩ := q7; exact again I7 n7
    | cont => obtain ⟨σ7, H7, I7, n7⟩ := q7; exact again I7 n7
    | brk => obtain ⟨σ7, H7, I7, q7⟩ := q7; exact ⟨σ7, H7, I7.unpinned, q7⟩
    | ret v => obtain ⟨x7, σ7, H7, I7, r7, q7⟩ := q7; exact ⟨x7, σ7, H7, I7.unpinned, r7, q7⟩
end
end L2
namespace L2
open PySem PySem.Spec PyProof.Rows
abbrev R2 := V → V → Hp → VK → Prop
def OpR (X : Cx) (f : Value → Value → Sem Value) (r : R2) : Prop :=
  ∀ (pins : List (Addr × Obj)) (s : Shared) (σ : St) (H : Hp) (x y : V) (v u : Value) (Q : VK), Inv X pins σ H s → RelV x v → RelV y u → r x y H Q →
    wpAny (model X.prog X.w) X.A (f v u) (EP X pins σ Q) X.xe s
def UnR (X : Cx) (f : Value → Sem Value) (r : V → Hp → VK → Prop) : Prop :=
  ∀ (pins : List (Addr × Obj)) (s : Shared) (σ : St) (H : Hp) (x : V) (v : Value) (Q : VK), Inv X pins σ H s → RelV x v → r x H Q →
    wpAny (model X.prog X.w) X.A (f v) (EP X pins σ Q) X.xe s
def CallR (X : Cx) (f : Value) (r : List V → Hp → VK → Prop) : Prop :=
  ∀ (pins : List (Addr × Obj)) (s : Shared) (σ : St) (H : Hp) (xs : List V) (us : List Value) (Q : VK), Inv X pins σ H s → Vals xs us → r xs H Q →
    wpAny (model X.prog X.w) X.A (call f us) (EP X pins σ Q) X.xe s
def tOp (r : R2) (ta tb : TE) : TE := fun σ H Q => ta σ H fun x H1 => tb σ H1 fun y H2 => r x y H2 Q
def tUn (r : V → Hp → VK → Prop) (ta : TE) : TE := fun σ H Q => ta σ H fun x H1 => r x H1 Q
def rI (C : Int → Int → Prop) (g : Int → Int → V) : R2 := fun x y H Q => ∃ i j, x = .int i ∧ y = .int j ∧ C i j ∧ Q (g i j) H
def rI0 (g : Int → Int → V) : R2 := fun x y H Q => ∃ i j, x = .int i ∧ y = .int j ∧ Q (g i j) H
def rU (g : Int → V) : V → Hp → VK → Prop := fun x H Q => ∃ i, x = .int i ∧ Q (g i) H
section
variable {X : Cx} {a b c : Expr} {ta tb tc : TE} {pos : Pos}
theorem binT (ha : PE X a ta) (hb : PE X b tb) {pins : List (Addr × Obj)} {s : Shared} {σ : St} {H : Hp} {R : V → V → Hp → Prop} (I : Inv X pins σ H s)
    (h : ta σ H fun x H1 => tb σ H1 fun y H2 => R x y H2) {Q : Value → Shared → Prop} {f : Value → Value → Sem Value}
    (hf : ∀ v u s2 x y H2, Inv X pins σ H2 s2 → RelV x v → RelV y u → R x y H2 → wpAny (model X.prog X.w) X.A (f v u) Q X.xe s2) :
    wpAny (model X.prog X.w) X.A (eval a X.env) (fun v s₁ => wpAny (model X.prog X.w) X.A (eval b X.env) (fun u s₂ => wpAny (model X.prog X.w) X.A (f v u) Q X.xe s₂) X.xe s₁) X.xe s := by
  refine thn (ha pins s σ H _ I h) fun v s1 ⟨x, H1, I1, r1, q1⟩ => ?_
  refine thn (hb pins s1 σ H1 _ I1 q1) fun u s2 ⟨y, H2, I2, r2, q2⟩ => ?_
  exact hf v u s2 x y H2 I2 r1 r2 q2
theorem pe_op {op : Operator} {r : R2} (ho : OpR X (binaryOp op) r) (ha : PE X a ta) (hb : PE X b tb) : PE X (.BinOp a op b pos) (tOp r ta tb) := by
  intro pins s σ H Q I h
  exact wpAny_BinOp (binT ha hb I h fun v u s2 x y H2 I2 rx ry q => ho pins s2 σ H2 x y v u Q I2 rx ry q)
theorem pe_un {op : UnaryOp} {r : V → Hp → VK → Prop} (ho : UnR X (unaryOp op) r) (ha : PE X a ta) : PE X (.UnaryOp op a pos) (tUn r ta) := by
  intro pins s σ H Q I h
  exact UnaryOp_ (thn (ha pins s σ H _ I h) fun v s1 ⟨x, H1, I1, r1, q1⟩ => ho pins s1 σ H1 x v Q I1 r1 q1)
theorem opI {f : Value → Value → Sem Value} {C : Int → Int → Prop} {g : Int → Int → Int}
    (rule : ∀ (i j : Int) (t u : Tok) (s : Shared) (Q : Value → Shared → Prop) (E : Value → Shared → Prop), C i j → Q (.int (g i j) s.toks) { s with toks := s.toks + 1 } → wpAny (model X.prog X.w) X.A (f (.int i t) (.int j u)) Q E s) :
    OpR X f (rI C fun i j => .int (g i j)) := by
  intro pins s σ H x y v u Q I rx ry h
  obtain ⟨i, j, rfl, rfl, hc, q⟩ := h
  obtain ⟨t, rfl⟩ := rx
  obtain ⟨t', rfl⟩ := ry
  exact rule i j t t' s _ _ hc ⟨.int (g i j), H, I.tok _, ⟨_, rfl⟩, q⟩
theorem opI0 {f : Value → Value → Sem Value} {g : Int → Int → Int}
    (rule : ∀ (i j : Int) (t u : Tok) (s : Shared) (Q : Value → Shared → Prop) (E : Value → Shared → Prop), Q (.int (g i j) s.toks) { s with toks := s.toks + 1 } → wpAny (model X.prog X.w) X.A (f (.int i t) (.int j u)) Q E s) :
    OpR X f (rI0 fun i j => .int (g i j)) := by
  intro pins s σ H x y v u Q I rx ry h
  obtain ⟨i, j, rfl, rfl, q⟩ := h
  obtain ⟨t, rfl⟩ := rx
  obtain ⟨t', rfl⟩ := ry
  exact rule i j t t' s _ _ ⟨.int (g i j), H, I.tok _, ⟨_, rfl⟩, q⟩
theorem opB0 {f : Value → Value → Sem Value} {g : Int → Int → Bool}
    (rule : ∀ (i j : Int) (t u : Tok) (s : Shared) (Q : Value → Shared → Prop) (E : Value → Shared → Prop), Q (.bool (g i j)) s → wpAny (model X.prog X.w) X.A (f (.int i t) (.int j u)) Q E s) :
    OpR X f (rI0 fun i j => .bl (g i j)) := by
  intro pins s σ H x y v u Q I rx ry h
  obtain ⟨i, j, rfl, rfl, q⟩ := h
  obtain ⟨t, rfl⟩ := rx
  obtain ⟨t', rfl⟩ := ry
  exact rule i j t t' s _ _ ⟨.bl (g i j), H, I, rfl, q⟩
def CPow (i j : Int) : Prop := 0 ≤ j ∧ j ≤ 1000000 ∧ i.natAbs < 2 ^ 64
def CMul (i j : Int) : Prop := (-(2 ^ 64) < i ∧ i < 2 ^ 64) ∨ (-(2 ^ 64) < j ∧ j < 2 ^ 64)
theorem CMul.ok {i j : Int} (h : CMul i j) : IntMulOk i j := by
  rcases h with ⟨h1, h2⟩ | ⟨h1, h2⟩
  · exact .of_left (intBits_le_64 h1 h2)
  · exact .of_right (intBits_le_64 h1 h2)
theorem op_add : OpR X (binaryOp .Add) (rI0 fun i j => .int (i + j)) := opI0 fun _ _ _ _ _ _ _ q => add_int q
theorem op_sub : OpR X (binaryOp .Sub) (rI0 fun i j => .int (i - j)) := opI0 fun _ _ _ _ _ _ _ q => sub_int q
theorem op_mul : OpR X (binaryOp .Mult) (rI CMul fun i j => .int (i * j)) := opI fun _ _ _ _ _ _ _ hc q => mul_int q hc.ok
theorem op_mod : OpR X (binaryOp .Mod) (rI (fun _ j => 0 < j) fun i j => .int (i % j)) := opI fun i j _ _ _ _ _ hc q => by
  have h1 : (0 : Int) < j := hc
  exact mod_int' (by omega) (by rw [Int.fmod_eq_emod_of_nonneg i (by omega)]; exact q)
theorem op_pow : OpR X (binaryOp .Pow) (rI CPow fun i j => .int (i ^ j.toNat)) := opI fun _ _ _ _ _ _ _ hc q => pow_int_small hc.1 hc.2.1 hc.2.2 q
theorem unI {f : Value → Sem Value} {g : Int → Int}
    (rule : ∀ (i : Int) (t : Tok) (s : Shared) (Q : Value → Shared → Prop) (E : Value → Shared → Prop), Q (.int (g i) s.toks) { s with toks := s.toks + 1 } → wpAny (model X.prog X.w) X.A (f (.int i t)) Q E s) :
    UnR X f (rU fun i => .int (g i)) := by
  intro pins s σ H x v Q I rx h
  obtain ⟨i, rfl, q⟩ := h
  obtain ⟨t, rfl⟩ := rx
  exact rule i t s _ _ ⟨.int (g i), H, I.tok _, ⟨_, rfl⟩, q⟩
theorem un_neg : UnR X (unaryOp .USub) (rU fun i => .int (-i)) := unI fun _ _ _ _ _ q => neg_int q
end
def scal : V → V → Bool
  | .non, .non => true | .non, .int _ => true | .int _, .non => true | .non, .bl _ => true | .bl _, .non => true | .non, .str _ => true | .str _, .non => true
  | .int _, .int _ => true | .bl _, .bl _ => true | .str _, .str _ => true | .byt _, .byt _ => true
  | .int _, .str _ => true | .str _, .int _ => true | .bl _, .str _ => true | .str _, .bl _ => true
  | _, _ => false
def rEq : R2 := fun x y H Q => scal x y = true ∧ Q (.bl (decide (x = y))) H
def rNe : R2 := fun x y H Q => scal x y = true ∧ Q (.bl (!decide (x = y))) H
theorem dec_int {i j : Int} : decide (V.int i = V.int j) = (i == j) := by
  rw [Bool.eq_iff_iff]
  simp
theorem dec_bl {i j : Bool} : decide (V.bl i = V.bl j) = (i == j) := by
  rw [Bool.eq_iff_iff]
  simp
theorem dec_str {i j : Str} : decide (V.str i = V.str j) = (i == j) := by
  rw [Bool.eq_iff_iff]
  simp
theorem dec_byt {i j : Array UInt8} : decide (V.byt i = V.byt j) = (i.toList == j.toList) := by
  rw [Bool.eq_iff_iff]
  cases i
  cases j
  simp
section
variable {X : Cx} {a b c : Expr} {ta tb tc : TE} {pos : Pos}
theorem fin_bl {pins : List (Addr × Obj)} {σ : St} {H : Hp} {s : Shared} {Q : VK} {k k' : Bool} (I : Inv X pins σ H s) (q : Q (.bl k) H) (e : k = k') : EP X pins σ Q (.bool k') s := by
  subst e
  exact ⟨.bl k, H, I, rfl, q⟩
theorem op_eq : OpR X (compareOp .Eq) rEq := by
  intro pins s σ H x y v u Q I rx ry h
  obtain ⟨hs, q⟩ := h
  cases x with
  | non =>
    cases rx
    cases y with
    | non => cases ry; exact PySem.EqNone.eq_none_none (fin_bl I q (by simp))
    | bl j => cases ry; exact PySem.EqNone.eq_none_bool (fin_bl I q (by simp))
    | int j => obtain ⟨t', rfl⟩ := ry; exact PySem.EqNone.eq_none_int (fin_bl I q (by simp))
    | str j => obtain ⟨t', rfl⟩ := ry; exact PySem.EqNone.eq_none_str (fin_bl I q (by simp))
    | _ => exact absurd (show false = true from hs) Bool.false_ne_true
  | bl i =>
    cases rx
    cases y with
    | non => cases ry; exact PySem.EqNone.eq_bool_none (fin_bl I q (by simp))
    | bl j => cases ry; exact eq_bool (fin_bl I q dec_bl)
    | str j => obtain ⟨t', rfl⟩ := ry; exact PySem.EqMixed.eq_bool_str (fin_bl I q (by simp))
    | _ => exact absurd (show false = true from hs) Bool.false_ne_true
  | int i =>
    obtain ⟨t, rfl⟩ := rx
    cases y with
    | non => cases ry; exact PySem.EqNone.eq_int_none (fin_bl I q (by simp))
    | int j => obtain ⟨t', rfl⟩ := ry; exact eq_int (fin_bl I q dec_int)
    | str j => obtain ⟨t', rfl⟩ := ry; exact PySem.EqMixed.eq_int_str (fin_bl I q (by simp))
    | _ => exact absurd (show false = true from hs) Bool.false_ne_true
  | str i =>
    obtain ⟨t, rfl⟩ := rx
    cases y with
    | non => cases ry; exact PySem.EqNone.eq_str_none (fin_bl I q (by simp))
    | bl j => cases ry; exact PySem.EqMixed.eq_str_bool (fin_bl I q (by simp))
    | int j => obtain ⟨t', rfl⟩ := ry; exact PySem.EqMixed.eq_str_int (fin_bl I q (by simp))
    | str j => obtain ⟨t', rfl⟩ := ry; exact eq_str (fin_bl I q dec_str)
    | _ => exact absurd (show false = true from hs) Bool.false_ne_true
  | byt i =>
    obtain ⟨t, rfl⟩ := rx
    cases y with
    | byt j => obtain ⟨t', rfl⟩ := ry; exact PySem.W.eq_bytes (fin_bl I q dec_byt)
    | _ => exact absurd (show false = true from hs) Bool.false_ne_true
  | _ => cases y <;> exact absurd (show false = true from hs) Bool.false_ne_true
theorem op_ne : OpR X (compareOp .NotEq) rNe := by
  intro pins s σ H x y v u Q I rx ry h
  obtain ⟨hs, q⟩ := h
  cases x with
  | non =>
    cases rx
    cases y with
    | non => cases ry; exact PySem.EqNone.ne_none_none (fin_bl I q (by simp))
    | bl j => cases ry; exact PySem.EqNone.ne_none_bool (fin_bl I q (by simp))
    | int j => obtain ⟨t', rfl⟩ := ry; exact PySem.EqNone.ne_none_int (fin_bl I q (by simp))
    | str j => obtain ⟨t', rfl⟩ := ry; exact PySem.EqNone.ne_none_str (fin_bl I q (by simp))
    | _ => exact absurd (show false = true from hs) Bool.false_ne_true
  | bl i =>
    cases rx
    cases y with
    | non => cases ry; exact PySem.EqNone.ne_bool_none (fin_bl I q (by simp))
    | bl j => cases ry; exact ne_bool (fin_bl I q (congrArg not dec_bl))
    | str j => obtain ⟨t', rfl⟩ := ry; exact PySem.EqMixed.ne_bool_str (fin_bl I q (by simp))
    | _ => exact absurd (show false = true from hs) Bool.false_ne_true
  | int i =>
    obtain ⟨t, rfl⟩ := rx
    cases y with
    | non => cases ry; exact PySem.EqNone.ne_int_none (fin_bl I q (by simp))
    | int j => obtain ⟨t', rfl⟩ := ry; exact ne_int (fin_bl I q (congrArg not dec_int))
    | str j => obtain ⟨t', rfl⟩ := ry; exact PySem.EqMixed.ne_int_str (fin_bl I q (by simp))
    | _ => exact absurd (show false = true from hs) Bool.false_ne_true
  | str i =>
    obtain ⟨t, rfl⟩ := rx
    cases y with
    | non => cases ry; exact PySem.EqNone.ne_str_none (fin_bl I q (by simp))
    | bl j => cases ry; exact PySem.EqMixed.ne_str_bool (fin_bl I q (by simp))
    | int j => obtain ⟨t', rfl⟩ := ry; exact PySem.EqMixed.ne_str_int (fin_bl I q (by simp))
    | str j => obtain ⟨t', rfl⟩ := ry; exact ne_str (fin_bl I q (congrArg not dec_str))
    | _ => exact absurd (show false = true from hs) Bool.false_ne_true
  | byt i =>
    obtain ⟨t, rfl⟩ := rx
    cases y with
    | byt j => obtain ⟨t', rfl⟩ := ry; exact PySem.W.ne_bytes (fin_bl I q (congrArg not dec_byt))
    | _ => exact absurd (show false = true from hs) Bool.false_ne_true
  | _ => cases y <;> exact absurd (show false = true from hs) Bool.false_ne_true
theorem op_lt : OpR X (compareOp .Lt) (rI0 fun i j => .bl (decide (i < j))) := opB0 fun _ _ _ _ _ _ _ q => lt_int q
theorem op_gt : OpR X (compareOp .Gt) (rI0 fun i j => .bl (decide (j < i))) := opB0 fun _ _ _ _ _ _ _ q => gt_int q
theorem op_ge : OpR X (compareOp .GtE) (rI0 fun i j => .bl (decide (j ≤ i))) := opB0 fun _ _ _ _ _ _ _ q => ge_int q
theorem op_isN : OpR X (compareOp .Is) (fun x y H Q => y = .non ∧ Q (.bl (decide (x = .non))) H) := by
  intro pins s σ H x y v u Q I rx ry h
  obtain ⟨rfl, q⟩ := h
  cases ry
  refine is_none_gen (fin_bl I q ?_)
  cases x <;> first
    | (cases rx; rfl)
    | (obtain ⟨t, rfl⟩ := rx; rfl)
theorem OpR.or {f : Value → Value → Sem Value} {r r' : R2} (h : OpR X f r) (h' : OpR X f r') : OpR X f (fun x y H Q => r x y H Q ∨ r' x y H Q) := by
  intro pins s σ H x y v u Q I rx ry q
  rcases q with q | q
  · exact h pins s σ H x y v u Q I rx ry q
  · exact h' pins s σ H x y v u Q I rx ry q
theorem nomark (b : Expr) {op : CmpOp} (h : op ≠ .In := by decide) (h2 : op ≠ .NotIn := by decide) : behindInMarks op b = false := by
  have e1 : (op == CmpOp.In) = false := by cases op <;> first | rfl | exact absurd rfl h
  have e2 : (op == CmpOp.NotIn) = false := by cases op <;> first | rfl | exact absurd rfl h2
  cases b <;> simp [behindInMarks, e1, e2]
theorem pe_cmpR {op : CmpOp} {r : R2} (ho : OpR X (compareOp op) r) (ha : PE X a ta) (hb : PE X b tb) (hm : behindInMarks op b = false) : PE X (.Compare a [op] [b] pos) (tOp r ta tb) := by
  intro pins s σ H Q I h
  exact wpAny_Compare1 (binT ha hb I h fun v u s2 x y H2 I2 rx ry q => ho pins s2 σ H2 x y v u Q I2 rx ry q) hm
def tTest (t : TE) : TT := fun σ H Q => t σ H fun x H' => ∃ k, x = .bl k ∧ Q k H'
theorem pt_cmpR {op : CmpOp} {r : R2} (ho : OpR X (compareOp op) r) (ha : PE X a ta) (hb : PE X b tb) (hm : behindInMarks op b = false) : PT X (.Compare a [op] [b] pos) (tTest (tOp r ta tb)) := by
  intro pins s σ H Q I h
  refine wpAny_isTrue_Compare1 (thn (ha pins s σ H _ I h) fun v s1 ⟨x, H1, I1, r1, q1⟩ => thn (hb pins s1 σ H1 _ I1 q1) fun u s2 ⟨y, H2, I2, r2, q2⟩ =>
    thn (ho pins s2 σ H2 x y v u _ I2 r1 r2 q2) fun c s3 ⟨z, H3, I3, r3, k, e, q3⟩ => ?_) hm
  subst e
  cases r3
  exact wpAny_truthy_bool ⟨H3, I3, q3⟩
theorem line63 : (sizeLine : Nat) < 2 ^ 63 := by rw [sizeLine_eq]; decide
theorem op_add_str : OpR X (binaryOp .Add) (fun x y H Q => ∃ i j, x = .str i ∧ y = .str j ∧ i.length + j.length ≤ sizeLine ∧ Q (.str (i ++ j)) H) := by
  intro pins s σ H x y v u Q I rx ry h
  obtain ⟨i, j, rfl, rfl, hz, q⟩ := h
  obtain ⟨t, rfl⟩ := rx
  obtain ⟨t', rfl⟩ := ry
  exact add_str (fun t' tk => ⟨.str (i ++ j), H, I.tok _, ⟨_, rfl⟩, q⟩) hz
theorem vals1 {x : V} {us : List Value} (r : Vals [x] us) : ∃ u, us = [u] ∧ RelV x u := by
  cases r with
  | cons r1 r2 => cases r2; exact ⟨_, rfl, r1⟩
theorem vals2 {x y : V} {us : List Value} (r : Vals [x, y] us) : ∃ u w', us = [u, w'] ∧ RelV x u ∧ RelV y w' := by
  cases r with
  | cons r1 r2 =>
    cases r2 with
    | cons r3 r4 => cases r4; exact ⟨_, _, rfl, r1, r3⟩
end
end L2
namespace L2
open PySem PySem.Spec PyProof.Rows
structure ObjM (h : Heap) (x dx C : Addr) (mA : Str → Option Value) : Prop where
  obj : h.get? x = some (PySem.W.instObj C dx)
  ns : h.Ns1 dx mA
  ne : dx ≠ x
theorem lookIn_ns {h : Heap} {dx : Addr} {mA : Str → Option Value} (n : h.Ns1 dx mA) : ∃ od, h.get? dx = some od ∧ ∀ name, PySem.W.lookIn name od = some (mA name) := by
  obtain ⟨o, es, ep, ho, hd, hk, _, hm⟩ := n
  refine ⟨o, ho, fun name => ?_⟩
  have e := hm name
  unfold nsFind findBy at e
  rw [← Array.find?_toList] at e
  unfold PySem.W.lookIn
  rw [hd]
  dsimp only
  split
  · rename_i y q
    rw [q] at e
    exact congrArg some e
  · rename_i q
    rw [q] at e
    have a : es.toList.any (·.refKey) = false := by
      rw [List.any_eq_false]
      intro y hy
      obtain ⟨z, t, hkey⟩ := hk y (Array.mem_toList_iff.mp hy)
      simp [DictEntry.refKey, hkey]
    have a' : ¬ es.toList.any (·.refKey) = true := by rw [a]; exact Bool.false_ne_true
    rw [if_neg a']
    exact congrArg some e
theorem ObjM.look {h : Heap} {x dx C : Addr} {mA : Str → Option Value} (I : ObjM h x dx C mA) : ∃ od, PySem.W.InstAt h x (PySem.W.instObj C dx) C (some od) ∧ ∀ name, PySem.W.lookIn name od = some (mA name) :=
  let ⟨od, ho, hl⟩ := lookIn_ns I.ns
  ⟨od, ⟨I.obj, rfl, rfl, ho⟩, hl⟩
section
variable {prog : Program} {w : World} {A : Around} {E : Value → Shared → Prop} {s : Shared} {K : PySem.W.Frag} {x dx C f : Addr} {mA : Str → Option Value} {name : Str} {v : Value}
theorem get_map {expr : Bool} {Q : Value → Shared → Prop} (X : K.In s.heap) (I : ObjM s.heap x dx C mA) (hg : PySem.W.plainGet K C name = true) (hh : PySem.W.hasDictIn K C = true)
    (ha : PySem.W.findIn K (.ref C) name = some none) (hv : mA name = some v) (hv' : PySem.W.handedIn v = true) (h : Q v { s with toks := s.toks + 1 }) :
    wpAny (model prog w) A (getAttr (.ref x) name expr) Q E s := by
  obtain ⟨od, J, hl⟩ := I.look
  exact PySem.W.get_value X J (PySem.W.plainGet_of hg).1 (PySem.W.findObj_own hh ha rfl (by rw [hl, hv])) hv' h
theorem get_meth {pl : Sem Bool} {Q : Value × List Value → Shared → Prop} (X : K.In s.heap) (I : ObjM s.heap x dx C mA) (hg : PySem.W.plainGet K C name = true)
    (hf : PySem.W.findIn K (.ref C) name = some (some (.ref f))) (ht : PySem.W.isFn K (.ref f) = true) (hv : mA name = none) (h : Q (.ref f, [.ref x]) s) :
    wpAny (model prog w) A (getMethod (.ref x) name pl) Q E s := by
  obtain ⟨od, J, hl⟩ := I.look
  exact PySem.W.method_fn X J (PySem.W.plainGet_of hg).1 (PySem.W.plainGet_of hg).2 hf (beq_iff_eq.mp ht) (by show (PySem.W.lookIn name od).map (·.isSome) = some false; rw [hl, hv]; rfl) h
theorem set_map {ns : List Str} {Q : Unit → Shared → Prop} (X : K.In s.heap) (I : ObjM s.heap x dx C mA)
    (hs : PySem.W.findIn K (.ref C) "__setattr__" = some (some (.builtin "object.__setattr__"))) (hp : PySem.W.plainOver K C = true) (ht : PySem.W.takerIn K C name = some none) (hh : PySem.W.hasDictIn K C = true)
    (hw : PySem.Within mA ns) (hsz : ns.length ≤ sizeLine)
    (h : ∀ h', ObjM h' x dx C (fun y => if y = name then some v else mA y) → Heap.SameBut dx s.heap h' → Q () { s with heap := h', toks := s.toks + 2 }) :
    wpAny (model prog w) A (setAttr (.ref x) name v) Q E s := by
  obtain ⟨od, J, hl⟩ := I.look
  refine PySem.W.set_plain X J hs (PySem.W.osa_open (s := { s with toks := s.toks + 1 }) (r := none) X J hp ht fun b => ?_)
  obtain ⟨cd, hc, hd'⟩ := PySem.W.any_some hh
  have hx : s.heap.get? x = some ⟨.ref C, some dx, .plain, #[]⟩ := I.obj
  refine wpAny_bind (wpAny_pure (wpAny_bind (wpAny_bind (wpAny_loadPart hx (wpAny_bind (PySem.W.Looks.here (s := { s with toks := s.toks + 1 }) (PySem.W.looks_clsIn X hc) ?_))))))
  rw [hd']
  refine wpAny_pure (a := some dx) (wpAny_bind (wpAny_pure (wpAny_bind ?_)))
  refine wpAny_nsSet1 (s := { s with toks := s.toks + 1 }) I.ns fun h' hn2 hs2 => ?_
  obtain ⟨oD, esD, epD, hoD, hdD, hcD⟩ := hn2.count (PySem.Within.cons name v hw)
  refine wpAny_bind (wpAny_lookBehind hoD (by rw [hdD]; exact pastItsLine_dict (Nat.le_trans hcD (by rw [List.length_cons]; omega))) ?_)
  exact wpAny_pure (h _ ⟨(hs2.2 _ (Ne.symm I.ne)).trans I.obj, hn2, I.ne⟩ hs2)
theorem make_map {R : Result → Shared → Prop} {vs : List Value} {kw : List (Str × Value)} (X : K.In s.heap) (hm : PySem.W.makesIn K C = true)
    (hi : PySem.W.findIn K (.ref C) "__init__" = some (some (.ref f))) (hf : PySem.W.typeIn K (.ref f) = some (.type "function"))
    (h : codeAny (model prog w) (A.under (.builtin "type.__call__" ⟨.ref C :: vs, kw⟩)) (.call (.ref f) ⟨.ref (s.heap.objs.size + 1) :: vs, kw⟩) (PySem.W.InitBack (s.heap.objs.size + 1) R)
      { s with heap := (s.heap.push PySem.W.emptyDict).push (PySem.W.instObj C s.heap.objs.size) }) :
    codeAny (model prog w) A (.call (.ref C) ⟨vs, kw⟩) R s := by
  obtain ⟨hh, g, d, t, os⟩ := s
  exact PySem.W.make_core (PySem.W.makes_of X hm) (PySem.W.looks_findIn X hi) (fun self => PySem.W.bind_fn X self hf) (.inl rfl) h
end
def putF (f : Str) (v : V) : List (Str × V) → List (Str × V)
  | [] => [(f, v)]
  | (g, x) :: r => if g = f then (g, v) :: r else (g, x) :: putF f v r
theorem lookup_putF (f g : Str) (v : V) : ∀ fs : List (Str × V), (putF f v fs).lookup g = if g = f then some v else fs.lookup g
  | [] => by
    show List.lookup g [(f, v)] = _
    by_cases h : g = f
    · have hb : (g == f) = true := beq_iff_eq.mpr h
      simp only [List.lookup, hb, if_pos h]
    · have hb : (g == f) = false := beq_eq_false_iff_ne.mpr h
      simp only [List.lookup, hb, if_neg h]
  | (k, x) :: r => by
    have ih := lookup_putF f g v r
    rw [show putF f v ((k, x) :: r) = (if k = f then (k, v) :: r else (k, x) :: putF f v r) from rfl]
    by_cases hk : k = f
    · rw [if_pos hk]
      by_cases h : g = k
      · have hb : (g == k) = true := beq_iff_eq.mpr h
        simp only [List.lookup, hb, if_pos (h.trans hk)]
      · have hb : (g == k) = false := beq_eq_false_iff_ne.mpr h
        simp only [List.lookup, hb, if_neg (fun e : g = f => h (e.trans hk.symm))]
    · rw [if_neg hk]
      by_cases h : g = k
      · have hb : (g == k) = true := beq_iff_eq.mpr h
        simp only [List.lookup, hb, if_neg (fun e : g = f => hk (h.symm.trans e))]
      · have hb : (g == k) = false := beq_eq_false_iff_ne.mpr h
        simp only [List.lookup, hb]
        exact ih
theorem keys_putF (f : Str) (v : V) : ∀ fs : List (Str × V), f ∈ (putF f v fs).map (·.1) ∧ ∀ g, g ∈ fs.map (·.1) → g ∈ (putF f v fs).map (·.1)
  | [] => ⟨by simp [putF], fun g h => by simp at h⟩
  | (k, x) :: r => by
    obtain ⟨i1, i2⟩ := keys_putF f v r
    rw [show putF f v ((k, x) :: r) = (if k = f then (k, v) :: r else (k, x) :: putF f v r) from rfl]
    by_cases hk : k = f
    · rw [if_pos hk]
      subst hk
      exact ⟨by simp, fun g h => by simpa using h⟩
    · rw [if_neg hk]
      refine ⟨?_, fun g h => ?_⟩
      · rw [List.map_cons]
        exact List.mem_cons_of_mem _ i1
      · rw [List.map_cons] at h ⊢
        rcases List.mem_cons.mp h with e | e
        · exact List.mem_cons.mpr (.inl e)
        · exact List.mem_cons_of_mem _ (i2 g e)
theorem length_putF (f : Str) (v : V) : ∀ fs : List (Str × V), (putF f v fs).length ≤ fs.length + 1
  | [] => by simp [putF]
  | (k, x) :: r => by
    have ih := length_putF f v r
    rw [show putF f v ((k, x) :: r) = (if k = f then (k, v) :: r else (k, x) :: putF f v r) from rfl]
    by_cases hk : k = f
    · rw [if_pos hk, List.length_cons, List.length_cons]; omega
    · rw [if_neg hk, List.length_cons, List.length_cons]; omega
theorem RelO.some_of {v : V} {o : Option Value} (r : RelO (some v) o) : ∃ u, o = some u ∧ RelV v u := by
  cases o with
  | none => exact (show False from r).elim
  | some u => exact ⟨u, rfl, r⟩
theorem RelO.none_of {o : Option Value} (r : RelO none o) : o = none := by
  cases o with
  | none => rfl
  | some u => exact (show False from r).elim
theorem handed_of {v : V} {u : Value} (r : RelV v u) : PySem.W.handedIn u = true := by
  cases v with
  | non => cases (show u = Value.none from r); rfl
  | bl b => cases (show u = Value.bool b from r); rfl
  | int i => obtain ⟨t, e⟩ := (show ∃ t, u = Value.int i t from r); cases e; rfl
  | str x => obtain ⟨t, e⟩ := (show ∃ t, u = Value.str x t from r); cases e; rfl
  | byt b => obtain ⟨t, e⟩ := (show ∃ t, u = Value.bytes b t from r); cases e; rfl
  | flt b => obtain ⟨t, e⟩ := (show ∃ t, u = Value.float b t from r); cases e; rfl
  | ref a => cases (show u = Value.ref a from r); rfl
  | ty n => cases (show u = Value.type n from r); rfl
section
variable {P : Program} {w : World} {H H' : Hp} {h h' : Heap} {a C dx : Addr} {fs fs' : List (Str × V)}
theorem ins_get (hok : HOk P w H h) (e : H a = some (.ins C dx fs)) : ∃ mA, ObjM h a dx C mA ∧ (∀ f, RelO (fs.lookup f) (mA f)) ∧ PySem.Within mA (fs.map (·.1)) ∧ fs.length ≤ 1000 ∧ H dx = some (.own a) := by
  obtain ⟨d, z, ne, ob, mA, n, r, q⟩ := (show ObjOk P w H h a (.ins C dx fs) from hok a _ e)
  exact ⟨mA, ⟨ob, n, ne⟩, r, q, z, d⟩
end
structure Cls (K : PySem.W.Frag) (C : Addr) : Prop where
  pg : PySem.W.plainGet K C Str.empty = true
  hd : PySem.W.hasDictIn K C = true
  po : PySem.W.plainOver K C = true
  sa : PySem.W.findIn K (.ref C) "__setattr__" = some (some (.builtin "object.__setattr__"))
theorem Cls.get {K : PySem.W.Frag} {C : Addr} (c : Cls K C) (f : Str) : PySem.W.plainGet K C f = true := c.pg
def NoAttr (K : PySem.W.Frag) (C : Addr) (f : Str) : Prop := PySem.W.findIn K (.ref C) f = some none
theorem NoAttr.taker {K : PySem.W.Frag} {C : Addr} {f : Str} (n : NoAttr K C f) : PySem.W.takerIn K C f = some none := by
  unfold PySem.W.takerIn
  rw [show PySem.W.findIn K (.ref C) f = some none from n]
  rfl
structure Meth (K : PySem.W.Frag) (C : Addr) (m : Str) (f : Addr) : Prop where
  at_ : PySem.W.findIn K (.ref C) m = some (some (.ref f))
  fn : PySem.W.isFn K (.ref f) = true
  kp : PySem.W.keepIn K (.ref f) = true
section
variable {X : Cx} {pins : List (Addr × Obj)} {σ : St} {H : Hp} {s : Shared} {a C dx : Addr} {fs : List (Str × V)} {f : Str} {v : V} {A : Around} {E : Value → Shared → Prop}
theorem getattr_ok {b : Bool} {Q : Value → Shared → Prop} (I : Inv X pins σ H s) (e : H a = some (.ins C dx fs)) (c : Cls X.K C) (n : NoAttr X.K C f) (l : fs.lookup f = some v)
    (h : ∀ u s', Inv X pins σ H s' → RelV v u → Q u s') : wpAny (model X.prog X.w) A (getAttr (.ref a) f b) Q E s := by
  obtain ⟨mA, O, r, _, _, _⟩ := ins_get I.hok e
  obtain ⟨u, hu, ru⟩ := RelO.some_of (v := v) (o := mA f) (by rw [← l]; exact r f)
  exact get_map I.kIn O (c.get f) c.hd n hu (handed_of ru) (h u _ (I.tok _) ru)
theorem getmeth_ok {m : Str} {g : Addr} {pl : Sem Bool} {Q : Value × List Value → Shared → Prop} (I : Inv X pins σ H s) (e : H a = some (.ins C dx fs)) (c : Cls X.K C) (k : Meth X.K C m g) (l : fs.lookup m = none)
    (h : Q (.ref g, [.ref a]) s) : wpAny (model X.prog X.w) A (getMethod (.ref a) m pl) Q E s := by
  obtain ⟨mA, O, r, _, _, _⟩ := ins_get I.hok e
  have hn : mA m = none := RelO.none_of (by rw [← l]; exact r m)
  exact get_meth I.kIn O (c.get m) k.at_ k.fn hn h
theorem setattr_ok {y : V} {u : Value} {Q : Unit → Shared → Prop} (I : Inv X pins σ H s) (e : H a = some (.ins C dx fs)) (c : Cls X.K C) (n : NoAttr X.K C f) (hl : fs.length < 1000) (ry : RelV y u)
    (h : ∀ s', Inv X pins σ (upd H a (.ins C dx (putF f y fs))) s' → Q () s') : wpAny (model X.prog X.w) A (setAttr (.ref a) f u) Q E s := by
  obtain ⟨mA, O, r, wi, _, ho⟩ := ins_get I.hok e
  have hz : (fs.map (·.1)).length ≤ sizeLine := by rw [List.length_map, sizeLine_eq]; omega
  refine set_map I.kIn O c.sa c.po n.taker c.hd wi hz fun h' O' sb => h _ ?_
  have hd : ∃ o, h'.get? dx = some o := let ⟨o, _, _, e', _⟩ := O'.ns; ⟨o, e'⟩
  refine I.write (x := a) (e := dx) (by rw [e]; exact True.intro) (.inr ho) (fun b q hb z => (sb.2 b hb).trans z) hd ?_
  refine ⟨by rw [upd_ne O.ne]; exact ho, ?_, O.ne, O'.obj, _, O'.ns, fun g => ?_, fun g hg => ?_⟩
  · have := length_putF f y fs; omega
  · show RelO ((putF f y fs).lookup g) (if g = f then some u else mA g)
    rw [lookup_putF]
    by_cases q : g = f
    · rw [if_pos q, if_pos q]; exact ry
    · rw [if_neg q, if_neg q]; exact r g
  · by_cases q : g = f
    · rw [q]; exact (keys_putF f y fs).1
    · refine (keys_putF f y fs).2 g (wi g fun z => hg ?_)
      show (if g = f then some u else mA g) = none
      rw [if_neg q]; exact z
theorem Inv.made (I : Inv X pins σ H s) : Inv X pins σ (upd (upd H s.heap.objs.size (.own (s.heap.objs.size + 1))) (s.heap.objs.size + 1) (.ins C s.heap.objs.size []))
    { s with heap := (s.heap.push PySem.W.emptyDict).push (PySem.W.instObj C s.heap.objs.size) } := by
  have e1 : (s.heap.push PySem.W.emptyDict).get? s.heap.objs.size = some PySem.W.emptyDict := Heap.get?_push_size s.heap rfl
  have e2 : ((s.heap.push PySem.W.emptyDict).push (PySem.W.instObj C s.heap.objs.size)).get? (s.heap.objs.size + 1) = some (PySem.W.instObj C s.heap.objs.size) := by
    have := Heap.get?_push_size (s.heap.push PySem.W.emptyDict) (o := PySem.W.instObj C s.heap.objs.size) rfl
    rwa [Heap.size_push] at this
  have e3 : (s.heap.push PySem.W.emptyDict).Ns s.heap.objs.size (fun _ => none) := ⟨PySem.W.emptyDict, #[], _, e1, rfl, (fun e he => absurd he (by simp)), fun _ => rfl⟩
  have I1 := I.laid (a := s.heap.objs.size) (o := .own (s.heap.objs.size + 1)) (h' := s.heap.push PySem.W.emptyDict) (t' := s.toks) (fun b u q => Heap.get?_push_of_some _ q) (Nat.le_refl _) ⟨_, e1⟩
  refine I1.laid (a := s.heap.objs.size + 1) (o := .ins C s.heap.objs.size []) (t' := s.toks) (fun b u q => Heap.get?_push_of_some _ q) (Nat.le_of_eq (Heap.size_push _ _)) ?_
  have ne : s.heap.objs.size ≠ s.heap.objs.size + 1 := Nat.ne_of_lt (Nat.lt_succ_self _)
  refine ⟨by rw [upd_ne ne, upd_same], Nat.zero_le _, ne, e2, fun _ => none, (Heap.Ns1.of_empty e3).at fun o q => Heap.get?_push_of_some _ q, fun _ => True.intro, fun y hy => absurd rfl hy⟩
theorem attr_of {prog : Program} {w : World} {env : Env} {e : Expr} {f : Str} {pos : Pos} {s : Shared} {Q : Value → Shared → Prop} (hb : attributeBase e f env (eval e env) = eval e env)
    (h : wpAny (model prog w) A (eval e env) (fun o s₁ => wpAny (model prog w) A (getAttr o f true) Q E s₁) E s) : wpAny (model prog w) A (eval (.Attribute e f pos) env) Q E s :=
  Attribute_any_ h (by rw [arm_eval_Attribute, hb])
end
def tFld (K : PySem.W.Frag) (ta : TE) (f : Str) : TE := fun σ H Q => ta σ H fun x H1 => ∃ a C dx fs v, x = .ref a ∧ H1 a = some (.ins C dx fs) ∧ Cls K C ∧ NoAttr K C f ∧ fs.lookup f = some v ∧ Q v H1
def sFld (K : PySem.W.Frag) (ta tv : TE) (f : Str) : TS := fun D σ H => tv σ H fun y H1 => ta σ H1 fun x H2 => ∃ a C dx fs, x = .ref a ∧ H2 a = some (.ins C dx fs) ∧ Cls K C ∧ NoAttr K C f ∧ fs.length < 1000 ∧
  D.nx σ (upd H2 a (.ins C dx (putF f y fs)))
section
variable {X : Cx} {o e value : Expr} {f : Str} {pos pos' tpos : Pos} {ta tv : TE}
theorem pe_fld (he : PE X e ta) (hb : attributeBase e f X.env (eval e X.env) = eval e X.env) : PE X (.Attribute e f pos) (tFld X.K ta f) := by
  intro pins s σ H Q I h
  refine attr_of hb (thn (he pins s σ H _ I h) fun u s1 ⟨x, H1, I1, rx, a, C, dx, fs, v, ex, ea, c, n, l, q⟩ => ?_)
  subst ex
  obtain rfl : u = Value.ref a := rx
  exact getattr_ok I1 ea c n l fun u' s2 I2 ru => ⟨v, H1, I2, ru, q⟩
theorem ps_fld (ha : PE X o ta) (hv : PE X value tv) (hs : swapsWith value (some (.Attribute o f pos')) pos.line X.env = pure false) : PS X (.Assign [.Attribute o f pos'] value pos) (sFld X.K ta tv f) := by
  intro pins s σ H D I h
  refine plainObj_wpAny_Assign_Attribute (thn (hv pins s σ H _ I h) fun u s1 ⟨y, H1, I1, ry, q⟩ => thn (ha pins s1 σ H1 _ I1 q) fun ov s2 ⟨x, H2, I2, rx, a, C, dx, fs, ex, ea, c, n, l, q2⟩ => ?_) hs
  subst ex
  obtain rfl : ov = Value.ref a := rx
  exact setattr_ok I2 ea c n l ry fun s3 I3 => ⟨σ, _, I3, q2⟩
end
section
variable {X : Cx} {pins : List (Addr × Obj)} {σ : St} {H : Hp} {s : Shared} {A : Around} {E : Value → Shared → Prop} {Q : Value → Shared → Prop} {c : Value} {b : Bool}
inductive TyOf (K : PySem.W.Frag) (H : Hp) : V → Value → Prop where
  | non : TyOf K H .non (.type "NoneType")
  | bl (x : Bool) : TyOf K H (.bl x) (.type "bool")
  | int (i : Int) : TyOf K H (.int i) (.type "int")
  | str (x : Str) : TyOf K H (.str x) (.type "str")
  | flt (x : UInt64) : TyOf K H (.flt x) (.type "float")
  | lst {a : Addr} {xs : List V} (e : H a = some (.lst xs)) : TyOf K H (.ref a) (.type "list")
  | frz {a : Addr} {o : Obj} {xs : List V} (e : H a = some (.frz o (.lst xs))) : TyOf K H (.ref a) (.type "list")
  | tup {a : Addr} {xs : List V} (e : H a = some (.tup xs)) : TyOf K H (.ref a) (.type "tuple")
  | dK {a : Addr} {kvs : List (Key × V)} (e : H a = some (.dK kvs)) : TyOf K H (.ref a) (.type "dict")
  | dT {a : Addr} {kvs : List (List Key × V)} (e : H a = some (.dT kvs)) : TyOf K H (.ref a) (.type "dict")
  | ins {a C dx : Addr} {fs : List (Str × V)} (e : H a = some (.ins C dx fs)) (cl : Cls K C) (ha : PySem.W.findIn K (.ref C) "__class__" = some (some (.builtin "object.__class__")))
      (hn : PySem.W.specialIn K (.builtin "object.__class__") "__get__" = some (some (.builtin "getset_descriptor.__get__"))) (htk : PySem.W.takesIn K (.builtin "object.__class__") = some true)
      (hm : PySem.W.mroIn K C (.type "object") = some true) : TyOf K H (.ref a) (.ref C)
theorem isinst_ok {x : V} {u t : Value} (I : Inv X pins σ H s) (rx : RelV x u) (ty : TyOf X.K H x t) (e : PySem.W.kitOne X.K t c = some b) (h : ∀ tk, Q (.bool b) { s with toks := tk }) :
    wpAny (model X.prog X.w) A (call (.builtin "isinstance") [u, c]) Q E s := by
  cases ty with
  | non => cases (show u = Value.none from rx); exact PySem.W.kia_one PySem.W.kitx_none I.kIn True.intro e (fun z => nomatch z) h
  | bl y => cases (show u = Value.bool y from rx); exact PySem.W.kia_one PySem.W.kitx_bool I.kIn True.intro e (fun z => nomatch z) h
  | int i => obtain ⟨t, q⟩ := (show ∃ t, u = Value.int i t from rx); cases q; exact PySem.W.kia_one PySem.W.kitx_int I.kIn True.intro e (fun z => nomatch z) h
  | str y => obtain ⟨t, q⟩ := (show ∃ t, u = Value.str y t from rx); cases q; exact PySem.W.kia_one PySem.W.kitx_str I.kIn True.intro e (fun z => nomatch z) h
  | flt y => obtain ⟨t, q⟩ := (show ∃ t, u = Value.float y t from rx); cases q; exact PySem.W.kia_one PySem.W.kitx_float I.kIn True.intro e (fun z => nomatch z) h
  | @lst a xs ea =>
    cases (show u = Value.ref a from rx)
    obtain ⟨_, _, n, _, h1⟩ := (show ObjOk X.prog X.w H s.heap a (.lst xs) from I.hok a _ ea)
    exact PySem.W.kia_one PySem.W.kitx_list I.kIn ⟨_, h1, rfl⟩ e (fun z => nomatch z) h
  | @frz a ob xs ea =>
    cases (show u = Value.ref a from rx)
    obtain ⟨_, _, _, n, _, h1⟩ := (show ObjOk X.prog X.w H s.heap a (.frz ob (.lst xs)) from I.hok a _ ea)
    exact PySem.W.kia_one PySem.W.kitx_list I.kIn ⟨_, h1, rfl⟩ e (fun z => nomatch z) h
  | @tup a xs ea =>
    cases (show u = Value.ref a from rx)
    obtain ⟨_, _, _, p⟩ := (show ObjOk X.prog X.w H s.heap a (.tup xs) from I.hok a _ ea)
    obtain ⟨o, h1, h2, _⟩ := p
    exact PySem.W.kia_one PySem.W.kitx_tuple I.kIn ⟨o, h1, h2⟩ e (fun z => nomatch z) h
  | @dK a kvs ea =>
    cases (show u = Value.ref a from rx)
    obtain ⟨_, _, vs, _, p⟩ := (show ObjOk X.prog X.w H s.heap a (.dK kvs) from I.hok a _ ea)
    obtain ⟨o, es, ep, h1, h2, _⟩ := p
    exact PySem.W.kia_one PySem.W.kitx_dict I.kIn ⟨o, h1, h2.1⟩ e (fun z => nomatch z) h
  | @dT a kvs ea =>
    cases (show u = Value.ref a from rx)
    obtain ⟨_, _, xs, _, o, es, ep, h1, h2, _⟩ := (show ObjOk X.prog X.w H s.heap a (.dT kvs) from I.hok a _ ea)
    exact PySem.W.kia_one PySem.W.kitx_dict I.kIn ⟨o, h1, h2.1⟩ e (fun z => nomatch z) h
  | @ins a C dx fs ea cl ha hn htk hm =>
    cases (show u = Value.ref a from rx)
    obtain ⟨mA, O, _⟩ := ins_get I.hok ea
    obtain ⟨od, J, _⟩ := O.look
    exact PySem.W.kia_one (PySem.W.kitx_own (cl.get _) cl.hd ha hn htk hm) I.kIn J e (fun z => nomatch z) h
end
end L2
namespace L2
open PySem PySem.Spec PyProof.Rows
structure Room (k : Nat) (A : Around) : Prop where
  hd : A.handled = none
  dp : A.depth + 3 * k + 5 < recursionLimit
  un : A.units + 16 * k + 200 < cLine
theorem Room.mono {j k : Nat} {A : Around} (r : Room k A) (h : j ≤ k) : Room j A := ⟨r.hd, by have := r.dp; omega, by have := r.un; omega⟩
theorem Room.deeper {k : Nat} {A : Around} (r : Room (k + 1) A) (env : Env) : Room k (A.deeper env) :=
  ⟨r.hd, by have := r.dp; show A.depth + 1 + 3 * k + 5 < _; omega, by have := r.un; show A.units + 3 + 16 * k + 200 < _; omega⟩
theorem make_depth {A : Around} {C : Addr} {us : List Value} {kw : List (Str × Value)} : (A.under (.builtin "type.__call__" ⟨.ref C :: us, kw⟩)).depth = A.depth + 1 := by
  first | rfl | simp [Around.under, Code.weight, Code.isCreation, Code.isGuard, Code.isCaller, Code.frames, Code.isFrame, guardIds]
theorem make_units {A : Around} {C : Addr} {us : List Value} {kw : List (Str × Value)} : (A.under (.builtin "type.__call__" ⟨.ref C :: us, kw⟩)).units = A.units + 1 := by
  first | rfl | simp [Around.under, Code.cUnits, Code.frames, Code.isFrame]
theorem Room.make {k : Nat} {A : Around} (r : Room (k + 1) A) (C : Addr) (us : List Value) (kw : List (Str × Value)) : Room k (A.under (.builtin "type.__call__" ⟨.ref C :: us, kw⟩)) :=
  ⟨r.hd, by have := r.dp; rw [make_depth]; omega, by have := r.un; rw [make_units]; omega⟩
theorem Room.depth {k : Nat} {A : Around} (r : Room k A) : A.depth < recursionLimit := by have := r.dp; omega
theorem Room.units {k : Nat} {A : Around} (r : Room k A) : A.units + 64 < cLine := by have := r.un; omega
def tNil : TA := fun _ H Q => Q [] H
def tCons (ta : TE) (tr : TA) : TA := fun σ H Q => ta σ H fun x H1 => tr σ H1 fun xs H2 => Q (x :: xs) H2
section
variable {X : Cx} {e : Expr} {es : List Expr} {te : TE} {t : TA} {pos : Pos}
theorem pa_nil : PA X [] tNil := fun _ _ _ _ H Q I h => Calls.spliced_nil ⟨[], H, I, .nil, h⟩
theorem pa_cons (ha : PE X e te) (hr : PA X es t) (hs : starEach (e :: es) X.env = (false, eval e X.env) :: starEach es X.env := by rfl) : PA X (e :: es) (tCons te t) := by
  intro pos pins s σ H Q I h
  rw [hs]
  show wpAny _ _ (spliced ((false, eval e X.env) :: backTo pos (starEach es X.env))) _ _ s
  refine Calls.spliced_cons (thn (ha pins s σ H _ I h) fun u s1 ⟨x, H1, I1, r1, q1⟩ => ?_)
  exact thn (hr pos pins s1 σ H1 _ I1 q1) fun us s2 ⟨xs, H2, I2, r2, q2⟩ => ⟨x :: xs, H2, I2, .cons r1 r2, q2⟩
def tTup (t : TA) : TE := fun σ H Q => t σ H fun xs H1 => xs.length ≤ sizeLine ∧ ∀ p, H1 p = none → Q (.ref p) (upd H1 p (.tup xs))
def tLst (t : TA) : TE := fun σ H Q => t σ H fun xs H1 => xs.length ≤ sizeLine ∧ ∀ p, H1 p = none → Q (.ref p) (upd H1 p (.lst xs))
theorem pe_tup {x1} (h : PA X es t) : PE X (.Tuple es x1 pos) (tTup t) := by
  intro pins s σ H Q I hq
  refine wpAny_Tuple_spliced (thn (h pos pins s σ H _ I hq) fun us s1 ⟨xs, H1, I1, r, z, q⟩ => ⟨by rw [← r.length]; exact z, ?_⟩)
  have hf : H1 s1.heap.objs.size = none := I1.hok.fresh (Nat.le_refl _)
  refine ⟨.ref s1.heap.objs.size, upd H1 s1.heap.objs.size (.tup xs), I1.laid (t' := s1.toks) (fun b u e => Heap.get?_push_of_some _ e) (Nat.le_refl _) ?_, rfl, q _ hf⟩
  exact ⟨z, us, r, ⟨_, Heap.get?_push_size _ rfl, rfl, _, rfl⟩⟩
theorem pe_lst (h : PA X es t) : PE X (.List es pos) (tLst t) := by
  intro pins s σ H Q I hq
  refine wpAny_List_spliced (thn (h pos pins s σ H _ I hq) fun us s1 ⟨xs, H1, I1, r, z, q⟩ => ⟨by rw [← r.length]; exact z, ?_⟩)
  have hf : H1 s1.heap.objs.size = none := I1.hok.fresh (Nat.le_refl _)
  refine ⟨.ref s1.heap.objs.size, upd H1 s1.heap.objs.size (.lst xs), I1.laid (t' := s1.toks) (fun b u e => Heap.get?_push_of_some _ e) (Nat.le_refl _) ?_, rfl, q _ hf⟩
  exact ⟨z, us, 0, r, Heap.get?_push_size _ rfl⟩
end
abbrev Sp := List V → Hp → VK → XK → Prop
abbrev CXT := List Env → Hp → Shared → XK → Value → Shared → Prop
structure Env0 (P : Program) (w : World) (K : PySem.W.Frag) (mg : Str → Option Value) (base : Heap) (A : Around) (outer : List Env) (s : Shared) (H : Hp) : Prop where
  frames : A.frames = some outer
  mod : Mod K mg base
  bs : ∀ b o, base.get? b = some o → s.heap.get? b = some o ∧ H b = none
  bsz : base.objs.size ≤ s.heap.objs.size
  funs : s.heap.FunFrames base outer
  frf : ∀ b ∈ frs outer, H b = none
  hok : HOk P w H s.heap
  bare : AllBare s.gens
def CE (outer : List Env) (P : Program) (w : World) (H : Hp) (s : Shared) (Q : VK) (u : Value) (s' : Shared) : Prop :=
  ∃ v H', s'.os = s.os ∧ AllBare s'.gens ∧ Un (frs outer) [] H H' s.heap s'.heap ∧ HOk P w H' s'.heap ∧ RelV v u ∧ Q v H'
def CR (CX : CXT) (outer : List Env) (P : Program) (w : World) (H : Hp) (s : Shared) (Q : VK) (E : XK) (r : Result) (s' : Shared) : Prop :=
  match r with
  | .ok (.ret u) => CE outer P w H s Q u s'
  | .ok _ => False
  | .error e => CX outer H s E e s'
structure FnOk (P : Program) (w : World) (K : PySem.W.Frag) (mg : Str → Option Value) (base : Heap) (CX : CXT) (k : Nat) (f : Addr) (fd : FuncData) (ps : List Str) (sp : Sp) : Prop where
  len : ∀ vs H Q E, sp vs H Q E → vs.length = ps.length
  run : ∀ (A : Around) (outer : List Env) (s : Shared) (H : Hp) (args : Args) (us : List Value) (vs : List V) (Q : VK) (E : XK), Room k A → Env0 P w K mg base A outer s H → BindsTo s fd args (ps.zip us) → Vals vs us → sp vs H Q E →
    codeAny (model P w) A (.call (.ref f) args) (CR CX outer P w H s Q E) s
theorem FnOk.mono {P : Program} {w : World} {K : PySem.W.Frag} {mg : Str → Option Value} {base : Heap} {CX : CXT} {j k : Nat} {f : Addr} {fd : FuncData} {ps : List Str} {sp : Sp} (F : FnOk P w K mg base CX j f fd ps sp) (h : j ≤ k) :
    FnOk P w K mg base CX k f fd ps sp := ⟨F.len, fun A outer s H args us vs Q E hr => F.run A outer s H args us vs Q E (hr.mono h)⟩
theorem Env0.make {P : Program} {w : World} {K : PySem.W.Frag} {mg : Str → Option Value} {base : Heap} {A : Around} {outer : List Env} {s : Shared} {H : Hp} (e : Env0 P w K mg base A outer s H) (C : Addr) (us : List Value) (kw : List (Str × Value)) :
    Env0 P w K mg base (A.under (.builtin "type.__call__" ⟨.ref C :: us, kw⟩)) outer s H := ⟨by first | exact e.frames | (simpa [Around.under, Code.envs, Code.isFrame, pushEnvs] using e.frames), e.mod, e.bs, e.bsz, e.funs, e.frf, e.hok, e.bare⟩
section
variable {X : Cx} {pins : List (Addr × Obj)} {σ : St} {H : Hp} {s s' : Shared}
theorem Inv.env0 (I : Inv X pins σ H s) : Env0 X.prog X.w X.K X.mg X.base X.A X.stack s H :=
  ⟨I.ok.frames, I.ok.mod, I.bs, Nat.le_trans I.ok.bsz I.sz, I.stack, I.stkFree, I.hok, I.bare⟩
theorem Inv.after {Q : VK} {u : Value} (I : Inv X pins σ H s) (h : CE X.stack X.prog X.w H s Q u s') : EP X pins σ Q u s' := by
  obtain ⟨v, H', os, bare, un, hok, r, q⟩ := h
  obtain ⟨hh, g, d, t, os'⟩ := s'
  obtain rfl : os' = s.os := os
  exact ⟨v, H', I.call (h' := hh) (g' := g) (d' := d) (t' := t) (ch := []) un hok bare (fun b z => absurd z (by simp)), r, q⟩
end
def tCall (sp : Sp) (dvs : List V) (E : XK) (t : TA) : TE := fun σ H Q => t σ H fun vs H1 => sp (vs ++ dvs) H1 Q E
def tMeth (C : Addr) (m : Str) (sp : Sp) (dvs : List V) (E : XK) (ta : TE) (t : TA) : TE := fun σ H Q => ta σ H fun x H1 => ∃ a dx fs, x = .ref a ∧ H1 a = some (.ins C dx fs) ∧ fs.lookup m = none ∧
  t σ H1 fun vs H2 => sp (x :: (vs ++ dvs)) H2 Q E
def tMake (C : Addr) (sp : Sp) (dvs : List V) (E : XK) (t : TA) : TE := fun σ H Q => t σ H fun vs H1 => ∀ x dx, H1 x = none → H1 dx = none → dx ≠ x →
  sp (.ref x :: (vs ++ dvs)) (upd (upd H1 dx (.own x)) x (.ins C dx [])) (fun v H2 => v = .non ∧ Q (.ref x) H2) E
def Binds (K : PySem.W.Frag) (fd : FuncData) (ps : List Str) (ds : List Value) : Prop :=
  ∀ (s : Shared) (us : List Value), K.In s.heap → (us ++ ds).length = ps.length → BindsTo s fd ⟨us, []⟩ (ps.zip (us ++ ds))
theorem Binds.all {K : PySem.W.Frag} {fd : FuncData} {ps : List Str} (h : ∀ us : List Value, us.length = ps.length → bindArgs fd ⟨us, []⟩ = pure (ps.zip us)) : Binds K fd ps [] := fun s us _ hl => by
  rw [List.append_nil] at hl ⊢
  exact .of_eq (h us hl)
def Passes (CX : CXT) (X : Cx) (E : XK) : Prop := ∀ (pins : List (Addr × Obj)) (σ : St) (H : Hp) (s : Shared) (e : Value) (s' : Shared), Inv X pins σ H s → CX X.stack H s E e s' → X.xe e s'
section
variable {X : Cx} {CX : CXT} {k : Nat} {f C : Addr} {fd : FuncData} {ps : List Str} {sp : Sp} {dvs : List V} {ds : List Value} {E : XK} {x m : Str} {p pos apos : Pos} {e o : Expr} {es : List Expr} {ta : TE} {t : TA}
theorem run_fn {pins : List (Addr × Obj)} {σ : St} {H : Hp} {s : Shared} {Q : VK} {us : List Value} {vs : List V} (F : FnOk X.prog X.w X.K X.mg X.base CX k f fd ps sp) (hr : Room k X.A) (hb : Binds X.K fd ps ds) (hd : Vals dvs ds) (hx : Passes CX X E)
    (I : Inv X pins σ H s) (r : Vals vs us) (h : sp (vs ++ dvs) H Q E) : wpAny (model X.prog X.w) X.A (call (.ref f) us) (EP X pins σ Q) X.xe s := by
  have r2 : Vals (vs ++ dvs) (us ++ ds) := r.append hd
  have hl : (us ++ ds).length = ps.length := by rw [← r2.length]; exact F.len _ _ _ _ h
  refine wpAny_call (codeAny_mono (F.run X.A X.stack s H ⟨us, []⟩ (us ++ ds) (vs ++ dvs) Q E hr I.env0 (hb s us I.kIn hl) r2 h) fun r s' hq => ?_)
  cases r with
  | error e => exact hx pins σ H s e s' I hq
  | ok fl =>
    cases fl with
    | ret u => exact I.after hq
    | next => exact False.elim hq
    | brk => exact False.elim hq
    | cont => exact False.elim hq
theorem pe_call (F : FnOk X.prog X.w X.K X.mg X.base CX k f fd ps sp) (hr : Room k X.A) (hg : Gl X x) (hm : X.mg x = some (.ref f)) (hk : PySem.W.keepIn X.K (.ref f) = true) (hb : Binds X.K fd ps ds) (hd : Vals dvs ds) (hx : Passes CX X E)
    (ha : PA X (e :: es) t) (hdb : (x == ("__debug__" : Str)) = false := by decide) (he : starEach (e :: es) X.env = (false, eval e X.env) :: starEach es X.env := by rfl) (hpl : (backTo pos (starEach es X.env)).any (·.1) = false := by rfl) :
    PE X (.Call (.Name x p) (e :: es) [] pos) (tCall sp dvs E t) := by
  intro pins s σ H Q I h
  refine wpAny_Call_Name_kw (ld_glob I hg hm ?_ hdb)
  refine PySem.W.callWith_K (h₀ := X.base) I.ok.mod.kin hk (thn (ha pos pins s σ H _ I h) fun us s1 ⟨vs, H1, I1, r, q⟩ => ⟨I1.kIn, ?_⟩) he hpl
  exact run_fn F hr hb hd hx I1 r q
theorem pe_meth {pl : Sem Bool} (he : PE X o ta) (c : Cls X.K C) (hm : Meth X.K C m f) (F : FnOk X.prog X.w X.K X.mg X.base CX k f fd ps sp) (hr : Room k X.A) (hb : Binds X.K fd ps ds) (hd : Vals dvs ds) (hx : Passes CX X E) (ha : PA X (e :: es) t)
    (hst : starEach (e :: es) X.env = (false, eval e X.env) :: starEach es X.env := by rfl) (hpl : (backTo pos (starEach es X.env)).any (·.1) = false := by rfl)
    (ht : eval (.Call (.Attribute o m apos) (e :: es) [] pos) X.env = (do
      let ov ← eval o X.env
      standAt apos.atName
      let (f, first) ← holding [ov] (getMethod ov m pl)
      callWith pos f first (backTo pos (starEach (e :: es) X.env)) (backToKw pos (keywordEach [] X.env))) := by rfl) :
    PE X (.Call (.Attribute o m apos) (e :: es) [] pos) (tMeth C m sp dvs E ta t) := by
  intro pins s σ H Q I h
  refine PySem.W.methodCall_KW (pl := pl) (thn (he pins s σ H _ I h) fun u s1 ⟨x, H1, I1, rx, a, dx, fs, ex, ea, l, q⟩ => ?_) ht
  subst ex
  obtain rfl : u = Value.ref a := rx
  refine getmeth_ok I1 ea c hm l ?_
  refine PySem.W.callWith_K (first := [.ref a]) (h₀ := X.base) I.ok.mod.kin hm.kp (thn (ha pos pins s1 σ H1 _ I1 q) fun us s2 ⟨vs, H2, I2, r, q2⟩ => ⟨I2.kIn, ?_⟩) hst hpl
  exact run_fn (us := .ref a :: us) (vs := .ref a :: vs) F hr hb hd hx I2 (.cons rfl r) q2
structure Mk (K : PySem.W.Frag) (C f : Addr) : Prop where
  makes : PySem.W.makesIn K C = true
  init : PySem.W.findIn K (.ref C) "__init__" = some (some (.ref f))
  fn : PySem.W.isFn K (.ref f) = true
  kp : PySem.W.keepIn K (.ref C) = true
theorem run_make {pins : List (Addr × Obj)} {σ : St} {H : Hp} {s : Shared} {Q : VK} {us : List Value} {vs : List V} (M : Mk X.K C f) (F : FnOk X.prog X.w X.K X.mg X.base CX k f fd ps sp) (hr : Room (k + 1) X.A) (hb : Binds X.K fd ps ds) (hd : Vals dvs ds)
    (hx : Passes CX X E) (I : Inv X pins σ H s) (r : Vals vs us)
    (h : ∀ x dx, H x = none → H dx = none → dx ≠ x → sp (.ref x :: (vs ++ dvs)) (upd (upd H dx (.own x)) x (.ins C dx [])) (fun v H2 => v = .non ∧ Q (.ref x) H2) E) :
    wpAny (model X.prog X.w) X.A (call (.ref C) us) (EP X pins σ Q) X.xe s := by
  have hq := h (s.heap.objs.size + 1) s.heap.objs.size (I.hok.fresh (Nat.le_succ _)) (I.hok.fresh (Nat.le_refl _)) (Nat.ne_of_lt (Nat.lt_succ_self _))
  have I2 := Inv.made (C := C) I
  have r2 : Vals (V.ref (s.heap.objs.size + 1) :: (vs ++ dvs)) (Value.ref (s.heap.objs.size + 1) :: (us ++ ds)) := .cons rfl (r.append hd)
  have hl : (Value.ref (s.heap.objs.size + 1) :: us ++ ds).length = ps.length := by
    have e := r2.length
    rw [F.len _ _ _ _ hq] at e
    exact e.symm
  refine wpAny_call (make_map (f := f) I.kIn M.makes M.init (beq_iff_eq.mp M.fn) (codeAny_mono (F.run _ X.stack _ _ ⟨Value.ref (s.heap.objs.size + 1) :: us, []⟩ (Value.ref (s.heap.objs.size + 1) :: (us ++ ds)) _ _ E (hr.make C us [])
    (I2.env0.make C us []) (hb _ (Value.ref (s.heap.objs.size + 1) :: us) I2.kIn hl) r2 hq) fun r s' hq' => ?_))
  cases r with
  | error e => exact hx pins σ _ _ e s' I2 hq'
  | ok fl =>
    cases fl with
    | ret u =>
      obtain ⟨v, H', I3, rv, ev, q3⟩ := I2.after hq'
      subst ev
      exact ⟨rv, ⟨V.ref (s.heap.objs.size + 1), H', I3, rfl, q3⟩⟩
    | next => exact False.elim hq'
    | brk => exact False.elim hq'
    | cont => exact False.elim hq'
theorem pe_make0 (M : Mk X.K C f) (F : FnOk X.prog X.w X.K X.mg X.base CX k f fd ps sp) (hr : Room (k + 1) X.A) (hg : Gl X x) (hm : X.mg x = some (.ref C)) (hb : Binds X.K fd ps ds) (hd : Vals dvs ds) (hx : Passes CX X E)
    (hdb : (x == ("__debug__" : Str)) = false := by decide) : PE X (.Call (.Name x p) [] [] pos) (tMake C sp dvs E tNil) := by
  intro pins s σ H Q I h
  refine wpAny_Call_Name_kw (ld_glob I hg hm ?_ hdb)
  exact PySem.W.callWith_K0 I.kIn M.kp (run_make (us := []) M F hr hb hd hx I .nil h)
end
section
variable {X : Cx} {CX : CXT} {k : Nat} {f C : Addr} {fd : FuncData} {ps ks : List Str} {sp : Sp} {E : XK} {x m : Str} {p pos apos kpos : Pos} {e o : Expr} {es : List Expr} {kws : List Keyword} {te ta : TE} {t tk : TA} {nm : Option Str}
variable {g : List Value → List Value → List Value} {gV : List V → List V → List V}
end
structure FnScope (N P : List Str) (sc : Scope) : Prop where
  kind : sc.kind = .function
  co : sc.isCoroutine = false
  gen : sc.isGenerator = false
  nd : N.Nodup
  pre : N.take P.length = P
  par : ∀ x ∈ P, sc.names.lookup x = some .local ∨ sc.names.lookup x = some .cell
  nofree : ∀ y ∈ sc.names, y.2 ≠ .free
theorem bindL_out {kindOf : Str → Option NameKind} {x : Str} : ∀ {binds : List (Str × Value)} {m : Str → Option Value}, (∀ v, (x, v) ∉ binds) → bindL kindOf binds m x = m x
  | [], _, _ => rfl
  | (n, v) :: r, m, h => by
    unfold bindL
    rw [bindL_out fun w hw => h w (List.mem_cons_of_mem _ hw)]
    split
    · have : x ≠ n := by rintro rfl; exact h v List.mem_cons_self
      simp [this]
    · rfl
theorem bindC_out {kindOf : Str → Option NameKind} {x : Str} : ∀ {binds : List (Str × Value)} {m : Str → Option Value}, (∀ v, (x, v) ∉ binds) → bindC kindOf binds m x = m x
  | [], _, _ => rfl
  | (n, v) :: r, m, h => by
    unfold bindC
    rw [bindC_out fun w hw => h w (List.mem_cons_of_mem _ hw)]
    split
    · rfl
    · have : x ≠ n := by rintro rfl; exact h v List.mem_cons_self
      simp [this]
theorem bindL_get {kindOf : Str → Option NameKind} {x : Str} {v : Value} : ∀ {P : List Str} {vs : List Value} {i : Nat} {m : Str → Option Value}, P.Nodup → P[i]? = some x → vs[i]? = some v → kindOf x = some .local →
    bindL kindOf (P.zip vs) m x = some v
  | [], _, _, _, _, h, _, _ => by simp at h
  | _ :: _, [], _, _, _, _, h, _ => by simp at h
  | p :: P, w :: vs, 0, m, nd, h1, h2, hk => by
    simp at h1 h2; subst h1; subst h2
    show bindL kindOf ((p, w) :: P.zip vs) m p = _
    unfold bindL
    rw [bindL_out fun v hv => (List.nodup_cons.mp nd).1 (List.of_mem_zip hv).1, if_pos hk]
    simp
  | p :: P, w :: vs, i + 1, m, nd, h1, h2, hk => by
    show bindL kindOf ((p, w) :: P.zip vs) m x = _
    unfold bindL
    exact bindL_get (i := i) (List.nodup_cons.mp nd).2 (by simpa using h1) (by simpa using h2) hk
theorem bindC_get {kindOf : Str → Option NameKind} {x : Str} {v : Value} : ∀ {P : List Str} {vs : List Value} {i : Nat} {m : Str → Option Value}, P.Nodup → P[i]? = some x → vs[i]? = some v → kindOf x ≠ some .local →
    bindC kindOf (P.zip vs) m x = some v
  | [], _, _, _, _, h, _, _ => by simp at h
  | _ :: _, [], _, _, _, _, h, _ => by simp at h
  | p :: P, w :: vs, 0, m, nd, h1, h2, hk => by
    simp at h1 h2; subst h1; subst h2
    show bindC kindOf ((p, w) :: P.zip vs) m p = _
    unfold bindC
    rw [bindC_out fun v hv => (List.nodup_cons.mp nd).1 (List.of_mem_zip hv).1, if_neg hk]
    simp
  | p :: P, w :: vs, i + 1, m, nd, h1, h2, hk => by
    show bindC kindOf ((p, w) :: P.zip vs) m x = _
    unfold bindC
    exact bindC_get (i := i) (List.nodup_cons.mp nd).2 (by simpa using h1) (by simpa using h2) hk
def start (N : List Str) (vs : List V) : St := vs.map some ++ List.replicate (N.length - vs.length) none
def cxOf (CX : CXT) (P : Program) (w : World) (K : PySem.W.Frag) (mg : Str → Option Value) (base : Heap) (N : List Str) (qual : Str) (scope : Scope) (f : Addr) (cd : Value) (A : Around) (outer : List Env) (s : Shared) (H : Hp) (E : XK) : Cx where
  prog := P
  w := w
  K := K
  mg := mg
  base := base
  A := A.deeper (envOfC qual scope s.heap.objs.size f cd)
  N := N
  s₀ := s
  H₀ := H
  env := envOfC qual scope s.heap.objs.size f cd
  outer := outer
  stack := envOfC qual scope s.heap.objs.size f cd :: outer
  ex := []
  calm := true
  fn := fun _ => true
  pn := []
  xe := fun e s' => wpAny (model P w) (A.deeper (envOfC qual scope s.heap.objs.size f cd)) (leaving (envOfC qual scope s.heap.objs.size f cd) e) (fun _ s'' => CX outer H s E e s'') (fun e' s'' => CX outer H s E e' s'') s'
theorem cell_has {sc : Scope} {n : Nat} {x : Str} (h : sc.names.lookup x = some .cell) : ∃ c, (cellsFrom n sc.names []).lookup x = some c := by
  have q := PySem.W.cellsFrom_some sc.names n [] (.inl h)
  exact Option.isSome_iff_exists.mp q
theorem inv_start {CX : CXT} {P : Program} {w : World} {K : PySem.W.Frag} {mg : Str → Option Value} {base : Heap} {N ps : List Str} {qual : Str} {scope : Scope} {f : Addr} {cd : Value} {A : Around} {outer : List Env} {s s1 : Shared} {H : Hp} {E : XK} {us : List Value} {vs : List V}
    (S : FnScope N ps scope) (hd : A.handled = none) (e0 : Env0 P w K mg base A outer s H) (hl : vs.length = ps.length) (r : Vals vs us)
    (x : InCallC s s.heap.objs.size (bindL (envOfC qual scope s.heap.objs.size f cd).kindOf (ps.zip us) fun _ => none) (cellsFrom (s.heap.objs.size + 1) scope.names []) (bindC (envOfC qual scope s.heap.objs.size f cd).kindOf (ps.zip us) fun _ => none) s1) :
    Inv (cxOf CX P w K mg base N qual scope f cd A outer s H E) [] (start N vs) H s1 := by
  have hpl : ps.length ≤ N.length := by have := congrArg List.length S.pre; rw [List.length_take] at this; omega
  obtain ⟨h1, tk, rfl, hk⟩ := x.done
  have noA : ∀ b : Addr, b ∉ (cxOf CX P w K mg base N qual scope f cd A outer s H E).ex := fun b z => absurd (show b ∈ ([] : List Addr) from z) (by simp)
  refine ⟨⟨e0.mod, S.kind, rfl, rfl, Nat.le_refl _, fun y z c h1 h2 => ?_, fun y hy => ?_, fun y c _ h => ?_, fun _ => hd, Around.frames_deeper e0.frames, .inr ⟨rfl, rfl⟩, fun b z => absurd z (noA b), e0.bs, e0.bsz, fun b _ _ => noA b, fun b z => absurd z (noA b), e0.funs, e0.frf⟩,
    rfl, e0.bare, Un.kept hk, ⟨_, x.toInCall.ns, fun i y v h1 h2 h3 => ?_⟩, fun y c h => ⟨_, x.cell y c h⟩, e0.hok.fresh (Nat.le_refl _), fun y c h => ?_, fun p hp => absurd (show p ∈ ([] : List (Addr × Obj)) from hp) (by simp), e0.hok.kept hk, ?_⟩
  · exact name_of_addr x.apart (PySem.mem_of_lookup h1) (PySem.mem_of_lookup h2)
  · have hy : scope.names.lookup y = some .cell ∨ scope.names.lookup y = some .free := hy
    rcases hy with hy | hy
    · exact cell_has hy
    · exact absurd rfl (S.nofree _ (PySem.mem_of_lookup hy))
  · exact Nat.le_of_lt (x.above y c (PySem.mem_of_lookup h))
  · have hi : i < vs.length := by
      unfold start at h2
      by_cases hi : i < vs.length
      · exact hi
      · rw [List.getElem?_append_right (by simpa using hi)] at h2
        rw [List.getElem?_replicate] at h2
        split at h2 <;> cases h2
    have ha : vs[i]? = some v := by
      unfold start at h2
      rw [List.getElem?_append_left (by simpa using hi), List.getElem?_map] at h2
      cases e : vs[i]? with
      | none => rw [e] at h2; cases h2
      | some a => rw [e] at h2; cases h2; rfl
    obtain ⟨u, hu, rv⟩ := r.get ha
    have hp : ps[i]? = some y := by
      rw [← S.pre, List.getElem?_take_of_lt (by omega)]; exact h1
    have ndP : ps.Nodup := by rw [← S.pre]; exact S.nd.sublist (List.take_sublist _ _)
    refine ⟨u, rv, ?_⟩
    rcases S.par y (List.mem_of_getElem? hp) with k | k
    · exact .inl ⟨k, bindL_get ndP hp hu k⟩
    · obtain ⟨c, e⟩ := cell_has (n := s.heap.objs.size + 1) k
      refine .inr ⟨.inl k, c, e, ?_⟩
      have q := x.cell y c e
      rw [bindC_get ndP hp hu (by show scope.names.lookup y ≠ _; rw [k]; decide)] at q
      exact q
  · exact e0.hok.fresh (Nat.le_of_lt (x.above y c (PySem.mem_of_lookup h)))
  · unfold start
    show _ = N.length
    rw [List.length_append, List.length_map, List.length_replicate]
    omega
theorem fn_of {CX : CXT} {P : Program} {w : World} {K : PySem.W.Frag} {mg : Str → Option Value} {base : Heap} {k : Nat} {f : Addr} {name qual : Str} {params : Arguments} {body : List Stmt} {scope : Scope} {dV kV doc pm cdv ct oc : Value} {an od : Option Addr}
    {osl : Array (Option Value)} {N ps : List Str} {sp : Sp} (lk : K.lookup f = some ⟨oc, od, .func (PySem.W.fnOf name qual params body scope dV kV doc pm an cdv ct), osl⟩) (hcd : PySem.W.codeIn K cdv qual = true) (S : FnScope N ps scope)
    (len : ∀ vs H Q E, sp vs H Q E → vs.length = ps.length)
    (hbody : ∀ (A : Around) (outer : List Env) (s : Shared) (H : Hp) (vs : List V) (Q : VK) (E : XK), Room k (A.deeper (envOfC qual scope s.heap.objs.size f cdv)) → sp vs H Q E →
      ∃ t, PSs (cxOf CX P w K mg base N qual scope f cdv A outer s H E) body t ∧ t { nx := fun _ H' => Q .non H', rt := Q } (start N vs) H) :
    FnOk P w K mg base CX (k + 1) f (PySem.W.fnOf name qual params body scope dV kV doc pm an cdv ct) ps sp := by
  refine ⟨len, fun A outer s H args us vs Q E hr e0 hb r hsp => ?_⟩
  have hl := len _ _ _ _ hsp
  have KX : K.In s.heap := e0.mod.kin.keeps fun b o e => (e0.bs b o e).1
  have lim : s.heap.NoLimit := e0.mod.nolimit.keeps fun b o e => (e0.bs b o e).1
  have hkind : ∀ y ∈ ps.zip us, scope.names.lookup y.1 = some .local ∨ (scope.names.lookup y.1 = some .cell ∧ ((cellsFrom (s.heap.objs.size + 1) scope.names []).lookup y.1).isSome = true) := fun ⟨n, v⟩ hy => by
    rcases S.par n (List.of_mem_zip hy).1 with q | q
    · exact .inl q
    · exact .inr ⟨q, PySem.W.cellsFrom_some _ _ _ (.inl q)⟩
  refine codeAny_call_function hr.depth (KX _ _ lk) rfl S.co S.gen rfl (PySem.W.codeRec_of KX hcd) (hb _ _ _ _ ?_)
  refine wpAny_newFunctionEnv_cells S.kind hkind fun env he s1 x => ?_
  subst he
  refine ⟨lim.keeps x.toInCall.keep, codeAny_func ?_⟩
  obtain ⟨t, ht, hq⟩ := hbody A outer s H vs Q E (hr.deeper _) hsp
  have I : Inv (cxOf CX P w K mg base N qual scope f cdv A outer s H E) [] (start N vs) H s1 := inv_start S hr.hd e0 hl r x
  refine wpAny_mono (ht [] s1 (start N vs) H _ I hq) (fun fl s' hs => ?_) fun e s' hs => hs
  have fin : ∀ {σ' : St} {H' : Hp} {v : V} {u : Value}, Inv (cxOf CX P w K mg base N qual scope f cdv A outer s H E) [] σ' H' s' → RelV v u → Q v H' → CE outer P w H s Q u s' :=
    fun {σ' H' v u} J rv q => ⟨v, H', J.os, J.bare, J.base, J.hok, rv, q⟩
  cases fl with
  | ret u =>
    obtain ⟨v, σ', H', J, rv, q⟩ := hs
    exact fin J rv q
  | next =>
    obtain ⟨σ', H', J, q⟩ := hs
    exact fin (v := V.non) (u := Value.none) J rfl q
  | brk =>
    obtain ⟨_, _, _, q⟩ := hs
    exact False.elim q
  | cont =>
    obtain ⟨_, _, _, q⟩ := hs
    exact False.elim q
end L2
namespace L2
open PySem PySem.Spec PyProof.Rows
section
variable {X : Cx} {x : Str} {p pos : Pos} {e : Expr} {es : List Expr} {t : TA} {id T : String} {r : List V → Hp → VK → Prop}
def tCB (r : List V → Hp → VK → Prop) (t : TA) : TE := fun σ H Q => t σ H fun vs H1 => r vs H1 Q
theorem pe_callB (hc : CallR X (.builtin id) r) (hg : Gl X x) (hm : X.mg x = none) (hv : bootBuiltins x = some (.builtin id)) (ha : PA X (e :: es) t) (hn : x ≠ "__name__" := by decide) (hdb : (x == ("__debug__" : Str)) = false := by decide)
    (he : starEach (e :: es) X.env = (false, eval e X.env) :: starEach es X.env := by rfl) (hpl : (backTo pos (starEach es X.env)).any (·.1) = false := by rfl) : PE X (.Call (.Name x p) (e :: es) [] pos) (tCB r t) := by
  intro pins s σ H Q I h
  refine wpAny_Call_Name_kw (ld_blt I hg hm hv ?_ hn hdb)
  exact PyProof.Rows.callWith_builtin1 (thn (ha pos pins s σ H _ I h) fun us s1 ⟨vs, H1, I1, r1, q1⟩ => hc pins s1 σ H1 vs us Q I1 r1 q1) he hpl
theorem pe_callTy (hc : CallR X (.type T) r) (hg : Gl X x) (hm : X.mg x = none) (hv : bootBuiltins x = some (.type T)) (ha : PA X (e :: es) t) (hn : x ≠ "__name__" := by decide) (hdb : (x == ("__debug__" : Str)) = false := by decide)
    (he : starEach (e :: es) X.env = (false, eval e X.env) :: starEach es X.env := by rfl) (hpl : (backTo pos (starEach es X.env)).any (·.1) = false := by rfl) : PE X (.Call (.Name x p) (e :: es) [] pos) (tCB r t) := by
  intro pins s σ H Q I h
  refine wpAny_Call_Name_kw (ld_blt I hg hm hv ?_ hn hdb)
  exact PyProof.Rows.callWith_type1 (thn (ha pos pins s σ H _ I h) fun us s1 ⟨vs, H1, I1, r1, q1⟩ => hc pins s1 σ H1 vs us Q I1 r1 q1) he hpl
end
end L2
namespace HT
open PySem PyProof.Rows
section
open PySem.SeqAt
open PySem.AutoSeq1 (wpAny_loadPart')
open PySem.MeetsSeq PySem.MeetsSeq2 PySem.MeetsSeq3
end
section
variable {prog : Program} {w : World} {A : Around} {E : Value → Shared → Prop} {s : Shared}
theorem cat_tup {t b : Addr} {vs ws : List Value} {Q : Value → Shared → Prop} (ht : IsTup s.heap t vs.toArray) (hb : IsTup s.heap b ws.toArray) (hv : vs ≠ [])
    (h1 : ws = [] → Q (.ref t) s) (h2 : ws ≠ [] → Q (.ref s.heap.objs.size) { s with heap := s.heap.push { cls := .type "tuple", data := .seq (vs ++ ws).toArray } })
    (hsz : vs.length + ws.length ≤ sizeLine) : wpAny (model prog w) A (binaryOp .Add (.ref t) (.ref b)) Q E s := by
  obtain ⟨⟨cls, dd, data, sl⟩, ho, hc, n, hd⟩ := id ht
  obtain ⟨⟨cls2, dd2, data2, sl2⟩, ho2, hc2, n2, hd2⟩ := id hb
  simp only at hc hd hc2 hd2
  subst hc hd hc2 hd2
  have e : vs.toArray ++ ws.toArray = (vs ++ ws).toArray := by simp
  by_cases hw : ws = []
  · exact concat_meets ⟨_, ho, rfl⟩ ⟨_, ho2, rfl⟩ noFill_tuple_add seq_tuple_add PySem.F.slot_tuple_add PySem.F.entry_tuple_add (PySem.F.args_tuple_add_2 _ _)
      (tuple_addW1 t b vs.toArray ws.toArray n n2 dd dd2 sl sl2 (by simpa using hv) (by simp [hw])) ⟨ho, ho2, h1 hw⟩
  · refine concat_meets ⟨_, ho, rfl⟩ ⟨_, ho2, rfl⟩ noFill_tuple_add seq_tuple_add PySem.F.slot_tuple_add PySem.F.entry_tuple_add (PySem.F.args_tuple_add_2 _ _)
      (tuple_addW2 t b vs.toArray ws.toArray n n2 dd dd2 sl sl2 (by simpa using hv) (by simpa using hw) (by rw [List.size_toArray, List.size_toArray]; exact hsz)) ⟨ho, ho2, ?_⟩
    rw [e]
    exact h2 hw
def sIx (n d : Nat) : Option Int → Nat
  | none => d
  | some v => if v < 0 then (v + (n : Int)).toNat else min v.toNat n
end
end HT
namespace L2
open PySem PySem.Spec PyProof.Rows
abbrev TO := St → Hp → (Option Int → Hp → Prop) → Prop
def PO (X : Cx) (e : Option Expr) (t : TO) : Prop :=
  ∀ (pins : List (Addr × Obj)) (s : Shared) (σ : St) (H : Hp) (Q : Option Int → Hp → Prop), Inv X pins σ H s → t σ H Q →
    wpAny (model X.prog X.w) X.A (evalPart e X.env) (fun u s' => ∃ o H', Inv X pins σ H' s' ∧ IsPart u o ∧ Q o H') X.xe s
def tNoPart : TO := fun _ H Q => Q none H
def tPart (t : TE) : TO := fun σ H Q => t σ H fun x H1 => ∃ i, x = .int i ∧ Q (some i) H1
section
variable {X : Cx} {e : Expr} {te : TE} {lo hi : Option Expr} {tl th : TO} {pos p2 : Pos}
theorem po_none : PO X none tNoPart := by
  intro pins s σ H Q I h
  rw [evalPart_none]
  exact wpAny_pure ⟨none, H, I, .none, h⟩
theorem po_some (h : PE X e te) : PO X (some e) (tPart te) := by
  intro pins s σ H Q I hw
  rw [evalPart_some]
  refine thn (h pins s σ H _ I hw) fun u s1 ⟨x, H1, I1, r1, q1⟩ => ?_
  obtain ⟨i, rfl, q⟩ := q1
  obtain ⟨t, rfl⟩ := r1
  exact ⟨some i, H1, I1, .int i t, q⟩
def SlR (X : Cx) (r : V → Option Int → Option Int → Hp → VK → Prop) : Prop :=
  ∀ (pins : List (Addr × Obj)) (s : Shared) (σ : St) (H : Hp) (x : V) (v vl vu : Value) (lo hi : Option Int) (sl : Addr) (Q : VK), Inv X pins σ H s → RelV x v → s.heap.IsSliceOf sl vl vu .none → IsPart vl lo → IsPart vu hi → r x lo hi H Q →
    ∃ T id, typeLookup (.type T) "__getitem__" = pure (some (.builtin id)) ∧ s.TypeIs v T ∧ wpAny (model X.prog X.w) X.A (getItem v (.ref sl)) (EP X pins σ Q) X.xe s
def tSl (r : V → Option Int → Option Int → Hp → VK → Prop) (te : TE) (tl th : TO) : TE := fun σ H Q => te σ H fun x H1 => tl σ H1 fun l H2 => th σ H2 fun u H3 => r x l u H3 Q
theorem pe_slice {r : V → Option Int → Option Int → Hp → VK → Prop} (hr : SlR X r) (he : PE X e te) (hl : PO X lo tl) (hu : PO X hi th) : PE X (.Subscript e (.Slice lo hi none p2) pos) (tSl r te tl th) := by
  intro pins s σ H Q I h
  refine Subscript_ (thn (he pins s σ H _ I h) fun v s1 ⟨x, H1, I1, r1, q1⟩ => ?_)
  refine wpAny_Slice (thn (hl pins s1 σ H1 _ I1 q1) fun vl s2 ⟨l, H2, I2, pl, q2⟩ => thn (hu pins s2 σ H2 _ I2 q2) fun vu s3 ⟨u, H3, I3, pu, q3⟩ => ?_)
  rw [evalPart_none]
  refine wpAny_pure ?_
  have I4 : Inv X pins σ H3 { s3 with heap := s3.heap.push { cls := .type "slice", data := .fields #[vl, vu, .none] } } := I3.kept (t' := s3.toks) fun b ob q => Heap.get?_push_of_some _ q
  obtain ⟨T, id, hT, ht, hg⟩ := hr pins { s3 with heap := s3.heap.push { cls := .type "slice", data := .fields #[vl, vu, .none] } } σ H3 x v vl vu l u s3.heap.objs.size Q I4 r1 (Heap.IsSliceOf.new ..) pl pu q3
  show wpAny (model X.prog X.w) X.A (subscriptTail e (.Slice lo hi none p2) v (.ref s3.heap.objs.size)) (EP X pins σ Q) X.xe { s3 with heap := s3.heap.push { cls := .type "slice", data := .fields #[vl, vu, .none] } }
  exact tail_any (ops := [.ref s3.heap.objs.size, v]) ht hT hg (by with_unfolding_all rfl)
def cutV (xs : List V) (lo hi : Option Int) : List V := (xs.drop (HT.sIx xs.length 0 lo)).take (HT.sIx xs.length xs.length hi - HT.sIx xs.length 0 lo)
theorem cutV_length (xs : List V) (lo hi : Option Int) : (cutV xs lo hi).length ≤ xs.length := by
  unfold cutV
  rw [List.length_take, List.length_drop]
  omega
def rCatT (K : PySem.W.Frag) : R2 := fun x y H Q => ∃ a b xs ys, x = .ref a ∧ y = .ref b ∧ SqT K H a xs ∧ SqT K H b ys ∧ xs ≠ [] ∧ xs.length + ys.length ≤ sizeLine ∧
  (ys = [] → Q (.ref a) H) ∧ (ys ≠ [] → ∀ p, H p = none → Q (.ref p) (upd H p (.tup (xs ++ ys))))
theorem Vals.nil_iff {xs : List V} {us : List Value} (r : Vals xs us) : us = [] ↔ xs = [] := by
  cases r with
  | nil => simp
  | cons _ _ => simp
theorem op_catT : OpR X (binaryOp .Add) (rCatT X.K) := by
  intro pins s σ H x y v u Q I rx ry h
  obtain ⟨a, b, xs, ys, rfl, rfl, ha, hb, hx, hz, q1, q2⟩ := h
  cases rx
  cases ry
  obtain ⟨its, r1, p1, _⟩ := I.tuple ha
  obtain ⟨its2, r2, p2, _⟩ := I.tuple hb
  refine HT.cat_tup p1 p2 (fun z => hx (r1.nil_iff.mp z)) (fun z => ⟨.ref a, H, I, rfl, q1 (r2.nil_iff.mp z)⟩) (fun z => ?_) (by rw [← r1.length, ← r2.length]; exact hz)
  refine ⟨.ref s.heap.objs.size, _, I.laid (t' := s.toks) (o := .tup (xs ++ ys)) (fun b ob q => Heap.get?_push_of_some _ q) (Nat.le_refl _) ?_, rfl, q2 (fun w => z (r2.nil_iff.mpr w)) _ (I.hok.fresh (Nat.le_refl _))⟩
  exact ⟨by rw [List.length_append]; exact hz, _, r1.append r2, IsTup.new _ _⟩
end
end L2
namespace L2
open PySem PySem.Spec PyProof.Rows
def ixN (n : Nat) (i : Int) : Option Nat := if 0 ≤ i then (if i < n then some i.toNat else none) else if -(n : Int) ≤ i then some (i + n).toNat else none
def atI {α : Type} (xs : List α) (i : Int) : Option α := (ixN xs.length i).bind fun j => xs[j]?
theorem ixN_seq {n : Nat} {i : Int} {j : Nat} (h : ixN n i = some j) : seqIndex? i n = some j ∧ j < n ∧ -(n : Int) ≤ i ∧ i < n := by
  unfold ixN at h
  by_cases h0 : 0 ≤ i
  · rw [if_pos h0] at h
    by_cases h1 : i < n
    · rw [if_pos h1] at h
      have e : i.toNat = j := Option.some.inj h
      exact ⟨by rw [seqIndex_of h0 h1, e], by omega, by omega, h1⟩
    · rw [if_neg h1] at h; cases h
  · rw [if_neg h0] at h
    by_cases h1 : -(n : Int) ≤ i
    · rw [if_pos h1] at h
      have e : (i + n).toNat = j := Option.some.inj h
      exact ⟨by rw [seqIndex_neg (by omega) h1, e], by omega, h1, by omega⟩
    · rw [if_neg h1] at h; cases h
theorem atI_get {α : Type} {xs : List α} {i : Int} {v : α} (h : atI xs i = some v) : ∃ j, seqIndex? i xs.length = some j ∧ xs[j]? = some v ∧ j < xs.length ∧ -(xs.length : Int) ≤ i ∧ i < xs.length := by
  unfold atI at h
  cases e : ixN xs.length i with
  | none => rw [e] at h; cases h
  | some j =>
    rw [e] at h
    obtain ⟨h1, h2, h3, h4⟩ := ixN_seq e
    exact ⟨j, h1, h, h2, h3, h4⟩
theorem atI_nat {α : Type} {xs : List α} {j : Nat} {v : α} (h : xs[j]? = some v) : atI xs (j : Int) = some v := by
  have hj : j < xs.length := (List.getElem?_eq_some_iff.mp h).1
  have e : ixN xs.length (j : Int) = some j := by
    unfold ixN
    rw [if_pos (by omega), if_pos (by omega)]; simp
  unfold atI; rw [e]; exact h
def PlainIx (b : Expr) : Prop := ∀ o i, subscripted b false o i = operate [o, i] (getItem o i)
def IxR (X : Cx) (r : R2) : Prop :=
  ∀ (value slice : Expr) (pins : List (Addr × Obj)) (s : Shared) (σ : St) (H : Hp) (x y : V) (v u : Value) (Q : VK), Inv X pins σ H s → RelV x v → RelV y u → r x y H Q →
    subscripted slice false v u = operate [v, u] (getItem v u) → wpAny (model X.prog X.w) X.A (subscriptTail value slice v u) (EP X pins σ Q) X.xe s
def MtR (X : Cx) (id : String) (r : V → List V → Hp → VK → Prop) : Prop :=
  ∀ (pins : List (Addr × Obj)) (s : Shared) (σ : St) (H : Hp) (x : V) (xs : List V) (v : Value) (us : List Value) (Q : VK), Inv X pins σ H s → RelV x v → Vals xs us → r x xs H Q →
    wpAny (model X.prog X.w) X.A (call (.builtin id) (v :: us)) (EP X pins σ Q) X.xe s
section
variable {X : Cx} {a b : Expr} {ta tb : TE} {pos : Pos}
theorem IxR.or {r r' : R2} (h : IxR X r) (h' : IxR X r') : IxR X (fun x y H Q => r x y H Q ∨ r' x y H Q) := by
  intro value slice pins s σ H x y v u Q I rx ry q hs
  rcases q with q | q
  · exact h value slice pins s σ H x y v u Q I rx ry q hs
  · exact h' value slice pins s σ H x y v u Q I rx ry q hs
theorem pe_ix {r : R2} (hr : IxR X r) (ha : PE X a ta) (hb : PE X b tb) (hs : PlainIx b) : PE X (.Subscript a b pos) (tOp r ta tb) := by
  intro pins s σ H Q I h
  exact Subscript_ (binT ha hb I h fun v u s2 x y H2 I2 rx ry q => hr a b pins s2 σ H2 x y v u Q I2 rx ry q (hs _ _))
def rIxL (K : PySem.W.Frag) : R2 := fun x y H Q => ∃ p xs i v, x = .ref p ∧ y = .int i ∧ SqL K H p xs ∧ atI xs i = some v ∧ Q v H
def rIxT (K : PySem.W.Frag) : R2 := fun x y H Q => ∃ p xs i v, x = .ref p ∧ y = .int i ∧ SqT K H p xs ∧ atI xs i = some v ∧ Q v H
theorem ix_list : IxR X (rIxL X.K) := by
  intro value slice pins s σ H x y v u Q I rx ry h hs
  obtain ⟨p, xs, i, z, rfl, rfl, hq, he, q⟩ := h
  cases rx
  obtain ⟨t, rfl⟩ := ry
  obtain ⟨its, r, pl, hz⟩ := I.list hq
  obtain ⟨j, h1, h2, h3, h4, h5⟩ := atI_get he
  obtain ⟨w, ew, rw'⟩ := r.get h2
  have hl := r.length
  have hn := line63
  have fin : EP X pins σ Q w s := ⟨z, H, I, rw', q⟩
  by_cases h0 : 0 ≤ i
  · have hj : i.toNat = j := by
      rw [seqIndex_of h0 h5] at h1
      exact Option.some.inj h1
    exact item_listR pl.isList h0 (by omega) (by rw [hj]; simpa using ew) fin hs
  · have hj : (i + (its.toArray.size : Int)).toNat = j := by
      rw [seqIndex_neg (by omega) h4] at h1
      rw [List.size_toArray, ← hl]
      exact Option.some.inj h1
    exact subscriptTail_builtinR (x := w) pl.isList.typeIs slot_list_getitem.lookup
      (wpAny_getItem_list_neg (Q := fun r s' => r = w ∧ EP X pins σ Q r s') pl.isList (by omega) (by rw [List.size_toArray] <;> omega) (by omega) (by rw [hj]; simpa using ew) ⟨rfl, fin⟩) hs
theorem ix_tup : IxR X (rIxT X.K) := by
  intro value slice pins s σ H x y v u Q I rx ry h hs
  obtain ⟨p, xs, i, z, rfl, rfl, hq, he, q⟩ := h
  cases rx
  obtain ⟨t, rfl⟩ := ry
  obtain ⟨its, r, pl, hz⟩ := I.tuple hq
  obtain ⟨j, h1, h2, h3, h4, h5⟩ := atI_get he
  obtain ⟨w, ew, rw'⟩ := r.get h2
  have hl := r.length
  have hn := line63
  have fin : EP X pins σ Q w s := ⟨z, H, I, rw', q⟩
  exact subscriptTail_builtinR (x := w) pl.typeIs slot_tuple_getitem.lookup
    (getItem_tuple (j := j) (Q := fun r s' => r = w ∧ EP X pins σ Q r s') pl (by omega) (by omega) (by rw [List.size_toArray, ← hl]; exact h1) (by simpa using ew) ⟨rfl, fin⟩) hs
theorem mapSeq_set (its : List Value) (n j : Nat) (u : Value) : Obj.mapSeq (·.setIfInBounds j u) { cls := .type "list", data := .seq its.toArray n } = { cls := .type "list", data := .seq (its.set j u).toArray n } := by
  simp [Obj.mapSeq]
theorem Inv.lst {pins : List (Addr × Obj)} {σ : St} {H : Hp} {s : Shared} {p : Addr} {xs : List V} (I : Inv X pins σ H s) (h : H p = some (.lst xs)) :
    ∃ (its : List Value) (n : Nat), Vals xs its ∧ s.heap.get? p = some { cls := .type "list", data := .seq its.toArray n } ∧ xs.length ≤ sizeLine := by
  obtain ⟨z, its, n, r, e⟩ := I.hok p _ h
  exact ⟨its, n, r, e, z⟩
theorem Inv.lstUpd {pins : List (Addr × Obj)} {σ : St} {H : Hp} {s : Shared} {p : Addr} {xs ys : List V} {its its' : List Value} {n n' : Nat} {f : Obj → Obj} (I : Inv X pins σ H s) (h : H p = some (.lst xs))
    (ho : s.heap.get? p = some { cls := .type "list", data := .seq its.toArray n }) (hf : f { cls := .type "list", data := .seq its.toArray n } = { cls := .type "list", data := .seq its'.toArray n' }) (r : Vals ys its') (hz : ys.length ≤ sizeLine) (t : Nat) :
    Inv X pins σ (upd H p (.lst ys)) { s with heap := s.heap.update p f, toks := t } := by
  have e : (s.heap.update p f).get? p = some { cls := .type "list", data := .seq its'.toArray n' } := by
    rw [Heap.get?_update_self f ho (by rw [hf] <;> rfl), hf]
  refine I.write (x := p) (e := p) (by rw [h]; trivial) (.inl rfl) (fun b u hb q => (Heap.get?_update_other _ _ (Ne.symm hb)).trans q) ⟨_, e⟩ ?_
  exact ⟨hz, its', n', r, e⟩
def rSetL : V → V → V → Hp → (Hp → Prop) → Prop := fun o i v H Q => ∃ p xs k j, o = .ref p ∧ i = .int k ∧ H p = some (.lst xs) ∧ ixN xs.length k = some j ∧ Q (upd H p (.lst (xs.set j v)))
theorem set_list : PSet X rSetL := by
  intro pins s σ H o i v ov iv u Q I ro ri rv h
  obtain ⟨p, xs, k, j, rfl, rfl, hp, hj, q⟩ := h
  cases ro
  obtain ⟨t, rfl⟩ := ri
  obtain ⟨its, n, r, ho, hz⟩ := I.lst hp
  obtain ⟨h1, h2, h3, h4⟩ := ixN_seq hj
  have hl := r.length
  have hn := line63
  have I' : Inv X pins σ (upd H p (.lst (xs.set j v))) { s with heap := s.heap.update p (Obj.mapSeq (·.setIfInBounds j u)) } :=
    I.lstUpd hp ho (mapSeq_set its n j u) (r.set rv j) (by rw [List.length_set]; exact hz) s.toks
  by_cases h0 : 0 ≤ k
  · have hk : k.toNat = j := by
      rw [seqIndex_of h0 h4] at h1
      exact Option.some.inj h1
    exact PySem.W.ki_setAt ho h0 (by omega) (by rw [List.size_toArray, ← hl]; exact h4) (by rw [hk]; exact ⟨_, I', q⟩)
  · have hk : (k + (its.toArray.size : Int)).toNat = j := by
      rw [seqIndex_neg (by omega) h3] at h1
      rw [List.size_toArray, ← hl]
      exact Option.some.inj h1
    exact PySem.W.ki_setBack ho (by omega) (by rw [List.size_toArray, ← hl]; exact h3) (by omega) (by rw [hk]; exact ⟨_, I', q⟩)
theorem slice_bounds (lo hi : Option Int) (n : Nat) : (sliceBounds lo hi none n).1 = ((HT.sIx n 0 lo : Nat) : Int) ∧ (sliceBounds lo hi none n).2.1 = ((HT.sIx n n hi : Nat) : Int) ∧ (sliceBounds lo hi none n).2.2 = 1 := by
  refine ⟨?_, ?_, rfl⟩
  · cases lo with
    | none => simp [sliceBounds, HT.sIx]
    | some i =>
      simp only [sliceBounds, HT.sIx, Option.getD_none, show (1 : Int) > 0 by decide, if_true]
      by_cases h : i < 0
      · simp only [h, if_true] <;> omega
      · simp only [h, if_false] <;> omega
  · cases hi with
    | none => simp [sliceBounds, HT.sIx]
    | some i =>
      simp only [sliceBounds, HT.sIx, Option.getD_none, show (1 : Int) > 0 by decide, if_true]
      by_cases h : i < 0
      · simp only [h, if_true] <;> omega
      · simp only [h, if_false] <;> omega
theorem slicePick_cut (its : List Value) (lo hi : Option Int) : slicePick its.toArray lo hi none = ((its.drop (HT.sIx its.length 0 lo)).take (HT.sIx its.length its.length hi - HT.sIx its.length 0 lo)).toArray := by
  obtain ⟨h1, h2, h3⟩ := slice_bounds lo hi its.toArray.size
  unfold slicePick
  rw [h1, h2, h3]
  simp only [sliceRange_one, pick_run, List.size_toArray] <;> rfl
def rSlL (K : PySem.W.Frag) : V → Option Int → Option Int → Hp → VK → Prop := fun x lo hi H Q => ∃ a xs, x = .ref a ∧ SqL K H a xs ∧ ∀ p, H p = none → Q (.ref p) (upd H p (.lst (cutV xs lo hi)))
theorem sl_list : SlR X (rSlL X.K) := by
  intro pins s σ H x v vl vu lo hi sl Q I rx hs pl pu h
  obtain ⟨a, xs, rfl, hx, q⟩ := h
  cases rx
  obtain ⟨its, r, ht, hz⟩ := I.list hx
  have hlen := r.length
  refine ⟨"list", _, slot_list_getitem.lookup, ht.isList.typeIs, ?_⟩
  refine wpAny_getItem_list_slice ht.isList hs pl pu .none (by simp) ?_ (by rw [List.size_toArray] <;> omega)
  rw [slicePick_cut, ← hlen]
  refine ⟨.ref s.heap.objs.size, _, I.laid (t' := s.toks) (o := .lst (cutV xs lo hi)) (fun b ob q => Heap.get?_push_of_some _ q) (Nat.le_refl _) ?_, rfl, q _ (I.hok.fresh (Nat.le_refl _))⟩
  exact ⟨Nat.le_trans (cutV_length xs lo hi) hz, _, 0, (r.drop (HT.sIx xs.length 0 lo)).take (HT.sIx xs.length xs.length hi - HT.sIx xs.length 0 lo), Heap.get?_push_size _ rfl⟩
def flatV : V → Bool
  | .non => true
  | .bl _ => true
  | .int _ => true
  | .str _ => true
  | _ => false
def eqV : V → V → Bool
  | .non, .non => true
  | .bl a, .bl b => a == b
  | .bl a, .int b => (if a then 1 else 0) == b
  | .int a, .bl b => a == (if b then 1 else 0)
  | .int a, .int b => a == b
  | .str a, .str b => a == b
  | _, _ => false
theorem eqAt_V {A : Around} {s : Shared} {y x : V} {u v : Value} (ry : RelV y u) (rx : RelV x v) (fy : flatV y = true) (fx : flatV x = true) : SeqAt.EqAt A s u v (eqV y x) := by
  cases y with
  | non =>
    cases ry
    cases x with
    | non => cases rx; exact SeqAt.EqAt.same _
    | bl b => cases rx; exact SeqAt.EqAt.none_bool b
    | int b => obtain ⟨t, rfl⟩ := rx; exact SeqAt.EqAt.none_int b t
    | str b => obtain ⟨t, rfl⟩ := rx; exact SeqAt.EqAt.none_str b t
    | _ => exact absurd (show false = true from fx) Bool.false_ne_true
  | bl a =>
    cases ry
    cases x with
    | non => cases rx; exact SeqAt.EqAt.bool_none a
    | bl b => cases rx; exact SeqAt.EqAt.bool_bool a b
    | int b => obtain ⟨t, rfl⟩ := rx; exact SeqAt.EqAt.bool_int a b t
    | str b => obtain ⟨t, rfl⟩ := rx; exact SeqAt.EqAt.bool_str a b t
    | _ => exact absurd (show false = true from fx) Bool.false_ne_true
  | int a =>
    obtain ⟨t', rfl⟩ := ry
    cases x with
    | non => cases rx; exact SeqAt.EqAt.int_none a t'
    | bl b => cases rx; exact SeqAt.EqAt.int_bool a t' b
    | int b => obtain ⟨t, rfl⟩ := rx; exact SeqAt.EqAt.int_int a t' b t
    | str b => obtain ⟨t, rfl⟩ := rx; exact SeqAt.EqAt.int_str a t' b t
    | _ => exact absurd (show false = true from fx) Bool.false_ne_true
  | str a =>
    obtain ⟨t', rfl⟩ := ry
    cases x with
    | non => cases rx; exact SeqAt.EqAt.str_none a t'
    | bl b => cases rx; exact SeqAt.EqAt.str_bool a t' b
    | int b => obtain ⟨t, rfl⟩ := rx; exact SeqAt.EqAt.str_int a t' b t
    | str b => obtain ⟨t, rfl⟩ := rx; exact SeqAt.EqAt.str_str a t' b t
    | _ => exact absurd (show false = true from fx) Bool.false_ne_true
  | _ => exact absurd (show false = true from fy) Bool.false_ne_true
def eqU (x : V) (u : Value) : Bool := match u with
  | .none => eqV .non x
  | .bool b => eqV (.bl b) x
  | .int i _ => eqV (.int i) x
  | .str z _ => eqV (.str z) x
  | _ => false
theorem eqU_of {x y : V} {u : Value} (r : RelV y u) (f : flatV y = true) : eqU x u = eqV y x := by
  cases y with
  | non => cases r; rfl
  | bl b => cases r; rfl
  | int i => obtain ⟨t, rfl⟩ := r; rfl
  | str z => obtain ⟨t, rfl⟩ := r; rfl
  | _ => exact absurd (show false = true from f) Bool.false_ne_true
theorem any_eqU {x : V} : ∀ {xs : List V} {us : List Value}, Vals xs us → xs.all flatV = true → us.any (eqU x) = xs.any fun y => eqV y x
  | _, _, .nil, _ => rfl
  | y :: xs, u :: us, .cons r t, f => by
    rw [List.all_cons, Bool.and_eq_true] at f
    rw [List.any_cons, List.any_cons, eqU_of r f.1, any_eqU t f.2]
theorem mem_eqAt {A : Around} {s : Shared} {x : V} {v : Value} (rx : RelV x v) (fx : flatV x = true) : ∀ {xs : List V} {us : List Value}, Vals xs us → xs.all flatV = true → ∀ u ∈ us, SeqAt.EqAt A s u v (eqU x u)
  | _, _, .nil, _ => fun u hu => by cases hu
  | y :: xs, u :: us, .cons r t, f => fun u' hu => by
    rw [List.all_cons, Bool.and_eq_true] at f
    rcases List.mem_cons.mp hu with rfl | hu
    · rw [eqU_of r f.1]; exact eqAt_V r rx f.1 fx
    · exact mem_eqAt rx fx t f.2 u' hu
def inV (x : V) (xs : List V) : Bool := xs.any fun y => eqV y x
def rIn (K : PySem.W.Frag) (neg : Bool) : R2 := fun x y H Q => ∃ p xs, y = .ref p ∧ (SqL K H p xs ∨ SqT K H p xs) ∧ flatV x = true ∧ xs.all flatV = true ∧ Q (.bl (if neg then !inV x xs else inV x xs)) H
theorem op_in_seq : OpR X (compareOp .In) (rIn X.K false) := by
  intro pins s σ H x y v u Q I rx ry h
  obtain ⟨p, xs, rfl, hq, fx, fs, q⟩ := h
  cases ry
  rcases hq with hq | hq
  · obtain ⟨its, r, pl, hz⟩ := I.list hq
    refine SeqAt.in_listAt (eqU x) pl.isList (fun w hw => mem_eqAt rx fx r fs w (by simpa using hw)) ⟨.bl _, H, I, rfl, ?_⟩
    rw [show its.toArray.any (eqU x) = its.any (eqU x) by simp, any_eqU r fs]
    exact q
  · obtain ⟨its, r, pl, hz⟩ := I.tuple hq
    refine SeqAt.in_tupleAt (eqU x) pl (fun w hw => mem_eqAt rx fx r fs w (by simpa using hw)) ⟨.bl _, H, I, rfl, ?_⟩
    rw [show its.toArray.any (eqU x) = its.any (eqU x) by simp, any_eqU r fs]
    exact q
theorem op_notIn_seq : OpR X (compareOp .NotIn) (rIn X.K true) := by
  intro pins s σ H x y v u Q I rx ry h
  obtain ⟨p, xs, rfl, hq, fx, fs, q⟩ := h
  cases ry
  rcases hq with hq | hq
  · obtain ⟨its, r, pl, hz⟩ := I.list hq
    refine SeqAt.notIn_listAt (eqU x) pl.isList (fun w hw => mem_eqAt rx fx r fs w (by simpa using hw)) ⟨.bl _, H, I, rfl, ?_⟩
    rw [show its.toArray.any (eqU x) = its.any (eqU x) by simp, any_eqU r fs]
    exact q
  · obtain ⟨its, r, pl, hz⟩ := I.tuple hq
    refine SeqAt.notIn_tupleAt (eqU x) pl (fun w hw => mem_eqAt rx fx r fs w (by simpa using hw)) ⟨.bl _, H, I, rfl, ?_⟩
    rw [show its.toArray.any (eqU x) = its.any (eqU x) by simp, any_eqU r fs]
    exact q
theorem call_len_seq : CallR X (.builtin "len") (fun xs H Q => ∃ p ys, xs = [.ref p] ∧ (SqL X.K H p ys ∨ SqT X.K H p ys) ∧ Q (.int ys.length) H) := by
  intro pins s σ H xs us Q I r h
  obtain ⟨p, ys, rfl, hq, q⟩ := h
  obtain ⟨u, rfl, rx⟩ := vals1 r
  cases rx
  have hn := line63
  rcases hq with hq | hq
  · obtain ⟨its, r', pl, hz⟩ := I.list hq
    have hlen := r'.length
    exact Calls.call_len_list pl.isList (by simp only [List.size_toArray] <;> omega) ⟨.int ys.length, H, I.tok _, ⟨s.toks + 1, by rw [List.size_toArray, hlen]⟩, q⟩
  · obtain ⟨its, r', pl, hz⟩ := I.tuple hq
    have hlen := r'.length
    exact len_tuple pl (by simp only [List.size_toArray] <;> omega) ⟨.int ys.length, H, I.tok _, ⟨s.toks + 1, by rw [List.size_toArray, hlen]⟩, q⟩
theorem CallR.or {f : Value} {r r' : List V → Hp → VK → Prop} (h : CallR X f r) (h' : CallR X f r') : CallR X f (fun xs H Q => r xs H Q ∨ r' xs H Q) := by
  intro pins s σ H xs us Q I rs q
  rcases q with q | q
  · exact h pins s σ H xs us Q I rs q
  · exact h' pins s σ H xs us Q I rs q
theorem call_list_of : CallR X (.type "list") (fun xs H Q => ∃ p ys, xs = [.ref p] ∧ (SqL X.K H p ys ∨ SqT X.K H p ys) ∧ ∀ l, H l = none → Q (.ref l) (upd H l (.lst ys))) := by
  intro pins s σ H xs us Q I r h
  obtain ⟨p, ys, rfl, hq, q⟩ := h
  obtain ⟨u, rfl, rx⟩ := vals1 r
  cases rx
  have fin : ∀ (its : List Value), Vals ys its → ys.length ≤ sizeLine → ∀ (h' : Heap) (c' : Nat), (∀ b o', s.heap.get? b = some o' → h'.get? b = some o') →
      h'.get? s.heap.objs.size = some { cls := .type "list", dict := none, data := .seq its.toArray c', slots := #[] } → EP X pins σ Q (.ref s.heap.objs.size) { s with heap := h' } := fun its r' hz h' c' kp e =>
    ⟨.ref s.heap.objs.size, _, I.laid (t' := s.toks) kp (Nat.le_refl _) (show ObjOk X.prog X.w _ h' _ (.lst ys) from ⟨hz, its, c', r', e⟩), rfl, q _ (I.hok.fresh (Nat.le_refl _))⟩
  rcases hq with hq | hq
  · obtain ⟨its, r', pl, hz⟩ := I.list hq
    have hlen := r'.length
    obtain ⟨o, ho, hc, n, hd⟩ := pl.isList
    exact call_list_seq p (.inl rfl) ho hc hd (fun h' c' kp e => fin its r' hz h' c' kp e) (by simp only [List.size_toArray] <;> omega)
  · obtain ⟨its, r', pl, hz⟩ := I.tuple hq
    have hlen := r'.length
    obtain ⟨o, ho, hc, n, hd⟩ := pl
    exact call_list_seq p (.inr rfl) ho hc hd (fun h' c' kp e => fin its r' hz h' c' kp e) (by simp only [List.size_toArray] <;> omega)
theorem call_tuple_of : CallR X (.type "tuple") (fun xs H Q => ∃ p ys, xs = [.ref p] ∧ ((SqL X.K H p ys ∧ ∀ l, H l = none → Q (.ref l) (upd H l (.tup ys))) ∨ (SqT X.K H p ys ∧ Q (.ref p) H))) := by
  intro pins s σ H xs us Q I r h
  obtain ⟨p, ys, rfl, h⟩ := h
  obtain ⟨u, rfl, rx⟩ := vals1 r
  cases rx
  rcases h with ⟨hq, q⟩ | ⟨hq, q⟩
  · obtain ⟨its, r', pl, hz⟩ := I.list hq
    have hlen := r'.length
    refine call_tuple_list pl.isList (fun h' kp => ?_) (by simp only [List.size_toArray] <;> omega)
    have I1 : Inv X pins σ H { s with heap := h' } := I.kept (t' := s.toks) kp
    have I2 : Inv X pins σ (upd H h'.objs.size (.tup ys)) { s with heap := h'.push { cls := .type "tuple", data := .seq its.toArray } } :=
      I1.laid (t' := s.toks) (fun b o e => Heap.get?_push_of_some _ e) (Nat.le_refl _) (show ObjOk X.prog X.w _ _ _ (.tup ys) from ⟨hz, its, r', IsTup.new _ _⟩)
    exact ⟨.ref h'.objs.size, _, I2, rfl, q _ (I1.hok.fresh (Nat.le_refl _))⟩
  · obtain ⟨its, r', pl, hz⟩ := I.tuple hq
    exact call_tuple_same pl ⟨.ref p, H, I, rfl, q⟩
def tyV (K : PySem.W.Frag) (T : String) (x : V) (H : Hp) : Prop := match x with
  | .str _ => T = "str"
  | .int _ => T = "int"
  | .ref p => (T = "list" ∧ ∃ xs, SqL K H p xs) ∨ (T = "tuple" ∧ ∃ o, K.lookup p = some o ∧ o.cls = .type "tuple" ∧ o.dict = none) ∨
      (T = "dict" ∧ ((∃ kvs, H p = some (.dK kvs)) ∨ ∃ kvs, H p = some (.dT kvs))) ∨ (T = "set" ∧ ∃ S n, H p = some (.set S n))
  | _ => False
theorem tyV_is {pins : List (Addr × Obj)} {σ : St} {H : Hp} {s : Shared} {T : String} {x : V} {v : Value} (I : Inv X pins σ H s) (r : RelV x v) (ty : tyV X.K T x H) :
    s.TypeIs v T ∧ ∀ a, v = .ref a → ∃ ob, s.heap.get? a = some ob ∧ ob.dict = none := by
  cases x with
  | str z =>
    obtain ⟨t, rfl⟩ := r
    cases (show T = "str" from ty)
    exact ⟨typeIs_str s z t, fun _ e => nomatch e⟩
  | int i =>
    obtain ⟨t, rfl⟩ := r
    cases (show T = "int" from ty)
    exact ⟨typeIs_int s i t, fun _ e => nomatch e⟩
  | ref p =>
    cases r
    rcases ty with ⟨rfl, xs, hq⟩ | ⟨rfl, o, hk, hc, hd⟩ | ⟨rfl, hk⟩ | ⟨rfl, S, n, hk⟩
    · obtain ⟨its, _, pl, _⟩ := I.list hq
      refine ⟨pl.isList.typeIs, fun a e => ?_⟩
      cases e
      obtain ⟨o, n, e, c, hd, _⟩ := pl
      exact ⟨o, e, hd⟩
    · refine ⟨⟨o, I.kIn p o hk, hc⟩, fun a e => ?_⟩
      cases e
      exact ⟨o, I.kIn _ o hk, hd⟩
    · have z : ∃ o, s.heap.get? p = some o ∧ o.ExactDict := by
        rcases hk with ⟨kvs, hk⟩ | ⟨kvs, hk⟩
        · obtain ⟨_, _, _, _, o, _, _, e, ex, _⟩ := I.hok p _ hk
          exact ⟨o, e, ex⟩
        · obtain ⟨_, _, _, _, o, _, _, e, ex, _⟩ := I.hok p _ hk
          exact ⟨o, e, ex⟩
      obtain ⟨o, e, ex⟩ := z
      refine ⟨⟨o, e, ex.1⟩, fun a e2 => ?_⟩
      cases e2
      exact ⟨o, e, ex.2.1⟩
    · obtain ⟨o, _, _, _, e, ex, _⟩ := I.hok p _ hk
      refine ⟨⟨o, e, ex.1⟩, fun a e2 => ?_⟩
      cases e2
      exact ⟨o, e, ex.2.1⟩
  | _ => exact False.elim ty
def tBM0 (K : PySem.W.Frag) (T : String) (r : V → List V → Hp → VK → Prop) (to : TE) : TE := fun σ H Q => to σ H fun x H1 => tyV K T x H1 ∧ r x [] H1 Q
def tBM (K : PySem.W.Frag) (T : String) (r : V → List V → Hp → VK → Prop) (to : TE) (t : TA) : TE := fun σ H Q => to σ H fun x H1 => tyV K T x H1 ∧ t σ H1 fun xs H2 => r x xs H2 Q
variable {o e : Expr} {es : List Expr} {to : TE} {t : TA} {name : Str} {apos cpos : Pos} {T id : String} {r : V → List V → Hp → VK → Prop}
theorem pe_bm0 (pa : PlainAttrs T) (slot : Slot T name id) (hty : typeOf (.builtin id) = pure (.type "method_descriptor")) (hm : MtR X id r) (ho : PE X o to)
    (hbase : attributeBase o name X.env (eval o X.env) = eval o X.env := by rfl) (hline : (apos.endLine == cpos.line) = true := by rfl) : PE X (.Call (.Attribute o name apos) [] [] cpos) (tBM0 X.K T r to) := by
  intro pins s σ H Q I h
  refine wpAny_Call_method0_late hbase hline (thn (ho pins s σ H _ I h) fun v s1 ⟨x, H1, I1, r1, ty, q1⟩ => ?_)
  obtain ⟨h1, h2⟩ := tyV_is I1 r1 ty
  exact ⟨T, id, pa, slot, hty, h1, h2, Calls.callWith_builtin rfl (PySem.evalArgs_none (hm pins s1 σ H1 x [] v [] Q I1 r1 .nil q1))⟩
theorem pe_bm (pa : PlainAttrs T) (slot : Slot T name id) (hty : typeOf (.builtin id) = pure (.type "method_descriptor")) (hm : MtR X id r) (ho : PE X o to) (ha : PA X (e :: es) t)
    (hbase : attributeBase o name X.env (eval o X.env) = eval o X.env := by rfl)
    (hfew : ((backTo cpos (starEach (e :: es) X.env)).all (fun x => !x.1) && (backToKw cpos (keywordEach [] X.env)).all (fun x => x.1.isSome)
      && decide ((e :: es).length + ([] : List Keyword).length + (if ([] : List Keyword).isEmpty then 0 else 1) < 30)) = true := by rfl)
    (hline : (apos.endLine == cpos.line) = true := by rfl) (hs : starEach (e :: es) X.env = (false, eval e X.env) :: starEach es X.env := by rfl) (hplain : (backTo cpos (starEach es X.env)).any (·.1) = false := by rfl) :
    PE X (.Call (.Attribute o name apos) (e :: es) [] cpos) (tBM X.K T r to t) := by
  intro pins s σ H Q I h
  refine wpAny_Call_method_late hbase hfew hline rfl (thn (ho pins s σ H _ I h) fun v s1 ⟨x, H1, I1, r1, ty, q1⟩ => ?_)
  obtain ⟨h1, h2⟩ := tyV_is I1 r1 ty
  refine ⟨T, id, pa, slot, hty, h1, h2, ?_⟩
  have hA := ha cpos pins s1 σ H1 _ I1 q1
  rw [hs] at hA ⊢
  refine Calls.callWith_builtin (by show (false || (backTo cpos (starEach es X.env)).any (·.1)) = false; rw [hplain] <;> rfl) (Calls.evalArgs_plain ?_)
  exact thn hA fun us s2 ⟨vs, H2, I2, r2, q2⟩ => hm pins s2 σ H2 x vs v us Q I2 r1 r2 q2
end
end L2
namespace L2
open PySem PySem.Spec PyProof.Rows
def MtM (X : Cx) (id : String) (r : V → List V → Hp → VK → Prop) : Prop :=
  ∀ (pins : List (Addr × Obj)) (s : Shared) (σ : St) (H : Hp) (x : V) (xs : List V) (v : Value) (us : List Value) (Q : VK), Inv X pins σ H s → RelV x v → Vals xs us → r x xs H Q →
    wpAny (model X.prog X.w) X.A (call (.builtin id) (v :: us)) (EP X pins σ Q) X.xe s
theorem Vals.one : ∀ {x : V} {us : List Value}, Vals [x] us → ∃ u, us = [u] ∧ RelV x u
  | _, _, .cons r .nil => ⟨_, rfl, r⟩
theorem Vals.zero : ∀ {us : List Value}, Vals [] us → us = []
  | _, .nil => rfl
theorem Vals.dropLast {xs : List V} {us : List Value} (h : Vals xs us) : Vals xs.dropLast us.dropLast := by
  induction h with
  | nil => exact .nil
  | cons r t ih =>
    cases t with
    | nil => exact .nil
    | cons q t' => exact .cons r ih
theorem Vals.eraseIdx : ∀ {xs : List V} {us : List Value} (i : Nat), Vals xs us → Vals (xs.eraseIdx i) (us.eraseIdx i)
  | _, _, _, .nil => .nil
  | _, _, 0, .cons _ t => t
  | _, _, i + 1, .cons r t => .cons r (Vals.eraseIdx i t)
theorem erase_last {α : Type} (l : List α) : l.eraseIdx (l.length - 1) = l.dropLast := by
  induction l with
  | nil => rfl
  | cons a r ih =>
    cases r with
    | nil => rfl
    | cons b r =>
      have e : (a :: b :: r).length - 1 = ((b :: r).length - 1) + 1 := by
        have h1 : (a :: b :: r).length = r.length + 2 := rfl
        have h2 : (b :: r).length = r.length + 1 := rfl
        omega
      rw [e, List.eraseIdx_cons_succ, ih]
      all_goals rfl
theorem len_erase {α : Type} : ∀ (l : List α) (i : Nat), (l.eraseIdx i).length ≤ l.length
  | [], _ => Nat.le_refl _
  | _ :: _, 0 => Nat.le_succ _
  | _ :: r, i + 1 => Nat.succ_le_succ (len_erase r i)
section
variable {X : Cx} {pins : List (Addr × Obj)} {σ : St} {H : Hp} {s : Shared} {l b : Addr} {xs ys zs : List V}
theorem Inv.lset {its its' : List Value} {n : Nat} {f : Array Value → Array Value} {t' : Nat} (I : Inv X pins σ H s) (hH : H l = some (.lst xs))
    (e : s.heap.get? l = some { cls := .type "list", data := .seq its.toArray n }) (hf : f its.toArray = its'.toArray) (hv : Vals ys its') (hz : ys.length ≤ sizeLine) :
    Inv X pins σ (upd H l (.lst ys)) { s with heap := s.heap.update l (Obj.mapSeq f), toks := t' } := by
  have q := PySem.IsL.update e f
  rw [hf] at q
  refine I.write (x := l) (e := l) (by rw [hH]; exact trivial) (.inl rfl) (fun b' u hb hu => (Heap.get?_update_other s.heap (Obj.mapSeq f) (Ne.symm hb)).trans hu) ⟨_, q⟩ ?_
  exact ⟨hz, its', _, hv, q⟩
theorem Inv.lnew {its : List Value} {t' : Nat} (I : Inv X pins σ H s) (hv : Vals ys its) (hz : ys.length ≤ sizeLine) :
    Inv X pins σ (upd H s.heap.objs.size (.lst ys)) { s with heap := s.heap.push { cls := .type "list", data := .seq its.toArray }, toks := t' } :=
  I.laid (fun _ _ q => Heap.get?_push_of_some _ q) (Nat.le_refl _) ⟨hz, its, 0, hv, Heap.get?_push_size _ rfl⟩
theorem Inv.fresh (I : Inv X pins σ H s) : H s.heap.objs.size = none := I.hok.fresh (Nat.le_refl _)
theorem Inv.lstM (I : Inv X pins σ H s) (hH : H l = some (.lst xs)) : xs.length ≤ sizeLine ∧ ∃ (its : List Value) (n : Nat), Vals xs its ∧ xs.length = its.length ∧ s.heap.get? l = some { cls := .type "list", data := .seq its.toArray n } := by
  obtain ⟨z, its, n, r, e⟩ := I.hok l _ hH
  exact ⟨z, its, n, r, r.length, e⟩
end
section
variable {X : Cx}
def rAppend : V → List V → Hp → VK → Prop := fun x vs H Q => ∃ l xs y, x = .ref l ∧ vs = [y] ∧ H l = some (.lst xs) ∧ xs.length < sizeLine ∧ Q .non (upd H l (.lst (xs ++ [y])))
theorem mt_append : MtM X "list.append" rAppend := by
  intro pins s σ H x vs v us Q I rx rv h
  obtain ⟨l, xs, y, rfl, rfl, hH, hz, q⟩ := h
  cases rx
  obtain ⟨u, rfl, ru⟩ := rv.one
  obtain ⟨z, its, n, r, hl, e⟩ := I.lstM hH
  refine call_meets F.slot_list_append ⟨_, e, rfl⟩ F.entry_list_append (F.args_list_append_2 _ _) (PySem.list_append l its.toArray n u (by rw [List.size_toArray]; omega)) ⟨e, ?_⟩
  refine ⟨.non, _, I.lset (its' := its ++ [u]) hH e (by simp) (r.append (.cons ru .nil)) ?_, rfl, q⟩
  rw [List.length_append, List.length_singleton]
  omega
def rPop : V → List V → Hp → VK → Prop := fun x vs H Q => ∃ l xs y, x = .ref l ∧ vs = [] ∧ H l = some (.lst xs) ∧ xs[xs.length - 1]? = some y ∧ Q y (upd H l (.lst xs.dropLast))
theorem mt_pop : MtM X "list.pop" rPop := by
  intro pins s σ H x vs v us Q I rx rv h
  obtain ⟨l, xs, y, rfl, rfl, hH, hy, q⟩ := h
  cases rx
  have hus := rv.zero
  subst hus
  obtain ⟨z, its, n, r, hl, e⟩ := I.lstM hH
  obtain ⟨u, hu, ru⟩ := r.get hy
  have hy' : its.toArray[its.toArray.size - 1]? = some u := by
    show its.toArray[its.length - 1]? = some u
    rw [← Array.getElem?_toList, ← hl]
    exact hu
  refine call_meets F.slot_list_pop ⟨_, e, rfl⟩ F.entry_list_pop (F.args_list_pop_1 _) (MeetsSeq.list_pop_last l its.toArray n u hy' (by rw [List.size_toArray]; omega)) ⟨e, ?_⟩
  refine ⟨y, _, I.lset (its' := its.dropLast) hH e ?_ r.dropLast ?_, ru, q⟩
  · show its.toArray.eraseIdxIfInBounds (its.toArray.size - 1) = its.dropLast.toArray
    rw [List.size_toArray, List.eraseIdxIfInBounds_toArray, erase_last]
  · rw [List.length_dropLast]
    omega
def rPopAt : V → List V → Hp → VK → Prop := fun x vs H Q => ∃ l xs i k y, x = .ref l ∧ vs = [.int i] ∧ H l = some (.lst xs) ∧ -(2 ^ 63) ≤ i ∧ i < 2 ^ 63 ∧ seqIndex? i xs.length = some k ∧ xs[k]? = some y ∧ Q y (upd H l (.lst (xs.eraseIdx k)))
theorem mt_popAt : MtM X "list.pop" rPopAt := by
  intro pins s σ H x vs v us Q I rx rv h
  obtain ⟨l, xs, i, k, y, rfl, rfl, hH, h1, h2, hk, hy, q⟩ := h
  cases rx
  obtain ⟨u, rfl, ru⟩ := rv.one
  obtain ⟨t, rfl⟩ := ru
  obtain ⟨z, its, n, r, hl, e⟩ := I.lstM hH
  obtain ⟨w, hw, rw'⟩ := r.get hy
  refine call_meets F.slot_list_pop ⟨_, e, rfl⟩ F.entry_list_pop (F.args_list_pop_2 _ _)
    (MeetsSeq.list_pop_at l its.toArray n i t k w (fitsIndex_both h1 h2) (by rw [List.size_toArray, ← hl]; exact hk) (by rw [← Array.getElem?_toList]; exact hw) (by rw [List.size_toArray]; omega)) ⟨e, ?_⟩
  refine ⟨y, _, I.lset (its' := its.eraseIdx k) hH e ?_ (r.eraseIdx k) ?_, rw', q⟩
  · show its.toArray.eraseIdxIfInBounds k = (its.eraseIdx k).toArray
    rw [List.eraseIdxIfInBounds_toArray]
  · have := len_erase xs k
    omega
def rCat : R2 := fun x y H Q => ∃ l b xs zs, x = .ref l ∧ y = .ref b ∧ H l = some (.lst xs) ∧ H b = some (.lst zs) ∧ xs.length + zs.length ≤ sizeLine ∧ ∀ p, H p = none → Q (.ref p) (upd H p (.lst (xs ++ zs)))
theorem op_cat : OpR X (binaryOp .Add) rCat := by
  intro pins s σ H x y v u Q I rx ry h
  obtain ⟨l, b, xs, zs, rfl, rfl, hH, hB, hz, q⟩ := h
  cases rx
  cases ry
  obtain ⟨z, its, n, r, hl, e⟩ := I.lstM hH
  obtain ⟨z2, its2, n2, r2, hl2, e2⟩ := I.lstM hB
  refine PySem.P.add_list e e2 ?_ (by rw [List.size_toArray, List.size_toArray]; omega)
  have ea : its.toArray ++ its2.toArray = (its ++ its2).toArray := by simp
  rw [ea]
  exact ⟨.ref _, _, I.lnew (t' := s.toks) (r.append r2) (by rw [List.length_append]; omega), rfl, q _ I.fresh⟩
end
section
variable {prog : Program} {w : World} {A : Around} {E : Value → Shared → Prop} {s : Shared}
end
section
variable {X : Cx}
end
end L2
namespace L2
open PySem PySem.Spec PyProof.Rows
section
variable {κ : Type} [DecidableEq κ]
def valV (kvs : List (κ × V)) (k : κ) : Option V := (kvs.find? fun kv => decide (kv.1 = k)).map (·.2)
def putK (kvs : List (κ × V)) (k : κ) (v : V) : List (κ × V) :=
  if (kvs.any fun kv => decide (kv.1 = k)) = true then kvs.map (fun kv => if kv.1 = k then (kv.1, v) else kv) else kvs ++ [(k, v)]
theorem valV_pos {p : κ × V} {r : List (κ × V)} {k : κ} (e : p.1 = k) : valV (p :: r) k = some p.2 := by simp [valV, List.find?_cons, e]
theorem valV_neg {p : κ × V} {r : List (κ × V)} {k : κ} (e : ¬ p.1 = k) : valV (p :: r) k = valV r k := by simp [valV, List.find?_cons, e]
theorem valV_any (k : κ) : ∀ kvs : List (κ × V), (kvs.any fun kv => decide (kv.1 = k)) = (valV kvs k).isSome
  | [] => rfl
  | p :: r => by
    rw [List.any_cons]
    by_cases e : p.1 = k
    · simp only [valV_pos e, decide_eq_true e, Bool.true_or, Option.isSome_some]
    · rw [valV_neg e, decide_eq_false e, Bool.false_or]; exact valV_any k r
theorem length_putK (kvs : List (κ × V)) (k : κ) (v : V) : (putK kvs k v).length ≤ kvs.length + 1 := by
  unfold putK
  split
  · rw [List.length_map]; omega
  · rw [List.length_append, List.length_cons, List.length_nil]; omega
theorem RelO.isSome_eq {o : Option V} {u : Option Value} (r : RelO o u) : o.isSome = u.isSome := by
  cases o with
  | none => cases u with
    | none => rfl
    | some _ => exact (show False from r).elim
  | some _ => cases u with
    | none => exact (show False from r).elim
    | some _ => rfl
theorem RelO.getD {o : Option V} {u : Option Value} {d : V} {d' : Value} (r : RelO o u) (rd : RelV d d') : RelV (o.getD d) (u.getD d') := by
  cases o with
  | none => cases u with
    | none => exact rd
    | some _ => exact (show False from r).elim
  | some _ => cases u with
    | none => exact (show False from r).elim
    | some _ => exact r
theorem KV.val {kvs : List (κ × V)} {vs : List (κ × Value)} (r : KV kvs vs) (k : κ) : RelO (valV kvs k) (valueAt vs k) := by
  unfold KV at r
  induction r with
  | nil => exact True.intro
  | @cons p q ps qs h t ih =>
    obtain ⟨h1, h2⟩ := h
    by_cases e : p.1 = k
    · have e' : q.1 = k := h1.symm.trans e
      have b : valueAt (q :: qs) k = some q.2 := by simp [valueAt, List.find?_cons, e']
      rw [valV_pos e, b]; exact h2
    · have e' : ¬ q.1 = k := fun z => e (h1.trans z)
      have b : valueAt (q :: qs) k = valueAt qs k := by simp [valueAt, List.find?_cons, e']
      rw [valV_neg e, b]; exact ih
theorem KV.any {kvs : List (κ × V)} {vs : List (κ × Value)} (r : KV kvs vs) (k : κ) : (kvs.any fun kv => decide (kv.1 = k)) = vs.any fun kv => decide (kv.1 = k) := by
  unfold KV at r
  induction r with
  | nil => rfl
  | cons h t ih => rw [List.any_cons, List.any_cons, ih, h.1]
theorem KV.repl {kvs : List (κ × V)} {vs : List (κ × Value)} (r : KV kvs vs) (k : κ) {y : V} {u : Value} (ry : RelV y u) :
    KV (kvs.map fun kv => if kv.1 = k then (kv.1, y) else kv) (vs.map fun kv => if kv.1 = k then (kv.1, u) else kv) := by
  unfold KV at r ⊢
  induction r with
  | nil => exact .nil
  | @cons p q ps qs h t ih =>
    rw [List.map_cons, List.map_cons]
    refine .cons ?_ ih
    obtain ⟨h1, h2⟩ := h
    by_cases e : p.1 = k
    · rw [if_pos e, if_pos (h1.symm.trans e)]; exact ⟨h1, ry⟩
    · rw [if_neg e, if_neg (fun z => e (h1.trans z))]; exact ⟨h1, h2⟩
theorem KV.put {kvs : List (κ × V)} {vs : List (κ × Value)} (r : KV kvs vs) (k : κ) {y : V} {u : Value} (ry : RelV y u) : KV (putK kvs k y) (stored vs k u) := by
  unfold putK stored
  rw [r.any k]
  by_cases e : (vs.any fun kv => decide (kv.1 = k)) = true
  · rw [if_pos e, if_pos e]; exact r.repl k ry
  · rw [if_neg e, if_neg e]; exact Paired.snoc r ⟨rfl, ry⟩
theorem KV.length {kvs : List (κ × V)} {vs : List (κ × Value)} (r : KV kvs vs) : kvs.length = vs.length := Paired.length r
end
theorem kV_is {P : Program} {w : World} {k : Key} {u : Value} (r : RelV (kV k) u) : (mixKind P w).is k u = true := by
  cases k with
  | inl i => obtain ⟨t, e⟩ := (show ∃ t, u = Value.int i t from r); subst e; exact mixKind_int P w i t
  | inr x => obtain ⟨t, e⟩ := (show ∃ t, u = Value.str x t from r); subst e; exact mixKind_str P w x t
theorem items_are {P : Program} {w : World} : ∀ {ks : List Key} {us : List Value}, Vals (ks.map kV) us → ItemsAre (mixKind P w) ks us
  | [], _, r => by rw [List.map_nil] at r; cases r; exact .nil
  | k :: ks, _, r => by
    rw [List.map_cons] at r
    cases r with
    | cons h t => exact .cons (kV_is h) (items_are t)
abbrev KT (H : Hp) : List (List Key × V) → List (List Key × Addr × Value) → Prop := Paired fun p q => p.1 = q.1 ∧ H q.2.1 = some (.tup (p.1.map kV)) ∧ RelV p.2 q.2.2
theorem KT.val {H : Hp} {kvs : List (List Key × V)} {xs : List (List Key × Addr × Value)} (r : KT H kvs xs) (k : List Key) : RelO (valV kvs k) ((atKey xs k).map (·.2)) := by
  induction r with
  | nil => exact True.intro
  | @cons p q ps qs h t ih =>
    obtain ⟨h1, _, h2⟩ := h
    by_cases e : p.1 = k
    · have e' : q.1 = k := h1.symm.trans e
      have b : atKey (q :: qs) k = some q.2 := by simp [atKey, List.find?_cons, e']
      rw [valV_pos e, b]; exact h2
    · have e' : ¬ q.1 = k := fun z => e (h1.trans z)
      have b : atKey (q :: qs) k = atKey qs k := by simp [atKey, List.find?_cons, e']
      rw [valV_neg e, b]; exact ih
theorem KT.repl {H : Hp} {kvs : List (List Key × V)} {xs : List (List Key × Addr × Value)} (r : KT H kvs xs) (k : List Key) {y : V} {u : Value} (ry : RelV y u) :
    KT H (kvs.map fun kv => if kv.1 = k then (kv.1, y) else kv) (xs.map (putAt k u)) := by
  induction r with
  | nil => exact .nil
  | @cons p q ps qs h t ih =>
    rw [List.map_cons, List.map_cons]
    refine .cons ?_ ih
    obtain ⟨h1, h2, h3⟩ := h
    unfold putAt
    by_cases e : p.1 = k
    · rw [if_pos e, if_pos (h1.symm.trans e)]; exact ⟨h1, h2, ry⟩
    · rw [if_neg e, if_neg (fun z => e (h1.trans z))]; exact ⟨h1, h2, h3⟩
theorem KT.put {H : Hp} {kvs : List (List Key × V)} {xs : List (List Key × Addr × Value)} (r : KT H kvs xs) (k : List Key) {b : Addr} {y : V} {u : Value} (hb : H b = some (.tup (k.map kV))) (ry : RelV y u) :
    KT H (putK kvs k y) (storedH xs k b u) := by
  have e : (kvs.any fun kv => decide (kv.1 = k)) = (atKey xs k).isSome := by
    rw [valV_any, (r.val k).isSome_eq, Option.isSome_map]
  unfold putK storedH
  rw [e]
  by_cases q : (atKey xs k).isSome = true
  · rw [if_pos q, if_pos q]; exact r.repl k ry
  · rw [if_neg q, if_neg q]; exact Paired.snoc r ⟨rfl, hb, ry⟩
theorem KT.keeps {H H' : Hp} {kvs : List (List Key × V)} {xs : List (List Key × Addr × Value)} (r : KT H kvs xs) (ht : ∀ b ys, H b = some (.tup ys) → H' b = some (.tup ys)) : KT H' kvs xs :=
  Paired.mapP r fun _ _ z => ⟨z.1, ht _ _ z.2.1, z.2.2⟩
section
variable {P : Program} {w : World} {H : Hp} {h : Heap} {a : Addr}
theorem rd_of {u : HO} (ok : HOk P w H h) (e : Rd H a u) : ObjOk P w H h a u := e.ok ok
theorem dk_rd {kvs : List (Key × V)} (ok : HOk P w H h) (e : Rd H a (.dK kvs)) : kvs.length ≤ sizeLine ∧ (a == sysModules) = false ∧ ∃ vs, KV kvs vs ∧ h.DictOf (mixKind P w) a vs :=
  show ObjOk P w H h a (.dK kvs) from rd_of ok e
theorem dk_of {kvs : List (Key × V)} (ok : HOk P w H h) (e : H a = some (.dK kvs)) : kvs.length ≤ sizeLine ∧ (a == sysModules) = false ∧ ∃ vs, KV kvs vs ∧ h.DictOf (mixKind P w) a vs := dk_rd ok (.inl e)
theorem key_of {ks : List Key} (ok : HOk P w H h) (e : H a = some (.tup (ks.map kV))) : (tupleKind (mixKind P w)).is h ks a := by
  obtain ⟨_, its, r, o, h1, h2, n, h3⟩ := (show ObjOk P w H h a (.tup (ks.map kV)) from ok a _ e)
  exact ⟨o, its.toArray, n, h1, h2, h3, by simpa using items_are r⟩
theorem dt_rd {kvs : List (List Key × V)} (ok : HOk P w H h) (e : Rd H a (.dT kvs)) : kvs.length ≤ sizeLine ∧ (a == sysModules) = false ∧
    ∃ xs, KT H kvs xs ∧ h.DictOfH (tupleKind (mixKind P w)) a xs := by
  obtain ⟨z, y, xs, r, o, es, ep, h1, h2, h3, h4, h5⟩ := (show ObjOk P w H h a (.dT kvs) from rd_of ok e)
  refine ⟨z, y, xs, r, o, es, ep, h1, h2, h3, h4, fun x hx => ?_, h5⟩
  have all : ∀ {l : List (List Key × V)} {m : List (List Key × Addr × Value)}, KT H l m → ∀ x ∈ m, (tupleKind (mixKind P w)).is h x.1 x.2.1 := by
    intro l m q
    induction q with
    | nil => intro x hx; exact nomatch hx
    | @cons p q ps qs hq t ih =>
      intro x hx
      rcases List.mem_cons.mp hx with e | hx
      · subst e
        exact key_of ok (by rw [← hq.1]; exact hq.2.1)
      · exact ih x hx
  exact all r x hx
theorem dt_of {kvs : List (List Key × V)} (ok : HOk P w H h) (e : H a = some (.dT kvs)) : kvs.length ≤ sizeLine ∧ (a == sysModules) = false ∧
    ∃ xs, KT H kvs xs ∧ h.DictOfH (tupleKind (mixKind P w)) a xs := dt_rd ok (.inl e)
end
def DGet (H : Hp) (a : Addr) (y : V) (r : Option V) : Prop :=
  (∃ kvs k, Rd H a (.dK kvs) ∧ y = kV k ∧ r = valV kvs k) ∨ ∃ kvs k b, Rd H a (.dT kvs) ∧ y = .ref b ∧ H b = some (.tup (k.map kV)) ∧ r = valV kvs k
def DPut (H : Hp) (a : Addr) (y v : V) (H' : Hp) : Prop :=
  (∃ kvs k, H a = some (.dK kvs) ∧ y = kV k ∧ kvs.length < sizeLine ∧ H' = upd H a (.dK (putK kvs k v))) ∨
  ∃ kvs k b, H a = some (.dT kvs) ∧ y = .ref b ∧ H b = some (.tup (k.map kV)) ∧ kvs.length < sizeLine ∧ H' = upd H a (.dT (putK kvs k v))
theorem DGet.k {H : Hp} {a : Addr} {kvs : List (Key × V)} {k : Key} (e : H a = some (.dK kvs)) : DGet H a (kV k) (valV kvs k) := .inl ⟨kvs, k, .inl e, rfl, rfl⟩
theorem DPut.k {H : Hp} {a : Addr} {kvs : List (Key × V)} {k : Key} {v : V} (e : H a = some (.dK kvs)) (hl : kvs.length < sizeLine) : DPut H a (kV k) v (upd H a (.dK (putK kvs k v))) := .inl ⟨kvs, k, e, rfl, hl, rfl⟩
theorem DPut.t {H : Hp} {a b : Addr} {kvs : List (List Key × V)} {k : List Key} {v : V} (e : H a = some (.dT kvs)) (eb : H b = some (.tup (k.map kV))) (hl : kvs.length < sizeLine) :
    DPut H a (.ref b) v (upd H a (.dT (putK kvs k v))) := .inr ⟨kvs, k, b, e, rfl, eb, hl, rfl⟩
section
variable {X : Cx} {pins : List (Addr × Obj)} {σ : St} {H : Hp} {s : Shared} {a : Addr} {y v : V} {u r : Value} {o : Option V} {A : Around} {E : Value → Shared → Prop}
theorem Inv.big (I : Inv X pins σ H s) : sysModules < s.heap.objs.size := by
  have h : mainGlobals < s.heap.objs.size := (I.mod.glob.keeps I.bk).lt
  exact Nat.lt_trans (by decide) h
theorem d_getItem {Q : Value → Shared → Prop} (hu : A.units + 1 < cLine) (I : Inv X pins σ H s) (g : DGet H a y (some v)) (ry : RelV y u) (h : ∀ w' s', Inv X pins σ H s' → RelV v w' → Q w' s') :
    wpAny (model X.prog X.w) A (getItem (.ref a) u) Q E s := by
  rcases g with ⟨kvs, k, e, ey, l⟩ | ⟨kvs, k, b, e, ey, eb, l⟩
  · subst ey
    obtain ⟨z, hd, vs, rel, dd⟩ := dk_rd I.hok e
    obtain ⟨w', hw, rw'⟩ := RelO.some_of (v := v) (o := valueAt vs k) (by rw [l]; exact rel.val k)
    exact wpAny_getItem_of (kV_is ry) dd.mapOf hw (h w' _ (I.tok _) rw')
  · subst ey
    cases (show u = Value.ref b from ry)
    obtain ⟨z, hd, xs, rel, dd⟩ := dt_rd I.hok e
    obtain ⟨w', hw, rw'⟩ := RelO.some_of (v := v) (o := (atKey xs k).map (·.2)) (by rw [l]; exact rel.val k)
    obtain ⟨p, hp, hp2⟩ := Option.map_eq_some_iff.mp hw
    refine wpAny_getItem_heap (tupleKind_room_in1 hu) (key_of I.hok eb) dd hp ?_
    rw [hp2]
    exact h w' _ (I.tok _) rw'
theorem d_in {Q : Value → Shared → Prop} (hu : A.units + 1 < cLine) (I : Inv X pins σ H s) (g : DGet H a y o) (ry : RelV y u) (h : ∀ s', Inv X pins σ H s' → Q (.bool o.isSome) s') :
    wpAny (model X.prog X.w) A (compareOp .In u (.ref a)) Q E s := by
  rcases g with ⟨kvs, k, e, ey, l⟩ | ⟨kvs, k, b, e, ey, eb, l⟩
  · subst ey
    obtain ⟨z, hd, vs, rel, dd⟩ := dk_rd I.hok e
    refine wpAny_in_of (kV_is ry) hd dd.mapOf ?_
    rw [← (rel.val k).isSome_eq, ← l]
    exact h _ (I.tok _)
  · subst ey
    cases (show u = Value.ref b from ry)
    obtain ⟨z, hd, xs, rel, dd⟩ := dt_rd I.hok e
    refine wpAny_in_heap (tupleKind_room_in1 hu) (key_of I.hok eb) hd dd ?_
    have q := (rel.val k).isSome_eq
    rw [Option.isSome_map] at q
    rw [← q, ← l]
    exact h _ (I.tok _)
theorem d_notIn {Q : Value → Shared → Prop} (hu : A.units + 1 < cLine) (I : Inv X pins σ H s) (g : DGet H a y o) (ry : RelV y u) (h : ∀ s', Inv X pins σ H s' → Q (.bool (!o.isSome)) s') :
    wpAny (model X.prog X.w) A (compareOp .NotIn u (.ref a)) Q E s := by
  rcases g with ⟨kvs, k, e, ey, l⟩ | ⟨kvs, k, b, e, ey, eb, l⟩
  · subst ey
    obtain ⟨z, hd, vs, rel, dd⟩ := dk_rd I.hok e
    refine wpAny_notIn_of (kV_is ry) hd dd.mapOf ?_
    rw [← (rel.val k).isSome_eq, ← l]
    exact h _ (I.tok _)
  · subst ey
    cases (show u = Value.ref b from ry)
    obtain ⟨z, hd, xs, rel, dd⟩ := dt_rd I.hok e
    refine wpAny_notIn_heap (tupleKind_room_in1 hu) (key_of I.hok eb) hd dd ?_
    have q := (rel.val k).isSome_eq
    rw [Option.isSome_map] at q
    rw [← q, ← l]
    exact h _ (I.tok _)
theorem d_write {h' : Heap} {t' : Nat} {ob : HO} (I : Inv X pins σ H s) (mu : Mut (H a)) (hs : Heap.SameBut a s.heap h') (he : ∃ q, h'.get? a = some q) (new : ObjOk X.prog X.w (upd H a ob) h' a ob) :
    Inv X pins σ (upd H a ob) { s with heap := h', toks := t' } :=
  I.write (x := a) (e := a) mu (.inl rfl) (fun b q hb z => (hs.2 b hb).trans z) he new
theorem dk_new {P : Program} {w : World} {H' : Hp} {h' : Heap} {kvs : List (Key × V)} {vs : List (Key × Value)} (z : kvs.length ≤ sizeLine) (hd : (a == sysModules) = false) (rel : KV kvs vs) (dd : h'.DictOf (mixKind P w) a vs) :
    ObjOk P w H' h' a (.dK kvs) := ⟨z, hd, vs, rel, dd⟩
theorem d_setItem {H' : Hp} {Q : Unit → Shared → Prop} (hu : A.units + 1 < cLine) (I : Inv X pins σ H s) (g : DPut H a y v H') (ry : RelV y u) (rv : RelV v r) (h : ∀ s', Inv X pins σ H' s' → Q () s') :
    wpAny (model X.prog X.w) A (setItem (.ref a) u r) Q E s := by
  rcases g with ⟨kvs, k, e, ey, l, eH⟩ | ⟨kvs, k, b, e, ey, eb, l, eH⟩
  · subst ey eH
    obtain ⟨z, hd, vs, rel, dd⟩ := dk_of I.hok e
    have hz : vs.length ≤ sizeLine := by rw [← rel.length]; exact z
    have hl : (putK kvs k v).length ≤ sizeLine := by have := length_putK kvs k v; omega
    refine wpAny_setItem_pairs (hsz := hz) (kV_is ry) dd fun h' dd' hs => h _ ?_
    have he : ∃ q, h'.get? a = some q := let ⟨q, _, _, hq, _⟩ := dd'; ⟨q, hq⟩
    exact d_write I (by rw [e]; exact True.intro) hs he (dk_new hl hd (rel.put k rv) dd')
  · subst ey eH
    cases (show u = Value.ref b from ry)
    obtain ⟨z, hd, xs, rel, dd⟩ := dt_of I.hok e
    have hz : xs.length ≤ sizeLine := by rw [← Paired.length rel]; exact z
    have hl : (putK kvs k v).length ≤ sizeLine := by have := length_putK kvs k v; omega
    refine wpAny_setItem_heap (hsz := hz) (tupleKind_room_in1 hu) (key_of I.hok eb) dd fun h' dd' hs => h _ ?_
    obtain ⟨q, es, ep, hq, h2, h3, h4, _, h5⟩ := dd'
    refine d_write I (by rw [e]; exact True.intro) hs ⟨q, hq⟩ ⟨hl, hd, _, (rel.put k eb rv).keeps fun c ys ec => ?_, q, es, ep, hq, h2, h3, h4, h5⟩
    rw [upd_ne (ne_of ec e (fun z => nomatch z))]
    exact ec
end
section
variable {X : Cx} {pins : List (Addr × Obj)} {σ : St} {H : Hp} {s : Shared} {a : Addr} {kvs : List (Key × V)} {k : Key} {u : Value} {A : Around} {E : Value → Shared → Prop}
theorem d_len {Q : Value → Shared → Prop} (I : Inv X pins σ H s) (e : Rd H a (.dK kvs)) (h : ∀ t s', Inv X pins σ H s' → Q (.int kvs.length t) s') : wpAny (model X.prog X.w) A (call (.builtin "len") [.ref a]) Q E s := by
  obtain ⟨z, hd, vs, rel, dd⟩ := dk_rd I.hok e
  refine call_len_dict hd dd (by rw [← rel.length]; rw [sizeLine_eq] at z; omega) ?_
  rw [← rel.length]
  exact h _ _ (I.tok _)
end
def NoSl (i : Expr) : Prop := ∀ ov iv, subscripted i false ov iv = operate [ov, iv] (getItem ov iv)
theorem subD_of {prog : Program} {w : World} {A : Around} {E : Value → Shared → Prop} {s : Shared} {env : Env} {value slice : Expr} {pos : Pos} {T id : String} {Q : Value → Shared → Prop}
    (hl : typeLookup (.type T) "__getitem__" = pure (some (.builtin id))) (hs : NoSl slice)
    (h : wpAny (model prog w) A (eval value env) (fun o s₁ => wpAny (model prog w) A (eval slice env) (fun i s₂ => s₂.TypeIs o T ∧ wpAny (model prog w) A (getItem o i) Q E s₂) E s₁) E s) :
    wpAny (model prog w) A (eval (.Subscript value slice pos) env) Q E s := by
  refine Subscript_ (wpAny_mono h (fun o s₁ h₁ => wpAny_mono h₁ (fun i s₂ h₂ => ?_) fun _ _ x => x) fun _ _ x => x)
  obtain ⟨hT, h₂⟩ := h₂
  unfold subscriptTail
  refine wpAny_bind ?_
  rw [getitemInPython_of_ne hT.not_modules]
  refine wpAny_bind (wpAny_specialOf hT hl ?_)
  have fin : wpAny (model prog w) A (subscripted slice false o i) (fun r s₃ => wpAny (model prog w) A (letTemporaryGo value o r >>= fun _ => pure r) Q E s₃) E s₂ := by
    rw [hs o i]
    exact wpAny_operating (wpAny_mono h₂ (fun r s₃ h₃ => wpAny_bind (wpAny_letTemporaryGo (wpAny_pure h₃))) fun _ _ x => x)
  first
    | exact wpAny_pure (wpAny_bind fin)
    | exact wpAny_bind (wpAny_pure (wpAny_bind fin))
    | exact wpAny_bind fin
theorem dict_typeIs {X : Cx} {pins : List (Addr × Obj)} {σ : St} {H : Hp} {s : Shared} {a : Addr} {y : V} {o : Option V} (I : Inv X pins σ H s) (g : DGet H a y o) : s.TypeIs (.ref a) "dict" := by
  rcases g with ⟨kvs, k, e, _, _⟩ | ⟨kvs, k, b, e, _, _, _⟩
  · obtain ⟨_, _, vs, _, dd⟩ := dk_rd I.hok e
    exact dd.typeIs
  · obtain ⟨_, _, xs, _, dd⟩ := dt_rd I.hok e
    exact dd.typeIs
def tDGet (td ty : TE) : TE := fun σ H Q => td σ H fun x H1 => ty σ H1 fun y H2 => ∃ a v, x = .ref a ∧ DGet H2 a y (some v) ∧ Q v H2
def tDIn (ty td : TE) : TE := fun σ H Q => ty σ H fun y H1 => td σ H1 fun x H2 => ∃ a o, x = .ref a ∧ DGet H2 a y o ∧ Q (.bl o.isSome) H2
def tDNotIn (ty td : TE) : TE := fun σ H Q => ty σ H fun y H1 => td σ H1 fun x H2 => ∃ a o, x = .ref a ∧ DGet H2 a y o ∧ Q (.bl (!o.isSome)) H2
def sDPut (td ty tv : TE) : TS := fun D σ H => tv σ H fun v H1 => td σ H1 fun x H2 => ty σ H2 fun y H3 => ∃ a H4, x = .ref a ∧ DPut H3 a y v H4 ∧ D.nx σ H4
section
variable {X : Cx} {o i e value : Expr} {pos pos' tpos : Pos} {td ty tv : TE}
theorem pe_dget (hu : X.A.units + 1 < cLine) (ho : PE X o td) (hi : PE X i ty) (hs : NoSl i) : PE X (.Subscript o i pos) (tDGet td ty) := by
  intro pins s σ H Q I h
  refine subD_of PySem.F.slot_dict_getitem.lookup hs (thn (ho pins s σ H _ I h) fun u s1 ⟨x, H1, I1, rx, q1⟩ => thn (hi pins s1 σ H1 _ I1 q1) fun iv s2 ⟨y, H2, I2, ry, a, v, ex, g, q2⟩ => ?_)
  subst ex
  obtain rfl : u = Value.ref a := rx
  exact ⟨dict_typeIs I2 g, d_getItem hu I2 g ry fun w' s3 I3 rw' => ⟨v, H2, I3, rw', q2⟩⟩
theorem pc_din (hu : X.A.units + 1 < cLine) (hi : PE X i ty) (ho : PE X o td) : PC X .In i o (tDIn ty td) := by
  intro pins s σ H Q I h
  refine thn (hi pins s σ H _ I h) fun iv s1 ⟨y, H1, I1, ry, q1⟩ => thn (ho pins s1 σ H1 _ I1 q1) fun u s2 ⟨x, H2, I2, rx, a, ov, ex, g, q2⟩ => ?_
  subst ex
  obtain rfl : u = Value.ref a := rx
  exact d_in hu I2 g ry fun s3 I3 => ⟨.bl ov.isSome, H2, I3, rfl, q2⟩
theorem pc_dnotin (hu : X.A.units + 1 < cLine) (hi : PE X i ty) (ho : PE X o td) : PC X .NotIn i o (tDNotIn ty td) := by
  intro pins s σ H Q I h
  refine thn (hi pins s σ H _ I h) fun iv s1 ⟨y, H1, I1, ry, q1⟩ => thn (ho pins s1 σ H1 _ I1 q1) fun u s2 ⟨x, H2, I2, rx, a, ov, ex, g, q2⟩ => ?_
  subst ex
  obtain rfl : u = Value.ref a := rx
  exact d_notIn hu I2 g ry fun s3 I3 => ⟨.bl (!ov.isSome), H2, I3, rfl, q2⟩
theorem ps_dput (hu : X.A.units + 1 < cLine) (ho : PE X o td) (hi : PE X i ty) (hv : PE X value tv) (hs : swapsWith value (some (.Subscript o i pos')) pos.line X.env = pure false) :
    PS X (.Assign [.Subscript o i pos'] value pos) (sDPut td ty tv) := by
  intro pins s σ H D I h
  refine wpAny_Assign_Subscript (thn (hv pins s σ H _ I h) fun r s1 ⟨v, H1, I1, rv, q1⟩ => thn (ho pins s1 σ H1 _ I1 q1) fun u s2 ⟨x, H2, I2, rx, q2⟩ => thn (hi pins s2 σ H2 _ I2 q2) fun iv s3 ⟨y, H3, I3, ry, a, H4, ex, g, q3⟩ => ?_) hs
  subst ex
  obtain rfl : u = Value.ref a := rx
  exact d_setItem hu I3 g ry rv fun s4 I4 => ⟨σ, H4, I4, q3⟩
end
theorem dk_empty {P : Program} {w : World} {H : Hp} (h : Heap) (hb : sysModules < h.objs.size) : ObjOk P w H (h.push { cls := .type "dict", data := .dict #[] }) h.objs.size (.dK []) :=
  ⟨Nat.zero_le _, beq_eq_false_iff_ne.mpr (Ne.symm (Nat.ne_of_lt hb)), [], .nil, Heap.DictOf.new h⟩
theorem dt_empty {P : Program} {w : World} {H : Hp} (h : Heap) (hb : sysModules < h.objs.size) : ObjOk P w H (h.push { cls := .type "dict", data := .dict #[] }) h.objs.size (.dT []) :=
  ⟨Nat.zero_le _, beq_eq_false_iff_ne.mpr (Ne.symm (Nat.ne_of_lt hb)), [], .nil, _, #[], 0, Heap.get?_push_size _ rfl, ⟨rfl, rfl, rfl⟩, rfl, rfl, List.nodup_nil⟩
def tDNewK : TE := fun _ H Q => ∀ p, H p = none → Q (.ref p) (upd H p (.dK []))
def tDNewT : TE := fun _ H Q => ∀ p, H p = none → Q (.ref p) (upd H p (.dT []))
section
variable {X : Cx} {pos : Pos}
theorem pe_dnewK : PE X (.Dict [] [] pos) tDNewK := fun pins s σ H Q I h =>
  wpAny_Dict_empty ⟨.ref s.heap.objs.size, _, I.laid (a := s.heap.objs.size) (o := .dK []) (t' := s.toks) (fun _ _ q => Heap.get?_push_of_some _ q) (Nat.le_refl _) (dk_empty s.heap I.big), rfl, h _ (I.hok.fresh (Nat.le_refl _))⟩
theorem pe_dnewT : PE X (.Dict [] [] pos) tDNewT := fun pins s σ H Q I h =>
  wpAny_Dict_empty ⟨.ref s.heap.objs.size, _, I.laid (a := s.heap.objs.size) (o := .dT []) (t' := s.toks) (fun _ _ q => Heap.get?_push_of_some _ q) (Nat.le_refl _) (dt_empty s.heap I.big), rfl, h _ (I.hok.fresh (Nat.le_refl _))⟩
end
structure M2 (X : Cx) (o : Expr) (m : Str) (apos : Pos) (e f : Expr) (cpos : Pos) : Prop where
  base : attributeBase o m X.env (eval o X.env) = eval o X.env
  few : ((backTo cpos (starEach [e, f] X.env)).all (fun x => !x.1) && (backToKw cpos (keywordEach [] X.env)).all (fun x => x.1.isSome)
    && decide (([e, f] : List Expr).length + ([] : List Keyword).length + (if ([] : List Keyword).isEmpty then 0 else 1) < 30)) = true
  line : (apos.endLine == cpos.line) = true
  trees : backTo cpos (starEach [e, f] X.env) = [(false, eval e X.env), (false, eval f X.env)]
def IsD (H : Hp) (a : Addr) : Prop := (∃ kvs, Rd H a (.dK kvs)) ∨ ∃ kvs, Rd H a (.dT kvs)
theorem isD_at {X : Cx} {pins : List (Addr × Obj)} {σ : St} {H : Hp} {s : Shared} {a : Addr} (I : Inv X pins σ H s) (d : IsD H a) :
    s.TypeIs (.ref a) "dict" ∧ (∀ b, Value.ref a = .ref b → ∃ ob, s.heap.get? b = some ob ∧ ob.dict = none) ∧ (a == sysModules) = false := by
  rcases d with ⟨kvs, e⟩ | ⟨kvs, e⟩
  · obtain ⟨_, hd, vs, _, dd⟩ := dk_rd I.hok e
    refine ⟨dd.typeIs, fun b q => ?_, hd⟩
    cases q
    obtain ⟨ob, _, _, h1, h2, _⟩ := dd
    exact ⟨ob, h1, h2.2.1⟩
  · obtain ⟨_, hd, xs, _, dd⟩ := dt_rd I.hok e
    refine ⟨dd.typeIs, fun b q => ?_, hd⟩
    cases q
    obtain ⟨ob, _, _, h1, h2, _⟩ := dd
    exact ⟨ob, h1, h2.2.1⟩
section
variable {X : Cx} {pins : List (Addr × Obj)} {σ : St} {H : Hp} {s : Shared} {a : Addr} {y d : V} {u r : Value} {o : Option V} {A : Around} {E : Value → Shared → Prop}
theorem d_get2 {Q : Value → Shared → Prop} (hu : A.units + 1 < cLine) (I : Inv X pins σ H s) (g : DGet H a y o) (ry : RelV y u) (rd : RelV d r) (h : ∀ w' s', Inv X pins σ H s' → RelV (o.getD d) w' → Q w' s') :
    wpAny (model X.prog X.w) A (call (.builtin "dict.get") [.ref a, u, r]) Q E s := by
  rcases g with ⟨kvs, k, e, ey, l⟩ | ⟨kvs, k, b, e, ey, eb, l⟩
  · subst ey
    obtain ⟨z, hd, vs, rel, dd⟩ := dk_rd I.hok e
    refine call_meetsIn PySem.F.slot_dict_get dd.typeIs PySem.F.entry_dict_get (PySem.F.args_dict_get_3 _ _ _) (meets_dict_get_default (mixKind X.prog X.w) a (kV_is ry) hd r) ⟨_, dd.mapOf, h _ _ (I.tok _) ?_⟩
    rw [l]
    exact (rel.val k).getD rd
  · subst ey
    cases (show u = Value.ref b from ry)
    obtain ⟨z, hd, xs, rel, dd⟩ := dt_rd I.hok e
    refine call_meetsIn PySem.F.slot_dict_get dd.typeIs PySem.F.entry_dict_get (PySem.F.args_dict_get_3 _ _ _) (meetsH_dict_get_default (tupleKind (mixKind X.prog X.w)) a b hd r) ⟨tupleKind_room_in1 hu, k, xs, key_of I.hok eb, dd, h _ _ (I.tok _) ?_⟩
    rw [l]
    exact (rel.val k).getD rd
end
def tDGet2 (td ty tx : TE) : TE := fun σ H Q => td σ H fun x H1 => ∃ a, x = .ref a ∧ IsD H1 a ∧ ty σ H1 fun y H2 => tx σ H2 fun z H3 => ∃ o, DGet H3 a y o ∧ Q (o.getD z) H3
section
variable {X : Cx} {o e f : Expr} {apos cpos : Pos} {td ty tx : TE}
theorem pe_dget2 (hu : X.A.units + 1 < cLine) (ho : PE X o td) (he : PE X e ty) (hf : PE X f tx) (m : M2 X o "get" apos e f cpos) : PE X (.Call (.Attribute o "get" apos) [e, f] [] cpos) (tDGet2 td ty tx) := by
  intro pins s σ H Q I h
  refine wpAny_Call_method m.base m.few m.line PySem.F.plainAttrs_dict PySem.F.slot_dict_get PySem.F.type_dict_get (thn (ho pins s σ H _ I h) fun u s1 ⟨x, H1, I1, rx, a, ex, d, q1⟩ => ?_)
  subst ex
  obtain rfl : u = Value.ref a := rx
  obtain ⟨t1, t2, _⟩ := isD_at I1 d
  refine ⟨t1, t2, ?_⟩
  rw [m.trees]
  refine Calls.callWith_builtin rfl (Calls.evalArgs_plain (Calls.spliced_cons (thn (he pins s1 σ H1 _ I1 q1) fun iv s2 ⟨y, H2, I2, ry, q2⟩ =>
    Calls.spliced_cons (thn (hf pins s2 σ H2 _ I2 q2) fun fv s3 ⟨z, H3, I3, rz, ov, g, q3⟩ => Calls.spliced_nil ?_))))
  exact d_get2 hu I3 g ry rz fun w' s4 I4 rw' => ⟨_, H3, I4, rw', q3⟩
end
section
variable {X : Cx} {pins : List (Addr × Obj)} {σ : St} {H : Hp} {s : Shared} {a : Addr} {kvs : List (Key × V)} {A : Around} {E : Value → Shared → Prop}
end
section
variable {X : Cx} {pins : List (Addr × Obj)} {σ : St} {H : Hp} {s : Shared} {a : Addr} {y : V} {u : Value} {A : Around} {E : Value → Shared → Prop}
end
end L2
namespace Att
open PySem PySem.W PySem.Calls PyProof.Rows
theorem ints_of_wellAll {P : Params} {h : Heap} : ∀ (ns : List Int) (vs : List Value), WellAll P h vs (ns.map WData.int) → IntsAre vs ns := by
  intro ns
  induction ns with
  | nil =>
    intro vs w
    rw [List.map_nil] at w
    cases w
    exact .nil
  | cons n ns ih =>
    intro vs w
    rw [List.map_cons] at w
    cases w with
    | cons a b =>
      cases a
      exact .cons _ _ (ih _ b)
theorem script_of {l : OpenLaw} {n : Nat} (hn : l.most = some n) {P : Params} {h : Heap} {args : List WData} {vals : List Value}
    (hpre : l.row.toRowW.claim.pre args = true) (hwl : WellAll P h vals args) :
    ∃ a vs ns, vals = [Value.ref a] ∧ args = [WData.list (ns.map WData.int)] ∧ h.get? a = some { cls := .type "list", data := .seq vs.toArray } ∧ IntsAre vs ns ∧ ns.length ≤ n := by
  have hsh : WShape.hasAll [] args [.list .int] = true := (pre_splitW hpre).1
  have hc : l.pre.holds [] { args := args } = true := (pre_splitW hpre).2
  obtain ⟨d, r, rfl, h1, h2⟩ := hasAllW_cons hsh
  obtain rfl := hasAllW_nil h2
  obtain ⟨xs, rfl, h3⟩ := hasW_list h1
  obtain ⟨ns, rfl⟩ := items_int h3
  have hlen : ns.length ≤ n := by
    unfold OpenLaw.pre at hc
    have h4 : (WTm.not (.lt (.lit (.int (n : Int))) (.len (.arg 0)))).holds [] { args := [.list (ns.map .int)] } = true := by
      have h4 := (holds_andW hc).1
      rw [hn] at h4
      exact h4
    have h5 := condW_of h4 (w_not (w_lt w_lit (w_len_list (w_arg rfl))))
    rw [List.length_map] at h5
    refine Nat.le_of_not_lt fun q => ?_
    have q' : (n : Int) < ((ns.length : Nat) : Int) := by omega
    first
      | (rw [decide_eq_true q'] at h5; exact absurd h5 (by decide))
      | (simp at h5; omega)
  cases hwl with
  | cons w1 w2 =>
    cases w2
    cases w1 with
    | list ho hall => exact ⟨_, _, ns, rfl, rfl, ho, ints_of_wellAll ns _ hall, hlen⟩
theorem post_true (l : OpenLaw) (args : List WData) : l.row.toRowW.claim.post args (.bool true) args = true :=
  postW_of (r := l.row.toRowW) (X := (true == true))
    (show WShape.has [] (.bool true) .bool = true by first | rfl | decide | simp [WShape.has, WShape.arms, WShape.armsAll])
    (show (WTm.eq .res (.lit (.bool true))).value [] { args := args, res := some (.bool true), after := args } = some (.bool (true == true)) from w_eq_bool (w_res rfl) w_lit) rfl
theorem attach_call {l : OpenLaw} {n : Nat} {q : Program} {loose : List Str} {XP : (Str → Option Value) → Heap → Prop} {YP : World → Heap → Prop} {d : DefRec}
    (hn : l.most = some n) (hdf : d.params.defaults = [])
    (call : ∀ (w : World) (s₀ s₁ : Shared) (mg mb : Str → Option Value) (fa : Addr) (o : Obj) (pm cd doc : Value) (a : Addr) (vs : List Value) (ns : List Int),
      Ground q loose [] XP w s₀ mg mb s₁.heap → YP w s₁.heap →
      s₁.heap.get? fa = some o → o.data = .func (docDef d.name d.params d.body d.scope pm cd doc) → s₁.heap.CodeRec cd d.name → mg d.name = some (.ref fa) →
      s₁.heap.get? a = some { cls := .type "list", data := .seq vs.toArray } → IntsAre vs ns → ns.length ≤ n → s₁.gens = #[] →
      codeAny (model l.prog w) callerA (.call (.ref fa) ⟨[.ref a], []⟩) (fun r s' => r = .ok (.ret (.bool true)) ∧ OldK s₁.heap s'.heap ∧ s'.os = s₁.os ∧ AllBare s'.gens) s₁) :
    WalkO q loose XP YP l.row.toRowW d [] (fun f vs => PySem.call f vs) := by
  intro w s₀ s₁ mg mb G Y fa o pm cd doc dV kV ho hd hcd hD hmg hg args vals as hpre hlay hrd hwl hlo
  obtain rfl : dV = .none := Dflts.none hD hdf
  obtain rfl : kV = .none := Dflts.noKw hD
  obtain ⟨a, vs, ns, rfl, rfl, hobj, hints, hlen⟩ := script_of hn hpre hwl
  refine enter_call (codeAny_mono (call w s₀ s₁ mg mb fa o pm cd doc a vs ns G Y ho (fd_plain hd) hcd hmg hobj hints hlen hg) fun r s' hq => ?_)
  obtain ⟨rfl, h2, h3, h4⟩ := hq
  exact ⟨.inl ⟨.bool true, .bool true, [], rfl, fun _ => rfl, .bool true, post_true l _, fun _ => ⟨List.Pairwise.nil, fun _ hm => (nomatch hm)⟩⟩, h2, h3, h4⟩
section
variable {prog : Program} {w : World} {A : Around} {E : Value → Shared → Prop} {s : Shared} {K : Frag}
end
end Att
namespace L2
open PySem PySem.Spec PyProof.Rows
theorem vals_ints : ∀ {vs : List Value} {ns : List Int}, IntsAre vs ns → Vals (ns.map V.int) vs
  | _, _, .nil => .nil
  | _, _, .cons n t h => .cons ⟨t, rfl⟩ (vals_ints h)
def Only (H : Hp) : Prop := ∀ b, H b = none ∨ ∃ o xs, H b = some (.frz o (.lst xs))
theorem law_call {P : Program} {w : World} {K : PySem.W.Frag} {mg mb : Str → Option Value} {CX : CXT} {k : Nat} {fa a : Addr} {fd : FuncData} {x : Str} {sp : Sp} {s₁ : Shared} {vs : List Value} {ns : List Int}
    (KX : K.In s₁.heap) (hns : s₁.heap.Ns mainGlobals mg) (hb : s₁.heap.Ns builtinsNs mb) (hbb : ∀ x : Str, x ≠ "__name__" → mb x = bootBuiltins x) (hlim : s₁.heap.NoLimit) (hg : s₁.gens = #[])
    (ha : s₁.heap.get? a = some { cls := .type "list", data := .seq vs.toArray }) (hi : IntsAre vs ns) (hl : ns.length ≤ sizeLine) (hr : Room k callerA)
    (F : ∀ base : Heap, K.In base → base.Ns mainGlobals mg → FnOk P w K mg base CX k fa fd [x] sp) (hbind : ∀ (s : Shared) (u : Value), BindsTo s fd ⟨[u], []⟩ [(x, u)])
    (hsp : ∀ H : Hp, Only H → SqL K H a (ns.map V.int) → sp [.ref a] H (fun v _ => v = .bl true) fun _ _ _ => False)
    (hCX : ∀ H e s', CX [] H s₁ (fun _ _ _ => False) e s' → False) :
    codeAny (model P w) callerA (.call (.ref fa) ⟨[.ref a], []⟩) (fun r s' => r = .ok (.ret (.bool true)) ∧ OldK s₁.heap s'.heap ∧ s'.os = s₁.os ∧ AllBare s'.gens) s₁ := by
  have rv := vals_ints hi
  have lenV := hi.length
  have core : ∀ H : Hp, Only H → SqL K H a (ns.map V.int) → HOk P w H s₁.heap → (∀ b, H b ≠ none → b = a) → (H a ≠ none → K.lookup a = none) →
      codeAny (model P w) callerA (.call (.ref fa) ⟨[.ref a], []⟩) (fun r s' => r = .ok (.ret (.bool true)) ∧ OldK s₁.heap s'.heap ∧ s'.os = s₁.os ∧ AllBare s'.gens) s₁ := by
    intro H hO hS hok hA hK
    have base_of : ∀ {b : Addr} {o : Obj}, s₁.heap.get? b = some o → H b = none → (hidT s₁.heap H).get? b = some o := fun e n => hidT_get e n
    have noA : ∀ {b : Addr} {o : Obj} {es : Array DictEntry} {ep : Nat}, s₁.heap.get? b = some o → o.data = .dict es ep → H b = none := fun {b o es ep} e d => by
      cases q : H b with
      | none => rfl
      | some u =>
        have e' : b = a := hA b (by rw [q]; simp)
        subst e'
        rw [ha] at e; cases e
        have d' : Data.seq vs.toArray _ = Data.dict es ep := d
        cases d'
    have nsK : ∀ {b : Addr} {m : Str → Option Value}, s₁.heap.Ns b m → (hidT s₁.heap H).Ns b m := fun {b m} ⟨o, es, ep, e, d, r⟩ => ⟨o, es, ep, base_of e (noA e d), d, r⟩
    have hKb : K.In (hidT s₁.heap H) := fun b o e => base_of (KX b o e) (by
      cases q : H b with
      | none => rfl
      | some u =>
        have e' : b = a := hA b (by rw [q]; simp)
        subst e'
        rw [hK (by rw [q]; simp)] at e; cases e)
    have hM : Mod K mg (hidT s₁.heap H) := ⟨hKb, nsK hns, ⟨mb, nsK hb, hbb⟩, let ⟨mc, h1, h2⟩ := hlim; ⟨mc, nsK h1, h2⟩⟩
    have e0 : Env0 P w K mg (hidT s₁.heap H) callerA [] s₁ H := ⟨rfl, hM, fun b o e => of_hidT e, Nat.le_of_eq (hidT_size _ _), trivial, fun b hb => absurd (show b ∈ ([] : List Addr) from hb) (by simp), hok, .of_eq hg⟩
    refine codeAny_mono ((F _ hKb (nsK hns)).run callerA [] s₁ H ⟨[.ref a], []⟩ [.ref a] [.ref a] _ _ hr e0 (hbind s₁ (.ref a)) (.cons rfl .nil) (hsp H hO hS)) fun r s' h => ?_
    cases r with
    | error e => exact (hCX H e s' h).elim
    | ok fl =>
      cases fl with
      | next => exact False.elim h
      | brk => exact False.elim h
      | cont => exact False.elim h
      | ret u =>
        obtain ⟨v, H', os, bare, un, hok', r', q⟩ := h
        have q' : v = .bl true := q
        subst q'
        obtain rfl : u = Value.bool true := r'
        refine ⟨rfl, OldK.of_keep fun b o e => ?_, os, bare⟩
        cases q : H b with
        | none => exact un.keep b o e q (by intro z; exact absurd (show b ∈ ([] : List Addr) from z) (by simp)) (by simp)
        | some u =>
          rcases hO b with z | ⟨ob, xs, z⟩
          · rw [q] at z; cases z
          · have z2 := un.frzs b ob _ z
            obtain ⟨e1, _⟩ := hok b _ z
            obtain ⟨e2, _⟩ := hok' b _ z2
            rw [e] at e1; cases e1
            exact e2
  cases hk : K.lookup a with
  | some o =>
    have e := KX a o hk
    rw [ha] at e
    cases e
    refine core (fun _ => none) (fun _ => .inl rfl) (.inr ⟨_, vs.toArray, _, hk, rfl, rfl, rfl, by rw [List.size_toArray, lenV]; exact hl, by simpa using rv⟩) (fun b u z => by have z' : (none : Option HO) = some u := z; cases z') (fun b z => absurd rfl z) fun z => absurd rfl z
  | none =>
    refine core (fun b => if b = a then some (.frz { cls := .type "list", data := .seq vs.toArray } (.lst (ns.map V.int))) else none) (fun b => ?_) (.inl (.inr ⟨{ cls := .type "list", data := .seq vs.toArray }, if_pos rfl⟩)) (fun b u z => ?_) (fun b z => ?_) fun _ => hk
    · by_cases hb : b = a
      · exact .inr ⟨_, _, if_pos hb⟩
      · exact .inl (if_neg hb)
    · by_cases hb : b = a
      · have z' := (if_pos hb).symm.trans z
        cases z'
        subst hb
        exact ⟨ha, by rw [List.length_map]; exact hl, vs, _, rv, ha⟩
      · have z' := (if_neg hb).symm.trans z
        cases z'
    · by_cases hb : b = a
      · exact hb
      · exact absurd (if_neg hb) z
end L2
namespace L2
open PySem PySem.Spec PyProof.Rows
theorem walk_of {l : PySem.W.OpenLaw} {n k : Nat} {q : Program} {loose : List Str} {XP : (Str → Option Value) → Heap → Prop} {YP : World → Heap → Prop} {d : DefRec} {K : Params → PySem.W.Frag} {CX : World → CXT} {sp : World → Sp} {x : Str}
    (hn : l.most = some n) (hn2 : n ≤ sizeLine) (hdf : d.params.defaults = []) (hr : Room k callerA)
    (hY : ∀ (w : World) (h : Heap), YP w h → (K w.params).In h)
    (F : ∀ (w : World) (mg : Str → Option Value) (fa : Addr) (h : Heap), (K w.params).In h → h.Ns mainGlobals mg → mg d.name = some (.ref fa) →
      ∃ fd : FuncData, (∀ (s : Shared) (u : Value), BindsTo s fd ⟨[u], []⟩ [(x, u)]) ∧
        ∀ base : Heap, (K w.params).In base → base.Ns mainGlobals mg → FnOk l.prog w (K w.params) mg base (CX w) k fa fd [x] (sp w))
    (hsp : ∀ (w : World) (H : Hp) (a : Addr) (ns : List Int), ns.length ≤ n → Only H → SqL (K w.params) H a (ns.map V.int) → sp w [.ref a] H (fun v _ => v = .bl true) fun _ _ _ => False)
    (hCX : ∀ (w : World) (H : Hp) (s : Shared) (e : Value) (s' : Shared), CX w [] H s (fun _ _ _ => False) e s' → False) :
    PySem.W.WalkO q loose XP YP l.row.toRowW d [] (fun f vs => PySem.call f vs) := by
  refine Att.attach_call hn hdf fun w s₀ s₁ mg mb fa o pm cd doc a vs ns G Y ho hd hcd hmg hobj hints hlen hg => ?_
  have KX := hY w _ Y
  obtain ⟨fd, hb, hF⟩ := F w mg fa _ KX G.T.g hmg
  exact law_call KX G.T.g G.T.b G.T.builtins G.T.nolimit hg hobj hints (Nat.le_trans hlen hn2) hr hF hb (fun H hO hS => hsp w H a ns hlen hO hS) fun H e s' => hCX w H s₁ e s'
end L2
namespace L2
open PySem PySem.Spec PyProof.Rows
def inClass (s : Stmt) (j : Nat) : Stmt := match s with
  | .ClassDef _ _ _ body _ _ _ _ _ _ _ => body.getD j (.Pass ⟨0, 0, 0, 0⟩)
  | _ => .Pass ⟨0, 0, 0, 0⟩
def defArgs (s : Stmt) : Arguments := match s with
  | .FunctionDef _ a _ _ _ _ _ _ _ _ => a
  | _ => { posonlyargs := [], args := [], vararg := none, kwonlyargs := [], kw_defaults := [], kwarg := none, defaults := [] }
def defBody (s : Stmt) : List Stmt := match s with
  | .FunctionDef _ _ b _ _ _ _ _ _ _ => b
  | _ => []
def defScope (s : Stmt) : Scope := match s with
  | .FunctionDef _ _ _ _ _ _ sc _ _ _ => sc
  | _ => { kind := .function, names := [], isGenerator := false, isCoroutine := false }
abbrev CX0 : CXT := fun _ _ _ _ _ _ => False
abbrev E0 : XK := fun _ _ _ => False
theorem pass0 {X : Cx} : Passes CX0 X E0 := fun _ _ _ _ _ _ _ h => h.elim
structure Fun (K : PySem.W.Frag) (x qual : Str) (st : Stmt) (f : Addr) (fd : FuncData) : Prop where
  ex : ∃ (oc : Value) (od : Option Addr) (kV doc pm : Value) (an : Option Addr) (cdv ct : Value) (osl : Array (Option Value)),
    fd = PySem.W.fnOf x qual (defArgs st) (defBody st) (defScope st) .none kV doc pm an cdv ct ∧ K.lookup f = some ⟨oc, od, .func fd, osl⟩ ∧ PySem.W.codeIn K cdv qual = true
  kp : PySem.W.keepIn K (.ref f) = true
section
variable {P : Program} {w : World} {K : PySem.W.Frag} {mg : Str → Option Value} {base : Heap}
theorem Fun.ok {x qual : Str} {st : Stmt} {f : Addr} {fd : FuncData} {N ps : List Str} {k : Nat} {sp : Sp} (F : Fun K x qual st f fd) (S : FnScope N ps (defScope st)) (len : ∀ vs H Q E, sp vs H Q E → vs.length = ps.length)
    (hbody : ∀ (cdv : Value) (A : Around) (outer : List Env) (s : Shared) (H : Hp) (vs : List V) (Q : VK) (E : XK), Room k (A.deeper (envOfC qual (defScope st) s.heap.objs.size f cdv)) → sp vs H Q E →
      ∃ t, PSs (cxOf CX0 P w K mg base N qual (defScope st) f cdv A outer s H E).nox (defBody st) t ∧ t { nx := fun _ H' => Q .non H', rt := Q } (start N vs) H) : FnOk P w K mg base CX0 (k + 1) f fd ps sp := by
  obtain ⟨oc, od, kV, doc, pm, an, cdv, ct, osl, rfl, lk, hcd⟩ := F.ex
  refine fn_of lk hcd S len fun A outer s H vs Q E hr hsp => ?_
  obtain ⟨t, h, q⟩ := hbody cdv A outer s H vs Q E hr hsp
  exact ⟨t, h.nox, q⟩
theorem Fun.binds {x qual : Str} {st : Stmt} {f : Addr} {fd : FuncData} {ps : List Str} (F : Fun K x qual st f fd)
    (h : ∀ (kV doc pm : Value) (an : Option Addr) (cdv ct : Value) (us : List Value), us.length = ps.length → bindArgs (PySem.W.fnOf x qual (defArgs st) (defBody st) (defScope st) .none kV doc pm an cdv ct) ⟨us, []⟩ = pure (ps.zip us)) : Binds K fd ps [] := by
  obtain ⟨oc, od, kV, doc, pm, an, cdv, ct, osl, rfl, lk, hcd⟩ := F.ex
  exact .all (h kV doc pm an cdv ct)
theorem fun_mk {x qual : Str} {st : Stmt} {f : Addr} {oc : Value} {od an : Option Addr} {osl : Array (Option Value)} {kV doc pm cdv ct : Value} (l : K.lookup f = some ⟨oc, od, .func (PySem.W.fnOf x qual (defArgs st) (defBody st) (defScope st) .none kV doc pm an cdv ct), osl⟩)
    (c : PySem.W.codeIn K cdv qual = true) (k : PySem.W.keepIn K (.ref f) = true) : Fun K x qual st f (PySem.W.fnOf x qual (defArgs st) (defBody st) (defScope st) .none kV doc pm an cdv ct) := ⟨⟨oc, od, kV, doc, pm, an, cdv, ct, osl, rfl, l, c⟩, k⟩
end
theorem hu_of {A : Around} {k : Nat} (hr : Room k A) : A.units + 1 < cLine := Nat.lt_of_le_of_lt (Nat.add_le_add_left (by decide : 1 ≤ 64) _) hr.units
theorem small1000 {n : Nat} (h : n ≤ 1000) : n < sizeLine := Nat.lt_of_le_of_lt h (by decide)
section
variable {X : Cx}
theorem pv (i : Nat) {x : Str} {pos : Pos} (hN : X.N[i]? = some x := by rfl) (hv : Vis X.env.scope x := by first | exact Or.inl rfl | exact Or.inr (Or.inl rfl) | exact Or.inr (Or.inr rfl)) (hd : (x == ("__debug__" : Str)) = false := by decide)
    (hcd : (x == ("__classdict__" : Str)) = false := by decide) : PE X (.Name x pos) (tVar i) := pe_var hN hv hd hcd
theorem call_lenD : CallR X (.builtin "len") (fun xs H Q => ∃ a kvs, xs = [V.ref a] ∧ H a = some (.dK kvs) ∧ Q (.int kvs.length) H) := by
  intro pins s σ H xs us Q I r h
  obtain ⟨a, kvs, rfl, ha, q⟩ := h
  obtain ⟨u, rfl, ru⟩ := vals1 r
  cases ru
  exact d_len I (.inl ha) fun t s' I' => ⟨.int kvs.length, H, I', ⟨t, rfl⟩, q⟩
end
theorem iteF {A B : Prop} (h : B) : if false = true then A else B := by
  rw [if_neg Bool.false_ne_true]
  exact h
theorem iteT {A B : Prop} (h : A) : if true = true then A else B := by
  rw [if_pos rfl]
  exact h
def Same (H H' : Hp) : Prop := ∀ b o, H b = some o → H' b = some o
theorem Same.refl (H : Hp) : Same H H := fun _ _ h => h
theorem Same.trans {H H1 H2 : Hp} (a : Same H H1) (b : Same H1 H2) : Same H H2 := fun c o h => b c o (a c o h)
theorem Same.free {H H' : Hp} (e : Same H H') {l : Addr} (h : H' l = Option.none) : H l = Option.none := by
  cases q : H l with
  | none => rfl
  | some o =>
    rw [e l o q] at h
    cases h
section
variable {κ : Type} [DecidableEq κ]
end
end L2
namespace OG
open PySem PySem.Spec PyProof.Rows L2
structure WE (X : Cx) (e : Expr) (t : TE) : Prop where
  h : PE X e t
structure WT (X : Cx) (e : Expr) (t : TT) : Prop where
  h : PT X e t
structure WW (X : Cx) (e : Expr) (t : TT) : Prop where
  h : PW X e t
structure WA (X : Cx) (es : List Expr) (t : TA) : Prop where
  h : PA X es t
structure WS (X : Cx) (st : Stmt) (t : TS) : Prop where
  h : PS X st t
structure WSs (X : Cx) (st : List Stmt) (t : TS) : Prop where
  h : PSs X st t
structure WI (X : Cx) (tg iter : Expr) (wi : TI) : Prop where
  h : PI X tg iter wi
structure WG (X : Cx) (target : Expr) (t : TG) : Prop where
  h : PG X target t
structure WGs (X : Cx) (ts : List Expr) (t : TGs) : Prop where
  h : PGs X ts t
structure WC (X : Cx) (op : CmpOp) (a b : Expr) (t : TE) : Prop where
  h : PC X op a b t
structure WO (X : Cx) (e : Option Expr) (t : TO) : Prop where
  h : PO X e t
section
variable {X : Cx}
end
section
variable {X : Cx}
theorem wpe_int {i j pos} : WE X (.Constant (.int i) j pos) (tC (.int i)) := ⟨pe_int ⟩
end
section
variable {X : Cx}
theorem wpe_bl {b j pos} : WE X (.Constant (.bool b) j pos) (tC (.bl b)) := ⟨pe_bl ⟩
end
section
variable {X : Cx}
theorem wpe_non {j pos} : WE X (.Constant .none j pos) (tC .non) := ⟨pe_non ⟩
end
section
variable {X : Cx}
theorem wpe_str {x j pos} : WE X (.Constant (.str x) j pos) (tC (.str x)) := ⟨pe_str ⟩
end
section
variable {X : Cx}
end
section
variable {X : Cx}
end
section
variable {X : Cx}
variable {a b : Expr} {ta tb : TE} {pos : Pos}
end
section
variable {X : Cx}
variable {a b : Expr} {ta tb : TE} {pos : Pos}
end
section
variable {X : Cx}
variable {a b : Expr} {ta tb : TE} {pos : Pos}
end
section
variable {X : Cx}
variable {a b : Expr} {ta tb : TE} {pos : Pos}
end
section
variable {X : Cx}
variable {a b : Expr} {ta tb : TE} {pos : Pos}
end
section
variable {X : Cx}
variable {a b : Expr} {ta tb : TE} {pos : Pos}
end
section
variable {X : Cx}
variable {a b : Expr} {ta tb : TE} {pos : Pos}
end
section
variable {X : Cx}
variable {a b : Expr} {ta tb : TE} {pos : Pos}
end
section
variable {X : Cx}
variable {a b : Expr} {ta tb : TE} {pos : Pos}
end
section
variable {X : Cx}
variable {a b : Expr} {ta tb : TE} {pos : Pos}
end
section
variable {X : Cx}
variable {a b : Expr} {ta tb : TE} {pos : Pos}
end
section
variable {X : Cx}
variable {a b : Expr} {ta tb : TE} {pos : Pos}
end
section
variable {X : Cx}
variable {a b : Expr} {ta tb : TE} {pos : Pos}
theorem wpe_cmp {op : CmpOp} {t : TE} (h : WC X op a b t) (h1 : behindInMarks op b = false := by first | exact nobehind _ (by decide) (by decide) | rfl) : WE X (.Compare a [op] [b] pos) t := ⟨pe_cmp h.h h1⟩
end
section
variable {X : Cx}
variable {a b : Expr} {ta tb : TE} {pos : Pos}
theorem wpt_cmp {op : CmpOp} {t : TE} (h : WC X op a b t) (h1 : behindInMarks op b = false := by first | exact nobehind _ (by decide) (by decide) | rfl) : WT X (.Compare a [op] [b] pos) (tB t) := ⟨pt_cmp h.h h1⟩
end
section
variable {X : Cx}
variable {a b : Expr} {ta tb : TE} {pos : Pos}
theorem wpt_val {e : Expr} {t : TE} (h : WE X e t) (he : ∀ whole, isTrue e X.env whole = (do let v ← whole; standAt e.pos; holding [v] (truthy v)) := by intro _; rfl) : WT X e (tB t) := ⟨pt_val h.h he⟩
end
section
variable {X : Cx}
variable {a b : Expr} {ta tb : TE} {pos : Pos}
variable {tA tB' : TT} {rest : List Expr}
theorem wpw_and1 (ha : WT X a tA) : WW X (.BoolOp .And [a] pos) tA := ⟨pw_and1 ha.h⟩
end
section
variable {X : Cx}
variable {a b : Expr} {ta tb : TE} {pos : Pos}
variable {tA tB' : TT} {rest : List Expr}
theorem wpw_or1 (ha : WT X a tA) : WW X (.BoolOp .Or [a] pos) tA := ⟨pw_or1 ha.h⟩
end
section
variable {X : Cx}
variable {a b : Expr} {ta tb : TE} {pos : Pos}
variable {tA tB' : TT} {rest : List Expr}
theorem wpw_and (ha : WT X a tA) (hb : WW X (.BoolOp .And (b :: rest) pos) tB') : WW X (.BoolOp .And (a :: b :: rest) pos) (tAnd tA tB') := ⟨pw_and ha.h hb.h⟩
end
section
variable {X : Cx}
variable {a b : Expr} {ta tb : TE} {pos : Pos}
variable {tA tB' : TT} {rest : List Expr}
theorem wpw_or (ha : WT X a tA) (hb : WW X (.BoolOp .Or (b :: rest) pos) tB') : WW X (.BoolOp .Or (a :: b :: rest) pos) (tOr tA tB') := ⟨pw_or ha.h hb.h⟩
end
section
variable {X : Cx}
variable {a b : Expr} {ta tb : TE} {pos : Pos}
variable {tA tB' : TT} {rest : List Expr}
theorem wpt_not (ha : WT X a tA) : WT X (.UnaryOp .Not a pos) (tNot tA) := ⟨pt_not ha.h⟩
end
section
variable {X : Cx}
variable {a b : Expr} {ta tb : TE} {pos : Pos}
variable {tA tB' : TT} {rest : List Expr}
theorem wpe_one {op} {t : TE} (h : WE X a t) : WE X (.BoolOp op [a] pos) t := ⟨pe_one h.h⟩
end
section
variable {X : Cx}
variable {a b : Expr} {ta tb : TE} {pos : Pos}
variable {tA tB' : TT} {rest : List Expr}
theorem wpe_and (ha : WE X a ta) (hb : WE X (.BoolOp .And (b :: rest) pos) tb) : WE X (.BoolOp .And (a :: b :: rest) pos) (tAndV ta tb) := ⟨pe_and ha.h hb.h⟩
end
section
variable {X : Cx}
variable {a b : Expr} {ta tb : TE} {pos : Pos}
variable {tA tB' : TT} {rest : List Expr}
end
section
variable {X : Cx}
variable {a b : Expr} {ta tb : TE} {pos : Pos}
variable {tA tB' : TT} {rest : List Expr}
theorem wpe_not (ha : WE X a ta) : WE X (.UnaryOp .Not a pos) (tNotV ta) := ⟨pe_not ha.h⟩
end
section
variable {X : Cx}
variable {a b : Expr} {ta tb : TE} {pos : Pos}
variable {tA tB' : TT} {rest : List Expr}
end
section
variable {X : Cx} {st : Stmt} {rest : List Stmt} {t u : TS} {e : Expr} {te : TE} {pos : Pos}
theorem wpss_nil  : WSs X [] tNext := ⟨pss_nil ⟩
end
section
variable {X : Cx} {st : Stmt} {rest : List Stmt} {t u : TS} {e : Expr} {te : TE} {pos : Pos}
theorem wpss_cons (h1 : WS X st t) (h2 : WSs X rest u) : WSs X (st :: rest) (tSeq t u) := ⟨pss_cons h1.h h2.h⟩
end
section
variable {X : Cx} {st : Stmt} {rest : List Stmt} {t u : TS} {e : Expr} {te : TE} {pos : Pos}
theorem wpss_one (h1 : WS X st t) : WSs X [st] t := ⟨pss_one h1.h⟩
end
section
variable {X : Cx} {st : Stmt} {rest : List Stmt} {t u : TS} {e : Expr} {te : TE} {pos : Pos}
end
section
variable {X : Cx} {st : Stmt} {rest : List Stmt} {t u : TS} {e : Expr} {te : TE} {pos : Pos}
end
section
variable {X : Cx} {st : Stmt} {rest : List Stmt} {t u : TS} {e : Expr} {te : TE} {pos : Pos}
end
section
variable {X : Cx} {st : Stmt} {rest : List Stmt} {t u : TS} {e : Expr} {te : TE} {pos : Pos}
end
section
variable {X : Cx} {st : Stmt} {rest : List Stmt} {t u : TS} {e : Expr} {te : TE} {pos : Pos}
theorem wps_expr (he : WE X e te) (hs : swapsWith e none pos.line X.env = pure false := by rfl) : WS X (.Expr e pos) (tDrop te) := ⟨ps_expr he.h hs⟩
end
section
variable {X : Cx} {st : Stmt} {rest : List Stmt} {t u : TS} {e : Expr} {te : TE} {pos : Pos}
theorem wps_ret (he : WE X e te) : WS X (.Return (some e) pos) (tRet te) := ⟨ps_ret he.h⟩
end
section
variable {X : Cx} {st : Stmt} {rest : List Stmt} {t u : TS} {e : Expr} {te : TE} {pos : Pos}
end
section
variable {X : Cx} {st : Stmt} {rest : List Stmt} {t u : TS} {e : Expr} {te : TE} {pos : Pos}
theorem wps_if {c : Expr} {a b : List Stmt} {tc : TT} (hc : WT X c tc) (ha : WSs X a t) (hb : WSs X b u) : WS X (.If c a b pos) (tIfS tc t u) := ⟨ps_if hc.h ha.h hb.h⟩
end
section
variable {X : Cx} {st : Stmt} {rest : List Stmt} {t u : TS} {e : Expr} {te : TE} {pos : Pos}
end
section
variable {X : Cx} {st : Stmt} {rest : List Stmt} {t u : TS} {e : Expr} {te : TE} {pos : Pos}
end
section
variable {X : Cx} {pos : Pos}
theorem wpg_name {i : Nat} {x : Str} (hN : X.N.Nodup) (hi : X.N[i]? = some x) (hx : Loc X.env.scope x) (hf : X.fn x = true ∨ X.env.scope.names.lookup x = some .local := by first | exact .inl rfl | exact .inr rfl | assumption) : WG X (.Name x pos) (gName i) := ⟨pg_name hN hi hx hf⟩
end
section
variable {X : Cx} {pos : Pos}
theorem wpgs_nil  : WGs X [] gNil := ⟨pgs_nil ⟩
end
section
variable {X : Cx} {pos : Pos}
theorem wpgs_cons {e : Expr} {es : List Expr} {t : TG} {u : TGs} (h1 : WG X e t) (h2 : WGs X es u) (hs : (assignEach (e :: es) X.env).map (·.2) = assign e X.env :: (assignEach es X.env).map (·.2) := by rfl) : WGs X (e :: es) (gCons t u) := ⟨pgs_cons h1.h h2.h hs⟩
end
section
variable {X : Cx} {pos : Pos}
theorem wpg_tup {es : List Expr} {k : Nat} {t : TGs} {n : Nat} (hc : X.calm = true) (h : WGs X es t) (hn : (assignEach es X.env).length = n := by rfl) (hst : (assignEach es X.env).findIdx? (·.1) = none := by rfl) : WG X (.Tuple es k pos) (gTup X.K n t) := ⟨pg_tup hc h.h hn hst⟩
end
section
variable {X : Cx} {pos : Pos}
theorem wpg_sub {o i : Expr} {to ti : TE} {t : TSet} (ho : WE X o to) (hi : WE X i ti) (hs : PSet X t) (ha : ∀ v, assign (.Subscript o i pos) X.env v = (do
      let ov ← holding [v] (eval o X.env)
      let iv ← holding [v, ov] (eval i X.env)
      standAt pos
      holding [v, ov, iv] (setItem ov iv v)
      release [v, ov, iv] []) := by intro _; rfl) : WG X (.Subscript o i pos) (gSub to ti t) := ⟨pg_sub ho.h hi.h hs ha⟩
end
section
variable {X : Cx} {pos : Pos}
theorem wps_asg {tg e : Expr} {te : TE} {g : TG} (he : WE X e te) (hg : WG X tg g) (hs : swapsWithSole [tg] e pos.line X.env = pure false := by rfl) (hw : swappedStores [tg] e X.env = pure none := by rfl) (h1 : (assignEach [tg] X.env).map (·.2) = [assign tg X.env] := by rfl) : WS X (.Assign [tg] e pos) (tAsg te g) := ⟨ps_asg he.h hg.h hs hw h1⟩
end
section
variable {X : Cx} {pos : Pos}
theorem wps_set {i : Nat} {x : Str} {e : Expr} {te : TE} {pos' : Pos} (hN : X.N.Nodup) (hi : X.N[i]? = some x) (hx : Loc X.env.scope x) (he : WE X e te) (hs : swapsWith e (some (.Name x pos')) pos.line X.env = pure false := by rfl) (hf : X.fn x = true ∨ X.env.scope.names.lookup x = some .local := by first | exact .inl rfl | exact .inr rfl | assumption) : WS X (.Assign [.Name x pos'] e pos) (tAsg te (gName i)) := ⟨ps_set hN hi hx he.h hs hf⟩
end
section
variable {X : Cx} {pos : Pos}
end
section
variable {X : Cx} {pos : Pos}
end
section
variable {X : Cx} {pos : Pos}
end
section
variable {X : Cx} {pos : Pos}
end
section
variable {X : Cx} {tg : Expr}
theorem wpi_list {l : Expr} {tl : TE} (hl : WE X l tl) : WI X tg l (iList X.K tl) := ⟨pi_list hl.h⟩
end
section
variable {X : Cx} {tg : Expr}
theorem wpi_tup {l : Expr} {tl : TE} (hl : WE X l tl) : WI X tg l (iTup X.K tl) := ⟨pi_tup hl.h⟩
end
section
variable {X : Cx} {tg : Expr}
theorem wpi_range1 {a : Expr} {ta : TA} {p pos : Pos} (hg : Gl X "range") (hm : X.mg "range" = none) (ha : WA X [a] ta) (hs : starEach [a] X.env = [(false, eval a X.env)] := by rfl) : WI X tg (.Call (.Name "range" p) [a] [] pos) (iRng1 ta) := ⟨pi_range1 hg hm ha.h hs⟩
end
section
variable {X : Cx} {tg : Expr}
end
section
variable {X : Cx} {tg : Expr}
theorem wps_for {iter : Expr} {body : List Stmt} {wi : TI} {g : TG} {tb : TS} {pos : Pos} (hp : PassesOwn (model X.prog X.w) X.A X.env X.xe) (hc : X.calm = true) (hi : WI X tg iter wi) (hg : WG X tg g) (hb : WSs X body tb) (hs : ∀ x, foldedSetIterable iter X.env x = pure x := by intro _; rfl) : WS X (.For tg iter body [] pos) (tFor wi g tb) := ⟨ps_for hp hc hi.h hg.h hb.h hs⟩
end
section
variable {X : Cx} {a b c : Expr} {ta tb tc : TE} {pos : Pos}
theorem wpe_op {op : Operator} {r : R2} (ho : OpR X (binaryOp op) r) (ha : WE X a ta) (hb : WE X b tb) : WE X (.BinOp a op b pos) (tOp r ta tb) := ⟨pe_op ho ha.h hb.h⟩
end
section
variable {X : Cx} {a b c : Expr} {ta tb tc : TE} {pos : Pos}
theorem wpe_un {op : UnaryOp} {r : V → Hp → VK → Prop} (ho : UnR X (unaryOp op) r) (ha : WE X a ta) : WE X (.UnaryOp op a pos) (tUn r ta) := ⟨pe_un ho ha.h⟩
end
section
variable {X : Cx} {a b c : Expr} {ta tb tc : TE} {pos : Pos}
theorem wpe_cmpR {op : CmpOp} {r : R2} (ho : OpR X (compareOp op) r) (ha : WE X a ta) (hb : WE X b tb) (hm : behindInMarks op b = false) : WE X (.Compare a [op] [b] pos) (tOp r ta tb) := ⟨pe_cmpR ho ha.h hb.h hm⟩
end
section
variable {X : Cx} {a b c : Expr} {ta tb tc : TE} {pos : Pos}
theorem wpt_cmpR {op : CmpOp} {r : R2} (ho : OpR X (compareOp op) r) (ha : WE X a ta) (hb : WE X b tb) (hm : behindInMarks op b = false) : WT X (.Compare a [op] [b] pos) (tTest (tOp r ta tb)) := ⟨pt_cmpR ho ha.h hb.h hm⟩
end
section
variable {X : Cx} {a b c : Expr} {ta tb tc : TE} {pos : Pos}
end
section
variable {X : Cx} {a b c : Expr} {ta tb tc : TE} {pos : Pos}
end
section
variable {X : Cx} {a b c : Expr} {ta tb tc : TE} {pos : Pos}
end
section
variable {X : Cx} {a b c : Expr} {ta tb tc : TE} {pos : Pos}
end
section
variable {X : Cx} {a b c : Expr} {ta tb tc : TE} {pos : Pos}
end
section
variable {X : Cx} {a b c : Expr} {ta tb tc : TE} {pos : Pos}
end
section
variable {X : Cx} {o e value : Expr} {f : Str} {pos pos' tpos : Pos} {ta tv : TE}
theorem wpe_fld (he : WE X e ta) (hb : attributeBase e f X.env (eval e X.env) = eval e X.env) : WE X (.Attribute e f pos) (tFld X.K ta f) := ⟨pe_fld he.h hb⟩
end
section
variable {X : Cx} {o e value : Expr} {f : Str} {pos pos' tpos : Pos} {ta tv : TE}
end
section
variable {X : Cx} {o e value : Expr} {f : Str} {pos pos' tpos : Pos} {ta tv : TE}
theorem wps_fld (ha : WE X o ta) (hv : WE X value tv) (hs : swapsWith value (some (.Attribute o f pos')) pos.line X.env = pure false) : WS X (.Assign [.Attribute o f pos'] value pos) (sFld X.K ta tv f) := ⟨ps_fld ha.h hv.h hs⟩
end
section
variable {X : Cx} {o e value : Expr} {f : Str} {pos pos' tpos : Pos} {ta tv : TE}
end
section
variable {X : Cx} {e : Expr} {es : List Expr} {te : TE} {t : TA} {pos : Pos}
theorem wpa_nil  : WA X [] tNil := ⟨pa_nil ⟩
end
section
variable {X : Cx} {e : Expr} {es : List Expr} {te : TE} {t : TA} {pos : Pos}
theorem wpa_cons (ha : WE X e te) (hr : WA X es t) (hs : starEach (e :: es) X.env = (false, eval e X.env) :: starEach es X.env := by rfl) : WA X (e :: es) (tCons te t) := ⟨pa_cons ha.h hr.h hs⟩
end
section
variable {X : Cx} {e : Expr} {es : List Expr} {te : TE} {t : TA} {pos : Pos}
theorem wpe_tup {x1} (h : WA X es t) : WE X (.Tuple es x1 pos) (tTup t) := ⟨pe_tup h.h⟩
end
section
variable {X : Cx} {e : Expr} {es : List Expr} {te : TE} {t : TA} {pos : Pos}
theorem wpe_lst (h : WA X es t) : WE X (.List es pos) (tLst t) := ⟨pe_lst h.h⟩
end
section
variable {X : Cx} {CX : CXT} {k : Nat} {f C : Addr} {fd : FuncData} {ps : List Str} {sp : Sp} {dvs : List V} {ds : List Value} {E : XK} {x m : Str} {p pos apos : Pos} {e o : Expr} {es : List Expr} {ta : TE} {t : TA}
end
section
variable {X : Cx} {CX : CXT} {k : Nat} {f C : Addr} {fd : FuncData} {ps : List Str} {sp : Sp} {dvs : List V} {ds : List Value} {E : XK} {x m : Str} {p pos apos : Pos} {e o : Expr} {es : List Expr} {ta : TE} {t : TA}
end
section
variable {X : Cx} {CX : CXT} {k : Nat} {f C : Addr} {fd : FuncData} {ps : List Str} {sp : Sp} {dvs : List V} {ds : List Value} {E : XK} {x m : Str} {p pos apos : Pos} {e o : Expr} {es : List Expr} {ta : TE} {t : TA}
theorem wpe_meth {pl : Sem Bool} (he : WE X o ta) (c : Cls X.K C) (hm : Meth X.K C m f) (F : FnOk X.prog X.w X.K X.mg X.base CX k f fd ps sp) (hr : Room k X.A) (hb : Binds X.K fd ps ds) (hd : Vals dvs ds) (hx : Passes CX X E) (ha : WA X (e :: es) t) (hst : starEach (e :: es) X.env = (false, eval e X.env) :: starEach es X.env := by rfl) (hpl : (backTo pos (starEach es X.env)).any (·.1) = false := by rfl) (ht : eval (.Call (.Attribute o m apos) (e :: es) [] pos) X.env = (do
      let ov ← eval o X.env
      standAt apos.atName
      let (f, first) ← holding [ov] (getMethod ov m pl)
      callWith pos f first (backTo pos (starEach (e :: es) X.env)) (backToKw pos (keywordEach [] X.env))) := by rfl) : WE X (.Call (.Attribute o m apos) (e :: es) [] pos) (tMeth C m sp dvs E ta t) := ⟨pe_meth he.h c hm F hr hb hd hx ha.h hst hpl ht⟩
end
section
variable {X : Cx} {CX : CXT} {k : Nat} {f C : Addr} {fd : FuncData} {ps : List Str} {sp : Sp} {dvs : List V} {ds : List Value} {E : XK} {x m : Str} {p pos apos : Pos} {e o : Expr} {es : List Expr} {ta : TE} {t : TA}
end
section
variable {X : Cx} {CX : CXT} {k : Nat} {f C : Addr} {fd : FuncData} {ps : List Str} {sp : Sp} {dvs : List V} {ds : List Value} {E : XK} {x m : Str} {p pos apos : Pos} {e o : Expr} {es : List Expr} {ta : TE} {t : TA}
end
section
variable {X : Cx} {CX : CXT} {k : Nat} {f C : Addr} {fd : FuncData} {ps : List Str} {sp : Sp} {dvs : List V} {ds : List Value} {E : XK} {x m : Str} {p pos apos : Pos} {e o : Expr} {es : List Expr} {ta : TE} {t : TA}
theorem wpe_make0 (M : Mk X.K C f) (F : FnOk X.prog X.w X.K X.mg X.base CX k f fd ps sp) (hr : Room (k + 1) X.A) (hg : Gl X x) (hm : X.mg x = some (.ref C)) (hb : Binds X.K fd ps ds) (hd : Vals dvs ds) (hx : Passes CX X E) (hdb : (x == ("__debug__" : Str)) = false := by decide) : WE X (.Call (.Name x p) [] [] pos) (tMake C sp dvs E tNil) := ⟨pe_make0 M F hr hg hm hb hd hx hdb⟩
end
section
variable {X : Cx} {CX : CXT} {k : Nat} {f C : Addr} {fd : FuncData} {ps ks : List Str} {sp : Sp} {E : XK} {x m : Str} {p pos apos kpos : Pos} {e o : Expr} {es : List Expr} {kws : List Keyword} {te ta : TE} {t tk : TA} {nm : Option Str}
variable {g : List Value → List Value → List Value} {gV : List V → List V → List V}
end
section
variable {X : Cx} {x : Str} {p pos : Pos} {e : Expr} {es : List Expr} {t : TA} {id T : String} {r : List V → Hp → VK → Prop}
theorem wpe_callB (hc : CallR X (.builtin id) r) (hg : Gl X x) (hm : X.mg x = none) (hv : bootBuiltins x = some (.builtin id)) (ha : WA X (e :: es) t) (hn : x ≠ "__name__" := by decide) (hdb : (x == ("__debug__" : Str)) = false := by decide) (he : starEach (e :: es) X.env = (false, eval e X.env) :: starEach es X.env := by rfl) (hpl : (backTo pos (starEach es X.env)).any (·.1) = false := by rfl) : WE X (.Call (.Name x p) (e :: es) [] pos) (tCB r t) := ⟨pe_callB hc hg hm hv ha.h hn hdb he hpl⟩
end
section
variable {X : Cx} {x : Str} {p pos : Pos} {e : Expr} {es : List Expr} {t : TA} {id T : String} {r : List V → Hp → VK → Prop}
theorem wpe_callTy (hc : CallR X (.type T) r) (hg : Gl X x) (hm : X.mg x = none) (hv : bootBuiltins x = some (.type T)) (ha : WA X (e :: es) t) (hn : x ≠ "__name__" := by decide) (hdb : (x == ("__debug__" : Str)) = false := by decide) (he : starEach (e :: es) X.env = (false, eval e X.env) :: starEach es X.env := by rfl) (hpl : (backTo pos (starEach es X.env)).any (·.1) = false := by rfl) : WE X (.Call (.Name x p) (e :: es) [] pos) (tCB r t) := ⟨pe_callTy hc hg hm hv ha.h hn hdb he hpl⟩
end
section
variable {X : Cx} {x : Str} {p pos : Pos} {e : Expr} {es : List Expr} {t : TA} {id T : String} {r : List V → Hp → VK → Prop}
end
section
variable {X : Cx} {e : Expr} {te : TE} {lo hi : Option Expr} {tl th : TO} {pos p2 : Pos}
theorem wpo_none  : WO X none tNoPart := ⟨po_none ⟩
end
section
variable {X : Cx} {e : Expr} {te : TE} {lo hi : Option Expr} {tl th : TO} {pos p2 : Pos}
theorem wpo_some (h : WE X e te) : WO X (some e) (tPart te) := ⟨po_some h.h⟩
end
section
variable {X : Cx} {e : Expr} {te : TE} {lo hi : Option Expr} {tl th : TO} {pos p2 : Pos}
theorem wpe_slice {r : V → Option Int → Option Int → Hp → VK → Prop} (hr : SlR X r) (he : WE X e te) (hl : WO X lo tl) (hu : WO X hi th) : WE X (.Subscript e (.Slice lo hi none p2) pos) (tSl r te tl th) := ⟨pe_slice hr he.h hl.h hu.h⟩
end
section
variable {X : Cx} {a b : Expr} {ta tb : TE} {pos : Pos}
theorem wpe_ix {r : R2} (hr : IxR X r) (ha : WE X a ta) (hb : WE X b tb) (hs : PlainIx b) : WE X (.Subscript a b pos) (tOp r ta tb) := ⟨pe_ix hr ha.h hb.h hs⟩
end
section
variable {X : Cx} {a b : Expr} {ta tb : TE} {pos : Pos}
variable {o e : Expr} {es : List Expr} {to : TE} {t : TA} {name : Str} {apos cpos : Pos} {T id : String} {r : V → List V → Hp → VK → Prop}
theorem wpe_bm0 (pa : PlainAttrs T) (slot : Slot T name id) (hty : typeOf (.builtin id) = pure (.type "method_descriptor")) (hm : MtR X id r) (ho : WE X o to) (hbase : attributeBase o name X.env (eval o X.env) = eval o X.env := by rfl) (hline : (apos.endLine == cpos.line) = true := by rfl) : WE X (.Call (.Attribute o name apos) [] [] cpos) (tBM0 X.K T r to) := ⟨pe_bm0 pa slot hty hm ho.h hbase hline⟩
end
section
variable {X : Cx} {a b : Expr} {ta tb : TE} {pos : Pos}
variable {o e : Expr} {es : List Expr} {to : TE} {t : TA} {name : Str} {apos cpos : Pos} {T id : String} {r : V → List V → Hp → VK → Prop}
theorem wpe_bm (pa : PlainAttrs T) (slot : Slot T name id) (hty : typeOf (.builtin id) = pure (.type "method_descriptor")) (hm : MtR X id r) (ho : WE X o to) (ha : WA X (e :: es) t) (hbase : attributeBase o name X.env (eval o X.env) = eval o X.env := by rfl) (hfew : ((backTo cpos (starEach (e :: es) X.env)).all (fun x => !x.1) && (backToKw cpos (keywordEach [] X.env)).all (fun x => x.1.isSome)
      && decide ((e :: es).length + ([] : List Keyword).length + (if ([] : List Keyword).isEmpty then 0 else 1) < 30)) = true := by rfl) (hline : (apos.endLine == cpos.line) = true := by rfl) (hs : starEach (e :: es) X.env = (false, eval e X.env) :: starEach es X.env := by rfl) (hplain : (backTo cpos (starEach es X.env)).any (·.1) = false := by rfl) : WE X (.Call (.Attribute o name apos) (e :: es) [] cpos) (tBM X.K T r to t) := ⟨pe_bm pa slot hty hm ho.h ha.h hbase hfew hline hs hplain⟩
end
section
variable {X : Cx} {o i e value : Expr} {pos pos' tpos : Pos} {td ty tv : TE}
theorem wpe_dget (hu : X.A.units + 1 < cLine) (ho : WE X o td) (hi : WE X i ty) (hs : NoSl i) : WE X (.Subscript o i pos) (tDGet td ty) := ⟨pe_dget hu ho.h hi.h hs⟩
end
section
variable {X : Cx} {o i e value : Expr} {pos pos' tpos : Pos} {td ty tv : TE}
theorem wpc_din (hu : X.A.units + 1 < cLine) (hi : WE X i ty) (ho : WE X o td) : WC X .In i o (tDIn ty td) := ⟨pc_din hu hi.h ho.h⟩
end
section
variable {X : Cx} {o i e value : Expr} {pos pos' tpos : Pos} {td ty tv : TE}
theorem wpc_dnotin (hu : X.A.units + 1 < cLine) (hi : WE X i ty) (ho : WE X o td) : WC X .NotIn i o (tDNotIn ty td) := ⟨pc_dnotin hu hi.h ho.h⟩
end
section
variable {X : Cx} {o i e value : Expr} {pos pos' tpos : Pos} {td ty tv : TE}
theorem wps_dput (hu : X.A.units + 1 < cLine) (ho : WE X o td) (hi : WE X i ty) (hv : WE X value tv) (hs : swapsWith value (some (.Subscript o i pos')) pos.line X.env = pure false) : WS X (.Assign [.Subscript o i pos'] value pos) (sDPut td ty tv) := ⟨ps_dput hu ho.h hi.h hv.h hs⟩
end
section
variable {X : Cx} {o i e value : Expr} {pos pos' tpos : Pos} {td ty tv : TE}
end
section
variable {X : Cx} {o i e value : Expr} {pos pos' tpos : Pos} {td ty tv : TE}
end
section
variable {X : Cx} {pos : Pos}
theorem wpe_dnewK  : WE X (.Dict [] [] pos) tDNewK := ⟨pe_dnewK ⟩
end
section
variable {X : Cx} {pos : Pos}
theorem wpe_dnewT  : WE X (.Dict [] [] pos) tDNewT := ⟨pe_dnewT ⟩
end
section
end
section
variable {X : Cx} {o e f : Expr} {apos cpos : Pos} {td ty tx : TE}
end
section
variable {X : Cx} {o e f : Expr} {apos cpos : Pos} {td ty tx : TE}
theorem wpe_dget2 (hu : X.A.units + 1 < cLine) (ho : WE X o td) (he : WE X e ty) (hf : WE X f tx) (m : M2 X o "get" apos e f cpos) : WE X (.Call (.Attribute o "get" apos) [e, f] [] cpos) (tDGet2 td ty tx) := ⟨pe_dget2 hu ho.h he.h hf.h m⟩
end
section
variable {X : Cx} {o e f : Expr} {apos cpos : Pos} {td ty tx : TE}
end
section
variable {X : Cx} {o e f : Expr} {apos cpos : Pos} {td ty tx : TE}
end
section
variable {X : Cx}
theorem wpv (i : Nat) {x : Str} {pos : Pos} (hN : X.N[i]? = some x := by rfl) (hv : Vis X.env.scope x := by first | exact Or.inl rfl | exact Or.inr (Or.inl rfl) | exact Or.inr (Or.inr rfl)) (hd : (x == ("__debug__" : Str)) = false := by decide) (hcd : (x == ("__classdict__" : Str)) = false := by decide) : WE X (.Name x pos) (tVar i) := ⟨pv i hN hv hd hcd⟩
end
theorem WW.pt {X : Cx} {e : Expr} {t : TT} (h : WW X e t) : WT X e t := ⟨h.h.pt⟩
end OG
namespace OG
open PySem PySem.Spec PyProof.Rows L2
section
variable {X : Cx} {a b c e : Expr} {ta tb tc : TE} {pos : Pos}
def CDivB (i j : Int) : Prop := 0 < j ∧ j.natAbs.log2 < 9000
theorem op_fdivB : OpR X (binaryOp .FloorDiv) (rI CDivB fun i j => .int (i / j)) := opI fun i j _ _ _ _ _ hc q => by
  refine PyProof.Rows.floordiv_int (by have := hc.1; omega) ?_ (.inl (PyProof.noPylong_of_log2 hc.2))
  rw [Int.fdiv_eq_ediv_of_nonneg i (Int.le_of_lt hc.1)]
  exact q
theorem call_isinst : CallR X (.builtin "isinstance") (fun xs H Q => ∃ (x : V) (T : String) (t : Value) (k : Bool), xs = [x, .ty T] ∧ TyOf X.K H x t ∧ PySem.W.kitOne X.K t (.type T) = some k ∧ Q (.bl k) H) := by
  rintro pins s σ H xs us Q I r ⟨x, T, t, k, rfl, ty, e, q⟩
  obtain ⟨u, w', rfl, ru, rw'⟩ := vals2 r
  cases rw'
  exact isinst_ok I ru ty e fun tk => ⟨.bl k, H, I.tok tk, rfl, q⟩
end
inductive D where
  | non | bl (b : Bool) | int (i : Int) | str (x : Str) | tup (ds : List D) | lst (ds : List D)
mutual
def Is (H : Hp) : V → D → Prop
  | v, .non => v = .non
  | v, .bl b => v = .bl b
  | v, .int i => v = .int i
  | v, .str x => v = .str x
  | v, .tup ds => ∃ a xs, v = .ref a ∧ H a = some (.tup xs) ∧ IsL H xs ds
  | v, .lst ds => ∃ a xs, v = .ref a ∧ H a = some (.lst xs) ∧ IsL H xs ds
def IsL (H : Hp) : List V → List D → Prop
  | xs, [] => xs = []
  | xs, d :: ds => ∃ x r, xs = x :: r ∧ Is H x d ∧ IsL H r ds
end
mutual
theorem Is.mono {H H' : Hp} (s : Same H H') : ∀ {v : V} {d : D}, Is H v d → Is H' v d
  | v, .non, h => by unfold Is at h ⊢; exact h
  | v, .bl b, h => by unfold Is at h ⊢; exact h
  | v, .int i, h => by unfold Is at h ⊢; exact h
  | v, .str x, h => by unfold Is at h ⊢; exact h
  | v, .tup ds, h => by
    unfold Is at h ⊢
    obtain ⟨a, xs, e, k, l⟩ := h
    exact ⟨a, xs, e, s _ _ k, IsL.mono s l⟩
  | v, .lst ds, h => by
    unfold Is at h ⊢
    obtain ⟨a, xs, e, k, l⟩ := h
    exact ⟨a, xs, e, s _ _ k, IsL.mono s l⟩
theorem IsL.mono {H H' : Hp} (s : Same H H') : ∀ {xs : List V} {ds : List D}, IsL H xs ds → IsL H' xs ds
  | xs, [], h => by unfold IsL at h ⊢; exact h
  | xs, d :: ds, h => by
    unfold IsL at h ⊢
    obtain ⟨x, r, e, k, l⟩ := h
    exact ⟨x, r, e, Is.mono s k, IsL.mono s l⟩
end
section
variable {H H' : Hp} {v : V} {xs ys : List V} {ds es : List D} {d : D} {p q : Addr} {o : HO}
theorem Is.int_ {i : Int} : Is H (.int i) (.int i) := by unfold Is; rfl
theorem Is.bl_ {b : Bool} : Is H (.bl b) (.bl b) := by unfold Is; rfl
theorem Is.non_ : Is H .non .non := by unfold Is; rfl
theorem Is.str_ {x : Str} : Is H (.str x) (.str x) := by unfold Is; rfl
theorem Is.of_int {i : Int} (h : Is H v (.int i)) : v = .int i := by unfold Is at h; exact h
theorem Is.of_bl {b : Bool} (h : Is H v (.bl b)) : v = .bl b := by unfold Is at h; exact h
theorem Is.of_non (h : Is H v .non) : v = .non := by unfold Is at h; exact h
theorem Is.of_str {x : Str} (h : Is H v (.str x)) : v = .str x := by unfold Is at h; exact h
theorem Is.of_tup (h : Is H v (.tup ds)) : ∃ a xs, v = .ref a ∧ H a = some (.tup xs) ∧ IsL H xs ds := by unfold Is at h; exact h
theorem Is.tup_ (e : H p = some (.tup xs)) (h : IsL H xs ds) : Is H (.ref p) (.tup ds) := by unfold Is; exact ⟨p, xs, rfl, e, h⟩
theorem IsL.nil_ : IsL H [] [] := by unfold IsL; rfl
theorem IsL.cons_ {x : V} (h : Is H x d) (t : IsL H xs ds) : IsL H (x :: xs) (d :: ds) := by unfold IsL; exact ⟨x, xs, rfl, h, t⟩
theorem IsL.of_nil (h : IsL H xs []) : xs = [] := by unfold IsL at h; exact h
theorem IsL.of_cons (h : IsL H xs (d :: ds)) : ∃ x r, xs = x :: r ∧ Is H x d ∧ IsL H r ds := by unfold IsL at h; exact h
theorem IsL.length : ∀ {xs : List V} {ds : List D}, IsL H xs ds → xs.length = ds.length
  | xs, [], h => by rw [h.of_nil]; rfl
  | xs, d :: ds, h => by
    obtain ⟨x, r, rfl, _, t⟩ := h.of_cons
    rw [List.length_cons, List.length_cons, IsL.length t]
theorem IsL.getD : ∀ {xs : List V} {ds : List D} {i : Nat} {d : D}, IsL H xs ds → ds[i]? = some d → ∃ x, xs[i]? = some x ∧ Is H x d
  | xs, [], i, x, h, e => by simp at e
  | xs, d :: ds, 0, x, h, e => by
    obtain ⟨y, r, rfl, k, t⟩ := h.of_cons
    simp at e; subst e; exact ⟨y, by simp, k⟩
  | xs, d :: ds, i + 1, x, h, e => by
    obtain ⟨y, r, rfl, k, t⟩ := h.of_cons
    obtain ⟨d', e1, e2⟩ := IsL.getD (i := i) (d := x) t (by simpa using e)
    exact ⟨d', by simpa using e1, e2⟩
theorem IsL.append : ∀ {xs : List V} {ds : List D}, IsL H xs ds → IsL H ys es → IsL H (xs ++ ys) (ds ++ es)
  | xs, [], h, k => by rw [h.of_nil]; exact k
  | xs, d :: ds, h, k => by
    obtain ⟨y, r, rfl, z, t⟩ := h.of_cons
    exact .cons_ z (IsL.append t k)
theorem IsL.ints : ∀ {ns : List Int}, IsL H (ns.map V.int) (ns.map D.int)
  | [] => IsL.nil_
  | _ :: _ => .cons_ .int_ IsL.ints
end
theorem same_new {H : Hp} {p : Addr} (h : H p = none) (o : HO) : Same H (upd H p o) := fun b u q => by rw [upd_ne (ne_of_none q h)]; exact q
def Def (K : PySem.W.Frag) (mg : Str → Option Value) (x : Str) (st : Stmt) (ps : List Str) : Prop :=
  ∃ f fd, Fun K x x st f fd ∧ Binds K fd ps [] ∧ mg x = some (.ref f)
def Has (P : Program) (w : World) (K : PySem.W.Frag) (mg : Str → Option Value) (base : Heap) (x : Str) (k : Nat) (ps : List Str) (sp : Sp) : Prop :=
  ∃ f fd, FnOk P w K mg base CX0 k f fd ps sp ∧ Binds K fd ps [] ∧ PySem.W.keepIn K (.ref f) = true ∧ mg x = some (.ref f)
section
variable {P : Program} {w : World} {K : PySem.W.Frag} {mg : Str → Option Value} {base : Heap} {x : Str} {st : Stmt} {ps N : List Str} {k j : Nat} {sp sp' : Sp}
theorem Has.mono (h : Has P w K mg base x j ps sp) (l : j ≤ k) : Has P w K mg base x k ps sp := by
  obtain ⟨f, fd, a, b, c, d⟩ := h
  exact ⟨f, fd, a.mono l, b, c, d⟩
theorem Def.has (d : Def K mg x st ps) (S : FnScope N ps (defScope st)) (len : ∀ vs H Q E, sp vs H Q E → vs.length = ps.length)
    (hbody : ∀ (f : Addr) (cdv : Value) (A : Around) (outer : List Env) (s : Shared) (H : Hp) (vs : List V) (Q : VK) (E : XK), Room k (A.deeper (envOfC x (defScope st) s.heap.objs.size f cdv)) → sp vs H Q E →
      ∃ t, WSs (cxOf CX0 P w K mg base N x (defScope st) f cdv A outer s H E).nox (defBody st) t ∧ t { nx := fun _ H' => Q .non H', rt := Q } (start N vs) H) : Has P w K mg base x (k + 1) ps sp := by
  obtain ⟨f, fd, F, b, m⟩ := d
  exact ⟨f, fd, F.ok S len (fun cdv A outer s H vs Q E hr h => let ⟨t, a, b⟩ := hbody f cdv A outer s H vs Q E hr h; ⟨t, a.h, b⟩), b, F.kp, m⟩
theorem Def.none (d : Def K mg x st ps) (no : ∀ vs H Q E, ¬ sp vs H Q E) : Has P w K mg base x k ps sp := by
  obtain ⟨f, fd, F, b, m⟩ := d
  exact ⟨f, fd, ⟨fun vs H Q E h => absurd h (no vs H Q E), fun A outer s H args us vs Q E _ _ _ _ h => absurd h (no vs H Q E)⟩, b, F.kp, m⟩
end
theorem wpe_fn {X : Cx} {k : Nat} {ps : List Str} {sp : Sp} {x : Str} {p pos : Pos} {e : Expr} {es : List Expr} {t : TA} (F : Has X.prog X.w X.K X.mg X.base x k ps sp) (hr : Room k X.A) (hg : Gl X x)
    (ha : WA X (e :: es) t) (hdb : (x == ("__debug__" : Str)) = false := by decide) (he : starEach (e :: es) X.env = (false, eval e X.env) :: starEach es X.env := by rfl) (hpl : (backTo pos (starEach es X.env)).any (·.1) = false := by rfl) :
    WE X (.Call (.Name x p) (e :: es) [] pos) (tCall sp [] E0 t) := by
  obtain ⟨f, fd, a, b, c, d⟩ := F
  exact ⟨pe_call a hr hg d c b .nil pass0 ha.h hdb he hpl⟩
structure Blt (mg : Str → Option Value) : Prop where
  len : mg "len" = none
  isinstance : mg "isinstance" = none
  int : mg "int" = none
  bool : mg "bool" = none
  str : mg "str" = none
  tuple : mg "tuple" = none
  list : mg "list" = none
  range : mg "range" = none
  min : mg "min" = none
  sum : mg "sum" = none
  all : mg "all" = none
  zip : mg "zip" = none
  sorted : mg "sorted" = none
  dict : mg "dict" = none
  enumerate : mg "enumerate" = none
  any : mg "any" = none
  max : mg "max" = none
  set : mg "set" = none
theorem smallN {n : Nat} (h : n ≤ 1000) : n ≤ sizeLine := Nat.le_of_lt (small1000 h)
end OG
namespace OG
open PySem PySem.Spec PyProof.Rows L2
section
variable {X : Cx} {st : Stmt} {rest : List Stmt} {t u : TS}
end
end OG
namespace OG
open PySem PySem.Spec PyProof.Rows L2
section
variable {p : Addr} {σ : L2.St} {H0 : Hp} {t ta tb : TE} {tr : TA} {d : D} {ds es : List D} {i j : Int} {o : HO}
end
theorem log2_small {n : Nat} (h : n < 2 ^ 60) : n.log2 < 1920 := by
  by_cases e : n = 0
  · subst e; decide
  · have := (Nat.log2_lt e).mpr h; omega
end OG
namespace OG
open PySem PySem.Spec PyProof.Rows L2
theorem cut_ints (ns : List Int) (lo hi : Option Int) : cutV (ns.map V.int) lo hi = ((ns.drop (HT.sIx (ns.map V.int).length 0 lo)).take (HT.sIx (ns.map V.int).length (ns.map V.int).length hi - HT.sIx (ns.map V.int).length 0 lo)).map V.int := by
  unfold cutV
  rw [List.map_take, List.map_drop]
def spLaw (K : PySem.W.Frag) : Sp := fun vs H Q _ => ∃ (a : Addr) (ns : List Int), vs = [.ref a] ∧ SqL K H a (ns.map V.int) ∧ ns.length ≤ 63 ∧ ∀ H', Q (.bl true) H'
end OG
namespace OG
open PySem PySem.Spec PyProof.Rows L2
theorem boot_int : bootBuiltins "int" = some (.type "int") := rfl
theorem boot_bool : bootBuiltins "bool" = some (.type "bool") := rfl
theorem boot_str : bootBuiltins "str" = some (.type "str") := rfl
theorem boot_tuple : bootBuiltins "tuple" = some (.type "tuple") := rfl
theorem boot_list : bootBuiltins "list" = some (.type "list") := rfl
theorem boot_isinstance : bootBuiltins "isinstance" = some (.builtin "isinstance") := rfl
theorem boot_sorted : bootBuiltins "sorted" = some (.builtin "sorted") := rfl
theorem wpe_ty {X : Cx} {x : Str} {T : String} {pos : Pos} (hg : Gl X x) (hm : X.mg x = none) (hv : bootBuiltins x = some (.type T)) (hn : x ≠ "__name__" := by decide) (hd : (x == ("__debug__" : Str)) = false := by decide) : WE X (.Name x pos) (tC (.ty T)) :=
  ⟨pe_bltn hg hm hv rfl hn hd⟩
end OG
namespace OG
open PySem PySem.Spec PyProof.Rows L2
end OG
namespace OG
open PySem PySem.Spec PyProof.Rows L2
theorem atI_of {α : Type} {xs : List α} {k : Int} {v : α} (h0 : 0 ≤ k) (h : xs[k.toNat]? = some v) : atI xs k = some v := by
  have ek : k = ((k.toNat : Nat) : Int) := by omega
  rw [ek]; exact atI_nat h
end OG
namespace OG
open PySem PySem.Spec PyProof.Rows L2
end OG
namespace OG
open PySem PySem.Spec PyProof.Rows L2
end OG
namespace OG
open PySem PySem.Spec PyProof.Rows L2
theorem Fun.okW {P : Program} {w : World} {K : PySem.W.Frag} {mg : Str → Option Value} {base : Heap} {x qual : Str} {st : Stmt} {f : Addr} {fd : FuncData} {N ps : List Str} {k : Nat} {sp : Sp} (F : Fun K x qual st f fd) (S : FnScope N ps (defScope st)) (len : ∀ vs H Q E, sp vs H Q E → vs.length = ps.length)
    (hbody : ∀ (cdv : Value) (A : Around) (outer : List Env) (s : Shared) (H : Hp) (vs : List V) (Q : VK) (E : XK), Room k (A.deeper (envOfC qual (defScope st) s.heap.objs.size f cdv)) → sp vs H Q E →
      ∃ t, WSs (cxOf CX0 P w K mg base N qual (defScope st) f cdv A outer s H E).nox (defBody st) t ∧ t { nx := fun _ H' => Q .non H', rt := Q } (start N vs) H) : FnOk P w K mg base CX0 (k + 1) f fd ps sp :=
  F.ok S len fun cdv A outer s H vs Q E hr h => let ⟨t, a, b⟩ := hbody cdv A outer s H vs Q E hr h; ⟨t, a.h, b⟩
end OG
set_option maxHeartbeats 1000000
namespace OG
open PySem PySem.Spec PyProof.Rows L2
def AllC (env : Env) : List (Str × Addr) → Prop
  | [] => True
  | p :: r => env.cells.lookup p.1 = some p.2 ∧ AllC env r
theorem AllC.look {env : Env} : ∀ {cl : List (Str × Addr)} {y : Str} {c : Addr}, AllC env cl → cl.lookup y = some c → env.cells.lookup y = some c
  | [], _, _, _, h => by simp at h
  | (n, d) :: r, y, c, a, h => by
    obtain ⟨a1, a2⟩ := a
    rw [List.lookup_cons] at h
    by_cases e : (y == n) = true
    · rw [e] at h
      have e' : y = n := by simpa using e
      subst e'
      cases h
      exact a1
    · have e' : (y == n) = false := by simpa using e
      rw [e'] at h
      exact AllC.look a2 h
abbrev cxC (X : Cx) (Nc : List Str) (scope : Scope) (cl : List (Str × Addr)) (s3 : Shared) (H3 : Hp) (fp : List Addr) : Cx where
  prog := X.prog
  w := X.w
  K := X.K
  mg := X.mg
  base := X.base
  A := X.A
  N := Nc
  s₀ := s3
  H₀ := H3
  env := compEnvC scope cl s3.heap.objs.size X.env
  outer := X.stack
  stack := X.stack
  ex := fp
  fn := fun _ => false
  calm := X.calm
  pn := []
  xe := fun _ _ => False
def stC (n : Nat) (caps : List Nat) (σ : L2.St) : L2.St := List.replicate n none ++ caps.map fun i => (σ[i]?).getD none
def tComp (wi : TI) (g : TG) (te : TE) (n : Nat) (caps : List Nat) : TE := fun σ H Q => wi σ H fun J H1 => ∀ l, H1 l = none → ∃ W : Nat → Nat → L2.St → Hp → Prop, (∃ m, W 0 m (stC n caps σ) (upd H1 l (.lst []))) ∧
  ∀ i m σ' H2, W i m σ' H2 → (J.stop i H2 ∧ Q (.ref l) H2) ∨ (J.go i H2 ∧ ∃ N : L2.St → Hp → Prop, (∀ σ'' H', N σ'' H' → ∃ m', m' < m ∧ W (i + 1) m' σ'' H') ∧
    ∀ x H3, J.yld i H2 x H3 → g x σ' H3 fun σ2 H4 => te σ2 H4 fun v H5 => ∃ ys, H5 l = some (.lst ys) ∧ ys.length < sizeLine ∧ N σ2 (upd H5 l (.lst (ys ++ [v]))))
theorem compLoop_any {prog : Program} {w : World} {A : Around} {R : Result → Shared → Prop} {s : Shared} {elt target iter : Expr} {scope : Scope} {pos : Pos} {it acc : Value} {env : Env} (I : Nat → Shared → Prop)
    (turn : ∀ n s, I n s → wpAny (model prog w) A (pyNext it) (fun r s₁ => match r with
      | none => R (.ok .next) s₁
      | some v => wpAny (model prog w) A (letOwnedTupleGo target it v) (fun _ s₁' => wpAny (model prog w) A (assign target env v) (fun _ s₂ => wpAny (model prog w) A (eval elt env) (fun x s₃ =>
          wpAny (model prog w) A (call (.builtin "list.append") [acc, x]) (fun _ s₄ => ∃ m, m < n ∧ I m s₄) (fun _ _ => False) s₃)
          (fun _ _ => False) s₂) (fun _ _ => False) s₁') (fun _ _ => False) s₁) (fun _ _ => False) s)
    (n : Nat) (h : I n s) :
    codeAny (model prog w) A (.compLoop (.ListComp elt [⟨target, iter, [], 0⟩] scope pos) 0 it acc env) R s := by
  refine codeAny_loop rfl I (fun n s hI => ?_) n h
  show wpAny _ _ ((compTurn (.ListComp elt [⟨target, iter, [], 0⟩] scope pos) 0 it acc env).onRaise (fun x => do noteFrame x env; theTreesLotGoes x)) _ _ s
  refine wpAny_noted ?_
  rw [compTurn_list1]
  refine wpAny_bind (wpAny_standAt (wpAny_bind (wpAny_mono (turn n s hI) (fun r s₁ h₁ => ?_) fun _ _ h' => h'.elim)))
  cases r with
  | none => exact wpAny_pure h₁
  | some v =>
    refine wpAny_bind (wpAny_mono h₁ (fun _ s₁' h₁' => ?_) fun _ _ h' => h'.elim)
    exact wpAny_bind (wpAny_mono h₁' (fun _ s₂ h₂ => wpAny_bind (wpAny_bind (wpAny_mono h₂ (fun x s₃ h₃ => wpAny_bind (wpAny_mono h₃
      (fun _ s₄ h₄ => wpAny_pure (wpAny_pure ⟨rfl, h₄⟩)) fun _ _ h' => h'.elim)) fun _ _ h' => h'.elim))) fun _ _ h' => h'.elim)
section
variable {X : Cx} {pins : List (Addr × Obj)} {σ : L2.St} {H : Hp} {s : Shared} {Nc capN : List Str} {scope : Scope} {cl : List (Str × Addr)} {fp : List Addr} {n : Nat} {caps : List Nat} {tg iter elt : Expr} {pos : Pos} {wi : TI} {g : TG} {te : TE}
def Cap (X : Cx) (scope : Scope) (cl : List (Str × Addr)) (i : Nat) (y : Str) : Prop := X.N[i]? = some y ∧ X.env.scope.names.lookup y = some .cell ∧ (relabel scope X.env).names.lookup y = some .cell ∧ ∃ c, cl.lookup y = some c
theorem Inv.comp {h1 : Heap} {t' : Nat} (I : Inv X pins σ H s) (hc : X.calm = true) (f2 : ∀ b ∈ fp, FpOk X pins H b) (fo : ∀ b ∈ fp, b < s.heap.objs.size) (hkind : scope.kind = .function) (hcl : AllC X.env cl)
    (hhas : ((relabel scope X.env).names.all fun p => !(p.2 == .cell || p.2 == .free) || (cl.lookup p.1).isSome) = true)
    (hcap : Paired (Cap X scope cl) caps capN) (tn : List Str) (hN : Nc = tn ++ capN) (hn : tn.length = n)
    (hns : h1.Ns s.heap.objs.size (fun _ => none)) (hk : ∀ b o, s.heap.get? b = some o → h1.get? b = some o) :
    Inv (cxC X Nc scope cl s H fp) [] (stC n caps σ) H { s with heap := h1, toks := t' } := by
  have lkc : ∀ y c, cl.lookup y = some c → X.env.cells.lookup y = some c := fun y c e => hcl.look e
  refine ⟨⟨I.ok.mod, ?_, I.ok.glob, I.ok.blt, Nat.le_refl _, fun x y c a b => I.ok.inj x y c (lkc _ _ a) (lkc _ _ b), fun x hx => ?_, fun x c z => (nomatch z), I.ok.hd, I.ok.frames, .inl rfl, fun b hb => ⟨Nat.ne_of_lt (fo b hb), fun x c e => (f2 b hb).2.2.2.2.1 x c (lkc _ _ e)⟩, I.bs, Nat.le_trans I.ok.bsz I.sz,
    fun b o e hb => ?_, fun b hb z => ?_, I.stack, I.stkFree⟩, rfl, I.bare, Un.kept hk, ⟨_, hns, fun i y v h1' h2 h3 => ?_⟩, fun y c e => ?_, I.hok.fresh (Nat.le_refl _), fun y c e => I.freeC y c (lkc _ _ e), fun p hp => (by simp at hp), I.hok.kept hk, ?_⟩
  · exact hkind
  · have hx' : (relabel scope X.env).names.lookup x = some .cell ∨ (relabel scope X.env).names.lookup x = some .free := hx
    have mem : ∀ {k}, (relabel scope X.env).names.lookup x = some k → (x, k) ∈ (relabel scope X.env).names := fun {k} e => by
      generalize (relabel scope X.env).names = L at e
      induction L with
      | nil => simp at e
      | cons p r ih =>
        obtain ⟨a, b⟩ := p
        rw [List.lookup_cons] at e
        by_cases q : (x == a) = true
        · rw [q] at e; cases e
          have : x = a := by simpa using q
          subst this; exact List.mem_cons_self
        · rw [show (x == a) = false by simpa using q] at e
          exact List.mem_cons_of_mem _ (ih e)
    have fin : ∀ {k}, (k = NameKind.cell ∨ k = .free) → (relabel scope X.env).names.lookup x = some k → ∃ c, cl.lookup x = some c := fun {k} hk' e => by
      have := List.all_eq_true.mp hhas _ (mem e)
      dsimp only at this
      have q : (cl.lookup x).isSome = true := by
        rcases hk' with z | z <;> subst z <;> simpa using this
      exact Option.isSome_iff_exists.mp q
    rcases hx' with e | e
    · exact fin (.inl rfl) e
    · exact fin (.inr rfl) e
  · rcases (f2 b hb).2.2.2.1 with z | z
    · exact I.ok.noex b o e z
    · exact absurd (Nat.lt_of_lt_of_le (Heap.lt_size e) I.ok.bsz) (Nat.not_lt.mpr z)
  · rcases List.mem_cons.mp (I.stkSub b z) with q | q
    · exact (f2 b hb).2.1 q
    · exact (f2 b hb).2.2.1 q
  · obtain ⟨m, hm, hl⟩ := I.loc
    have h2' : (stC n caps σ)[i]? = some (some v) := h2
    have h1'' : Nc[i]? = some y := h1'
    unfold stC at h2'
    by_cases hi : i < n
    · rw [List.getElem?_append_left (by simpa using hi), List.getElem?_replicate, if_pos hi] at h2'
      cases h2'
    · rw [List.getElem?_append_right (by simp; omega), List.length_replicate, List.getElem?_map] at h2'
      rw [hN, List.getElem?_append_right (by omega), hn] at h1''
      have key : ∀ (j : Nat) {caps : List Nat} {capN : List Str}, Paired (Cap X scope cl) caps capN → capN[j]? = some y → (Option.map (fun i => (σ[i]?).getD none) caps[j]?) = some (some v) → ∃ k, Cap X scope cl k y ∧ σ[k]? = some (some v) := by
        intro j
        induction j with
        | zero =>
          intro caps capN P e1 e2
          cases P with
          | nil => simp at e1
          | @cons a b l r p t =>
            simp at e1 e2
            subst e1
            cases q : σ[a]? with
            | none => rw [q] at e2; simp at e2
            | some w' => rw [q] at e2; simp at e2; subst e2; exact ⟨a, p, q⟩
        | succ j ih =>
          intro caps capN P e1 e2
          cases P with
          | nil => simp at e1
          | cons p t => exact ih t (by simpa using e1) (by simpa using e2)
      obtain ⟨k, ⟨c1, c2, c3, c, c4⟩, e⟩ := key _ hcap h1'' h2'
      obtain ⟨u, r, lk⟩ := hl k y v c1 e (.inr (.inl c2))
      refine ⟨u, r, .inr ⟨.inl c3, c, c4, ?_⟩⟩
      rcases lk with ⟨z, _⟩ | ⟨_, c', e', o, ho, hd⟩
      · have z' : X.env.scope.names.lookup y = some .local := z
        rw [c2] at z'; cases z'
      · rw [lkc _ _ c4] at e'
        cases e'
        exact ⟨o, hk _ _ ho, hd⟩
  · obtain ⟨v, o, ho, hd⟩ := I.cell y c (lkc _ _ e)
    exact ⟨v, o, hk _ _ ho, hd⟩
  · show (stC n caps σ).length = Nc.length
    have pl : caps.length = capN.length := Paired.length hcap
    unfold stC
    rw [List.length_append, List.length_replicate, List.length_map, hN, List.length_append, hn, pl]
end
end OG
namespace OG
open PySem PySem.Spec PyProof.Rows L2
theorem comp_gen {X : Cx} {Nc capN tn : List Str} {scope : Scope} {cl : List (Str × Addr)} {n : Nat} {caps : List Nat} {tg iter elt : Expr} {pos : Pos} {wi : TI} {g : TG} {te : TE}
    (hc : X.calm = true) (hi : WI X tg iter wi) (hg : ∀ s3 H3 fp, WG (cxC X Nc scope cl s3 H3 fp) tg g) (he : ∀ s3 H3 fp, WE (cxC X Nc scope cl s3 H3 fp) elt te)
    (hclos : closureFor scope X.env = pure cl) (hkind : scope.kind = .function) (hnl : ∀ x ∈ scope.names, x.2 = .local → scope.names.lookup x.1 = some .local) (hcell : ∀ x ∈ scope.names, x.2 ≠ .cell)
    (hcl : AllC X.env cl) (hhas : ((relabel scope X.env).names.all fun p => !(p.2 == .cell || p.2 == .free) || (cl.lookup p.1).isSome) = true)
    (hcap : Paired (Cap X scope cl) caps capN) (hN : Nc = tn ++ capN) (hn : tn.length = n)
    {use : Option (Value → Sem Unit)} {pins : List (Addr × Obj)} {σ : L2.St} {H : Hp} {s : Shared} {Q : VK} {Qf : Value → Shared → Prop} (I : Inv X pins σ H s) (h : tComp wi g te n caps σ H Q)
    (hend : ∀ (D C : Addr) (s6 : Shared) (H5 : Hp) (m : Str → Option Value), Inv X pins σ H5 s6 → s6.heap.Ns C m → H5 C = none → C ≠ X.env.locals → X.s₀.heap.objs.size ≤ C → (∀ x c, X.env.cells.lookup x = some c → c ≠ C) → (∀ p ∈ X.pn ++ pins, p.1 ≠ C) → Q (.ref D) H5 → compPost (model X.prog X.w) X.A X.xe use Qf (.ref D) C (.ok .next) s6)
    (hs : ∀ x, foldedSetIterable iter X.env x = pure x) :
    wpAny (model X.prog X.w) X.A (comprehension (.ListComp elt [⟨tg, iter, [], 0⟩] scope pos) scope X.env (firstIterPos [⟨tg, iter, [], 0⟩] pos) (newList []) (firstAsync [⟨tg, iter, [], 0⟩]) (firstIter [⟨tg, iter, [], 0⟩] X.env) use) Qf X.xe s := by
  refine wpAny_comprehension_free (use := use) (g := ⟨tg, iter, [], 0⟩) (gs := []) rfl hs hclos hkind hnl (thn (hi.h pins s σ H _ I h) fun v s1 h1 => thn h1 fun itv s2 h2 => ?_)
  obtain ⟨it, fp, tnn, J, H2, rfl, I2, T, st2, f2, hW⟩ := h2
  have hD := I2.fresh
  obtain ⟨W, ⟨m0, w0⟩, turn⟩ := hW _ hD
  refine wpAny_newObj_type (wpAny_newFunctionEnv hcell (by intro y hy; simp at hy) (fun h₁ hns₁ hsb₁ => ?_) hkind)
  dsimp only at hns₁ hsb₁ ⊢
  have I3 : Inv X pins σ (upd H2 s2.heap.objs.size (.lst [])) { s2 with heap := s2.heap.push { cls := .type "list", dict := none, data := .seq ([] : List Value).toArray }, toks := s2.toks } := I2.lnew (its := []) .nil (Nat.zero_le _)
  generalize hs3 : ({ s2 with heap := s2.heap.push { cls := .type "list", dict := none, data := .seq ([] : List Value).toArray }, toks := s2.toks } : Shared) = s3 at I3
  have es3 : s3.heap = s2.heap.push { cls := .type "list", dict := none, data := .seq ([] : List Value).toArray } := by rw [← hs3]
  generalize hDD : s2.heap.objs.size = D at *
  have kept : ∀ b o, s3.heap.get? b = some o → h₁.get? b = some o := fun b o e => by
    have lt := Heap.lt_size e
    rw [es3] at lt e
    exact hsb₁.extBut b o (Nat.ne_of_lt lt) (Heap.get?_push_of_some _ e)
  have old : ∀ b o, s2.heap.get? b = some o → s3.heap.get? b = some o := fun b o e => by rw [es3]; exact Heap.get?_push_of_some _ e
  have ltD : ∀ b ∈ fp, b < D := fun b hb => by
    obtain ⟨o, e, _⟩ := T.obj 0 _ st2 b hb
    rw [← hDD]; exact Heap.lt_size e
  have fo : ∀ b ∈ fp, b < s3.heap.objs.size := fun b hb => by
    obtain ⟨o, e, _⟩ := T.obj 0 _ st2 b hb
    exact Heap.lt_size (old _ _ e)
  have f3 : ∀ b ∈ fp, FpOk X pins (upd H2 D (.lst [])) b := fun b hb => by
    refine ⟨?_, (f2 b hb).2⟩
    rw [upd_ne (Nat.ne_of_lt (ltD b hb))]
    exact (f2 b hb).1
  rw [← es3] at hns₁ hsb₁ ⊢
  have Ic := fun t' => Inv.comp (h1 := h₁) (t' := t') (Nc := Nc) (n := n) I3 hc f3 fo hkind hcl hhas hcap tn hN hn hns₁ kept
  have stat : ∀ {H' : Hp}, (∀ b ∈ fp, H' b = none) → ∀ b ∈ fp, FpOk (cxC X Nc scope cl s3 (upd H2 D (.lst [])) fp) [] H' b := fun hn' b hb => by
    refine ⟨hn' b hb, Nat.ne_of_lt (fo b hb), fun z => ?_, .inl hb, fun x c e => (f2 b hb).2.2.2.2.1 x c (hcl.look e), fun p hp => (by simp at hp)⟩
    rcases List.mem_cons.mp (I3.stkSub b z) with q | q
    · exact (f2 b hb).2.1 q
    · exact (f2 b hb).2.2.1 q
  have loop : ∀ s4 : Shared, (∃ t', s4 = { s3 with heap := h₁, toks := t' }) → codeAny (model X.prog X.w) X.A (.compLoop (.ListComp elt [⟨tg, iter, [], 0⟩] scope pos) 0 (.ref it) (.ref D) (compEnvC scope cl s3.heap.objs.size X.env))
      (compPost (model X.prog X.w) X.A X.xe use Qf (.ref D) s3.heap.objs.size) s4 := by
    rintro s4 ⟨t', rfl⟩
    refine compLoop_any (fun n' s' => ∃ i σ' H', Inv (cxC X Nc scope cl s3 (upd H2 D (.lst [])) fp) [] σ' H' s' ∧ tnn i s'.heap ∧ (∀ b ∈ fp, H' b = none) ∧ W i n' σ' H') ?_ m0
      ⟨0, _, _, Ic t', T.keep 0 _ _ st2 fun b hb o e => kept _ _ (old _ _ e), fun b hb => (f3 b hb).1, w0⟩
    rintro n' s5 ⟨i, σ5, H5, I5, st5, fr5, w5⟩
    rcases turn i n' σ5 H5 w5 with ⟨stop, qn⟩ | ⟨go, N, hN', step⟩
    · refine thn (T.done (cxC X Nc scope cl s3 (upd H2 D (.lst [])) fp) rfl rfl rfl hc i [] s5 σ5 H5 (fun _ _ => False) I5 (stat fr5) st5 stop) fun r s6 ⟨hr, I6⟩ => ?_
      subst hr
      obtain ⟨m, hm, _⟩ := I6.loc
      have I7 : Inv X pins σ H5 s6 := Inv.call' (ch := fp) I3 I6.os I6.base I6.hok I6.bare fun b hb => ⟨(f2 b hb).2.2.2.1, (f2 b hb).2.1, (f2 b hb).2.2.2.2.1, (f2 b hb).2.2.2.2.2⟩
      exact hend D _ s6 H5 m I7 hm I6.free (Ne.symm (Nat.ne_of_lt I3.lt)) I3.sz (fun x c e => by
          obtain ⟨v', o, ho, _⟩ := I3.cell x c e
          exact Nat.ne_of_lt (Heap.lt_size ho)) (fun p hp => Nat.ne_of_lt (Heap.lt_size (I3.pin p hp).1)) qn
    · refine thn (T.item (cxC X Nc scope cl s3 (upd H2 D (.lst [])) fp) rfl rfl rfl hc i [] s5 σ5 H5 (fun _ _ => False) I5 (stat fr5) st5 go) fun r s6 ⟨u, hr, h6⟩ => ?_
      subst hr
      refine thn h6 fun _ s7 ⟨x, H7, I7, r7, y7, st7, fr7⟩ => ?_
      have I7' := I7.pinned (stat fr7) (T.obj _ _ st7)
      refine thn ((hg s3 (upd H2 D (.lst [])) fp).h _ s7 σ5 H7 x u _ I7' r7 (step x H7 y7)) fun _ s8 ⟨σ8, H8, I8, q8⟩ => ?_
      refine thn ((he s3 (upd H2 D (.lst [])) fp).h _ s8 σ8 H8 _ I8 q8) fun v9 s9 ⟨x9, H9, I9, r9, ys, hy, hlt, q9⟩ => ?_
      refine thn (mt_append (X := cxC X Nc scope cl s3 (upd H2 D (.lst [])) fp) _ s9 σ8 H9 (.ref D) [x9] (.ref D) [v9] (fun _ H' => N σ8 H') I9 rfl (.cons r9 .nil) ⟨D, ys, x9, rfl, rfl, hy, hlt, q9⟩) fun _ s10 ⟨_, H10, I10, _, q10⟩ => ?_
      obtain ⟨m', hm, w10⟩ := hN' σ8 H10 q10
      refine ⟨m', hm, i + 1, σ8, H10, I10.unpinned, T.keep _ _ _ st7 fun b hb o e => (I10.pin (b, o) (List.mem_append_right _ (List.mem_append_right _ (mem_pinsAt hb e)))).1, fun b hb => ?_, w10⟩
      obtain ⟨o, e, d⟩ := T.obj _ _ st7 b hb
      exact (I10.pin (b, o) (List.mem_append_right _ (List.mem_append_right _ (mem_pinsAt hb e)))).2.1
  have e4 : ∀ t', ({ s2 with heap := h₁, toks := t' } : Shared) = { s3 with heap := h₁, toks := t' } := fun t' => by rw [← hs3]
  refine codeAny_compStart_list (loop _ ⟨_, e4 _⟩) (T.self _ 0 _ _ _ (T.keep 0 _ _ st2 fun b hb o e => kept _ _ (old _ _ e)) (loop _ ⟨_, e4 _⟩))
theorem wpe_comp {X : Cx} {Nc capN tn : List Str} {scope : Scope} {cl : List (Str × Addr)} {n : Nat} {caps : List Nat} {tg iter elt : Expr} {pos : Pos} {wi : TI} {g : TG} {te : TE}
    (hc : X.calm = true) (hi : WI X tg iter wi) (hg : ∀ s3 H3 fp, WG (cxC X Nc scope cl s3 H3 fp) tg g) (he : ∀ s3 H3 fp, WE (cxC X Nc scope cl s3 H3 fp) elt te)
    (hclos : closureFor scope X.env = pure cl) (hkind : scope.kind = .function) (hnl : ∀ x ∈ scope.names, x.2 = .local → scope.names.lookup x.1 = some .local) (hcell : ∀ x ∈ scope.names, x.2 ≠ .cell)
    (hcl : AllC X.env cl) (hhas : ((relabel scope X.env).names.all fun p => !(p.2 == .cell || p.2 == .free) || (cl.lookup p.1).isSome) = true)
    (hcap : Paired (Cap X scope cl) caps capN) (hN : Nc = tn ++ capN) (hn : tn.length = n)
    (hs : ∀ x, foldedSetIterable iter X.env x = pure x := by intro _; rfl) :
    WE X (.ListComp elt [⟨tg, iter, [], 0⟩] scope pos) (tComp wi g te n caps) := by
  constructor
  intro pins s σ H Q I h
  rw [eval_ListComp]
  refine comp_gen hc hi hg he hclos hkind hnl hcell hcl hhas hcap hN hn I h (fun D C s6 H5 m I7 hm fr nl sz cn pn qn => ⟨m, hm, fun h' hs' => ?_⟩) hs
  exact ⟨.ref D, H5, I7.turned (t' := s6.toks) (it := C) (fun b o hb e => hs'.extBut b o hb e) fr nl (.inr sz) cn pn, rfl, qn⟩
end OG
namespace OG
open PySem PySem.Spec PyProof.Rows L2
section
variable {X : Cx}
end
end OG
namespace OG
open PySem PySem.Spec PyProof.Rows L2
section
variable {X : Cx} {K : PySem.W.Frag}
end
end OG
set_option maxHeartbeats 1000000
namespace OG
open PySem PySem.Spec PyProof.Rows L2
open PySem.AutoSeq1 (wpAny_loadPart')
theorem cat_tup0 {prog : Program} {w : World} {A : Around} {E : Value → Shared → Prop} {s : Shared} {t b : Addr} {vs ws : List Value} {Q : Value → Shared → Prop} (ht : IsTup s.heap t vs.toArray) (hb : IsTup s.heap b ws.toArray) (hv : vs = [])
    (h1 : Q (.ref b) s) : wpAny (model prog w) A (binaryOp .Add (.ref t) (.ref b)) Q E s := by
  obtain ⟨⟨cls, dd, data, sl⟩, ho, hc, n, hd⟩ := id ht
  obtain ⟨⟨cls2, dd2, data2, sl2⟩, ho2, hc2, n2, hd2⟩ := id hb
  simp only at hc hd hc2 hd2
  subst hc hd hc2 hd2
  exact concat_meets ⟨_, ho, rfl⟩ ⟨_, ho2, rfl⟩ noFill_tuple_add seq_tuple_add PySem.F.slot_tuple_add PySem.F.entry_tuple_add (PySem.F.args_tuple_add_2 _ _)
      (tuple_addW0 t b vs.toArray ws.toArray n n2 dd dd2 sl sl2 (by simp [hv])) ⟨ho, ho2, h1⟩
section
variable {X : Cx}
end
structure PenX (H : Hp) (p xs : Addr) : Prop where
  ex : ∃ (ns : List Int) (at' cur : Int), H p = some (.lst [.ref xs, .int at', .int cur]) ∧ H xs = some (.lst (ns.map V.int)) ∧ xs ≠ p ∧ 0 ≤ at' ∧ 0 ≤ cur
def spPenX (K : PySem.W.Frag) : Sp := fun vs H Q _ => ∃ (a : Addr) (ns : List Int), vs = [.ref a] ∧ SqL K H a (ns.map V.int) ∧ ∀ (q xs : Addr) (H' : Hp), Same H H' → PenX H' q xs → H q = none → Q (.ref q) H'
theorem log2_9000 {m : Int} (h0 : 0 ≤ m) (h : m < 2 ^ 60) : m.natAbs.log2 < 9000 := by
  have := log2_small (n := m.natAbs) (by omega)
  omega
end OG
namespace OG
open PySem PySem.Spec PyProof.Rows L2
end OG
set_option maxHeartbeats 1000000
namespace OP
open PySem PySem.Spec PyProof.Rows L2 OG
inductive U where
  | non | bl (b : Bool) | int (i : Int) | str (x : Str) | tup (us : List U) | ref (l : Nat)
structure Cl where
  C : Addr
  ns : List Str
inductive O where
  | lst (us : List U) | dic (kvs : List (Key × U)) | ins (c : Cl) (fs : List (Option U)) | fdc (ep : Nat) (kvs : List (Key × U)) | dit (kvs : List (List Key × U)) | fdt (ep : Nat) (kvs : List (List Key × U))
abbrev Sto := List O
abbrev Rho := List (Option U)
mutual
def Is (K : PySem.W.Frag) (m : List Addr) (H : Hp) : V → U → Prop
  | v, .non => v = .non
  | v, .bl b => v = .bl b
  | v, .int i => v = .int i
  | v, .str x => v = .str x
  | v, .tup us => ∃ a xs, v = .ref a ∧ SqT K H a xs ∧ IsL K m H xs us
  | v, .ref l => ∃ a, m[l]? = some a ∧ v = .ref a
def IsL (K : PySem.W.Frag) (m : List Addr) (H : Hp) : List V → List U → Prop
  | xs, [] => xs = []
  | xs, u :: us => ∃ x r, xs = x :: r ∧ Is K m H x u ∧ IsL K m H r us
end
def Keep (K : PySem.W.Frag) (H H' : Hp) : Prop := ∀ a xs, SqT K H a xs → SqT K H' a xs
structure Ext (K : PySem.W.Frag) (m : List Addr) (H : Hp) (m' : List Addr) (H' : Hp) : Prop where
  pre : ∃ t, m' = m ++ t
  keep : Keep K H H'
section
variable {K : PySem.W.Frag} {m m' m'' : List Addr} {H H' H'' : Hp} {v x : V} {u : U} {xs ys : List V} {us ws : List U} {a q : Addr} {o : HO}
theorem Ext.refl : Ext K m H m H := ⟨⟨[], by simp⟩, fun _ _ h => h⟩
theorem Ext.trans (a : Ext K m H m' H') (b : Ext K m' H' m'' H'') : Ext K m H m'' H'' := by
  obtain ⟨t, rfl⟩ := a.pre
  obtain ⟨t', rfl⟩ := b.pre
  exact ⟨⟨t ++ t', by simp⟩, fun c ys h => b.keep c ys (a.keep c ys h)⟩
theorem Ext.of (k : Keep K H H') : Ext K m H m H' := ⟨⟨[], by simp⟩, k⟩
theorem Ext.new (k : Keep K H H') : Ext K m H (m ++ [q]) H' := ⟨⟨[q], rfl⟩, k⟩
theorem Ext.get {l : Nat} (e : Ext K m H m' H') (h : m[l]? = some a) : m'[l]? = some a := by
  obtain ⟨t, rfl⟩ := e.pre
  rw [List.getElem?_append_left (List.getElem?_eq_some_iff.mp h).1]
  exact h
mutual
theorem Is.mono (e : Ext K m H m' H') : ∀ {v : V} {u : U}, Is K m H v u → Is K m' H' v u
  | v, .non, h => by unfold Is at h ⊢; exact h
  | v, .bl b, h => by unfold Is at h ⊢; exact h
  | v, .int i, h => by unfold Is at h ⊢; exact h
  | v, .str x, h => by unfold Is at h ⊢; exact h
  | v, .tup us, h => by
    unfold Is at h ⊢
    obtain ⟨a, xs, e1, k, l⟩ := h
    exact ⟨a, xs, e1, e.keep _ _ k, IsL.mono e l⟩
  | v, .ref l, h => by
    unfold Is at h ⊢
    obtain ⟨a, k, e1⟩ := h
    exact ⟨a, e.get k, e1⟩
theorem IsL.mono (e : Ext K m H m' H') : ∀ {xs : List V} {us : List U}, IsL K m H xs us → IsL K m' H' xs us
  | xs, [], h => by unfold IsL at h ⊢; exact h
  | xs, u :: us, h => by
    unfold IsL at h ⊢
    obtain ⟨x, r, e1, k, l⟩ := h
    exact ⟨x, r, e1, Is.mono e k, IsL.mono e l⟩
end
theorem Is.int_ {i : Int} : Is K m H (.int i) (.int i) := by unfold Is; rfl
theorem Is.bl_ {b : Bool} : Is K m H (.bl b) (.bl b) := by unfold Is; rfl
theorem Is.non_ : Is K m H .non .non := by unfold Is; rfl
theorem Is.str_ {x : Str} : Is K m H (.str x) (.str x) := by unfold Is; rfl
theorem Is.of_int {i : Int} (h : Is K m H v (.int i)) : v = .int i := by unfold Is at h; exact h
theorem Is.of_bl {b : Bool} (h : Is K m H v (.bl b)) : v = .bl b := by unfold Is at h; exact h
theorem Is.of_non (h : Is K m H v .non) : v = .non := by unfold Is at h; exact h
theorem Is.of_str {x : Str} (h : Is K m H v (.str x)) : v = .str x := by unfold Is at h; exact h
theorem Is.of_tup (h : Is K m H v (.tup us)) : ∃ a xs, v = .ref a ∧ SqT K H a xs ∧ IsL K m H xs us := by unfold Is at h; exact h
theorem Is.of_ref {l : Nat} (h : Is K m H v (.ref l)) : ∃ a, m[l]? = some a ∧ v = .ref a := by unfold Is at h; exact h
theorem Is.tup_ (e : SqT K H a xs) (h : IsL K m H xs us) : Is K m H (.ref a) (.tup us) := by unfold Is; exact ⟨a, xs, rfl, e, h⟩
theorem Is.ref_ {l : Nat} (e : m[l]? = some a) : Is K m H (.ref a) (.ref l) := by unfold Is; exact ⟨a, e, rfl⟩
theorem IsL.nil_ : IsL K m H [] [] := by unfold IsL; rfl
theorem IsL.cons_ (h : Is K m H x u) (t : IsL K m H xs us) : IsL K m H (x :: xs) (u :: us) := by unfold IsL; exact ⟨x, xs, rfl, h, t⟩
theorem IsL.of_nil (h : IsL K m H xs []) : xs = [] := by unfold IsL at h; exact h
theorem IsL.of_cons (h : IsL K m H xs (u :: us)) : ∃ x r, xs = x :: r ∧ Is K m H x u ∧ IsL K m H r us := by unfold IsL at h; exact h
theorem IsL.length : ∀ {xs : List V} {us : List U}, IsL K m H xs us → xs.length = us.length
  | xs, [], h => by rw [h.of_nil]; rfl
  | xs, d :: ds, h => by
    obtain ⟨x, r, rfl, _, t⟩ := h.of_cons
    rw [List.length_cons, List.length_cons, IsL.length t]
theorem IsL.getD : ∀ {xs : List V} {us : List U} {i : Nat} {u : U}, IsL K m H xs us → us[i]? = some u → ∃ x, xs[i]? = some x ∧ Is K m H x u
  | xs, [], i, x, h, e => by simp at e
  | xs, d :: ds, 0, x, h, e => by
    obtain ⟨y, r, rfl, k, t⟩ := h.of_cons
    simp at e; subst e; exact ⟨y, by simp, k⟩
  | xs, d :: ds, i + 1, x, h, e => by
    obtain ⟨y, r, rfl, k, t⟩ := h.of_cons
    obtain ⟨d', e1, e2⟩ := IsL.getD (i := i) (u := x) t (by simpa using e)
    exact ⟨d', by simpa using e1, e2⟩
theorem IsL.append : ∀ {xs : List V} {us : List U}, IsL K m H xs us → IsL K m H ys ws → IsL K m H (xs ++ ys) (us ++ ws)
  | xs, [], h, k => by rw [h.of_nil]; exact k
  | xs, d :: ds, h, k => by
    obtain ⟨y, r, rfl, z, t⟩ := h.of_cons
    exact .cons_ z (IsL.append t k)
theorem IsL.set : ∀ {xs : List V} {us : List U} {j : Nat}, IsL K m H xs us → Is K m H x u → IsL K m H (xs.set j x) (us.set j u)
  | xs, [], j, h, k => by rw [h.of_nil]; exact .nil_
  | xs, d :: ds, 0, h, k => by
    obtain ⟨y, r, rfl, z, t⟩ := h.of_cons
    exact .cons_ k t
  | xs, d :: ds, j + 1, h, k => by
    obtain ⟨y, r, rfl, z, t⟩ := h.of_cons
    exact .cons_ z (IsL.set t k)
theorem IsL.take : ∀ {xs : List V} {us : List U} (n : Nat), IsL K m H xs us → IsL K m H (xs.take n) (us.take n)
  | xs, us, 0, h => .nil_
  | xs, [], n + 1, h => by rw [h.of_nil]; exact .nil_
  | xs, d :: ds, n + 1, h => by
    obtain ⟨y, r, rfl, z, t⟩ := h.of_cons
    exact .cons_ z (IsL.take n t)
theorem IsL.erase : ∀ {xs : List V} {us : List U} (n : Nat), IsL K m H xs us → IsL K m H (xs.eraseIdx n) (us.eraseIdx n)
  | xs, [], n, h => by rw [h.of_nil]; exact .nil_
  | xs, d :: ds, 0, h => by
    obtain ⟨y, r, rfl, z, t⟩ := h.of_cons
    exact t
  | xs, d :: ds, n + 1, h => by
    obtain ⟨y, r, rfl, z, t⟩ := h.of_cons
    exact .cons_ z (IsL.erase n t)
theorem keep_upd (h : H a = some o) (nt : ∀ xs, o ≠ .tup xs) (nf : ∀ ob xs, o ≠ .frz ob (.tup xs)) (o' : HO) : Keep K H (upd H a o') := fun b xs q => by
  rcases q with (q | ⟨ob, q⟩) | q
  · have n : b ≠ a := fun z => by subst z; rw [q] at h; cases h; exact nt _ rfl
    exact .inl (.inl (by rw [upd_ne n]; exact q))
  · have n : b ≠ a := fun z => by subst z; rw [q] at h; cases h; exact nf _ _ rfl
    exact .inl (.inr ⟨ob, by rw [upd_ne n]; exact q⟩)
  · exact .inr q
theorem keep_same (s : Same H H') : Keep K H H' := fun b xs q => by
  rcases q with (q | ⟨ob, q⟩) | q
  · exact .inl (.inl (s _ _ q))
  · exact .inl (.inr ⟨ob, s _ _ q⟩)
  · exact .inr q
theorem keep_new (h : H q = none) (o' : HO) : Keep K H (upd H q o') := keep_same (same_new h o')
end
def IsP {κ : Type} (K : PySem.W.Frag) (m : List Addr) (H : Hp) (kvs : List (κ × V)) (kus : List (κ × U)) : Prop := kvs.map (·.1) = kus.map (·.1) ∧ IsL K m H (kvs.map (·.2)) (kus.map (·.2))
def Rf (K : PySem.W.Frag) (m : List Addr) (H : Hp) : Option V → Option U → Prop
  | some v, some u => Is K m H v u
  | none, none => True
  | _, _ => False
structure InF (K : PySem.W.Frag) (m : List Addr) (H : Hp) (c : Cl) (fs : List (Str × V)) (fus : List (Option U)) : Prop where
  nd : c.ns.Nodup
  few : c.ns.length < 1000
  knd : (fs.map (·.1)).Nodup
  sub : ∀ x ∈ fs.map (·.1), x ∈ c.ns
  len : fus.length = c.ns.length
  at_ : ∀ (i : Nat) (x : Str), c.ns[i]? = some x → Rf K m H (fs.lookup x) ((fus[i]?).join)
theorem Rf.mono {K : PySem.W.Frag} {m m' : List Addr} {H H' : Hp} {v : Option V} {u : Option U} (e : Ext K m H m' H') (h : Rf K m H v u) : Rf K m' H' v u := by
  cases v with
  | none => cases u with
    | none => trivial
    | some u => exact h.elim
  | some v => cases u with
    | none => exact h.elim
    | some u => exact Is.mono e h
theorem InF.mono {K : PySem.W.Frag} {m m' : List Addr} {H H' : Hp} {c : Cl} {fs : List (Str × V)} {fus : List (Option U)} (e : Ext K m H m' H') (h : InF K m H c fs fus) : InF K m' H' c fs fus := ⟨h.nd, h.few, h.knd, h.sub, h.len, fun i x q => (h.at_ i x q).mono e⟩
def Ob (K : PySem.W.Frag) (m : List Addr) (H : Hp) (a : Addr) : O → Prop
  | .lst us => ∃ xs, H a = some (.lst xs) ∧ IsL K m H xs us
  | .dic kus => ∃ kvs, H a = some (.dK kvs) ∧ IsP K m H kvs kus
  | .ins c fus => ∃ dx fs, H a = some (.ins c.C dx fs) ∧ InF K m H c fs fus
  | .fdc ep kus => ∃ ob es kvs, H a = some (.frz ob (.dK kvs)) ∧ ob.data = .dict es ep ∧ IsP K m H kvs kus
  | .dit kus => ∃ kvs, H a = some (.dT kvs) ∧ IsP K m H kvs kus
  | .fdt ep kus => ∃ ob es kvs, H a = some (.frz ob (.dT kvs)) ∧ ob.data = .dict es ep ∧ IsP K m H kvs kus
structure Sr (K : PySem.W.Frag) (m : List Addr) (S : Sto) (H : Hp) : Prop where
  len : m.length = S.length
  nd : m.Nodup
  ob : ∀ (l : Nat) (a : Addr) (o : O), m[l]? = some a → S[l]? = some o → Ob K m H a o
structure Lr (K : PySem.W.Frag) (m : List Addr) (H : Hp) (ρ : Rho) (σ : L2.St) : Prop where
  len : ρ.length = σ.length
  at_ : ∀ (i : Nat) (u : U), ρ[i]? = some (some u) → ∃ v, σ[i]? = some (some v) ∧ Is K m H v u
section
variable {κ : Type} {K : PySem.W.Frag} {m m' : List Addr} {H H' : Hp} {S S' : Sto} {ρ : Rho} {σ : L2.St} {a q : Addr} {l : Nat} {o : O} {ho : HO} {us : List U} {v : V} {u : U} {kvs : List (κ × V)} {kus : List (κ × U)}
theorem IsP.mono (e : Ext K m H m' H') (h : IsP K m H kvs kus) : IsP K m' H' kvs kus := ⟨h.1, h.2.mono e⟩
theorem IsP.length (h : IsP K m H kvs kus) : kvs.length = kus.length := by have := h.2.length; simpa using this
theorem IsP.nil_ : IsP (κ := κ) K m H [] [] := ⟨rfl, .nil_⟩
theorem IsP.cons_ {k : κ} (h : Is K m H v u) (t : IsP K m H kvs kus) : IsP K m H ((k, v) :: kvs) ((k, u) :: kus) := ⟨by simp [t.1], .cons_ h t.2⟩
theorem IsP.ind {P : List (κ × V) → List (κ × U) → Prop} (h0 : P [] []) (h1 : ∀ k v u kvs kus, Is K m H v u → IsP K m H kvs kus → P kvs kus → P ((k, v) :: kvs) ((k, u) :: kus)) : ∀ {kvs : List (κ × V)} {kus : List (κ × U)}, IsP K m H kvs kus → P kvs kus
  | [], [], _ => h0
  | [], p :: r, h => by have := h.length; simp at this
  | p :: r, [], h => by have := h.length; simp at this
  | (k, v) :: r, (k', u) :: r', h => by
    obtain ⟨e, i⟩ := h
    simp only [List.map_cons, List.cons.injEq] at e
    obtain ⟨e1, e2⟩ := e
    subst e1
    obtain ⟨x, t, e3, iu, it⟩ := i.of_cons
    cases e3
    exact h1 k v u r r' iu ⟨e2, it⟩ (IsP.ind h0 h1 (⟨e2, it⟩ : IsP K m H r r'))
theorem Ob.mono (e : Ext K m H m' H') (h1 : H' a = H a) (h : Ob K m H a o) : Ob K m' H' a o := by
  cases o with
  | lst us => obtain ⟨xs, k, i⟩ := h; exact ⟨xs, h1.trans k, i.mono e⟩
  | dic kus => obtain ⟨xs, k, i⟩ := h; exact ⟨xs, h1.trans k, i.mono e⟩
  | ins C fus => obtain ⟨dx, fs, k, i⟩ := h; exact ⟨dx, fs, h1.trans k, i.mono e⟩
  | fdc ep kus => obtain ⟨ob, es, kvs, k, d, i⟩ := h; exact ⟨ob, es, kvs, h1.trans k, d, i.mono e⟩
  | dit kus => obtain ⟨xs, k, i⟩ := h; exact ⟨xs, h1.trans k, i.mono e⟩
  | fdt ep kus => obtain ⟨ob, es, kvs, k, d, i⟩ := h; exact ⟨ob, es, kvs, h1.trans k, d, i.mono e⟩
theorem Ob.some (h : Ob K m H a o) : ∃ ho, H a = some ho ∧ (∀ xs, ho ≠ .tup xs) ∧ (∀ ob xs, ho ≠ .frz ob (.tup xs)) := by
  cases o with
  | lst us => obtain ⟨xs, k, i⟩ := h; exact ⟨_, k, by simp, by simp⟩
  | dic kus => obtain ⟨xs, k, i⟩ := h; exact ⟨_, k, by simp, by simp⟩
  | ins C fus => obtain ⟨dx, fs, k, i⟩ := h; exact ⟨_, k, by simp, by simp⟩
  | fdc ep kus => obtain ⟨ob, es, kvs, k, d, i⟩ := h; exact ⟨_, k, by simp, by simp⟩
  | dit kus => obtain ⟨xs, k, i⟩ := h; exact ⟨_, k, by simp, by simp⟩
  | fdt ep kus => obtain ⟨ob, es, kvs, k, d, i⟩ := h; exact ⟨_, k, by simp, by simp⟩
theorem Lr.mono (e : Ext K m H m' H') (h : Lr K m H ρ σ) : Lr K m' H' ρ σ := ⟨h.len, fun i u e1 => let ⟨v, e2, e3⟩ := h.at_ i u e1; ⟨v, e2, e3.mono e⟩⟩
theorem Lr.set (h : Lr K m H ρ σ) (i : Nat) (hv : Is K m H v u) : Lr K m H (ρ.set i (some u)) (σ.set i (some v)) := by
  refine ⟨by simp [h.len], fun j w e => ?_⟩
  by_cases c : i = j
  · subst c
    rw [List.getElem?_set_self' ] at e
    rw [List.getElem?_set_self']
    have hl := h.len
    cases e1 : ρ[i]? with
    | none => rw [e1] at e; simp at e
    | some z =>
      rw [e1] at e
      simp at e
      subst e
      have : i < σ.length := by rw [← hl]; exact (List.getElem?_eq_some_iff.mp e1).1
      rw [List.getElem?_eq_getElem this]
      exact ⟨v, rfl, hv⟩
  · rw [List.getElem?_set_ne c] at e
    rw [List.getElem?_set_ne c]
    exact h.at_ j w e
theorem Sr.get (r : Sr K m S H) (h : S[l]? = some o) : ∃ a, m[l]? = some a ∧ Ob K m H a o := by
  have hl : l < m.length := by rw [r.len]; exact (List.getElem?_eq_some_iff.mp h).1
  exact ⟨_, List.getElem?_eq_getElem hl, r.ob _ _ _ (List.getElem?_eq_getElem hl) h⟩
theorem Sr.at_ (r : Sr K m S H) (h : m[l]? = some a) : ∃ o, S[l]? = some o ∧ Ob K m H a o := by
  have hl : l < S.length := by rw [← r.len]; exact (List.getElem?_eq_some_iff.mp h).1
  exact ⟨_, List.getElem?_eq_getElem hl, r.ob _ _ _ h (List.getElem?_eq_getElem hl)⟩
theorem Sr.same (r : Sr K m S H) (s : Same H H') : Sr K m S H' := ⟨r.len, r.nd, fun l a o h1 h2 => by
  have q := r.ob l a o h1 h2
  obtain ⟨ho, e, _⟩ := q.some
  exact q.mono (.of (keep_same s)) (by rw [s _ _ e, e])⟩
theorem Sr.new (r : Sr K m S H) (h : H q = none) (n : Ob K (m ++ [q]) (upd H q ho) q o) : Sr K (m ++ [q]) (S ++ [o]) (upd H q ho) := by
  have hq : q ∉ m := fun z => by
    obtain ⟨l, e⟩ := List.getElem?_of_mem z
    obtain ⟨o, _, k⟩ := r.at_ e
    obtain ⟨ho, e2, _⟩ := k.some
    rw [h] at e2; cases e2
  refine ⟨by simp [r.len], ?_, fun l a o' h1 h2 => ?_⟩
  · rw [List.nodup_append]
    exact ⟨r.nd, by simp, fun x hx y hy z => by simp at hy; subst hy; subst z; exact hq hx⟩
  · by_cases c : l < m.length
    · rw [List.getElem?_append_left c] at h1
      rw [List.getElem?_append_left (by rw [← r.len]; exact c)] at h2
      have q' := r.ob l a o' h1 h2
      obtain ⟨ho', e, _⟩ := q'.some
      exact q'.mono (.new (keep_new h _)) (by rw [upd_ne (ne_of_none e h)])
    · have e : l = m.length := by
        have := (List.getElem?_eq_some_iff.mp h1).1
        simp at this; omega
      subst e
      rw [List.getElem?_append_right (Nat.le_refl _)] at h1
      rw [List.getElem?_append_right (by rw [r.len]; exact Nat.le_refl _)] at h2
      simp [r.len] at h1 h2
      subst h1; subst h2
      exact n
theorem Sr.put (r : Sr K m S H) (h : m[l]? = some a) (n : Ob K m (upd H a ho) a o) : Sr K m (S.set l o) (upd H a ho) := by
  obtain ⟨o0, h0, k0⟩ := r.at_ h
  obtain ⟨ho', e, nt, nf⟩ := k0.some
  refine ⟨by simp [r.len], r.nd, fun l' a' o' h1 h2 => ?_⟩
  by_cases c : l = l'
  · subst c
    rw [h] at h1; cases h1
    rw [List.getElem?_set_self (List.getElem?_eq_some_iff.mp h0).1] at h2
    cases h2
    exact n
  · rw [List.getElem?_set_ne c] at h2
    have na : a' ≠ a := fun z => by
      subst z
      obtain ⟨p1, e1⟩ := List.getElem?_eq_some_iff.mp h
      obtain ⟨p2, e2⟩ := List.getElem?_eq_some_iff.mp h1
      exact c ((List.getElem_inj r.nd).mp (e1.trans e2.symm))
    exact (r.ob l' a' o' h1 h2).mono (.of (keep_upd e nt nf _)) (by rw [upd_ne na])
theorem Sr.keep (r : Sr K m S H) (h : m[l]? = some a) (ho : HO) : Keep K H (upd H a ho) := by
  obtain ⟨o0, h0, k0⟩ := r.at_ h
  obtain ⟨ho', e, nt, nf⟩ := k0.some
  exact keep_upd e nt nf _
end
def PostE (K : PySem.W.Frag) (m : List Addr) (H : Hp) (Q : VK) (u : U) (S' : Sto) : Prop := ∀ m' v H', Ext K m H m' H' → Sr K m' S' H' → Is K m' H' v u → Q v H'
abbrev CE := Rho → Sto → Option (U × Sto)
abbrev CT := Rho → Sto → Option (Bool × Sto)
abbrev CA := Rho → Sto → Option (List U × Sto)
inductive Out where
  | nx | rt (u : U) | bk | ct
abbrev CS := Rho → Sto → Option (Out × Rho × Sto)
def PostT (K : PySem.W.Frag) (m : List Addr) (H : Hp) (Q : Bool → Hp → Prop) (b : Bool) (S' : Sto) : Prop := ∀ m' H', Ext K m H m' H' → Sr K m' S' H' → Q b H'
def PostA (K : PySem.W.Frag) (m : List Addr) (H : Hp) (Q : List V → Hp → Prop) (us : List U) (S' : Sto) : Prop := ∀ m' vs H', Ext K m H m' H' → Sr K m' S' H' → IsL K m' H' vs us → Q vs H'
def PostN (K : PySem.W.Frag) (m : List Addr) (H : Hp) (Q : L2.St → Hp → Prop) (ρ' : Rho) (S' : Sto) : Prop := ∀ m' σ' H', Ext K m H m' H' → Sr K m' S' H' → Lr K m' H' ρ' σ' → Q σ' H'
def PostS (K : PySem.W.Frag) (m : List Addr) (H : Hp) (D : Ends) : Out → Rho → Sto → Prop
  | .nx, ρ', S' => PostN K m H D.nx ρ' S'
  | .bk, ρ', S' => PostN K m H D.bk ρ' S'
  | .ct, ρ', S' => PostN K m H D.ct ρ' S'
  | .rt u, _, S' => PostE K m H D.rt u S'
def tE (K : PySem.W.Frag) (c : CE) : TE := fun σ H Q => ∃ m ρ S u S', Sr K m S H ∧ Lr K m H ρ σ ∧ c ρ S = some (u, S') ∧ PostE K m H Q u S'
def tT (K : PySem.W.Frag) (c : CT) : TT := fun σ H Q => ∃ m ρ S u S', Sr K m S H ∧ Lr K m H ρ σ ∧ c ρ S = some (u, S') ∧ PostT K m H Q u S'
def tA (K : PySem.W.Frag) (c : CA) : TA := fun σ H Q => ∃ m ρ S u S', Sr K m S H ∧ Lr K m H ρ σ ∧ c ρ S = some (u, S') ∧ PostA K m H Q u S'
def tS (K : PySem.W.Frag) (c : CS) : TS := fun D σ H => ∃ m ρ S o ρ' S', Sr K m S H ∧ Lr K m H ρ σ ∧ c ρ S = some (o, ρ', S') ∧ PostS K m H D o ρ' S'
abbrev QE (X : Cx) (e : Expr) (c : CE) : Prop := WE X e (tE X.K c)
abbrev QT (X : Cx) (e : Expr) (c : CT) : Prop := WT X e (tT X.K c)
abbrev QW (X : Cx) (e : Expr) (c : CT) : Prop := WW X e (tT X.K c)
abbrev QS (X : Cx) (e : Stmt) (c : CS) : Prop := WS X e (tS X.K c)
abbrev QSs (X : Cx) (e : List Stmt) (c : CS) : Prop := WSs X e (tS X.K c)
structure QA (X : Cx) (es : List Expr) (c : CA) : Prop where
  h : WA X es (tA X.K c)
  len : ∀ ρ S us S', c ρ S = some (us, S') → us.length = es.length
section
variable {X : Cx} {e : Expr} {es : List Expr} {st : Stmt} {sts : List Stmt}
theorem _root_.OG.WE.imp {t t' : TE} (h : WE X e t) (i : ∀ σ H Q, t' σ H Q → t σ H Q) : WE X e t' := ⟨fun pins s σ H Q I k => h.h pins s σ H Q I (i σ H Q k)⟩
theorem _root_.OG.WT.imp {t t' : TT} (h : WT X e t) (i : ∀ σ H Q, t' σ H Q → t σ H Q) : WT X e t' := ⟨fun pins s σ H Q I k => h.h pins s σ H Q I (i σ H Q k)⟩
theorem _root_.OG.WW.imp {t t' : TT} (h : WW X e t) (i : ∀ σ H Q, t' σ H Q → t σ H Q) : WW X e t' := ⟨fun wh pins s σ H Q I k => h.h wh pins s σ H Q I (i σ H Q k)⟩
theorem _root_.OG.WA.imp {t t' : TA} (h : WA X es t) (i : ∀ σ H Q, t' σ H Q → t σ H Q) : WA X es t' := ⟨fun pos pins s σ H Q I k => h.h pos pins s σ H Q I (i σ H Q k)⟩
theorem _root_.OG.WS.imp {t t' : TS} (h : WS X st t) (i : ∀ D σ H, t' D σ H → t D σ H) : WS X st t' := ⟨fun pins s σ H D I k => h.h pins s σ H D I (i D σ H k)⟩
theorem _root_.OG.WSs.imp {t t' : TS} (h : WSs X sts t) (i : ∀ D σ H, t' D σ H → t D σ H) : WSs X sts t' := ⟨fun pins s σ H D I k => h.h pins s σ H D I (i D σ H k)⟩
theorem _root_.OG.WI.imp {tg : Expr} {t t' : TI} (h : WI X tg e t) (i : ∀ σ H R, t' σ H R → t σ H R) : WI X tg e t' := ⟨fun pins s σ H R I k => h.h pins s σ H R I (i σ H R k)⟩
theorem _root_.OG.WG.imp {t t' : TG} (h : WG X e t) (i : ∀ v σ H Q, t' v σ H Q → t v σ H Q) : WG X e t' := ⟨fun pins s σ H v u Q I r k => h.h pins s σ H v u Q I r (i v σ H Q k)⟩
theorem _root_.OG.WGs.imp {t t' : TGs} (h : WGs X es t) (i : ∀ v σ H Q, t' v σ H Q → t v σ H Q) : WGs X es t' := ⟨fun pins s σ H v u Q I r k => h.h pins s σ H v u Q I r (i v σ H Q k)⟩
theorem _root_.OG.WE.or {t t' : TE} (h : WE X e t) (h' : WE X e t') : WE X e (fun σ H Q => t σ H Q ∨ t' σ H Q) := ⟨fun pins s σ H Q I k => k.elim (h.h pins s σ H Q I) (h'.h pins s σ H Q I)⟩
theorem _root_.OG.WT.or {t t' : TT} (h : WT X e t) (h' : WT X e t') : WT X e (fun σ H Q => t σ H Q ∨ t' σ H Q) := ⟨fun pins s σ H Q I k => k.elim (h.h pins s σ H Q I) (h'.h pins s σ H Q I)⟩
theorem _root_.OG.WS.or {t t' : TS} (h : WS X st t) (h' : WS X st t') : WS X st (fun D σ H => t D σ H ∨ t' D σ H) := ⟨fun pins s σ H D I k => k.elim (h.h pins s σ H D I) (h'.h pins s σ H D I)⟩
theorem _root_.OG.WI.or {tg : Expr} {t t' : TI} (h : WI X tg e t) (h' : WI X tg e t') : WI X tg e (fun σ H D => t σ H D ∨ t' σ H D) := ⟨fun pins s σ H D I k => k.elim (h.h pins s σ H D I) (h'.h pins s σ H D I)⟩
end
section
variable {K : PySem.W.Frag} {m m' : List Addr} {H H' : Hp} {Q : VK} {R : L2.St → Hp → Prop} {D : Ends} {u : U} {o : Out} {S' : Sto} {ρ' : Rho}
theorem PostE.mono (e : Ext K m H m' H') (p : PostE K m H Q u S') : PostE K m' H' Q u S' := fun m2 v H2 e2 r i => p m2 v H2 (e.trans e2) r i
theorem PostT.mono {Q : Bool → Hp → Prop} {b : Bool} (e : Ext K m H m' H') (p : PostT K m H Q b S') : PostT K m' H' Q b S' := fun m2 H2 e2 r => p m2 H2 (e.trans e2) r
theorem PostN.mono (e : Ext K m H m' H') (p : PostN K m H R ρ' S') : PostN K m' H' R ρ' S' := fun m2 v H2 e2 r i => p m2 v H2 (e.trans e2) r i
theorem PostS.mono (e : Ext K m H m' H') (p : PostS K m H D o ρ' S') : PostS K m' H' D o ρ' S' := by
  cases o with
  | nx => exact PostN.mono e p
  | rt u => exact PostE.mono e p
  | bk => exact PostN.mono e p
  | ct => exact PostN.mono e p
end
end OP
set_option maxHeartbeats 1000000
namespace OP
open PySem PySem.Spec PyProof.Rows L2 OG
def LIM : Nat := 100000
theorem lim {n : Nat} (h : n ≤ LIM) : n ≤ sizeLine := Nat.le_trans h (by unfold LIM sizeLine; decide)
theorem lim1 {n : Nat} (h : n < LIM) : n < sizeLine := Nat.lt_of_lt_of_le h (by unfold LIM sizeLine; decide)
def cVar (i : Nat) : CE := fun ρ S => match ρ[i]? with
  | some (some u) => some (u, S)
  | _ => none
def cC (u : U) : CE := fun _ S => some (u, S)
section
variable {X : Cx} {e a b c : Expr} {ca cb cc : CE} {pos : Pos}
theorem q_var {i : Nat} (h : WE X e (tVar i)) : QE X e (cVar i) := h.imp fun σ H Q ⟨m, ρ, S, u, S', sr, lr, hc, post⟩ => by
  unfold cVar at hc
  split at hc
  · rename_i u' e
    cases hc
    obtain ⟨v, e1, e2⟩ := lr.at_ i u e
    exact ⟨v, e1, post m v H .refl sr e2⟩
  · cases hc
theorem q_c {v : V} {u : U} (h : WE X e (tC v)) (hi : ∀ m H, Is X.K m H v u) : QE X e (cC u) := h.imp fun σ H Q ⟨m, ρ, S, u', S', sr, lr, hc, post⟩ => by
  cases hc
  exact post m v H .refl sr (hi m H)
theorem q_int {i : Int} (h : WE X e (tC (.int i))) : QE X e (cC (.int i)) := q_c h fun _ _ => .int_
theorem q_bl {i : Bool} (h : WE X e (tC (.bl i))) : QE X e (cC (.bl i)) := q_c h fun _ _ => .bl_
theorem q_str {i : Str} (h : WE X e (tC (.str i))) : QE X e (cC (.str i)) := q_c h fun _ _ => .str_
theorem q_non (h : WE X e (tC .non)) : QE X e (cC .non) := q_c h fun _ _ => .non_
def cOp (f : U → U → Sto → Option (U × Sto)) (ca cb : CE) : CE := fun ρ S => (ca ρ S).bind fun p => (cb ρ p.2).bind fun q => f p.1 q.1 q.2
def OpP (K : PySem.W.Frag) (r : R2) (f : U → U → Sto → Option (U × Sto)) : Prop :=
  ∀ m S H x y v w u S' Q, Sr K m S H → Is K m H v x → Is K m H w y → f x y S = some (u, S') → PostE K m H Q u S' → r v w H Q
theorem op_imp {K : PySem.W.Frag} {r : R2} {f : U → U → Sto → Option (U × Sto)} (hp : OpP K r f) : ∀ σ H Q, tE K (cOp f ca cb) σ H Q → tOp r (tE K ca) (tE K cb) σ H Q := by
  rintro σ H Q ⟨m, ρ, S, u, S', sr, lr, hc, post⟩
  obtain ⟨⟨x, S1⟩, h1, h⟩ := Option.bind_eq_some_iff.mp hc
  obtain ⟨⟨y, S2⟩, h2, h3⟩ := Option.bind_eq_some_iff.mp h
  exact ⟨m, ρ, S, x, S1, sr, lr, h1, fun m1 v1 H1 e1 sr1 i1 => ⟨m1, ρ, S1, y, S2, sr1, lr.mono e1, h2, fun m2 v2 H2 e2 sr2 i2 => hp m2 S2 H2 x y v1 v2 u S' Q sr2 (i1.mono e2) i2 h3 (post.mono (e1.trans e2))⟩⟩
theorem q_op {op : Operator} {r : R2} {f : U → U → Sto → Option (U × Sto)} (ho : OpR X (binaryOp op) r) (hp : OpP X.K r f) (ha : QE X a ca) (hb : QE X b cb) : QE X (.BinOp a op b pos) (cOp f ca cb) := (wpe_op ho ha hb).imp (op_imp hp)
theorem q_cmp {op : CmpOp} {r : R2} {f : U → U → Sto → Option (U × Sto)} (ho : OpR X (compareOp op) r) (hp : OpP X.K r f) (ha : QE X a ca) (hb : QE X b cb) (hm : behindInMarks op b = false) : QE X (.Compare a [op] [b] pos) (cOp f ca cb) := (wpe_cmpR ho ha hb hm).imp (op_imp hp)
def cTest (c : CE) : CT := fun ρ S => (c ρ S).bind fun p => match p.1 with
  | .bl b => some (b, p.2)
  | _ => none
theorem test_imp {K : PySem.W.Frag} {c : CE} {t : TE} (h : ∀ σ H Q, tE K c σ H Q → t σ H Q) : ∀ σ H Q, tT K (cTest c) σ H Q → t σ H fun x H' => ∃ k, x = .bl k ∧ Q k H' := by
  rintro σ H Q ⟨m, ρ, S, u, S', sr, lr, hc, post⟩
  obtain ⟨⟨x, S1⟩, h1, h2⟩ := Option.bind_eq_some_iff.mp hc
  refine h σ H _ ⟨m, ρ, S, x, S1, sr, lr, h1, fun m1 v1 H1 e1 sr1 i1 => ?_⟩
  cases x <;> simp at h2
  obtain ⟨rfl, rfl⟩ := h2
  exact ⟨_, i1.of_bl, post m1 H1 e1 sr1⟩
theorem q_tcmp {op : CmpOp} {r : R2} {f : U → U → Sto → Option (U × Sto)} (ho : OpR X (compareOp op) r) (hp : OpP X.K r f) (ha : QE X a ca) (hb : QE X b cb) (hm : behindInMarks op b = false) : QT X (.Compare a [op] [b] pos) (cTest (cOp f ca cb)) := (wpt_cmpR ho ha hb hm).imp (test_imp (op_imp hp))
theorem q_tval (h : QE X e ca) (he : ∀ whole, isTrue e X.env whole = (do let v ← whole; standAt e.pos; holding [v] (truthy v)) := by intro _; rfl) : QT X e (cTest ca) := (wpt_val h he).imp (test_imp fun _ _ _ z => z)
variable {ta tb : CT} {rest : List Expr}
def cAnd (ta tb : CT) : CT := fun ρ S => (ta ρ S).bind fun p => if p.1 = true then tb ρ p.2 else some (false, p.2)
def cOr (ta tb : CT) : CT := fun ρ S => (ta ρ S).bind fun p => if p.1 = true then some (true, p.2) else tb ρ p.2
def cNot (ta : CT) : CT := fun ρ S => (ta ρ S).bind fun p => some (!p.1, p.2)
theorem q_wt (h : QW X e ta) : QT X e ta := WW.pt h
theorem q_and1 (ha : QT X a ta) : QW X (.BoolOp .And [a] pos) ta := wpw_and1 ha
theorem q_or1 (ha : QT X a ta) : QW X (.BoolOp .Or [a] pos) ta := wpw_or1 ha
theorem q_and (ha : QT X a ta) (hb : QW X (.BoolOp .And (b :: rest) pos) tb) : QW X (.BoolOp .And (a :: b :: rest) pos) (cAnd ta tb) := (wpw_and ha hb).imp fun σ H Q ⟨m, ρ, S, u, S', sr, lr, hc, post⟩ => by
  obtain ⟨⟨x, S1⟩, h1, h2⟩ := Option.bind_eq_some_iff.mp hc
  refine ⟨m, ρ, S, x, S1, sr, lr, h1, fun m1 H1 e1 sr1 => ?_⟩
  cases x with
  | true => exact iteT ⟨m1, ρ, S1, u, S', sr1, lr.mono e1, h2, post.mono e1⟩
  | false => cases h2; exact iteF (post m1 H1 e1 sr1)
theorem q_or (ha : QT X a ta) (hb : QW X (.BoolOp .Or (b :: rest) pos) tb) : QW X (.BoolOp .Or (a :: b :: rest) pos) (cOr ta tb) := (wpw_or ha hb).imp fun σ H Q ⟨m, ρ, S, u, S', sr, lr, hc, post⟩ => by
  obtain ⟨⟨x, S1⟩, h1, h2⟩ := Option.bind_eq_some_iff.mp hc
  refine ⟨m, ρ, S, x, S1, sr, lr, h1, fun m1 H1 e1 sr1 => ?_⟩
  cases x with
  | true => cases h2; exact iteT (post m1 H1 e1 sr1)
  | false => exact iteF ⟨m1, ρ, S1, u, S', sr1, lr.mono e1, h2, post.mono e1⟩
theorem q_tnot (ha : QT X a ta) : QT X (.UnaryOp .Not a pos) (cNot ta) := (wpt_not ha).imp fun σ H Q ⟨m, ρ, S, u, S', sr, lr, hc, post⟩ => by
  obtain ⟨⟨x, S1⟩, h1, h2⟩ := Option.bind_eq_some_iff.mp hc
  cases h2
  exact ⟨m, ρ, S, x, _, sr, lr, h1, fun m1 H1 e1 sr1 => post m1 H1 e1 sr1⟩
def cAndV (ca cb : CE) : CE := fun ρ S => (ca ρ S).bind fun p => match p.1 with
  | .bl true => cb ρ p.2
  | .bl false => some (.bl false, p.2)
  | _ => none
def cOrV (ca cb : CE) : CE := fun ρ S => (ca ρ S).bind fun p => match p.1 with
  | .bl false => cb ρ p.2
  | .bl true => some (.bl true, p.2)
  | _ => none
def cNotV (ca : CE) : CE := fun ρ S => (ca ρ S).bind fun p => match p.1 with
  | .bl b => some (.bl (!b), p.2)
  | _ => none
theorem q_one {op} (h : QE X a ca) : QE X (.BoolOp op [a] pos) ca := wpe_one h
theorem q_andV (ha : QE X a ca) (hb : QE X (.BoolOp .And (b :: rest) pos) cb) : QE X (.BoolOp .And (a :: b :: rest) pos) (cAndV ca cb) := (wpe_and ha hb).imp fun σ H Q ⟨m, ρ, S, u, S', sr, lr, hc, post⟩ => by
  obtain ⟨⟨x, S1⟩, h1, h2⟩ := Option.bind_eq_some_iff.mp hc
  refine ⟨m, ρ, S, x, S1, sr, lr, h1, fun m1 v1 H1 e1 sr1 i1 => ?_⟩
  cases x with
  | bl k =>
    refine ⟨k, i1.of_bl, ?_⟩
    cases k with
    | true => exact iteT ⟨m1, ρ, S1, u, S', sr1, lr.mono e1, h2, post.mono e1⟩
    | false => cases h2; exact iteF (post m1 _ H1 e1 sr1 .bl_)
  | _ => simp at h2
theorem q_notV (ha : QE X a ca) : QE X (.UnaryOp .Not a pos) (cNotV ca) := (wpe_not ha).imp fun σ H Q ⟨m, ρ, S, u, S', sr, lr, hc, post⟩ => by
  obtain ⟨⟨x, S1⟩, h1, h2⟩ := Option.bind_eq_some_iff.mp hc
  refine ⟨m, ρ, S, x, S1, sr, lr, h1, fun m1 v1 H1 e1 sr1 i1 => ?_⟩
  cases x with
  | bl k => cases h2; exact ⟨k, i1.of_bl, post m1 _ H1 e1 sr1 .bl_⟩
  | _ => simp at h2
def cIf (t : CT) (ca cb : CE) : CE := fun ρ S => (t ρ S).bind fun p => if p.1 = true then ca ρ p.2 else cb ρ p.2
variable {es : List Expr} {cr : CA}
def cNil : CA := fun _ S => some ([], S)
def cCons (ca : CE) (cr : CA) : CA := fun ρ S => (ca ρ S).bind fun p => (cr ρ p.2).bind fun q => some (p.1 :: q.1, q.2)
theorem q_nil : QA X [] cNil := ⟨wpa_nil.imp fun σ H Q ⟨m, ρ, S, u, S', sr, lr, hc, post⟩ => by cases hc; exact post m [] H .refl sr .nil_, fun ρ S us S' h => by cases h; rfl⟩
theorem q_cons (ha : QE X e ca) (hr : QA X es cr) (hs : starEach (e :: es) X.env = (false, eval e X.env) :: starEach es X.env := by rfl) : QA X (e :: es) (cCons ca cr) := ⟨(wpa_cons ha hr.h hs).imp fun σ H Q ⟨m, ρ, S, u, S', sr, lr, hc, post⟩ => by
  obtain ⟨⟨x, S1⟩, h1, h⟩ := Option.bind_eq_some_iff.mp hc
  obtain ⟨⟨y, S2⟩, h2, h3⟩ := Option.bind_eq_some_iff.mp h
  cases h3
  exact ⟨m, ρ, S, x, S1, sr, lr, h1, fun m1 v1 H1 e1 sr1 i1 => ⟨m1, ρ, S1, y, S2, sr1, lr.mono e1, h2, fun m2 v2 H2 e2 sr2 i2 => post m2 _ H2 (e1.trans e2) sr2 (.cons_ (i1.mono e2) i2)⟩⟩,
  fun ρ S us S' h => by
  obtain ⟨⟨x, S1⟩, h1, h⟩ := Option.bind_eq_some_iff.mp h
  obtain ⟨⟨y, S2⟩, h2, h3⟩ := Option.bind_eq_some_iff.mp h
  cases h3
  simp [hr.len ρ S1 y S2 h2]⟩
def cTup (cr : CA) : CE := fun ρ S => (cr ρ S).bind fun p => some (.tup p.1, p.2)
def cLst (cr : CA) : CE := fun ρ S => (cr ρ S).bind fun p => some (.ref p.2.length, p.2 ++ [.lst p.1])
theorem last_get {m : List Addr} {S : Sto} {q : Addr} (h : m.length = S.length) : (m ++ [q])[S.length]? = some q := by rw [List.getElem?_append_right (by omega)]; simp [h]
theorem post_tup {K : PySem.W.Frag} {m : List Addr} {H : Hp} {S : Sto} {us : List U} {xs : List V} {Q : VK} {p : Addr} (sr : Sr K m S H) (i : IsL K m H xs us) (post : PostE K m H Q (.tup us) S) (hp : H p = none) : Q (.ref p) (upd H p (.tup xs)) :=
  post m _ _ (.of (keep_new hp _)) (sr.same (same_new hp _)) (.tup_ (SqT.of upd_same) (i.mono (.of (keep_new hp _))))
theorem post_lst {K : PySem.W.Frag} {m : List Addr} {H : Hp} {S : Sto} {us : List U} {xs : List V} {Q : VK} {p : Addr} (sr : Sr K m S H) (i : IsL K m H xs us) (post : PostE K m H Q (.ref S.length) (S ++ [.lst us])) (hp : H p = none) : Q (.ref p) (upd H p (.lst xs)) :=
  post (m ++ [p]) _ _ (.new (keep_new hp _)) (sr.new hp ⟨xs, upd_same, i.mono (.new (keep_new hp _))⟩) (.ref_ (last_get sr.len))
theorem q_tup {x1} (h : QA X es cr) (hl : es.length ≤ 1000 := by exact Nat.le_of_ble_eq_true rfl) : QE X (.Tuple es x1 pos) (cTup cr) := (wpe_tup h.h).imp fun σ H Q ⟨m, ρ, S, u, S', sr, lr, hc, post⟩ => by
  obtain ⟨⟨us, S1⟩, h1, h2⟩ := Option.bind_eq_some_iff.mp hc
  cases h2
  refine ⟨m, ρ, S, us, _, sr, lr, h1, fun m1 v1 H1 e1 sr1 i1 => ⟨smallN ?_, fun p hp => post_tup sr1 i1 (post.mono e1) hp⟩⟩
  rw [i1.length, h.len _ _ _ _ h1]; exact hl
theorem q_lst (h : QA X es cr) (hl : es.length ≤ 1000 := by exact Nat.le_of_ble_eq_true rfl) : QE X (.List es pos) (cLst cr) := (wpe_lst h.h).imp fun σ H Q ⟨m, ρ, S, u, S', sr, lr, hc, post⟩ => by
  obtain ⟨⟨us, S1⟩, h1, h2⟩ := Option.bind_eq_some_iff.mp hc
  cases h2
  refine ⟨m, ρ, S, us, _, sr, lr, h1, fun m1 v1 H1 e1 sr1 i1 => ⟨smallN ?_, fun p hp => post_lst sr1 i1 (post.mono e1) hp⟩⟩
  rw [i1.length, h.len _ _ _ _ h1]; exact hl
def cCB (f : List U → Sto → Option (U × Sto)) (cr : CA) : CE := fun ρ S => (cr ρ S).bind fun p => f p.1 p.2
def CallP (K : PySem.W.Frag) (r : List V → Hp → VK → Prop) (f : List U → Sto → Option (U × Sto)) : Prop :=
  ∀ m S H us vs u S' Q, Sr K m S H → IsL K m H vs us → f us S = some (u, S') → PostE K m H Q u S' → r vs H Q
theorem cb_imp {K : PySem.W.Frag} {r : List V → Hp → VK → Prop} {f : List U → Sto → Option (U × Sto)} (hp : CallP K r f) : ∀ σ H Q, tE K (cCB f cr) σ H Q → tCB r (tA K cr) σ H Q := by
  rintro σ H Q ⟨m, ρ, S, u, S', sr, lr, hc, post⟩
  obtain ⟨⟨us, S1⟩, h1, h2⟩ := Option.bind_eq_some_iff.mp hc
  exact ⟨m, ρ, S, us, S1, sr, lr, h1, fun m1 v1 H1 e1 sr1 i1 => hp m1 S1 H1 us v1 u S' Q sr1 i1 h2 (post.mono e1)⟩
theorem q_callB {id : String} {x : Str} {p : Pos} {r : List V → Hp → VK → Prop} {f : List U → Sto → Option (U × Sto)} (hc : CallR X (.builtin id) r) (hp : CallP X.K r f) (hg : Gl X x) (hm : X.mg x = none) (hv : bootBuiltins x = some (.builtin id)) (ha : QA X (e :: es) cr) (hn : x ≠ "__name__" := by decide) (hdb : (x == ("__debug__" : Str)) = false := by decide) (he : starEach (e :: es) X.env = (false, eval e X.env) :: starEach es X.env := by rfl) (hpl : (backTo pos (starEach es X.env)).any (·.1) = false := by rfl) :
    QE X (.Call (.Name x p) (e :: es) [] pos) (cCB f cr) := (wpe_callB hc hg hm hv ha.h hn hdb he hpl).imp (cb_imp hp)
theorem q_callTy {id : String} {x : Str} {p : Pos} {r : List V → Hp → VK → Prop} {f : List U → Sto → Option (U × Sto)} (hc : CallR X (.type id) r) (hp : CallP X.K r f) (hg : Gl X x) (hm : X.mg x = none) (hv : bootBuiltins x = some (.type id)) (ha : QA X (e :: es) cr) (hn : x ≠ "__name__" := by decide) (hdb : (x == ("__debug__" : Str)) = false := by decide) (he : starEach (e :: es) X.env = (false, eval e X.env) :: starEach es X.env := by rfl) (hpl : (backTo pos (starEach es X.env)).any (·.1) = false := by rfl) :
    QE X (.Call (.Name x p) (e :: es) [] pos) (cCB f cr) := (wpe_callTy hc hg hm hv ha.h hn hdb he hpl).imp (cb_imp hp)
end
def spOf (K : PySem.W.Frag) (f : List U → Sto → Option (U × Sto)) : Sp := fun vs H Q _ => ∃ m us S u S', IsL K m H vs us ∧ Sr K m S H ∧ f us S = some (u, S') ∧ PostE K m H Q u S'
abbrev Fn := List U → Sto → Option (U × Sto)
abbrev HasP (P : Program) (w : World) (K : PySem.W.Frag) (mg : Str → Option Value) (base : Heap) (x : Str) (k : Nat) (ps : List Str) (f : Fn) : Prop := Has P w K mg base x k ps (spOf K f)
def startU (n : Nat) (us : List U) : Rho := us.map some ++ List.replicate (n - us.length) none
def fnU (n k : Nat) (c : CS) : Fn := fun us S => if us.length = k then (c (startU n us) S).bind fun r => match r.1 with
  | .rt u => some (u, r.2.2)
  | .nx => some (.non, r.2.2)
  | _ => none else none
section
variable {P : Program} {w : World} {K : PySem.W.Frag} {mg : Str → Option Value} {base : Heap} {x : Str} {st : Stmt} {ps N : List Str} {k : Nat} {c : CS} {f : Fn}
theorem lr_start {m : List Addr} {H : Hp} {vs : List V} {us : List U} (i : IsL K m H vs us) : Lr K m H (startU N.length us) (L2.start N vs) := by
  have hl := i.length
  refine ⟨by simp [startU, L2.start, hl], fun j u e => ?_⟩
  unfold startU at e
  unfold L2.start
  by_cases c : j < us.length
  · rw [List.getElem?_append_left (by simpa using c), List.getElem?_map] at e
    rw [List.getElem?_append_left (by simpa [hl] using c), List.getElem?_map]
    rw [List.getElem?_eq_getElem c] at e
    simp at e
    obtain ⟨v, e1, e2⟩ := i.getD (List.getElem?_eq_getElem c)
    rw [e1]
    subst e
    exact ⟨v, rfl, e2⟩
  · rw [List.getElem?_append_right (by simpa using c), List.getElem?_replicate] at e
    split at e <;> cases e
theorem fn_body {X : Cx} {body : List Stmt} {Q : VK} {E : XK} {vs : List V} {H : Hp} (hK : X.K = K) (h : spOf K (fnU N.length ps.length c) vs H Q E) : tS X.K c { nx := fun _ H' => Q .non H', rt := Q } (L2.start N vs) H := by
  subst hK
  obtain ⟨m, us, S, u, S', i, sr, hf, post⟩ := h
  unfold fnU at hf
  split at hf
  · obtain ⟨⟨o, ρ', S2⟩, h1, h2⟩ := Option.bind_eq_some_iff.mp hf
    refine ⟨m, _, S, o, ρ', S2, sr, lr_start i, h1, ?_⟩
    cases o with
    | rt v => cases h2; exact post
    | nx => cases h2; exact fun m1 σ1 H1 e1 sr1 _ => post m1 _ H1 e1 sr1 .non_
    | bk => simp at h2
    | ct => simp at h2
  · cases hf
theorem spOf_len {vs : List V} {H : Hp} {Q : VK} {E : XK} {n k : Nat} (h : spOf K (fnU n k c) vs H Q E) : vs.length = k := by
  obtain ⟨m, us, S, u, S', i, sr, hf, post⟩ := h
  unfold fnU at hf
  split at hf
  · rename_i e
    rw [i.length, e]
  · cases hf
theorem _root_.OG.Def.pure (d : Def K mg x st ps) (S : FnScope N ps (defScope st))
    (hb : ∀ (f : Addr) (cdv : Value) (A : Around) (outer : List Env) (s : Shared) (H : Hp) (E : XK), Room k (A.deeper (envOfC x (defScope st) s.heap.objs.size f cdv)) →
      WSs (cxOf CX0 P w K mg base N x (defScope st) f cdv A outer s H E).nox (defBody st) (tS K c)) : HasP P w K mg base x (k + 1) ps (fnU N.length ps.length c) :=
  d.has S (fun vs H Q E h => spOf_len h) fun f cdv A outer s H vs Q E hr h => ⟨_, hb f cdv A outer s H E hr, fn_body (X := (cxOf CX0 P w K mg base N x (defScope st) f cdv A outer s H E).nox) (body := []) (ps := ps) rfl h⟩
theorem _root_.OG.Def.no (d : Def K mg x st ps) : HasP P w K mg base x k ps (fun _ _ => none) := d.none fun vs H Q E h => by
  obtain ⟨m, us, S, u, S', i, sr, hf, post⟩ := h
  cases hf
theorem q_call {X : Cx} {e : Expr} {es : List Expr} {cr : CA} {p pos : Pos} (F : Has X.prog X.w X.K X.mg X.base x k ps (spOf X.K f)) (hr : Room k X.A) (hg : Gl X x) (ha : QA X (e :: es) cr)
    (hdb : (x == ("__debug__" : Str)) = false := by decide) (he : starEach (e :: es) X.env = (false, eval e X.env) :: starEach es X.env := by rfl) (hpl : (backTo pos (starEach es X.env)).any (·.1) = false := by rfl) :
    QE X (.Call (.Name x p) (e :: es) [] pos) (cCB f cr) := (wpe_fn F hr hg ha.h hdb he hpl).imp fun σ H Q ⟨m, ρ, S, u, S', sr, lr, hc, post⟩ => by
  obtain ⟨⟨us, S1⟩, h1, h2⟩ := Option.bind_eq_some_iff.mp hc
  exact ⟨m, ρ, S, us, S1, sr, lr, h1, fun m1 v1 H1 e1 sr1 i1 => ⟨m1, us, S1, u, S', by simpa using i1, sr1, h2, post.mono e1⟩⟩
end
section
variable {X : Cx} {e a b c : Expr} {ca cb cc : CE} {pos : Pos} {st : Stmt} {sts : List Stmt} {c1 c2 : CS}
def cSkip : CS := fun ρ S => some (.nx, ρ, S)
def cSeq (c1 c2 : CS) : CS := fun ρ S => (c1 ρ S).bind fun r => match r.1 with
  | .nx => c2 r.2.1 r.2.2
  | o => some (o, r.2.1, r.2.2)
theorem qs_nil : QSs X [] cSkip := wpss_nil.imp fun D σ H ⟨m, ρ, S, o, ρ', S', sr, lr, hc, post⟩ => by cases hc; exact post m σ H .refl sr lr
theorem qs_cons (h1 : QS X st c1) (h2 : QSs X sts c2) : QSs X (st :: sts) (cSeq c1 c2) := (wpss_cons h1 h2).imp fun D σ H ⟨m, ρ, S, o, ρ', S', sr, lr, hc, post⟩ => by
  obtain ⟨⟨o1, ρ1, S1⟩, h1, h2⟩ := Option.bind_eq_some_iff.mp hc
  refine ⟨m, ρ, S, o1, ρ1, S1, sr, lr, h1, ?_⟩
  cases o1 with
  | nx => exact fun m1 σ1 H1 e1 sr1 lr1 => ⟨m1, ρ1, S1, o, ρ', S', sr1, lr1, h2, post.mono e1⟩
  | rt u => cases h2; exact post
  | bk => cases h2; exact post
  | ct => cases h2; exact post
theorem qs_one (h1 : QS X st c1) : QSs X [st] c1 := wpss_one h1
def cDrop (ca : CE) : CS := fun ρ S => (ca ρ S).bind fun p => some (.nx, ρ, p.2)
theorem qs_expr (he : QE X e ca) (hs : swapsWith e none pos.line X.env = pure false := by rfl) : QS X (.Expr e pos) (cDrop ca) := (wps_expr he hs).imp fun D σ H ⟨m, ρ, S, o, ρ', S', sr, lr, hc, post⟩ => by
  obtain ⟨⟨u, S1⟩, h1, h2⟩ := Option.bind_eq_some_iff.mp hc
  cases h2
  exact ⟨m, ρ, S, u, _, sr, lr, h1, fun m1 v1 H1 e1 sr1 i1 => post m1 σ H1 e1 sr1 (lr.mono e1)⟩
def cRet (ca : CE) : CS := fun ρ S => (ca ρ S).bind fun p => some (.rt p.1, ρ, p.2)
theorem qs_ret (he : QE X e ca) : QS X (.Return (some e) pos) (cRet ca) := (wps_ret he).imp fun D σ H ⟨m, ρ, S, o, ρ', S', sr, lr, hc, post⟩ => by
  obtain ⟨⟨u, S1⟩, h1, h2⟩ := Option.bind_eq_some_iff.mp hc
  cases h2
  exact ⟨m, ρ, S, u, _, sr, lr, h1, post⟩
def cIfS (t : CT) (c1 c2 : CS) : CS := fun ρ S => (t ρ S).bind fun p => if p.1 = true then c1 ρ p.2 else c2 ρ p.2
theorem qs_if {t : CT} {s1 s2 : List Stmt} (hc : QT X c t) (h1 : QSs X s1 c1) (h2 : QSs X s2 c2) : QS X (.If c s1 s2 pos) (cIfS t c1 c2) := (wps_if hc h1 h2).imp fun D σ H ⟨m, ρ, S, o, ρ', S', sr, lr, hc, post⟩ => by
  obtain ⟨⟨x, S1⟩, h1, h2⟩ := Option.bind_eq_some_iff.mp hc
  refine ⟨m, ρ, S, x, S1, sr, lr, h1, fun m1 H1 e1 sr1 => ?_⟩
  cases x with
  | true => exact iteT ⟨m1, ρ, S1, o, ρ', S', sr1, lr.mono e1, h2, post.mono e1⟩
  | false => exact iteF ⟨m1, ρ, S1, o, ρ', S', sr1, lr.mono e1, h2, post.mono e1⟩
abbrev CG := U → Rho → Sto → Option (Rho × Sto)
def tG (K : PySem.W.Frag) (g : CG) : TG := fun v σ H Q => ∃ m ρ S u ρ' S', Sr K m S H ∧ Lr K m H ρ σ ∧ Is K m H v u ∧ g u ρ S = some (ρ', S') ∧ PostN K m H Q ρ' S'
abbrev QG (X : Cx) (e : Expr) (g : CG) : Prop := WG X e (tG X.K g)
def gNm (i : Nat) : CG := fun u ρ S => some (ρ.set i (some u), S)
theorem qg_name {i : Nat} (h : WG X e (gName i)) : QG X e (gNm i) := h.imp fun v σ H Q ⟨m, ρ, S, u, ρ', S', sr, lr, iu, hc, post⟩ => by
  cases hc
  exact post m _ H .refl sr (lr.set i iu)
def setAll : List Nat → List U → Rho → Option Rho
  | [], [], ρ => some ρ
  | i :: is, u :: us, ρ => setAll is us (ρ.set i (some u))
  | _, _, _ => none
def tGs (K : PySem.W.Frag) (is : List Nat) : TGs := fun vs σ H Q => ∃ m ρ S us ρ', Sr K m S H ∧ Lr K m H ρ σ ∧ IsL K m H vs us ∧ setAll is us ρ = some ρ' ∧ PostN K m H Q ρ' S
abbrev QGs (X : Cx) (es : List Expr) (is : List Nat) : Prop := WGs X es (tGs X.K is)
theorem qgs_nil : QGs X [] [] := wpgs_nil.imp fun v σ H Q ⟨m, ρ, S, us, ρ', sr, lr, iu, hc, post⟩ => by
  cases us with
  | nil => cases hc; exact ⟨iu.of_nil, post m σ H .refl sr lr⟩
  | cons a r => simp [setAll] at hc
theorem qgs_cons {i : Nat} {is : List Nat} {es : List Expr} (h : WG X e (gName i)) (h2 : QGs X es is) (hs : (assignEach (e :: es) X.env).map (·.2) = assign e X.env :: (assignEach es X.env).map (·.2) := by rfl) : QGs X (e :: es) (i :: is) := (wpgs_cons h h2 hs).imp fun v σ H Q ⟨m, ρ, S, us, ρ', sr, lr, iu, hc, post⟩ => by
  cases us with
  | nil => simp [setAll] at hc
  | cons u r =>
    obtain ⟨x, xr, rfl, i1, i2⟩ := iu.of_cons
    exact ⟨x, xr, rfl, m, ρ.set i (some u), S, r, ρ', sr, lr.set i i1, i2, hc, post⟩
def gTp (is : List Nat) : CG := fun u ρ S => match u with
  | .tup us => (setAll is us ρ).bind fun ρ' => some (ρ', S)
  | _ => none
theorem setAll_len : ∀ {is : List Nat} {us : List U} {ρ ρ' : Rho}, setAll is us ρ = some ρ' → us.length = is.length
  | [], [], _, _, _ => rfl
  | [], _ :: _, _, _, h => by simp [setAll] at h
  | _ :: _, [], _, _, h => by simp [setAll] at h
  | i :: is, u :: us, ρ, ρ', h => by
    have := setAll_len (is := is) (us := us) h
    simp [this]
theorem qg_tup {is : List Nat} {es : List Expr} {k : Nat} (hc : X.calm = true) (h : QGs X es is) (hn : (assignEach es X.env).length = is.length := by rfl) (hst : (assignEach es X.env).findIdx? (·.1) = none := by rfl) : QG X (.Tuple es k pos) (gTp is) := (wpg_tup hc h hn hst).imp fun v σ H Q ⟨m, ρ, S, u, ρ', S', sr, lr, iu, hc, post⟩ => by
  cases u with
  | tup us =>
    obtain ⟨ρ2, h1, h2⟩ := Option.bind_eq_some_iff.mp hc
    cases h2
    obtain ⟨a, xs, rfl, sq, il⟩ := iu.of_tup
    refine ⟨a, xs, rfl, sq, ?_, m, ρ, S, us, ρ', sr, lr, il, h1, post⟩
    rw [il.length]; exact setAll_len h1
  | _ => simp [gTp] at hc
def cAsg (ca : CE) (g : CG) : CS := fun ρ S => (ca ρ S).bind fun p => (g p.1 ρ p.2).bind fun q => some (.nx, q.1, q.2)
theorem asg_imp {K : PySem.W.Frag} {g : CG} : ∀ D σ H, tS K (cAsg ca g) D σ H → tAsg (tE K ca) (tG K g) D σ H := by
  rintro D σ H ⟨m, ρ, S, o, ρ', S', sr, lr, hc, post⟩
  obtain ⟨⟨u, S1⟩, h1, h2⟩ := Option.bind_eq_some_iff.mp hc
  obtain ⟨⟨ρ2, S2⟩, h3, h4⟩ := Option.bind_eq_some_iff.mp h2
  cases h4
  exact ⟨m, ρ, S, u, S1, sr, lr, h1, fun m1 v1 H1 e1 sr1 i1 => ⟨m1, ρ, S1, u, _, _, sr1, lr.mono e1, i1, h3, PostN.mono e1 post⟩⟩
theorem qs_asg {tg : Expr} {g : CG} (he : QE X e ca) (hg : QG X tg g) (hs : swapsWithSole [tg] e pos.line X.env = pure false := by rfl) (hw : swappedStores [tg] e X.env = pure none := by rfl)
    (h1 : (assignEach [tg] X.env).map (·.2) = [assign tg X.env] := by rfl) : QS X (.Assign [tg] e pos) (cAsg ca g) := (wps_asg he hg hs hw h1).imp asg_imp
def cSet (i : Nat) (ca : CE) : CS := fun ρ S => (ca ρ S).bind fun p => some (.nx, ρ.set i (some p.1), p.2)
theorem qs_set {i : Nat} {x : Str} {pos' : Pos} (hN : X.N.Nodup) (hi : X.N[i]? = some x) (hx : Loc X.env.scope x) (he : QE X e ca) (hs : swapsWith e (some (.Name x pos')) pos.line X.env = pure false := by rfl) (hf : X.fn x = true ∨ X.env.scope.names.lookup x = some .local := by first | exact .inl rfl | exact .inr rfl | assumption) :
    QS X (.Assign [.Name x pos'] e pos) (cSet i ca) := (wps_set hN hi hx he hs hf).imp fun D σ H ⟨m, ρ, S, o, ρ', S', sr, lr, hc, post⟩ => by
  obtain ⟨⟨u, S1⟩, h1, h2⟩ := Option.bind_eq_some_iff.mp hc
  cases h2
  exact ⟨m, ρ, S, u, _, sr, lr, h1, fun m1 v1 H1 e1 sr1 i1 => post m1 _ H1 e1 sr1 ((lr.mono e1).set i i1)⟩
abbrev CI := Rho → Sto → Option (List U × (Sto → Prop) × Sto)
def ItOk (K : PySem.W.Frag) (J : It) (m : List Addr) (H : Hp) (us : List U) (ok : Sto → Prop) : Prop := ∀ m2 S2 H2 i, Ext K m H m2 H2 → Sr K m2 S2 H2 → ok S2 →
  (∀ u, us[i]? = some u → J.go i H2 ∧ ∀ x H3, J.yld i H2 x H3 → Ext K m2 H2 m2 H3 ∧ Sr K m2 S2 H3 ∧ Is K m2 H3 x u) ∧ (us.length ≤ i → J.stop i H2)
def tI (K : PySem.W.Frag) (ci : CI) : TI := fun σ H R => ∃ m ρ S us ok S', Sr K m S H ∧ Lr K m H ρ σ ∧ ci ρ S = some (us, ok, S') ∧ ∀ m' H' J, Ext K m H m' H' → Sr K m' S' H' → ItOk K J m' H' us ok → R J H'
abbrev QI (X : Cx) (tg iter : Expr) (ci : CI) : Prop := WI X tg iter (tI X.K ci)
open Classical in
noncomputable def loopU (ok : Sto → Prop) (g : CG) (cb : CS) : List U → CS
  | [] => fun ρ S => if ok S then some (.nx, ρ, S) else none
  | u :: us => fun ρ S => if ok S then (g u ρ S).bind fun p => (cb p.1 p.2).bind fun r => match r.1 with
    | .nx => loopU ok g cb us r.2.1 r.2.2
    | .ct => loopU ok g cb us r.2.1 r.2.2
    | .bk => some (.nx, r.2.1, r.2.2)
    | .rt v => some (.rt v, r.2.1, r.2.2) else none
noncomputable def cFor (ci : CI) (g : CG) (cb : CS) : CS := fun ρ S => (ci ρ S).bind fun p => loopU p.2.1 g cb p.1 ρ p.2.2
theorem drop_cons {α : Type} {us : List α} {i : Nat} {u : α} (h : us[i]? = some u) : us.drop i = u :: us.drop (i + 1) := by
  obtain ⟨hl, e⟩ := List.getElem?_eq_some_iff.mp h
  rw [List.drop_eq_getElem_cons hl, e]
theorem loop_imp {K : PySem.W.Frag} {g : CG} {cb : CS} {J : It} {us : List U} {ok : Sto → Prop} {D : Ends} {m1 : List Addr} {H1 : Hp} {ρ ρ' : Rho} {σ : L2.St} {S1 S' : Sto} {o : Out} (sr1 : Sr K m1 S1 H1) (lr1 : Lr K m1 H1 ρ σ) (ito : ItOk K J m1 H1 us ok) (h2 : loopU ok g cb us ρ S1 = some (o, ρ', S')) (post : PostS K m1 H1 D o ρ' S') :
    ∃ W : Nat → Nat → L2.St → Hp → Prop, (∃ n, W 0 n σ H1) ∧ ∀ i n σ H, W i n σ H →
      (J.stop i H ∧ D.nx σ H) ∨ (J.go i H ∧ ∃ N : L2.St → Hp → Prop, (∀ σ' H', N σ' H' → ∃ n', n' < n ∧ W (i + 1) n' σ' H') ∧ ∀ x H', J.yld i H x H' → tG K g x σ H' fun σ2 H2 => tS K cb { D with nx := N, ct := N, bk := D.nx } σ2 H2) := by
  let W : Nat → Nat → L2.St → Hp → Prop := fun i n σ2 H2 => n = us.length - i ∧ i ≤ us.length ∧ ∃ m2 ρ2 S2, Ext K m1 H1 m2 H2 ∧ Sr K m2 S2 H2 ∧ Lr K m2 H2 ρ2 σ2 ∧ loopU ok g cb (us.drop i) ρ2 S2 = some (o, ρ', S')
  refine ⟨W, ⟨us.length, by simp, Nat.zero_le _, m1, ρ, S1, .refl, sr1, lr1, by simpa using h2⟩, ?_⟩
  rintro i n σ2 H2 ⟨rfl, hi, m2, ρ2, S2, e2, sr2, lr2, hl⟩
  by_cases hlt : i < us.length
  · have hu := List.getElem?_eq_getElem hlt
    rw [drop_cons hu] at hl
    unfold loopU at hl
    split at hl
    · rename_i hok
      obtain ⟨⟨ρ3, S3⟩, h3, hl⟩ := Option.bind_eq_some_iff.mp hl
      obtain ⟨⟨o4, ρ4, S4⟩, h4, hl⟩ := Option.bind_eq_some_iff.mp hl
      obtain ⟨hgo, hy⟩ := (ito m2 S2 H2 i e2 sr2 hok).1 _ hu
      refine .inr ⟨hgo, W (i + 1) (us.length - (i + 1)), fun σ' H' w' => ⟨_, by omega, w'⟩, fun x H3 y => ?_⟩
      obtain ⟨e3, sr3, ix⟩ := hy x H3 y
      refine ⟨m2, ρ2, S2, _, ρ3, S3, sr3, lr2.mono e3, ix, h3, fun m4 σ4 H4 e4 sr4 lr4 => ⟨m4, ρ3, S3, o4, ρ4, S4, sr4, lr4, h4, ?_⟩⟩
      have e14 := (e2.trans e3).trans e4
      have nxt : loopU ok g cb (us.drop (i + 1)) ρ4 S4 = some (o, ρ', S') → PostN K m4 H4 (W (i + 1) (us.length - (i + 1))) ρ4 S4 := fun hn m5 σ5 H5 e5 sr5 lr5 => ⟨rfl, hlt, m5, ρ4, S4, e14.trans e5, sr5, lr5, hn⟩
      cases o4 with
      | nx => exact nxt hl
      | ct => exact nxt hl
      | bk => cases hl; exact PostN.mono e14 post
      | rt v => cases hl; exact PostE.mono e14 post
    · cases hl
  · have e : i = us.length := by omega
    subst e
    rw [List.drop_length] at hl
    unfold loopU at hl
    split at hl
    · rename_i hok
      cases hl
      exact .inl ⟨(ito m2 _ H2 _ e2 sr2 hok).2 (Nat.le_refl _), post m2 σ2 H2 e2 sr2 lr2⟩
    · cases hl
theorem for_imp {K : PySem.W.Frag} {ci : CI} {g : CG} {cb : CS} : ∀ D σ H, tS K (cFor ci g cb) D σ H → tFor (tI K ci) (tG K g) (tS K cb) D σ H := by
  rintro D σ H ⟨m, ρ, S, o, ρ', S', sr, lr, hc, post⟩
  obtain ⟨⟨us, ok, S1⟩, h1, h2⟩ := Option.bind_eq_some_iff.mp hc
  exact ⟨m, ρ, S, us, ok, S1, sr, lr, h1, fun m1 H1 J e1 sr1 ito => loop_imp sr1 (lr.mono e1) ito h2 (PostS.mono e1 post)⟩
theorem qs_for {tg iter : Expr} {body : List Stmt} {ci : CI} {g : CG} {cb : CS} (hp : PassesOwn (model X.prog X.w) X.A X.env X.xe) (hc : X.calm = true) (hi : QI X tg iter ci) (hg : QG X tg g) (hb : QSs X body cb) (hs : ∀ x, foldedSetIterable iter X.env x = pure x := by intro _; rfl) : QS X (.For tg iter body [] pos) (cFor ci g cb) := (wps_for hp hc hi hg hb hs).imp for_imp
def iTp (ca : CE) : CI := fun ρ S => (ca ρ S).bind fun p => match p.1 with
  | .tup us => some (us, fun _ => True, p.2)
  | .ref l => match p.2[l]? with
    | some (.lst us) => some (us, fun S => S[l]? = some (.lst us), p.2)
    | _ => none
  | _ => none
theorem it_tup {K : PySem.W.Frag} {m : List Addr} {H : Hp} {us : List U} {a : Addr} {xs : List V} (sq : SqT K H a xs) (il : IsL K m H xs us) : ItOk K (Itt K a) m H us (fun _ => True) := by
  intro m2 S2 H2 i e2 sr2 _
  have sq2 := e2.keep _ _ sq
  have il2 := il.mono e2
  refine ⟨fun u hu => ?_, fun hi => ⟨xs, sq2, by rw [il2.length]; exact hi⟩⟩
  obtain ⟨x, hx, ix⟩ := il2.getD hu
  refine ⟨⟨xs, x, sq2, hx⟩, fun y H3 hy => ?_⟩
  obtain ⟨rfl, hy⟩ := hy
  have := hy xs sq2
  rw [hx] at this; cases this
  exact ⟨.refl, sr2, ix⟩
theorem it_lst {K : PySem.W.Frag} {m : List Addr} {H : Hp} {us : List U} {a : Addr} {l : Nat} (hl : m[l]? = some a) : ItOk K (Itl K a) m H us (fun S => S[l]? = some (.lst us)) := by
  intro m2 S2 H2 i e2 sr2 hok
  obtain ⟨a', ha', xs, hx, il⟩ := sr2.get hok
  rw [e2.get hl] at ha'
  cases ha'
  refine ⟨fun u hu => ?_, fun hi => ⟨xs, SqL.of hx, by rw [il.length]; exact hi⟩⟩
  obtain ⟨x, hx', ix⟩ := il.getD hu
  refine ⟨⟨xs, x, SqL.of hx, hx'⟩, fun y H3 hy => ?_⟩
  obtain ⟨rfl, hy⟩ := hy
  have := hy xs (SqL.of hx)
  rw [hx'] at this; cases this
  exact ⟨.refl, sr2, ix⟩
theorem qi_seq {tg : Expr} (h : QE X e ca) : QI X tg e (iTp ca) := ((wpi_tup h).or (wpi_list h)).imp fun σ H R ⟨m, ρ, S, us, ok, S', sr, lr, hc, post⟩ => by
  obtain ⟨⟨u, S1⟩, h1, h2⟩ := Option.bind_eq_some_iff.mp hc
  cases u with
  | tup ws =>
    cases h2
    refine .inl ⟨m, ρ, S, .tup us, _, sr, lr, h1, fun m1 v1 H1 e1 sr1 i1 => ?_⟩
    obtain ⟨a, xs, rfl, sq, il⟩ := i1.of_tup
    exact ⟨a, rfl, ⟨xs, sq⟩, post m1 H1 _ e1 sr1 (it_tup sq il)⟩
  | ref l =>
    simp only at h2
    split at h2
    · rename_i us' hS
      cases h2
      refine .inr ⟨m, ρ, S, .ref l, _, sr, lr, h1, fun m1 v1 H1 e1 sr1 i1 => ?_⟩
      obtain ⟨a, hl, rfl⟩ := i1.of_ref
      obtain ⟨a', ha', xs, hx, il⟩ := sr1.get hS
      rw [hl] at ha'; cases ha'
      exact ⟨a, rfl, ⟨xs, SqL.of hx⟩, post m1 H1 _ e1 sr1 (it_lst hl)⟩
    · cases h2
  | _ => simp at h2
def rangeU (lo : Int) (n : Nat) : List U := (List.range n).map fun i => .int (lo + (i : Nat))
theorem it_range {K : PySem.W.Frag} {m : List Addr} {H : Hp} {lo : Int} {n : Nat} : ItOk K (Itr lo n) m H (rangeU lo n) (fun _ => True) := by
  intro m2 S2 H2 i e2 sr2 _
  refine ⟨fun u hu => ?_, fun hi => by show n ≤ i; simpa [rangeU] using hi⟩
  unfold rangeU at hu
  rw [List.getElem?_map] at hu
  by_cases c : i < n
  · rw [List.getElem?_range c] at hu
    simp at hu
    subst hu
    refine ⟨c, fun y H3 hy => ?_⟩
    obtain ⟨rfl, rfl⟩ := hy
    exact ⟨.refl, sr2, .int_⟩
  · rw [List.getElem?_eq_none (by simpa using c)] at hu
    cases hu
def iRange1 (cr : CA) : CI := fun ρ S => (cr ρ S).bind fun p => match p.1 with
  | [.int j] => if -(2 ^ 62) ≤ j ∧ j < 2 ^ 62 then some (rangeU 0 j.toNat, fun _ => True, p.2) else none
  | _ => none
theorem qi_range1 {tg : Expr} {cr : CA} {p : Pos} (hg : Gl X "range") (hm : X.mg "range" = none) (ha : QA X [a] cr) (hs : starEach [a] X.env = [(false, eval a X.env)] := by rfl) : QI X tg (.Call (.Name "range" p) [a] [] pos) (iRange1 cr) := (wpi_range1 hg hm ha.h hs).imp fun σ H R ⟨m, ρ, S, us, ok, S', sr, lr, hc, post⟩ => by
  obtain ⟨⟨ws, S1⟩, h1, h2⟩ := Option.bind_eq_some_iff.mp hc
  simp only at h2
  split at h2
  · rename_i j
    split at h2
    · rename_i hj
      cases h2
      refine ⟨m, ρ, S, _, S', sr, lr, h1, fun m1 v1 H1 e1 sr1 i1 => ?_⟩
      obtain ⟨x, r, rfl, ix, ir⟩ := i1.of_cons
      rw [ir.of_nil, ix.of_int]
      exact ⟨j, rfl, hj.1, hj.2, post m1 H1 _ e1 sr1 it_range⟩
    · cases h2
  · cases h2
end
end OP
set_option maxHeartbeats 1000000
namespace OP
open PySem PySem.Spec PyProof.Rows L2 OG
def fI (g : Int → Int → Option U) : U → U → Sto → Option (U × Sto)
  | .int i, .int j, S => (g i j).bind fun u => some (u, S)
  | _, _, _ => none
section
variable {X : Cx} {K : PySem.W.Frag}
theorem p_rI {C : Int → Int → Prop} {gV : Int → Int → V} {g : Int → Int → Option U} (h : ∀ i j u, g i j = some u → C i j ∧ ∀ m H, Is K m H (gV i j) u) : OpP K (rI C gV) (fI g) := by
  intro m S H x y v w u S' Q sr ix iy hf post
  cases x <;> cases y <;> simp only [fI] at hf <;> try cases hf
  rename_i i j
  obtain ⟨u1, h1, h2⟩ := Option.bind_eq_some_iff.mp hf
  cases h2
  obtain ⟨hc, hi⟩ := h i j u h1
  exact ⟨i, j, ix.of_int, iy.of_int, hc, post m _ H .refl sr (hi m H)⟩
theorem p_rI0 {gV : Int → Int → V} {g : Int → Int → Option U} (h : ∀ i j u, g i j = some u → ∀ m H, Is K m H (gV i j) u) : OpP K (rI0 gV) (fI g) := by
  intro m S H x y v w u S' Q sr ix iy hf post
  cases x <;> cases y <;> simp only [fI] at hf <;> try cases hf
  rename_i i j
  obtain ⟨u1, h1, h2⟩ := Option.bind_eq_some_iff.mp hf
  cases h2
  exact ⟨i, j, ix.of_int, iy.of_int, post m _ H .refl sr (h i j u h1 m H)⟩
def rCatS (K : PySem.W.Frag) : R2 := fun x y H Q => ∃ a b xs ys, x = .ref a ∧ y = .ref b ∧ SqT K H a xs ∧ SqT K H b ys ∧ xs.length + ys.length ≤ sizeLine ∧ ∀ q H', Same H H' → SqT K H' q (xs ++ ys) → Q (.ref q) H'
theorem op_catS : OpR X (binaryOp .Add) (rCatS X.K) := by
  intro pins s σ H x y v u Q I rx ry h
  obtain ⟨a, b, xs, ys, rfl, rfl, ha, hb, hz, q⟩ := h
  by_cases e : xs = []
  · cases rx
    cases ry
    obtain ⟨its, r1, p1, _⟩ := I.tuple ha
    obtain ⟨its2, r2, p2, _⟩ := I.tuple hb
    refine cat_tup0 p1 p2 (r1.nil_iff.mpr e) ⟨.ref b, H, I, rfl, q b H (.refl _) (by rw [e]; exact hb)⟩
  · refine op_catT pins s σ H _ _ v u Q I rx ry ⟨a, b, xs, ys, rfl, rfl, ha, hb, e, hz, fun z => q a H (.refl _) (by rw [z, List.append_nil]; exact ha), fun _ p hp => q p _ (same_new hp _) (SqT.of upd_same)⟩
def fTupCat : U → U → Sto → Option (U × Sto)
  | .tup a, .tup b, S => if a.length + b.length ≤ LIM then some (.tup (a ++ b), S) else none
  | _, _, _ => none
theorem p_tupCat : OpP K (rCatS K) fTupCat := by
  intro m S H x y v w u S' Q sr ix iy hf post
  cases x <;> cases y <;> simp only [fTupCat] at hf <;> try cases hf
  split at hf <;> try cases hf
  rename_i hl
  obtain ⟨a, xs, rfl, sa, la⟩ := ix.of_tup
  obtain ⟨b, ys, rfl, sb, lb⟩ := iy.of_tup
  refine ⟨a, b, xs, ys, rfl, rfl, sa, sb, lim (by rw [la.length, lb.length]; exact hl), fun q H' s sq => ?_⟩
  exact post m _ H' (.of (keep_same s)) (sr.same s) (.tup_ sq ((la.append lb).mono (.of (keep_same s))))
def fLstCat : U → U → Sto → Option (U × Sto)
  | .ref l, .ref k, S => match S[l]?, S[k]? with
    | some (.lst a), some (.lst b) => if a.length + b.length ≤ LIM then some (.ref S.length, S ++ [.lst (a ++ b)]) else none
    | _, _ => none
  | _, _, _ => none
theorem p_lstCat : OpP K rCat fLstCat := by
  intro m S H x y v w u S' Q sr ix iy hf post
  cases x <;> cases y <;> simp only [fLstCat] at hf <;> try cases hf
  rename_i l k
  split at hf <;> try cases hf
  rename_i a b h1 h2
  split at hf <;> try cases hf
  rename_i hl
  obtain ⟨p, hp, rfl⟩ := ix.of_ref
  obtain ⟨q, hq, rfl⟩ := iy.of_ref
  obtain ⟨p', hp', xs, hx, il⟩ := sr.get h1
  obtain ⟨q', hq', ys, hy, il'⟩ := sr.get h2
  rw [hp] at hp'; cases hp'
  rw [hq] at hq'; cases hq'
  exact ⟨p, q, xs, ys, rfl, rfl, hx, hy, lim (by rw [il.length, il'.length]; exact hl), fun r hr => post_lst sr (il.append il') post hr⟩
def fStrCat : U → U → Sto → Option (U × Sto)
  | .str a, .str b, S => if a.length + b.length ≤ LIM then some (.str (a ++ b), S) else none
  | _, _, _ => none
theorem p_strCat : OpP K (fun x y H Q => ∃ i j, x = .str i ∧ y = .str j ∧ i.length + j.length ≤ sizeLine ∧ Q (.str (i ++ j)) H) fStrCat := by
  intro m S H x y v w u S' Q sr ix iy hf post
  cases x <;> cases y <;> simp only [fStrCat] at hf <;> try cases hf
  split at hf <;> try cases hf
  rename_i hl
  exact ⟨_, _, ix.of_str, iy.of_str, lim hl, post m _ H .refl sr .str_⟩
def fAdd : U → U → Sto → Option (U × Sto)
  | .int i, .int j, S => some (.int (i + j), S)
  | .tup a, .tup b, S => if a.length + b.length ≤ LIM then some (.tup (a ++ b), S) else none
  | .str a, .str b, S => if a.length + b.length ≤ LIM then some (.str (a ++ b), S) else none
  | .ref l, .ref k, S => fLstCat (.ref l) (.ref k) S
  | _, _, _ => none
theorem o_add : OpR X (binaryOp .Add) (fun x y H Q => rI0 (fun i j => .int (i + j)) x y H Q ∨ (rCat x y H Q ∨ (rCatS X.K x y H Q ∨ ∃ i j, x = .str i ∧ y = .str j ∧ i.length + j.length ≤ sizeLine ∧ Q (.str (i ++ j)) H))) := op_add.or (op_cat.or (op_catS.or op_add_str))
theorem p_add : OpP K (fun x y H Q => rI0 (fun i j => .int (i + j)) x y H Q ∨ (rCat x y H Q ∨ (rCatS K x y H Q ∨ ∃ i j, x = .str i ∧ y = .str j ∧ i.length + j.length ≤ sizeLine ∧ Q (.str (i ++ j)) H))) fAdd := by
  intro m S H x y v w u S' Q sr ix iy hf post
  cases x <;> cases y <;> simp only [fAdd] at hf <;> try cases hf
  · exact .inl ⟨_, _, ix.of_int, iy.of_int, post m _ H .refl sr .int_⟩
  · exact .inr (.inr (.inr (p_strCat m S H _ _ v w u S' Q sr ix iy hf post)))
  · exact .inr (.inr (.inl (p_tupCat m S H _ _ v w u S' Q sr ix iy hf post)))
  · exact .inr (.inl (p_lstCat m S H _ _ v w u S' Q sr ix iy hf post))
def fSub := fI fun i j => some (.int (i - j))
theorem p_sub : OpP K (rI0 fun i j => .int (i - j)) fSub := p_rI0 fun i j u h m H => by cases h; exact .int_
instance {i j : Int} : Decidable (CMul i j) := by unfold CMul; exact inferInstance
def fMul := fI fun i j => if CMul i j then some (.int (i * j)) else none
theorem p_mul : OpP K (rI CMul fun i j => .int (i * j)) fMul := p_rI fun i j u h => by
  split at h
  · rename_i c; cases h; exact ⟨c, fun m H => .int_⟩
  · cases h
instance {i j : Int} : Decidable (CDivB i j) := by unfold CDivB; exact inferInstance
def fDiv := fI fun i j => if CDivB i j then some (.int (i / j)) else none
theorem p_div : OpP K (rI CDivB fun i j => .int (i / j)) fDiv := p_rI fun i j u h => by
  split at h
  · rename_i c; cases h; exact ⟨c, fun m H => .int_⟩
  · cases h
def fMod := fI fun i j => if 0 < j then some (.int (i % j)) else none
theorem p_mod : OpP K (rI (fun _ j => 0 < j) fun i j => .int (i % j)) fMod := p_rI fun i j u h => by
  split at h
  · rename_i c; cases h; exact ⟨c, fun m H => .int_⟩
  · cases h
instance {i j : Int} : Decidable (CPow i j) := by unfold CPow; exact inferInstance
def fPow := fI fun i j => if CPow i j then some (.int (i ^ j.toNat)) else none
theorem p_pow : OpP K (rI CPow fun i j => .int (i ^ j.toNat)) fPow := p_rI fun i j u h => by
  split at h
  · rename_i c; cases h; exact ⟨c, fun m H => .int_⟩
  · cases h
def fLt := fI fun i j => some (.bl (decide (i < j)))
def fLe := fI fun i j => some (.bl (decide (i ≤ j)))
def fGt := fI fun i j => some (.bl (decide (j < i)))
def fGe := fI fun i j => some (.bl (decide (j ≤ i)))
theorem p_lt : OpP K (rI0 fun i j => .bl (decide (i < j))) fLt := p_rI0 fun i j u h m H => by cases h; exact .bl_
theorem p_gt : OpP K (rI0 fun i j => .bl (decide (j < i))) fGt := p_rI0 fun i j u h m H => by cases h; exact .bl_
theorem p_ge : OpP K (rI0 fun i j => .bl (decide (j ≤ i))) fGe := p_rI0 fun i j u h m H => by cases h; exact .bl_
def eqS : U → U → Option Bool
  | .int i, .int j => some (decide (i = j))
  | .bl i, .bl j => some (decide (i = j))
  | .str i, .str j => some (decide (i = j))
  | .non, .non => some true
  | .non, .int _ => some false | .int _, .non => some false
  | .non, .bl _ => some false | .bl _, .non => some false
  | .non, .str _ => some false | .str _, .non => some false
  | .int _, .str _ => some false | .str _, .int _ => some false
  | .bl _, .str _ => some false | .str _, .bl _ => some false
  | _, _ => none
def fEq : U → U → Sto → Option (U × Sto) := fun x y S => (eqS x y).bind fun b => some (.bl b, S)
def fNe : U → U → Sto → Option (U × Sto) := fun x y S => (eqS x y).bind fun b => some (.bl (!b), S)
theorem eqS_ok {m : List Addr} {H : Hp} {x y : U} {v w : V} {b : Bool} (ix : Is K m H v x) (iy : Is K m H w y) (h : eqS x y = some b) : scal v w = true ∧ decide (v = w) = b := by
  cases x <;> cases y <;> simp only [eqS] at h <;> (first | cases h | skip)
  all_goals
    (first | (have e1 := ix.of_int) | (have e1 := ix.of_bl) | (have e1 := ix.of_str) | (have e1 := ix.of_non))
    (first | (have e2 := iy.of_int) | (have e2 := iy.of_bl) | (have e2 := iy.of_str) | (have e2 := iy.of_non))
    subst e1 e2
    exact ⟨rfl, by simp⟩
theorem p_eq : OpP K rEq fEq := by
  intro m S H x y v w u S' Q sr ix iy hf post
  obtain ⟨b, h1, h2⟩ := Option.bind_eq_some_iff.mp hf
  cases h2
  obtain ⟨e1, e2⟩ := eqS_ok ix iy h1
  exact ⟨e1, by rw [e2]; exact post m _ H .refl sr .bl_⟩
theorem p_ne : OpP K rNe fNe := by
  intro m S H x y v w u S' Q sr ix iy hf post
  obtain ⟨b, h1, h2⟩ := Option.bind_eq_some_iff.mp hf
  cases h2
  obtain ⟨e1, e2⟩ := eqS_ok ix iy h1
  exact ⟨e1, by rw [e2]; exact post m _ H .refl sr .bl_⟩
def isNon : U → Bool
  | .non => true
  | _ => false
def fIsN : U → U → Sto → Option (U × Sto)
  | x, .non, S => some (.bl (isNon x), S)
  | _, _, _ => none
def fNotN : U → U → Sto → Option (U × Sto)
  | x, .non, S => some (.bl (!isNon x), S)
  | _, _, _ => none
theorem isNon_ok {m : List Addr} {H : Hp} {x : U} {v : V} (ix : Is K m H v x) : decide (v = .non) = isNon x := by
  cases x with
  | non => rw [ix.of_non]; rfl
  | bl b => rw [ix.of_bl]; rfl
  | int i => rw [ix.of_int]; rfl
  | str i => rw [ix.of_str]; rfl
  | tup us => obtain ⟨a, xs, rfl, _⟩ := ix.of_tup; rfl
  | ref l => obtain ⟨a, _, rfl⟩ := ix.of_ref; rfl
theorem p_isN : OpP K (fun x y H Q => y = .non ∧ Q (.bl (decide (x = .non))) H) fIsN := by
  intro m S H x y v w u S' Q sr ix iy hf post
  cases y <;> simp only [fIsN] at hf <;> cases hf
  exact ⟨iy.of_non, by rw [isNon_ok ix]; exact post m _ H .refl sr .bl_⟩
section
variable {κ : Type} [DecidableEq κ]
def valG {α : Type} (kvs : List (κ × α)) (k : κ) : Option α := (kvs.find? fun kv => decide (kv.1 = k)).map (·.2)
def putG {α : Type} (kvs : List (κ × α)) (k : κ) (v : α) : List (κ × α) :=
  if (kvs.any fun kv => decide (kv.1 = k)) = true then kvs.map (fun kv => if kv.1 = k then (kv.1, v) else kv) else kvs ++ [(k, v)]
variable {m : List Addr} {H : Hp} {kvs : List (κ × V)} {kus : List (κ × U)} {k : κ} {v : V} {u : U}
theorem IsP.val (h : IsP K m H kvs kus) : Rf K m H (valV kvs k) (valG kus k) := by
  refine IsP.ind (P := fun kvs kus => Rf K m H (valV kvs k) (valG kus k)) trivial (fun k' v u kvs kus i _ ih => ?_) h
  by_cases e : k' = k
  · subst e
    simp [valV, valG, List.find?_cons, Rf, i]
  · simp only [valV, valG, List.find?_cons, decide_eq_false e] at ih ⊢
    exact ih
theorem IsP.any_ (h : IsP K m H kvs kus) : (kvs.any fun kv => decide (kv.1 = k)) = (kus.any fun kv => decide (kv.1 = k)) :=
  IsP.ind (P := fun kvs kus => (kvs.any fun kv => decide (kv.1 = k)) = (kus.any fun kv => decide (kv.1 = k))) rfl (fun k' v u kvs kus i _ ih => by simp only [List.any_cons, ih]) h
theorem IsP.append {kvs' : List (κ × V)} {kus' : List (κ × U)} (h : IsP K m H kvs kus) (h' : IsP K m H kvs' kus') : IsP K m H (kvs ++ kvs') (kus ++ kus') := ⟨by simp [h.1, h'.1], by simpa using h.2.append h'.2⟩
theorem IsP.put (h : IsP K m H kvs kus) (i : Is K m H v u) : IsP K m H (putK kvs k v) (putG kus k u) := by
  unfold putK putG
  rw [h.any_]
  split
  · refine IsP.ind (P := fun kvs kus => IsP K m H (kvs.map fun kv => if kv.1 = k then (kv.1, v) else kv) (kus.map fun kv => if kv.1 = k then (kv.1, u) else kv)) .nil_ (fun k' v' u' kvs kus i' _ ih => ?_) h
    simp only [List.map_cons]
    by_cases e : k' = k
    · simp only [e, if_true]; exact .cons_ i ih
    · simp only [e, if_false]; exact .cons_ i' ih
  · exact h.append (.cons_ i .nil_)
end
def keyU : U → Option Key
  | .int i => some (.inl i)
  | .str x => some (.inr x)
  | _ => none
theorem keyU_ok {m : List Addr} {H : Hp} {x : U} {v : V} {k : Key} (ix : Is K m H v x) (h : keyU x = some k) : v = kV k := by
  cases x <;> simp only [keyU] at h <;> cases h
  · exact ix.of_int
  · exact ix.of_str
def flatU : U → Bool
  | .non => true | .bl _ => true | .int _ => true | .str _ => true | _ => false
def eqF : U → U → Bool
  | .non, .non => true
  | .bl a, .bl b => a == b
  | .bl a, .int b => (if a then 1 else 0) == b
  | .int a, .bl b => a == (if b then 1 else 0)
  | .int a, .int b => a == b
  | .str a, .str b => a == b
  | _, _ => false
def inU (x : U) (us : List U) : Bool := us.any fun y => eqF y x
theorem flat_ok {m : List Addr} {H : Hp} {x : U} {v : V} (ix : Is K m H v x) (h : flatU x = true) : flatV v = true := by
  cases x with
  | non => rw [ix.of_non]; rfl
  | bl b => rw [ix.of_bl]; rfl
  | int i => rw [ix.of_int]; rfl
  | str i => rw [ix.of_str]; rfl
  | tup us => cases h
  | ref l => cases h
theorem eqF_ok {m : List Addr} {H : Hp} {x y : U} {v w : V} (ix : Is K m H v x) (iy : Is K m H w y) (hx : flatU x = true) (hy : flatU y = true) : eqV v w = eqF x y := by
  cases x <;> (first | cases hx | skip) <;> cases y <;> (first | cases hy | skip)
  all_goals
    (first | (have e1 := ix.of_int) | (have e1 := ix.of_bl) | (have e1 := ix.of_str) | (have e1 := ix.of_non))
    (first | (have e2 := iy.of_int) | (have e2 := iy.of_bl) | (have e2 := iy.of_str) | (have e2 := iy.of_non))
    subst e1 e2
    rfl
theorem flats_ok {m : List Addr} {H : Hp} : ∀ {xs : List V} {us : List U}, IsL K m H xs us → us.all flatU = true → xs.all flatV = true
  | xs, [], h, _ => by rw [h.of_nil]; rfl
  | xs, u :: us, h, k => by
    obtain ⟨x, r, rfl, i, t⟩ := h.of_cons
    rw [List.all_cons, Bool.and_eq_true] at k ⊢
    exact ⟨flat_ok i k.1, flats_ok t k.2⟩
theorem inU_ok {m : List Addr} {H : Hp} {x : U} {v : V} (ix : Is K m H v x) (hx : flatU x = true) : ∀ {xs : List V} {us : List U}, IsL K m H xs us → us.all flatU = true → inV v xs = inU x us
  | xs, [], h, _ => by rw [h.of_nil]; rfl
  | xs, u :: us, h, k => by
    obtain ⟨y, r, rfl, i, t⟩ := h.of_cons
    rw [List.all_cons, Bool.and_eq_true] at k
    have ih := inU_ok ix hx t k.2
    unfold inV inU at ih ⊢
    rw [List.any_cons, List.any_cons, ih, eqF_ok i ix k.1 hx]
theorem _root_.L2.DGet.kz {H : Hp} {a : Addr} {ob : Obj} {kvs : List (Key × V)} {k : Key} (e : H a = some (.frz ob (.dK kvs))) : DGet H a (kV k) (valV kvs k) := .inl ⟨kvs, k, .inr ⟨ob, e⟩, rfl, rfl⟩
def fIn (neg : Bool) : U → U → Sto → Option (U × Sto) := fun x y S => match y with
  | .tup us => if flatU x = true ∧ us.all flatU = true then some (.bl (if neg then !inU x us else inU x us), S) else none
  | .ref l => match S[l]? with
    | some (.lst us) => if flatU x = true ∧ us.all flatU = true then some (.bl (if neg then !inU x us else inU x us), S) else none
    | some (.dic kus) => (keyU x).bind fun k => some (.bl (if neg then !(valG kus k).isSome else (valG kus k).isSome), S)
    | some (.fdc ep kus) => (keyU x).bind fun k => some (.bl (if neg then !(valG kus k).isSome else (valG kus k).isSome), S)
    | _ => none
  | _ => none
theorem Rf.isSome {m : List Addr} {H : Hp} {v : Option V} {u : Option U} (h : Rf K m H v u) : v.isSome = u.isSome := by
  cases v <;> cases u <;> first | rfl | exact h.elim
theorem in_imp {ca cb : CE} {neg : Bool} (t2 : TE → TE → TE) (h2 : ∀ ta tb σ H Q, (ta σ H fun y H1 => tb σ H1 fun x H2 => ∃ a o, x = .ref a ∧ DGet H2 a y o ∧ Q (.bl (if neg then !o.isSome else o.isSome)) H2) → t2 ta tb σ H Q) : ∀ σ H Q, tE K (cOp (fIn neg) ca cb) σ H Q → tOp (rIn K neg) (tE K ca) (tE K cb) σ H Q ∨ t2 (tE K ca) (tE K cb) σ H Q := by
  rintro σ H Q ⟨m, ρ, S, u, S', sr, lr, hc, post⟩
  obtain ⟨⟨x, S1⟩, h1, h⟩ := Option.bind_eq_some_iff.mp hc
  obtain ⟨⟨y, S2⟩, h3, h4⟩ := Option.bind_eq_some_iff.mp h
  cases y with
  | tup us =>
    simp only [fIn] at h4
    split at h4 <;> try cases h4
    rename_i hf
    refine .inl ⟨m, ρ, S, x, S1, sr, lr, h1, fun m1 v1 H1 e1 sr1 i1 => ⟨m1, ρ, S1, .tup us, S', sr1, lr.mono e1, h3, fun m2 v2 H2 e2 sr2 i2 => ?_⟩⟩
    obtain ⟨a, xs, rfl, sa, la⟩ := i2.of_tup
    refine ⟨a, xs, rfl, .inr sa, flat_ok (i1.mono e2) hf.1, flats_ok la hf.2, ?_⟩
    rw [inU_ok (i1.mono e2) hf.1 la hf.2]
    exact post m2 _ H2 (e1.trans e2) sr2 .bl_
  | ref l =>
    simp only [fIn] at h4
    split at h4 <;> try cases h4
    · rename_i us hS
      split at h4 <;> try cases h4
      rename_i hf
      refine .inl ⟨m, ρ, S, x, S1, sr, lr, h1, fun m1 v1 H1 e1 sr1 i1 => ⟨m1, ρ, S1, .ref l, S', sr1, lr.mono e1, h3, fun m2 v2 H2 e2 sr2 i2 => ?_⟩⟩
      obtain ⟨a, ha, rfl⟩ := i2.of_ref
      obtain ⟨a', ha', xs, hx, la⟩ := sr2.get hS
      rw [ha] at ha'; cases ha'
      refine ⟨a, xs, rfl, .inl (SqL.of hx), flat_ok (i1.mono e2) hf.1, flats_ok la hf.2, ?_⟩
      rw [inU_ok (i1.mono e2) hf.1 la hf.2]
      exact post m2 _ H2 (e1.trans e2) sr2 .bl_
    · rename_i kus hS
      obtain ⟨k, hk, h5⟩ := Option.bind_eq_some_iff.mp h4
      cases h5
      refine .inr (h2 _ _ _ _ _ ⟨m, ρ, S, x, S1, sr, lr, h1, fun m1 v1 H1 e1 sr1 i1 => ⟨m1, ρ, S1, .ref l, S', sr1, lr.mono e1, h3, fun m2 v2 H2 e2 sr2 i2 => ?_⟩⟩)
      obtain ⟨a, ha, rfl⟩ := i2.of_ref
      obtain ⟨a', ha', kvs, hx, ip⟩ := sr2.get hS
      rw [ha] at ha'; cases ha'
      have ek := keyU_ok (i1.mono e2) hk
      subst ek
      refine ⟨a, _, rfl, DGet.k hx, ?_⟩
      rw [(IsP.val ip).isSome]
      exact post m2 _ H2 (e1.trans e2) sr2 .bl_
    · rename_i ep kus hS
      obtain ⟨k, hk, h5⟩ := Option.bind_eq_some_iff.mp h4
      cases h5
      refine .inr (h2 _ _ _ _ _ ⟨m, ρ, S, x, S1, sr, lr, h1, fun m1 v1 H1 e1 sr1 i1 => ⟨m1, ρ, S1, .ref l, S', sr1, lr.mono e1, h3, fun m2 v2 H2 e2 sr2 i2 => ?_⟩⟩)
      obtain ⟨a, ha, rfl⟩ := i2.of_ref
      obtain ⟨a', ha', ob, es, kvs, hx, hd, ip⟩ := sr2.get hS
      rw [ha] at ha'; cases ha'
      have ek := keyU_ok (i1.mono e2) hk
      subst ek
      refine ⟨a, _, rfl, DGet.kz hx, ?_⟩
      rw [(IsP.val ip).isSome]
      exact post m2 _ H2 (e1.trans e2) sr2 .bl_
  | _ => simp [fIn] at h4
variable {e a b c : Expr} {ca cb cc : CE} {pos : Pos}
theorem q_tin (hu : X.A.units + 1 < cLine) (ha : QE X a ca) (hb : QE X b cb) (hm : behindInMarks .In b = false) : QT X (.Compare a [.In] [b] pos) (cTest (cOp (fIn false) ca cb)) :=
  ((wpt_cmpR op_in_seq ha hb hm).or (wpt_cmp (wpc_din hu ha hb) hm)).imp (test_imp (in_imp (neg := false) tDIn fun _ _ _ _ _ h => h))
theorem q_notin (hu : X.A.units + 1 < cLine) (ha : QE X a ca) (hb : QE X b cb) (hm : behindInMarks .NotIn b = false) : QE X (.Compare a [.NotIn] [b] pos) (cOp (fIn true) ca cb) :=
  ((wpe_cmpR op_notIn_seq ha hb hm).or (wpe_cmp (wpc_dnotin hu ha hb) hm)).imp (in_imp (neg := true) tDNotIn fun _ _ _ _ _ h => h)
theorem q_tnotin (hu : X.A.units + 1 < cLine) (ha : QE X a ca) (hb : QE X b cb) (hm : behindInMarks .NotIn b = false) : QT X (.Compare a [.NotIn] [b] pos) (cTest (cOp (fIn true) ca cb)) :=
  ((wpt_cmpR op_notIn_seq ha hb hm).or (wpt_cmp (wpc_dnotin hu ha hb) hm)).imp (test_imp (in_imp (neg := true) tDNotIn fun _ _ _ _ _ h => h))
def fIx : U → U → Sto → Option (U × Sto) := fun x y S => match x with
  | .tup us => match y with
    | .int i => (atI us i).bind fun u => some (u, S)
    | _ => none
  | .ref l => match S[l]? with
    | some (.lst us) => (match y with
      | .int i => (atI us i).bind fun u => some (u, S)
      | _ => none)
    | some (.dic kus) => (keyU y).bind fun k => (valG kus k).bind fun u => some (u, S)
    | some (.fdc ep kus) => (keyU y).bind fun k => (valG kus k).bind fun u => some (u, S)
    | _ => none
  | _ => none
theorem atI_ok {m : List Addr} {H : Hp} {xs : List V} {us : List U} {i : Int} {u : U} (l : IsL K m H xs us) (h : atI us i = some u) : ∃ v, atI xs i = some v ∧ Is K m H v u := by
  unfold atI at h ⊢
  rw [l.length]
  obtain ⟨j, e1, e2⟩ := Option.bind_eq_some_iff.mp h
  rw [e1]
  obtain ⟨v, e3, e4⟩ := l.getD e2
  exact ⟨v, e3, e4⟩
theorem q_ix (hu : X.A.units + 1 < cLine) (ha : QE X a ca) (hb : QE X b cb) (hs : PlainIx b) (hs2 : NoSl b) : QE X (.Subscript a b pos) (cOp fIx ca cb) :=
  ((wpe_ix (ix_list.or ix_tup) ha hb hs).or (wpe_dget hu ha hb hs2)).imp fun σ H Q ⟨m, ρ, S, u, S', sr, lr, hc, post⟩ => by
  obtain ⟨⟨x, S1⟩, h1, h⟩ := Option.bind_eq_some_iff.mp hc
  obtain ⟨⟨y, S2⟩, h3, h4⟩ := Option.bind_eq_some_iff.mp h
  cases x with
  | tup us =>
    simp only [fIx] at h4
    split at h4 <;> try cases h4
    rename_i i
    obtain ⟨w, hw, h5⟩ := Option.bind_eq_some_iff.mp h4
    cases h5
    refine .inl ⟨m, ρ, S, _, S1, sr, lr, h1, fun m1 v1 H1 e1 sr1 i1 => ⟨m1, ρ, S1, _, S', sr1, lr.mono e1, h3, fun m2 v2 H2 e2 sr2 i2 => .inr ?_⟩⟩
    obtain ⟨a, xs, rfl, sa, la⟩ := (i1.mono e2).of_tup
    obtain ⟨z, ez, iz⟩ := atI_ok la hw
    exact ⟨a, xs, i, z, rfl, i2.of_int, sa, ez, post m2 _ H2 (e1.trans e2) sr2 iz⟩
  | ref l =>
    simp only [fIx] at h4
    split at h4 <;> try cases h4
    · rename_i us hS
      split at h4 <;> try cases h4
      rename_i i
      obtain ⟨w, hw, h5⟩ := Option.bind_eq_some_iff.mp h4
      cases h5
      refine .inl ⟨m, ρ, S, _, S1, sr, lr, h1, fun m1 v1 H1 e1 sr1 i1 => ⟨m1, ρ, S1, _, S', sr1, lr.mono e1, h3, fun m2 v2 H2 e2 sr2 i2 => .inl ?_⟩⟩
      obtain ⟨a, ha, rfl⟩ := (i1.mono e2).of_ref
      obtain ⟨a', ha', xs, hx, la⟩ := sr2.get hS
      rw [ha] at ha'; cases ha'
      obtain ⟨z, ez, iz⟩ := atI_ok la hw
      exact ⟨a, xs, i, z, rfl, i2.of_int, SqL.of hx, ez, post m2 _ H2 (e1.trans e2) sr2 iz⟩
    · rename_i kus hS
      obtain ⟨k, hk, h5⟩ := Option.bind_eq_some_iff.mp h4
      obtain ⟨w, hw, h6⟩ := Option.bind_eq_some_iff.mp h5
      cases h6
      refine .inr ⟨m, ρ, S, _, S1, sr, lr, h1, fun m1 v1 H1 e1 sr1 i1 => ⟨m1, ρ, S1, _, S', sr1, lr.mono e1, h3, fun m2 v2 H2 e2 sr2 i2 => ?_⟩⟩
      obtain ⟨a, ha, rfl⟩ := (i1.mono e2).of_ref
      obtain ⟨a', ha', kvs, hx, ip⟩ := sr2.get hS
      rw [ha] at ha'; cases ha'
      have ek := keyU_ok i2 hk
      subst ek
      have rf := IsP.val (k := k) ip
      rw [hw] at rf
      cases hv : valV kvs k with
      | none => rw [hv] at rf; exact rf.elim
      | some z =>
        rw [hv] at rf
        exact ⟨a, z, rfl, by have := DGet.k (k := k) hx; rw [hv] at this; exact this, post m2 _ H2 (e1.trans e2) sr2 rf⟩
    · rename_i ep kus hS
      obtain ⟨k, hk, h5⟩ := Option.bind_eq_some_iff.mp h4
      obtain ⟨w, hw, h6⟩ := Option.bind_eq_some_iff.mp h5
      cases h6
      refine .inr ⟨m, ρ, S, _, S1, sr, lr, h1, fun m1 v1 H1 e1 sr1 i1 => ⟨m1, ρ, S1, _, S', sr1, lr.mono e1, h3, fun m2 v2 H2 e2 sr2 i2 => ?_⟩⟩
      obtain ⟨a, ha, rfl⟩ := (i1.mono e2).of_ref
      obtain ⟨a', ha', ob, es, kvs, hx, hd, ip⟩ := sr2.get hS
      rw [ha] at ha'; cases ha'
      have ek := keyU_ok i2 hk
      subst ek
      have rf := IsP.val (k := k) ip
      rw [hw] at rf
      cases hv : valV kvs k with
      | none => rw [hv] at rf; exact rf.elim
      | some z =>
        rw [hv] at rf
        exact ⟨a, z, rfl, by have := DGet.kz (k := k) hx; rw [hv] at this; exact this, post m2 _ H2 (e1.trans e2) sr2 rf⟩
  | _ => simp [fIx] at h4
def fSetIx : U → U → U → Sto → Option Sto := fun o i v S => match o with
  | .ref l => match S[l]? with
    | some (.lst us) => (match i with
      | .int k => (ixN us.length k).bind fun j => some (S.set l (.lst (us.set j v)))
      | _ => none)
    | some (.dic kus) => (keyU i).bind fun k => if kus.length < LIM then some (S.set l (.dic (putG kus k v))) else none
    | _ => none
  | _ => none
def cSetIx (co ci cv : CE) : CS := fun ρ S => (cv ρ S).bind fun p => (co ρ p.2).bind fun q => (ci ρ q.2).bind fun r => (fSetIx q.1 r.1 p.1 r.2).bind fun S' => some (.nx, ρ, S')
theorem qs_setIx {o i : Expr} {co ci cv : CE} {pos' : Pos} (hu : X.A.units + 1 < cLine) (ho : QE X o co) (hi : QE X i ci) (hv : QE X e cv)
    (hs0 : swapsWithSole [.Subscript o i pos'] e pos.line X.env = pure false := by rfl) (hw : swappedStores [.Subscript o i pos'] e X.env = pure none := by rfl)
    (h1 : (assignEach [.Subscript o i pos'] X.env).map (·.2) = [assign (.Subscript o i pos') X.env] := by rfl)
    (hs : swapsWith e (some (.Subscript o i pos')) pos.line X.env = pure false := by rfl)
    (ha : ∀ v, assign (.Subscript o i pos') X.env v = (do
      let ov ← holding [v] (eval o X.env)
      let iv ← holding [v, ov] (eval i X.env)
      standAt pos'
      holding [v, ov, iv] (setItem ov iv v)
      release [v, ov, iv] []) := by intro _; rfl) : QS X (.Assign [.Subscript o i pos'] e pos) (cSetIx co ci cv) :=
  ((wps_asg hv (wpg_sub ho hi set_list ha) hs0 hw h1).or (wps_dput hu ho hi hv hs)).imp fun D σ H ⟨m, ρ, S, o, ρ', S', sr, lr, hc, post⟩ => by
  obtain ⟨⟨v, S1⟩, h1, h⟩ := Option.bind_eq_some_iff.mp hc
  obtain ⟨⟨ou, S2⟩, h2, h⟩ := Option.bind_eq_some_iff.mp h
  obtain ⟨⟨iu, S3⟩, h3, h⟩ := Option.bind_eq_some_iff.mp h
  obtain ⟨S4, h4, h⟩ := Option.bind_eq_some_iff.mp h
  cases h
  cases ou with
  | ref l =>
    simp only [fSetIx] at h4
    split at h4 <;> try cases h4
    · rename_i us hS
      split at h4 <;> try cases h4
      rename_i k
      obtain ⟨j, hj, h5⟩ := Option.bind_eq_some_iff.mp h4
      cases h5
      refine .inl ⟨m, ρ, S, v, S1, sr, lr, h1, fun m1 v1 H1 e1 sr1 i1 => ⟨m1, ρ, S1, _, S2, sr1, lr.mono e1, h2, fun m2 v2 H2 e2 sr2 i2 => ⟨m2, ρ, S2, _, S3, sr2, lr.mono (e1.trans e2), h3, fun m3 v3 H3 e3 sr3 i3 => ?_⟩⟩⟩
      obtain ⟨a, ha, rfl⟩ := (i2.mono e3).of_ref
      obtain ⟨a', ha', xs, hx, la⟩ := sr3.get hS
      rw [ha] at ha'; cases ha'
      have e13 := (e1.trans e2).trans e3
      have ek : Ext X.K m3 H3 m3 (upd H3 a (.lst (xs.set j v1))) := .of (sr3.keep ha _)
      refine ⟨a, xs, k, j, rfl, i3.of_int, hx, by rw [la.length]; exact hj, post m3 σ _ (e13.trans ek) (sr3.put ha ⟨_, upd_same, ((la.set (i1.mono (e2.trans e3)))).mono ek⟩) (lr.mono (e13.trans ek))⟩
    · rename_i kus hS
      obtain ⟨k, hk, h5⟩ := Option.bind_eq_some_iff.mp h4
      split at h5 <;> try cases h5
      have hlen : kus.length < LIM := by assumption
      refine .inr ⟨m, ρ, S, v, S1, sr, lr, h1, fun m1 v1 H1 e1 sr1 i1 => ⟨m1, ρ, S1, _, S2, sr1, lr.mono e1, h2, fun m2 v2 H2 e2 sr2 i2 => ⟨m2, ρ, S2, _, S3, sr2, lr.mono (e1.trans e2), h3, fun m3 v3 H3 e3 sr3 i3 => ?_⟩⟩⟩
      obtain ⟨a, ha, rfl⟩ := (i2.mono e3).of_ref
      obtain ⟨a', ha', kvs, hx, ip⟩ := sr3.get hS
      rw [ha] at ha'; cases ha'
      have ek := keyU_ok i3 hk
      subst ek
      have e13 := (e1.trans e2).trans e3
      have ee : Ext X.K m3 H3 m3 (upd H3 a (.dK (putK kvs k v1))) := .of (sr3.keep ha _)
      exact ⟨a, _, rfl, DPut.k hx (lim1 (by rw [IsP.length ip]; exact hlen)), post m3 σ _ (e13.trans ee) (sr3.put ha ⟨_, upd_same, (IsP.put ip (i1.mono (e2.trans e3))).mono ee⟩) (lr.mono (e13.trans ee))⟩
  | _ => simp [fSetIx] at h4
end
end OP
set_option maxHeartbeats 1000000
namespace OP
open PySem PySem.Spec PyProof.Rows L2 OG
theorem nodup_sub_len {α : Type} [DecidableEq α] : ∀ {l l' : List α}, l.Nodup → (∀ x ∈ l, x ∈ l') → l.length ≤ l'.length
  | [], _, _, _ => Nat.zero_le _
  | x :: r, l', nd, s => by
    obtain ⟨h1, h2⟩ := List.nodup_cons.mp nd
    have hx := s x List.mem_cons_self
    have := nodup_sub_len (l := r) (l' := l'.erase x) h2 fun y hy => (List.mem_erase_of_ne (fun z => h1 (by rw [← z]; exact hy))).mpr (s y (List.mem_cons_of_mem _ hy))
    rw [List.length_erase_of_mem hx] at this
    have hp := List.length_pos_of_mem hx
    rw [List.length_cons]
    omega
theorem keys_putF (f : Str) (v : V) : ∀ fs : List (Str × V), (putF f v fs).map (·.1) = if f ∈ fs.map (·.1) then fs.map (·.1) else fs.map (·.1) ++ [f]
  | [] => by simp [putF]
  | (g, x) :: r => by
    unfold putF
    by_cases e : g = f
    · simp [e]
    · have ih := keys_putF f v r
      rw [if_neg e, List.map_cons, List.map_cons, ih]
      by_cases c : f ∈ r.map (·.1)
      · rw [if_pos c, if_pos (List.mem_cons_of_mem _ c)]
      · rw [if_neg c, if_neg (fun z => by rcases List.mem_cons.mp z with z | z; exact e z.symm; exact c z)]
        rfl
section
variable {X : Cx} {K : PySem.W.Frag} {m : List Addr} {H : Hp} {c : Cl} {fs : List (Str × V)} {fus : List (Option U)}
theorem InF.room (h : InF K m H c fs fus) : fs.length < 1000 := by
  have := nodup_sub_len h.knd h.sub
  rw [List.length_map] at this
  have := h.few
  omega
theorem lookup_none {f : Str} : ∀ {fs : List (Str × V)}, f ∉ fs.map (·.1) → fs.lookup f = none
  | [], _ => rfl
  | (g, x) :: r, h => by
    rw [List.lookup_cons]
    have h1 : (f == g) = false := by
      apply beq_eq_false_iff_ne.mpr
      intro z; exact h (by rw [z]; exact List.mem_cons_self)
    rw [h1]
    exact lookup_none fun z => h (List.mem_cons_of_mem _ z)
theorem InF.none_ {f : Str} (h : InF K m H c fs fus) (hf : f ∉ c.ns) : fs.lookup f = none := lookup_none fun z => hf (h.sub f z)
theorem InF.put {f : Str} {i : Nat} {v : V} {u : U} (h : InF K m H c fs fus) (hi : c.ns[i]? = some f) (hv : Is K m H v u) : InF K m H c (putF f v fs) (fus.set i (some u)) := by
  have hfm : f ∈ c.ns := List.mem_of_getElem? hi
  refine ⟨h.nd, h.few, ?_, fun x hx => ?_, by simp [h.len], fun j x hj => ?_⟩
  · rw [keys_putF]
    split
    · exact h.knd
    · rename_i hn
      rw [List.nodup_append]
      exact ⟨h.knd, by simp, fun a ha b hb z => by simp at hb; subst hb; subst z; exact hn ha⟩
  · rw [keys_putF] at hx
    split at hx
    · exact h.sub x hx
    · rcases List.mem_append.mp hx with z | z
      · exact h.sub x z
      · simp at z; subst z; exact hfm
  · rw [lookup_putF]
    by_cases e : i = j
    · subst e
      rw [hi] at hj; cases hj
      rw [if_pos rfl]
      have : i < fus.length := by rw [h.len]; exact (List.getElem?_eq_some_iff.mp hi).1
      rw [List.getElem?_set_self this]
      exact hv
    · have ne : x ≠ f := fun z => by
        subst z
        obtain ⟨p1, e1⟩ := List.getElem?_eq_some_iff.mp hi
        obtain ⟨p2, e2⟩ := List.getElem?_eq_some_iff.mp hj
        exact e ((List.getElem_inj h.nd).mp (e1.trans e2.symm))
      rw [if_neg ne, List.getElem?_set_ne e]
      exact h.at_ j x hj
theorem InF.new (nd : c.ns.Nodup) (few : c.ns.length < 1000) : InF K m H c [] (List.replicate c.ns.length none) := by
  refine ⟨nd, few, by simp, fun x hx => by simp at hx, by simp, fun i x hi => ?_⟩
  rw [List.getElem?_replicate]
  split <;> exact trivial
open Classical in
noncomputable def fFld (c : Cl) (i : Nat) (x : U) (S : Sto) : Option (U × Sto) := match x with
  | .ref l => match S[l]? with
    | some (.ins c' fus) => if c' = c then (fus[i]?).join.bind fun u => some (u, S) else none
    | _ => none
  | _ => none
noncomputable def cFld (c : Cl) (i : Nat) (ca : CE) : CE := fun ρ S => (ca ρ S).bind fun p => fFld c i p.1 p.2
open Classical in
noncomputable def fSetF (c : Cl) (i : Nat) (x v : U) (S : Sto) : Option Sto := match x with
  | .ref l => match S[l]? with
    | some (.ins c' fus) => if c' = c then some (S.set l (.ins c (fus.set i (some v)))) else none
    | _ => none
  | _ => none
noncomputable def cSetF (c : Cl) (i : Nat) (ca cv : CE) : CS := fun ρ S => (cv ρ S).bind fun p => (ca ρ p.2).bind fun q => (fSetF c i q.1 p.1 q.2).bind fun S' => some (.nx, ρ, S')
variable {e : Expr} {ca cv : CE} {pos : Pos} {f : Str} {i : Nat}
theorem q_fld (hcl : Cls X.K c.C) (hna : NoAttr X.K c.C f) (hi : c.ns[i]? = some f) (h : QE X e ca) (hb : attributeBase e f X.env (eval e X.env) = eval e X.env := by rfl) : QE X (.Attribute e f pos) (cFld c i ca) := (wpe_fld h hb).imp fun σ H Q ⟨m, ρ, S, u, S', sr, lr, hc, post⟩ => by
  obtain ⟨⟨x, S1⟩, h1, h2⟩ := Option.bind_eq_some_iff.mp hc
  refine ⟨m, ρ, S, x, S1, sr, lr, h1, fun m1 v1 H1 e1 sr1 i1 => ?_⟩
  cases x with
  | ref l =>
    simp only [fFld] at h2
    split at h2 <;> try cases h2
    rename_i c' fus hS
    split at h2 <;> try cases h2
    rename_i hc'
    subst hc'
    obtain ⟨w, hw, h3⟩ := Option.bind_eq_some_iff.mp h2
    cases h3
    obtain ⟨a, ha, rfl⟩ := i1.of_ref
    obtain ⟨a', ha', dx, fs, hx, inf⟩ := sr1.get hS
    rw [ha] at ha'; cases ha'
    have rf := inf.at_ i f hi
    rw [hw] at rf
    cases hv : fs.lookup f with
    | none => rw [hv] at rf; exact rf.elim
    | some z =>
      rw [hv] at rf
      exact ⟨a, _, dx, fs, z, rfl, hx, hcl, hna, hv, post m1 _ H1 e1 sr1 rf⟩
  | _ => simp [fFld] at h2
theorem qs_setF {o : Expr} {co : CE} {pos' : Pos} (hcl : Cls X.K c.C) (hna : NoAttr X.K c.C f) (hi : c.ns[i]? = some f) (ho : QE X o co) (hv : QE X e cv) (hs : swapsWith e (some (.Attribute o f pos')) pos.line X.env = pure false := by rfl) : QS X (.Assign [.Attribute o f pos'] e pos) (cSetF c i co cv) := (wps_fld ho hv hs).imp fun D σ H ⟨m, ρ, S, o, ρ', S', sr, lr, hc, post⟩ => by
  obtain ⟨⟨v, S1⟩, h1, h⟩ := Option.bind_eq_some_iff.mp hc
  obtain ⟨⟨x, S2⟩, h2, h⟩ := Option.bind_eq_some_iff.mp h
  obtain ⟨S3, h3, h⟩ := Option.bind_eq_some_iff.mp h
  cases h
  refine ⟨m, ρ, S, v, S1, sr, lr, h1, fun m1 v1 H1 e1 sr1 i1 => ⟨m1, ρ, S1, x, S2, sr1, lr.mono e1, h2, fun m2 v2 H2 e2 sr2 i2 => ?_⟩⟩
  cases x with
  | ref l =>
    simp only [fSetF] at h3
    split at h3 <;> try cases h3
    rename_i c' fus hS
    split at h3 <;> try cases h3
    have hc' : c' = c := by assumption
    subst hc'
    obtain ⟨a, ha, rfl⟩ := i2.of_ref
    obtain ⟨a', ha', dx, fs, hx, inf⟩ := sr2.get hS
    rw [ha] at ha'; cases ha'
    have ee : Ext X.K m2 H2 m2 (upd H2 a (.ins c'.C dx (putF f v1 fs))) := .of (sr2.keep ha _)
    have e12 := e1.trans e2
    exact ⟨a, _, dx, fs, rfl, hx, hcl, hna, inf.room, post m2 σ _ (e12.trans ee) (sr2.put ha ⟨dx, _, upd_same, (inf.put hi (i1.mono e2)).mono ee⟩) (lr.mono (e12.trans ee))⟩
  | _ => simp [fSetF] at h3
structure MHas (P : Program) (w : World) (K : PySem.W.Frag) (mg : Str → Option Value) (base : Heap) (c : Cl) (mn : Str) (k : Nat) (ps : List Str) (f : Fn) : Prop where
  ex : ∃ fa fd, Meth K c.C mn fa ∧ FnOk P w K mg base CX0 k fa fd ps (spOf K f) ∧ Binds K fd ps []
open Classical in
noncomputable def fMeth (c : Cl) (f : Fn) (x : U) (S : Sto) (args : Sto → Option (List U × Sto)) : Option (U × Sto) := match x with
  | .ref l => match S[l]? with
    | some (.ins c' _) => if c' = c then (args S).bind fun q => f (.ref l :: q.1) q.2 else none
    | _ => none
  | _ => none
noncomputable def cMeth (c : Cl) (f : Fn) (ca : CE) (cr : CA) : CE := fun ρ S => (ca ρ S).bind fun p => fMeth c f p.1 p.2 (cr ρ)
theorem meth_imp {mn : Str} {g : Fn} {co : CE} {cr : CA} (hmn : mn ∉ c.ns) : ∀ σ H Q, tE K (cMeth c g co cr) σ H Q → tMeth c.C mn (spOf K g) [] E0 (tE K co) (tA K cr) σ H Q := by
  rintro σ H Q ⟨m, ρ, S, u, S', sr, lr, hc, post⟩
  obtain ⟨⟨x, S1⟩, h1, h2⟩ := Option.bind_eq_some_iff.mp hc
  refine ⟨m, ρ, S, x, S1, sr, lr, h1, fun m1 v1 H1 e1 sr1 i1 => ?_⟩
  cases x with
  | ref l =>
    simp only [fMeth] at h2
    split at h2 <;> try cases h2
    rename_i c' fus hS
    split at h2 <;> try cases h2
    rename_i hc'
    subst hc'
    obtain ⟨⟨us, S2⟩, h3, h4⟩ := Option.bind_eq_some_iff.mp h2
    obtain ⟨a, ha, rfl⟩ := i1.of_ref
    obtain ⟨a', ha', dx, fs, hx, inf⟩ := sr1.get hS
    rw [ha] at ha'; cases ha'
    refine ⟨a, dx, fs, rfl, hx, inf.none_ hmn, m1, ρ, S1, us, S2, sr1, lr.mono e1, h3, fun m2 vs H2 e2 sr2 i2 => ?_⟩
    exact ⟨m2, _, S2, u, S', .cons_ (i1.mono e2) (by simpa using i2), sr2, h4, post.mono (e1.trans e2)⟩
  | _ => simp [fMeth] at h2
theorem q_meth {mn : Str} {g : Fn} {k : Nat} {ps : List Str} {o : Expr} {es : List Expr} {co : CE} {cr : CA} {apos : Pos} {pl : Sem Bool} (hcl : Cls X.K c.C) (F : MHas X.prog X.w X.K X.mg X.base c mn k ps g) (hr : Room k X.A) (hmn : mn ∉ c.ns) (ho : QE X o co) (ha : QA X (e :: es) cr)
    (hst : starEach (e :: es) X.env = (false, eval e X.env) :: starEach es X.env := by rfl) (hpl : (backTo pos (starEach es X.env)).any (·.1) = false := by rfl) (ht : eval (.Call (.Attribute o mn apos) (e :: es) [] pos) X.env = (do
      let ov ← eval o X.env
      standAt apos.atName
      let (f, first) ← holding [ov] (getMethod ov mn pl)
      callWith pos f first (backTo pos (starEach (e :: es) X.env)) (backToKw pos (keywordEach [] X.env))) := by rfl) : QE X (.Call (.Attribute o mn apos) (e :: es) [] pos) (cMeth c g co cr) := by
  obtain ⟨fa, fd, hm, F, hb⟩ := F.ex
  exact (wpe_meth ho hcl hm F hr hb .nil pass0 ha.h hst hpl ht).imp (meth_imp hmn)
structure CMk (P : Program) (w : World) (K : PySem.W.Frag) (mg : Str → Option Value) (base : Heap) (c : Cl) (x : Str) (k : Nat) (ps : List Str) (f : Fn) : Prop where
  ex : ∃ fa fd, Mk K c.C fa ∧ FnOk P w K mg base CX0 k fa fd ps (spOf K f) ∧ Binds K fd ps [] ∧ mg x = some (.ref c.C)
  nd : c.ns.Nodup
  few : c.ns.length < 1000
def fMake (c : Cl) (f : Fn) : Fn := fun us S => (f (.ref S.length :: us) (S ++ [.ins c (List.replicate c.ns.length none)])).bind fun p => match p.1 with
  | .non => some (.ref S.length, p.2)
  | _ => none
theorem make_imp {g : Fn} {cr : CA} (nd : c.ns.Nodup) (few : c.ns.length < 1000) : ∀ σ H Q, tE K (cCB (fMake c g) cr) σ H Q → tMake c.C (spOf K g) [] E0 (tA K cr) σ H Q := by
  rintro σ H Q ⟨m, ρ, S, u, S', sr, lr, hc, post⟩
  obtain ⟨⟨us, S1⟩, h1, h2⟩ := Option.bind_eq_some_iff.mp hc
  obtain ⟨⟨w, S2⟩, h3, h4⟩ := Option.bind_eq_some_iff.mp h2
  refine ⟨m, ρ, S, us, S1, sr, lr, h1, fun m1 vs H1 e1 sr1 i1 x dx hx hdx ne => ?_⟩
  cases w with
  | non =>
    cases h4
    have s1 : Same H1 (upd H1 dx (.own x)) := same_new hdx _
    have hx2 : (upd H1 dx (.own x)) x = none := by rw [upd_ne (Ne.symm ne)]; exact hx
    have ee : Ext K m1 H1 (m1 ++ [x]) (upd (upd H1 dx (.own x)) x (.ins c.C dx [])) := .new fun b xs q => keep_new hx2 _ b xs (keep_same s1 b xs q)
    refine ⟨m1 ++ [x], .ref S1.length :: us, S1 ++ [.ins c (List.replicate c.ns.length none)], .non, S2, .cons_ (.ref_ (last_get sr1.len)) (by simpa using i1.mono ee), (sr1.same s1).new (o := .ins c (List.replicate c.ns.length none)) hx2 ⟨dx, [], upd_same, InF.new nd few⟩, h3, fun m2 v2 H2 e2 sr2 i2 => ⟨i2.of_non, ?_⟩⟩
    exact post m2 _ H2 ((e1.trans ee).trans e2) sr2 (.ref_ (e2.get (last_get sr1.len)))
  | _ => simp at h4
theorem q_make0 {x : Str} {g : Fn} {k : Nat} {ps : List Str} {p : Pos} (M : CMk X.prog X.w X.K X.mg X.base c x k ps g) (hr : Room (k + 1) X.A) (hg : Gl X x)
    (hdb : (x == ("__debug__" : Str)) = false := by decide) : QE X (.Call (.Name x p) [] [] pos) (cCB (fMake c g) cNil) := by
  obtain ⟨fa, fd, hm, F, hb, hx⟩ := M.ex
  refine (wpe_make0 hm F hr hg hx hb .nil pass0 hdb).imp fun σ H Q h => ?_
  obtain ⟨m, ρ, S, us, S', sr, lr, hc, k⟩ := make_imp M.nd M.few σ H Q h
  cases hc
  exact k m [] H .refl sr .nil_
def cDNew : CE := fun _ S => some (.ref S.length, S ++ [.dic []])
theorem q_dnew : QE X (.Dict [] [] pos) cDNew := wpe_dnewK.imp fun σ H Q ⟨m, ρ, S, u, S', sr, lr, hc, post⟩ => by
  cases hc
  exact fun p hp => post (m ++ [p]) _ _ (.new (keep_new hp _)) (sr.new hp ⟨[], upd_same, .nil_⟩) (.ref_ (last_get sr.len))
def cDGet (cd ck cx : CE) : CE := fun ρ S => (cd ρ S).bind fun p => match p.1 with
  | .ref l => match p.2[l]? with
    | some (.dic _) => (ck ρ p.2).bind fun q => (cx ρ q.2).bind fun r => match r.2[l]? with
      | some (.dic kus) => (keyU q.1).bind fun k => some ((valG kus k).getD r.1, r.2)
      | _ => none
    | _ => none
  | _ => none
theorem q_dget {o e f : Expr} {cd ck cx : CE} {apos : Pos} (hu : X.A.units + 1 < cLine) (ho : QE X o cd) (he : QE X e ck) (hf : QE X f cx) (hm : M2 X o "get" apos e f pos) : QE X (.Call (.Attribute o "get" apos) [e, f] [] pos) (cDGet cd ck cx) := (wpe_dget2 hu ho he hf hm).imp fun σ H Q ⟨m, ρ, S, u, S', sr, lr, hc, post⟩ => by
  obtain ⟨⟨x, S1⟩, h1, h⟩ := Option.bind_eq_some_iff.mp hc
  refine ⟨m, ρ, S, x, S1, sr, lr, h1, fun m1 v1 H1 e1 sr1 i1 => ?_⟩
  cases x with
  | ref l =>
    simp only at h
    split at h <;> try cases h
    rename_i kus0 hS
    obtain ⟨⟨ku, S2⟩, h2, h⟩ := Option.bind_eq_some_iff.mp h
    obtain ⟨⟨xu, S3⟩, h3, h⟩ := Option.bind_eq_some_iff.mp h
    simp only at h
    split at h <;> try cases h
    rename_i kus hS3
    obtain ⟨k, hk, h⟩ := Option.bind_eq_some_iff.mp h
    cases h
    obtain ⟨a, ha, rfl⟩ := i1.of_ref
    obtain ⟨a', ha', kvs0, hx0, _⟩ := sr1.get hS
    rw [ha] at ha'; cases ha'
    refine ⟨a, rfl, .inl ⟨kvs0, .inl hx0⟩, m1, ρ, S1, ku, S2, sr1, lr.mono e1, h2, fun m2 v2 H2 e2 sr2 i2 => ⟨m2, ρ, S2, xu, _, sr2, lr.mono (e1.trans e2), h3, fun m3 v3 H3 e3 sr3 i3 => ?_⟩⟩
    obtain ⟨a', ha', kvs, hx, ip⟩ := sr3.get hS3
    rw [(e2.trans e3).get ha] at ha'; cases ha'
    have ek := keyU_ok (i2.mono e3) hk
    subst ek
    have rf := IsP.val (k := k) ip
    refine ⟨_, DGet.k hx, post m3 _ H3 ((e1.trans e2).trans e3) sr3 ?_⟩
    cases hv : valV kvs k with
    | none =>
      cases hw : valG kus k with
      | none => exact i3
      | some w => rw [hv, hw] at rf; exact rf.elim
    | some v =>
      cases hw : valG kus k with
      | none => rw [hv, hw] at rf; exact rf.elim
      | some w => rw [hv, hw] at rf; exact rf
  | _ => simp at h
end
end OP
set_option maxHeartbeats 1000000
namespace OP
open PySem PySem.Spec PyProof.Rows L2 OG
def rhoC (n : Nat) (caps : List Nat) (ρ : Rho) : Rho := List.replicate n none ++ caps.map fun i => (ρ[i]?).getD none
open Classical in
noncomputable def compU (ok : Sto → Prop) (g : CG) (ce : CE) (l : Nat) : List U → Rho → Sto → Option Sto
  | [], _, S => if ok S then some S else none
  | u :: us, ρ, S => if ok S then (g u ρ S).bind fun p => (ce p.1 p.2).bind fun r => match r.2[l]? with
    | some (.lst ys) => if ys.length < LIM then compU ok g ce l us p.1 (r.2.set l (.lst (ys ++ [r.1]))) else none
    | _ => none else none
noncomputable def cComp (ci : CI) (g : CG) (ce : CE) (n : Nat) (caps : List Nat) : CE := fun ρ S => (ci ρ S).bind fun p => (compU p.2.1 g ce p.2.2.length p.1 (rhoC n caps ρ) (p.2.2 ++ [.lst []])).bind fun S' => some (.ref p.2.2.length, S')
section
variable {X : Cx} {K : PySem.W.Frag}
theorem lr_comp {m : List Addr} {H : Hp} {ρ : Rho} {σ : L2.St} {n : Nat} {caps : List Nat} (lr : Lr K m H ρ σ) : Lr K m H (rhoC n caps ρ) (OG.stC n caps σ) := by
  refine ⟨by simp [rhoC, OG.stC], fun j u e => ?_⟩
  unfold rhoC at e
  unfold OG.stC
  by_cases c : j < n
  · rw [List.getElem?_append_left (by simpa using c), List.getElem?_replicate] at e
    split at e <;> cases e
  · rw [List.getElem?_append_right (by simp; omega), List.getElem?_map] at e ⊢
    simp only [List.length_replicate] at e ⊢
    cases q : caps[j - n]? with
    | none => rw [q] at e; simp at e
    | some i =>
      rw [q] at e
      simp only [Option.map_some, Option.some.injEq] at e ⊢
      have e2 : ρ[i]? = some (some u) := by
        cases z : ρ[i]? with
        | none => rw [z] at e; simp at e
        | some y => rw [z] at e; simp at e; rw [e]
      obtain ⟨v, h1, h2⟩ := lr.at_ i u e2
      exact ⟨v, by rw [h1]; rfl, h2⟩
theorem comp_core {g : CG} {ce : CE} {n : Nat} {caps : List Nat} {J : It} {us : List U} {ok : Sto → Prop} {Q : VK} {m1 : List Addr} {H1 : Hp} {S1 S' : Sto} {ρ : Rho} {σ : L2.St} {l : Addr} (sr1 : Sr K m1 S1 H1) (lr : Lr K m1 H1 ρ σ) (ito : ItOk K J m1 H1 us ok) (hl : H1 l = none) (h2 : compU ok g ce S1.length us (rhoC n caps ρ) (S1 ++ [.lst []]) = some S')
    (post : ∀ m2 H2, Ext K (m1 ++ [l]) (upd H1 l (.lst [])) m2 H2 → Sr K m2 S' H2 → Q (.ref l) H2) :
    ∃ W : Nat → Nat → L2.St → Hp → Prop, (∃ m, W 0 m (OG.stC n caps σ) (upd H1 l (.lst []))) ∧
  ∀ i m σ' H2, W i m σ' H2 → (J.stop i H2 ∧ Q (.ref l) H2) ∨ (J.go i H2 ∧ ∃ N : L2.St → Hp → Prop, (∀ σ'' H', N σ'' H' → ∃ m', m' < m ∧ W (i + 1) m' σ'' H') ∧
    ∀ x H3, J.yld i H2 x H3 → tG K g x σ' H3 fun σ2 H4 => tE K ce σ2 H4 fun v H5 => ∃ ys, H5 l = some (.lst ys) ∧ ys.length < sizeLine ∧ N σ2 (upd H5 l (.lst (ys ++ [v])))) := by
  have ee : Ext K m1 H1 (m1 ++ [l]) (upd H1 l (.lst [])) := .new (keep_new hl _)
  let W : Nat → Nat → L2.St → Hp → Prop := fun i k σ2 H2 => k = us.length - i ∧ i ≤ us.length ∧ ∃ m2 ρ2 S2, Ext K (m1 ++ [l]) (upd H1 l (.lst [])) m2 H2 ∧ Sr K m2 S2 H2 ∧ Lr K m2 H2 ρ2 σ2 ∧ compU ok g ce S1.length (us.drop i) ρ2 S2 = some S'
  refine ⟨W, ⟨us.length, by simp, Nat.zero_le _, m1 ++ [l], rhoC n caps ρ, S1 ++ [.lst []], .refl, sr1.new (o := .lst []) hl ⟨[], upd_same, .nil_⟩, lr_comp (lr.mono ee), by simpa using h2⟩, ?_⟩
  rintro i k σ2 H2 ⟨rfl, hi, m2, ρ2, S2, e2, sr2, lr2, hl2⟩
  by_cases hlt : i < us.length
  · have hu := List.getElem?_eq_getElem hlt
    rw [drop_cons hu] at hl2
    unfold compU at hl2
    split at hl2
    · rename_i hok
      obtain ⟨⟨ρ3, S3⟩, h3, hl2⟩ := Option.bind_eq_some_iff.mp hl2
      obtain ⟨⟨u4, S4⟩, h4, hl2⟩ := Option.bind_eq_some_iff.mp hl2
      simp only at hl2
      split at hl2 <;> try cases hl2
      rename_i ys hys
      split at hl2 <;> try cases hl2
      rename_i hlen
      obtain ⟨hgo, hy⟩ := (ito m2 S2 H2 i (ee.trans e2) sr2 hok).1 _ hu
      refine .inr ⟨hgo, W (i + 1) (us.length - (i + 1)), fun σ' H' w' => ⟨_, by omega, w'⟩, fun x H3 y => ?_⟩
      obtain ⟨e3, sr3, ix⟩ := hy x H3 y
      refine ⟨m2, ρ2, S2, _, ρ3, S3, sr3, lr2.mono e3, ix, h3, fun m4 σ4 H4 e4 sr4 lr4 => ⟨m4, ρ3, S3, u4, S4, sr4, lr4, h4, fun m5 v5 H5 e5 sr5 i5 => ?_⟩⟩
      obtain ⟨a', ha', xs, hx, il⟩ := sr5.get hys
      have ha : m5[S1.length]? = some l := (((e2.trans e3).trans e4).trans e5).get (last_get sr1.len)
      rw [ha] at ha'; cases ha'
      have eu : Ext K m5 H5 m5 (upd H5 l (.lst (xs ++ [v5]))) := .of (sr5.keep ha _)
      refine ⟨xs, hx, lim1 (by rw [il.length]; exact hlen), rfl, hlt, m5, ρ3, _, ((((e2.trans e3).trans e4).trans e5).trans eu), sr5.put (o := .lst (ys ++ [u4])) ha ⟨_, upd_same, (il.append (.cons_ i5 .nil_)).mono eu⟩, (lr4.mono (e5.trans eu)), hl2⟩
    · cases hl2
  · have e : i = us.length := by omega
    subst e
    rw [List.drop_length] at hl2
    unfold compU at hl2
    split at hl2
    · rename_i hok
      cases hl2
      exact .inl ⟨(ito m2 _ H2 _ (ee.trans e2) sr2 hok).2 (Nat.le_refl _), post m2 H2 e2 sr2⟩
    · cases hl2
theorem comp_imp {ci : CI} {g : CG} {ce : CE} {n : Nat} {caps : List Nat} : ∀ σ H Q, tE K (cComp ci g ce n caps) σ H Q → tComp (tI K ci) (tG K g) (tE K ce) n caps σ H Q := by
  rintro σ H Q ⟨m, ρ, S, u, S', sr, lr, hc, post⟩
  obtain ⟨⟨us, ok, S1⟩, h1, h2⟩ := Option.bind_eq_some_iff.mp hc
  obtain ⟨S2, h2, h3⟩ := Option.bind_eq_some_iff.mp h2
  cases h3
  refine ⟨m, ρ, S, us, ok, S1, sr, lr, h1, fun m1 H1 J e1 sr1 ito l hl => ?_⟩
  have ee : Ext K m1 H1 (m1 ++ [l]) (upd H1 l (.lst [])) := .new (keep_new hl _)
  exact comp_core sr1 (lr.mono e1) ito hl h2 fun m2 H2 e2 sr2 => post m2 _ H2 ((e1.trans ee).trans e2) sr2 (.ref_ (e2.get (last_get sr1.len)))
theorem q_comp {Nc capN tn : List Str} {scope : Scope} {cl : List (Str × Addr)} {n : Nat} {caps : List Nat} {tg iter elt : Expr} {pos : Pos} {ci : CI} {g : CG} {ce : CE}
    (hc : X.calm = true) (hi : QI X tg iter ci) (hg : ∀ s3 H3 fp, WG (cxC X Nc scope cl s3 H3 fp) tg (tG X.K g)) (he : ∀ s3 H3 fp, WE (cxC X Nc scope cl s3 H3 fp) elt (tE X.K ce))
    (hclos : closureFor scope X.env = pure cl) (hkind : scope.kind = .function) (hnl : ∀ x ∈ scope.names, x.2 = .local → scope.names.lookup x.1 = some .local) (hcell : ∀ x ∈ scope.names, x.2 ≠ .cell)
    (hcl : AllC X.env cl) (hhas : ((relabel scope X.env).names.all fun p => !(p.2 == .cell || p.2 == .free) || (cl.lookup p.1).isSome) = true)
    (hcap : Paired (Cap X scope cl) caps capN) (hN : Nc = tn ++ capN) (hn : tn.length = n)
    (hs : ∀ x, foldedSetIterable iter X.env x = pure x := by intro _; rfl) :
    QE X (.ListComp elt [⟨tg, iter, [], 0⟩] scope pos) (cComp ci g ce n caps) := (wpe_comp hc hi hg he hclos hkind hnl hcell hcl hhas hcap hN hn hs).imp comp_imp
def fLen : Fn
  | [.tup us], S => some (.int us.length, S)
  | [.ref l], S => match S[l]? with
    | some (.lst us) => some (.int us.length, S)
    | some (.dic us) => some (.int us.length, S)
    | _ => none
  | _, _ => none
abbrev rLen (K : PySem.W.Frag) : List V → Hp → VK → Prop := fun xs H Q => (∃ p ys, xs = [.ref p] ∧ (SqL K H p ys ∨ SqT K H p ys) ∧ Q (.int ys.length) H) ∨ ∃ a kvs, xs = [V.ref a] ∧ H a = some (.dK kvs) ∧ Q (.int kvs.length) H
theorem o_len : CallR X (.builtin "len") (rLen X.K) := call_len_seq.or call_lenD
theorem IsL.one {m : List Addr} {H : Hp} {vs : List V} {u : U} (h : IsL K m H vs [u]) : ∃ v, vs = [v] ∧ Is K m H v u := by
  obtain ⟨x, r, rfl, i, t⟩ := h.of_cons
  rw [t.of_nil]; exact ⟨x, rfl, i⟩
theorem p_len : CallP K (rLen K) fLen := by
  intro m S H us vs u S' Q sr i hf post
  match us, hf with
  | [.tup ws], hf =>
    cases hf
    obtain ⟨v, rfl, iv⟩ := i.one
    obtain ⟨a, xs, rfl, sa, la⟩ := iv.of_tup
    exact .inl ⟨a, xs, rfl, .inr sa, by rw [la.length]; exact post m _ H .refl sr .int_⟩
  | [.ref l], hf =>
    obtain ⟨v, rfl, iv⟩ := i.one
    obtain ⟨a, ha, rfl⟩ := iv.of_ref
    simp only [fLen] at hf
    split at hf <;> try cases hf
    · rename_i ws hS
      obtain ⟨a', ha', xs, hx, la⟩ := sr.get hS
      rw [ha] at ha'; cases ha'
      exact .inl ⟨a, xs, rfl, .inl (SqL.of hx), by rw [la.length]; exact post m _ H .refl sr .int_⟩
    · rename_i ws hS
      obtain ⟨a', ha', xs, hx, la⟩ := sr.get hS
      rw [ha] at ha'; cases ha'
      exact .inr ⟨a, xs, rfl, hx, by rw [IsP.length la]; exact post m _ H .refl sr .int_⟩
def fList : Fn
  | [.tup us], S => some (.ref S.length, S ++ [.lst us])
  | [.ref l], S => match S[l]? with
    | some (.lst us) => some (.ref S.length, S ++ [.lst us])
    | _ => none
  | _, _ => none
theorem p_list : CallP K (fun xs H Q => ∃ p ys, xs = [.ref p] ∧ (SqL K H p ys ∨ SqT K H p ys) ∧ ∀ l, H l = none → Q (.ref l) (upd H l (.lst ys))) fList := by
  intro m S H us vs u S' Q sr i hf post
  match us, hf with
  | [.tup ws], hf =>
    cases hf
    obtain ⟨v, rfl, iv⟩ := i.one
    obtain ⟨a, xs, rfl, sa, la⟩ := iv.of_tup
    exact ⟨a, xs, rfl, .inr sa, fun l hl => post_lst sr la post hl⟩
  | [.ref l], hf =>
    obtain ⟨v, rfl, iv⟩ := i.one
    obtain ⟨a, ha, rfl⟩ := iv.of_ref
    simp only [fList] at hf
    split at hf <;> try cases hf
    rename_i ws hS
    obtain ⟨a', ha', xs, hx, la⟩ := sr.get hS
    rw [ha] at ha'; cases ha'
    exact ⟨a, xs, rfl, .inl (SqL.of hx), fun l hl => post_lst sr la post hl⟩
def fTuple : Fn
  | [.tup us], S => some (.tup us, S)
  | [.ref l], S => match S[l]? with
    | some (.lst us) => some (.tup us, S)
    | _ => none
  | _, _ => none
theorem p_tuple : CallP K (fun xs H Q => ∃ p ys, xs = [.ref p] ∧ ((SqL K H p ys ∧ ∀ l, H l = none → Q (.ref l) (upd H l (.tup ys))) ∨ (SqT K H p ys ∧ Q (.ref p) H))) fTuple := by
  intro m S H us vs u S' Q sr i hf post
  match us, hf with
  | [.tup ws], hf =>
    cases hf
    obtain ⟨v, rfl, iv⟩ := i.one
    obtain ⟨a, xs, rfl, sa, la⟩ := iv.of_tup
    exact ⟨a, xs, rfl, .inr ⟨sa, post m _ H .refl sr iv⟩⟩
  | [.ref l], hf =>
    obtain ⟨v, rfl, iv⟩ := i.one
    obtain ⟨a, ha, rfl⟩ := iv.of_ref
    simp only [fTuple] at hf
    split at hf <;> try cases hf
    rename_i ws hS
    obtain ⟨a', ha', xs, hx, la⟩ := sr.get hS
    rw [ha] at ha'; cases ha'
    exact ⟨a, xs, rfl, .inl ⟨SqL.of hx, fun l hl => post_tup sr la post hl⟩⟩
def fInt : Fn
  | [.int i], S => some (.int i, S)
  | [.bl b], S => some (.int (if b then 1 else 0), S)
  | _, _ => none
def intsU : List U → Option (List Int)
  | [] => some []
  | .int i :: r => (intsU r).map (i :: ·)
  | _ => none
theorem intsU_ok : ∀ {us : List U} {ns : List Int}, intsU us = some ns → us = ns.map U.int
  | [], ns, h => by cases h; rfl
  | u :: r, ns, h => by
    cases u <;> simp only [intsU] at h <;> try cases h
    obtain ⟨ms, e, h⟩ := Option.map_eq_some_iff.mp h
    subst h
    rw [intsU_ok e]; rfl
theorem intsU_map : ∀ (ns : List Int), intsU (ns.map U.int) = some ns
  | [] => rfl
  | n :: r => by simp [intsU, intsU_map r]
theorem IsL.ints {m : List Addr} {H : Hp} : ∀ {xs : List V} {ns : List Int}, IsL K m H xs (ns.map U.int) → xs = ns.map V.int
  | xs, [], h => h.of_nil
  | xs, n :: ns, h => by
    obtain ⟨x, r, rfl, i, t⟩ := h.of_cons
    rw [IsL.ints t, i.of_int]; rfl
theorem isL_ints {m : List Addr} {H : Hp} : ∀ (ns : List Int), IsL K m H (ns.map V.int) (ns.map U.int)
  | [] => .nil_
  | n :: ns => .cons_ .int_ (isL_ints ns)
inductive Ty where
  | non | bool | int | str | tuple | list | dict
def Ty.nm : Ty → String
  | .non => "NoneType" | .bool => "bool" | .int => "int" | .str => "str" | .tuple => "tuple" | .list => "list" | .dict => "dict"
def tyU : U → Sto → Option Ty
  | .non, _ => some .non | .bl _, _ => some .bool | .int _, _ => some .int | .str _, _ => some .str | .tup _, _ => some .tuple
  | .ref l, S => match S[l]? with
    | some (.lst _) => some .list
    | some (.dic _) => some .dict
    | _ => none
def subT : Ty → Ty → Bool
  | .non, .non => true | .bool, .bool => true | .bool, .int => true | .int, .int => true | .str, .str => true | .tuple, .tuple => true | .list, .list => true | .dict, .dict => true
  | _, _ => false
theorem kit_ty (a b : Ty) (hb : b ≠ .non) : PySem.W.kitOne K (.type a.nm) (.type b.nm) = some (subT a b) := by
  cases b <;> first | exact absurd rfl hb | (cases a <;> rfl)
abbrev rIsi (K : PySem.W.Frag) : List V → Hp → VK → Prop := fun xs H Q => (∃ (x : V) (T : String) (t : Value) (k : Bool), xs = [x, .ty T] ∧ TyOf K H x t ∧ PySem.W.kitOne K t (.type T) = some k ∧ Q (.bl k) H) ∨
  ∃ (a : Addr) (ys : List V) (T : String) (k : Bool), xs = [.ref a, .ty T] ∧ SqT K H a ys ∧ PySem.W.kitOne K (.type "tuple") (.type T) = some k ∧ Q (.bl k) H
theorem o_isi : CallR X (.builtin "isinstance") (rIsi X.K) := by
  refine call_isinst.or ?_
  rintro pins s σ H xs us Q I r ⟨a, ys, T, k, rfl, sq, e, q⟩
  obtain ⟨u, w', rfl, ru, rw'⟩ := vals2 r
  cases rw'
  cases ru
  obtain ⟨its, rv, ht, hz⟩ := I.tuple sq
  obtain ⟨o, h1, h2, _⟩ := ht
  exact PySem.W.kia_one PySem.W.kitx_tuple I.kIn ⟨o, h1, h2⟩ e (fun z => nomatch z) fun tk => ⟨.bl k, H, I.tok tk, rfl, q⟩
def cIsi (T : Ty) (ca : CE) : CE := fun ρ S => (ca ρ S).bind fun p => (tyU p.1 p.2).bind fun t => some (.bl (subT t T), p.2)
theorem q_isi {T : Ty} {e eT : Expr} {ca : CE} {p pos : Pos} (hT0 : T ≠ .non) (he : QE X e ca) (hT : WE X eT (tC (.ty T.nm))) (hg : Gl X "isinstance") (hm : X.mg "isinstance" = none)
    (h1 : starEach [e, eT] X.env = (false, eval e X.env) :: starEach [eT] X.env := by rfl) (h2 : starEach [eT] X.env = (false, eval eT X.env) :: starEach [] X.env := by rfl) (hpl : (backTo pos (starEach [eT] X.env)).any (·.1) = false := by rfl) :
    QE X (.Call (.Name "isinstance" p) [e, eT] [] pos) (cIsi T ca) := (wpe_callB o_isi hg hm OG.boot_isinstance (wpa_cons he (wpa_cons hT wpa_nil h2) h1) (by decide) (by decide) h1 hpl).imp fun σ H Q ⟨m, ρ, S, u, S', sr, lr, hc, post⟩ => by
  obtain ⟨⟨x, S1⟩, h1, h2⟩ := Option.bind_eq_some_iff.mp hc
  obtain ⟨t, ht, h3⟩ := Option.bind_eq_some_iff.mp h2
  cases h3
  refine ⟨m, ρ, S, x, _, sr, lr, h1, fun m1 v1 H1 e1 sr1 i1 => ?_⟩
  have fin := post m1 _ H1 e1 sr1 (Is.bl_ (b := subT t T))
  cases x with
  | non => cases ht; rw [i1.of_non]; exact .inl ⟨_, _, _, _, rfl, .non, kit_ty .non T hT0, fin⟩
  | bl b => cases ht; rw [i1.of_bl]; exact .inl ⟨_, _, _, _, rfl, .bl b, kit_ty .bool T hT0, fin⟩
  | int i => cases ht; rw [i1.of_int]; exact .inl ⟨_, _, _, _, rfl, .int i, kit_ty .int T hT0, fin⟩
  | str i => cases ht; rw [i1.of_str]; exact .inl ⟨_, _, _, _, rfl, .str i, kit_ty .str T hT0, fin⟩
  | tup us =>
    cases ht
    obtain ⟨a, xs, rfl, sa, la⟩ := i1.of_tup
    exact .inr ⟨a, xs, _, _, rfl, sa, kit_ty .tuple T hT0, fin⟩
  | ref l =>
    obtain ⟨a, ha, rfl⟩ := i1.of_ref
    simp only [tyU] at ht
    split at ht <;> try cases ht
    · rename_i ws hS
      obtain ⟨a', ha', xs, hx, la⟩ := sr1.get hS
      rw [ha] at ha'; cases ha'
      exact .inl ⟨_, _, _, _, rfl, .lst hx, kit_ty .list T hT0, fin⟩
    · rename_i ws hS
      obtain ⟨a', ha', xs, hx, la⟩ := sr1.get hS
      rw [ha] at ha'; cases ha'
      exact .inl ⟨_, _, _, _, rfl, .dK hx, kit_ty .dict T hT0, fin⟩
def cBM (f : U → List U → Sto → Option (U × Sto)) (co : CE) (cr : CA) : CE := fun ρ S => (co ρ S).bind fun p => match p.1 with
  | .ref l => match p.2[l]? with
    | some (.lst _) => (cr ρ p.2).bind fun q => f p.1 q.1 q.2
    | _ => none
  | _ => none
def MtP (K : PySem.W.Frag) (r : V → List V → Hp → VK → Prop) (f : U → List U → Sto → Option (U × Sto)) : Prop :=
  ∀ m S H x v us vs u S' Q, Sr K m S H → Is K m H v x → IsL K m H vs us → f x us S = some (u, S') → PostE K m H Q u S' → r v vs H Q
theorem bm_imp {r : V → List V → Hp → VK → Prop} {f : U → List U → Sto → Option (U × Sto)} {co : CE} {cr : CA} (hp : MtP K r f) : ∀ σ H Q, tE K (cBM f co cr) σ H Q → tBM K "list" r (tE K co) (tA K cr) σ H Q := by
  rintro σ H Q ⟨m, ρ, S, u, S', sr, lr, hc, post⟩
  obtain ⟨⟨x, S1⟩, h1, h2⟩ := Option.bind_eq_some_iff.mp hc
  refine ⟨m, ρ, S, x, S1, sr, lr, h1, fun m1 v1 H1 e1 sr1 i1 => ?_⟩
  cases x with
  | ref l =>
    simp only at h2
    split at h2 <;> try cases h2
    rename_i ws hS
    obtain ⟨⟨us, S2⟩, h3, h4⟩ := Option.bind_eq_some_iff.mp h2
    obtain ⟨a, ha, rfl⟩ := id i1.of_ref
    obtain ⟨a', ha', xs, hx, la⟩ := sr1.get hS
    rw [ha] at ha'; cases ha'
    exact ⟨.inl ⟨rfl, xs, SqL.of hx⟩, m1, ρ, S1, us, S2, sr1, lr.mono e1, h3, fun m2 vs H2 e2 sr2 i2 => hp m2 S2 H2 _ _ us vs u S' Q sr2 (i1.mono e2) i2 h4 (post.mono (e1.trans e2))⟩
  | _ => simp at h2
def fAppend : U → List U → Sto → Option (U × Sto)
  | .ref l, [u], S => match S[l]? with
    | some (.lst us) => if us.length < LIM then some (.non, S.set l (.lst (us ++ [u]))) else none
    | _ => none
  | _, _, _ => none
theorem p_append : MtP K rAppend fAppend := by
  intro m S H x v us vs u S' Q sr ix i hf post
  match x, us, hf with
  | .ref l, [w], hf =>
    simp only [fAppend] at hf
    split at hf <;> try cases hf
    rename_i ws hS
    split at hf <;> try cases hf
    rename_i hl
    obtain ⟨a, ha, rfl⟩ := ix.of_ref
    obtain ⟨a', ha', xs, hx, la⟩ := sr.get hS
    rw [ha] at ha'; cases ha'
    obtain ⟨y, rfl, iy⟩ := i.one
    have eu : Ext K m H m (upd H a (.lst (xs ++ [y]))) := .of (sr.keep ha _)
    exact ⟨a, xs, y, rfl, rfl, hx, lim1 (by rw [la.length]; exact hl), post m _ _ eu (sr.put ha ⟨_, upd_same, (la.append (.cons_ iy .nil_)).mono eu⟩) .non_⟩
variable {e : Expr} {es : List Expr} {co : CE} {cr : CA} {o : Expr} {apos cpos : Pos}
theorem q_append (ho : QE X o co) (ha : QA X (e :: es) cr) (hbase : attributeBase o "append" X.env (eval o X.env) = eval o X.env := by rfl) (hfew : ((backTo cpos (starEach (e :: es) X.env)).all (fun x => !x.1) && (backToKw cpos (keywordEach [] X.env)).all (fun x => x.1.isSome)
      && decide ((e :: es).length + ([] : List Keyword).length + (if ([] : List Keyword).isEmpty then 0 else 1) < 30)) = true := by rfl) (hline : (apos.endLine == cpos.line) = true := by rfl) (hs : starEach (e :: es) X.env = (false, eval e X.env) :: starEach es X.env := by rfl) (hplain : (backTo cpos (starEach es X.env)).any (·.1) = false := by rfl) :
    QE X (.Call (.Attribute o "append" apos) (e :: es) [] cpos) (cBM fAppend co cr) := (wpe_bm PySem.F.plainAttrs_list PySem.F.slot_list_append PySem.F.type_list_append mt_append ho ha.h hbase hfew hline hs hplain).imp (bm_imp p_append)
end
end OP
namespace OP
open PySem PySem.Spec PyProof.Rows L2 OG
structure TC (K : PySem.W.Frag) (c : Cl) (NS : List Str) : Prop where
  cl : Cls K c.C
  ns : c.ns = NS
  nas : ∀ f ∈ NS, NoAttr K c.C f
section
variable {K : PySem.W.Frag} {c : Cl} {NS : List Str}
theorem TC.ix (T : TC K c NS) {i : Nat} {f : Str} (h : NS[i]? = some f) : c.ns[i]? = some f := by rw [T.ns]; exact h
theorem TC.na (T : TC K c NS) (i : Nat) {f : Str} (h : NS[i]? = some f) : NoAttr K c.C f := T.nas f (List.mem_of_getElem? h)
theorem TC.nm (T : TC K c NS) {f : Str} (h : f ∉ NS) : f ∉ c.ns := by rw [T.ns]; exact h
end
theorem _root_.L2.Fun.pure {P : Program} {w : World} {K : PySem.W.Frag} {mg : Str → Option Value} {base : Heap} {x qual : Str} {st : Stmt} {f : Addr} {fd : FuncData} {N ps : List Str} {k : Nat} {c : CS} (F : Fun K x qual st f fd) (S : FnScope N ps (defScope st))
    (hb : ∀ (cdv : Value) (A : Around) (outer : List Env) (s : Shared) (H : Hp) (E : XK), Room k (A.deeper (envOfC qual (defScope st) s.heap.objs.size f cdv)) →
      WSs (cxOf CX0 P w K mg base N qual (defScope st) f cdv A outer s H E).nox (defBody st) (tS K c)) : FnOk P w K mg base CX0 (k + 1) f fd ps (spOf K (fnU N.length ps.length c)) :=
  Fun.okW F S (fun vs H Q E h => spOf_len h) fun cdv A outer s H vs Q E hr h => ⟨_, hb cdv A outer s H E hr, fn_body (X := (cxOf CX0 P w K mg base N qual (defScope st) f cdv A outer s H E).nox) (body := []) (ps := ps) rfl h⟩
end OP
set_option maxHeartbeats 1000000
namespace OP
open PySem PySem.Spec PyProof.Rows L2 OG
def SI : Bool → Heap → Addr → Addr → Nat → Prop
  | true, h, it, a, i => h.IsListIter it a i
  | false, h, it, a, i => h.IsTupleIter it a i
def SA : Bool → Heap → Addr → Array Value → Prop
  | true, h, a, xs => h.IsList a xs
  | false, h, a, xs => h.IsTuple a xs
theorem SI.at_ {b : Bool} {h h' : Heap} {it a : Addr} {i : Nat} (x : SI b h it a i) (k : ∀ o, h.get? it = some o → h'.get? it = some o) : SI b h' it a i := by
  cases b with
  | true => obtain ⟨o, e, r⟩ := x; exact ⟨o, k o e, r⟩
  | false => obtain ⟨o, e, r⟩ := x; exact ⟨o, k o e, r⟩
theorem SA.at_ {b : Bool} {h h' : Heap} {a : Addr} {xs : Array Value} (x : SA b h a xs) (k : ∀ o, h.get? a = some o → h'.get? a = some o) : SA b h' a xs := by
  cases b with
  | true => obtain ⟨o, e, r⟩ := x; exact ⟨o, k o e, r⟩
  | false => obtain ⟨o, e, r⟩ := x; exact ⟨o, k o e, r⟩
theorem SI.obj {b : Bool} {h : Heap} {it a : Addr} {i : Nat} (x : SI b h it a i) : ∃ o, h.get? it = some o ∧ ∀ v, o.data ≠ .cell v := by
  cases b with
  | true => obtain ⟨o, e, c, d⟩ := x; exact ⟨o, e, fun v z => by rw [d] at z; cases z⟩
  | false => obtain ⟨o, e, c, d⟩ := x; exact ⟨o, e, fun v z => by rw [d] at z; cases z⟩
theorem SA.lt {b : Bool} {h : Heap} {a : Addr} {xs : Array Value} (x : SA b h a xs) : a < h.objs.size := by
  cases b with
  | true => obtain ⟨o, e, _⟩ := x; exact Heap.lt_size e
  | false => obtain ⟨o, e, _⟩ := x; exact Heap.lt_size e
section
variable {prog : Program} {w : World} {A : Around} {E : Value → Shared → Prop} {s : Shared}
theorem tup_draw {I t : Addr} {j : Nat} {ys : Array Value} {y : Value} {Q : Value → Shared → Prop} (hI : s.heap.IsTupleIter I t j) (hT : s.heap.IsTuple t ys) (hy : ys[j]? = some y)
    (k : ∀ h', h'.IsTupleIter I t (j + 1) → Heap.SameBut I s.heap h' → Q y { s with heap := h' }) : wpAny (model prog w) A (Builtin.SmallTypes.nextOf (.ref I)) Q E s := by
  obtain ⟨oi, gi, ci, di⟩ := id hI
  obtain ⟨ot, gt, _, nt, dt⟩ := hT
  unfold Builtin.SmallTypes.nextOf
  refine wpAny_bind (wpAny_callSpecial?_slot (name := Str.ofString "__next__") hI.typeIs PySem.F.slot_tuple_iterator_next (wpAny_call_entry PySem.F.slot_tuple_iterator_next hI.typeIs PySem.F.entry_tuple_iterator_next ?_ (PySem.F.args_tuple_iterator_next_1 _)))
  show wpAny _ _ (field (.ref I) 0 >>= _) _ _ s
  refine wpAny_bind (wpAny_field gi di (x := .ref t) rfl ?_)
  show wpAny _ _ (ite ((Value.ref t == Value.none) = true) _ _) _ _ s
  rw [if_neg (by exact Bool.false_ne_true)]
  show wpAny _ _ (field (.ref I) 1 >>= _) _ _ s
  refine wpAny_bind (wpAny_field gi di (x := .int j 0) rfl ?_)
  show wpAny _ _ (seqItems? (.ref t) >>= _) _ _ s
  refine wpAny_bind (wpAny_seqItems gt dt ?_)
  simp only [hy, Int.toNat_natCast]
  refine wpAny_bind (wpAny_setField gi di (by simp) (wpAny_pure ⟨y, rfl, wpAny_pure (k _ ⟨_, Heap.get?_update_self _ gi (Obj.isFreed_of_fields (Obj.data_mapFields di _)), (Obj.cls_mapFields ..).trans ci, ?_⟩ (Heap.SameBut.update ..))⟩))
  rw [Obj.data_mapFields di]; simp [rawInt]
theorem tup_draw_end {I t : Addr} {j : Nat} {ys : Array Value} {Q : Value → Shared → Prop} (hh : A.handled = none) (hI : s.heap.IsTupleIter I t j) (hT : s.heap.IsTuple t ys) (hy : ys[j]? = none)
    (k : ∀ h' e, Heap.ExtBut I s.heap h' → (∃ o, h'.get? e = some o ∧ o.cls = .type "StopIteration") → E (.ref e) { s with heap := h' }) : wpAny (model prog w) A (Builtin.SmallTypes.nextOf (.ref I)) Q E s := by
  obtain ⟨oi, gi, ci, di⟩ := id hI
  obtain ⟨ot, gt, _, nt, dt⟩ := hT
  unfold Builtin.SmallTypes.nextOf
  refine wpAny_bind (wpAny_callSpecial?_slot (name := Str.ofString "__next__") hI.typeIs PySem.F.slot_tuple_iterator_next (wpAny_call_entry PySem.F.slot_tuple_iterator_next hI.typeIs PySem.F.entry_tuple_iterator_next ?_ (PySem.F.args_tuple_iterator_next_1 _)))
  show wpAny _ _ (field (.ref I) 0 >>= _) _ _ s
  refine wpAny_bind (wpAny_field gi di (x := .ref t) rfl ?_)
  show wpAny _ _ (ite ((Value.ref t == Value.none) = true) _ _) _ _ s
  rw [if_neg (by exact Bool.false_ne_true)]
  show wpAny _ _ (field (.ref I) 1 >>= _) _ _ s
  refine wpAny_bind (wpAny_field gi di (x := .int j 0) rfl ?_)
  show wpAny _ _ (seqItems? (.ref t) >>= _) _ _ s
  refine wpAny_bind (wpAny_seqItems gt dt ?_)
  simp only [hy, Int.toNat_natCast]
  refine wpAny_bind (wpAny_rule (wpAny_bind (wpAny_setField gi di (by simp) ?_)))
  show wpAny _ _ (newExc (.type "StopIteration") [] >>= _) _ _ _
  simp only [newExc, newTuple]; refine wpAny_bind ?_
  refine wpAny_bind (wpAny_newObj_type ?_ (by (size_fits)))
  refine wpAny_bind (m := firstArgMember _ _) (wpAny_of_eq (a := Value.none) (by simp only [firstArgMember] <;> rfl) ?_)
  refine wpAny_newObj_type ?_ (by (size_fits))
  simp only [raiseNew]
  refine wpAny_bind (wpAny_handled ?_)
  rw [show A.in1.handled = none from hh]
  exact wpAny_bind (wpAny_pure (wpAny_throw (k _ _ (((Heap.SameBut.update ..).extBut.push _).push _) ⟨_, Heap.get?_push_size _ rfl, rfl⟩)))
theorem sq_draw {b : Bool} {I t : Addr} {j : Nat} {ys : Array Value} {y : Value} {Q : Value → Shared → Prop} (hI : SI b s.heap I t j) (hT : SA b s.heap t ys) (hy : ys[j]? = some y)
    (k : ∀ h', SI b h' I t (j + 1) → Heap.SameBut I s.heap h' → Q y { s with heap := h' }) : wpAny (model prog w) A (Builtin.SmallTypes.nextOf (.ref I)) Q E s := by
  cases b with
  | true => exact wpAny_nextOf_list_item hI hT hy k
  | false => exact tup_draw hI hT hy k
theorem sq_draw_end {b : Bool} {I t : Addr} {j : Nat} {ys : Array Value} {Q : Value → Shared → Prop} (hh : A.handled = none) (hI : SI b s.heap I t j) (hT : SA b s.heap t ys) (hy : ys[j]? = none)
    (k : ∀ h' e, Heap.ExtBut I s.heap h' → (∃ o, h'.get? e = some o ∧ o.cls = .type "StopIteration") → E (.ref e) { s with heap := h' }) : wpAny (model prog w) A (Builtin.SmallTypes.nextOf (.ref I)) Q E s := by
  cases b with
  | true => exact wpAny_nextOf_list_end hh hI hT hy k
  | false => exact tup_draw_end hh hI hT hy k
structure ZA (z I O i j a c : Addr) : Prop where
  Iz : I ≠ z
  Oz : O ≠ z
  iz : i ≠ z
  jz : j ≠ z
  IO : I ≠ O
  Ii : I ≠ i
  Ij : I ≠ j
  Oi : O ≠ i
  Oj : O ≠ j
  ij : i ≠ j
  az : a ≠ z
  aO : a ≠ O
  ai : a ≠ i
  aj : a ≠ j
  cz : c ≠ z
  cO : c ≠ O
  ci : c ≠ i
  cj : c ≠ j
structure ZSt (b d : Bool) (h : Heap) (z I O i j a c : Addr) (f : Value) (n : Nat) : Prop where
  hz : IsZip h z I O f
  hI : IsPair h I (.ref i) (.ref j)
  hO : ∃ p q, IsPair h O p q
  h1 : SI b h i a n
  h2 : SI d h j c n
theorem ZSt.at_ {b d : Bool} {h h' : Heap} {z I O i j a c : Addr} {f : Value} {n : Nat} (x : ZSt b d h z I O i j a c f n) (k : ∀ e ∈ [z, I, O, i, j], ∀ o, h.get? e = some o → h'.get? e = some o) : ZSt b d h' z I O i j a c f n := by
  obtain ⟨p, q, hO⟩ := x.hO
  exact ⟨k z (by simp) _ x.hz, k I (by simp) _ x.hI, ⟨p, q, k O (by simp) _ hO⟩, x.h1.at_ fun o e => k i (by simp) o e, x.h2.at_ fun o e => k j (by simp) o e⟩
theorem zip_turn {b d : Bool} {z I O i j a c : Addr} {n : Nat} {xs ys : Array Value} {x y : Value} {Q : Value → Shared → Prop} (D : ZA z I O i j a c) (st : ZSt b d s.heap z I O i j a c .none n) (ha : SA b s.heap a xs) (hc : SA d s.heap c ys) (hx : xs[n]? = some x) (hy : ys[n]? = some y)
    (k : ∀ h', ZSt b d h' z I O i j a c (rawInt s.heap.objs.size) (n + 1) → IsPair h' s.heap.objs.size x y →
      (∀ e o, e ≠ z → e ≠ O → e ≠ i → e ≠ j → s.heap.get? e = some o → h'.get? e = some o) → Q (.ref s.heap.objs.size) { s with heap := h' }) :
    wpAny (model prog w) A (Builtin.«zip.__next__» ⟨[.ref z], []⟩) (fun fin s' => ∃ v, fin = .done (.ret v) ∧ Q v s') E s := by
  obtain ⟨hz, hI, ⟨p, q, hO⟩, h1, h2⟩ := st
  show wpAny _ _ (field (.ref z) 2 >>= _) _ _ _
  refine wpAny_bind (wpAny_field hz rfl (x := .bool false) rfl ?_)
  show wpAny _ _ (field (.ref z) 3 >>= _) _ _ _
  refine wpAny_bind (wpAny_field hz rfl (x := .ref I) rfl ?_)
  refine wpAny_bind (wpAny_seqItems hI rfl ?_)
  show wpAny _ _ (Builtin.SmallTypes.ownedTupleIsFree (.ref z) >>= _) _ _ _
  refine wpAny_bind ?_
  unfold Builtin.SmallTypes.ownedTupleIsFree
  refine wpAny_bind (wpAny_field hz rfl (x := .none) rfl (wpAny_pure ?_))
  simp only [if_true]
  refine wpAny_bind (wpAny_rule (wpAny_bind (wpAny_field hz rfl (x := .ref O) rfl (wpAny_bind (wpAny_setField_rec hz (by simp) fun g1 z1 s1 => wpAny_bind ?_)))))
  replace z1 : IsZip g1 z I O .ellipsis := z1
  simp only [List.zipIdx_nil, List.zipIdx_cons, List.forIn_nil, List.forIn_cons]
  refine wpAny_bind (wpAny_bind (wpAny_onRaise ?_))
  show wpAny _ _ (Builtin.SmallTypes.nextOf (.ref i) >>= _) _ _ _
  refine wpAny_bind (sq_draw (b := b) (h1.at_ fun o e => s1.extBut _ _ D.iz e) (ha.at_ fun o e => s1.extBut _ _ D.az e) hx fun g2 i2 s2 => wpAny_pure ?_)
  have O2 : IsPair g2 O p q := s2.extBut _ _ D.Oi (s1.extBut _ _ D.Oz hO)
  refine wpAny_bind (wpAny_seqItems O2 rfl (wpAny_bind (wpAny_updateSeq_pair O2 fun g3 O3 s3 => ?_)))
  replace O3 : IsPair g3 O x q := O3
  refine wpAny_bind (wpAny_letGo (wpAny_pure (wpAny_bind (wpAny_bind (wpAny_onRaise ?_)))))
  show wpAny _ _ (Builtin.SmallTypes.nextOf (.ref j) >>= _) _ _ _
  have up3 : ∀ e o, e ≠ z → e ≠ i → e ≠ O → s.heap.get? e = some o → g3.get? e = some o := fun e o u1 u2 u3 q => s3.extBut _ _ u3 (s2.extBut _ _ u2 (s1.extBut _ _ u1 q))
  refine wpAny_bind (sq_draw (b := d) (h2.at_ fun o e => up3 _ _ D.jz D.ij.symm D.Oj.symm e) (hc.at_ fun o e => up3 _ _ D.cz D.ci D.cO e) hy fun g4 j4 s4 => wpAny_pure ?_)
  have O4 : IsPair g4 O x q := s4.extBut _ _ D.Oj O3
  refine wpAny_bind (wpAny_seqItems O4 rfl (wpAny_bind (wpAny_updateSeq_pair O4 fun g5 O5 s5 => ?_)))
  replace O5 : IsPair g5 O x y := O5
  refine wpAny_bind (wpAny_letGo (wpAny_pure (wpAny_pure (wpAny_bind (wpAny_seqItems O5 rfl (wpAny_bind (wpAny_newTuple ?_)))))))
  have sz : g5.objs.size = s.heap.objs.size := by rw [s5.1, s4.1, s3.1, s2.1, s1.1]
  have z5 : IsZip g5 z I O .ellipsis := s5.extBut _ _ D.Oz.symm (s4.extBut _ _ D.jz.symm (s3.extBut _ _ D.Oz.symm (s2.extBut _ _ D.iz.symm z1)))
  have up5 : ∀ e o, e ≠ z → e ≠ O → e ≠ i → e ≠ j → s.heap.get? e = some o → g5.get? e = some o := fun e o u1 u2 u3 u4 q => s5.extBut _ _ u2 (s4.extBut _ _ u4 (up3 e o u1 u3 u2 q))
  have i5 : SI b g5 i a (n + 1) := i2.at_ fun o e => s5.extBut _ _ D.Oi.symm (s4.extBut _ _ D.ij (s3.extBut _ _ D.Oi.symm e))
  have j5 : SI d g5 j c (n + 1) := j4.at_ fun o e => s5.extBut _ _ D.Oj.symm e
  have zlt : z < g5.objs.size := Heap.lt_size z5
  show wpAny _ _ (Builtin.SmallTypes.ownedTupleHandOut (.ref z) (.ref g5.objs.size) >>= _) _ _ _
  refine wpAny_bind ?_
  unfold Builtin.SmallTypes.ownedTupleHandOut
  have z6 : IsZip (g5.push { cls := .type "tuple", data := .seq #[x, y] }) z I O .ellipsis := Heap.get?_push_of_some _ z5
  refine wpAny_bind (wpAny_setField_rec z6 (by simp) fun g7 z7 s7 => ?_)
  replace z7 : IsZip g7 z I O (rawInt g5.objs.size) := z7
  refine wpAny_setField_rec z7 (by simp) fun g8 z8 s8 => ?_
  replace z8 : IsZip g8 z I O (rawInt g5.objs.size) := z8
  have up8 : ∀ e o, e ≠ z → g5.get? e = some o → g8.get? e = some o := fun e o u1 q => s8.extBut _ _ u1 (s7.extBut _ _ u1 (Heap.get?_push_of_some _ q))
  have T8 : IsPair g8 g5.objs.size x y := s8.extBut _ _ (Nat.ne_of_gt zlt) (s7.extBut _ _ (Nat.ne_of_gt zlt) (Heap.get?_push_size _ rfl))
  rw [sz] at z8 T8
  refine wpAny_pure ⟨_, rfl, ?_⟩
  show Q (.ref g5.objs.size) _
  rw [sz]
  exact k g8 ⟨z8, up8 _ _ D.Iz (up5 _ _ D.Iz D.IO D.Ii D.Ij hI), ⟨x, y, up8 _ _ D.Oz O5⟩, i5.at_ fun o e => up8 _ _ D.iz e, j5.at_ fun o e => up8 _ _ D.jz e⟩ T8 fun e o u1 u2 u3 u4 q => up8 e o u1 (up5 e o u1 u2 u3 u4 q)
theorem zip_stop {b d : Bool} {z I O i j a c : Addr} {n : Nat} {xs ys : Array Value} {Q : PySem.Fin → Shared → Prop} (hh : A.handled = none) (D : ZA z I O i j a c) (st : ZSt b d s.heap z I O i j a c .none n) (ha : SA b s.heap a xs) (hc : SA d s.heap c ys) (hn : xs[n]? = none ∨ ys[n]? = none)
    (k : ∀ h' e, (∀ c o, c ≠ z → c ≠ O → c ≠ i → c ≠ j → s.heap.get? c = some o → h'.get? c = some o) → (∃ o, h'.get? e = some o ∧ o.cls = .type "StopIteration") → E (.ref e) { s with heap := h' }) :
    wpAny (model prog w) A (Builtin.«zip.__next__» ⟨[.ref z], []⟩) Q E s := by
  obtain ⟨hz, hI, ⟨p, q, hO⟩, h1, h2⟩ := st
  show wpAny _ _ (field (.ref z) 2 >>= _) _ _ _
  refine wpAny_bind (wpAny_field hz rfl (x := .bool false) rfl ?_)
  show wpAny _ _ (field (.ref z) 3 >>= _) _ _ _
  refine wpAny_bind (wpAny_field hz rfl (x := .ref I) rfl ?_)
  refine wpAny_bind (wpAny_seqItems hI rfl ?_)
  show wpAny _ _ (Builtin.SmallTypes.ownedTupleIsFree (.ref z) >>= _) _ _ _
  refine wpAny_bind ?_
  unfold Builtin.SmallTypes.ownedTupleIsFree
  refine wpAny_bind (wpAny_field hz rfl (x := .none) rfl (wpAny_pure ?_))
  simp only [if_true]
  refine wpAny_bind (wpAny_rule (wpAny_bind (wpAny_field hz rfl (x := .ref O) rfl (wpAny_bind (wpAny_setField_rec hz (by simp) fun g1 z1 s1 => wpAny_bind ?_)))))
  replace z1 : IsZip g1 z I O .ellipsis := z1
  simp only [List.zipIdx_nil, List.zipIdx_cons, List.forIn_nil, List.forIn_cons]
  refine wpAny_bind (wpAny_bind (wpAny_onRaise ?_))
  show wpAny _ _ (Builtin.SmallTypes.nextOf (.ref i) >>= _) _ _ _
  cases hx : xs[n]? with
  | none =>
    refine wpAny_bind (sq_draw_end (b := b) hh (h1.at_ fun o e => s1.extBut _ _ D.iz e) (ha.at_ fun o e => s1.extBut _ _ D.az e) hx fun g2 e s2 he => ?_)
    obtain ⟨oe, ge, ce⟩ := he
    have z2 : IsZip g2 z I O .ellipsis := s2 _ _ D.iz.symm z1
    have nez : e ≠ z := fun v => by subst v; rw [z2] at ge; cases ge; simp at ce
    exact wpAny_setField_rec z2 (by simp) fun g3 _ s3 => k g3 e (fun c o u1 _ u3 _ v => s3.extBut _ _ u1 (s2 _ _ u3 (s1.extBut _ _ u1 v))) ⟨oe, s3.extBut _ _ nez ge, ce⟩
  | some x =>
    have hy : ys[n]? = none := by rcases hn with v | v; rw [hx] at v; cases v; exact v
    refine wpAny_bind (sq_draw (b := b) (h1.at_ fun o e => s1.extBut _ _ D.iz e) (ha.at_ fun o e => s1.extBut _ _ D.az e) hx fun g2 i2 s2 => wpAny_pure ?_)
    have O2 : IsPair g2 O p q := s2.extBut _ _ D.Oi (s1.extBut _ _ D.Oz hO)
    refine wpAny_bind (wpAny_seqItems O2 rfl (wpAny_bind (wpAny_updateSeq_pair O2 fun g3 O3 s3 => ?_)))
    refine wpAny_bind (wpAny_letGo (wpAny_pure (wpAny_bind (wpAny_bind (wpAny_onRaise ?_)))))
    show wpAny _ _ (Builtin.SmallTypes.nextOf (.ref j) >>= _) _ _ _
    have up3 : ∀ e o, e ≠ z → e ≠ i → e ≠ O → s.heap.get? e = some o → g3.get? e = some o := fun e o u1 u2 u3 q => s3.extBut _ _ u3 (s2.extBut _ _ u2 (s1.extBut _ _ u1 q))
    refine wpAny_bind (sq_draw_end (b := d) hh (h2.at_ fun o e => up3 _ _ D.jz D.ij.symm D.Oj.symm e) (hc.at_ fun o e => up3 _ _ D.cz D.ci D.cO e) hy fun g4 e s4 he => ?_)
    obtain ⟨oe, ge, ce⟩ := he
    have z4 : IsZip g4 z I O .ellipsis := s4 _ _ D.jz.symm (s3.extBut _ _ D.Oz.symm (s2.extBut _ _ D.iz.symm z1))
    have nez : e ≠ z := fun v => by subst v; rw [z4] at ge; cases ge; simp at ce
    exact wpAny_setField_rec z4 (by simp) fun g5 _ s5 => k g5 e (fun c o u1 u2 u3 u4 v => s5.extBut _ _ u1 (s4 _ _ u4 (up3 c o u1 u3 u2 v))) ⟨oe, s5.extBut _ _ nez ge, ce⟩
theorem zip_next {b d : Bool} {z I O i j a c : Addr} {n : Nat} {xs ys : Array Value} {x y : Value} {Q : Option Value → Shared → Prop} (D : ZA z I O i j a c) (st : ZSt b d s.heap z I O i j a c .none n) (ha : SA b s.heap a xs) (hc : SA d s.heap c ys) (hx : xs[n]? = some x) (hy : ys[n]? = some y)
    (k : ∀ h', ZSt b d h' z I O i j a c (rawInt s.heap.objs.size) (n + 1) → IsPair h' s.heap.objs.size x y →
      (∀ e o, e ≠ z → e ≠ O → e ≠ i → e ≠ j → s.heap.get? e = some o → h'.get? e = some o) → Q (some (.ref s.heap.objs.size)) { s with heap := h' }) : wpAny (model prog w) A (pyNext (.ref z)) Q E s := by
  have ty : s.TypeIs (.ref z) "zip" := ⟨_, st.hz, rfl⟩
  unfold pyNext
  exact wpAny_bind (wpAny_attempt (wpAny_callSpecial?_slot (name := Str.ofString "__next__") ty PySem.F.slot_zip_next (wpAny_call_entry PySem.F.slot_zip_next ty PySem.F.entry_zip_next
      (zip_turn D st ha hc hx hy fun h' a1 a2 a3 => wpAny_pure (k h' a1 a2 a3)) (PySem.F.args_zip_next_1 _))))
theorem zip_end {b d : Bool} {z I O i j a c : Addr} {n : Nat} {xs ys : Array Value} {Q : Option Value → Shared → Prop} (hh : A.handled = none) (D : ZA z I O i j a c) (st : ZSt b d s.heap z I O i j a c .none n) (ha : SA b s.heap a xs) (hc : SA d s.heap c ys) (hn : xs[n]? = none ∨ ys[n]? = none)
    (k : ∀ h', (∀ c o, c ≠ z → c ≠ O → c ≠ i → c ≠ j → s.heap.get? c = some o → h'.get? c = some o) → Q none { s with heap := h' }) : wpAny (model prog w) A (pyNext (.ref z)) Q E s := by
  have ty : s.TypeIs (.ref z) "zip" := ⟨_, st.hz, rfl⟩
  unfold pyNext
  refine wpAny_bind (wpAny_attempt (wpAny_callSpecial?_slot (name := Str.ofString "__next__") ty PySem.F.slot_zip_next (wpAny_call_entry PySem.F.slot_zip_next ty PySem.F.entry_zip_next
      (zip_stop hh D st ha hc hn fun h' e hk he => ?_) (PySem.F.args_zip_next_1 _))))
  obtain ⟨o, ho, co⟩ := he
  exact wpAny_bind (wpAny_isInstance (T := "StopIteration") (b := true) ⟨o, ho, co⟩ isSubtype_stop (wpAny_pure (k _ hk)))
def itO (b : Bool) (a : Addr) : Obj := { cls := .type (if b then "list_iterator" else "tuple_iterator"), data := .fields #[.ref a, .int 0 0] }
abbrev zG2 (b d : Bool) (h : Heap) (a c : Addr) : Heap := (h.push (itO b a)).push (itO d c)
abbrev zG4 (b d : Bool) (h : Heap) (a c : Addr) : Heap := ((zG2 b d h a c).push { cls := .type "tuple", data := .seq #[.ref h.objs.size, .ref (h.push (itO b a)).objs.size] }).push { cls := .type "tuple", data := .seq #[.none, .none] }
abbrev zG5 (b d : Bool) (h : Heap) (a c : Addr) : Heap := (zG4 b d h a c).push { cls := .type "zip", data := .fields #[.none, .bool false, .bool false, .ref (zG2 b d h a c).objs.size, .ref ((zG2 b d h a c).push { cls := .type "tuple", data := .seq #[.ref h.objs.size, .ref (h.push (itO b a)).objs.size] }).objs.size] }
theorem zip_new (b d : Bool) (a c : Addr) (xs ys : Array Value) : Meets (Builtin.«zip.__new__» ⟨[.type "zip", .ref a, .ref c], []⟩) (fun _ R s => SA b s.heap a xs ∧ SA d s.heap c ys ∧
      R (.ok (.ret (.ref (zG4 b d s.heap a c).objs.size))) { s with heap := zG5 b d s.heap a c }) :=
  .of_wp fun prog w A R s q => by
    obtain ⟨hp, g, dr, tk, os⟩ := s
    obtain ⟨p1, p2, q⟩ := q
    have sb := sub_zip
    cases b <;> cases d
    · have e1 : Heap.IsTuple (Shared.heap ⟨hp, g, dr, tk, os⟩) a xs := p1
      have e2 : Heap.IsTuple (Shared.heap ⟨hp.push { cls := .type "tuple_iterator", data := .fields #[.ref a, .int 0 0] }, g, dr, tk, os⟩) c ys := SA.at_ (b := false) p2 fun o e => Heap.get?_push_of_some _ e
      wp_walk using wpAny_pyIter_tuple e1, wpAny_pyIter_tuple e2
      exact ⟨_, rfl, q⟩
    · have e1 : Heap.IsTuple (Shared.heap ⟨hp, g, dr, tk, os⟩) a xs := p1
      have e2 : Heap.IsList (Shared.heap ⟨hp.push { cls := .type "tuple_iterator", data := .fields #[.ref a, .int 0 0] }, g, dr, tk, os⟩) c ys := SA.at_ (b := true) p2 fun o e => Heap.get?_push_of_some _ e
      wp_walk using wpAny_pyIter_tuple e1, wpAny_pyIter_list e2
      exact ⟨_, rfl, q⟩
    · have e1 : Heap.IsList (Shared.heap ⟨hp, g, dr, tk, os⟩) a xs := p1
      have e2 : Heap.IsTuple (Shared.heap ⟨hp.push { cls := .type "list_iterator", data := .fields #[.ref a, .int 0 0] }, g, dr, tk, os⟩) c ys := SA.at_ (b := false) p2 fun o e => Heap.get?_push_of_some _ e
      wp_walk using wpAny_pyIter_list e1, wpAny_pyIter_tuple e2
      exact ⟨_, rfl, q⟩
    · have e1 : Heap.IsList (Shared.heap ⟨hp, g, dr, tk, os⟩) a xs := p1
      have e2 : Heap.IsList (Shared.heap ⟨hp.push { cls := .type "list_iterator", data := .fields #[.ref a, .int 0 0] }, g, dr, tk, os⟩) c ys := SA.at_ (b := true) p2 fun o e => Heap.get?_push_of_some _ e
      wp_walk using wpAny_pyIter_list e1, wpAny_pyIter_list e2
      exact ⟨_, rfl, q⟩
theorem itO_is {b : Bool} {a i : Addr} {h : Heap} (e : h.get? i = some (itO b a)) : SI b h i a 0 := by
  cases b with
  | true => exact ⟨_, e, rfl, rfl⟩
  | false => exact ⟨_, e, rfl, rfl⟩
theorem zip_call {b d : Bool} {a c : Addr} {xs ys : Array Value} {Q : Value → Shared → Prop} (ha : SA b s.heap a xs) (hc : SA d s.heap c ys)
    (k : ∀ h' z I O i j, ZA z I O i j a c → ZSt b d h' z I O i j a c .none 0 → (∀ e ∈ [z, I, O, i, j], s.heap.objs.size ≤ e) → (∀ e o, s.heap.get? e = some o → h'.get? e = some o) → Q (.ref z) { s with heap := h' }) :
    wpAny (model prog w) A (call (.type "zip") [.ref a, .ref c]) Q E s := by
  refine callType_new PySem.F.called_zip (by decide) (PySem.F.typeCall_zip_2 _ _) (PySem.F.newCall_zip_2 _ _) (fun obj => PySem.F.args_object_init_3 obj _ _) PySem.F.entry_zip_new (zip_new b d a c xs ys) ⟨ha, hc, ?_⟩
  have n1 : (s.heap.push (itO b a)).objs.size = s.heap.objs.size + 1 := Heap.size_push ..
  have n2 : (zG2 b d s.heap a c).objs.size = s.heap.objs.size + 2 := by rw [Heap.size_push, n1]
  have n3 : ((zG2 b d s.heap a c).push { cls := .type "tuple", data := .seq #[.ref s.heap.objs.size, .ref (s.heap.push (itO b a)).objs.size] }).objs.size = s.heap.objs.size + 3 := by rw [Heap.size_push, n2]
  have n4 : (zG4 b d s.heap a c).objs.size = s.heap.objs.size + 4 := by rw [Heap.size_push, n3]
  have p5 : (zG5 b d s.heap a c).get? (zG4 b d s.heap a c).objs.size = some _ := Heap.get?_push_size _ rfl
  have p4 : (zG5 b d s.heap a c).get? ((zG2 b d s.heap a c).push { cls := .type "tuple", data := .seq #[.ref s.heap.objs.size, .ref (s.heap.push (itO b a)).objs.size] }).objs.size = some _ := Heap.get?_push_of_some _ (Heap.get?_push_size _ rfl)
  have p3 : (zG5 b d s.heap a c).get? (zG2 b d s.heap a c).objs.size = some _ := Heap.get?_push_of_some _ (Heap.get?_push_of_some _ (Heap.get?_push_size _ rfl))
  have p2 : (zG5 b d s.heap a c).get? (s.heap.push (itO b a)).objs.size = some _ := Heap.get?_push_of_some _ (Heap.get?_push_of_some _ (Heap.get?_push_of_some _ (Heap.get?_push_size _ rfl)))
  have p1 : (zG5 b d s.heap a c).get? s.heap.objs.size = some _ := Heap.get?_push_of_some _ (Heap.get?_push_of_some _ (Heap.get?_push_of_some _ (Heap.get?_push_of_some _ (Heap.get?_push_size _ rfl))))
  have la := ha.lt
  have lc := hc.lt
  rw [n4, n2, n3] at p5
  rw [n2, n1] at p3
  rw [n3] at p4
  rw [n1] at p2
  show _ ∧ _
  rw [n4]
  refine ⟨⟨_, p5, rfl⟩, k _ (s.heap.objs.size + 4) (s.heap.objs.size + 2) (s.heap.objs.size + 3) s.heap.objs.size (s.heap.objs.size + 1) ⟨?_, ?_, ?_, ?_, ?_, ?_, ?_, ?_, ?_, ?_, ?_, ?_, ?_, ?_, ?_, ?_, ?_, ?_⟩ ⟨p5, p3, ⟨_, _, p4⟩, itO_is p1, itO_is p2⟩ (fun e he => ?_) fun e o x => Heap.get?_push_of_some _ (Heap.get?_push_of_some _ (Heap.get?_push_of_some _ (Heap.get?_push_of_some _ (Heap.get?_push_of_some _ x))))⟩
  case refine_19 =>
    simp only [List.mem_cons, List.not_mem_nil, or_false] at he
    rcases he with e1 | e1 | e1 | e1 | e1 <;> rw [e1] <;> first | exact Nat.le_refl _ | exact Nat.le_add_right _ _
  all_goals first | exact Nat.ne_of_lt (by omega) | exact Nat.ne_of_gt (by omega) | exact Nat.ne_of_lt (Nat.lt_of_lt_of_le la (by omega)) | exact Nat.ne_of_lt (Nat.lt_of_lt_of_le lc (by omega))
end
end OP
set_option maxHeartbeats 1000000
namespace OP
open PySem PySem.Spec PyProof.Rows L2 OG
def Sq (K : PySem.W.Frag) : Bool → Hp → Addr → List V → Prop
  | true, H, a, xs => SqL K H a xs
  | false, H, a, xs => SqT K H a xs
section
variable {X : Cx} {pins : List (Addr × Obj)} {σ : L2.St} {H : Hp} {s : Shared} {h' : Heap}
theorem _root_.L2.Inv.turnedL {t' : Nat} {ch : List Addr} (I : Inv X pins σ H s) (k : ∀ b o, b ∉ ch → s.heap.get? b = some o → h'.get? b = some o) (hf : ∀ b ∈ ch, FpOk X pins H b) : Inv X pins σ H { s with heap := h', toks := t' } := by
  have nit : ∀ b u, H b = some u → b ∉ ch := fun b u e z => by rw [(hf b z).1] at e; cases e
  refine I.step (g' := s.gens) (d' := s.drawn) (ch := ch) (fun b hb => ⟨(hf b hb).2.2.2.1, (hf b hb).2.1, (hf b hb).2.2.2.2.1, (hf b hb).2.2.2.2.2⟩) (fun b o _ _ hc e _ => k b o hc e) (fun b o _ _ hc e _ => ⟨o.slots, k b o hc e⟩) (fun _ _ _ _ n => n)
    (fun b o hc e => ⟨o, k b o hc e⟩) (fun _ _ e => e) (fun _ _ _ e => e) (fun b ps e => ⟨#[], by rw [e]; simp⟩) (fun m hm => ?_) (fun b u e => ?_) I.bare
  · obtain ⟨o, es, ep, ho, r⟩ := hm
    exact ⟨o, es, ep, k _ o (fun z => (hf _ z).2.1 rfl) ho, r⟩
  · refine (I.hok b u e).stay (fun c v hc q => k c v ?_ q) (fun _ q => q) fun _ _ q => q
    rcases hc with z | z
    · rw [z]; exact nit b u e
    · exact nit c _ z
theorem _root_.L2.Inv.sq {b : Bool} {a : Addr} {xs : List V} (I : Inv X pins σ H s) (h : Sq X.K b H a xs) : ∃ its : List Value, Vals xs its ∧ SA b s.heap a its.toArray := by
  cases b with
  | true => obtain ⟨its, r, p, _⟩ := I.list h; exact ⟨its, r, p.isList⟩
  | false => obtain ⟨its, r, p, _⟩ := I.tuple h; exact ⟨its, r, p⟩
theorem _root_.L2.Inv.sq_inj {b : Bool} {a : Addr} {xs ys : List V} (I : Inv X pins σ H s) (h : Sq X.K b H a xs) (h2 : Sq X.K b H a ys) : xs = ys := by
  cases b with
  | true => exact I.list_inj h h2
  | false => exact I.tuple_inj h h2
end
def Itz (K : PySem.W.Frag) (b d : Bool) (a c : Addr) : It :=
  ⟨fun i H => ∃ xs ys x y, Sq K b H a xs ∧ Sq K d H c ys ∧ xs[i]? = some x ∧ ys[i]? = some y,
   fun i H v H' => ∃ p x y, v = .ref p ∧ H p = none ∧ H' = upd H p (.tup [x, y]) ∧ (∀ xs, Sq K b H a xs → xs[i]? = some x) ∧ ∀ ys, Sq K d H c ys → ys[i]? = some y,
   fun i H => ∃ xs ys, Sq K b H a xs ∧ Sq K d H c ys ∧ (xs.length ≤ i ∨ ys.length ≤ i)⟩
theorem push_old {h : Heap} {ob o : Obj} {e : Addr} (q : (h.push ob).get? e = some o) (ne : e ≠ h.objs.size) : h.get? e = some o := (Heap.get?_push_ne h e ob ne).symm.trans q
theorem pair_new {P : Program} {w : World} {H : Hp} {h : Heap} {a : Addr} {x y : V} {u v : Value} (e : h.get? a = some { cls := .type "tuple", data := .seq #[u, v] }) (rx : RelV x u) (ry : RelV y v) : ObjOk P w H h a (.tup [x, y]) :=
  ⟨by show 2 ≤ sizeLine; decide, [u, v], .cons rx (.cons ry .nil), ⟨_, e, rfl, _, rfl⟩⟩
theorem turn_zip {P : Program} {w : World} {K : PySem.W.Frag} {es : List Expr} {k : Nat} {pos : Pos} {b d : Bool} {z I O i j a c : Addr} (D : ZA z I O i j a c) :
    Turn P w K (.Tuple es k pos) (Itz K b d a c) [z, I, O, i, j] z (fun n h => ZSt b d h z I O i j a c .none n) where
  mem := by simp
  obj := fun n h st e he => by
    obtain ⟨hz, hI, ⟨p, q, hO⟩, h1, h2⟩ := st
    simp only [List.mem_cons, List.not_mem_nil, or_false] at he
    rcases he with rfl | rfl | rfl | rfl | rfl
    · exact ⟨_, hz, fun v q => by cases q⟩
    · exact ⟨_, hI, fun v q => by cases q⟩
    · exact ⟨_, hO, fun v q => by cases q⟩
    · exact h1.obj
    · exact h2.obj
  keep := fun n h h' st kp => st.at_ kp
  item := by
    intro X hP hw hK hc n pins s σ H E Iv hf st hg
    subst hP hw hK
    obtain ⟨xs, ys, x, y, qa, qc, hx, hy⟩ := hg
    obtain ⟨ia, ra, sa⟩ := Iv.sq qa
    obtain ⟨ic, rc, sc⟩ := Iv.sq qc
    obtain ⟨u, hu, ru⟩ := ra.get hx
    obtain ⟨v, hv, rv⟩ := rc.get hy
    refine zip_next D st sa sc (x := u) (y := v) (by simpa using hu) (by simpa using hv) fun h1 st1 T1 up1 => ⟨_, rfl, wpAny_letOwnedTupleGo_zip st1.hz fun h2 z2 s2 => ?_⟩
    have hfr : H s.heap.objs.size = none := Iv.hok.fresh (Nat.le_refl _)
    have sz : ∀ e ∈ [z, I, O, i, j], e < s.heap.objs.size := fun e he => by
      simp only [List.mem_cons, List.not_mem_nil, or_false] at he
      obtain ⟨hz, hI, ⟨p, q, hO⟩, h1', h2'⟩ := st
      rcases he with rfl | rfl | rfl | rfl | rfl
      · exact Heap.lt_size hz
      · exact Heap.lt_size hI
      · exact Heap.lt_size hO
      · obtain ⟨o, e, _⟩ := h1'.obj; exact Heap.lt_size e
      · obtain ⟨o, e, _⟩ := h2'.obj; exact Heap.lt_size e
    have T2 : h2.get? s.heap.objs.size = some { cls := .type "tuple", data := .seq #[u, v] } := s2.extBut _ _ (Nat.ne_of_gt (sz z (by simp))) T1
    have I1 : Inv X pins σ (upd H s.heap.objs.size (.tup [x, y])) { s with heap := s.heap.push { cls := .type "tuple", data := .seq #[u, v] }, toks := s.toks } :=
      Iv.laid (fun b o e => Heap.get?_push_of_some _ e) (Nat.le_refl _) (pair_new (Heap.get?_push_size _ rfl) ru rv)
    have fr2 : ∀ e ∈ [z, I, O, i, j], (upd H s.heap.objs.size (.tup [x, y])) e = none := fun e he => by rw [upd_ne (Nat.ne_of_lt (sz e he))]; exact (hf e he).1
    have I2 : Inv X pins σ (upd H s.heap.objs.size (.tup [x, y])) { s with heap := h2, toks := s.toks } :=
      Inv.turnedL (s := { s with heap := s.heap.push { cls := .type "tuple", data := .seq #[u, v] }, toks := s.toks }) (h' := h2) (t' := s.toks) (ch := [z, I, O, i, j]) I1 (fun e o hn q => by
        by_cases ce : e = s.heap.objs.size
        · subst ce
          have q' : (s.heap.push { cls := .type "tuple", data := .seq #[u, v] }).get? s.heap.objs.size = some o := q
          rw [Heap.get?_push_size _ rfl] at q'
          cases q'; exact T2
        · have q' : s.heap.get? e = some o := push_old q ce
          simp only [List.mem_cons, List.not_mem_nil, or_false, not_or] at hn
          exact s2.extBut _ _ hn.1 (up1 e o hn.1 hn.2.2.1 hn.2.2.2.1 hn.2.2.2.2 q')) fun e he => ⟨fr2 e he, (hf e he).2⟩
    refine ⟨.ref s.heap.objs.size, _, I2, rfl, ⟨_, x, y, rfl, hfr, rfl, fun xs' q => by rw [Iv.sq_inj q qa]; exact hx, fun ys' q => by rw [Iv.sq_inj q qc]; exact hy⟩, ?_, fr2⟩
    obtain ⟨_, hI1, ⟨p, q, hO1⟩, i1, j1⟩ := st1
    exact ⟨z2, s2.extBut _ _ D.Iz hI1, ⟨p, q, s2.extBut _ _ D.Oz hO1⟩, i1.at_ fun o e => s2.extBut _ _ D.iz e, j1.at_ fun o e => s2.extBut _ _ D.jz e⟩
  done := by
    intro X hP hw hK hc n pins s σ H E Iv hf st hg
    subst hP hw hK
    obtain ⟨xs, ys, qa, qc, hx⟩ := hg
    obtain ⟨ia, ra, sa⟩ := Iv.sq qa
    obtain ⟨ic, rc, sc⟩ := Iv.sq qc
    have la := ra.length
    have lc := rc.length
    refine zip_end (Iv.ok.hd hc) D st sa sc (hx.elim (fun q => .inl (by simp; omega)) fun q => .inr (by simp; omega)) fun h1 up1 => ⟨rfl, ?_⟩
    exact Iv.turnedL (t' := s.toks) (ch := [z, I, O, i, j]) (fun e o hn q => by
      simp only [List.mem_cons, List.not_mem_nil, or_false, not_or] at hn
      exact up1 e o hn.1 hn.2.2.1 hn.2.2.2.1 hn.2.2.2.2 q) hf
  self := fun _ _ _ _ _ st h => wpAny_pyIter_zip st.hz h
def iZipT (K : PySem.W.Frag) (ta : TA) : TI := fun σ H R => ta σ H fun vs H2 => ∃ b d a c, vs = [.ref a, .ref c] ∧ (∃ xs, Sq K b H2 a xs) ∧ (∃ ys, Sq K d H2 c ys) ∧ R (Itz K b d a c) H2
theorem boot_zip : bootBuiltins "zip" = some (.type "zip") := rfl
section
variable {X : Cx} {pos : Pos}
theorem wi_zip {es : List Expr} {k : Nat} {tp p : Pos} {a c : Expr} {ta : TA} (hg : Gl X "zip") (hm : X.mg "zip" = none) (ha : WA X [a, c] ta)
    (hs : starEach [a, c] X.env = (false, eval a X.env) :: starEach [c] X.env := by rfl) (hpl : (backTo pos (starEach [c] X.env)).any (·.1) = false := by rfl) : WI X (.Tuple es k tp) (.Call (.Name "zip" p) [a, c] [] pos) (iZipT X.K ta) := by
  constructor
  intro pins s σ H R I h
  refine wpAny_Call_Name_kw (ld_blt I hg hm OP.boot_zip ?_)
  refine PyProof.Rows.callWith_type1 (thn (ha.h pos pins s σ H _ I h) fun us s1 ⟨vs, H1, I1, r1, q1⟩ => ?_) hs hpl
  obtain ⟨b, d, aa, cc, rfl, ⟨xs, qa⟩, ⟨ys, qc⟩, q⟩ := q1
  obtain ⟨u, v, rfl, ru, rv⟩ := vals2 r1
  cases ru
  cases rv
  obtain ⟨ia, ra, sa⟩ := I1.sq qa
  obtain ⟨ic, rc, sc⟩ := I1.sq qc
  refine zip_call sa sc fun h1 z II O i j D st hi up => wpAny_pyIter_zip st.hz ⟨z, [z, II, O, i, j], _, _, H1, rfl, I1.kept (t' := s1.toks) up, turn_zip D, st, fun e he => ?_, q⟩
  exact I1.fpOk (hi e he) (I1.hok.fresh (hi e he))
def seqU : U → Sto → Option (List U × (Sto → Prop))
  | .tup us, _ => some (us, fun _ => True)
  | .ref l, S => match S[l]? with
    | some (.lst us) => some (us, fun S => S[l]? = some (.lst us))
    | _ => none
  | _, _ => none
def pairU (us ws : List U) : List U := (us.zip ws).map fun p => .tup [p.1, p.2]
def iZip (ca cb : CE) : CI := fun ρ S => (ca ρ S).bind fun p => (cb ρ p.2).bind fun q => (seqU p.1 q.2).bind fun x => (seqU q.1 q.2).bind fun y => some (pairU x.1 y.1, fun S => x.2 S ∧ y.2 S, q.2)
theorem seq_ok {K : PySem.W.Frag} {m : List Addr} {S : Sto} {H : Hp} {u : U} {v : V} {us : List U} {ok : Sto → Prop} (sr : Sr K m S H) (iu : Is K m H v u) (h : seqU u S = some (us, ok)) :
    ∃ b a, v = .ref a ∧ (∃ xs, Sq K b H a xs) ∧ ∀ m2 S2 H2, Ext K m H m2 H2 → Sr K m2 S2 H2 → ok S2 → ∃ xs, Sq K b H2 a xs ∧ IsL K m2 H2 xs us := by
  cases u with
  | tup ws =>
    cases h
    obtain ⟨a, xs, rfl, sq, il⟩ := iu.of_tup
    exact ⟨false, a, rfl, ⟨xs, sq⟩, fun m2 S2 H2 e _ _ => ⟨xs, e.keep _ _ sq, il.mono e⟩⟩
  | ref l =>
    simp only [seqU] at h
    split at h <;> try cases h
    rename_i us hS
    obtain ⟨a, ha, rfl⟩ := iu.of_ref
    obtain ⟨a', ha', xs, hx, il⟩ := sr.get hS
    rw [ha] at ha'; cases ha'
    refine ⟨true, a, rfl, ⟨xs, SqL.of hx⟩, fun m2 S2 H2 e sr2 hok => ?_⟩
    obtain ⟨a', ha', xs, hx, il⟩ := sr2.get hok
    rw [e.get ha] at ha'; cases ha'
    exact ⟨xs, SqL.of hx, il⟩
  | _ => simp [seqU] at h
theorem qi_zip {es : List Expr} {k : Nat} {tp p : Pos} {a c : Expr} {ca cc : CE} (hg : Gl X "zip") (hm : X.mg "zip" = none) (ha : QE X a ca) (hc : QE X c cc)
    (hs : starEach [a, c] X.env = (false, eval a X.env) :: starEach [c] X.env := by rfl) (hs2 : starEach [c] X.env = (false, eval c X.env) :: starEach [] X.env := by rfl) (hpl : (backTo pos (starEach [c] X.env)).any (·.1) = false := by rfl) :
    QI X (.Tuple es k tp) (.Call (.Name "zip" p) [a, c] [] pos) (iZip ca cc) := (wi_zip hg hm (wpa_cons ha (wpa_cons hc wpa_nil hs2) hs) hs hpl).imp fun σ H R ⟨m, ρ, S, us, ok, S', sr, lr, hf, post⟩ => by
  obtain ⟨⟨x, S1⟩, h1, h⟩ := Option.bind_eq_some_iff.mp hf
  obtain ⟨⟨y, S2⟩, h2, h⟩ := Option.bind_eq_some_iff.mp h
  obtain ⟨⟨xs, okx⟩, h3, h⟩ := Option.bind_eq_some_iff.mp h
  obtain ⟨⟨ys, oky⟩, h4, h⟩ := Option.bind_eq_some_iff.mp h
  cases h
  refine ⟨m, ρ, S, x, S1, sr, lr, h1, fun m1 v1 H1 e1 sr1 i1 => ⟨m1, ρ, S1, y, _, sr1, lr.mono e1, h2, fun m2 v2 H2 e2 sr2 i2 => ?_⟩⟩
  obtain ⟨b, aa, rfl, q1, k1⟩ := seq_ok sr2 (i1.mono e2) h3
  obtain ⟨d, bb, rfl, q2, k2⟩ := seq_ok sr2 i2 h4
  refine ⟨b, d, aa, bb, rfl, q1, q2, post m2 H2 _ (e1.trans e2) sr2 fun m3 S3 H3 i e3 sr3 hok => ?_⟩
  obtain ⟨vs, sq1, l1⟩ := k1 m3 S3 H3 e3 sr3 hok.1
  obtain ⟨ws, sq2, l2⟩ := k2 m3 S3 H3 e3 sr3 hok.2
  have n1 := l1.length
  have n2 := l2.length
  refine ⟨fun u hu => ?_, fun hi => ⟨vs, ws, sq1, sq2, ?_⟩⟩
  · simp only [pairU, List.getElem?_map, Option.map_eq_some_iff] at hu
    obtain ⟨⟨p, q⟩, hz, rfl⟩ := hu
    obtain ⟨hp, hq⟩ := List.getElem?_zip_eq_some.mp hz
    obtain ⟨vp, ep, ip⟩ := l1.getD hp
    obtain ⟨vq, eq, iq⟩ := l2.getD hq
    refine ⟨⟨vs, ws, vp, vq, sq1, sq2, ep, eq⟩, fun v H4 hy => ?_⟩
    obtain ⟨r, x', y', rfl, hr, rfl, f1, f2⟩ := hy
    have := f1 vs sq1
    rw [ep] at this; cases this
    have := f2 ws sq2
    rw [eq] at this; cases this
    have ee : Ext X.K m3 H3 m3 (upd H3 r (.tup [vp, vq])) := .of (keep_new hr _)
    exact ⟨ee, sr3.same (same_new hr _), .tup_ (SqT.of upd_same) (.cons_ (ip.mono ee) (.cons_ (iq.mono ee) .nil_))⟩
  · simp only [pairU, List.length_map, List.length_zip] at hi
    omega
end
end OP
set_option maxHeartbeats 1000000
namespace OP
open PySem PySem.Spec PyProof.Rows L2 OG
theorem drawsSq {b : Bool} {prog : Program} {w : World} {A : Around} (hh : A.handled = none) (it a : Addr) (hne : a ≠ it) (ys : Array Value) :
    Draws prog w A it [it, a] ys.size (fun i v => ys[i]? = some v) (fun i h => SI b h it a i ∧ SA b h a ys) where
  live := fun _ _ st => let ⟨o, ho, _⟩ := st.1.obj; ⟨o, ho⟩
  frame := fun _ _ _ st hk => ⟨st.1.at_ fun o e => hk it (by simp) o e, st.2.at_ fun o e => hk a (by simp) o e⟩
  item := fun i s Q E hi st hQ => sq_draw st.1 st.2 (y := ys[i]) (by simp [hi]) fun h' it' s' => hQ _ h' s.toks (by simp [hi]) ⟨it', st.2.at_ fun o e => s'.extBut _ _ hne e⟩ s'
  done := fun s Q E st hE => sq_draw_end hh st.1 st.2 (by simp) hE
structure ESt (b : Bool) (h : Heap) (e it a : Addr) (n : Nat) : Prop where
  he : ∃ old, IsEnum h e it n old
  hi : SI b h it a n
theorem enum_newT (l : Addr) (ys : Array Value) (n : Nat) (dct : Option Addr) (sl : Array (Option Value)) :
    Meets (Builtin.«enumerate.__new__» ⟨[.type "enumerate", .ref l], []⟩) (fun _ R s => s.heap.get? l = some { cls := .type "tuple", dict := dct, data := .seq ys n, slots := sl } ∧
      R (.ok (.ret (.ref (s.heap.push (itO false l)).objs.size))) { s with heap := (s.heap.push (itO false l)).push { cls := .type "enumerate", data := .fields #[.none, .bool false, .ref s.heap.objs.size, rawInt 0, .none, .none] } }) :=
  .of_wp fun prog w A R s q => by
    obtain ⟨hp, g, d, tk, os⟩ := s
    obtain ⟨gl, q⟩ := q
    have sb := sub_enumerate
    have tl : Heap.IsTuple (Shared.heap ⟨hp, g, d, tk, os⟩) l ys := ⟨_, gl, rfl, n, rfl⟩
    wp_walk using wpAny_loadPart' gl
    refine wpAny_stack_any (fun st => wpAny_pure ?_)
    split
    · rename_i c _ _ _ _ _
      cases (c == Value.type "enumerate") <;> (wp_walk using wpAny_loadPart' gl, wpAny_pyIter_tuple tl; exact ⟨_, rfl, q⟩)
    · wp_walk using wpAny_loadPart' gl, wpAny_pyIter_tuple tl
      exact ⟨_, rfl, q⟩
theorem enum_call {b : Bool} {prog : Program} {w : World} {A : Around} {E : Value → Shared → Prop} {s : Shared} {a : Addr} {ys : Array Value} {Q : Value → Shared → Prop} (ha : SA b s.heap a ys)
    (k : ∀ h' e it, e ≠ it → s.heap.objs.size ≤ e → s.heap.objs.size ≤ it → ESt b h' e it a 0 → (∀ c o, s.heap.get? c = some o → h'.get? c = some o) → Q (.ref e) { s with heap := h' }) :
    wpAny (model prog w) A (call (.type "enumerate") [.ref a]) Q E s := by
  cases b with
  | true => exact call_enumerate_list ha fun h' e1 e2 sz up => k h' _ _ (by omega) (Nat.le_add_right _ _) (Nat.le_refl _) ⟨⟨_, e1⟩, e2⟩ up
  | false =>
    obtain ⟨⟨c, dct, dt, sl⟩, gl, hc, n, hd⟩ := ha
    simp only at hc hd
    subst hc hd
    refine callType_new PySem.F.called_enumerate (by decide) (PySem.F.typeCall_enumerate_1 _) (PySem.F.newCall_enumerate_1 _) (fun obj => PySem.F.args_object_init_2 obj _) PySem.F.entry_enumerate_new (enum_newT a ys n dct sl) ⟨gl, ?_⟩
    have n1 : (s.heap.push (itO false a)).objs.size = s.heap.objs.size + 1 := Heap.size_push ..
    have p2 := Heap.get?_push_size (s.heap.push (itO false a)) (o := { cls := .type "enumerate", data := .fields #[.none, .bool false, .ref s.heap.objs.size, rawInt 0, .none, .none] }) rfl
    have p1 : ((s.heap.push (itO false a)).push { cls := .type "enumerate", data := .fields #[.none, .bool false, .ref s.heap.objs.size, rawInt 0, .none, .none] }).get? s.heap.objs.size = some (itO false a) := Heap.get?_push_of_some _ (Heap.get?_push_size _ rfl)
    rw [n1] at p2
    show _ ∧ _
    rw [n1]
    exact ⟨⟨_, p2, rfl⟩, k _ (s.heap.objs.size + 1) s.heap.objs.size (Nat.ne_of_gt (Nat.lt_succ_self _)) (Nat.le_add_right _ _) (Nat.le_refl _) ⟨⟨_, p2⟩, itO_is p1⟩ fun c o x => Heap.get?_push_of_some _ (Heap.get?_push_of_some _ x)⟩
theorem enum_end {b : Bool} {prog : Program} {w : World} {A : Around} {E : Value → Shared → Prop} {s : Shared} {e it a : Addr} {i : Int} {j : Nat} {ys : Array Value} {old : Value} {Q : Option Value → Shared → Prop} (hh : A.in1.handled = none) (he : IsEnum s.heap e it i old) (hi : SI b s.heap it a j) (ha : SA b s.heap a ys) (hx : ys[j]? = none)
    (k : ∀ h', Heap.ExtBut it s.heap h' → Q none { s with heap := h' }) : wpAny (model prog w) A (pyNext (.ref e)) Q E s := by
  have ty : s.TypeIs (.ref e) "enumerate" := ⟨_, he, rfl⟩
  unfold pyNext
  refine wpAny_bind (wpAny_attempt (wpAny_callSpecial?_slot (name := Str.ofString "__next__") ty PySem.F.slot_enumerate_next (wpAny_call_entry PySem.F.slot_enumerate_next ty PySem.F.entry_enumerate_next ?_ (PySem.F.args_enumerate_next_1 _))))
  show wpAny _ _ (field (.ref e) 2 >>= fun _ => _) _ _ _
  refine wpAny_bind (wpAny_field he rfl (x := .ref it) rfl (wpAny_bind (sq_draw_end hh hi ha hx fun h' x he' hx' => ?_)))
  obtain ⟨o, ho, co⟩ := hx'
  exact wpAny_bind (wpAny_isInstance (T := "StopIteration") (b := true) ⟨o, ho, co⟩ isSubtype_stop (wpAny_pure (k _ he')))
def Ite (K : PySem.W.Frag) (b : Bool) (a : Addr) : It :=
  ⟨fun i H => ∃ xs x, Sq K b H a xs ∧ xs[i]? = some x,
   fun i H v H' => ∃ p x, v = .ref p ∧ H p = none ∧ H' = upd H p (.tup [.int i, x]) ∧ ∀ xs, Sq K b H a xs → xs[i]? = some x,
   fun i H => ∃ xs, Sq K b H a xs ∧ xs.length ≤ i⟩
theorem turn_enum {P : Program} {w : World} {K : PySem.W.Frag} {es : List Expr} {k : Nat} {pos : Pos} {b : Bool} {e it a : Addr} (ne : e ≠ it) (nae : a ≠ e) (nai : a ≠ it) :
    Turn P w K (.Tuple es k pos) (Ite K b a) [e, it] e (fun n h => ESt b h e it a n) where
  mem := by simp
  obj := fun n h st c hc => by
    obtain ⟨⟨old, he⟩, hi⟩ := st
    simp only [List.mem_cons, List.not_mem_nil, or_false] at hc
    rcases hc with rfl | rfl
    · exact ⟨_, he, fun v q => by cases q⟩
    · exact hi.obj
  keep := fun n h h' st kp => let ⟨old, he⟩ := st.he; ⟨⟨old, kp e (by simp) _ he⟩, st.hi.at_ fun o q => kp it (by simp) o q⟩
  item := by
    intro X hP hw hK hc n pins s σ H E Iv hf st hg
    subst hP hw hK
    obtain ⟨xs, x, qa, hx⟩ := hg
    obtain ⟨ia, ra, sa⟩ := Iv.sq qa
    obtain ⟨u, hu, ru⟩ := ra.get hx
    obtain ⟨⟨old, he⟩, hi⟩ := st
    have hlt : n < ia.toArray.size := by simpa using (List.getElem?_eq_some_iff.mp hu).1
    refine wpAny_pyNext_enum_itemD (drawsSq (b := b) (show X.A.in1.handled = none from Iv.ok.hd hc) it a nai ia.toArray) he ⟨hi, sa⟩ hlt ne (by simp [ne, Ne.symm nae]) fun y h1 tk py out1 st1 T1 sz1 up1 => ⟨_, rfl, wpAny_letOwnedTupleGo_enum out1 fun h2 e2 s2 => ?_⟩
    have ey : y = u := by
      have p' : ia.toArray[n]? = some y := py
      rw [List.getElem?_toArray, hu] at p'; cases p'; rfl
    subst ey
    have hfr : H s.heap.objs.size = none := Iv.hok.fresh (Nat.le_refl _)
    have elt : e < s.heap.objs.size := Heap.lt_size he
    have ilt : it < s.heap.objs.size := by obtain ⟨o, q, _⟩ := hi.obj; exact Heap.lt_size q
    have sz : ∀ c ∈ [e, it], c < s.heap.objs.size := fun c hc => by
      simp only [List.mem_cons, List.not_mem_nil, or_false] at hc
      rcases hc with rfl | rfl
      · exact elt
      · exact ilt
    have T2 : h2.get? s.heap.objs.size = some { cls := .type "tuple", data := .seq #[.int n tk, y] } := s2.extBut _ _ (Nat.ne_of_gt elt) T1
    have I1 : Inv X pins σ (upd H s.heap.objs.size (.tup [.int n, x])) { s with heap := s.heap.push { cls := .type "tuple", data := .seq #[.int n tk, y] }, toks := s.toks } :=
      Iv.laid (fun b o e => Heap.get?_push_of_some _ e) (Nat.le_refl _) (pair_new (Heap.get?_push_size _ rfl) ⟨tk, rfl⟩ ru)
    have fr2 : ∀ c ∈ [e, it], (upd H s.heap.objs.size (.tup [.int n, x])) c = none := fun c hc => by rw [upd_ne (Nat.ne_of_lt (sz c hc))]; exact (hf c hc).1
    have I2 : Inv X pins σ (upd H s.heap.objs.size (.tup [.int n, x])) { s with heap := h2, toks := tk + 1 } :=
      Inv.turnedL (s := { s with heap := s.heap.push { cls := .type "tuple", data := .seq #[.int n tk, y] }, toks := s.toks }) (h' := h2) (t' := tk + 1) (ch := [e, it]) I1 (fun c o hn q => by
        by_cases ce : c = s.heap.objs.size
        · subst ce
          have q' : (s.heap.push { cls := .type "tuple", data := .seq #[.int n tk, y] }).get? s.heap.objs.size = some o := q
          rw [Heap.get?_push_size _ rfl] at q'
          cases q'; exact T2
        · have q' : s.heap.get? c = some o := push_old q ce
          simp only [List.mem_cons, List.not_mem_nil, or_false, not_or] at hn
          exact s2.extBut _ _ hn.1 (up1 c o hn.1 hn.2 q')) fun c hc => ⟨fr2 c hc, (hf c hc).2⟩
    refine ⟨.ref s.heap.objs.size, _, I2, rfl, ⟨_, x, rfl, hfr, rfl, fun xs' q => by rw [Iv.sq_inj q qa]; exact hx⟩, ⟨⟨_, by simpa using e2⟩, st1.1.at_ fun o q => s2.extBut _ _ (Ne.symm ne) q⟩, fr2⟩
  done := by
    intro X hP hw hK hc n pins s σ H E Iv hf st hg
    subst hP hw hK
    obtain ⟨xs, qa, hx⟩ := hg
    obtain ⟨ia, ra, sa⟩ := Iv.sq qa
    have la := ra.length
    obtain ⟨⟨old, he⟩, hi⟩ := st
    refine enum_end (show X.A.in1.handled = none from Iv.ok.hd hc) he hi sa (by simp; omega) fun h1 up1 => ⟨rfl, ?_⟩
    exact Iv.turnedL (t' := s.toks) (ch := [e, it]) (fun c o hn q => by
      simp only [List.mem_cons, List.not_mem_nil, or_false, not_or] at hn
      exact up1 c o hn.2 q) hf
  self := fun _ _ _ _ _ st h => let ⟨old, he⟩ := st.he; wpAny_pyIter_enum he h
def iEnumT (K : PySem.W.Frag) (ta : TA) : TI := fun σ H R => ta σ H fun vs H2 => ∃ b a, vs = [.ref a] ∧ (∃ xs, Sq K b H2 a xs) ∧ R (Ite K b a) H2
theorem boot_enum : bootBuiltins "enumerate" = some (.type "enumerate") := rfl
section
variable {X : Cx} {pos : Pos}
theorem wi_enum {es : List Expr} {k : Nat} {tp p : Pos} {a : Expr} {ta : TA} (hg : Gl X "enumerate") (hm : X.mg "enumerate" = none) (ha : WA X [a] ta)
    (hs : starEach [a] X.env = (false, eval a X.env) :: starEach [] X.env := by rfl) (hpl : (backTo pos (starEach [] X.env)).any (·.1) = false := by rfl) : WI X (.Tuple es k tp) (.Call (.Name "enumerate" p) [a] [] pos) (iEnumT X.K ta) := by
  constructor
  intro pins s σ H R I h
  refine wpAny_Call_Name_kw (ld_blt I hg hm OP.boot_enum ?_)
  refine PyProof.Rows.callWith_type1 (thn (ha.h pos pins s σ H _ I h) fun us s1 ⟨vs, H1, I1, r1, q1⟩ => ?_) hs hpl
  obtain ⟨b, aa, rfl, ⟨xs, qa⟩, q⟩ := q1
  obtain ⟨u, rfl, ru⟩ := vals1 r1
  cases ru
  obtain ⟨ia, ra, sa⟩ := I1.sq qa
  refine enum_call sa fun h1 e it ne he hi st up => ?_
  obtain ⟨old, hE⟩ := st.he
  refine wpAny_pyIter_enum hE ⟨e, [e, it], _, _, H1, rfl, I1.kept (t' := s1.toks) up, turn_enum ne (Nat.ne_of_lt (Nat.lt_of_lt_of_le sa.lt he)) (Nat.ne_of_lt (Nat.lt_of_lt_of_le sa.lt hi)), st, fun c hc => ?_, q⟩
  simp only [List.mem_cons, List.not_mem_nil, or_false] at hc
  rcases hc with rfl | rfl
  · exact I1.fpOk he (I1.hok.fresh he)
  · exact I1.fpOk hi (I1.hok.fresh hi)
def enumU (us : List U) : List U := us.zipIdx.map fun p => .tup [.int p.2, p.1]
def iEnum (ca : CE) : CI := fun ρ S => (ca ρ S).bind fun p => (seqU p.1 p.2).bind fun x => some (enumU x.1, x.2, p.2)
theorem qi_enum {es : List Expr} {k : Nat} {tp p : Pos} {a : Expr} {ca : CE} (hg : Gl X "enumerate") (hm : X.mg "enumerate" = none) (ha : QE X a ca)
    (hs : starEach [a] X.env = (false, eval a X.env) :: starEach [] X.env := by rfl) (hpl : (backTo pos (starEach [] X.env)).any (·.1) = false := by rfl) :
    QI X (.Tuple es k tp) (.Call (.Name "enumerate" p) [a] [] pos) (iEnum ca) := (wi_enum hg hm (wpa_cons ha wpa_nil hs) hs hpl).imp fun σ H R ⟨m, ρ, S, us, ok, S', sr, lr, hf, post⟩ => by
  obtain ⟨⟨x, S1⟩, h1, h⟩ := Option.bind_eq_some_iff.mp hf
  obtain ⟨⟨xs, okx⟩, h3, h⟩ := Option.bind_eq_some_iff.mp h
  cases h
  refine ⟨m, ρ, S, x, _, sr, lr, h1, fun m1 v1 H1 e1 sr1 i1 => ?_⟩
  obtain ⟨b, aa, rfl, q1, k1⟩ := seq_ok sr1 i1 h3
  refine ⟨b, aa, rfl, q1, post m1 H1 _ e1 sr1 fun m3 S3 H3 i e3 sr3 hok => ?_⟩
  obtain ⟨vs, sq1, l1⟩ := k1 m3 S3 H3 e3 sr3 hok
  have n1 := l1.length
  refine ⟨fun u hu => ?_, fun hi => ⟨vs, sq1, ?_⟩⟩
  · simp only [enumU, List.getElem?_map, Option.map_eq_some_iff, List.getElem?_zipIdx] at hu
    obtain ⟨⟨p, q⟩, ⟨y, hp, e⟩, rfl⟩ := hu
    cases e
    obtain ⟨vp, ep, ip⟩ := l1.getD hp
    refine ⟨⟨vs, vp, sq1, ep⟩, fun v H4 hy => ?_⟩
    obtain ⟨r, x', rfl, hr, rfl, f1⟩ := hy
    have := f1 vs sq1
    rw [ep] at this; cases this
    have ee : Ext X.K m3 H3 m3 (upd H3 r (.tup [.int i, vp])) := .of (keep_new hr _)
    exact ⟨ee, sr3.same (same_new hr _), .tup_ (SqT.of upd_same) (.cons_ (by simp only [Nat.zero_add]; exact .int_) (.cons_ (ip.mono ee) .nil_))⟩
  · simp only [enumU, List.length_map, List.length_zipIdx] at hi
    omega
def pairsC : List (CE × CE) → Rho → Sto → Option (List (Key × U) × Sto)
  | [], _, S => some ([], S)
  | (ck, cv) :: r, ρ, S => (ck ρ S).bind fun p => (cv ρ p.2).bind fun q => (keyU p.1).bind fun k => (pairsC r ρ q.2).bind fun z => some ((k, q.1) :: z.1, z.2)
def mergeA (kus : List (Key × U)) (au : List (Key × U)) : List (Key × U) := kus.foldl (fun acc kv => putG acc kv.1 kv.2) au
def mergeG (kus : List (Key × U)) : List (Key × U) := mergeA kus []
def cDisp (prs : List (CE × CE)) : CE := fun ρ S => (pairsC prs ρ (S ++ [.dic []])).bind fun q => match q.2[S.length]? with
  | some (.dic []) => some (.ref S.length, q.2.set S.length (.dic (mergeG q.1)))
  | _ => none
end
end OP
set_option maxHeartbeats 1000000
namespace OP
open PySem PySem.Spec PyProof.Rows L2 OG
theorem ints_vals : ∀ {vs : List Value} {ns : List Int}, IntsAre vs ns → Vals (ns.map V.int) vs
  | _, _, .nil => .nil
  | _, _, .cons n t r => .cons ⟨t, rfl⟩ (ints_vals r)
theorem vals_ints : ∀ {ns : List Int} {vs : List Value}, Vals (ns.map V.int) vs → IntsAre vs ns
  | [], _, h => by cases h; exact .nil
  | n :: ns, _, .cons r t => by
    obtain ⟨k, rfl⟩ := r
    exact .cons n k (vals_ints t)
def rSorted (K : PySem.W.Frag) : List V → Hp → VK → Prop := fun xs H Q => ∃ (p : Addr) (ns : List Int), xs = [.ref p] ∧ (SqL K H p (ns.map V.int) ∨ ∃ kvs, H p = some (.dK kvs) ∧ kvs.map (·.1) = ns.map Sum.inl) ∧ ns.length < 64 ∧
  ∀ (l : Addr) (ms : List Int), H l = none → ms.Perm ns → ms.Pairwise (· ≤ ·) → Q (.ref l) (upd H l (.lst (ms.map V.int)))
theorem kv_keys {κ : Type} : ∀ {kvs : List (κ × V)} {vs : List (κ × Value)}, KV kvs vs → vs.map (·.1) = kvs.map (·.1)
  | _, _, .nil => rfl
  | _, _, .cons r t => by rw [List.map_cons, List.map_cons, kv_keys t, r.1]
theorem lst_new {P : Program} {w : World} {H : Hp} {h : Heap} {a : Addr} {ms : List Int} {out : Array Value} {e : Nat} (g : h.get? a = some (seqObj "list" out e)) (hI : IntsAre out.toList ms) (hl : ms.length < 64) : ObjOk P w H h a (.lst (ms.map V.int)) :=
  ⟨by rw [List.length_map]; exact Nat.le_of_lt (Nat.lt_of_lt_of_le hl (by unfold sizeLine; decide)), out.toList, e, ints_vals hI, by rw [Array.toArray_toList]; exact g⟩
theorem o_sorted {X : Cx} (hc : X.calm = true) : CallR X (.builtin "sorted") (rSorted X.K) := by
  rintro pins s σ H xs us Q I r ⟨p, ns, rfl, src, h64, q⟩
  obtain ⟨u, rfl, ru⟩ := vals1 r
  cases ru
  rcases src with hL | ⟨kvs, hD, hk⟩
  · obtain ⟨its, rv, pl, hz⟩ := I.list hL
    have hI := vals_ints rv
    have hlen := rv.length
    rw [List.length_map] at hlen
    refine sorted_ints pl.isList hI (by omega) fun out ms a1 a2 a3 => ?_
    obtain ⟨e, ge⟩ := sortedAll_at s.heap its out
    have hf := I.hok.fresh (Nat.le_succ s.heap.objs.size)
    exact ⟨.ref (s.heap.objs.size + 1), _, I.laid (t' := s.toks) (fun b o e => sortedAll_old e) (Nat.le_succ _) (lst_new ge a1 (by rw [a2.length_eq]; exact h64)), rfl, q _ ms hf a2 a3⟩
  · obtain ⟨z, hd, vs, rel, dd⟩ := dk_of I.hok hD
    obtain ⟨ep, da⟩ := dd.dictAt
    have lkv : kvs.length = ns.length := by have := congrArg List.length hk; simpa using this
    have lv : vs.length = ns.length := by rw [← Paired.length rel]; exact lkv
    have ks : vs.map (·.1) = ns.map Sum.inl := by
      rw [← hk]; exact kv_keys rel
    refine Calls.call_function_entry kind_sorted plain_sorted entry_sorted (args_sorted1 _) ?_
    unfold Builtin.«sorted»
    refine wpAny_bind (m := checkCount "sorted" 1 1 _) (wpAny_pure (wpAny_bind (PySem.W.kdu_collect (PySem.W.kdl_dict (kvs := vs) (ep := ep) hd) (show X.A.in1.handled = none from I.ok.hd hc) da (by rw [lv, ← lkv]; exact z) fun h1 tk acc up hac => ?_)))
    have hla : acc.toList.length = ns.length := by rw [Array.length_toList, hac.1, lv]
    have hI : IntsAre acc.toList ns := by
      have key : ∀ (i : Nat) (v : Value), acc.toList[i]? = some v → ∃ (n : Int) (t : Tok), ns[i]? = some n ∧ v = Value.int n t := fun i v e => by
        obtain ⟨k, x, e1, e2⟩ := hac.2 i v (by rw [← Array.getElem?_toList]; exact e)
        have e3 : (vs.map (·.1))[i]? = some k := by rw [List.getElem?_map, e1]; rfl
        rw [ks, List.getElem?_map] at e3
        obtain ⟨n, e4, e5⟩ := Option.map_eq_some_iff.mp e3
        subst e5
        rcases keyIs_shape (k := Sum.inl n) e2 with ⟨j, t, e6, e7⟩ | ⟨j, t, e6, e7⟩
        · cases e6; exact ⟨n, t, e4, e7⟩
        · cases e6
      clear hac
      generalize acc.toList = L at key hla
      clear ks lv lkv h64 q hk
      induction L generalizing ns with
      | nil => cases ns with
        | nil => exact .nil
        | cons a b => simp at hla
      | cons a b ih => cases ns with
        | nil => simp at hla
        | cons c d =>
          obtain ⟨n, t, e1, e2⟩ := key 0 a (by simp)
          simp at e1; subst e1; subst e2
          exact .cons _ t (ih _ (fun i v e => by have := key (i + 1) v (by simpa using e); simpa using this) (by simpa using hla))
    refine wpAny_bind (wpAny_newList ?_ (by rw [hla, ← lkv]; exact z))
    have gL : (h1.push { cls := .type "list", data := .seq acc.toList.toArray }).get? h1.objs.size = some (seqObj "list" acc.toList.toArray 0) := Heap.get?_push_size _ rfl
    refine wpAny_bind (wpAny_holding (wpAny_call_entry slot_list_sort ⟨_, gL, rfl⟩ entry_list_sort (list_sort_tree (s := { s with heap := h1.push { cls := .type "list", data := .seq acc.toList.toArray }, toks := tk }) gL hI (by omega) fun out ms a1 a2 a3 => ⟨_, rfl, ?_⟩) (args_list_sort _)))
    obtain ⟨e, ge⟩ := sortedHeap_at (out := out) gL
    have I1 : Inv X pins σ H { s with heap := h1, toks := tk } := I.kept up
    have hf := I1.hok.fresh (Nat.le_refl h1.objs.size)
    refine wpAny_pure ⟨_, rfl, .ref h1.objs.size, _, Inv.laid (s := { s with heap := h1, toks := tk }) (h' := sortedHeap (h1.push { cls := .type "list", data := .seq acc.toList.toArray }) h1.objs.size acc.toList out) (t' := tk) I1 (fun b o g1 => ?_) (Nat.le_refl _) (lst_new ge a1 (by rw [a2.length_eq]; exact h64)), rfl, q _ ms hf a2 a3⟩
    have g1 : h1.get? b = some o := g1
    have lt1 := Heap.lt_size g1
    rw [sortedHeap_old (Nat.ne_of_lt lt1) (by rw [Heap.size_push]; exact Nat.lt_succ_of_lt lt1)]
    exact Heap.get?_push_of_some _ g1
def sortI (ns : List Int) : List Int := ns.mergeSort (fun a b => decide (a ≤ b))
theorem sortI_perm (ns : List Int) : (sortI ns).Perm ns := List.mergeSort_perm ..
theorem sortI_sorted (ns : List Int) : (sortI ns).Pairwise (· ≤ ·) := by
  have := List.pairwise_mergeSort (le := fun (a b : Int) => decide (a ≤ b)) (fun a b c h1 h2 => by simp at h1 h2 ⊢; omega) (fun a b => by simp; omega) ns
  exact this.imp fun h => by simpa using h
theorem sortI_of {ns ms : List Int} (p : ms.Perm ns) (s : ms.Pairwise (· ≤ ·)) : ms = sortI ns := PySem.W.lks_uniq (p.trans (sortI_perm ns).symm) s (sortI_sorted ns)
def keysI : List (Key × U) → Option (List Int)
  | [] => some []
  | (.inl n, _) :: r => (keysI r).map (n :: ·)
  | _ => none
theorem keysI_ok : ∀ {kus : List (Key × U)} {ns : List Int}, keysI kus = some ns → kus.map (·.1) = ns.map Sum.inl
  | [], ns, h => by cases h; rfl
  | (k, u) :: r, ns, h => by
    cases k <;> simp only [keysI] at h <;> try cases h
    obtain ⟨ms, e, h⟩ := Option.map_eq_some_iff.mp h
    subst h
    simp [keysI_ok e]
def fSorted : Fn
  | [.ref l], S => match S[l]? with
    | some (.lst us) => (intsU us).bind fun ns => if ns.length < 64 then some (.ref S.length, S ++ [.lst ((sortI ns).map U.int)]) else none
    | some (.dic kus) => (keysI kus).bind fun ns => if ns.length < 64 then some (.ref S.length, S ++ [.lst ((sortI ns).map U.int)]) else none
    | _ => none
  | _, _ => none
theorem p_sorted {K : PySem.W.Frag} : CallP K (rSorted K) fSorted := by
  intro m S H us vs u S' Q sr i hf post
  match us, hf with
  | [.ref l], hf =>
    obtain ⟨v, rfl, iv⟩ := i.one
    obtain ⟨a, ha, rfl⟩ := iv.of_ref
    simp only [fSorted] at hf
    split at hf <;> try cases hf
    · rename_i ws hS
      obtain ⟨ns, hn, h⟩ := Option.bind_eq_some_iff.mp hf
      split at h <;> try cases h
      have hc : ns.length < 64 := by assumption
      obtain ⟨a', ha', xs, hx, la⟩ := sr.get hS
      rw [ha] at ha'; cases ha'
      rw [intsU_ok hn] at la
      rw [la.ints] at hx
      refine ⟨a, ns, rfl, .inl (SqL.of hx), hc, fun p ms hp pm sm => ?_⟩
      rw [sortI_of pm sm]
      exact post_lst sr (isL_ints _) post hp
    · rename_i ws hS
      obtain ⟨ns, hn, h⟩ := Option.bind_eq_some_iff.mp hf
      split at h <;> try cases h
      have hc : ns.length < 64 := by assumption
      obtain ⟨a', ha', kvs, hx, ip⟩ := sr.get hS
      rw [ha] at ha'; cases ha'
      refine ⟨a, ns, rfl, .inr ⟨kvs, hx, by rw [ip.1, keysI_ok hn]⟩, hc, fun p ms hp pm sm => ?_⟩
      rw [sortI_of pm sm]
      exact post_lst sr (isL_ints _) post hp
end OP
set_option maxHeartbeats 1000000
namespace OP
open PySem PySem.Spec PyProof.Rows L2 OG
section
variable {ρ : Rho} {S : Sto} {c1 c2 : CS} {t ta tb : CT} {ca cb cc : CE} {cr : CA} {u x y : U} {us : List U} {i l : Nat} {f g : U → U → Sto → Option (U × Sto)} {b : Bool}
def kVar (S : Sto) : Option (Option U) → Option (U × Sto)
  | some (some u) => some (u, S)
  | _ => none
theorem x_var : cVar i ρ S = kVar S (ρ[i]?) := rfl
theorem x_var' : kVar S (some (some u)) = some (u, S) := rfl
theorem x_c : cC u ρ S = some (u, S) := rfl
def kOp2 (f : U → U → Sto → Option (U × Sto)) (x : U) (q : U × Sto) := f x q.1 q.2
def kOp1 (f : U → U → Sto → Option (U × Sto)) (cb : CE) (ρ : Rho) (p : U × Sto) := (cb ρ p.2).bind (kOp2 f p.1)
theorem x_op : cOp f ca cb ρ S = (ca ρ S).bind (kOp1 f cb ρ) := rfl
theorem x_op1 : kOp1 f cb ρ (x, S) = (cb ρ S).bind (kOp2 f x) := rfl
theorem x_op2 : kOp2 f x (y, S) = f x y S := rfl
def kTest : U × Sto → Option (Bool × Sto)
  | (.bl b, S) => some (b, S)
  | _ => none
theorem x_test : cTest ca ρ S = (ca ρ S).bind kTest := by
  unfold cTest; congr 1; funext p; obtain ⟨u, S⟩ := p; cases u <;> rfl
theorem x_test1 : kTest (.bl b, S) = some (b, S) := rfl
def kAnd (tb : CT) (ρ : Rho) (p : Bool × Sto) := if p.1 = true then tb ρ p.2 else some (false, p.2)
def kOr (tb : CT) (ρ : Rho) (p : Bool × Sto) := if p.1 = true then some (true, p.2) else tb ρ p.2
def kNot (p : Bool × Sto) : Option (Bool × Sto) := some (!p.1, p.2)
theorem x_and : cAnd ta tb ρ S = (ta ρ S).bind (kAnd tb ρ) := rfl
theorem x_and1 : kAnd tb ρ (true, S) = tb ρ S := rfl
theorem x_and2 : kAnd tb ρ (false, S) = some (false, S) := rfl
theorem x_or : cOr ta tb ρ S = (ta ρ S).bind (kOr tb ρ) := rfl
theorem x_or1 : kOr tb ρ (true, S) = some (true, S) := rfl
theorem x_or2 : kOr tb ρ (false, S) = tb ρ S := rfl
theorem x_not : cNot ta ρ S = (ta ρ S).bind kNot := rfl
theorem x_not1 : kNot (b, S) = some (!b, S) := rfl
def kAndV (cb : CE) (ρ : Rho) : U × Sto → Option (U × Sto)
  | (.bl true, S) => cb ρ S
  | (.bl false, S) => some (.bl false, S)
  | _ => none
def kOrV (cb : CE) (ρ : Rho) : U × Sto → Option (U × Sto)
  | (.bl false, S) => cb ρ S
  | (.bl true, S) => some (.bl true, S)
  | _ => none
def kNotV : U × Sto → Option (U × Sto)
  | (.bl b, S) => some (.bl (!b), S)
  | _ => none
theorem x_andV : cAndV ca cb ρ S = (ca ρ S).bind (kAndV cb ρ) := by
  unfold cAndV; congr 1; funext p; obtain ⟨u, S⟩ := p; cases u with
  | bl b => cases b <;> rfl
  | _ => rfl
theorem x_andV1 : kAndV cb ρ (.bl true, S) = cb ρ S := rfl
theorem x_andV2 : kAndV cb ρ (.bl false, S) = some (.bl false, S) := rfl
theorem x_orV : cOrV ca cb ρ S = (ca ρ S).bind (kOrV cb ρ) := by
  unfold cOrV; congr 1; funext p; obtain ⟨u, S⟩ := p; cases u with
  | bl b => cases b <;> rfl
  | _ => rfl
theorem x_orV1 : kOrV cb ρ (.bl false, S) = cb ρ S := rfl
theorem x_orV2 : kOrV cb ρ (.bl true, S) = some (.bl true, S) := rfl
theorem x_notV : cNotV ca ρ S = (ca ρ S).bind kNotV := by
  unfold cNotV; congr 1; funext p; obtain ⟨u, S⟩ := p; cases u <;> rfl
theorem x_notV1 : kNotV (.bl b, S) = some (.bl (!b), S) := rfl
def kCons2 (u : U) (q : List U × Sto) : Option (List U × Sto) := some (u :: q.1, q.2)
def kCons1 (cr : CA) (ρ : Rho) (p : U × Sto) := (cr ρ p.2).bind (kCons2 p.1)
theorem x_nil : cNil ρ S = some ([], S) := rfl
theorem x_cons : cCons ca cr ρ S = (ca ρ S).bind (kCons1 cr ρ) := rfl
theorem x_cons1 : kCons1 cr ρ (u, S) = (cr ρ S).bind (kCons2 u) := rfl
theorem x_cons2 : kCons2 u (us, S) = some (u :: us, S) := rfl
def kTup (p : List U × Sto) : Option (U × Sto) := some (.tup p.1, p.2)
def kLst (p : List U × Sto) : Option (U × Sto) := some (.ref p.2.length, p.2 ++ [.lst p.1])
theorem x_tup : cTup cr ρ S = (cr ρ S).bind kTup := rfl
theorem x_tup1 : kTup (us, S) = some (.tup us, S) := rfl
theorem x_lst : cLst cr ρ S = (cr ρ S).bind kLst := rfl
theorem x_lst1 : kLst (us, S) = some (.ref S.length, S ++ [.lst us]) := rfl
def kCB (f : Fn) (p : List U × Sto) := f p.1 p.2
theorem x_cb {f : Fn} : cCB f cr ρ S = (cr ρ S).bind (kCB f) := rfl
theorem x_cb1 {f : Fn} : kCB f (us, S) = f us S := rfl
def kIsi (T : Ty) (p : U × Sto) : Option (U × Sto) := (tyU p.1 p.2).bind fun t => some (.bl (subT t T), p.2)
theorem x_isi {T : Ty} : cIsi T ca ρ S = (ca ρ S).bind (kIsi T) := rfl
theorem x_isi1 {T : Ty} : kIsi T (u, S) = (tyU u S).bind fun t => some (.bl (subT t T), S) := rfl
def kSeq (c2 : CS) : Out × Rho × Sto → Option (Out × Rho × Sto)
  | (.nx, ρ, S) => c2 ρ S
  | (o, ρ, S) => some (o, ρ, S)
theorem x_skip : cSkip ρ S = some (.nx, ρ, S) := rfl
theorem x_seq : cSeq c1 c2 ρ S = (c1 ρ S).bind (kSeq c2) := by
  unfold cSeq; congr 1; funext p; obtain ⟨o, ρ, S⟩ := p; cases o <;> rfl
theorem x_seq1 : kSeq c2 (.nx, ρ, S) = c2 ρ S := rfl
theorem x_seq2 : kSeq c2 (.rt u, ρ, S) = some (.rt u, ρ, S) := rfl
theorem x_seq3 : kSeq c2 (.bk, ρ, S) = some (.bk, ρ, S) := rfl
theorem x_seq4 : kSeq c2 (.ct, ρ, S) = some (.ct, ρ, S) := rfl
def kDrop (ρ : Rho) (p : U × Sto) : Option (Out × Rho × Sto) := some (.nx, ρ, p.2)
def kRet (ρ : Rho) (p : U × Sto) : Option (Out × Rho × Sto) := some (.rt p.1, ρ, p.2)
theorem x_drop : cDrop ca ρ S = (ca ρ S).bind (kDrop ρ) := rfl
theorem x_drop1 : kDrop ρ (u, S) = some (.nx, ρ, S) := rfl
theorem x_ret : cRet ca ρ S = (ca ρ S).bind (kRet ρ) := rfl
theorem x_ret1 : kRet ρ (u, S) = some (.rt u, ρ, S) := rfl
def kIfS (c1 c2 : CS) (ρ : Rho) (p : Bool × Sto) := if p.1 = true then c1 ρ p.2 else c2 ρ p.2
theorem x_ifs : cIfS t c1 c2 ρ S = (t ρ S).bind (kIfS c1 c2 ρ) := rfl
theorem x_ifs1 : kIfS c1 c2 ρ (true, S) = c1 ρ S := rfl
theorem x_ifs2 : kIfS c1 c2 ρ (false, S) = c2 ρ S := rfl
def kIf (ca cb : CE) (ρ : Rho) (p : Bool × Sto) := if p.1 = true then ca ρ p.2 else cb ρ p.2
theorem x_if : cIf t ca cb ρ S = (t ρ S).bind (kIf ca cb ρ) := rfl
theorem x_if1 : kIf ca cb ρ (true, S) = ca ρ S := rfl
theorem x_if2 : kIf ca cb ρ (false, S) = cb ρ S := rfl
def kSet (i : Nat) (ρ : Rho) (p : U × Sto) : Option (Out × Rho × Sto) := some (.nx, ρ.set i (some p.1), p.2)
theorem x_set : cSet i ca ρ S = (ca ρ S).bind (kSet i ρ) := rfl
theorem x_set1 : kSet i ρ (u, S) = some (.nx, ρ.set i (some u), S) := rfl
def kAsg2 (q : Rho × Sto) : Option (Out × Rho × Sto) := some (.nx, q.1, q.2)
def kAsg (g : CG) (ρ : Rho) (p : U × Sto) := (g p.1 ρ p.2).bind kAsg2
theorem x_asg {g : CG} : cAsg ca g ρ S = (ca ρ S).bind (kAsg g ρ) := rfl
theorem x_asg1 {g : CG} : kAsg g ρ (u, S) = (g u ρ S).bind kAsg2 := rfl
theorem x_asg2 : kAsg2 (ρ, S) = some (.nx, ρ, S) := rfl
theorem x_gnm : gNm i u ρ S = some (ρ.set i (some u), S) := rfl
theorem x_gtp {is : List Nat} : gTp is (.tup us) ρ S = (setAll is us ρ).bind fun ρ' => some (ρ', S) := rfl
theorem x_all0 : setAll [] [] ρ = some ρ := rfl
theorem x_all1 {is : List Nat} : setAll (i :: is) (u :: us) ρ = setAll is us (ρ.set i (some u)) := rfl
def kSI3 (ρ : Rho) (S' : Sto) : Option (Out × Rho × Sto) := some (.nx, ρ, S')
def kSI2 (o v : U) (ρ : Rho) (r : U × Sto) := (fSetIx o r.1 v r.2).bind (kSI3 ρ)
def kSI1 (ci : CE) (v : U) (ρ : Rho) (q : U × Sto) := (ci ρ q.2).bind (kSI2 q.1 v ρ)
def kSI (co ci : CE) (ρ : Rho) (p : U × Sto) := (co ρ p.2).bind (kSI1 ci p.1 ρ)
theorem x_si : cSetIx ca cb cc ρ S = (cc ρ S).bind (kSI ca cb ρ) := rfl
theorem x_si0 : kSI ca cb ρ (u, S) = (ca ρ S).bind (kSI1 cb u ρ) := rfl
theorem x_si1 : kSI1 cb y ρ (u, S) = (cb ρ S).bind (kSI2 u y ρ) := rfl
theorem x_si2 : kSI2 x y ρ (u, S) = (fSetIx x u y S).bind (kSI3 ρ) := rfl
theorem x_si3 : kSI3 ρ S = some (.nx, ρ, S) := rfl
def kIx (y : U) (S : Sto) : Option O → Option (U × Sto)
  | some (.lst us) => (match y with
      | .int i => (atI us i).bind fun u => some (u, S)
      | _ => none)
  | some (.dic kus) => (keyU y).bind fun k => (valG kus k).bind fun u => some (u, S)
  | some (.fdc _ kus) => (keyU y).bind fun k => (valG kus k).bind fun u => some (u, S)
  | _ => none
theorem x_ixt {j : Int} : fIx (.tup us) (.int j) S = (atI us j).bind fun u => some (u, S) := rfl
theorem x_ixr : fIx (.ref l) y S = kIx y S S[l]? := by
  unfold fIx kIx; dsimp only <;> (generalize S[l]? = q; rcases q with _ | o <;> first | rfl | (cases o <;> rfl))
theorem x_ixl {j : Int} : kIx (.int j) S (some (.lst us)) = (atI us j).bind fun u => some (u, S) := rfl
theorem x_ixf {ep : Nat} {kus : List (Key × U)} : kIx y S (some (.fdc ep kus)) = (keyU y).bind fun k => (valG kus k).bind fun u => some (u, S) := rfl
theorem x_ixd {kus : List (Key × U)} : kIx y S (some (.dic kus)) = (keyU y).bind fun k => (valG kus k).bind fun u => some (u, S) := rfl
def kSIx (l : Nat) (i v : U) (S : Sto) : Option O → Option Sto
  | some (.lst us) => (match i with
      | .int k => (ixN us.length k).bind fun j => some (S.set l (.lst (us.set j v)))
      | _ => none)
  | some (.dic kus) => (keyU i).bind fun k => if kus.length < LIM then some (S.set l (.dic (putG kus k v))) else none
  | _ => none
theorem x_six : fSetIx (.ref l) x y S = kSIx l x y S S[l]? := by
  unfold fSetIx kSIx; dsimp only <;> (generalize S[l]? = q; rcases q with _ | o <;> first | rfl | (cases o <;> rfl))
theorem x_sixl {j : Int} : kSIx l (.int j) y S (some (.lst us)) = (ixN us.length j).bind fun j => some (S.set l (.lst (us.set j y))) := rfl
theorem x_sixd {kus : List (Key × U)} : kSIx l x y S (some (.dic kus)) = (keyU x).bind fun k => if kus.length < LIM then some (S.set l (.dic (putG kus k y))) else none := rfl
theorem at0 {α : Type} {a : α} {r : List α} : atI (a :: r) 0 = some a := by show atI _ ((0 : Nat) : Int) = _; exact atI_nat rfl
theorem at1 {α : Type} {a b : α} {r : List α} : atI (a :: b :: r) 1 = some b := by show atI _ ((1 : Nat) : Int) = _; exact atI_nat rfl
theorem at2 {α : Type} {a b c : α} {r : List α} : atI (a :: b :: c :: r) 2 = some c := by show atI _ ((2 : Nat) : Int) = _; exact atI_nat rfl
theorem at3 {α : Type} {a b c d : α} {r : List α} : atI (a :: b :: c :: d :: r) 3 = some d := by show atI _ ((3 : Nat) : Int) = _; exact atI_nat rfl
theorem ix0 {n : Nat} : ixN (n + 1) 0 = some 0 := by simp [ixN]
theorem ix1 {n : Nat} : ixN (n + 1 + 1) 1 = some 1 := by simp [ixN]; omega
theorem ix2 {n : Nat} : ixN (n + 1 + 1 + 1) 2 = some 2 := by simp [ixN]; omega
def kLen (S : Sto) : Option O → Option (U × Sto)
  | some (.lst us) => some (.int us.length, S)
  | some (.dic us) => some (.int us.length, S)
  | _ => none
theorem x_lenr : fLen [.ref l] S = kLen S S[l]? := by
  unfold fLen kLen; dsimp only <;> (generalize S[l]? = q; rcases q with _ | o <;> first | rfl | (cases o <;> rfl))
theorem x_lenl : kLen S (some (.lst us)) = some (.int us.length, S) := rfl
theorem x_lend {kus : List (Key × U)} : kLen S (some (.dic kus)) = some (.int kus.length, S) := rfl
theorem x_lent : fLen [.tup us] S = some (.int us.length, S) := rfl
variable {j k : Int}
theorem x_add : fAdd (.int j) (.int k) S = some (.int (j + k), S) := rfl
theorem x_sub : fSub (.int j) (.int k) S = some (.int (j - k), S) := rfl
theorem x_mul (h : CMul j k) : fMul (.int j) (.int k) S = some (.int (j * k), S) := by simp [fMul, fI, h]
theorem x_div (h : CDivB j k) : fDiv (.int j) (.int k) S = some (.int (j / k), S) := by simp [fDiv, fI, h]
theorem x_mod (h : 0 < k) : fMod (.int j) (.int k) S = some (.int (j % k), S) := by simp [fMod, fI, h]
theorem x_pow (h : CPow j k) : fPow (.int j) (.int k) S = some (.int (j ^ k.toNat), S) := by simp [fPow, fI, h]
theorem x_lt : fLt (.int j) (.int k) S = some (.bl (decide (j < k)), S) := rfl
theorem x_le : fLe (.int j) (.int k) S = some (.bl (decide (j ≤ k)), S) := rfl
theorem x_gt : fGt (.int j) (.int k) S = some (.bl (decide (k < j)), S) := rfl
theorem x_ge : fGe (.int j) (.int k) S = some (.bl (decide (k ≤ j)), S) := rfl
theorem x_eqi : fEq (.int j) (.int k) S = some (.bl (decide (j = k)), S) := rfl
theorem x_nei : fNe (.int j) (.int k) S = some (.bl (!decide (j = k)), S) := rfl
theorem x_eqs {a c : Str} : fEq (.str a) (.str c) S = some (.bl (decide (a = c)), S) := rfl
theorem x_nes {a c : Str} : fNe (.str a) (.str c) S = some (.bl (!decide (a = c)), S) := rfl
theorem x_eqb {a c : Bool} : fEq (.bl a) (.bl c) S = some (.bl (decide (a = c)), S) := rfl
theorem x_neb {a c : Bool} : fNe (.bl a) (.bl c) S = some (.bl (!decide (a = c)), S) := rfl
def kFn : Out × Rho × Sto → Option (U × Sto)
  | (.rt u, _, S) => some (u, S)
  | (.nx, _, S) => some (.non, S)
  | _ => none
theorem x_fn {n k : Nat} (h : us.length = k) : fnU n k c1 us S = (c1 (startU n us) S).bind kFn := by
  unfold fnU; rw [if_pos h]; congr 1; funext p; obtain ⟨o, ρ, S⟩ := p; cases o <;> rfl
theorem x_fn1 : kFn (.rt u, ρ, S) = some (u, S) := rfl
theorem x_fn2 : kFn (.nx, ρ, S) = some (.non, S) := rfl
end
end OP
set_option maxHeartbeats 1000000
namespace OP
open PySem PySem.Spec PyProof.Rows L2 OG
section
variable {ρ : Rho} {S : Sto} {c1 c2 : CS} {t ta tb : CT} {ca cb cc : CE} {cr : CA} {u x y : U} {us : List U} {i l : Nat} {b : Bool} {c : Cl} {fus : List (Option U)} {g : Fn}
open Classical in
noncomputable def kFld2 (c : Cl) (i : Nat) (S : Sto) : Option O → Option (U × Sto)
  | some (.ins c' fus) => if c' = c then (fus[i]?).join.bind fun u => some (u, S) else none
  | _ => none
noncomputable def kFld (c : Cl) (i : Nat) (p : U × Sto) := fFld c i p.1 p.2
theorem x_fld : cFld c i ca ρ S = (ca ρ S).bind (kFld c i) := rfl
theorem x_fld1 : kFld c i (.ref l, S) = kFld2 c i S S[l]? := by
  unfold kFld fFld kFld2; dsimp only <;> (generalize S[l]? = q; rcases q with _ | o <;> first | rfl | (cases o <;> rfl))
theorem x_fld2 : kFld2 c i S (some (.ins c fus)) = ((fus[i]?).join).bind fun u => some (u, S) := by
  unfold kFld2; dsimp only; rw [if_pos rfl]
open Classical in
noncomputable def kSF3 (c : Cl) (i l : Nat) (v : U) (S : Sto) : Option O → Option Sto
  | some (.ins c' fus) => if c' = c then some (S.set l (.ins c (fus.set i (some v)))) else none
  | _ => none
noncomputable def kSF2 (c : Cl) (i : Nat) (v : U) (ρ : Rho) (q : U × Sto) := (fSetF c i q.1 v q.2).bind (kSI3 ρ)
noncomputable def kSF1 (c : Cl) (i : Nat) (ca : CE) (ρ : Rho) (p : U × Sto) := (ca ρ p.2).bind (kSF2 c i p.1 ρ)
theorem x_sf : cSetF c i ca cb ρ S = (cb ρ S).bind (kSF1 c i ca ρ) := rfl
theorem x_sf1 : kSF1 c i ca ρ (u, S) = (ca ρ S).bind (kSF2 c i u ρ) := rfl
theorem x_sf2 : kSF2 c i u ρ (.ref l, S) = (kSF3 c i l u S S[l]?).bind (kSI3 ρ) := by
  unfold kSF2 fSetF kSF3; dsimp only <;> (generalize S[l]? = q; rcases q with _ | o <;> first | rfl | (cases o <;> rfl))
theorem x_sf3 : kSF3 c i l u S (some (.ins c fus)) = some (S.set l (.ins c (fus.set i (some u)))) := by
  unfold kSF3; dsimp only; rw [if_pos rfl]
def kMeth3 (g : Fn) (l : Nat) (q : List U × Sto) := g (.ref l :: q.1) q.2
open Classical in
noncomputable def kMeth2 (c : Cl) (g : Fn) (cr : CA) (ρ : Rho) (l : Nat) (S : Sto) : Option O → Option (U × Sto)
  | some (.ins c' _) => if c' = c then (cr ρ S).bind (kMeth3 g l) else none
  | _ => none
noncomputable def kMeth (c : Cl) (g : Fn) (cr : CA) (ρ : Rho) (p : U × Sto) := fMeth c g p.1 p.2 (cr ρ)
theorem x_meth : cMeth c g ca cr ρ S = (ca ρ S).bind (kMeth c g cr ρ) := rfl
theorem x_meth1 : kMeth c g cr ρ (.ref l, S) = kMeth2 c g cr ρ l S S[l]? := by
  unfold kMeth fMeth kMeth2; dsimp only <;> (generalize S[l]? = q; rcases q with _ | o <;> first | rfl | (cases o <;> rfl))
theorem x_meth2 : kMeth2 c g cr ρ l S (some (.ins c fus)) = (cr ρ S).bind (kMeth3 g l) := by
  unfold kMeth2; dsimp only; rw [if_pos rfl]
theorem x_meth3 : kMeth3 g l (us, S) = g (.ref l :: us) S := rfl
def kMake (n : Nat) : U × Sto → Option (U × Sto)
  | (.non, S) => some (.ref n, S)
  | _ => none
theorem x_make : fMake c g us S = (g (.ref S.length :: us) (S ++ [.ins c (List.replicate c.ns.length none)])).bind (kMake S.length) := by
  unfold fMake; congr 1; funext p; obtain ⟨u, S⟩ := p; cases u <;> rfl
theorem x_make1 : kMake i (.non, S) = some (.ref i, S) := rfl
def kIn (neg : Bool) (x : U) (S : Sto) : Option O → Option (U × Sto)
  | some (.lst us) => if flatU x = true ∧ us.all flatU = true then some (.bl (if neg then !inU x us else inU x us), S) else none
  | some (.dic kus) => (keyU x).bind fun k => some (.bl (if neg then !(valG kus k).isSome else (valG kus k).isSome), S)
  | some (.fdc _ kus) => (keyU x).bind fun k => some (.bl (if neg then !(valG kus k).isSome else (valG kus k).isSome), S)
  | _ => none
theorem x_inr {neg : Bool} : fIn neg x (.ref l) S = kIn neg x S S[l]? := by
  unfold fIn kIn; dsimp only <;> (generalize S[l]? = q; rcases q with _ | o <;> first | rfl | (cases o <;> rfl))
theorem x_ind {neg : Bool} {kus : List (Key × U)} : kIn neg x S (some (.dic kus)) = (keyU x).bind fun k => some (.bl (if neg then !(valG kus k).isSome else (valG kus k).isSome), S) := rfl
theorem x_inl {neg : Bool} (h : flatU x = true ∧ us.all flatU = true) : kIn neg x S (some (.lst us)) = some (.bl (if neg then !inU x us else inU x us), S) := by
  unfold kIn; dsimp only; rw [if_pos h]
theorem x_key {j : Int} : keyU (.int j) = some (.inl j) := rfl
theorem x_keys {z : Str} : keyU (.str z) = some (.inr z) := rfl
def kBM2 (f : U → List U → Sto → Option (U × Sto)) (x : U) (q : List U × Sto) := f x q.1 q.2
def kBM1 (f : U → List U → Sto → Option (U × Sto)) (cr : CA) (ρ : Rho) (x : U) (S : Sto) : Option O → Option (U × Sto)
  | some (.lst _) => (cr ρ S).bind (kBM2 f x)
  | _ => none
def kBM (f : U → List U → Sto → Option (U × Sto)) (cr : CA) (ρ : Rho) : U × Sto → Option (U × Sto)
  | (.ref l, S) => kBM1 f cr ρ (.ref l) S S[l]?
  | _ => none
variable {fm : U → List U → Sto → Option (U × Sto)}
theorem x_bm : cBM fm ca cr ρ S = (ca ρ S).bind (kBM fm cr ρ) := by
  unfold cBM; congr 1; funext p; obtain ⟨u, S⟩ := p
  cases u <;> try rfl
theorem x_bm0 : kBM fm cr ρ (.ref l, S) = kBM1 fm cr ρ (.ref l) S S[l]? := rfl
theorem x_bm1 : kBM1 fm cr ρ x S (some (.lst us)) = (cr ρ S).bind (kBM2 fm x) := rfl
theorem x_bm2 : kBM2 fm x (us, S) = fm x us S := rfl
def kApp (l : Nat) (u : U) (S : Sto) : Option O → Option (U × Sto)
  | some (.lst us) => if us.length < LIM then some (.non, S.set l (.lst (us ++ [u]))) else none
  | _ => none
theorem x_app : fAppend (.ref l) [u] S = kApp l u S S[l]? := by
  unfold fAppend kApp; dsimp only <;> (generalize S[l]? = q; rcases q with _ | o <;> first | rfl | (cases o <;> rfl))
theorem x_app1 (h : us.length < LIM) : kApp l u S (some (.lst us)) = some (.non, S.set l (.lst (us ++ [u]))) := by
  unfold kApp; dsimp only; rw [if_pos h]
def kDG3 (ku xu : U) (S : Sto) : Option O → Option (U × Sto)
  | some (.dic kus) => (keyU ku).bind fun k => some ((valG kus k).getD xu, S)
  | _ => none
def kDG2 (l : Nat) (ku : U) (r : U × Sto) := kDG3 ku r.1 r.2 r.2[l]?
def kDG1 (l : Nat) (cx : CE) (ρ : Rho) (q : U × Sto) := (cx ρ q.2).bind (kDG2 l q.1)
def kDG0 (l : Nat) (ck cx : CE) (ρ : Rho) (S : Sto) : Option O → Option (U × Sto)
  | some (.dic _) => (ck ρ S).bind (kDG1 l cx ρ)
  | _ => none
def kDG (ck cx : CE) (ρ : Rho) : U × Sto → Option (U × Sto)
  | (.ref l, S) => kDG0 l ck cx ρ S S[l]?
  | _ => none
theorem x_dg : cDGet ca cb cc ρ S = (ca ρ S).bind (kDG cb cc ρ) := by
  unfold cDGet; congr 1; funext p; obtain ⟨u, S⟩ := p
  cases u <;> try rfl
theorem x_dg0 : kDG cb cc ρ (.ref l, S) = kDG0 l cb cc ρ S S[l]? := rfl
theorem x_dg1 {kus : List (Key × U)} : kDG0 l cb cc ρ S (some (.dic kus)) = (cb ρ S).bind (kDG1 l cc ρ) := rfl
theorem x_dg2 : kDG1 l cc ρ (u, S) = (cc ρ S).bind (kDG2 l u) := rfl
theorem x_dg3 : kDG2 l u (x, S) = kDG3 u x S S[l]? := rfl
theorem x_dg4 {kus : List (Key × U)} : kDG3 u x S (some (.dic kus)) = (keyU u).bind fun k => some ((valG kus k).getD x, S) := rfl
theorem x_dnew : cDNew ρ S = some (.ref S.length, S ++ [.dic []]) := rfl
def kP3 (k : Key) (u : U) (z : List (Key × U) × Sto) : Option (List (Key × U) × Sto) := some ((k, u) :: z.1, z.2)
def kP2 (r : List (CE × CE)) (ρ : Rho) (x : U) (q : U × Sto) := (keyU x).bind fun k => (pairsC r ρ q.2).bind (kP3 k q.1)
def kP1 (cv : CE) (r : List (CE × CE)) (ρ : Rho) (p : U × Sto) := (cv ρ p.2).bind (kP2 r ρ p.1)
variable {pr : List (CE × CE)}
theorem x_p0 : pairsC [] ρ S = some ([], S) := rfl
theorem x_p : pairsC ((ca, cb) :: pr) ρ S = (ca ρ S).bind (kP1 cb pr ρ) := rfl
theorem x_p1 : kP1 cb pr ρ (u, S) = (cb ρ S).bind (kP2 pr ρ u) := rfl
theorem x_p2 : kP2 pr ρ x (u, S) = (keyU x).bind fun k => (pairsC pr ρ S).bind (kP3 k u) := rfl
theorem x_p3 {k : Key} {z : List (Key × U)} : kP3 k u (z, S) = some ((k, u) :: z, S) := rfl
def kD1 (n : Nat) (kus : List (Key × U)) (S : Sto) : Option O → Option (U × Sto)
  | some (.dic []) => some (.ref n, S.set n (.dic (mergeG kus)))
  | _ => none
def kD (n : Nat) (q : List (Key × U) × Sto) := kD1 n q.1 q.2 q.2[n]?
theorem x_disp : cDisp pr ρ S = (pairsC pr ρ (S ++ [.dic []])).bind (kD S.length) := by
  unfold cDisp; congr 1
theorem x_disp1 {z : List (Key × U)} : kD i (z, S) = kD1 i z S S[i]? := rfl
theorem x_disp2 {z : List (Key × U)} : kD1 i z S (some (.dic [])) = some (.ref i, S.set i (.dic (mergeG z))) := rfl
theorem x_tupt : fTuple [.tup us] S = some (.tup us, S) := rfl
def kTpl (S : Sto) : Option O → Option (U × Sto)
  | some (.lst us) => some (.tup us, S)
  | _ => none
theorem x_tupr : fTuple [.ref l] S = kTpl S S[l]? := by
  unfold fTuple kTpl; dsimp only <;> (generalize S[l]? = q; rcases q with _ | o <;> first | rfl | (cases o <;> rfl))
theorem x_tupl : kTpl S (some (.lst us)) = some (.tup us, S) := rfl
theorem x_listt : fList [.tup us] S = some (.ref S.length, S ++ [.lst us]) := rfl
def kLs (S : Sto) : Option O → Option (U × Sto)
  | some (.lst us) => some (.ref S.length, S ++ [.lst us])
  | _ => none
theorem x_listr : fList [.ref l] S = kLs S S[l]? := by
  unfold fList kLs; dsimp only <;> (generalize S[l]? = q; rcases q with _ | o <;> first | rfl | (cases o <;> rfl))
theorem x_listl : kLs S (some (.lst us)) = some (.ref S.length, S ++ [.lst us]) := rfl
theorem x_intb : fInt [.bl b] S = some (.int (if b then 1 else 0), S) := rfl
theorem ga {X : Sto} {n : Nat} : (S ++ X)[S.length + n]? = X[n]? := by rw [List.getElem?_append_right (Nat.le_add_right _ _), Nat.add_sub_cancel_left]
theorem ga0 {X : Sto} : (S ++ X)[S.length]? = X[0]? := ga (n := 0)
theorem gs {X : Sto} {n : Nat} {o : O} : (S ++ X).set (S.length + n) o = S ++ X.set n o := by rw [List.set_append_right _ _ (Nat.le_add_right _ _), Nat.add_sub_cancel_left]
theorem gs0 {X : Sto} {o : O} : (S ++ X).set S.length o = S ++ X.set 0 o := gs (n := 0)
section
variable {ok : Sto → Prop} {gg : CG} {cbd : CS} {ρ0 ρ1 : Rho} {S0 S1 : Sto}
theorem loop_nil (h : ok S) : loopU ok gg cbd [] ρ S = some (.nx, ρ, S) := by unfold loopU; rw [if_pos h]
theorem loop_nx (h : ok S) (hg : gg u ρ S = some (ρ0, S0)) (hb : cbd ρ0 S0 = some (.nx, ρ1, S1)) : loopU ok gg cbd (u :: us) ρ S = loopU ok gg cbd us ρ1 S1 := by
  rw [loopU]; dsimp only; rw [if_pos h, hg, Option.bind_some]; dsimp only; rw [hb, Option.bind_some]
theorem comp_cons {ce : CE} {ys : List U} (h : ok S) (hg : gg u ρ S = some (ρ0, S0)) (he : ce ρ0 S0 = some (x, S1)) (hl : S1[l]? = some (.lst ys)) (hn : ys.length < LIM) : compU ok gg ce l (u :: us) ρ S = compU ok gg ce l us ρ0 (S1.set l (.lst (ys ++ [x]))) := by
  rw [compU, if_pos h, hg, Option.bind_some]; dsimp only; rw [he, Option.bind_some]; dsimp only; rw [hl]; dsimp only; rw [if_pos hn]
theorem comp_nil {ce : CE} (h : ok S) : compU ok gg ce l [] ρ S = some S := by rw [compU, if_pos h]
end
end
end OP
namespace OP
open PySem PySem.Spec PyProof.Rows L2 OG
theorem law_end {K : PySem.W.Frag} {H : Hp} {p xs : Addr} {c : CS} {r : Rho} {σ : L2.St} {v0 : Option V} {Q : VK} {nx bk ct : L2.St → Hp → Prop} (P : PenX H p xs)
    (ok : ∀ (ns : List Int) (a b : Int), 0 ≤ a → 0 ≤ b → ∃ ρ' S', c (none :: some (.ref 1) :: r) [.lst (ns.map U.int), .lst [.ref 0, .int a, .int b]] = some (.rt (.bl true), ρ', S')) (q : ∀ H', Q (.bl true) H')
    (hr : r = List.replicate r.length none := by rfl) (hl : σ.length = r.length := by rfl) : tS K c { nx := nx, rt := Q, bk := bk, ct := ct } (v0 :: some (.ref p) :: σ) H := by
  obtain ⟨ns, a, b, h1, h2, h3, h4, h5⟩ := P
  obtain ⟨ρ', S', e⟩ := ok ns a b h4 h5
  refine ⟨[xs, p], _, _, _, ρ', S', ⟨rfl, by simp [h3], fun l ad o e1 e2 => ?_⟩, ⟨by simp [hl], fun i u e1 => ?_⟩, e, fun m' v H' _ _ iv => by rw [iv.of_bl]; exact q H'⟩
  · match l, e1, e2 with
    | 0, e1, e2 =>
      simp at e1 e2
      subst e1; subst e2
      exact ⟨_, h2, isL_ints ns⟩
    | 1, e1, e2 =>
      simp at e1 e2
      subst e1; subst e2
      exact ⟨_, h1, .cons_ (.ref_ rfl) (.cons_ .int_ (.cons_ .int_ .nil_))⟩
    | l + 2, e1, e2 => simp at e1
  · match i, e1 with
    | 0, e1 => simp at e1
    | 1, e1 =>
      simp at e1
      subst e1
      exact ⟨.ref p, rfl, .ref_ rfl⟩
    | i + 2, e1 =>
      simp at e1
      rw [hr, List.getElem?_replicate] at e1
      split at e1 <;> cases e1
end OP
namespace OP
end OP
set_option maxHeartbeats 1000000
namespace OP
open PySem PySem.Spec PyProof.Rows L2 OG
def FzAt (H : Hp) (a : Addr) (ep : Nat) (ks : List Key) : Prop := ∃ ob es kvs, H a = some (.frz ob (.dK kvs)) ∧ ob.data = .dict es ep ∧ kvs.map (·.1) = ks
def Itd (a : Addr) (ep : Nat) (ks : List Key) : It :=
  ⟨fun i H => i < ks.length ∧ FzAt H a ep ks, fun i H x H' => H' = H ∧ ∃ k, ks[i]? = some k ∧ x = kV k, fun i H => ks.length ≤ i ∧ FzAt H a ep ks⟩
theorem frz_at {P : Program} {w : World} {H : Hp} {h : Heap} {a : Addr} {ob : Obj} {kvs : List (Key × V)} {es : Array DictEntry} {ep : Nat} (ok : HOk P w H h) (e : H a = some (.frz ob (.dK kvs))) (d : ob.data = .dict es ep) : ∃ vs, KV kvs vs ∧ h.DictAt (mixKind P w) a vs ep := by
  obtain ⟨e1, _, _, vs, r, o, es', ep', e2, e3, e4, rest⟩ := (show ObjOk P w H h a (.frz ob (.dK kvs)) from ok a _ e)
  rw [e1] at e2; cases e2
  rw [d] at e4; cases e4
  exact ⟨vs, r, ob, es, e1, e3, d, rest⟩
theorem kv_get {κ : Type} : ∀ {kvs : List (κ × V)} {vs : List (κ × Value)} {i : Nat} {k : κ} {v : V}, KV kvs vs → kvs[i]? = some (k, v) → ∃ u, vs[i]? = some (k, u)
  | _, _, i, k, v, .nil, h => by simp at h
  | _, _, 0, k, v, .cons (b := (k', u)) r t, h => by
    simp at h; subst h
    have : k = k' := r.1
    subst this
    exact ⟨u, by simp⟩
  | _, _, i + 1, k, v, .cons r t, h => by
    obtain ⟨u, e⟩ := kv_get (i := i) t (by simpa using h)
    exact ⟨u, by simpa using e⟩
theorem key_rel {k : Key} {u : Value} (h : keyIs k u = true) : RelV (kV k) u := by
  rcases keyIs_shape h with ⟨i, t, rfl, rfl⟩ | ⟨i, t, rfl, rfl⟩
  · exact ⟨t, rfl⟩
  · exact ⟨t, rfl⟩
theorem turn_dict {P : Program} {w : World} {K : PySem.W.Frag} {tg : Expr} (a it : Addr) {ks : List Key} {ep : Nat} :
    Turn P w K tg (Itd a ep ks) [it] it (fun n h => h.IsKeyIter it a n ks.length ep) where
  mem := by simp
  obj := fun n h st c hc => by
    simp only [List.mem_cons, List.not_mem_nil, or_false] at hc
    subst hc
    obtain ⟨o, e, _, q⟩ := st
    exact ⟨o, e, fun v z => by rw [q] at z; cases z⟩
  keep := fun n h h' st kp => Heap.IsKeyIter.at st fun o q => kp it (by simp) o q
  item := by
    intro X hP hw hK hc n pins s σ H E Iv hf st hg
    subst hP hw hK
    obtain ⟨hi, ob, es, kvs, hq, d, ek⟩ := hg
    obtain ⟨vs, rv, da⟩ := frz_at Iv.hok hq d
    have hl : ks.length = vs.length := by rw [← ek, List.length_map]; exact Paired.length rv
    have hi' : n < kvs.length := by rw [← ek, List.length_map] at hi; exact hi
    have hx : kvs[n]? = some ((kvs[n]).1, (kvs[n]).2) := List.getElem?_eq_getElem hi'
    obtain ⟨u, hu⟩ := kv_get rv hx
    obtain ⟨f0, f1, f2, f3⟩ := hf it (by simp)
    have st' : s.heap.IsKeyIter it a n vs.length ep := by rw [← hl]; exact st
    refine wpAny_pyNext_dict_item st' da hu fun key h1 hk st1 sb => ⟨key, rfl, ?_⟩
    have I1 : Inv X pins σ H { s with heap := h1 } := Iv.turned (t' := s.toks) (fun b o hb e => (sb.2 b hb).trans e) f0 f1 f3.1 f3.2.1 f3.2.2
    have st2 : h1.IsKeyIter it a (n + 1) ks.length ep := by rw [hl]; exact st1
    obtain ⟨o, e, c, q⟩ := id st2
    exact go_of (s := { s with heap := h1 }) e c q (by decide) ⟨kV (kvs[n]).1, H, I1, key_rel hk, ⟨rfl, _, by rw [← ek, List.getElem?_map, hx]; rfl, rfl⟩, st2, fun b hb => (hf b hb).1⟩
  done := by
    intro X hP hw hK hc n pins s σ H E Iv hf st hg
    subst hP hw hK
    obtain ⟨hi, ob, es, kvs, hq, d, ek⟩ := hg
    obtain ⟨vs, rv, da⟩ := frz_at Iv.hok hq d
    have hl : ks.length = vs.length := by rw [← ek, List.length_map]; exact Paired.length rv
    obtain ⟨f0, f1, f2, f3⟩ := hf it (by simp)
    have st' : s.heap.IsKeyIter it a n vs.length ep := by rw [← hl]; exact st
    exact wpAny_pyNext_dict_end (Iv.ok.hd hc) st' da (by rw [List.getElem?_eq_none_iff]; omega) fun h1 eb => ⟨rfl, Iv.turned (t' := s.toks) (fun b o hb e => eb b o hb e) f0 f1 f3.1 f3.2.1 f3.2.2⟩
  self := fun _ _ _ _ _ st h => wpAny_pyIter_keyiter st h
theorem inv_swap {X : Cx} {pins : List (Addr × Obj)} {σ : L2.St} {H : Hp} {s : Shared} {a : Addr} {o u : HO} (I : Inv X pins σ H s) (e : H a = some o) (nt : ∀ xs, o ≠ .tup xs) (no : ∀ x, o ≠ .own x) (nb : ∀ ps, o ≠ .tbl ps)
    (nf : ∀ ob u, X.H₀ a ≠ some (.frz ob u)) (new : ObjOk X.prog X.w (upd H a u) s.heap a u) : Inv X pins σ (upd H a u) s := by
  have nn : ∀ b, H b = none → upd H a u b = none := fun b q => by rw [upd_ne (Ne.symm (ne_of_none e q))]; exact q
  have ho : ∀ b x, H b = some (.own x) → upd H a u b = some (.own x) := fun b x q => by
    rw [upd_ne]; exact q
    intro z; subst z; rw [e] at q; cases q; exact no _ rfl
  have ht : ∀ b xs, H b = some (.tup xs) → upd H a u b = some (.tup xs) := fun b x q => by
    rw [upd_ne]; exact q
    intro z; subst z; rw [e] at q; cases q; exact nt _ rfl
  refine ⟨I.ok, I.os, I.bare, ⟨I.base.keep, I.base.slot, fun b ob q1 q2 q3 => nn _ (I.base.free b ob q1 q2 q3), I.base.there, fun b xs q => ht _ _ (I.base.tups b xs q), fun b ob v q => ?_, fun b ps q => ?_⟩, I.loc, I.cell, nn _ I.free, fun x c q => nn _ (I.freeC x c q), fun p hp => ?_, fun b v q => ?_, I.len⟩
  · rw [upd_ne]; exact I.base.frzs b ob v q
    intro z; subst z; exact nf _ _ q
  · obtain ⟨more, q'⟩ := I.base.tbls b ps q
    refine ⟨more, ?_⟩
    rw [upd_ne]; exact q'
    intro z; subst z; rw [e] at q'; cases q'; exact nb _ rfl
  · obtain ⟨p1, p2, p3⟩ := I.pin p hp
    exact ⟨p1, nn _ p2, p3⟩
  · by_cases hb : b = a
    · subst hb; rw [upd_same] at q; cases q; exact new
    · rw [upd_ne hb] at q
      exact (I.hok b v q).stay (fun _ _ _ g => g) (fun c g => ho c b g) fun c xs g => ht c xs g
def NoFr (X : Cx) (a : Addr) : Prop := ∀ ob u, X.H₀ a ≠ some (.frz ob u)
def iDict (X : Cx) (tl : TE) : TI := fun σ H R => tl σ H fun x H1 => ∃ a kvs, x = .ref a ∧ H1 a = some (.dK kvs) ∧ ∀ ob es ep, NoFr X a → ob.data = .dict es ep → R (Itd a ep (kvs.map (·.1))) (upd H1 a (.frz ob (.dK kvs)))
theorem wi_dict {X : Cx} {tg l : Expr} {tl : TE} (hl : WE X l tl) : WI X tg l (iDict X tl) := by
  constructor
  intro pins s σ H R I h
  refine thn (hl.h pins s σ H _ I h) fun v s1 ⟨x, H1, I1, r1, q1⟩ => ?_
  obtain ⟨a, kvs, rfl, hq, q⟩ := q1
  cases r1
  obtain ⟨hz, hs, vs, rv, ob, es, ep, e1, e2, e3, rest⟩ := dk_of I1.hok hq
  have da : s1.heap.DictAt (mixKind X.prog X.w) a vs ep := ⟨ob, es, e1, e2, e3, rest⟩
  have hl : kvs.length = vs.length := Paired.length rv
  have nf : NoFr X a := fun ob' u' z => by have := I1.base.frzs a ob' u' z; rw [hq] at this; cases this
  have I2 : Inv X pins σ (upd H1 a (.frz ob (.dK kvs))) s1 := inv_swap I1 hq (by simp) (by simp) (by simp) nf ⟨e1, hz, hs, vs, rv, ob, es, ep, e1, e2, e3, rest⟩
  refine wpAny_pyIter_dict hs da ?_
  refine ⟨s1.heap.objs.size, [s1.heap.objs.size], _, _, _, rfl, I2.kept (t' := s1.toks) fun b o g => Heap.get?_push_of_some _ g, turn_dict a _, ⟨_, Heap.get?_push_size _ rfl, rfl, by rw [List.length_map, hl]; rfl⟩, fun b hb => ?_, q ob es ep nf e3⟩
  simp only [List.mem_cons, List.not_mem_nil, or_false] at hb
  subst hb
  exact I2.fpOk (Nat.le_refl _) (I2.hok.fresh (Nat.le_refl _))
theorem inv_thaw {X : Cx} {pins : List (Addr × Obj)} {σ : L2.St} {H : Hp} {s : Shared} {a : Addr} {ob : Obj} {kvs : List (Key × V)} (I : Inv X pins σ H s) (nf : NoFr X a) (e : H a = some (.frz ob (.dK kvs))) : Inv X pins σ (upd H a (.dK kvs)) s :=
  inv_swap I e (by simp) (by simp) (by simp) nf (show ObjOk X.prog X.w H s.heap a (.frz ob (.dK kvs)) from I.hok a _ e).2
def kU : Key → U
  | .inl i => .int i
  | .inr x => .str x
theorem is_key {K : PySem.W.Frag} {m : List Addr} {H : Hp} (k : Key) : Is K m H (kV k) (kU k) := by
  cases k with
  | inl i => exact .int_
  | inr x => exact .str_
open Classical in
noncomputable def uni {α : Type} (F : Nat → Option α) : Option α := if h : ∃ r, ∀ n, F n = some r then some h.choose else none
theorem uni_of {α : Type} {F : Nat → Option α} {r : α} (h : ∀ n, F n = some r) : uni F = some r := by
  have hx : ∃ r, ∀ n, F n = some r := ⟨r, h⟩
  unfold uni
  rw [dif_pos hx]
  have := hx.choose_spec 0
  rw [h 0] at this
  exact this.symm
theorem uni_some {α : Type} {F : Nat → Option α} {r : α} (h : uni F = some r) (n : Nat) : F n = some r := by
  unfold uni at h
  split at h
  · rename_i hx
    cases h
    exact hx.choose_spec n
  · cases h
theorem it_dict {K : PySem.W.Frag} {m : List Addr} {H : Hp} {a : Addr} {l ep : Nat} {kus : List (Key × U)} (ha : m[l]? = some a) : ItOk K (Itd a ep (kus.map (·.1))) m H (kus.map fun q => kU q.1) (fun S' => S'[l]? = some (.fdc ep kus)) := by
  intro m2 S2 H2 i e sr hok
  obtain ⟨a', ha', ob, es, kvs, hx, hd, ip⟩ := sr.get hok
  have ha2 := e.get ha
  rw [ha2] at ha'; cases ha'
  have hz : FzAt H2 a ep (kus.map (·.1)) := ⟨ob, es, kvs, hx, hd, ip.1⟩
  refine ⟨fun u hu => ?_, fun hu => ⟨by simpa using hu, hz⟩⟩
  have hi : i < kus.length := by have := (List.getElem?_eq_some_iff.mp hu).1; simpa using this
  refine ⟨⟨by simpa using hi, hz⟩, ?_⟩
  rintro x H3 ⟨rfl, k, hk, rfl⟩
  refine ⟨.refl, sr, ?_⟩
  rw [List.getElem?_map] at hk hu
  rw [List.getElem?_eq_getElem hi] at hk hu
  cases hk; cases hu
  exact is_key _
end OP
set_option maxHeartbeats 1000000
namespace OG
open PySem PySem.Spec PyProof.Rows L2
def tCompIf (wi : TI) (g : TG) (tt : TT) (te : TE) (n : Nat) (caps : List Nat) : TE := fun σ H Q => wi σ H fun J H1 => ∀ l, H1 l = none → ∃ W : Nat → Nat → L2.St → Hp → Prop, (∃ m, W 0 m (stC n caps σ) (upd H1 l (.lst []))) ∧
  ∀ i m σ' H2, W i m σ' H2 → (J.stop i H2 ∧ Q (.ref l) H2) ∨ (J.go i H2 ∧ ∃ N : L2.St → Hp → Prop, (∀ σ'' H', N σ'' H' → ∃ m', m' < m ∧ W (i + 1) m' σ'' H') ∧
    ∀ x H3, J.yld i H2 x H3 → g x σ' H3 fun σ2 H4 => tt σ2 H4 fun b H5 => match b with
      | true => te σ2 H5 fun v H6 => ∃ ys, H6 l = some (.lst ys) ∧ ys.length < sizeLine ∧ N σ2 (upd H6 l (.lst (ys ++ [v])))
      | false => N σ2 H5)
theorem compLoopIf_any {prog : Program} {w : World} {A : Around} {R : Result → Shared → Prop} {s : Shared} {elt target iter c : Expr} {scope : Scope} {pos : Pos} {it acc : Value} {env : Env} (I : Nat → Shared → Prop)
    (turn : ∀ n s, I n s → wpAny (model prog w) A (pyNext it) (fun r s₁ => match r with
      | none => R (.ok .next) s₁
      | some v => wpAny (model prog w) A (letOwnedTupleGo target it v) (fun _ s₁' => wpAny (model prog w) A (assign target env v) (fun _ s₂ => wpAny (model prog w) A (PySem.isTrue c env (eval c env)) (fun b s₂' => match b with
        | true => wpAny (model prog w) A (eval elt env) (fun x s₃ =>
          wpAny (model prog w) A (call (.builtin "list.append") [acc, x]) (fun _ s₄ => ∃ m, m < n ∧ I m s₄) (fun _ _ => False) s₃)
          (fun _ _ => False) s₂'
        | false => ∃ m, m < n ∧ I m s₂') (fun _ _ => False) s₂) (fun _ _ => False) s₁') (fun _ _ => False) s₁) (fun _ _ => False) s)
    (n : Nat) (h : I n s) :
    codeAny (model prog w) A (.compLoop (.ListComp elt [⟨target, iter, [c], 0⟩] scope pos) 0 it acc env) R s := by
  refine codeAny_loop rfl I (fun n s hI => ?_) n h
  show wpAny _ _ ((compTurn (.ListComp elt [⟨target, iter, [c], 0⟩] scope pos) 0 it acc env).onRaise (fun x => do noteFrame x env; theTreesLotGoes x)) _ _ s
  refine wpAny_noted ?_
  rw [compTurn_list]
  refine wpAny_bind (wpAny_standAt (wpAny_bind (wpAny_mono (turn n s hI) (fun r s₁ h₁ => ?_) fun _ _ h' => h'.elim)))
  cases r with
  | none => exact wpAny_pure h₁
  | some v =>
    refine wpAny_bind (wpAny_mono h₁ (fun _ s₁' h₁' => ?_) fun _ _ h' => h'.elim)
    refine wpAny_bind (wpAny_mono h₁' (fun _ s₂ h₂ => ?_) fun _ _ h' => h'.elim)
    dsimp only
    simp only [List.forIn_cons, List.forIn_nil, if_true, bind_assoc, pure_bind]
    refine wpAny_bind (wpAny_mono h₂ (fun b s₂' h₂' => ?_) fun _ _ h' => h'.elim)
    cases b with
    | true =>
      rw [if_pos rfl]
      exact wpAny_bind (wpAny_mono h₂' (fun x s₃ h₃ => wpAny_bind (wpAny_mono h₃
        (fun _ s₄ h₄ => wpAny_pure ⟨rfl, h₄⟩) fun _ _ h' => h'.elim)) fun _ _ h' => h'.elim)
    | false =>
      rw [if_neg Bool.false_ne_true]
      exact wpAny_pure ⟨rfl, h₂'⟩
theorem compIf_gen {X : Cx} {Nc capN tn : List Str} {scope : Scope} {cl : List (Str × Addr)} {n : Nat} {caps : List Nat} {tg iter elt : Expr} {pos : Pos} {wi : TI} {g : TG} {te : TE} {tt : TT} {c : Expr}
    (hc : X.calm = true) (hi : WI X tg iter wi) (hg : ∀ s3 H3 fp, WG (cxC X Nc scope cl s3 H3 fp) tg g) (he : ∀ s3 H3 fp, WE (cxC X Nc scope cl s3 H3 fp) elt te)
    (ht : ∀ s3 H3 fp, WT (cxC X Nc scope cl s3 H3 fp) c tt)
    (hclos : closureFor scope X.env = pure cl) (hkind : scope.kind = .function) (hnl : ∀ x ∈ scope.names, x.2 = .local → scope.names.lookup x.1 = some .local) (hcell : ∀ x ∈ scope.names, x.2 ≠ .cell)
    (hcl : AllC X.env cl) (hhas : ((relabel scope X.env).names.all fun p => !(p.2 == .cell || p.2 == .free) || (cl.lookup p.1).isSome) = true)
    (hcap : Paired (Cap X scope cl) caps capN) (hN : Nc = tn ++ capN) (hn : tn.length = n)
    {use : Option (Value → Sem Unit)} {pins : List (Addr × Obj)} {σ : L2.St} {H : Hp} {s : Shared} {Q : VK} {Qf : Value → Shared → Prop} (I : Inv X pins σ H s) (h : tCompIf wi g tt te n caps σ H Q)
    (hend : ∀ (D C : Addr) (s6 : Shared) (H5 : Hp) (m : Str → Option Value), Inv X pins σ H5 s6 → s6.heap.Ns C m → H5 C = none → C ≠ X.env.locals → X.s₀.heap.objs.size ≤ C → (∀ x c, X.env.cells.lookup x = some c → c ≠ C) → (∀ p ∈ X.pn ++ pins, p.1 ≠ C) → Q (.ref D) H5 → compPost (model X.prog X.w) X.A X.xe use Qf (.ref D) C (.ok .next) s6)
    (hs : ∀ x, foldedSetIterable iter X.env x = pure x) :
    wpAny (model X.prog X.w) X.A (comprehension (.ListComp elt [⟨tg, iter, [c], 0⟩] scope pos) scope X.env (firstIterPos [⟨tg, iter, [c], 0⟩] pos) (newList []) (firstAsync [⟨tg, iter, [c], 0⟩]) (firstIter [⟨tg, iter, [c], 0⟩] X.env) use) Qf X.xe s := by
  refine wpAny_comprehension_free (use := use) (g := ⟨tg, iter, [c], 0⟩) (gs := []) rfl hs hclos hkind hnl (thn (hi.h pins s σ H _ I h) fun v s1 h1 => thn h1 fun itv s2 h2 => ?_)
  obtain ⟨it, fp, tnn, J, H2, rfl, I2, T, st2, f2, hW⟩ := h2
  have hD := I2.fresh
  obtain ⟨W, ⟨m0, w0⟩, turn⟩ := hW _ hD
  refine wpAny_newObj_type (wpAny_newFunctionEnv hcell (by intro y hy; simp at hy) (fun h₁ hns₁ hsb₁ => ?_) hkind)
  dsimp only at hns₁ hsb₁ ⊢
  have I3 : Inv X pins σ (upd H2 s2.heap.objs.size (.lst [])) { s2 with heap := s2.heap.push { cls := .type "list", dict := none, data := .seq ([] : List Value).toArray }, toks := s2.toks } := I2.lnew (its := []) .nil (Nat.zero_le _)
  generalize hs3 : ({ s2 with heap := s2.heap.push { cls := .type "list", dict := none, data := .seq ([] : List Value).toArray }, toks := s2.toks } : Shared) = s3 at I3
  have es3 : s3.heap = s2.heap.push { cls := .type "list", dict := none, data := .seq ([] : List Value).toArray } := by rw [← hs3]
  generalize hDD : s2.heap.objs.size = D at *
  have kept : ∀ b o, s3.heap.get? b = some o → h₁.get? b = some o := fun b o e => by
    have lt := Heap.lt_size e
    rw [es3] at lt e
    exact hsb₁.extBut b o (Nat.ne_of_lt lt) (Heap.get?_push_of_some _ e)
  have old : ∀ b o, s2.heap.get? b = some o → s3.heap.get? b = some o := fun b o e => by rw [es3]; exact Heap.get?_push_of_some _ e
  have ltD : ∀ b ∈ fp, b < D := fun b hb => by
    obtain ⟨o, e, _⟩ := T.obj 0 _ st2 b hb
    rw [← hDD]; exact Heap.lt_size e
  have fo : ∀ b ∈ fp, b < s3.heap.objs.size := fun b hb => by
    obtain ⟨o, e, _⟩ := T.obj 0 _ st2 b hb
    exact Heap.lt_size (old _ _ e)
  have f3 : ∀ b ∈ fp, FpOk X pins (upd H2 D (.lst [])) b := fun b hb => by
    refine ⟨?_, (f2 b hb).2⟩
    rw [upd_ne (Nat.ne_of_lt (ltD b hb))]
    exact (f2 b hb).1
  rw [← es3] at hns₁ hsb₁ ⊢
  have Ic := fun t' => Inv.comp (h1 := h₁) (t' := t') (Nc := Nc) (n := n) I3 hc f3 fo hkind hcl hhas hcap tn hN hn hns₁ kept
  have stat : ∀ {H' : Hp}, (∀ b ∈ fp, H' b = none) → ∀ b ∈ fp, FpOk (cxC X Nc scope cl s3 (upd H2 D (.lst [])) fp) [] H' b := fun hn' b hb => by
    refine ⟨hn' b hb, Nat.ne_of_lt (fo b hb), fun z => ?_, .inl hb, fun x c e => (f2 b hb).2.2.2.2.1 x c (hcl.look e), fun p hp => (by simp at hp)⟩
    rcases List.mem_cons.mp (I3.stkSub b z) with q | q
    · exact (f2 b hb).2.1 q
    · exact (f2 b hb).2.2.1 q
  have loop : ∀ s4 : Shared, (∃ t', s4 = { s3 with heap := h₁, toks := t' }) → codeAny (model X.prog X.w) X.A (.compLoop (.ListComp elt [⟨tg, iter, [c], 0⟩] scope pos) 0 (.ref it) (.ref D) (compEnvC scope cl s3.heap.objs.size X.env))
      (compPost (model X.prog X.w) X.A X.xe use Qf (.ref D) s3.heap.objs.size) s4 := by
    rintro s4 ⟨t', rfl⟩
    refine compLoopIf_any (fun n' s' => ∃ i σ' H', Inv (cxC X Nc scope cl s3 (upd H2 D (.lst [])) fp) [] σ' H' s' ∧ tnn i s'.heap ∧ (∀ b ∈ fp, H' b = none) ∧ W i n' σ' H') ?_ m0
      ⟨0, _, _, Ic t', T.keep 0 _ _ st2 fun b hb o e => kept _ _ (old _ _ e), fun b hb => (f3 b hb).1, w0⟩
    rintro n' s5 ⟨i, σ5, H5, I5, st5, fr5, w5⟩
    rcases turn i n' σ5 H5 w5 with ⟨stop, qn⟩ | ⟨go, N, hN', step⟩
    · refine thn (T.done (cxC X Nc scope cl s3 (upd H2 D (.lst [])) fp) rfl rfl rfl hc i [] s5 σ5 H5 (fun _ _ => False) I5 (stat fr5) st5 stop) fun r s6 ⟨hr, I6⟩ => ?_
      subst hr
      obtain ⟨m, hm, _⟩ := I6.loc
      have I7 : Inv X pins σ H5 s6 := Inv.call' (ch := fp) I3 I6.os I6.base I6.hok I6.bare fun b hb => ⟨(f2 b hb).2.2.2.1, (f2 b hb).2.1, (f2 b hb).2.2.2.2.1, (f2 b hb).2.2.2.2.2⟩
      exact hend D _ s6 H5 m I7 hm I6.free (Ne.symm (Nat.ne_of_lt I3.lt)) I3.sz (fun x c e => by
          obtain ⟨v', o, ho, _⟩ := I3.cell x c e
          exact Nat.ne_of_lt (Heap.lt_size ho)) (fun p hp => Nat.ne_of_lt (Heap.lt_size (I3.pin p hp).1)) qn
    · refine thn (T.item (cxC X Nc scope cl s3 (upd H2 D (.lst [])) fp) rfl rfl rfl hc i [] s5 σ5 H5 (fun _ _ => False) I5 (stat fr5) st5 go) fun r s6 ⟨u, hr, h6⟩ => ?_
      subst hr
      refine thn h6 fun _ s7 ⟨x, H7, I7, r7, y7, st7, fr7⟩ => ?_
      have I7' := I7.pinned (stat fr7) (T.obj _ _ st7)
      refine thn ((hg s3 (upd H2 D (.lst [])) fp).h _ s7 σ5 H7 x u _ I7' r7 (step x H7 y7)) fun _ s8 ⟨σ8, H8, I8, q8⟩ => ?_
      have fin : ∀ {s10 : Shared} {H10 : Hp}, Inv (cxC X Nc scope cl s3 (upd H2 D (.lst [])) fp) _ σ8 H10 s10 → N σ8 H10 → ∃ m', m' < n' ∧ ∃ i' σ' H', Inv (cxC X Nc scope cl s3 (upd H2 D (.lst [])) fp) [] σ' H' s10 ∧ tnn i' s10.heap ∧ (∀ b ∈ fp, H' b = none) ∧ W i' m' σ' H' := fun {s10 H10} I10 q10 => by
        obtain ⟨m', hm, w10⟩ := hN' σ8 H10 q10
        refine ⟨m', hm, i + 1, σ8, H10, Inv.unpinned I10, T.keep _ _ _ st7 fun b hb o e => (Inv.pin I10 (b, o) (List.mem_append_right _ (List.mem_append_right _ (mem_pinsAt hb e)))).1, fun b hb => ?_, w10⟩
        obtain ⟨o, e, d⟩ := T.obj _ _ st7 b hb
        exact (Inv.pin I10 (b, o) (List.mem_append_right _ (List.mem_append_right _ (mem_pinsAt hb e)))).2.1
      refine thn ((ht s3 (upd H2 D (.lst [])) fp).h _ s8 σ8 H8 _ I8 q8) fun b9 s9' h9 => ?_
      obtain ⟨H9', I9', q9'⟩ := h9
      cases b9 with
      | false => exact fin I9' q9'
      | true =>
        refine thn ((he s3 (upd H2 D (.lst [])) fp).h _ s9' σ8 H9' _ I9' q9') fun v9 s9 ⟨x9, H9, I9, r9, ys, hy, hlt, q9⟩ => ?_
        exact thn (mt_append (X := cxC X Nc scope cl s3 (upd H2 D (.lst [])) fp) _ s9 σ8 H9 (.ref D) [x9] (.ref D) [v9] (fun _ H' => N σ8 H') I9 rfl (.cons r9 .nil) ⟨D, ys, x9, rfl, rfl, hy, hlt, q9⟩) fun _ s10 ⟨_, H10, I10, _, q10⟩ => fin I10 q10
  have e4 : ∀ t', ({ s2 with heap := h₁, toks := t' } : Shared) = { s3 with heap := h₁, toks := t' } := fun t' => by rw [← hs3]
  refine codeAny_compStart_list (loop _ ⟨_, e4 _⟩) (T.self _ 0 _ _ _ (T.keep 0 _ _ st2 fun b hb o e => kept _ _ (old _ _ e)) (loop _ ⟨_, e4 _⟩))
theorem wpe_compIf {X : Cx} {Nc capN tn : List Str} {scope : Scope} {cl : List (Str × Addr)} {n : Nat} {caps : List Nat} {tg iter elt : Expr} {pos : Pos} {wi : TI} {g : TG} {te : TE} {tt : TT} {c : Expr}
    (hc : X.calm = true) (hi : WI X tg iter wi) (hg : ∀ s3 H3 fp, WG (cxC X Nc scope cl s3 H3 fp) tg g) (he : ∀ s3 H3 fp, WE (cxC X Nc scope cl s3 H3 fp) elt te)
    (ht : ∀ s3 H3 fp, WT (cxC X Nc scope cl s3 H3 fp) c tt)
    (hclos : closureFor scope X.env = pure cl) (hkind : scope.kind = .function) (hnl : ∀ x ∈ scope.names, x.2 = .local → scope.names.lookup x.1 = some .local) (hcell : ∀ x ∈ scope.names, x.2 ≠ .cell)
    (hcl : AllC X.env cl) (hhas : ((relabel scope X.env).names.all fun p => !(p.2 == .cell || p.2 == .free) || (cl.lookup p.1).isSome) = true)
    (hcap : Paired (Cap X scope cl) caps capN) (hN : Nc = tn ++ capN) (hn : tn.length = n)
    (hs : ∀ x, foldedSetIterable iter X.env x = pure x := by intro _; rfl) :
    WE X (.ListComp elt [⟨tg, iter, [c], 0⟩] scope pos) (tCompIf wi g tt te n caps) := by
  constructor
  intro pins s σ H Q I h
  rw [eval_ListComp]
  refine compIf_gen hc hi hg he ht hclos hkind hnl hcell hcl hhas hcap hN hn I h (fun D C s6 H5 m I7 hm fr nl sz cn pn qn => ⟨m, hm, fun h' hs' => ?_⟩) hs
  exact ⟨.ref D, H5, I7.turned (t' := s6.toks) (it := C) (fun b o hb e => hs'.extBut b o hb e) fr nl (.inr sz) cn pn, rfl, qn⟩
end OG
namespace OP
open PySem PySem.Spec PyProof.Rows L2 OG
open Classical in
noncomputable def compIfU (ok : Sto → Prop) (g : CG) (ct : CT) (ce : CE) (l : Nat) : List U → Rho → Sto → Option Sto
  | [], _, S => if ok S then some S else none
  | u :: us, ρ, S => if ok S then (g u ρ S).bind fun p => (ct p.1 p.2).bind fun q => if q.1 = true then (ce p.1 q.2).bind fun r => match r.2[l]? with
    | some (.lst ys) => if ys.length < LIM then compIfU ok g ct ce l us p.1 (r.2.set l (.lst (ys ++ [r.1]))) else none
    | _ => none else compIfU ok g ct ce l us p.1 q.2 else none
noncomputable def cCompIf (ci : CI) (g : CG) (ct : CT) (ce : CE) (n : Nat) (caps : List Nat) : CE := fun ρ S => (ci ρ S).bind fun p => (compIfU p.2.1 g ct ce p.2.2.length p.1 (rhoC n caps ρ) (p.2.2 ++ [.lst []])).bind fun S' => some (.ref p.2.2.length, S')
section
variable {X : Cx} {K : PySem.W.Frag}
theorem compIf_core {g : CG} {ct : CT} {ce : CE} {n : Nat} {caps : List Nat} {J : It} {us : List U} {ok : Sto → Prop} {Q : VK} {m1 : List Addr} {H1 : Hp} {S1 S' : Sto} {ρ : Rho} {σ : L2.St} {l : Addr} (sr1 : Sr K m1 S1 H1) (lr : Lr K m1 H1 ρ σ) (ito : ItOk K J m1 H1 us ok) (hl : H1 l = none) (h2 : compIfU ok g ct ce S1.length us (rhoC n caps ρ) (S1 ++ [.lst []]) = some S')
    (post : ∀ m2 H2, Ext K (m1 ++ [l]) (upd H1 l (.lst [])) m2 H2 → Sr K m2 S' H2 → Q (.ref l) H2) :
    ∃ W : Nat → Nat → L2.St → Hp → Prop, (∃ m, W 0 m (OG.stC n caps σ) (upd H1 l (.lst []))) ∧
  ∀ i m σ' H2, W i m σ' H2 → (J.stop i H2 ∧ Q (.ref l) H2) ∨ (J.go i H2 ∧ ∃ N : L2.St → Hp → Prop, (∀ σ'' H', N σ'' H' → ∃ m', m' < m ∧ W (i + 1) m' σ'' H') ∧
    ∀ x H3, J.yld i H2 x H3 → tG K g x σ' H3 fun σ2 H4 => tT K ct σ2 H4 fun b H5 => match b with
      | true => tE K ce σ2 H5 fun v H6 => ∃ ys, H6 l = some (.lst ys) ∧ ys.length < sizeLine ∧ N σ2 (upd H6 l (.lst (ys ++ [v])))
      | false => N σ2 H5) := by
  have ee : Ext K m1 H1 (m1 ++ [l]) (upd H1 l (.lst [])) := .new (keep_new hl _)
  let W : Nat → Nat → L2.St → Hp → Prop := fun i k σ2 H2 => k = us.length - i ∧ i ≤ us.length ∧ ∃ m2 ρ2 S2, Ext K (m1 ++ [l]) (upd H1 l (.lst [])) m2 H2 ∧ Sr K m2 S2 H2 ∧ Lr K m2 H2 ρ2 σ2 ∧ compIfU ok g ct ce S1.length (us.drop i) ρ2 S2 = some S'
  refine ⟨W, ⟨us.length, by simp, Nat.zero_le _, m1 ++ [l], rhoC n caps ρ, S1 ++ [.lst []], .refl, sr1.new (o := .lst []) hl ⟨[], upd_same, .nil_⟩, lr_comp (lr.mono ee), by simpa using h2⟩, ?_⟩
  rintro i k σ2 H2 ⟨rfl, hi, m2, ρ2, S2, e2, sr2, lr2, hl2⟩
  by_cases hlt : i < us.length
  · have hu := List.getElem?_eq_getElem hlt
    rw [drop_cons hu] at hl2
    unfold compIfU at hl2
    split at hl2
    · rename_i hok
      obtain ⟨⟨ρ3, S3⟩, h3, hl2⟩ := Option.bind_eq_some_iff.mp hl2
      obtain ⟨⟨b4, S4⟩, h4, hl2⟩ := Option.bind_eq_some_iff.mp hl2
      obtain ⟨hgo, hy⟩ := (ito m2 S2 H2 i (ee.trans e2) sr2 hok).1 _ hu
      refine .inr ⟨hgo, W (i + 1) (us.length - (i + 1)), fun σ' H' w' => ⟨_, by omega, w'⟩, fun x H3 y => ?_⟩
      obtain ⟨e3, sr3, ix⟩ := hy x H3 y
      refine ⟨m2, ρ2, S2, _, ρ3, S3, sr3, lr2.mono e3, ix, h3, fun m4 σ4 H4 e4 sr4 lr4 => ⟨m4, ρ3, S3, b4, S4, sr4, lr4, h4, fun m4' H4' e4' sr4' => ?_⟩⟩
      cases b4 with
      | false =>
        rw [if_neg Bool.false_ne_true] at hl2
        exact ⟨rfl, hlt, m4', ρ3, _, (((e2.trans e3).trans e4).trans e4'), sr4', lr4.mono e4', hl2⟩
      | true =>
        rw [if_pos rfl] at hl2
        obtain ⟨⟨u5, S5⟩, h5, hl2⟩ := Option.bind_eq_some_iff.mp hl2
        simp only at hl2
        split at hl2 <;> try cases hl2
        rename_i ys hys
        split at hl2 <;> try cases hl2
        rename_i hlen
        refine ⟨m4', ρ3, S4, u5, S5, sr4', lr4.mono e4', h5, fun m5 v5 H5 e5 sr5 i5 => ?_⟩
        obtain ⟨a', ha', xs, hx, il⟩ := sr5.get hys
        have ha : m5[S1.length]? = some l := ((((e2.trans e3).trans e4).trans e4').trans e5).get (last_get sr1.len)
        rw [ha] at ha'; cases ha'
        have eu : Ext K m5 H5 m5 (upd H5 l (.lst (xs ++ [v5]))) := .of (sr5.keep ha _)
        exact ⟨xs, hx, lim1 (by rw [il.length]; exact hlen), rfl, hlt, m5, ρ3, _, (((((e2.trans e3).trans e4).trans e4').trans e5).trans eu), sr5.put (o := .lst (ys ++ [u5])) ha ⟨_, upd_same, (il.append (.cons_ i5 .nil_)).mono eu⟩, (lr4.mono ((e4'.trans e5).trans eu)), hl2⟩
    · cases hl2
  · have e : i = us.length := by omega
    subst e
    rw [List.drop_length] at hl2
    unfold compIfU at hl2
    split at hl2
    · rename_i hok
      cases hl2
      exact .inl ⟨(ito m2 _ H2 _ (ee.trans e2) sr2 hok).2 (Nat.le_refl _), post m2 H2 e2 sr2⟩
    · cases hl2
theorem compIf_imp {ci : CI} {g : CG} {ct : CT} {ce : CE} {n : Nat} {caps : List Nat} : ∀ σ H Q, tE K (cCompIf ci g ct ce n caps) σ H Q → tCompIf (tI K ci) (tG K g) (tT K ct) (tE K ce) n caps σ H Q := by
  rintro σ H Q ⟨m, ρ, S, u, S', sr, lr, hc, post⟩
  obtain ⟨⟨us, ok, S1⟩, h1, h2⟩ := Option.bind_eq_some_iff.mp hc
  obtain ⟨S2, h2, h3⟩ := Option.bind_eq_some_iff.mp h2
  cases h3
  refine ⟨m, ρ, S, us, ok, S1, sr, lr, h1, fun m1 H1 J e1 sr1 ito l hl => ?_⟩
  have ee : Ext K m1 H1 (m1 ++ [l]) (upd H1 l (.lst [])) := .new (keep_new hl _)
  exact compIf_core sr1 (lr.mono e1) ito hl h2 fun m2 H2 e2 sr2 => post m2 _ H2 ((e1.trans ee).trans e2) sr2 (.ref_ (e2.get (last_get sr1.len)))
theorem q_compIf {Nc capN tn : List Str} {scope : Scope} {cl : List (Str × Addr)} {n : Nat} {caps : List Nat} {tg iter elt : Expr} {pos : Pos} {ci : CI} {g : CG} {ct : CT} {ce : CE} {c : Expr}
    (hc : X.calm = true) (hi : QI X tg iter ci) (hg : ∀ s3 H3 fp, WG (cxC X Nc scope cl s3 H3 fp) tg (tG X.K g)) (ht : ∀ s3 H3 fp, WT (cxC X Nc scope cl s3 H3 fp) c (tT X.K ct)) (he : ∀ s3 H3 fp, WE (cxC X Nc scope cl s3 H3 fp) elt (tE X.K ce))
    (hclos : closureFor scope X.env = pure cl) (hkind : scope.kind = .function) (hnl : ∀ x ∈ scope.names, x.2 = .local → scope.names.lookup x.1 = some .local) (hcell : ∀ x ∈ scope.names, x.2 ≠ .cell)
    (hcl : AllC X.env cl) (hhas : ((relabel scope X.env).names.all fun p => !(p.2 == .cell || p.2 == .free) || (cl.lookup p.1).isSome) = true)
    (hcap : Paired (Cap X scope cl) caps capN) (hN : Nc = tn ++ capN) (hn : tn.length = n)
    (hs : ∀ x, foldedSetIterable iter X.env x = pure x := by intro _; rfl) :
    QE X (.ListComp elt [⟨tg, iter, [c], 0⟩] scope pos) (cCompIf ci g ct ce n caps) := (wpe_compIf hc hi hg he ht hclos hkind hnl hcell hcl hhas hcap hN hn hs).imp compIf_imp
end
end OP
set_option maxHeartbeats 1000000
namespace OP
open PySem PySem.Spec PyProof PyProof.Rows L2 OG
mutual
inductive RdV (K : PySem.W.Frag) (H : Hp) : V → PyData → Prop
  | non : RdV K H .non .none
  | bl (b : Bool) : RdV K H (.bl b) (.bool b)
  | int (i : Int) : RdV K H (.int i) (.int i)
  | str (x : Str) : RdV K H (.str x) (.str x)
  | lst {a : Addr} {xs : List V} {ds : List PyData} : SqL K H a xs → RdVs K H xs ds → RdV K H (.ref a) (.list ds)
  | tup {a : Addr} {xs : List V} {ds : List PyData} : SqT K H a xs → RdVs K H xs ds → RdV K H (.ref a) (.tuple ds)
inductive RdVs (K : PySem.W.Frag) (H : Hp) : List V → List PyData → Prop
  | nil : RdVs K H [] []
  | cons {x : V} {xs : List V} {d : PyData} {ds : List PyData} : RdV K H x d → RdVs K H xs ds → RdVs K H (x :: xs) (d :: ds)
end
mutual
inductive Dt (S : Sto) : U → PyData → Prop
  | non : Dt S .non .none
  | bl (b : Bool) : Dt S (.bl b) (.bool b)
  | int (i : Int) : Dt S (.int i) (.int i)
  | str (x : Str) : Dt S (.str x) (.str x)
  | lst {l : Nat} {us : List U} {ds : List PyData} : S[l]? = some (.lst us) → DtL S us ds → Dt S (.ref l) (.list ds)
  | tup {us : List U} {ds : List PyData} : DtL S us ds → Dt S (.tup us) (.tuple ds)
inductive DtL (S : Sto) : List U → List PyData → Prop
  | nil : DtL S [] []
  | cons {x : U} {xs : List U} {d : PyData} {ds : List PyData} : Dt S x d → DtL S xs ds → DtL S (x :: xs) (d :: ds)
end
section
variable {X : Cx} {K : PySem.W.Frag} {pins : List (Addr × Obj)} {σ : L2.St} {H : Hp} {s : Shared}
mutual
theorem RdV.reads (I : Inv X pins σ H s) : ∀ {x : V} {d : PyData} {v : Value}, RdV X.K H x d → RelV x v → ∃ as, Reads s.heap v d as
  | _, _, _, .non, r => by cases r; exact ⟨_, .none⟩
  | _, _, _, .bl b, r => by cases r; exact ⟨_, .bool b⟩
  | _, _, _, .int i, r => by obtain ⟨t, rfl⟩ := r; exact ⟨_, .int i t⟩
  | _, _, _, .str i, r => by obtain ⟨t, rfl⟩ := r; exact ⟨_, .str i t⟩
  | _, _, _, .lst (a := a) h t, r => by
    cases r
    obtain ⟨its, rv, pl, _⟩ := I.list h
    obtain ⟨as, k⟩ := RdVs.reads I t rv
    obtain ⟨o, h1, h2, n, h3⟩ := pl.isList
    exact ⟨_, .list h1 h2 h3 (by simpa using k)⟩
  | _, _, _, .tup (a := a) h t, r => by
    cases r
    obtain ⟨its, rv, pl, _⟩ := I.tuple h
    obtain ⟨as, k⟩ := RdVs.reads I t rv
    obtain ⟨o, h1, h2, n, h3⟩ := pl
    exact ⟨_, .tuple h1 h2 h3 (by simpa using k)⟩
theorem RdVs.reads (I : Inv X pins σ H s) : ∀ {xs : List V} {ds : List PyData} {vs : List Value}, RdVs X.K H xs ds → Vals xs vs → ∃ as, ReadsAll s.heap vs ds as
  | _, _, _, .nil, r => by cases r; exact ⟨_, .nil⟩
  | _, _, _, .cons h t, .cons r rs => by
    obtain ⟨as, a⟩ := RdV.reads I h r
    obtain ⟨bs, b⟩ := RdVs.reads I t rs
    exact ⟨_, .cons a b⟩
end
mutual
theorem Dt.rd {m : List Addr} {S : Sto} (sr : Sr K m S H) : ∀ {u : U} {d : PyData} {v : V}, Dt S u d → Is K m H v u → RdV K H v d
  | _, _, _, .non, i => by rw [i.of_non]; exact .non
  | _, _, _, .bl b, i => by rw [i.of_bl]; exact .bl b
  | _, _, _, .int b, i => by rw [i.of_int]; exact .int b
  | _, _, _, .str b, i => by rw [i.of_str]; exact .str b
  | _, _, _, .lst h t, i => by
    obtain ⟨a, ha, rfl⟩ := i.of_ref
    obtain ⟨a', ha', xs, hx, il⟩ := sr.get h
    rw [ha] at ha'; cases ha'
    exact .lst (SqL.of hx) (DtL.rd sr t il)
  | _, _, _, .tup t, i => by
    obtain ⟨a, xs, rfl, sa, la⟩ := i.of_tup
    exact .tup sa (DtL.rd sr t la)
theorem DtL.rd {m : List Addr} {S : Sto} (sr : Sr K m S H) : ∀ {us : List U} {ds : List PyData} {vs : List V}, DtL S us ds → IsL K m H vs us → RdVs K H vs ds
  | _, _, _, .nil, i => by rw [i.of_nil]; exact .nil
  | _, _, _, .cons h t, i => by
    obtain ⟨x, r, rfl, i1, i2⟩ := i.of_cons
    exact .cons (Dt.rd sr h i1) (DtL.rd sr t i2)
end
mutual
theorem Dt.uniq {S : Sto} : ∀ {u : U} {d e : PyData}, Dt S u d → Dt S u e → d = e
  | _, _, _, .non, .non => rfl
  | _, _, _, .bl _, .bl _ => rfl
  | _, _, _, .int _, .int _ => rfl
  | _, _, _, .str _, .str _ => rfl
  | _, _, _, .lst h t, .lst h' t' => by
    rw [h] at h'; cases h'
    rw [DtL.uniq t t']
  | _, _, _, .tup t, .tup t' => by rw [DtL.uniq t t']
theorem DtL.uniq {S : Sto} : ∀ {us : List U} {ds es : List PyData}, DtL S us ds → DtL S us es → ds = es
  | _, _, _, .nil, .nil => rfl
  | _, _, _, .cons h t, .cons h' t' => by rw [Dt.uniq h h', DtL.uniq t t']
end
def LayOk (d : PyData) : Prop := d.canLay0 = true ∧ d.depth ≤ 60
def rEqD (K : PySem.W.Frag) (neg : Bool) : R2 := fun x y H Q => (∃ dx dy, RdV K H x dx ∧ RdV K H y dy ∧ LayOk dx ∧ LayOk dy ∧ Q (.bl (if neg then !dx.eqv dy else dx.eqv dy)) H) ∨
  ∃ a b xs ys, x = .ref a ∧ y = .ref b ∧ SqL K H a xs ∧ SqL K H b ys ∧ xs.length ≠ ys.length ∧ Q (.bl neg) H
theorem op_eqD (hu : X.A.units + 64 < cLine) : OpR X (compareOp .Eq) (rEqD X.K false) := by
  rintro pins s σ H x y v u Q I rx ry (⟨dx, dy, hx, hy, lx, ly, q⟩ | ⟨a, b, xs, ys, rfl, rfl, ha, hb, ne, q⟩)
  · obtain ⟨as, hx⟩ := hx.reads I rx
    obtain ⟨bs, hy⟩ := hy.reads I ry
    exact SeqAt.compareEq_reads hx hy lx.1 ly.1 (by have := lx.2; omega) ⟨.bl _, H, I, rfl, q⟩
  · cases rx
    cases ry
    obtain ⟨i1, r1, p1, _⟩ := I.list ha
    obtain ⟨i2, r2, p2, _⟩ := I.list hb
    have l1 := r1.length
    have l2 := r2.length
    exact SeqAt.RcAt.lists_lengths p1.isList p2.isList (by simp; omega) (by omega) X.prog X.w X.xe _ ⟨.bl false, H, I, rfl, q⟩
theorem op_neD (hu : X.A.units + 64 < cLine) : OpR X (compareOp .NotEq) (rEqD X.K true) := by
  rintro pins s σ H x y v u Q I rx ry (⟨dx, dy, hx, hy, lx, ly, q⟩ | ⟨a, b, xs, ys, rfl, rfl, ha, hb, ne, q⟩)
  · obtain ⟨as, hx⟩ := hx.reads I rx
    obtain ⟨bs, hy⟩ := hy.reads I ry
    exact SeqAt.compareNe_reads hx hy lx.1 ly.1 (by have := lx.2; omega) ⟨.bl _, H, I, rfl, q⟩
  · cases rx
    cases ry
    obtain ⟨i1, r1, p1, _⟩ := I.list ha
    obtain ⟨i2, r2, p2, _⟩ := I.list hb
    have l1 := r1.length
    have l2 := r2.length
    exact SeqAt.RcNeAt.lists_lengths p1.isList p2.isList (by simp; omega) (by omega) X.prog X.w X.xe _ ⟨.bl true, H, I, rfl, q⟩
def EqOf (x y : U) (S : Sto) (b : Bool) : Prop := (∃ dx dy, Dt S x dx ∧ Dt S y dy ∧ LayOk dx ∧ LayOk dy ∧ b = dx.eqv dy) ∨ ∃ l l' us vs, x = .ref l ∧ y = .ref l' ∧ S[l]? = some (.lst us) ∧ S[l']? = some (.lst vs) ∧ us.length ≠ vs.length ∧ b = false
theorem DtL.length {S : Sto} : ∀ {us : List U} {ds : List PyData}, DtL S us ds → us.length = ds.length
  | _, _, .nil => rfl
  | _, _, .cons _ t => by rw [List.length_cons, List.length_cons, DtL.length t]
theorem EqOf.mix {l l' : Nat} {us vs : List U} {S : Sto} {dx dy : PyData} (h1 : Dt S (.ref l) dx) (h2 : Dt S (.ref l') dy) (k1 : S[l]? = some (.lst us)) (k2 : S[l']? = some (.lst vs)) (ne : us.length ≠ vs.length) : dx.eqv dy = false := by
  cases h1 with
  | lst a1 t1 =>
    cases h2 with
    | lst a2 t2 =>
      rw [k1] at a1; cases a1
      rw [k2] at a2; cases a2
      show PyData.eqvAll _ _ = false
      exact SeqAt.eqvAll_other_length (by rw [← t1.length, ← t2.length]; exact ne)
theorem EqOf.uniq {x y : U} {S : Sto} {b c : Bool} (h : EqOf x y S b) (k : EqOf x y S c) : b = c := by
  rcases h with ⟨dx, dy, h1, h2, _, _, rfl⟩ | ⟨l, l', us, vs, rfl, rfl, h1, h2, ne, rfl⟩
  · rcases k with ⟨ex, ey, k1, k2, _, _, rfl⟩ | ⟨l, l', us, vs, rfl, rfl, k1, k2, ne, rfl⟩
    · rw [h1.uniq k1, h2.uniq k2]
    · exact EqOf.mix h1 h2 k1 k2 ne
  · rcases k with ⟨ex, ey, k1, k2, _, _, rfl⟩ | ⟨_, _, _, _, _, _, _, _, _, rfl⟩
    · exact (EqOf.mix k1 k2 h1 h2 ne).symm
    · rfl
open Classical in
noncomputable def fEqD (neg : Bool) : U → U → Sto → Option (U × Sto) := fun x y S => if h : ∃ b, EqOf x y S b then some (.bl (if neg then !h.choose else h.choose), S) else none
theorem fEqD_of {x y : U} {S : Sto} {b : Bool} (neg : Bool) (h : EqOf x y S b) : fEqD neg x y S = some (.bl (if neg then !b else b), S) := by
  unfold fEqD
  rw [dif_pos ⟨b, h⟩]
  have e : (⟨b, h⟩ : ∃ b, EqOf x y S b).choose = b := (Exists.choose_spec (⟨b, h⟩ : ∃ b, EqOf x y S b)).uniq h
  rw [e]
theorem p_eqD {neg : Bool} : OpP K (rEqD K neg) (fEqD neg) := by
  intro m S H x y v w u S' Q sr ix iy hf post
  unfold fEqD at hf
  split at hf <;> try cases hf
  rename_i h
  have hb := h.choose_spec
  generalize h.choose = b at hb post
  rcases hb with ⟨dx, dy, h1, h2, l1, l2, rfl⟩ | ⟨l, l', us, vs, rfl, rfl, h1, h2, ne, rfl⟩
  · exact .inl ⟨dx, dy, h1.rd sr ix, h2.rd sr iy, l1, l2, post m _ H .refl sr .bl_⟩
  · obtain ⟨a, ha, rfl⟩ := ix.of_ref
    obtain ⟨a', ha', xs, hx, la⟩ := sr.get h1
    rw [ha] at ha'; cases ha'
    obtain ⟨c, hc, rfl⟩ := iy.of_ref
    obtain ⟨c', hc', ys, hy, lc⟩ := sr.get h2
    rw [hc] at hc'; cases hc'
    refine .inr ⟨a, c, xs, ys, rfl, rfl, SqL.of hx, SqL.of hy, by rw [la.length, lc.length]; exact ne, ?_⟩
    have e : (if neg = true then !false else false) = neg := by cases neg <;> rfl
    have := post m _ H .refl sr (Is.bl_ (b := if neg = true then !false else false))
    rw [e] at this
    exact this
end
end OP
set_option maxHeartbeats 1000000
namespace OP
open PySem PySem.Spec PyProof PyProof.Rows L2 OG
section
variable {X : Cx} {K : PySem.W.Frag}
instance {us : List U} : Decidable (us ≠ []) := match us with
  | [] => .isFalse fun h => h rfl
  | _ :: _ => .isTrue fun h => by cases h
end
end OP
namespace OP
end OP
set_option maxHeartbeats 1000000
namespace OG
open PySem PySem.Spec PyProof.Rows L2
theorem ns_but {C a : Addr} {m : Str → Option Value} {h h' : Heap} (n : h.Ns C m) (s : Heap.SameBut a h h') (ne : C ≠ a) : h'.Ns C m := by
  obtain ⟨o, es, ep, e, r⟩ := n
  exact ⟨o, es, ep, (s.2 C ne).trans e, r⟩
theorem ws_setComp {X : Cx} {Nc capN tn : List Str} {scope : Scope} {cl : List (Str × Addr)} {n : Nat} {caps : List Nat} {tg iter elt : Expr} {pos : Pos} {wi : TI} {g : TG} {te : TE}
    (hc : X.calm = true) (hi : WI X tg iter wi) (hg : ∀ s3 H3 fp, WG (cxC X Nc scope cl s3 H3 fp) tg g) (he : ∀ s3 H3 fp, WE (cxC X Nc scope cl s3 H3 fp) elt te)
    (hclos : closureFor scope X.env = pure cl) (hkind : scope.kind = .function) (hnl : ∀ x ∈ scope.names, x.2 = .local → scope.names.lookup x.1 = some .local) (hcell : ∀ x ∈ scope.names, x.2 ≠ .cell)
    (hcl : AllC X.env cl) (hhas : ((relabel scope X.env).names.all fun p => !(p.2 == .cell || p.2 == .free) || (cl.lookup p.1).isSome) = true)
    (hcap : Paired (Cap X scope cl) caps capN) (hN : Nc = tn ++ capN) (hn : tn.length = n)
    {i₀ : Nat} {x₀ : Str} {pos₀ pos' : Pos} (hN0 : X.N.Nodup) (hi0 : X.N[i₀]? = some x₀) (hx0 : X.env.scope.names.lookup x₀ = some .local)
    (hsw : swapsWith (.ListComp elt [⟨tg, iter, [], 0⟩] scope pos) (some (.Name x₀ pos')) pos₀.line X.env = pure true)
    (hs : ∀ x, foldedSetIterable iter X.env x = pure x := by intro _; rfl) :
    WS X (.Assign [.Name x₀ pos'] (.ListComp elt [⟨tg, iter, [], 0⟩] scope pos) pos₀) (fun D σ H => tComp wi g te n caps σ H fun v H' => D.nx (σ.set i₀ (some v)) H') := by
  constructor
  intro pins s σ H Dn I h
  rw [exec_Assign_arm]
  refine wpAny_bind (wpAny_standAt ?_)
  have hsw' : swapsWithSole [.Name x₀ pos'] (.ListComp elt [⟨tg, iter, [], 0⟩] scope pos) pos₀.line X.env = pure true := hsw
  rw [hsw']
  refine wpAny_bind (wpAny_pure ?_)
  rw [if_pos rfl, arm_evalThenUse_ListComp]
  refine wpAny_bind (wpAny_bind (comp_gen (Qf := fun _ s' => wpAny (model X.prog X.w) X.A (pure ()) (fun _ s' => wpAny (model X.prog X.w) X.A (pure Flow.next) (SP X pins Dn) X.xe s') X.xe s') hc hi hg he hclos hkind hnl hcell hcl hhas hcap hN hn I h (fun D C s6 H5 m I7 hm fr nl sz cn pn qn => ?_) hs))
  show wpAny _ _ (assign (.Name x₀ pos') X.env (.ref D)) _ _ s6
  rw [arm_assign_Name]
  refine wpAny_bind (wpAny_standAt (wpAny_bindName (store_ok2 (v := .ref D) I7 hN0 hi0 (.inl hx0) rfl (fun s7 I7' hsb => ?_) (.inr hx0))))
  obtain ⟨a7, hsb, ha7⟩ := hsb
  have cNe : C ≠ a7 := by
    rcases ha7 with z | z
    · rw [z]; exact nl
    · exact Ne.symm (cn _ _ z)
  refine ⟨m, ns_but hm hsb cNe, fun h' hs' => wpAny_pure (wpAny_pure ⟨_, H5, ?_, qn⟩)⟩
  exact I7'.turned (t' := s7.toks) (it := C) (fun b o hb e => hs'.extBut b o hb e) fr nl (.inr sz) cn pn
end OG
namespace OP
open PySem PySem.Spec PyProof.Rows L2 OG
section
variable {X : Cx} {K : PySem.W.Frag}
theorem qs_setComp {i₀ : Nat} {x₀ : Str} {pos₀ pos' : Pos} {Nc capN tn : List Str} {scope : Scope} {cl : List (Str × Addr)} {n : Nat} {caps : List Nat} {tg iter elt : Expr} {pos : Pos} {ci : CI} {g : CG} {ce : CE}
    (hc : X.calm = true) (hi : QI X tg iter ci) (hg : ∀ s3 H3 fp, WG (cxC X Nc scope cl s3 H3 fp) tg (tG X.K g)) (he : ∀ s3 H3 fp, WE (cxC X Nc scope cl s3 H3 fp) elt (tE X.K ce))
    (hclos : closureFor scope X.env = pure cl) (hkind : scope.kind = .function) (hnl : ∀ x ∈ scope.names, x.2 = .local → scope.names.lookup x.1 = some .local) (hcell : ∀ x ∈ scope.names, x.2 ≠ .cell)
    (hcl : AllC X.env cl) (hhas : ((relabel scope X.env).names.all fun p => !(p.2 == .cell || p.2 == .free) || (cl.lookup p.1).isSome) = true)
    (hcap : Paired (Cap X scope cl) caps capN) (hN : Nc = tn ++ capN) (hn : tn.length = n)
    (hN0 : X.N.Nodup) (hi0 : X.N[i₀]? = some x₀) (hx0 : X.env.scope.names.lookup x₀ = some .local)
    (hsw : swapsWith (.ListComp elt [⟨tg, iter, [], 0⟩] scope pos) (some (.Name x₀ pos')) pos₀.line X.env = pure true)
    (hs : ∀ x, foldedSetIterable iter X.env x = pure x := by intro _; rfl) :
    QS X (.Assign [.Name x₀ pos'] (.ListComp elt [⟨tg, iter, [], 0⟩] scope pos) pos₀) (cSet i₀ (cComp ci g ce n caps)) := (ws_setComp hc hi hg he hclos hkind hnl hcell hcl hhas hcap hN hn hN0 hi0 hx0 hsw hs).imp fun D σ H ⟨m, ρ, S, o, ρ', S', sr, lr, hc, post⟩ => by
  obtain ⟨⟨u, S1⟩, h1, h2⟩ := Option.bind_eq_some_iff.mp hc
  cases h2
  exact comp_imp _ _ _ ⟨m, ρ, S, u, _, sr, lr, h1, fun m1 v1 H1 e1 sr1 i1 => post m1 _ H1 e1 sr1 ((lr.mono e1).set i₀ i1)⟩
end
end OP
set_option maxHeartbeats 1000000
namespace OP
open PySem PySem.Spec PyProof PyProof.Rows L2 OG
end OP
set_option maxHeartbeats 1000000
namespace OP
open PySem PySem.Spec PyProof PyProof.Rows L2 OG
section
variable {X : Cx} {K : PySem.W.Frag}
def cNeg (ca : CE) : CE := fun ρ S => (ca ρ S).bind fun p => match p.1 with
  | .int i => some (.int (-i), p.2)
  | _ => none
theorem un_neg : UnR X (unaryOp .USub) (fun x H Q => ∃ i, x = .int i ∧ Q (.int (-i)) H) := by
  rintro pins s σ H x v Q I rx ⟨i, rfl, q⟩
  obtain ⟨t, rfl⟩ := rx
  exact PyProof.Rows.neg_int ⟨.int (-i), H, I.tok _, ⟨_, rfl⟩, q⟩
theorem q_neg {a : Expr} {ca : CE} {pos : Pos} (ha : QE X a ca) : QE X (.UnaryOp .USub a pos) (cNeg ca) := (wpe_un un_neg ha).imp fun σ H Q ⟨m, ρ, S, u, S', sr, lr, hc, post⟩ => by
  obtain ⟨⟨x, S1⟩, h1, h2⟩ := Option.bind_eq_some_iff.mp hc
  refine ⟨m, ρ, S, x, S1, sr, lr, h1, fun m1 v1 H1 e1 sr1 i1 => ?_⟩
  cases x <;> simp at h2
  obtain ⟨rfl, rfl⟩ := h2
  exact ⟨_, i1.of_int, post m1 _ H1 e1 sr1 .int_⟩
def fPop : U → List U → Sto → Option (U × Sto)
  | .ref l, [], S => match S[l]? with
    | some (.lst us) => (us[us.length - 1]?).bind fun u => some (u, S.set l (.lst us.dropLast))
    | _ => none
  | _, _, _ => none
theorem IsL.dropLast {m : List Addr} {H : Hp} {xs : List V} {us : List U} (h : IsL K m H xs us) : IsL K m H xs.dropLast us.dropLast := by
  rw [List.dropLast_eq_take, List.dropLast_eq_take, h.length]
  exact h.take _
theorem p_pop : MtP K rPop fPop := by
  intro m S H x v us vs u S' Q sr ix i hf post
  match x, us, hf with
  | .ref l, [], hf =>
    simp only [fPop] at hf
    split at hf <;> try cases hf
    rename_i ws hS
    obtain ⟨w, hw, h⟩ := Option.bind_eq_some_iff.mp hf
    cases h
    obtain ⟨a, ha, rfl⟩ := ix.of_ref
    obtain ⟨a', ha', xs, hx, la⟩ := sr.get hS
    rw [ha] at ha'; cases ha'
    obtain ⟨y, hy, iy⟩ := la.getD hw
    have eu : Ext K m H m (upd H a (.lst xs.dropLast)) := .of (sr.keep ha _)
    exact ⟨a, xs, y, rfl, i.of_nil, hx, by rw [la.length]; exact hy, post m _ _ eu (sr.put ha ⟨_, upd_same, la.dropLast.mono eu⟩) (iy.mono eu)⟩
def fPopAt : U → List U → Sto → Option (U × Sto)
  | .ref l, [.int i], S => match S[l]? with
    | some (.lst us) => if 0 ≤ i ∧ i < us.length ∧ us.length ≤ LIM then (us[i.toNat]?).bind fun u => some (u, S.set l (.lst (us.eraseIdx i.toNat))) else none
    | _ => none
  | _, _, _ => none
theorem p_popAt : MtP K rPopAt fPopAt := by
  intro m S H x v us vs u S' Q sr ix i hf post
  match x, us, hf with
  | .ref l, [.int k], hf =>
    simp only [fPopAt] at hf
    split at hf <;> try cases hf
    rename_i ws hS
    split at hf <;> try cases hf
    rename_i hk
    obtain ⟨w, hw, h⟩ := Option.bind_eq_some_iff.mp hf
    cases h
    obtain ⟨a, ha, rfl⟩ := ix.of_ref
    obtain ⟨a', ha', xs, hx, la⟩ := sr.get hS
    rw [ha] at ha'; cases ha'
    obtain ⟨y, hy, iy⟩ := la.getD hw
    obtain ⟨z, rfl, iz⟩ := i.one
    have eu : Ext K m H m (upd H a (.lst (xs.eraseIdx k.toNat))) := .of (sr.keep ha _)
    have hL : ws.length ≤ 100000 := hk.2.2
    exact ⟨a, xs, k, k.toNat, y, rfl, by rw [iz.of_int], hx, by omega, by omega, seqIndex_of hk.1 (by rw [la.length]; exact hk.2.1), hy, post m _ _ eu (sr.put ha ⟨_, upd_same, (la.erase _).mono eu⟩) (iy.mono eu)⟩
variable {e : Expr} {es : List Expr} {co : CE} {cr : CA} {o : Expr} {apos cpos : Pos}
theorem q_popAt (ho : QE X o co) (ha : QA X (e :: es) cr) (hbase : attributeBase o "pop" X.env (eval o X.env) = eval o X.env := by rfl) (hfew : ((backTo cpos (starEach (e :: es) X.env)).all (fun x => !x.1) && (backToKw cpos (keywordEach [] X.env)).all (fun x => x.1.isSome)
      && decide ((e :: es).length + ([] : List Keyword).length + (if ([] : List Keyword).isEmpty then 0 else 1) < 30)) = true := by rfl) (hline : (apos.endLine == cpos.line) = true := by rfl) (hs : starEach (e :: es) X.env = (false, eval e X.env) :: starEach es X.env := by rfl) (hplain : (backTo cpos (starEach es X.env)).any (·.1) = false := by rfl) :
    QE X (.Call (.Attribute o "pop" apos) (e :: es) [] cpos) (cBM fPopAt co cr) := (wpe_bm PySem.F.plainAttrs_list PySem.F.slot_list_pop PySem.F.type_list_pop mt_popAt ho ha.h hbase hfew hline hs hplain).imp (bm_imp p_popAt)
theorem q_pop (ho : QE X o co) (hbase : attributeBase o "pop" X.env (eval o X.env) = eval o X.env := by rfl) (hline : (apos.endLine == cpos.line) = true := by rfl) :
    QE X (.Call (.Attribute o "pop" apos) [] [] cpos) (cBM fPop co cNil) := (wpe_bm0 PySem.F.plainAttrs_list PySem.F.slot_list_pop PySem.F.type_list_pop mt_pop ho hbase hline).imp fun σ H Q h => by
  obtain ⟨m, ρ, S, u, S', sr, lr, hc, k⟩ := bm_imp (cr := cNil) p_pop σ H Q h
  refine ⟨m, ρ, S, u, S', sr, lr, hc, fun m1 v1 H1 e1 sr1 i1 => ?_⟩
  obtain ⟨ty, m2, ρ2, S2, us, S3, sr2, lr2, h4, h5⟩ := k m1 v1 H1 e1 sr1 i1
  cases h4
  exact ⟨ty, h5 m2 [] H1 .refl sr2 .nil_⟩
def cListRange (cr : CA) : CE := fun ρ S => (cr ρ S).bind fun p => match p.1 with
  | [.int j] => if 0 ≤ j ∧ j ≤ 1000 then some (.ref p.2.length, p.2 ++ [.lst (rangeU 0 j.toNat)]) else none
  | _ => none
theorem items_ints : ∀ (n : Nat) (a : Int) (vs : List Value), vs.length = n → (∀ (j : Nat) (v : Value), vs[j]? = some v → ∃ t, v = Value.int (a + (j : Int)) t) → Vals ((List.range n).map fun i : Nat => V.int (a + (i : Nat))) vs
  | 0, a, vs, hl, h => by
    rw [List.length_eq_zero_iff.mp hl]; exact .nil
  | n + 1, a, [], hl, h => by simp at hl
  | n + 1, a, v :: vs, hl, h => by
    rw [List.range_succ_eq_map, List.map_cons, List.map_map]
    refine .cons ?_ ?_
    · obtain ⟨t, e⟩ := h 0 v rfl
      exact ⟨t, by simpa using e⟩
    · have := items_ints n (a + 1) vs (by simpa using hl) fun j x hx => by
        obtain ⟨t, e⟩ := h (j + 1) x (by simpa using hx)
        exact ⟨t, by rw [e]; congr 1; omega⟩
      have e : (List.range n).map (fun i : Nat => V.int (a + 1 + (i : Nat))) = (List.range n).map ((fun i : Nat => V.int (a + (i : Nat))) ∘ Nat.succ) := List.map_congr_left fun i _ => by
        simp only [Function.comp]; congr 1; omega
      rw [← e]; exact this
theorem we_listRange {a : Expr} {ta : TA} {p1 p2 pos1 pos2 : Pos} (hc : X.calm = true) (hgl : Gl X "list") (hml : X.mg "list" = none) (hg : Gl X "range") (hm : X.mg "range" = none) (ha : WA X [a] ta) (hs : starEach [a] X.env = [(false, eval a X.env)])
    (hs1 : starEach [Expr.Call (.Name "range" p2) [a] [] pos2] X.env = [(false, eval (.Call (.Name "range" p2) [a] [] pos2) X.env)]) :
    WE X (.Call (.Name "list" p1) [.Call (.Name "range" p2) [a] [] pos2] [] pos1) (fun σ H Q => ta σ H fun vs H1 => ∃ j : Int, vs = [.int j] ∧ 0 ≤ j ∧ j ≤ 1000 ∧ ∀ p, H1 p = none → Q (.ref p) (upd H1 p (.lst ((List.range j.toNat).map fun i : Nat => V.int (0 + (i : Nat)))))) := by
  constructor
  intro pins s σ H Q I h
  refine wpAny_Call_Name_kw (ld_blt I hgl hml OG.boot_list ?_ (by decide) (by decide))
  refine PyProof.Rows.callWith_type1 ?_ hs1 rfl
  rw [hs1]
  show wpAny _ _ (spliced [(false, eval (.Call (.Name "range" p2) [a] [] pos2) X.env)]) _ _ s
  refine Calls.spliced_cons ?_
  refine Call_ (ld_blt I hg hm boot_range (PyProof.Rows.callWith_type1 (thn (ha.h pos2 pins s σ H _ I h) fun us s1 ⟨vs, H1, I1, r1, q1⟩ => ?_) hs rfl))
  obtain ⟨j, e, j0, j1, q⟩ := q1
  subst e
  cases r1 with
  | cons r rr =>
    cases rr
    obtain ⟨t, rfl⟩ := r
    refine call_range_1 ?_
    refine Calls.spliced_nil ?_
    have hsz : Builtin.Range.rangeSize 0 j 1 = ((j.toNat : Nat) : Int) := by
      unfold Builtin.Range.rangeSize
      simp
      omega
    refine call_list_range (n := j.toNat) (I1.ok.hd hc) (Heap.get?_push_size _ rfl) ?_ hsz (by omega) fun h' tk acc c' hk hg' hi => ?_
    · unfold Builtin.Range.small
      rw [hsz]
      unfold Builtin.Range.rangeFitsLong
      simp
      omega
    · have hv : Vals ((List.range j.toNat).map fun i : Nat => V.int (0 + (i : Nat))) acc.toList := items_ints j.toNat 0 acc.toList (by simpa using hi.1) fun k v hv => by
        obtain ⟨t, e⟩ := hi.2 k v (by simpa using hv)
        exact ⟨t, by rw [e]; congr 1; omega⟩
      refine ⟨.ref _, _, I1.laid (t' := tk) (o := .lst ((List.range j.toNat).map fun i : Nat => V.int (0 + (i : Nat)))) (fun b ob q => hk b ob (Heap.get?_push_of_some _ q)) (by rw [Heap.size_push]; omega) ?_, rfl, q _ (I1.hok.fresh (by rw [Heap.size_push]; omega))⟩
      exact ⟨by rw [List.length_map, List.length_range]; exact Nat.le_trans (by omega) (show 1000 ≤ sizeLine by decide), _, _, hv, by simpa using hg'⟩
theorem isL_range {m : List Addr} {H : Hp} (n : Nat) : IsL K m H ((List.range n).map fun i : Nat => V.int (0 + (i : Nat))) (rangeU 0 n) := by
  unfold rangeU
  generalize List.range n = l
  induction l with
  | nil => exact .nil_
  | cons a r ih => exact .cons_ .int_ ih
theorem q_listRange {a : Expr} {cr : CA} {p1 p2 pos1 pos2 : Pos} (hc : X.calm = true) (hgl : Gl X "list") (hml : X.mg "list" = none) (hg : Gl X "range") (hm : X.mg "range" = none) (ha : QA X [a] cr) (hs : starEach [a] X.env = [(false, eval a X.env)])
    (hs1 : starEach [Expr.Call (.Name "range" p2) [a] [] pos2] X.env = [(false, eval (.Call (.Name "range" p2) [a] [] pos2) X.env)]) :
    QE X (.Call (.Name "list" p1) [.Call (.Name "range" p2) [a] [] pos2] [] pos1) (cListRange cr) := (we_listRange hc hgl hml hg hm ha.h hs hs1).imp fun σ H Q ⟨m, ρ, S, u, S', sr, lr, hc, post⟩ => by
  obtain ⟨⟨ws, S1⟩, h1, h2⟩ := Option.bind_eq_some_iff.mp hc
  simp only at h2
  split at h2 <;> try cases h2
  rename_i j
  split at h2 <;> try cases h2
  rename_i hj
  refine ⟨m, ρ, S, _, S1, sr, lr, h1, fun m1 v1 H1 e1 sr1 i1 => ?_⟩
  obtain ⟨x, rfl, ix⟩ := i1.one
  rw [ix.of_int]
  exact ⟨j, rfl, hj.1, hj.2, fun p hp => post_lst sr1 (isL_range _) (post.mono e1) hp⟩
end
end OP
set_option maxHeartbeats 1000000
namespace OP
open PySem PySem.Spec PyProof PyProof.Rows L2 OG
section
variable {X : Cx} {K : PySem.W.Frag}
theorem we_thaw {e : Expr} {t : TE} (h : WE X e t) : WE X e (fun σ H Q => t σ H fun v H' => ∃ a ob kvs, NoFr X a ∧ H' a = some (.frz ob (.dK kvs)) ∧ Q v (upd H' a (.dK kvs))) :=
  ⟨fun pins s σ H Q I k => thn (h.h pins s σ H _ I k) fun u s1 ⟨v, H1, I1, r1, a, ob, kvs, nf, e, q⟩ => ⟨v, _, inv_thaw I1 nf e, r1, q⟩⟩
noncomputable def cWalkD (ce : CE) (f : (Sto → Prop) → Nat → List U → Rho → Sto → Option Sto) (n : Nat) (caps : List Nat) : CE := fun ρ S => (ce ρ S).bind fun p => match p.1 with
  | .ref l => match p.2[l]? with
    | some (.dic kus) => uni fun ep => (f (fun S' => S'[l]? = some (.fdc ep kus)) p.2.length (kus.map fun q => kU q.1) (rhoC n caps ρ) (p.2.set l (.fdc ep kus) ++ [.lst []])).bind fun S' => match S'[l]? with
      | some (.fdc _ kus') => some (.ref p.2.length, S'.set l (.dic kus'))
      | _ => none
    | _ => none
  | _ => none
noncomputable def cCompIfD (ce : CE) (g : CG) (ct : CT) (el : CE) (n : Nat) (caps : List Nat) : CE := cWalkD ce (fun ok l => compIfU ok g ct el l) n caps
theorem walkD_imp {ce : CE} {f : (Sto → Prop) → Nat → List U → Rho → Sto → Option Sto} {n : Nat} {caps : List Nat} {G : It → Hp → L2.St → VK → Prop}
    (core : ∀ {J : It} {us : List U} {ok : Sto → Prop} {Q : VK} {m1 : List Addr} {H1 : Hp} {S1 S' : Sto} {ρ : Rho} {σ : L2.St}, Sr X.K m1 S1 H1 → Lr X.K m1 H1 ρ σ → ItOk X.K J m1 H1 us ok → f ok S1.length us (rhoC n caps ρ) (S1 ++ [.lst []]) = some S' →
      (∀ l, H1 l = none → ∀ m2 H2, Ext X.K (m1 ++ [l]) (upd H1 l (.lst [])) m2 H2 → Sr X.K m2 S' H2 → Q (.ref l) H2) → G J H1 σ Q) :
    ∀ σ H Q, tE X.K (cWalkD ce f n caps) σ H Q → iDict X (tE X.K ce) σ H fun J H1 => G J H1 σ fun v H' => ∃ a ob kvs, NoFr X a ∧ H' a = some (.frz ob (.dK kvs)) ∧ Q v (upd H' a (.dK kvs)) := by
  rintro σ H Q ⟨m, ρ, S, u, S', sr, lr, hc, post⟩
  obtain ⟨⟨x, S1⟩, h1, h⟩ := Option.bind_eq_some_iff.mp hc
  refine ⟨m, ρ, S, x, S1, sr, lr, h1, fun m1 v1 H1 e1 sr1 i1 => ?_⟩
  cases x with
  | ref l =>
    simp only at h
    split at h <;> try cases h
    rename_i kus hS
    obtain ⟨a, ha, rfl⟩ := i1.of_ref
    obtain ⟨a', ha', kvs, hx, ip⟩ := sr1.get hS
    rw [ha] at ha'; cases ha'
    refine ⟨a, kvs, rfl, hx, fun ob es ep nf hd => ?_⟩
    obtain ⟨S2, h2, h3⟩ := Option.bind_eq_some_iff.mp (uni_some h ep)
    try simp only at h3
    split at h3 <;> try cases h3
    rename_i ep' kus' hS2
    have kp : Keep X.K H1 (upd H1 a (.frz ob (.dK kvs))) := sr1.keep ha _
    have ee : Ext X.K m1 H1 m1 (upd H1 a (.frz ob (.dK kvs))) := .of kp
    have sr2 : Sr X.K m1 (S1.set l (.fdc ep kus)) (upd H1 a (.frz ob (.dK kvs))) := sr1.put ha ⟨ob, es, kvs, upd_same, hd, ip.mono ee⟩
    rw [ip.1]
    have hln : (S1.set l (.fdc ep kus)).length = S1.length := by simp
    refine core sr2 (lr.mono (e1.trans ee)) (it_dict ha) (by rw [hln]; exact h2) fun p hp m3 H3 e3 sr3 => ?_
    have en : Ext X.K m1 (upd H1 a (.frz ob (.dK kvs))) (m1 ++ [p]) (upd (upd H1 a (.frz ob (.dK kvs))) p (.lst [])) := .new (keep_new hp _)
    have e03 := en.trans e3
    obtain ⟨a3, ha3, ob3, es3, kvs3, hx3, hd3, ip3⟩ := sr3.get hS2
    rw [e03.get ha] at ha3; cases ha3
    have e4 : Ext X.K m3 H3 m3 (upd H3 a (.dK kvs3)) := .of (sr3.keep (e03.get ha) _)
    refine ⟨a, ob3, kvs3, nf, hx3, post m3 _ _ (((e1.trans ee).trans e03).trans e4) (sr3.put (e03.get ha) ⟨kvs3, upd_same, ip3.mono e4⟩) ?_⟩
    have lg : (m1 ++ [p])[S1.length]? = some p := last_get sr1.len
    exact .ref_ (e3.get lg)
  | _ => cases h
variable {Nc capN tn : List Str} {scope : Scope} {cl : List (Str × Addr)} {n : Nat} {caps : List Nat} {tg iter elt c : Expr} {pos : Pos} {ci : CE} {g : CG} {ct : CT} {ce : CE}
theorem q_compIfD (hc : X.calm = true) (hi : QE X iter ci) (hg : ∀ s3 H3 fp, WG (cxC X Nc scope cl s3 H3 fp) tg (tG X.K g)) (ht : ∀ s3 H3 fp, WT (cxC X Nc scope cl s3 H3 fp) c (tT X.K ct)) (he : ∀ s3 H3 fp, WE (cxC X Nc scope cl s3 H3 fp) elt (tE X.K ce))
    (hclos : closureFor scope X.env = pure cl) (hkind : scope.kind = .function) (hnl : ∀ x ∈ scope.names, x.2 = .local → scope.names.lookup x.1 = some .local) (hcell : ∀ x ∈ scope.names, x.2 ≠ .cell)
    (hcl : AllC X.env cl) (hhas : ((relabel scope X.env).names.all fun p => !(p.2 == .cell || p.2 == .free) || (cl.lookup p.1).isSome) = true)
    (hcap : Paired (Cap X scope cl) caps capN) (hN : Nc = tn ++ capN) (hn : tn.length = n)
    (hs : ∀ x, foldedSetIterable iter X.env x = pure x := by intro _; rfl) :
    QE X (.ListComp elt [⟨tg, iter, [c], 0⟩] scope pos) (cCompIfD ci g ct ce n caps) :=
  (we_thaw (wpe_compIf hc (wi_dict hi) hg he ht hclos hkind hnl hcell hcl hhas hcap hN hn hs)).imp (walkD_imp (G := fun J H1 σ Q => ∀ l, H1 l = none → ∃ W : Nat → Nat → L2.St → Hp → Prop, (∃ m, W 0 m (OG.stC n caps σ) (upd H1 l (.lst []))) ∧
    ∀ i m σ' H2, W i m σ' H2 → (J.stop i H2 ∧ Q (.ref l) H2) ∨ (J.go i H2 ∧ ∃ N : L2.St → Hp → Prop, (∀ σ'' H', N σ'' H' → ∃ m', m' < m ∧ W (i + 1) m' σ'' H') ∧
    ∀ x H3, J.yld i H2 x H3 → tG X.K g x σ' H3 fun σ2 H4 => tT X.K ct σ2 H4 fun b H5 => match b with
      | true => tE X.K ce σ2 H5 fun v H6 => ∃ ys, H6 l = some (.lst ys) ∧ ys.length < sizeLine ∧ N σ2 (upd H6 l (.lst (ys ++ [v])))
      | false => N σ2 H5)) fun sr lr ito h2 post l hl => compIf_core sr lr ito hl h2 (post l hl))
def tkey : List U → Option (List Key)
  | [] => some []
  | u :: r => (keyU u).bind fun k => (tkey r).map (k :: ·)
theorem tkey_ok {m : List Addr} {H : Hp} : ∀ {us : List U} {xs : List V} {ks : List Key}, IsL K m H xs us → tkey us = some ks → xs = ks.map kV
  | [], xs, ks, i, h => by cases h; exact i.of_nil
  | u :: r, xs, ks, i, h => by
    obtain ⟨x, t, rfl, ix, it⟩ := i.of_cons
    obtain ⟨k, hk, h⟩ := Option.bind_eq_some_iff.mp h
    obtain ⟨ks', h', rfl⟩ := Option.map_eq_some_iff.mp h
    rw [keyU_ok ix hk, tkey_ok it h']; rfl
def cDNewT : CE := fun _ S => some (.ref S.length, S ++ [.dit []])
theorem q_dnewT {pos : Pos} : QE X (.Dict [] [] pos) cDNewT := wpe_dnewT.imp fun σ H Q ⟨m, ρ, S, u, S', sr, lr, hc, post⟩ => by
  cases hc
  exact fun p hp => post (m ++ [p]) _ _ (.new (keep_new hp _)) (sr.new hp ⟨[], upd_same, .nil_⟩) (.ref_ (last_get sr.len))
def cSetIxT (co : CE) (cr : CA) (cv : CE) : CS := fun ρ S => (cv ρ S).bind fun p => (co ρ p.2).bind fun q => (cr ρ q.2).bind fun r => match q.1 with
  | .ref l => match r.2[l]? with
    | some (.dit kus) => (tkey r.1).bind fun k => if kus.length < LIM ∧ r.1.length ≤ LIM then some (.nx, ρ, r.2.set l (.dit (putG kus k p.1))) else none
    | _ => none
  | _ => none
theorem qs_setIxT {o : Expr} {es : List Expr} {e : Expr} {co cv : CE} {cr : CA} {k2 : Nat} {p2 pos pos' : Pos} (hu : X.A.units + 1 < cLine) (ho : QE X o co) (hi : QA X es cr) (hv : QE X e cv)
    (hs : swapsWith e (some (.Subscript o (.Tuple es k2 p2) pos')) pos.line X.env = pure false := by rfl) : QS X (.Assign [.Subscript o (.Tuple es k2 p2) pos'] e pos) (cSetIxT co cr cv) :=
  (wps_dput hu ho (wpe_tup hi.h) hv hs).imp fun D σ H ⟨m, ρ, S, oo, ρ', S', sr, lr, hc, post⟩ => by
  obtain ⟨⟨v, S1⟩, h1, ha⟩ := Option.bind_eq_some_iff.mp hc
  obtain ⟨⟨ou, S2⟩, h2, hb⟩ := Option.bind_eq_some_iff.mp ha
  obtain ⟨⟨ius, S3⟩, h3, h⟩ := Option.bind_eq_some_iff.mp hb
  clear ha hb hc
  cases ou with
  | ref l =>
    simp only at h
    split at h <;> try cases h
    rename_i kus hS
    obtain ⟨k, hk, h4⟩ := Option.bind_eq_some_iff.mp h
    split at h4 <;> try cases h4
    rename_i hlen
    refine ⟨m, ρ, S, v, S1, sr, lr, h1, fun m1 v1 H1 e1 sr1 i1 => ⟨m1, ρ, S1, _, S2, sr1, lr.mono e1, h2, fun m2 v2 H2 e2 sr2 i2 => ⟨m2, ρ, S2, ius, S3, sr2, lr.mono (e1.trans e2), h3, fun m3 vs H3 e3 sr3 i3 => ?_⟩⟩⟩
    refine ⟨lim (by rw [i3.length]; exact hlen.2), fun p hp => ?_⟩
    obtain ⟨a, ha, rfl⟩ := (i2.mono e3).of_ref
    obtain ⟨a', ha', kvs, hx, ip⟩ := sr3.get hS
    rw [ha] at ha'; cases ha'
    have hvs := tkey_ok i3 hk
    subst hvs
    have s3 : Same H3 (upd H3 p (.tup (k.map kV))) := same_new hp _
    have en : Ext X.K m3 H3 m3 (upd H3 p (.tup (k.map kV))) := .of (keep_new hp _)
    have srn := sr3.same s3
    have hxn : (upd H3 p (.tup (k.map kV))) a = some (.dT kvs) := s3 _ _ hx
    have e13 := ((e1.trans e2).trans e3).trans en
    have ee : Ext X.K m3 (upd H3 p (.tup (k.map kV))) m3 (upd (upd H3 p (.tup (k.map kV))) a (.dT (putK kvs k v1))) := .of (srn.keep ha _)
    exact ⟨a, _, rfl, DPut.t hxn upd_same (lim1 (by rw [IsP.length ip]; exact hlen.1)), post m3 σ _ (e13.trans ee) (srn.put ha ⟨_, upd_same, (IsP.put (ip.mono en) (i1.mono ((e2.trans e3).trans en))).mono ee⟩) (lr.mono (e13.trans ee))⟩
  | _ => cases h
end
end OP
set_option maxHeartbeats 1000000
namespace OP
open PySem PySem.Spec PyProof PyProof.Rows L2 OG PySem.W
section
variable {cmp : Nat → Nat → (Bool → Shared → Prop) → Shared → Prop} {s : Shared} {n : Nat} {lt : Nat → Nat → Bool}
structure LtOk (n : Nat) (lt : Nat → Nat → Bool) : Prop where
  tr : ∀ {i j k}, i < n → j < n → k < n → lt i j = true → lt j k = true → lt i k = true
  tot : ∀ {i j}, i < n → j < n → i ≠ j → lt i j = false → lt j i = true
  asym : ∀ {i j}, i < n → j < n → lt i j = true → lt j i = false
def Asks (cmp : Nat → Nat → (Bool → Shared → Prop) → Shared → Prop) (n : Nat) (lt : Nat → Nat → Bool) (s : Shared) : Prop := ∀ i j C, i < n → j < n → C (lt i j) s → cmp i j C s
structure Pm (n : Nat) (p : Array Nat) : Prop where
  sz : p.size = n
  bd : ∀ i, i < n → p.getD i 0 < n
  ne : ∀ i j, i < j → j < n → p.getD i 0 ≠ p.getD j 0
def Asc (lt : Nat → Nat → Bool) (p : Array Nat) (k : Nat) : Prop := ∀ i j, i < j → j < k → lt (p.getD i 0) (p.getD j 0) = true
def Dsc (lt : Nat → Nat → Bool) (p : Array Nat) (k : Nat) : Prop := ∀ i j, i < j → j < k → lt (p.getD j 0) (p.getD i 0) = true
variable {p : Array Nat}
theorem Pm.ne' (P : Pm n p) {i j : Nat} (hi : i < n) (hj : j < n) (h : i ≠ j) : p.getD i 0 ≠ p.getD j 0 := by
  rcases Nat.lt_or_gt_of_ne h with z | z
  · exact P.ne i j z hj
  · exact Ne.symm (P.ne j i z hi)
theorem Asc.snoc (O : LtOk n lt) (P : Pm n p) {m : Nat} (h1 : 1 ≤ m) (hm : m < n) (h : Asc lt p m) (h2 : lt (p.getD (m - 1) 0) (p.getD m 0) = true) : Asc lt p (m + 1) := fun i j hij hj => by
  by_cases e : j = m
  · subst e
    by_cases e2 : i = j - 1
    · subst e2; exact h2
    · exact O.tr (P.bd _ (by omega)) (P.bd _ (by omega)) (P.bd _ (by omega)) (h i (j - 1) (by omega) (by omega)) h2
  · exact h i j hij (by omega)
theorem Dsc.snoc (O : LtOk n lt) (P : Pm n p) {m : Nat} (h1 : 1 ≤ m) (hm : m < n) (h : Dsc lt p m) (h2 : lt (p.getD m 0) (p.getD (m - 1) 0) = true) : Dsc lt p (m + 1) := fun i j hij hj => by
  by_cases e : j = m
  · subst e
    by_cases e2 : i = j - 1
    · subst e2; exact h2
    · exact O.tr (P.bd _ (by omega)) (P.bd _ (by omega)) (P.bd _ (by omega)) h2 (h i (j - 1) (by omega) (by omega))
  · exact h i j hij (by omega)
theorem asc_wp (O : LtOk n lt) (A : Asks cmp n lt s) (P : Pm n p) : ∀ (f m : Nat) {Q : Nat → Shared → Prop}, 1 ≤ m → m + f ≤ n → Asc lt p m → (∀ m', m ≤ m' → m' ≤ m + f → Asc lt p m' → (m' = m + f ∨ lt (p.getD m' 0) (p.getD (m' - 1) 0) = true) → Q m' s) → (kas_asc p f m).kasWp cmp Q s
  | 0, m, Q, h1, h2, h3, q => q m (Nat.le_refl _) (by omega) h3 (.inl rfl)
  | f + 1, m, Q, h1, h2, h3, q => by
    refine A _ _ _ (P.bd _ (by omega)) (P.bd _ (by omega)) ?_
    cases hc : lt (p.getD m 0) (p.getD (m - 1) 0) with
    | true => exact q m (Nat.le_refl _) (by omega) h3 (.inr hc)
    | false =>
      have h4 := h3.snoc O P h1 (by omega) (O.tot (P.bd _ (by omega)) (P.bd _ (by omega)) (P.ne' (by omega) (by omega) (by omega)) hc)
      exact asc_wp O A P f (m + 1) (by omega) (by omega) h4 fun m' a b c d => q m' (by omega) (by omega) c (by rcases d with d | d; exact .inl (by omega); exact .inr d)
theorem desc_wp (O : LtOk n lt) (A : Asks cmp n lt s) (P : Pm n p) : ∀ (f m : Nat) {Q : Array Nat × Nat × Nat → Shared → Prop}, 1 ≤ m → m + f ≤ n → Dsc lt p m → (∀ m', m ≤ m' → m' ≤ m + f → Dsc lt p m' → Q (p, m', 0) s) → (kas_desc f p m 0).kasWp cmp Q s
  | 0, m, Q, h1, h2, h3, q => q m (Nat.le_refl _) (by omega) h3
  | f + 1, m, Q, h1, h2, h3, q => by
    refine A _ _ _ (P.bd _ (by omega)) (P.bd _ (by omega)) ?_
    cases hc : lt (p.getD m 0) (p.getD (m - 1) 0) with
    | true => exact desc_wp O A P f (m + 1) (by omega) (by omega) (h3.snoc O P h1 (by omega) hc) fun m' a b c => q m' (by omega) (by omega) c
    | false =>
      refine A _ _ _ (P.bd _ (by omega)) (P.bd _ (by omega)) ?_
      rw [O.tot (P.bd _ (by omega)) (P.bd _ (by omega)) (P.ne' (by omega) (by omega) (by omega)) hc]
      exact q m (Nat.le_refl _) (by omega) h3
theorem getD_of {p q : Array Nat} {i j : Nat} (h : p[i]? = q[j]?) : p.getD i 0 = q.getD j 0 := by
  rw [Array.getD_eq_getD_getElem?, Array.getD_eq_getD_getElem?, h]
theorem rev_get {m k : Nat} (hm : m ≤ p.size) : (kas_rev p 0 m).getD k 0 = if k < m then p.getD (m - 1 - k) 0 else p.getD k 0 := by
  unfold kas_rev
  have h := getElem?_mirror_all (i := 0) hm k
  split
  · rename_i c
    rw [if_pos ⟨Nat.zero_le _, c⟩] at h
    exact getD_of (by rw [h]; congr 1; omega)
  · rename_i c
    rw [if_neg (by omega)] at h
    exact getD_of h
theorem Pm.rev (P : Pm n p) {m : Nat} (hm : m ≤ n) : Pm n (kas_rev p 0 m) where
  sz := by rw [kas_rev_size]; exact P.sz
  bd := fun i hi => by
    rw [rev_get (by rw [P.sz]; exact hm)]
    split <;> exact P.bd _ (by omega)
  ne := fun i j hij hj => by
    rw [rev_get (by rw [P.sz]; exact hm), rev_get (by rw [P.sz]; exact hm)]
    split <;> split <;> exact P.ne' (by omega) (by omega) (by omega)
theorem Dsc.rev {m : Nat} (P : Pm n p) (hm : m ≤ n) (h : Dsc lt p m) : Asc lt (kas_rev p 0 m) m := fun i j hij hj => by
  rw [rev_get (by rw [P.sz]; exact hm), rev_get (by rw [P.sz]; exact hm), if_pos (by omega), if_pos hj]
  exact h _ _ (by omega) (by omega)
theorem count_wp (O : LtOk n lt) (A : Asks cmp n lt s) (P : Pm n p) {Q : Nat × Array Nat → Shared → Prop} (h1 : 1 ≤ n) (q : ∀ m p', 1 ≤ m → m ≤ n → Pm n p' → Asc lt p' m → Q (m, p') s) : (kas_count n p).kasWp cmp Q s := by
  unfold kas_count
  rw [KasT.kasWp_bind]
  refine asc_wp O A P (n - 1) 1 (Nat.le_refl _) (by omega) (fun i j a b => by omega) fun m a b c d => ?_
  by_cases e : m = n
  · rw [if_pos (by rw [e]; exact beq_self_eq_true n)]
    exact q m p a (by omega) P c
  rw [if_neg (by simpa using e)]
  have d' : lt (p.getD m 0) (p.getD (m - 1) 0) = true := by
    rcases d with d | d
    · omega
    · exact d
  by_cases g : m > 1
  · rw [if_pos g]
    refine A _ _ _ (P.bd _ (by omega)) (P.bd _ (by omega)) ?_
    rw [c 0 (m - 1) (by omega) (by omega)]
    exact q m p a (by omega) P c
  · rw [if_neg g]
    have m1 : m = 1 := by omega
    subst m1
    unfold kas_descPart
    rw [KasT.kasWp_bind]
    have d2 : Dsc lt p 2 := fun i j a b => by
      have e1 : i = 0 := by omega
      have e2 : j = 1 := by omega
      subst e1; subst e2; exact d'
    refine desc_wp O A P (n - (1 + 1)) (1 + 1) (by omega) (by omega) d2 fun m' a' b' c' => ?_
    rw [if_neg (by simp)]
    unfold kas_tail3
    rw [KasT.kasWp_bind]
    have hm' : m' ≤ n := by omega
    exact asc_wp O A (P.rev hm') (n - m') m' (by omega) (by omega) (c'.rev P hm') fun m2 a2 b2 c2 _ => q m2 _ (by omega) (by omega) (P.rev hm') c2
theorem place_wp (O : LtOk n lt) (A : Asks cmp n lt s) (P : Pm n p) {k : Nat} (hk : k < n) (hs : Asc lt p k) : ∀ (f l r : Nat) {Q : Nat → Shared → Prop}, l ≤ r → r ≤ k → r - l ≤ f → (∀ i, i < l → lt (p.getD i 0) (p.getD k 0) = true) → (∀ i, r ≤ i → i < k → lt (p.getD k 0) (p.getD i 0) = true) →
    (∀ l', l' ≤ k → (∀ i, i < l' → lt (p.getD i 0) (p.getD k 0) = true) → (∀ i, l' ≤ i → i < k → lt (p.getD k 0) (p.getD i 0) = true) → Q l' s) → (kas_place p k f l r).kasWp cmp Q s
  | 0, l, r, Q, h1, h2, h3, h4, h5, q => q l (by omega) h4 fun i a b => h5 i (by omega) b
  | f + 1, l, r, Q, h1, h2, h3, h4, h5, q => by
    unfold kas_place
    by_cases e : l ≥ r
    · rw [if_pos e]
      exact q l (by omega) h4 fun i a b => h5 i (by omega) b
    · rw [if_neg e]
      have hM : (l + r) / 2 < k := by omega
      refine A _ _ _ (P.bd _ hk) (P.bd _ (by omega)) ?_
      cases hc : lt (p.getD k 0) (p.getD ((l + r) / 2) 0) with
      | true =>
        refine place_wp O A P hk hs f l ((l + r) / 2) (by omega) (by omega) (by omega) h4 (fun i a b => ?_) q
        by_cases e2 : i = (l + r) / 2
        · subst e2; exact hc
        · exact O.tr (P.bd _ hk) (P.bd _ (by omega)) (P.bd _ (by omega)) hc (hs _ i (by omega) b)
      | false =>
        have hc' := O.tot (P.bd _ hk) (P.bd _ (show (l + r) / 2 < n by omega)) (P.ne' hk (by omega) (by omega)) hc
        refine place_wp O A P hk hs f ((l + r) / 2 + 1) r (by omega) (by omega) (by omega) (fun i a => ?_) h5 q
        by_cases e2 : i = (l + r) / 2
        · subst e2; exact hc'
        · exact O.tr (P.bd _ (by omega)) (P.bd _ (by omega)) (P.bd _ hk) (hs i ((l + r) / 2) (by omega) hM) hc'
theorem bub_get {k l i : Nat} (hk : k < p.size) (hl : l ≤ k) : (bubble p k (k - l)).getD i 0 = if i = l then p.getD k 0 else if l < i ∧ i ≤ k then p.getD (i - 1) 0 else p.getD i 0 := by
  have h := getElem?_bubble hk (k - l) (by omega) i
  rw [show k - (k - l) = l by omega] at h
  by_cases c : i = l
  · rw [if_pos c] at h ⊢; exact getD_of h
  · rw [if_neg c] at h ⊢
    by_cases d : l < i ∧ i ≤ k
    · rw [if_pos d] at h ⊢; exact getD_of h
    · rw [if_neg d] at h ⊢; exact getD_of h
theorem Pm.bub (P : Pm n p) {k l : Nat} (hk : k < n) (hl : l ≤ k) : Pm n (bubble p k (k - l)) where
  sz := by rw [bubble_size]; exact P.sz
  bd := fun i hi => by
    rw [bub_get (by rw [P.sz]; exact hk) hl]
    repeat' split
    all_goals exact P.bd _ (by omega)
  ne := fun i j hij hj => by
    rw [bub_get (by rw [P.sz]; exact hk) hl, bub_get (by rw [P.sz]; exact hk) hl]
    repeat' split
    all_goals first | (exfalso; omega) | exact P.ne' (by omega) (by omega) (by omega)
theorem Asc.bub (P : Pm n p) {k l : Nat} (hk : k < n) (hl : l ≤ k) (h : Asc lt p k) (h1 : ∀ i, i < l → lt (p.getD i 0) (p.getD k 0) = true) (h2 : ∀ i, l ≤ i → i < k → lt (p.getD k 0) (p.getD i 0) = true) : Asc lt (bubble p k (k - l)) (k + 1) := fun i j hij hj => by
  rw [bub_get (by rw [P.sz]; exact hk) hl, bub_get (by rw [P.sz]; exact hk) hl]
  repeat' split
  all_goals first | (exfalso; omega) | exact h1 _ (by omega) | exact h2 _ (by omega) (by omega) | exact h _ _ (by omega) (by omega)
theorem bin_wp (O : LtOk n lt) (A : Asks cmp n lt s) : ∀ (f : Nat) (p : Array Nat) (k : Nat) {Q : Array Nat → Shared → Prop}, Pm n p → k + f = n → Asc lt p k → (∀ p', Pm n p' → Asc lt p' n → Q p' s) → (kas_bin f p k).kasWp cmp Q s
  | 0, p, k, Q, P, h1, h2, q => q p P (by rw [← h1]; exact h2)
  | f + 1, p, k, Q, P, h1, h2, q => by
    unfold kas_bin
    rw [KasT.kasWp_bind]
    refine place_wp O A P (k := k) (by omega) h2 k 0 k (Nat.zero_le _) (Nat.le_refl _) (by omega) (fun i a => by omega) (fun i a b => by omega) fun l a b c => ?_
    exact bin_wp O A f _ (k + 1) (P.bub (by omega) a) (by omega) (h2.bub P (by omega) a b c) q
theorem pm_range : Pm n (List.toArray (List.range n)) := by
  have g : ∀ i, i < n → (List.toArray (List.range n)).getD i 0 = i := fun i hi => by simp [Array.getD, hi]
  exact ⟨by simp, fun i hi => by rw [g i hi]; exact hi, fun i j hij hj => by rw [g i (by omega), g j hj]; omega⟩
theorem sort_wp (O : LtOk n lt) (A : Asks cmp n lt s) {Q : Array Nat → Shared → Prop} (h1 : 1 ≤ n) (q : ∀ p', Pm n p' → Asc lt p' n → Q p' s) : (kas_sort n).kasWp cmp Q s := by
  unfold kas_sort
  rw [KasT.kasWp_bind]
  refine count_wp O A pm_range h1 fun m p' a b P c => ?_
  by_cases e : m < n
  · rw [if_pos e]
    rw [show max m 1 = m by omega]
    exact bin_wp O A _ _ _ P (by omega) c q
  · rw [if_neg e]
    exact q p' P (by rw [show n = m by omega]; exact c)
end
end OP
set_option maxHeartbeats 1000000
namespace OP
open PySem PySem.Spec PyProof PyProof.Rows L2 OG
section
variable {prog : Program} {w : World} {A : Around} {E : Value → Shared → Prop} {s : Shared} {d it : Addr} {o : Obj} {es : Array DictEntry} {ep i : Nat}
end
def FzT (H : Hp) (a : Addr) (ep : Nat) (ks : List (List Key)) : Prop := ∃ ob es kvs, H a = some (.frz ob (.dT kvs)) ∧ ob.data = .dict es ep ∧ kvs.map (·.1) = ks
def Itt (a : Addr) (ep : Nat) (ks : List (List Key)) : It :=
  ⟨fun i H => i < ks.length ∧ FzT H a ep ks, fun i H x H' => H' = H ∧ ∃ k p, ks[i]? = some k ∧ x = .ref p ∧ H p = some (.tup (k.map kV)), fun i H => ks.length ≤ i ∧ FzT H a ep ks⟩
end OP
set_option maxHeartbeats 1000000
namespace OP
open PySem PySem.Spec PyProof PyProof.Rows L2 OG PySem.W
theorem list_sort_any {prog : Program} {w : World} {A : Around} {E : Value → Shared → Prop} {s : Shared} {a : Addr} {vs : List Value} {n : Nat} {P : PySem.Fin → Shared → Prop}
    (g : s.heap.get? a = some (seqObj "list" vs.toArray n)) (h2 : 2 ≤ vs.length) (h64 : vs.length < 64)
    (ask : ∀ h' : Heap, (∀ b o, b ≠ a → s.heap.get? b = some o → h'.get? b = some o) → wpAny (model prog w) A (keyKind' vs.toArray) (fun κ s' => s' = { s with heap := h' } ∧ KasT.kasWp (kas_ask prog w A κ vs) (kas_sort vs.length)
      (fun p s'' => s'' = { s with heap := h' } ∧ P (Fin.done (Flow.ret Value.none)) { s with heap := sortedHeap s.heap a vs (p.toList.map fun i => vs.getD i Value.none).toArray }) { s with heap := h' }) E { s with heap := h' }) :
    wpAny (model prog w) A (Builtin.«list.sort» { pos := [Value.ref a] }) P E s := by
  rw [list_sort_plain]
  have hS : vs.toArray.size = vs.length := by simp
  have hz : vs.length ≤ sizeLine := by unfold sizeLine; omega
  have lt := Heap.lt_size g
  refine wpAny_bind (listItems_at g rfl (wpAny_bind (listUpdate_at g rfl ?_ (by rw [hS]; exact hz) (by simp))))
  obtain ⟨e1, g1⟩ : ∃ e1, (s.heap.update a (Obj.mapSeq fun _ => #[])).get? a = some (seqObj "list" #[] e1) := ⟨_, get?_update_seq g fun _ => #[]⟩
  refine wpAny_bind (seqEpoch_at g1 rfl (wpAny_bind (wpAny_newTuple (wpAny_bind (wpAny_newList (wpAny_holding ?_) (by simp))) (by simpa using hz))))
  have hu : (s.heap.update a (Obj.mapSeq fun _ => #[])).objs.size = s.heap.objs.size := Heap.size_update ..
  have g2 : (((s.heap.update a (Obj.mapSeq fun _ => #[])).push (seqObj "tuple" vs.toArray 0)).push (seqObj "list" #[] 0)).get? a = some (seqObj "list" #[] e1) :=
    Heap.get?_push_of_some _ (Heap.get?_push_of_some _ g1)
  have n2 : ¬ vs.toArray.size < 2 := by rw [hS]; omega
  dsimp only
  rw [if_neg n2]
  have hk : ∀ b o, b ≠ a → s.heap.get? b = some o → (((s.heap.update a (Obj.mapSeq fun _ => #[])).push (seqObj "tuple" vs.toArray 0)).push (seqObj "list" #[] 0)).get? b = some o := fun b o hb ho => by
    refine Heap.get?_push_of_some _ (Heap.get?_push_of_some _ ?_)
    rw [Heap.get?_update_ne _ _ _ _ hb]; exact ho
  refine wpAny_bind (wpAny_mono (ask _ hk) (fun κ s' hs' => ?_) fun _ _ h' => h')
  obtain ⟨rfl, hrun⟩ := hs'
  rw [if_neg n2]
  refine wpAny_bind (wpAny_mono (kat_run (ks := vs) (Q := fun st' s' => ∃ p : Array Nat, p.size = vs.length ∧ arrOf st' = Array.map (kas_item (vs.toArray.zip vs.toArray)) p ∧ failedOf st' = none ∧ s' = _ ∧ P (Fin.done (Flow.ret Value.none)) { s with heap := sortedHeap s.heap a vs (p.toList.map fun i => vs.getD i Value.none).toArray }) rfl h2 h64 (fun p st' s' hp harr hfail hG => ⟨p, hp, harr, hfail, hG⟩) hrun) (fun r s' hr => ?_) fun _ _ h' => h')
  obtain ⟨u, st'⟩ := r
  obtain ⟨p, hp, harr, hfail, rfl, hP⟩ := hr
  have hout : Array.map (fun x => x.snd) (arrOf st') = (p.toList.map fun i => vs.getD i Value.none).toArray := kat_snds rfl harr
  refine wpAny_bind (seqEpoch_at g2 rfl (wpAny_bind (listUpdate_at g2 rfl ?_ (by simp) ?_)))
  · dsimp only at hfail ⊢
    rw [hfail]
    simp only [bne_self_eq_false, Bool.false_eq_true, if_false]
    have hP' := hP
    rw [← hout] at hP'
    exact wpAny_pure hP'
  · dsimp only
    rw [hout]
    simp
    unfold sizeLine
    omega
def PairAt (h : Heap) (v : Value) (p : Int × Int) : Prop := ∃ b o t1 t2 e, v = Value.ref b ∧ h.get? b = some o ∧ o.cls = Value.type "tuple" ∧ o.data = Data.seq #[Value.int p.1 t1, Value.int p.2 t2] e
def ltP (p q : Int × Int) : Bool := decide (p.1 < q.1 ∨ p.1 = q.1 ∧ p.2 < q.2)
section
variable {prog : Program} {w : World} {A : Around} {E : Value → Shared → Prop} {s : Shared}
theorem oneLt_int2 {b : Bool} {x y : Int} {t u : Tok} {Q : Bool → Shared → Prop} (h : Q (decide (x < y)) s) : wpAny (model prog w) A (oneLt' b (Value.int x t) (Value.int y u)) Q E s := by
  cases b with
  | true => exact oneLt_int h
  | false =>
    rw [oneLt'_eq]
    dsimp only
    rw [if_neg Bool.false_ne_true]
    exact wpAny_bind (wpAny_lt_int (wpAny_truthy_bool h))
theorem pair_lt {v v' : Value} {p p' : Int × Int} {C : Bool → Shared → Prop} (h : PairAt s.heap v p) (h' : PairAt s.heap v' p') (c : C (ltP p p') s) : wpAny (model prog w) A (keyLt' (tuples' true) v v') C E s := by
  obtain ⟨b, o, t1, t2, e, rfl, g, _, d⟩ := h
  obtain ⟨b', o', t1', t2', e', rfl, g', _, d'⟩ := h'
  refine kat_lt g d g' d' (kat_cons (wpAny_eqBool_int ?_))
  by_cases e1 : p.1 = p'.1
  · rw [e1, beq_self_eq_true]
    refine kat_yes (kat_cons (wpAny_eqBool_int ?_))
    by_cases e2 : p.2 = p'.2
    · rw [e2, beq_self_eq_true]
      refine kat_yes (kat_nil ?_)
      have : ltP p p' = false := by simp [ltP, e1, e2]
      rw [this] at c
      exact c
    · rw [beq_eq_false_iff_ne.mpr e2]
      refine kat_no (oneLt_int2 ?_)
      have : ltP p p' = decide (p.2 < p'.2) := by simp [ltP, e1]
      rw [this] at c
      exact c
  · rw [beq_eq_false_iff_ne.mpr e1]
    refine kat_no (oneLt_int2 ?_)
    have : ltP p p' = decide (p.1 < p'.1) := by simp [ltP, e1]
    rw [this] at c
    exact c
def PairsAt (h : Heap) : List Value → List (Int × Int) → Prop
  | [], [] => True
  | v :: vs, p :: ps => PairAt h v p ∧ PairsAt h vs ps
  | _, _ => False
theorem pairs_len {h : Heap} : ∀ {vs : List Value} {ps : List (Int × Int)}, PairsAt h vs ps → vs.length = ps.length
  | [], [], _ => rfl
  | _ :: _, _ :: _, k => by rw [List.length_cons, List.length_cons, pairs_len k.2]
  | [], _ :: _, k => k.elim
  | _ :: _, [], k => k.elim
theorem pairs_get {h : Heap} : ∀ {vs : List Value} {ps : List (Int × Int)} {i : Nat}, PairsAt h vs ps → i < ps.length → PairAt h (vs.getD i Value.none) (ps.getD i (0, 0))
  | [], [], _, _, k => absurd k (Nat.not_lt_zero _)
  | _ :: _, _ :: _, 0, k, _ => k.1
  | _ :: vs, _ :: ps, i + 1, k, l => by
    show PairAt h (vs.getD i Value.none) (ps.getD i (0, 0))
    exact pairs_get k.2 (by rw [List.length_cons] at l; omega)
  | [], _ :: _, _, k, _ => k.elim
  | _ :: _, [], _, k, _ => k.elim
theorem pair_mono {h h' : Heap} {v : Value} {p : Int × Int} {a : Addr} (k : PairAt h v p) (hv : v ≠ .ref a) (m : ∀ b o, b ≠ a → h.get? b = some o → h'.get? b = some o) : PairAt h' v p := by
  obtain ⟨b, o, t1, t2, e, rfl, g, c, d⟩ := k
  exact ⟨b, o, t1, t2, e, rfl, m b o (fun e => hv (by rw [e])) g, c, d⟩
theorem pairs_mono {h h' : Heap} {a : Addr} (m : ∀ b o, b ≠ a → h.get? b = some o → h'.get? b = some o) : ∀ {vs : List Value} {ps : List (Int × Int)}, PairsAt h vs ps → (∀ v ∈ vs, v ≠ .ref a) → PairsAt h' vs ps
  | [], [], _, _ => trivial
  | v :: vs, _ :: _, k, hv => ⟨pair_mono k.1 (hv v List.mem_cons_self) m, pairs_mono m k.2 fun x hx => hv x (List.mem_cons_of_mem _ hx)⟩
  | [], _ :: _, k, _ => k.elim
  | _ :: _, [], k, _ => k.elim
theorem pairs_tups {h : Heap} : ∀ {vs : List Value} {ps : List (Int × Int)}, PairsAt h vs ps → ∃ fs, KatTups h vs fs ∧ fs.length = vs.length ∧ ∀ f ∈ fs, ∃ i t, f = Value.int i t
  | [], [], _ => ⟨[], trivial, rfl, fun f hf => by cases hf⟩
  | v :: vs, p :: ps, k => by
    obtain ⟨fs, h1, h2, h3⟩ := pairs_tups k.2
    obtain ⟨b, o, t1, t2, e, hv, g, c, d⟩ := k.1
    refine ⟨Value.int p.1 t1 :: fs, ⟨⟨b, o, _, e, hv, g, c, d, rfl⟩, h1⟩, by rw [List.length_cons, List.length_cons, h2], fun f hf => ?_⟩
    rcases List.mem_cons.mp hf with z | z
    · exact ⟨_, _, z⟩
    · exact h3 f z
  | [], _ :: _, k => k.elim
  | _ :: _, [], k => k.elim
theorem pairs_kind {vs : List Value} {ps : List (Int × Int)} {Q : SortKind → Shared → Prop} (h : PairsAt s.heap vs ps) (hn : 0 < vs.length) (q : Q (tuples' true) s) : wpAny (model prog w) A (keyKind' vs.toArray) Q E s := by
  obtain ⟨fs, h1, h2, h3⟩ := pairs_tups h
  refine kat_kind (T := Value.type "int") h1 (by omega) (fun v hv A Q E s' _ q => ?_) (by decide +kernel) (by exact q)
  obtain ⟨i, t, rfl⟩ := h3 v hv
  exact wpAny_typeOf (typeIs_int s' i t) q
end
theorem ltP_ok {ps : List (Int × Int)} (nd : ps.Nodup) : LtOk ps.length fun i j => ltP (ps.getD i (0, 0)) (ps.getD j (0, 0)) where
  tr := fun {i j k} hi hj hk h1 h2 => by simp only [ltP, decide_eq_true_eq] at *; omega
  asym := fun {i j} hi hj h => by simp only [ltP, decide_eq_true_eq, decide_eq_false_iff_not] at *; omega
  tot := fun {i j} hi hj hne h => by
    simp only [ltP, decide_eq_true_eq, decide_eq_false_iff_not] at *
    have hd : ps.getD i (0, 0) ≠ ps.getD j (0, 0) := by
      rw [List.getD_eq_getElem?_getD, List.getD_eq_getElem?_getD, List.getElem?_eq_getElem hi, List.getElem?_eq_getElem hj]
      simp only [Option.getD_some]
      exact fun e => hne ((List.getElem_inj nd).mp e)
    have : ¬ ((ps.getD i (0, 0)).1 = (ps.getD j (0, 0)).1 ∧ (ps.getD i (0, 0)).2 = (ps.getD j (0, 0)).2) := fun e => hd (Prod.ext e.1 e.2)
    omega
theorem list_sort_short {prog : Program} {w : World} {A : Around} {E : Value → Shared → Prop} {s : Shared} {a : Addr} {vs : List Value} {n : Nat} {P : PySem.Fin → Shared → Prop}
    (g : s.heap.get? a = some (seqObj "list" vs.toArray n)) (h2 : vs.length < 2) (hP : P (Fin.done (Flow.ret Value.none)) { s with heap := sortedHeap s.heap a vs vs.toArray }) :
    wpAny (model prog w) A (Builtin.«list.sort» { pos := [Value.ref a] }) P E s := by
  rw [list_sort_plain]
  have hS : vs.toArray.size = vs.length := by simp
  have hz : vs.length ≤ sizeLine := by unfold sizeLine; omega
  refine wpAny_bind (listItems_at g rfl (wpAny_bind (listUpdate_at g rfl ?_ (by rw [hS]; exact hz) (by simp))))
  obtain ⟨e1, g1⟩ : ∃ e1, (s.heap.update a (Obj.mapSeq fun _ => #[])).get? a = some (seqObj "list" #[] e1) := ⟨_, get?_update_seq g fun _ => #[]⟩
  refine wpAny_bind (seqEpoch_at g1 rfl (wpAny_bind (wpAny_newTuple (wpAny_bind (wpAny_newList (wpAny_holding ?_) (by simp))) (by simpa using hz))))
  have g2 : (((s.heap.update a (Obj.mapSeq fun _ => #[])).push (seqObj "tuple" vs.toArray 0)).push (seqObj "list" #[] 0)).get? a = some (seqObj "list" #[] e1) :=
    Heap.get?_push_of_some _ (Heap.get?_push_of_some _ g1)
  have n2 : vs.toArray.size < 2 := by rw [hS]; omega
  dsimp only
  rw [if_pos n2]
  refine wpAny_bind (wpAny_pure ?_)
  rw [if_pos n2]
  refine wpAny_bind (wpAny_pure ?_)
  have hout : Array.map (fun x => x.snd) (arrOf (SortSt.mk' general' (vs.toArray.zip vs.toArray) #[] 7 none)) = vs.toArray := by
    show Array.map (fun x => x.snd) (vs.toArray.zip vs.toArray) = vs.toArray
    simp [List.map_snd_zip]
  refine wpAny_bind (seqEpoch_at g2 rfl (wpAny_bind (listUpdate_at g2 rfl ?_ (by simp) ?_)))
  · have hfail : failedOf (SortSt.mk' general' (vs.toArray.zip vs.toArray) #[] 7 none) = none := rfl
    dsimp only at hfail ⊢
    simp only [hfail, bne_self_eq_false, Bool.false_eq_true, if_false]
    have hP' := hP
    rw [← hout] at hP'
    exact wpAny_pure hP'
  · dsimp only
    rw [hout]
    rw [hS]
    omega
def AscP (ps : List (Int × Int)) (q : Array Nat) : Prop := Pm ps.length q ∧ Asc (fun i j => ltP (ps.getD i (0, 0)) (ps.getD j (0, 0))) q ps.length
theorem list_sort_pairs {prog : Program} {w : World} {A : Around} {E : Value → Shared → Prop} {s : Shared} {a : Addr} {vs : List Value} {ps : List (Int × Int)} {n : Nat} {P : PySem.Fin → Shared → Prop}
    (g : s.heap.get? a = some (seqObj "list" vs.toArray n)) (hp : PairsAt s.heap vs ps) (hv : ∀ v ∈ vs, v ≠ .ref a) (nd : ps.Nodup) (h64 : ps.length < 64)
    (k : ∀ q : Array Nat, AscP ps q → P (Fin.done (Flow.ret Value.none)) { s with heap := sortedHeap s.heap a vs (q.toList.map fun i => vs.getD i Value.none).toArray }) :
    wpAny (model prog w) A (Builtin.«list.sort» { pos := [Value.ref a] }) P E s := by
  have hl := pairs_len hp
  by_cases h2 : vs.length < 2
  · have hr : ((List.range ps.length).toArray.toList.map fun i => vs.getD i Value.none) = vs := by
      rw [← hl]
      refine List.ext_getElem? fun i => ?_
      by_cases hi : i < vs.length
      · simp [List.getElem?_range hi, List.getElem?_eq_getElem hi]
      · simp [List.getElem?_eq_none (Nat.le_of_not_lt hi), hi]
    have := k (List.range ps.length).toArray ⟨pm_range, fun i j hij hj => by omega⟩
    rw [hr] at this
    exact list_sort_short g h2 this
  · refine list_sort_any g (by omega) (by omega) fun h' m => ?_
    have hp' : PairsAt ({ s with heap := h' } : Shared).heap vs ps := pairs_mono m hp hv
    refine pairs_kind hp' (by omega) ⟨rfl, ?_⟩
    have hl' : vs.length = ps.length := hl
    rw [hl']
    refine sort_wp (ltP_ok nd) (fun i j C hi hj c => ?_) (by omega) fun q P1 P2 => ⟨rfl, k q ⟨P1, P2⟩⟩
    exact pair_lt (pairs_get hp' hi) (pairs_get hp' hj) c
theorem pairs_addr {h : Heap} : ∀ {vs : List Value} {ps : List (Int × Int)}, PairsAt h vs ps → ∀ v ∈ vs, ∀ a, h.objs.size ≤ a → v ≠ .ref a
  | [], [], _, v, hv, _, _ => by cases hv
  | _ :: _, _ :: _, k, v, hv, a, ha => by
    rcases List.mem_cons.mp hv with z | z
    · obtain ⟨b, o, t1, t2, e, e1, g, _⟩ := k.1
      rw [z, e1]
      intro e2
      cases e2
      exact absurd (Heap.lt_size g) (Nat.not_lt.mpr ha)
    · exact pairs_addr k.2 v z a ha
  | [], _ :: _, k, _, _, _, _ => k.elim
  | _ :: _, [], k, _, _, _, _ => k.elim
theorem vals_get {ys : List V} {vs : List Value} (r : Vals ys vs) {i : Nat} (hi : i < ys.length) : RelV (ys.getD i .non) (vs.getD i Value.none) := by
  induction r generalizing i with
  | nil => simp at hi
  | cons r1 r2 ih =>
    cases i with
    | zero => exact r1
    | succ i => exact ih (by simpa using hi)
theorem vals_map {ys : List V} {vs : List Value} (r : Vals ys vs) : ∀ (is : List Nat), (∀ i ∈ is, i < ys.length) → Vals (is.map fun i => ys.getD i .non) (is.map fun i => vs.getD i Value.none)
  | [], _ => .nil
  | i :: is, h => .cons (vals_get r (h i List.mem_cons_self)) (vals_map r is fun j hj => h j (List.mem_cons_of_mem _ hj))
theorem pm_mem {n : Nat} {q : Array Nat} (P : Pm n q) : ∀ i ∈ q.toList, i < n := fun i hi => by
  obtain ⟨j, hj, e⟩ := List.mem_iff_getElem.mp hi
  have hj' : j < q.size := by simpa using hj
  have := P.bd j (by rw [← P.sz]; exact hj')
  rw [Array.getD_eq_getD_getElem?, Array.getElem?_eq_getElem hj'] at this
  rw [Array.getElem_toList] at e
  rw [← e]; exact this
end OP
set_option maxHeartbeats 1000000
namespace OP
open PySem PySem.Spec PyProof PyProof.Rows L2 OG PySem.W
theorem Inv_laidN {X : Cx} {pins : List (Addr × Obj)} {σ : List (Option V)} {H H' : Hp} {s : Shared} {h' : Heap} {t' : Nat} (I : Inv X pins σ H s) (k : ∀ b u, s.heap.get? b = some u → h'.get? b = some u)
    (same : ∀ b, b < s.heap.objs.size → H' b = H b) (new : ∀ b u, s.heap.objs.size ≤ b → H' b = some u → ObjOk X.prog X.w H' h' b u) : Inv X pins σ H' { s with heap := h', toks := t' } := by
  have up : ∀ b u, H b = some u → H' b = some u := fun b u e => by
    rw [same b (Nat.lt_of_not_le fun z => by rw [I.hok.fresh z] at e; cases e)]; exact e
  refine I.un ⟨fun b u q _ _ _ => k b u q, fun b u q _ _ _ => ⟨u.slots, k b u q⟩, fun b u q n _ => ?_, fun b u q _ => ⟨u, k b u q⟩, fun b xs q => up b _ q, fun b u xs q => up b _ q, fun b ps q => ⟨#[], by rw [up b _ q]; simp⟩⟩ fun b u e => ?_
  · rw [same b (Heap.lt_size q)]; exact n
  · by_cases hb : b < s.heap.objs.size
    · rw [same b hb] at e
      exact (I.hok b u e).stay (fun c v _ q => k c v q) (fun c q => up c _ q) fun c xs q => up c _ q
    · exact new b u (Nat.le_of_not_lt hb) e
def viewO (a d : Addr) : HO := .ext fun h => h.IsItemsView a d
def rItems : V → List V → Hp → VK → Prop := fun x xs H Q => ∃ d kvs, x = .ref d ∧ xs = [] ∧ H d = some (.dK kvs) ∧ ∀ l, H l = none → Q (.ref l) (upd H l (viewO l d))
theorem mt_items {X : Cx} : MtR X "dict.items" rItems := by
  rintro pins s σ H x xs v us Q I r1 rs ⟨d, kvs, rfl, rfl, hD, q⟩
  cases r1
  cases rs
  obtain ⟨z, hd, vs, rel, dd⟩ := dk_of I.hok hD
  have gv : (s.heap.push { cls := Value.type "dict_items", data := Data.fields #[Value.ref d] }).get? s.heap.objs.size = some { cls := Value.type "dict_items", data := Data.fields #[Value.ref d] } := Heap.get?_push_size _ rfl
  have hf := I.hok.fresh (Nat.le_refl s.heap.objs.size)
  refine call_meetsIn PySem.F.slot_dict_items (Heap.DictOf.typeIs dd) PySem.F.entry_dict_items (PySem.F.args_dict_items_1 (Value.ref d)) (meets_dict_items (mixKind X.prog X.w) d hd) ⟨⟨vs, dd⟩, ?_⟩
  refine ⟨.ref s.heap.objs.size, _, I.laid (o := viewO s.heap.objs.size d) (t' := s.toks) (fun b o e => Heap.get?_push_of_some _ e) (Nat.le_refl _) ⟨⟨_, gv, rfl, rfl⟩, ⟨_, gv⟩, fun h1 h2 ⟨o, g, c, e⟩ m => ⟨o, m o g, c, e⟩⟩, rfl, q _ hf⟩
def rSortedI : List V → Hp → VK → Prop := fun xs H Q => ∃ (v d : Addr) (ps : List (Int × Int)), xs = [.ref v] ∧ H v = some (viewO v d) ∧ H d = some (.dK (ps.map fun p => (.inl p.1, .int p.2))) ∧ ps.Nodup ∧ ps.length < 64 ∧
  ∀ (as : List Addr) (l : Addr) (q : Array Nat) (H2 : Hp), Same H H2 → H2 l = none → as.length = ps.length → (∀ (i : Nat) (a : Addr) (p : Int × Int), as[i]? = some a → ps[i]? = some p → H2 a = some (.tup [.int p.1, .int p.2])) → AscP ps q →
    Q (.ref l) (upd H2 l (.lst (q.toList.map fun i => .ref (as.getD i 0))))
def layH (H : Hp) (zs : List (Addr × (Int × Int))) : Hp := fun b => match zs.find? (fun z => decide (z.1 = b)) with
  | some z => some (.tup [.int z.2.1, .int z.2.2])
  | none => H b
theorem layH_of {H : Hp} : ∀ {zs : List (Addr × (Int × Int))} {i : Nat} {z : Addr × (Int × Int)}, (zs.map (·.1)).Nodup → zs[i]? = some z → layH H zs z.1 = some (.tup [.int z.2.1, .int z.2.2]) := fun {zs i z} nd h => by
  unfold layH
  have hf : zs.find? (fun y => decide (y.1 = z.1)) = some z := by
    induction zs generalizing i with
    | nil => simp at h
    | cons y r ih =>
      rw [List.map_cons, List.nodup_cons] at nd
      cases i with
      | zero => simp at h; subst h; simp
      | succ i =>
        simp at h
        have hm : z ∈ r := List.mem_of_getElem? h
        have : y.1 ≠ z.1 := fun e => nd.1 (List.mem_map.mpr ⟨z, hm, e.symm⟩)
        rw [List.find?_cons, decide_eq_false this]
        exact ih nd.2 h
  rw [hf]
theorem layH_no {H : Hp} {zs : List (Addr × (Int × Int))} {b : Addr} (h : b ∉ zs.map (·.1)) : layH H zs b = H b := by
  unfold layH
  rw [List.find?_eq_none.mpr fun z hz => by simp only [decide_eq_true_eq]; exact fun e => h (List.mem_map.mpr ⟨z, hz, e⟩)]
theorem kv_at {κ : Type} : ∀ {kvs : List (κ × V)} {vs : List (κ × Value)} {i : Nat} {k : κ} {x : Value}, KV kvs vs → vs[i]? = some (k, x) → ∃ y, kvs[i]? = some (k, y) ∧ RelV y x
  | _, _, i, k, x, .nil, e => by simp at e
  | (k1, y1) :: _, (k2, x2) :: _, 0, k, x, .cons r t, e => by
    simp at e
    obtain ⟨rfl, rfl⟩ := e
    obtain ⟨r1, r2⟩ := r
    dsimp only at r1 r2
    subst r1
    exact ⟨y1, rfl, r2⟩
  | _ :: _, _ :: _, i + 1, k, x, .cons r t, e => by
    simp at e
    obtain ⟨y, e1, e2⟩ := kv_at t e
    exact ⟨y, by simpa using e1, e2⟩
theorem pairs_of {h : Heap} : ∀ {as : List Addr} {ps : List (Int × Int)}, as.length = ps.length → (∀ (i : Nat) (a : Addr) (p : Int × Int), as[i]? = some a → ps[i]? = some p → ∃ t1 t2, h.get? a = some { cls := Value.type "tuple", data := Data.seq #[Value.int p.1 t1, Value.int p.2 t2] }) → PairsAt h (as.map Value.ref) ps
  | [], [], _, _ => trivial
  | a :: as, p :: ps, l, k => by
    obtain ⟨t1, t2, g⟩ := k 0 a p rfl rfl
    exact ⟨⟨a, _, t1, t2, 0, rfl, g, rfl, rfl⟩, pairs_of (by simpa using l) fun i a p h1 h2 => k (i + 1) a p (by simpa using h1) (by simpa using h2)⟩
  | [], _ :: _, l, _ => by simp at l
  | _ :: _, [], l, _ => by simp at l
theorem vals_ref : ∀ as : List Addr, Vals (as.map V.ref) (as.map Value.ref)
  | [] => .nil
  | a :: r => .cons rfl (vals_ref r)
theorem o_sortedI {X : Cx} (hc : X.calm = true) : CallR X (.builtin "sorted") rSortedI := by
  rintro pins s σ H xs us Q I r ⟨v, d, ps, rfl, hV, hD, nd, h64, q⟩
  obtain ⟨u, rfl, ru⟩ := vals1 r
  cases ru
  obtain ⟨hview, _, _⟩ : ObjOk X.prog X.w H s.heap v (viewO v d) := I.hok v _ hV
  obtain ⟨z, hd, vs, rel, dd⟩ := dk_of I.hok hD
  obtain ⟨ep, da⟩ := dd.dictAt
  have lv : vs.length = ps.length := by rw [← Paired.length rel, List.length_map]
  refine Calls.call_function_entry kind_sorted plain_sorted entry_sorted (args_sorted1 _) ?_
  unfold Builtin.«sorted»
  refine wpAny_bind (m := checkCount "sorted" 1 1 _) (wpAny_pure (wpAny_bind (kdx_collect (show X.A.in1.handled = none from I.ok.hd hc) hview da (by rw [lv]; unfold sizeLine; omega) fun h1 tk as up la G => ?_)))
  have lap : as.length = ps.length := by rw [la, lv]
  have hp : ∀ (i : Nat) (a : Addr) (p : Int × Int), as[i]? = some a → ps[i]? = some p → ∃ t1 t2, h1.get? a = some { cls := Value.type "tuple", data := Data.seq #[Value.int p.1 t1, Value.int p.2 t2] } := fun i a p ha hi => by
    obtain ⟨key, k, x, e1, e2, e3⟩ := G.pairs i a ha
    obtain ⟨y, hkx, hk2⟩ := kv_at rel e1
    rw [List.getElem?_map, hi] at hkx
    cases hkx
    obtain ⟨t2, rfl⟩ := hk2
    rcases keyIs_shape (k := Sum.inl p.1) e2 with ⟨j, t, e6, e7⟩ | ⟨j, t, e6, e7⟩
    · cases e6; subst e7; exact ⟨t, t2, e3⟩
    · cases e6
  have nda : as.Nodup := G.rise.imp fun h => Nat.ne_of_lt h
  have hpairs : PairsAt h1 (as.map Value.ref) ps := pairs_of lap hp
  have hlt : ∀ a ∈ as, a < h1.objs.size := fun a ha => by
    obtain ⟨i, hi⟩ := List.getElem?_of_mem ha
    have hip : i < ps.length := by rw [← lap]; exact (List.getElem?_eq_some_iff.mp hi).1
    obtain ⟨t1, t2, g⟩ := hp i a _ hi (List.getElem?_eq_getElem hip)
    exact Heap.lt_size g
  refine wpAny_bind (wpAny_newList ?_ (by rw [List.length_map, lap]; unfold sizeLine; omega))
  have gL : (h1.push { cls := .type "list", data := .seq (as.map Value.ref).toArray }).get? h1.objs.size = some (seqObj "list" (as.map Value.ref).toArray 0) := Heap.get?_push_size _ rfl
  have hv' : ∀ v ∈ as.map Value.ref, v ≠ .ref h1.objs.size := fun v hv => pairs_addr hpairs v hv _ (Nat.le_refl _)
  refine wpAny_bind (wpAny_holding (wpAny_call_entry slot_list_sort ⟨_, gL, rfl⟩ entry_list_sort (list_sort_pairs (s := { s with heap := h1.push { cls := .type "list", data := .seq (as.map Value.ref).toArray }, toks := tk }) gL (pairs_mono (a := h1.objs.size) (fun b o _ g => Heap.get?_push_of_some _ g) hpairs hv') hv' nd h64 fun qa a1 => ⟨_, rfl, ?_⟩) (args_list_sort _)))
  obtain ⟨e, ge⟩ := sortedHeap_at (out := (qa.toList.map fun i => (as.map Value.ref).getD i Value.none).toArray) gL
  have old : ∀ b o, h1.get? b = some o → (sortedHeap (h1.push { cls := .type "list", data := .seq (as.map Value.ref).toArray }) h1.objs.size (as.map Value.ref) (qa.toList.map fun i => (as.map Value.ref).getD i Value.none).toArray).get? b = some o := fun b o g1 => by
    have lt1 := Heap.lt_size g1
    rw [sortedHeap_old (Nat.ne_of_lt lt1) (by rw [Heap.size_push]; exact Nat.lt_succ_of_lt lt1)]
    exact Heap.get?_push_of_some _ g1
  have zk : (as.zip ps).map (·.1) = as := List.map_fst_zip (by omega)
  have lay : ∀ (i : Nat) (a : Addr) (p : Int × Int), as[i]? = some a → ps[i]? = some p → layH H (as.zip ps) a = some (.tup [.int p.1, .int p.2]) := fun i a p h1 h2 => by
    have := layH_of (H := H) (zs := as.zip ps) (i := i) (z := (a, p)) (by rw [zk]; exact nda) (by rw [List.getElem?_zip_eq_some]; exact ⟨h1, h2⟩)
    exact this
  have hsame : Same H (layH H (as.zip ps)) := fun b o hb => by
    rw [layH_no]; exact hb
    rw [zk]
    intro hm
    have := G.above b hm
    rw [I.hok.fresh (Nat.le_of_lt this)] at hb
    cases hb
  have I2 : Inv X pins σ (layH H (as.zip ps)) { s with heap := h1, toks := tk } := Inv_laidN I up (fun b hb => layH_no (by rw [zk]; exact fun hm => absurd (G.above b hm) (Nat.not_lt.mpr (Nat.le_of_lt hb)))) fun b u hb hu => by
    by_cases e2 : b ∈ as
    · obtain ⟨i, hi⟩ := List.getElem?_of_mem e2
      have hip : i < ps.length := by rw [← lap]; exact (List.getElem?_eq_some_iff.mp hi).1
      obtain ⟨t1, t2, g⟩ := hp i b _ hi (List.getElem?_eq_getElem hip)
      rw [lay i b _ hi (List.getElem?_eq_getElem hip)] at hu
      cases hu
      exact ⟨by unfold sizeLine; simp, [Value.int _ t1, Value.int _ t2], .cons ⟨t1, rfl⟩ (.cons ⟨t2, rfl⟩ .nil), _, g, rfl, 0, rfl⟩
    · rw [layH_no (by rw [zk]; exact e2), I.hok.fresh hb] at hu
      cases hu
  have hl0 : layH H (as.zip ps) h1.objs.size = none := I2.hok.fresh (Nat.le_refl _)
  have hq : qa.toList.length = ps.length := by rw [Array.length_toList, a1.1.sz]
  have rv := vals_ref as
  have gd : ∀ i, i < as.length → (as.map V.ref).getD i .non = .ref (as.getD i 0) := fun i hi => by
    simp [List.getD_eq_getElem?_getD, List.getElem?_eq_getElem hi]
  have el : (qa.toList.map fun i => (as.map V.ref).getD i .non) = qa.toList.map fun i => V.ref (as.getD i 0) := List.map_congr_left fun i hi => gd i (by rw [lap]; exact pm_mem a1.1 i hi)
  refine wpAny_pure ⟨_, rfl, .ref h1.objs.size, _, Inv.laid (s := { s with heap := h1, toks := tk }) (o := .lst (qa.toList.map fun i => .ref (as.getD i 0))) (t' := tk) I2 old (Nat.le_refl _) ⟨by rw [List.length_map, hq]; unfold sizeLine; omega, _, e, ?_, ge⟩, rfl, q as _ qa _ hsame hl0 lap lay a1⟩
  rw [← el]
  exact vals_map rv qa.toList (by rw [List.length_map, lap]; exact pm_mem a1.1)
end OP
set_option maxHeartbeats 1000000
namespace OP
open PySem PySem.Spec PyProof PyProof.Rows L2 OG PySem.W
theorem ltP_irr {p : Int × Int} : ltP p p = false := by simp [ltP]
theorem ltP_asym {p q : Int × Int} (h : ltP p q = true) (k : ltP q p = true) : False := by simp only [ltP, decide_eq_true_eq] at h k; omega
theorem asc_uniq : ∀ {L M : List (Int × Int)}, L.Pairwise (fun a b => ltP a b = true) → M.Pairwise (fun a b => ltP a b = true) → (∀ x, x ∈ L ↔ x ∈ M) → L = M
  | [], [], _, _, _ => rfl
  | [], m :: M, _, _, h => by have := (h m).mpr List.mem_cons_self; cases this
  | l :: L, [], _, _, h => by have := (h l).mp List.mem_cons_self; cases this
  | l :: L, m :: M, h1, h2, h => by
    obtain ⟨a1, b1⟩ := List.pairwise_cons.mp h1
    obtain ⟨a2, b2⟩ := List.pairwise_cons.mp h2
    have e : l = m := by
      rcases List.mem_cons.mp ((h l).mp List.mem_cons_self) with z | z
      · exact z
      · rcases List.mem_cons.mp ((h m).mpr List.mem_cons_self) with y | y
        · exact y.symm
        · exact (ltP_asym (a2 l z) (a1 m y)).elim
    subst e
    congr 1
    refine asc_uniq b1 b2 fun x => ⟨fun hx => ?_, fun hx => ?_⟩
    · rcases List.mem_cons.mp ((h x).mp (List.mem_cons_of_mem _ hx)) with z | z
      · subst z; have := a1 x hx; rw [ltP_irr] at this; cases this
      · exact z
    · rcases List.mem_cons.mp ((h x).mpr (List.mem_cons_of_mem _ hx)) with z | z
      · subst z; have := a2 x hx; rw [ltP_irr] at this; cases this
      · exact z
open Classical in
noncomputable def sortP (ps : List (Int × Int)) : List (Int × Int) := if h : ∃ L : List (Int × Int), L.Pairwise (fun a b => ltP a b = true) ∧ ∀ x, x ∈ L ↔ x ∈ ps then h.choose else []
theorem sortP_of {L ps : List (Int × Int)} (h1 : L.Pairwise (fun a b => ltP a b = true)) (h2 : ∀ x, x ∈ L ↔ x ∈ ps) : sortP ps = L := by
  have h : ∃ L : List (Int × Int), L.Pairwise (fun a b => ltP a b = true) ∧ ∀ x, x ∈ L ↔ x ∈ ps := ⟨L, h1, h2⟩
  unfold sortP
  rw [dif_pos h]
  obtain ⟨k1, k2⟩ := h.choose_spec
  exact asc_uniq k1 h1 fun x => (k2 x).trans (h2 x).symm
theorem ascP_sort {ps : List (Int × Int)} {q : Array Nat} (h : AscP ps q) : sortP ps = q.toList.map fun i => ps.getD i (0, 0) := by
  obtain ⟨P, A⟩ := h
  have hl : q.toList.length = ps.length := by rw [Array.length_toList, P.sz]
  have gd : ∀ i (hi : i < q.toList.length), q.getD i 0 = q.toList[i] := fun i hi => by
    have hi' : i < q.size := by simpa using hi
    rw [Array.getD_eq_getD_getElem?, Array.getElem?_eq_getElem hi', Array.getElem_toList]; rfl
  have h1 : (q.toList.map fun i => ps.getD i (0, 0)).Pairwise (fun a b => ltP a b = true) := by
    rw [List.pairwise_iff_getElem]
    intro i j hi hj hij
    rw [List.length_map] at hi hj
    rw [List.getElem_map, List.getElem_map, ← gd i hi, ← gd j hj]
    exact A i j hij (by omega)
  have nd : (q.toList.map fun i => ps.getD i (0, 0)).Nodup := h1.imp fun {a b} h e => by subst e; rw [ltP_irr] at h; cases h
  have sub : ∀ x ∈ q.toList.map fun i => ps.getD i (0, 0), x ∈ ps := fun x hx => by
    obtain ⟨i, hi, rfl⟩ := List.mem_map.mp hx
    have := pm_mem P i hi
    rw [List.getD_eq_getElem?_getD, List.getElem?_eq_getElem this]
    exact List.getElem_mem this
  refine sortP_of h1 fun x => ⟨sub x, fun hx => ?_⟩
  refine Classical.byContradiction fun hn => ?_
  have := List.Nodup.length_le_of_subset (List.nodup_cons.mpr ⟨hn, nd⟩) (l₂ := ps) fun y hy => by
    rcases List.mem_cons.mp hy with z | z
    · rw [z]; exact hx
    · exact sub y z
  rw [List.length_cons, List.length_map, hl] at this
  omega
def pP (p : Int × Int) : U := .tup [.int p.1, .int p.2]
section
variable {K : PySem.W.Frag} {m : List Addr} {H : Hp}
end
def pairsK : List (Key × U) → Option (List (Int × Int))
  | [] => some []
  | (.inl a, .int b) :: r => (pairsK r).map ((a, b) :: ·)
  | _ => none
theorem pairsK_map : ∀ ps : List (Int × Int), pairsK (ps.map fun p => (.inl p.1, .int p.2)) = some ps
  | [] => rfl
  | p :: ps => by rw [List.map_cons, pairsK, pairsK_map ps]; rfl
theorem pairsK_ok : ∀ {kus : List (Key × U)} {ps : List (Int × Int)}, pairsK kus = some ps → kus = ps.map fun p => (.inl p.1, .int p.2)
  | [], ps, h => by cases h; rfl
  | u :: us, ps, h => by
    unfold pairsK at h
    split at h
    · rename_i e; cases e
    · rename_i e
      injection e with e1 e2
      subst e1; subst e2
      obtain ⟨qs, e, h⟩ := Option.map_eq_some_iff.mp h
      subst h
      rw [List.map_cons, ← pairsK_ok e]
    · cases h
open Classical in
noncomputable def cSortedI (co : CE) : CE := fun ρ S => (co ρ S).bind fun p => match p.1 with
  | .ref l => match p.2[l]? with
    | some (.dic kus) => (pairsK kus).bind fun ps => if ps.Nodup ∧ ps.length < 64 then some (.ref p.2.length, p.2 ++ [.lst ((sortP ps).map pP)]) else none
    | _ => none
  | _ => none
theorem isP_ints {K : PySem.W.Frag} {m : List Addr} {H : Hp} : ∀ {kvs : List (Key × V)} {ps : List (Int × Int)}, IsP K m H kvs (ps.map fun p => (.inl p.1, .int p.2)) → kvs = ps.map fun p => (.inl p.1, .int p.2)
  | [], [], _ => rfl
  | (k, v) :: kvs, p :: ps, h => by
    obtain ⟨h1, h2⟩ := h
    simp only [List.map_cons] at h1 h2
    injection h1 with e1 e2
    obtain ⟨y, r, e3, i, t⟩ := h2.of_cons
    injection e3 with e4 e5
    subst e4; subst e5
    rw [i.of_int, e1, isP_ints (kvs := kvs) (ps := ps) ⟨e2, t⟩]
    rfl
  | [], _ :: _, h => by have := congrArg List.length h.1; simp at this
  | _ :: _, [], h => by have := congrArg List.length h.1; simp at this
theorem q_sortedI {X : Cx} {o : Expr} {co : CE} {p1 apos cpos pos : Pos} (hcm : X.calm = true) (hg : Gl X "sorted") (hm : X.mg "sorted" = none) (hv : bootBuiltins "sorted" = some (.builtin "sorted")) (ho : QE X o co)
    (hbase : attributeBase o "items" X.env (eval o X.env) = eval o X.env := by rfl) (hline : (apos.endLine == cpos.line) = true := by rfl)
    (he : starEach [.Call (.Attribute o "items" apos) [] [] cpos] X.env = (false, eval (.Call (.Attribute o "items" apos) [] [] cpos) X.env) :: starEach [] X.env := by rfl) (hpl : (backTo pos (starEach [] X.env)).any (·.1) = false := by rfl) :
    QE X (.Call (.Name "sorted" p1) [.Call (.Attribute o "items" apos) [] [] cpos] [] pos) (cSortedI co) :=
  (wpe_callB (o_sortedI hcm) hg hm hv (wpa_cons (wpe_bm0 PySem.F.plainAttrs_dict PySem.F.slot_dict_items PySem.F.type_dict_items mt_items ho hbase hline) wpa_nil he) (by decide) (by decide) he hpl).imp fun σ H Q ⟨m, ρ, S, u, S', sr, lr, hc, post⟩ => by
    obtain ⟨⟨x, S1⟩, h1, h⟩ := Option.bind_eq_some_iff.mp hc
    refine ⟨m, ρ, S, x, S1, sr, lr, h1, fun m1 v1 H1 e1 sr1 i1 => ?_⟩
    cases x with
    | ref l =>
      simp only at h
      split at h <;> try cases h
      rename_i kus hS
      obtain ⟨ps, hn, h⟩ := Option.bind_eq_some_iff.mp h
      split at h <;> try cases h
      have hcc : ps.Nodup ∧ ps.length < 64 := by assumption
      obtain ⟨a, ha, rfl⟩ := i1.of_ref
      obtain ⟨a', ha', kvs, hx, ip⟩ := sr1.get hS
      rw [ha] at ha'; cases ha'
      rw [pairsK_ok hn] at ip
      have hk := isP_ints ip
      subst hk
      refine ⟨.inr (.inr (.inl ⟨rfl, .inl ⟨_, hx⟩⟩)), a, _, rfl, rfl, hx, fun v hvn => ?_⟩
      have ne : a ≠ v := fun z => by subst z; rw [hvn] at hx; cases hx
      refine ⟨v, a, ps, rfl, upd_same, by rw [upd_ne ne]; exact hx, hcc.1, hcc.2, fun as l q H2 sm hl la lay aq => ?_⟩
      have s2 : Same H1 H2 := (same_new hvn _).trans sm
      have sr2 := sr1.same s2
      have il : IsL X.K m1 H2 (q.toList.map fun i => V.ref (as.getD i 0)) ((sortP ps).map pP) := by
        have e : (sortP ps).map pP = q.toList.map fun i => pP (ps.getD i (0, 0)) := by rw [ascP_sort aq, List.map_map]; rfl
        rw [e]
        have bd := pm_mem aq.1
        clear aq e
        generalize q.toList = is at bd
        induction is with
        | nil => exact .nil_
        | cons i r ih =>
          have hi := bd i List.mem_cons_self
          have hia : i < as.length := by rw [la]; exact hi
          refine .cons_ ?_ (ih fun j hj => bd j (List.mem_cons_of_mem _ hj))
          have e1 : as.getD i 0 = as[i] := by rw [List.getD_eq_getElem?_getD, List.getElem?_eq_getElem hia]; rfl
          have e2 : ps.getD i (0, 0) = ps[i] := by rw [List.getD_eq_getElem?_getD, List.getElem?_eq_getElem hi]; rfl
          dsimp only
          rw [e1, e2]
          exact .tup_ (SqT.of (lay i _ _ (List.getElem?_eq_getElem hia) (List.getElem?_eq_getElem hi))) (isL_ints [ps[i].1, ps[i].2])
      exact post_lst sr2 il (post.mono (e1.trans (.of (keep_same s2)))) hl
    | _ => cases h
end OP
set_option maxHeartbeats 4000000
namespace OQ
open PySem PySem.Spec PyProof.Rows L2 OG OP
noncomputable def c__law_take : CS :=
  (cSeq (cIfS (cTest (cOp fEq (cOp fIx (cVar 0) (cC (.int 2))) (cC (.int 0)))) (cSeq (cSet 2 (cOp fIx (cVar 0) (cC (.int 1))))
    (cSeq (cSetIx (cVar 0) (cC (.int 1)) (cOp fAdd (cVar 2) (cC (.int 1))))
    (cSeq (cSet 3 (cC (.int 0)))
    (cSeq (cIfS (cTest (cOp fLt (cVar 2) (cCB fLen (cCons (cOp fIx (cVar 0) (cC (.int 0))) cNil)))) (cSet 3 (cOp fIx (cOp fIx (cVar 0) (cC (.int 0))) (cVar 2))) (cIfS (cTest (cOp fGt (cCB fLen (cCons (cOp fIx (cVar 0) (cC (.int 0))) cNil)) (cC (.int 0)))) (cSet 3 (cOp fAdd (cOp fMod (cOp fIx (cOp fIx (cVar 0) (cC (.int 0))) (cOp fMod (cOp fMul (cVar 2) (cC (.int 3))) (cCB fLen (cCons (cOp fIx (cVar 0) (cC (.int 0))) cNil)))) (cC (.int 1000003))) (cOp fMul (cC (.int 97)) (cVar 2)))) cSkip))
    (cSeq (cSet 4 (cOp fMod (cOp fMul (cOp fAdd (cOp fAdd (cOp fMod (cVar 3) (cC (.int 998244353))) (cOp fMul (cC (.int 53)) (cVar 2))) (cC (.int 1))) (cC (.int 48271))) (cC (.int 2147483647))))
    (cSeq (cSet 5 (cOp fMod (cOp fAdd (cOp fAdd (cOp fMul (cVar 4) (cVar 4)) (cOp fMul (cC (.int 69621)) (cVar 2))) (cC (.int 5))) (cC (.int 1000000007))))
    (cSeq (cSet 6 (cOp fMod (cOp fAdd (cOp fMul (cVar 5) (cVar 5)) (cVar 4)) (cC (.int 998244353))))
    (cSeq (cSetIx (cVar 0) (cC (.int 2)) (cOp fAdd (cOp fDiv (cOp fAdd (cOp fMul (cVar 5) (cC (.int 998244353))) (cVar 6)) (cC (.int 16))) (cC (.int 1))))
    (cIfS (cTest (cOp fGe (cVar 3) (cOp fPow (cC (.int 10)) (cC (.int 18))))) (cSetIx (cVar 0) (cC (.int 2)) (cOp fDiv (cVar 3) (cOp fPow (cC (.int 10)) (cC (.int 18))))) cSkip))))))))) cSkip)
    (cSeq (cSet 7 (cOp fMod (cOp fIx (cVar 0) (cC (.int 2))) (cVar 1)))
    (cSeq (cSetIx (cVar 0) (cC (.int 2)) (cOp fDiv (cOp fIx (cVar 0) (cC (.int 2))) (cVar 1)))
    (cRet (cVar 7)))))
theorem e__law_take {a0 a1 : U} {S : Sto} : fnU 8 2 (c__law_take ) [a0, a1] S = ((c__law_take ) [some a0, some a1, none, none, none, none, none, none] S).bind kFn := x_fn rfl
noncomputable def c__law_world (f__law_take : Fn) : CS :=
  (cRet (cTup (cCons (cOp fAdd (cC (.int 1)) (cCB f__law_take (cCons (cVar 0) (cCons (cC (.int 6)) cNil)))) (cCons (cOp fIx (cLst (cCons (cC (.int 2)) (cCons (cC (.int 3)) (cCons (cC (.int 5)) (cCons (cC (.int 10)) (cCons (cOp fAdd (cC (.int 2)) (cCB f__law_take (cCons (cVar 0) (cCons (cC (.int 999)) cNil)))) cNil)))))) (cCB f__law_take (cCons (cVar 0) (cCons (cC (.int 5)) cNil)))) cNil))))
theorem e__law_world {f__law_take : Fn} {a0 : U} {S : Sto} : fnU 1 1 (c__law_world f__law_take) [a0] S = ((c__law_world f__law_take) [some a0] S).bind kFn := x_fn rfl
noncomputable def c__law_state (f__law_take : Fn) : CS :=
  (cRet (cCB fTuple (cCons (cComp (iRange1 (cCons (cOp fIx (cVar 1) (cC (.int 0))) cNil)) (gNm 0) (cCB f__law_take (cCons (cVar 1) (cCons (cOp fIx (cVar 2) (cC (.int 1))) cNil))) 1 [0, 1]) cNil)))
theorem e__law_state {f__law_take : Fn} {a0 a1 : U} {S : Sto} : fnU 2 2 (c__law_state f__law_take) [a0, a1] S = ((c__law_state f__law_take) [some a0, some a1] S).bind kFn := x_fn rfl
noncomputable def c__law_same (f__law_same : Fn) : CS :=
  (cSeq (cIfS (cTest (cOp fIsN (cVar 1) (cC .non))) (cRet (cOp fIsN (cVar 0) (cC .non))) cSkip)
    (cSeq (cIfS (cTest (cIsi .bool (cVar 1))) (cRet (cAndV (cIsi .bool (cVar 0)) (cOp fEq (cVar 0) (cVar 1)))) cSkip)
    (cSeq (cIfS (cTest (cIsi .str (cVar 1))) (cRet (cAndV (cIsi .str (cVar 0)) (cOp fEq (cVar 0) (cVar 1)))) cSkip)
    (cSeq (cIfS (cTest (cIsi .int (cVar 1))) (cRet (cAndV (cIsi .int (cVar 0)) (cAndV (cNotV (cIsi .bool (cVar 0))) (cOp fEq (cVar 0) (cVar 1))))) cSkip)
    (cSeq (cIfS (cOr (cTest (cOp fNe (cIsi .tuple (cVar 1)) (cIsi .tuple (cVar 0)))) (cTest (cOp fNe (cIsi .list (cVar 1)) (cIsi .list (cVar 0))))) (cRet (cC (.bl false))) cSkip)
    (cRet (cAndV (cOp fEq (cCB fLen (cCons (cVar 0) cNil)) (cCB fLen (cCons (cVar 1) cNil))) (cOp (fIn true) (cC (.bl false)) (cComp (iZip (cVar 0) (cVar 1)) (gTp [0, 1]) (cCB f__law_same (cCons (cVar 0) (cCons (cVar 1) cNil))) 2 [])))))))))
theorem e__law_same {f__law_same : Fn} {a0 a1 : U} {S : Sto} : fnU 2 2 (c__law_same f__law_same) [a0, a1] S = ((c__law_same f__law_same) [some a0, some a1] S).bind kFn := x_fn rfl
end OQ
set_option maxHeartbeats 4000000
namespace OQ
open PySem PySem.Spec PyProof.Rows L2 OG OP
noncomputable def c_Doing_deed (cDoing : Cl) : CS :=
  (cSeq (cIfS (cTest (cOp fGe (cOp fIx (cFld cDoing 3 (cVar 0)) (cC (.int 1))) (cCB fLen (cCons (cOp fIx (cFld cDoing 3 (cVar 0)) (cC (.int 0))) cNil)))) (cRet (cC .non)) cSkip)
    (cRet (cOp fIx (cOp fIx (cFld cDoing 3 (cVar 0)) (cC (.int 0))) (cOp fIx (cFld cDoing 3 (cVar 0)) (cC (.int 1))))))
end OQ
set_option maxHeartbeats 4000000
namespace OQ
open PySem PySem.Spec PyProof.Rows L2 OG OP
end OQ
set_option maxHeartbeats 4000000
namespace OQ
open PySem PySem.Spec PyProof.Rows L2 OG OP
noncomputable def b__law_names_0 (f__law_take : Fn) : CS :=
  (cDrop (cBM fAppend (cVar 3) (cCons (cBM fPopAt (cVar 2) (cCons (cCB f__law_take (cCons (cVar 0) (cCons (cCB fLen (cCons (cVar 2) cNil)) cNil))) cNil)) cNil)))
noncomputable def c__law_names (f__law_take : Fn) : CS :=
  (cSeq (cSet 2 (cListRange (cCons (cC (.int 200)) cNil)))
    (cSeq (cSet 3 (cLst cNil))
    (cSeq (cFor (iRange1 (cCons (cVar 1) cNil)) (gNm 4) (b__law_names_0 f__law_take))
    (cRet (cVar 3)))))
theorem e__law_names {f__law_take : Fn} {a0 a1 : U} {S : Sto} : fnU 5 2 (c__law_names f__law_take) [a0, a1] S = ((c__law_names f__law_take) [some a0, some a1, none, none, none] S).bind kFn := x_fn rfl
noncomputable def c__law_put_in : CS :=
  (cRet (cCB fTuple (cCons (cComp (iEnum (cVar 0)) (gTp [0, 1]) (cDGet (cVar 2) (cVar 0) (cVar 1)) 2 [1]) cNil)))
theorem e__law_put_in {a0 a1 : U} {S : Sto} : fnU 2 2 (c__law_put_in ) [a0, a1] S = ((c__law_put_in ) [some a0, some a1] S).bind kFn := x_fn rfl
noncomputable def c__law_event (f__law_take : Fn) : CS :=
  (cSeq (cSet 6 (cCB f__law_take (cCons (cVar 0) (cCons (cC (.int 12)) cNil))))
    (cSeq (cSet 7 (cCB f__law_take (cCons (cVar 0) (cCons (cOp fIx (cVar 1) (cC (.int 0))) cNil))))
    (cSeq (cIfS (cTest (cOp fLt (cVar 6) (cC (.int 5)))) (cSeq (cSet 8 (cOp fIx (cLst (cCons (cOp fIx (cVar 3) (cVar 7)) (cCons (cOp fIx (cVar 3) (cVar 7)) (cCons (cOp fIx (cVar 5) (cVar 7)) (cCons (cCB f__law_take (cCons (cVar 0) (cCons (cOp fIx (cVar 1) (cC (.int 1))) cNil))) cNil))))) (cCB f__law_take (cCons (cVar 0) (cCons (cC (.int 4)) cNil)))))
    (cRet (cTup (cCons (cC (.str "look")) (cCons (cVar 2) (cCons (cVar 7) (cCons (cDGet (cVar 4) (cVar 7) (cVar 8)) cNil))))))) cSkip)
    (cSeq (cIfS (cTest (cOp fLt (cVar 6) (cC (.int 8)))) (cRet (cTup (cCons (cC (.str "put")) (cCons (cVar 2) (cCons (cVar 7) (cCons (cCB f__law_take (cCons (cVar 0) (cCons (cOp fIx (cVar 1) (cC (.int 1))) cNil))) cNil)))))) cSkip)
    (cRet (cTup (cCons (cOp fIx (cLst (cCons (cC (.str "done")) (cCons (cC (.str "done")) (cCons (cC (.str "done")) (cCons (cC (.str "fall")) cNil))))) (cOp fSub (cVar 6) (cC (.int 8)))) (cCons (cVar 2) cNil))))))))
theorem e__law_event {f__law_take : Fn} {a0 a1 a2 a3 a4 a5 : U} {S : Sto} : fnU 9 6 (c__law_event f__law_take) [a0, a1, a2, a3, a4, a5] S = ((c__law_event f__law_take) [some a0, some a1, some a2, some a3, some a4, some a5, none, none, none] S).bind kFn := x_fn rfl
noncomputable def b__law_log_0 (f__law_names f__law_take f__law_event f__law_put_in : Fn) : CS :=
  (cIfS (cAnd (cTest (cOp (fEqD true) (cVar 5) (cLst cNil))) (cOr (cTest (cOp (fEqD false) (cVar 8) (cLst cNil))) (cTest (cOp fEq (cCB f__law_take (cCons (cVar 0) (cCons (cC (.int 4)) cNil))) (cC (.int 0)))))) (cSeq (cDrop (cBM fAppend (cVar 8) (cCons (cTup (cCons (cBM fPop (cVar 5) cNil) (cCons (cVar 7) (cCons cDNew cNil)))) cNil)))
    (cDrop (cBM fAppend (cVar 6) (cCons (cTup (cCons (cC (.str "begin")) (cCons (cOp fIx (cOp fIx (cVar 8) (cNeg (cC (.int 1)))) (cC (.int 0))) cNil))) cNil)))) (cIfS (cTest (cOp (fEqD true) (cVar 8) (cLst cNil))) (cSeq (cSet 10 (cCB f__law_take (cCons (cVar 0) (cCons (cCB fLen (cCons (cVar 8) cNil)) cNil))))
    (cSeq (cAsg (cOp fIx (cVar 8) (cVar 10)) (gTp [11, 12, 13]))
    (cSeq (cDrop (cBM fAppend (cVar 6) (cCons (cCB f__law_event (cCons (cVar 0) (cCons (cVar 1) (cCons (cVar 11) (cCons (cVar 12) (cCons (cVar 13) (cCons (cVar 7) cNil))))))) cNil)))
    (cSeq (cIfS (cTest (cOp fEq (cOp fIx (cOp fIx (cVar 6) (cNeg (cC (.int 1)))) (cC (.int 0))) (cC (.str "put")))) (cSetIx (cVar 13) (cOp fIx (cOp fIx (cVar 6) (cNeg (cC (.int 1)))) (cC (.int 2))) (cOp fIx (cOp fIx (cVar 6) (cNeg (cC (.int 1)))) (cC (.int 3)))) (cIfS (cTest (cOp fEq (cOp fIx (cOp fIx (cVar 6) (cNeg (cC (.int 1)))) (cC (.int 0))) (cC (.str "done")))) (cSet 7 (cCB f__law_put_in (cCons (cVar 7) (cCons (cVar 13) cNil)))) cSkip))
    (cIfS (cTest (cOp (fIn false) (cOp fIx (cOp fIx (cVar 6) (cNeg (cC (.int 1)))) (cC (.int 0))) (cTup (cCons (cC (.str "done")) (cCons (cC (.str "fall")) cNil))))) (cDrop (cBM fPopAt (cVar 8) (cCons (cVar 10) cNil))) cSkip))))) cSkip))
noncomputable def c__law_log (f__law_names f__law_take f__law_event f__law_put_in : Fn) : CS :=
  (cSeq (cSet 5 (cCB f__law_names (cCons (cVar 0) (cCons (cCB f__law_take (cCons (cVar 0) (cCons (cOp fAdd (cVar 3) (cC (.int 1))) cNil))) cNil))))
    (cSeq (cSet 6 (cLst cNil))
    (cSeq (cSet 7 (cVar 2))
    (cSeq (cSet 8 (cLst cNil))
    (cSeq (cFor (iRange1 (cCons (cCB f__law_take (cCons (cVar 0) (cCons (cOp fAdd (cVar 4) (cC (.int 1))) cNil))) cNil)) (gNm 9) (b__law_log_0 f__law_names f__law_take f__law_event f__law_put_in))
    (cRet (cVar 6)))))))
theorem e__law_log {f__law_names f__law_take f__law_event f__law_put_in : Fn} {a0 a1 a2 a3 a4 : U} {S : Sto} : fnU 14 5 (c__law_log f__law_names f__law_take f__law_event f__law_put_in) [a0, a1, a2, a3, a4] S = ((c__law_log f__law_names f__law_take f__law_event f__law_put_in) [some a0, some a1, some a2, some a3, some a4, none, none, none, none, none, none, none, none, none] S).bind kFn := x_fn rfl
noncomputable def c__law_begun : CS :=
  (cRet (cCB fSorted (cCons (cCompIf (iTp (cVar 0)) (gNm 0) (cTest (cOp fEq (cOp fIx (cVar 0) (cC (.int 0))) (cC (.str "begin")))) (cOp fIx (cVar 0) (cC (.int 1))) 1 []) cNil)))
theorem e__law_begun {a0 : U} {S : Sto} : fnU 1 1 (c__law_begun ) [a0] S = ((c__law_begun ) [some a0] S).bind kFn := x_fn rfl
noncomputable def b__law_looks_0 : CS :=
  (cSeq (cIfS (cAnd (cTest (cOp fEq (cOp fIx (cVar 4) (cC (.int 1))) (cVar 1))) (cTest (cOp fEq (cOp fIx (cVar 4) (cC (.int 0))) (cC (.str "put"))))) (cDrop (cBM fAppend (cVar 3) (cCons (cOp fIx (cVar 4) (cC (.int 2))) cNil))) cSkip)
    (cIfS (cAnd (cTest (cOp fEq (cOp fIx (cVar 4) (cC (.int 1))) (cVar 1))) (cAnd (cTest (cOp fEq (cOp fIx (cVar 4) (cC (.int 0))) (cC (.str "look")))) (cTest (cOp (fIn true) (cOp fIx (cVar 4) (cC (.int 2))) (cVar 3))))) (cDrop (cBM fAppend (cVar 2) (cCons (cTup (cCons (cOp fIx (cVar 4) (cC (.int 2))) (cCons (cOp fIx (cVar 4) (cC (.int 3))) cNil))) cNil))) cSkip))
noncomputable def c__law_looks : CS :=
  (cSeq (cSet 2 (cLst cNil))
    (cSeq (cSet 3 (cLst cNil))
    (cSeq (cFor (iTp (cVar 0)) (gNm 4) (b__law_looks_0 ))
    (cRet (cVar 2)))))
theorem e__law_looks {a0 a1 : U} {S : Sto} : fnU 5 2 (c__law_looks ) [a0, a1] S = ((c__law_looks ) [some a0, some a1, none, none, none] S).bind kFn := x_fn rfl
noncomputable def b__law_puts_0 : CS :=
  (cIfS (cAnd (cTest (cOp fEq (cOp fIx (cVar 3) (cC (.int 1))) (cVar 1))) (cTest (cOp fEq (cOp fIx (cVar 3) (cC (.int 0))) (cC (.str "put"))))) (cSetIx (cVar 2) (cOp fIx (cVar 3) (cC (.int 2))) (cOp fIx (cVar 3) (cC (.int 3)))) cSkip)
noncomputable def c__law_puts : CS :=
  (cSeq (cSet 2 cDNew)
    (cSeq (cFor (iTp (cVar 0)) (gNm 3) (b__law_puts_0 ))
    (cRet (cVar 2))))
theorem e__law_puts {a0 a1 : U} {S : Sto} : fnU 4 2 (c__law_puts ) [a0, a1] S = ((c__law_puts ) [some a0, some a1, none, none] S).bind kFn := x_fn rfl
noncomputable def c_Course_note_look (cCourse : Cl) : CS :=
  (cIfS (cTest (cOp (fIn true) (cVar 2) (cOp fIx (cFld cCourse 3 (cVar 0)) (cVar 1)))) (cSeq (cDrop (cBM fAppend (cOp fIx (cFld cCourse 1 (cVar 0)) (cVar 1)) (cCons (cTup (cCons (cVar 2) (cCons (cVar 3) cNil))) cNil)))
    (cSetIxT (cOp fIx (cFld cCourse 2 (cVar 0)) (cVar 1)) (cCons (cVar 2) (cCons (cVar 3) cNil)) (cC (.bl true)))) cSkip)
theorem e_Course_note_look {cCourse : Cl} {a0 a1 a2 a3 : U} {S : Sto} : fnU 4 4 (c_Course_note_look cCourse) [a0, a1, a2, a3] S = ((c_Course_note_look cCourse) [some a0, some a1, some a2, some a3] S).bind kFn := x_fn rfl
noncomputable def c_Course_enter (cCourse : Cl) : CS :=
  (cSeq (cSetIx (cFld cCourse 4 (cVar 0)) (cVar 1) (cCompIfD (cFld cCourse 0 (cVar 0)) (gNm 0) (cTest (cOp fNe (cOp fIx (cFld cCourse 0 (cVar 1)) (cVar 0)) (cC (.str "open")))) (cVar 0) 1 [0]))
    (cSeq (cSetIx (cFld cCourse 0 (cVar 0)) (cVar 1) (cC (.str "open")))
    (cSeq (cSetIx (cFld cCourse 1 (cVar 0)) (cVar 1) (cLst cNil))
    (cSeq (cSetIx (cFld cCourse 2 (cVar 0)) (cVar 1) cDNewT)
    (cSetIx (cFld cCourse 3 (cVar 0)) (cVar 1) cDNew)))))
theorem e_Course_enter {cCourse : Cl} {a0 a1 : U} {S : Sto} : fnU 2 2 (c_Course_enter cCourse) [a0, a1] S = ((c_Course_enter cCourse) [some a0, some a1] S).bind kFn := x_fn rfl
noncomputable def c_Course_follow (f_Course_enter f_Course_note_look : Fn) (cCourse : Cl) : CS :=
  (cSeq (cSet 2 (cOp fIx (cVar 1) (cC (.int 1))))
    (cIfS (cTest (cOp fEq (cOp fIx (cVar 1) (cC (.int 0))) (cC (.str "begin")))) (cDrop (cMeth cCourse f_Course_enter (cVar 0) (cCons (cVar 2) cNil))) (cIfS (cTest (cOp fEq (cOp fIx (cVar 1) (cC (.int 0))) (cC (.str "look")))) (cDrop (cMeth cCourse f_Course_note_look (cVar 0) (cCons (cVar 2) (cCons (cOp fIx (cVar 1) (cC (.int 2))) (cCons (cOp fIx (cVar 1) (cC (.int 3))) cNil))))) (cIfS (cTest (cOp fEq (cOp fIx (cVar 1) (cC (.int 0))) (cC (.str "put")))) (cSetIx (cOp fIx (cFld cCourse 3 (cVar 0)) (cVar 2)) (cOp fIx (cVar 1) (cC (.int 2))) (cOp fIx (cVar 1) (cC (.int 3)))) (cSetIx (cFld cCourse 0 (cVar 0)) (cVar 2) (cOp fIx (cVar 1) (cC (.int 0))))))))
theorem e_Course_follow {f_Course_enter f_Course_note_look : Fn} {cCourse : Cl} {a0 a1 : U} {S : Sto} : fnU 3 2 (c_Course_follow f_Course_enter f_Course_note_look cCourse) [a0, a1] S = ((c_Course_follow f_Course_enter f_Course_note_look cCourse) [some a0, some a1, none] S).bind kFn := x_fn rfl
noncomputable def c_Course_init (cCourse : Cl) : CS :=
  (cSeq (cSetF cCourse 0 (cVar 0) cDNew)
    (cSeq (cSetF cCourse 1 (cVar 0) cDNew)
    (cSeq (cSetF cCourse 2 (cVar 0) cDNew)
    (cSeq (cSetF cCourse 3 (cVar 0) cDNew)
    (cSetF cCourse 4 (cVar 0) cDNew)))))
theorem e_Course_init {cCourse : Cl} {a0 : U} {S : Sto} : fnU 1 1 (c_Course_init cCourse) [a0] S = ((c_Course_init cCourse) [some a0] S).bind kFn := x_fn rfl
noncomputable def b_course_of_0 (f_Course_follow f_Course_init : Fn) (cCourse : Cl) : CS :=
  (cDrop (cMeth cCourse f_Course_follow (cVar 1) (cCons (cVar 2) cNil)))
noncomputable def c_course_of (f_Course_follow f_Course_init : Fn) (cCourse : Cl) : CS :=
  (cSeq (cSet 1 (cCB (fMake cCourse f_Course_init) cNil))
    (cSeq (cFor (iTp (cVar 0)) (gNm 2) (b_course_of_0 f_Course_follow f_Course_init cCourse))
    (cRet (cVar 1))))
theorem e_course_of {f_Course_follow f_Course_init : Fn} {cCourse : Cl} {a0 : U} {S : Sto} : fnU 3 1 (c_course_of f_Course_follow f_Course_init cCourse) [a0] S = ((c_course_of f_Course_follow f_Course_init cCourse) [some a0, none, none] S).bind kFn := x_fn rfl
noncomputable def c_outer_looks (f_course_of : Fn) (cCourse : Cl) : CS :=
  (cRet (cOp fIx (cFld cCourse 1 (cCB f_course_of (cCons (cVar 0) cNil))) (cVar 1)))
theorem e_outer_looks {f_course_of : Fn} {cCourse : Cl} {a0 a1 : U} {S : Sto} : fnU 2 2 (c_outer_looks f_course_of cCourse) [a0, a1] S = ((c_outer_looks f_course_of cCourse) [some a0, some a1] S).bind kFn := x_fn rfl
end OQ
set_option maxHeartbeats 4000000
namespace OQ
open PySem PySem.Spec PyProof.Rows L2 OG OP
end OQ
local macro_rules
  | `(tactic| rwa $s:rwRuleSeq) => do
    let ts : Array (Lean.TSyntax `term) := s.raw[1].getSepArgs.map fun r => ⟨r[1]⟩
    let us : Array (Lean.TSyntax `term) := (("x_var x_var' x_c x_op x_op1 x_op2 x_test x_test1 x_and x_and1 x_and2 x_or x_or1 x_or2 x_not x_not1 x_andV x_andV1 x_andV2 x_orV x_orV1 x_orV2 x_notV x_notV1 x_nil x_cons x_cons1 x_cons2 x_tup x_tup1 x_lst x_lst1 x_cb x_cb1 x_isi x_isi1 x_skip x_seq x_seq1 x_seq2 x_seq3 x_seq4 x_drop x_drop1 x_ret x_ret1 x_ifs x_ifs1 x_ifs2 x_if x_if1 x_if2 x_set x_set1 x_asg x_asg1 x_asg2 x_gnm x_gtp x_all0 x_all1 x_si x_si0 x_si1 x_si2 x_si3 x_ixt x_ixr x_ixl x_ixd x_six x_sixl x_sixd x_lenr x_lenl x_lend x_lent x_add x_sub x_lt x_le x_gt x_ge x_eqi x_nei x_eqs x_nes x_eqb x_neb x_fn1 x_fn2 at0 at1 at2 at3 ix0 ix1 ix2 Option.bind_some List.getElem?_cons_zero List.getElem?_cons_succ List.set_cons_zero List.set_cons_succ List.length_cons List.length_nil List.map_cons List.map_nil decide_true decide_false Bool.not_true Bool.not_false x_fld x_fld1 x_fld2 x_sf x_sf1 x_sf2 x_sf3 x_meth x_meth1 x_meth2 x_meth3 x_make1 x_inr x_ind x_key x_keys x_bm x_bm0 x_bm1 x_bm2 x_app x_dg x_dg0 x_dg1 x_dg2 x_dg3 x_dg4 x_dnew x_p0 x_p x_p1 x_p2 x_p3 x_disp x_disp1 x_disp2 x_tupt x_tupr x_tupl x_listt x_listr x_listl x_intb ga ga0 gs gs0 Option.join_some Nat.add_zero List.cons_append List.nil_append List.append_assoc" : String).splitOn " ").toArray.map fun x => ⟨(Lean.mkIdent ((x.splitOn ".").foldl Lean.Name.str Lean.Name.anonymous)).raw⟩
    let vs := ts ++ us
    `(tactic| simp only [$[$vs:term],*])
set_option maxHeartbeats 1000000
namespace OQ
open PySem PySem.Spec PyProof.Rows L2 OG OP
def pen (a c : Int) : O := .lst [.ref 0, .int a, .int c]
section
variable {S : Sto} {j k : Int}
theorem x_mulR (h : -(2 ^ 64) < k ∧ k < 2 ^ 64) : fMul (.int j) (.int k) S = some (.int (j * k), S) := x_mul (.inr h)
theorem x_mulL (h : -(2 ^ 64) < j ∧ j < 2 ^ 64) : fMul (.int j) (.int k) S = some (.int (j * k), S) := x_mul (.inl h)
theorem x_m3 : fMul (.int j) (.int 3) S = some (.int (j * 3), S) := x_mulR (by decide)
theorem x_m97 : fMul (.int 97) (.int k) S = some (.int (97 * k), S) := x_mulL (by decide)
theorem x_m53 : fMul (.int 53) (.int k) S = some (.int (53 * k), S) := x_mulL (by decide)
theorem x_m4 : fMul (.int j) (.int 48271) S = some (.int (j * 48271), S) := x_mulR (by decide)
theorem x_m6 : fMul (.int 69621) (.int k) S = some (.int (69621 * k), S) := x_mulL (by decide)
theorem x_m9 : fMul (.int j) (.int 998244353) S = some (.int (j * 998244353), S) := x_mulR (by decide)
theorem x_mm1 : fMul (.int (j % 2147483647)) (.int k) S = some (.int (j % 2147483647 * k), S) := x_mulL (by have := Int.emod_nonneg j (show (2147483647 : Int) ≠ 0 by decide); have := Int.emod_lt_of_pos j (show (0 : Int) < 2147483647 by decide); omega)
theorem x_mm2 : fMul (.int (j % 1000000007)) (.int k) S = some (.int (j % 1000000007 * k), S) := x_mulL (by have := Int.emod_nonneg j (show (1000000007 : Int) ≠ 0 by decide); have := Int.emod_lt_of_pos j (show (0 : Int) < 1000000007 by decide); omega)
theorem x_o1 : fMod (.int j) (.int 998244353) S = some (.int (j % 998244353), S) := x_mod (by decide)
theorem x_o2 : fMod (.int j) (.int 2147483647) S = some (.int (j % 2147483647), S) := x_mod (by decide)
theorem x_o3 : fMod (.int j) (.int 1000000007) S = some (.int (j % 1000000007), S) := x_mod (by decide)
theorem x_o4 : fMod (.int j) (.int 1000003) S = some (.int (j % 1000003), S) := x_mod (by decide)
theorem x_d16 : fDiv (.int j) (.int 16) S = some (.int (j / 16), S) := x_div ⟨by decide, by decide +kernel⟩
theorem x_p18 : fPow (.int 10) (.int 18) S = some (.int 1000000000000000000, S) := x_pow (j := 10) (k := 18) ⟨by decide, by decide, by decide⟩
theorem x_d18 : fDiv (.int j) (.int 1000000000000000000) S = some (.int (j / 1000000000000000000), S) := x_div ⟨by decide, by decide +kernel⟩
theorem atU {ns : List Int} {k : Int} (h0 : 0 ≤ k) (h1 : k < (ns.length : Int)) : ∃ v : Int, atI (ns.map U.int) k = some (.int v) := by
  have hk : k.toNat < ns.length := by omega
  exact ⟨ns[k.toNat], atI_of h0 (by rw [List.getElem?_map, List.getElem?_eq_getElem hk]; rfl)⟩
end
noncomputable def P_take : Fn := fnU 8 2 c__law_take
theorem take_ok (ns : List Int) (T : Sto) {a c m : Int} (ha : 0 ≤ a) (hc : 0 ≤ c) (hm : 0 < m) (hb : m.natAbs.log2 < 9000) :
    ∃ f a' c', P_take [.ref 1, .int m] (.lst (ns.map U.int) :: pen a c :: T) = some (.int f, .lst (ns.map U.int) :: pen a' c' :: T) ∧ 0 ≤ f ∧ f < m ∧ 0 ≤ a' ∧ 0 ≤ c' := by
  unfold P_take
  rw [e__law_take]
  have dm : ∀ {j : Int} {S : Sto}, fDiv (.int j) (.int m) S = some (.int (j / m), S) := x_div ⟨hm, hb⟩
  have mm : ∀ {j : Int} {S : Sto}, fMod (.int j) (.int m) S = some (.int (j % m), S) := x_mod hm
  have fin : ∀ {a' c' : Int}, 0 ≤ a' → 0 ≤ c' → 0 ≤ c' % m ∧ c' % m < m ∧ 0 ≤ a' ∧ 0 ≤ c' / m := fun h1 h2 => ⟨Int.emod_nonneg _ (by omega), Int.emod_lt_of_pos _ hm, h1, Int.ediv_nonneg h2 (by omega)⟩
  by_cases c0 : c = 0
  · subst c0
    have cell : ∃ z : Int, (cIfS (cTest (cOp fLt (cVar 2) (cCB fLen (cCons (cOp fIx (cVar 0) (cC (U.int 0))) cNil))))
                            (cSet 3 (cOp fIx (cOp fIx (cVar 0) (cC (U.int 0))) (cVar 2)))
                            (cIfS
                              (cTest (cOp fGt (cCB fLen (cCons (cOp fIx (cVar 0) (cC (U.int 0))) cNil)) (cC (U.int 0))))
                              (cSet 3
                                (cOp fAdd
                                  (cOp fMod
                                    (cOp fIx (cOp fIx (cVar 0) (cC (U.int 0)))
                                      (cOp fMod (cOp fMul (cVar 2) (cC (U.int 3)))
                                        (cCB fLen (cCons (cOp fIx (cVar 0) (cC (U.int 0))) cNil))))
                                    (cC (U.int 1000003)))
                                  (cOp fMul (cC (U.int 97)) (cVar 2))))
                              cSkip)) [some (.ref 1), some (.int m), some (.int a), some (.int 0), none, none, none, none] (O.lst (ns.map U.int) :: .lst [.ref 0, .int (a + 1), .int 0] :: T) = some (.nx, [some (.ref 1), some (.int m), some (.int a), some (.int z), none, none, none, none], O.lst (ns.map U.int) :: .lst [.ref 0, .int (a + 1), .int 0] :: T) := by
      by_cases h1 : a < (ns.length : Int)
      · obtain ⟨z, hz⟩ := atU ha h1
        exact ⟨z, by rwa [hz, h1, List.length_map]⟩
      · by_cases h2 : (0 : Int) < (ns.length : Int)
        · obtain ⟨z, hz⟩ := atU (ns := ns) (k := a * 3 % (ns.length : Int)) (Int.emod_nonneg _ (by omega)) (Int.emod_lt_of_pos _ h2)
          exact ⟨z % 1000003 + 97 * a, by rwa [h1, h2, x_m3, x_mod h2, hz, x_o4, x_m97, List.length_map]⟩
        · exact ⟨0, by rwa [h1, h2, List.length_map]⟩
    obtain ⟨z, hz⟩ := cell
    rwa [c__law_take, pen, hz, x_o1, x_o2, x_o3, x_m53, x_m4, x_m6, x_m9, x_mm1, x_mm2, x_d16, x_p18]
    by_cases h3 : (1000000000000000000 : Int) ≤ z
    · rwa [h3, x_p18, x_d18, mm, dm]
      exact ⟨_, _, _, rfl, fin (by omega) (Int.ediv_nonneg (by omega) (by omega))⟩
    · rwa [h3, mm, dm]
      refine ⟨_, _, _, rfl, fin (by omega) ?_⟩
      exact Int.add_nonneg (Int.ediv_nonneg (Int.add_nonneg (Int.mul_nonneg (Int.emod_nonneg _ (by decide)) (by decide)) (Int.emod_nonneg _ (by decide))) (by decide)) (by decide)
  · rwa [c__law_take, pen, c0, mm, dm]
    exact ⟨_, _, _, rfl, fin ha hc⟩
theorem l9 {m : Int} (h0 : 0 ≤ m) (h : m < 2 ^ 60) : m.natAbs.log2 < 9000 := log2_9000 h0 h
abbrev scr (ns : List Int) : O := .lst (ns.map U.int)
theorem pickU {f g : Int} (g0 : 0 ≤ g) (g1 : g < 999) (f0 : 0 ≤ f) (f1 : f < 5) : ∃ v : Int, atI [U.int 2, U.int 3, U.int 5, U.int 10, U.int (2 + g)] f = some (.int v) ∧ 2 ≤ v ∧ v ≤ 1000 := by
  have : f = 0 ∨ f = 1 ∨ f = 2 ∨ f = 3 ∨ f = 4 := by omega
  rcases this with rfl | rfl | rfl | rfl | rfl
  · exact ⟨2, rfl, by omega, by omega⟩
  · exact ⟨3, rfl, by omega, by omega⟩
  · exact ⟨5, rfl, by omega, by omega⟩
  · exact ⟨10, rfl, by omega, by omega⟩
  · exact ⟨2 + g, rfl, by omega, by omega⟩
noncomputable def P_world : Fn := fnU 1 1 (c__law_world P_take)
theorem world_ok (ns : List Int) (T : Sto) {a c : Int} (ha : 0 ≤ a) (hc : 0 ≤ c) :
    ∃ n w a' c' G, P_world [.ref 1] (scr ns :: pen a c :: T) = some (.tup [.int n, .int w], scr ns :: pen a' c' :: (T ++ G)) ∧ 1 ≤ n ∧ n ≤ 6 ∧ 2 ≤ w ∧ w ≤ 1000 ∧ 0 ≤ a' ∧ 0 ≤ c' := by
  unfold P_world
  rw [e__law_world]
  obtain ⟨f1, a1, c1, h1, p1, q1, ha1, hc1⟩ := take_ok ns T (m := 6) ha hc (by decide) (by decide +kernel)
  obtain ⟨f2, a2, c2, h2, p2, q2, ha2, hc2⟩ := take_ok ns T (m := 999) ha1 hc1 (by decide) (by decide +kernel)
  obtain ⟨f3, a3, c3, h3, p3, q3, ha3, hc3⟩ := take_ok ns (T ++ [.lst [.int 2, .int 3, .int 5, .int 10, .int (2 + f2)]]) (m := 5) ha2 hc2 (by decide) (by decide +kernel)
  obtain ⟨v, hv, v0, v1⟩ := pickU p2 q2 p3 q3
  refine ⟨1 + f1, v, a3, c3, [.lst [.int 2, .int 3, .int 5, .int 10, .int (2 + f2)]], ?_, by omega, by omega, v0, v1, ha3, hc3⟩
  rwa [c__law_world, h1, h2, h3, hv]
noncomputable def P_state : Fn := fnU 2 2 (c__law_state P_take)
theorem st_loop (ns : List Int) (T : Sto) {n w : Int} (w0 : 2 ≤ w) (w1 : w ≤ 1000) : ∀ (us : List U) (r : Option U) (ys : List Int) {a c : Int}, 0 ≤ a → 0 ≤ c → ys.length + us.length ≤ 1000 →
    ∃ zs a' c', compU (fun _ => True) (gNm 0) (cCB P_take (cCons (cVar 1) (cCons (cOp fIx (cVar 2) (cC (.int 1))) cNil))) (T.length + 1 + 1) us [r, some (.ref 1), some (.tup [.int n, .int w])] (scr ns :: pen a c :: (T ++ [.lst (ys.map U.int)]))
      = some (scr ns :: pen a' c' :: (T ++ [.lst ((ys ++ zs).map U.int)])) ∧ zs.length = us.length ∧ (∀ z ∈ zs, 0 ≤ z ∧ z < w) ∧ 0 ≤ a' ∧ 0 ≤ c'
  | [], r, ys, a, c, ha, hc, hl => ⟨[], a, c, by simp [compU], rfl, by simp, ha, hc⟩
  | u :: us, r, ys, a, c, ha, hc, hl => by
    obtain ⟨f, a1, c1, h1, p1, q1, ha1, hc1⟩ := take_ok ns (T ++ [.lst (ys.map U.int)]) (m := w) ha hc (by omega) (l9 (by omega) (by omega))
    obtain ⟨zs, a2, c2, h2, e2, b2, ha2, hc2⟩ := st_loop ns T (n := n) w0 w1 us (some u) (ys ++ [f]) ha1 hc1 (by simp at hl ⊢; omega)
    refine ⟨f :: zs, a2, c2, ?_, by simp [e2], fun z hz => ?_, ha2, hc2⟩
    · have hlen : (ys.map U.int).length < LIM := by unfold LIM; simp at hl ⊢; omega
      unfold compU
      rwa [h1, if_true, hlen]
      rw [List.map_append] at h2
      simp only [List.map_cons, List.map_nil] at h2
      rw [h2]
      simp
    · rcases List.mem_cons.mp hz with rfl | hz
      · exact ⟨p1, q1⟩
      · exact b2 z hz
theorem state_ok (ns : List Int) (T : Sto) {a c n w : Int} (ha : 0 ≤ a) (hc : 0 ≤ c) (n0 : 1 ≤ n) (n1 : n ≤ 6) (w0 : 2 ≤ w) (w1 : w ≤ 1000) :
    ∃ (zs : List Int) (a' c' : Int) (G : Sto), P_state [.ref 1, .tup [.int n, .int w]] (scr ns :: pen a c :: T) = some (.tup (zs.map U.int), scr ns :: pen a' c' :: (T ++ G)) ∧ zs.length = n.toNat ∧ (∀ z ∈ zs, 0 ≤ z ∧ z < w) ∧ 0 ≤ a' ∧ 0 ≤ c' := by
  unfold P_state
  rw [e__law_state]
  obtain ⟨zs, a', c', h, e, b, ha', hc'⟩ := st_loop ns T (n := n) w0 w1 (rangeU 0 n.toNat) none [] ha hc (by simp [rangeU]; omega)
  refine ⟨zs, a', c', [.lst (zs.map U.int)], ?_, by rw [e]; simp [rangeU], b, ha', hc'⟩
  have hr : -(2 ^ 62) ≤ n ∧ n < 2 ^ 62 := by omega
  simp only [List.map_nil, List.nil_append] at h
  rwa [c__law_state, cComp, iRange1, rhoC, hr, h, if_true, and_self, List.replicate, Option.getD_some]
end OQ
set_option maxHeartbeats 1000000
namespace OQ
open PySem PySem.Spec PyProof.Rows L2 OG OP
inductive Deed where
  | look (h b : Int) | put (b h : Int) | set (h v : Int) | plus (h g : Int) | leap (h k : Int) | wait
end OQ
set_option maxHeartbeats 1000000
namespace OQ
open PySem PySem.Spec PyProof.Rows L2 OG OP
structure M where
  hs : List Int
  ps : List (Int × Int)
  lk : List Int
def addL (lk : List Int) (b : Int) : List Int := if b ∈ lk then lk else lk ++ [b]
def lookV (first : List Int) (m : M) (b : Int) : Int := (valG m.ps b).getD (first.getD b.toNat 0)
def step (w : Int) (first : List Int) (m : M) : Deed → M
  | .look h b => ⟨m.hs.set h.toNat (lookV first m b), m.ps, if (valG m.ps b).isSome then m.lk else addL m.lk b⟩
  | .put b h => ⟨m.hs, putG m.ps b (m.hs.getD h.toNat 0), m.lk⟩
  | .set h v => ⟨m.hs.set h.toNat v, m.ps, m.lk⟩
  | .plus h g => ⟨m.hs.set h.toNat ((m.hs.getD h.toNat 0 + m.hs.getD g.toNat 0) % w), m.ps, m.lk⟩
  | .leap _ _ => m
  | .wait => m
def encP (ps : List (Int × Int)) : List (Key × U) := ps.map fun p => (.inl p.1, .int p.2)
theorem val_encP (b : Int) : ∀ ps : List (Int × Int), valG (encP ps) (.inl b) = (valG ps b).map U.int
  | [] => rfl
  | (k, v) :: r => by
    have ih := val_encP b r
    unfold valG encP at ih ⊢
    simp only [List.map_cons, List.find?_cons]
    by_cases e : k = b
    · subst e; simp
    · rw [decide_eq_false (fun z : (Sum.inl k : Key) = Sum.inl b => e (Sum.inl.inj z)), decide_eq_false e]
      exact ih
theorem any_encP (b : Int) (ps : List (Int × Int)) : ((encP ps).any fun kv => decide (kv.1 = Sum.inl b)) = ps.any fun kv => decide (kv.1 = b) := by
  unfold encP
  induction ps with
  | nil => rfl
  | cons p r ih =>
    simp only [List.map_cons, List.any_cons, ih]
    by_cases e : p.1 = b
    · rw [decide_eq_true e, decide_eq_true (by rw [e])]
    · rw [decide_eq_false e, decide_eq_false (fun z : (Sum.inl p.1 : Key) = Sum.inl b => e (Sum.inl.inj z))]
theorem put_encP (b v : Int) (ps : List (Int × Int)) : putG (encP ps) (.inl b) (.int v) = encP (putG ps b v) := by
  unfold putG
  rw [any_encP]
  split
  · unfold encP
    rw [List.map_map, List.map_map]
    refine List.map_congr_left fun p _ => ?_
    simp only [Function.comp]
    by_cases e : p.1 = b
    · simp [e]
    · rw [if_neg e, if_neg (fun z : (Sum.inl p.1 : Key) = Sum.inl b => e (Sum.inl.inj z))]
  · simp [encP]
theorem len_putG {κ α : Type} [DecidableEq κ] (ps : List (κ × α)) (b : κ) (v : α) : (putG ps b v).length ≤ ps.length + 1 := by
  unfold putG; split <;> simp
theorem atF {first : List Int} {b n : Int} (l : first.length = n.toNat) (h0 : 0 ≤ b) (h1 : b < n) : atI (first.map U.int) b = some (.int (first.getD b.toNat 0)) := by
  have hk : b.toNat < first.length := by omega
  refine atI_of h0 ?_
  rw [List.getElem?_map, List.getElem?_eq_getElem hk, List.getD_eq_getElem?_getD, List.getElem?_eq_getElem hk]; rfl
inductive DF (α : Type) where
  | pl (d : Deed) | tr (a b : List α)
section
variable {α : Type} (w : Int) (first : List Int) (rn : List α → M → Bool × M)
end
def Dl : Nat → Type
  | 0 => DF Empty
  | j + 1 => DF (Dl j)
theorem few : ∀ (n : Nat) (l : List Int), l.Nodup → (∀ k ∈ l, 0 ≤ k ∧ k < n) → l.length ≤ n
  | 0, l, _, h => by
    cases l with
    | nil => simp
    | cons a r => have := h a (by simp); omega
  | n + 1, l, nd, h => by
    have ih := few n (l.erase (n : Int)) (nd.erase _) fun k hk => by
      have h1 := h k (List.mem_of_mem_erase hk)
      have h2 : k ≠ (n : Int) := fun z => by subst z; exact (nd.not_mem_erase) hk
      omega
    rw [List.length_erase] at ih
    split at ih <;> omega
theorem putG_keys (b v : Int) (ps : List (Int × Int)) : (putG ps b v).map (·.1) = addL (ps.map (·.1)) b := by
  have ha : (ps.any fun kv => decide (kv.1 = b)) = decide (b ∈ ps.map (·.1)) := by
    induction ps with
    | nil => rfl
    | cons p r ih =>
      simp only [List.any_cons, ih, List.map_cons]
      by_cases e : p.1 = b
      · simp [e]
      · simp [e, Ne.symm e]
  unfold putG addL
  rw [ha]
  by_cases c : b ∈ ps.map (·.1)
  · rw [if_pos (decide_eq_true c), if_pos c, List.map_map]
    refine List.map_congr_left fun p _ => ?_
    simp only [Function.comp]
    split <;> rfl
  · rw [if_neg (by simpa using c), if_neg c]
    simp
theorem lt_of_get {α : Type} {l : List α} {k : Nat} {x : α} (h : l[k]? = some x) : k < l.length := (List.getElem?_eq_some_iff.mp h).1
theorem get_app {α : Type} {l r : List α} {k : Nat} {x : α} (h : l[k]? = some x) : (l ++ r)[k]? = some x := by rw [List.getElem?_append_left (lt_of_get h)]; exact h
def m0 : M := ⟨[0, 0, 0, 0], [], []⟩
def beh (first : List Int) (ps : List (Int × Int)) (k : Nat) : List Int := (first.zipIdx k).map fun p => (valG ps (p.2 : Int)).getD p.1
theorem fr_app {ls : List Nat} {S0 S' : Sto} (len : S0.length ≤ S'.length) (old : ∀ l, l < S0.length → S'[l]? = S0[l]?) : ∃ G, S' = S0 ++ G := by
  refine ⟨S'.drop S0.length, List.ext_getElem? fun l => ?_⟩
  by_cases c : l < S0.length
  · rw [old l c, List.getElem?_append_left c]
  · rw [List.getElem?_append_right (by omega), List.getElem?_drop]; congr 1; omega
theorem beh_len (first : List Int) (ps : List (Int × Int)) (k : Nat) : (beh first ps k).length = first.length := by simp [beh]
section
variable {first : List Int}
end
end OQ
set_option maxHeartbeats 1000000
namespace OQ
open PySem PySem.Spec PyProof.Rows L2 OG OP
section
variable {ls lo lh ll : Nat}
end
section
variable {w : Int} {first : List Int} {i ls lo lh ll : Nat} {m : M} {S : Sto}
end
section
variable {w : Int} {first : List Int} {i ls lo lh ll : Nat} {m : M} {S : Sto} {n : Int}
variable {α : Type} {fw : Fn} {rn : List α → M → Bool × M} {f : α → U} {k : List α → Prop}
end
end OQ
set_option maxHeartbeats 1000000
namespace OQ
open PySem PySem.Spec PyProof.Rows L2 OG OP
section
variable {w : Int} {first : List Int} {i ls lo lh ll : Nat} {m : M} {S : Sto} {n : Int}
variable {α : Type} {fw : Fn} {rn : List α → M → Bool × M} {f : α → U} {k : List α → Prop}
end
section
variable {w : Int} {first : List Int} {i ls lo lh ll : Nat} {m : M} {S : Sto} {n : Int}
end
end OQ
set_option maxHeartbeats 1000000
namespace OQ
open PySem PySem.Spec PyProof.Rows L2 OG OP
theorem ty_tup {us : List U} {S : Sto} : tyU (.tup us) S = some .tuple := rfl
theorem ty_int {i : Int} {S : Sto} : tyU (.int i) S = some .int := rfl
theorem ty_lst {l : Nat} {us : List U} {S : Sto} (h : S[l]? = some (.lst us)) : tyU (.ref l) S = some .list := by simp only [tyU, h]
theorem x_isn {x : U} {S : Sto} : fIsN x .non S = some (.bl (isNon x), S) := rfl
noncomputable def P_same : Nat → Fn
  | 0 => fun _ _ => none
  | k + 1 => fnU 2 2 (c__law_same (P_same k))
def SameAt (k : Nat) (u v : U) (S : Sto) : Prop := ∀ X, ∃ G, P_same k [u, v] (S ++ X) = some (.bl true, S ++ (X ++ G))
theorem same_int {k : Nat} {i : Int} {S : Sto} : SameAt (k + 1) (.int i) (.int i) S := fun X => ⟨[], by
  unfold P_same; rw [e__law_same]
  rwa [c__law_same, x_isn, isNon, ty_int, subT, eq_self, List.append_nil]⟩
theorem row_loop {k : Nat} {S : Sto} {ok : Sto → Prop} (hok : ∀ X, ok (S ++ X)) : ∀ (ps : List (U × U)) (j : Nat) (X G : Sto) (r0 r1 : Option U), (∀ p ∈ ps, SameAt k p.1 p.2 S) → j + ps.length ≤ 1000 →
    ∃ G', compU ok (gTp [0, 1]) (cCB (P_same k) (cCons (cVar 0) (cCons (cVar 1) cNil))) (S.length + X.length) (ps.map fun p => .tup [p.1, p.2]) [r0, r1] (S ++ (X ++ .lst (List.replicate j (.bl true)) :: G)) = some (S ++ (X ++ .lst (List.replicate (j + ps.length) (.bl true)) :: G'))
  | [], j, X, G, r0, r1, _, _ => ⟨G, comp_nil (hok _)⟩
  | p :: ps, j, X, G, r0, r1, h, hl => by
    obtain ⟨G1, e1⟩ := h p List.mem_cons_self (X ++ .lst (List.replicate j (.bl true)) :: G)
    obtain ⟨G2, ih⟩ := row_loop hok ps (j + 1) X (G ++ G1) (some p.1) (some p.2) (fun q hq => h q (List.mem_cons_of_mem _ hq)) (by simp at hl; omega)
    refine ⟨G2, ?_⟩
    have e2 : j + (p :: ps).length = j + 1 + ps.length := by simp; omega
    rw [e2, List.map_cons]
    refine (comp_cons (ρ0 := [some p.1, some p.2]) (S0 := S ++ (X ++ .lst (List.replicate j (.bl true)) :: G)) (S1 := S ++ (X ++ .lst (List.replicate j (.bl true)) :: (G ++ G1))) (x := .bl true) (ys := List.replicate j (.bl true)) (hok _) (by rwa []) ?_ ?_ (by unfold LIM; simp at hl ⊢; omega)).trans ?_
    · rwa [e1]
    · rw [ga, ← Nat.add_zero X.length, ga]; rfl
    · rw [gs, ← Nat.add_zero X.length, gs]
      rw [show (O.lst (List.replicate j (U.bl true)) :: (G ++ G1)).set 0 (.lst (List.replicate j (.bl true) ++ [.bl true])) = .lst (List.replicate (j + 1) (.bl true)) :: (G ++ G1) by rw [List.replicate_succ']; rfl]
      exact ih
theorem same_row {k : Nat} {us vs : List U} {S : Sto} (hl : us.length = vs.length) (hn : us.length ≤ 1000) (h : ∀ p ∈ us.zip vs, SameAt k p.1 p.2 S) : SameAt (k + 1) (.tup us) (.tup vs) S := fun X => by
  obtain ⟨G, e⟩ := row_loop (ok := fun _ => True ∧ True) (S := S) (fun _ => ⟨trivial, trivial⟩) (us.zip vs) 0 X [] none none h (by simp [hl]; omega)
  refine ⟨.lst (List.replicate (0 + (us.zip vs).length) (.bl true)) :: G, ?_⟩
  unfold P_same; rw [e__law_same]
  have fl : flatU (.bl false) = true ∧ (List.replicate (0 + (us.zip vs).length) (U.bl true)).all flatU = true := ⟨rfl, by simp [flatU]⟩
  have nin : inU (.bl false) (List.replicate (0 + (us.zip vs).length) (U.bl true)) = false := by
    unfold inU; rw [List.any_eq_false]; intro x hx; rw [List.eq_of_mem_replicate hx]; decide
  have g1 : (S ++ (X ++ O.lst (List.replicate (0 + (us.zip vs).length) (U.bl true)) :: G))[S.length + X.length]? = some (.lst (List.replicate (0 + (us.zip vs).length) (.bl true))) := by rw [ga, ← Nat.add_zero X.length, ga]; rfl
  have hl' : ((us.length : Nat) : Int) = (vs.length : Int) := by omega
  have e' : compU (fun _ => True ∧ True) (gTp [0, 1]) (cCB (P_same k) (cCons (cVar 0) (cCons (cVar 1) cNil))) (S.length + X.length) (pairU us vs) [none, none] (S ++ (X ++ [.lst []])) = some (S ++ (X ++ .lst (List.replicate (0 + (us.zip vs).length) (.bl true)) :: G)) := e
  rwa [c__law_same, x_isn, isNon, ty_tup, subT, hl', eq_self, cComp, iZip, seqU, rhoC, List.replicate, List.length_append, e', g1, x_inl fl, nin, if_true]
theorem same_lst {k : Nat} {us vs : List U} {S : Sto} {l1 l2 : Nat} (h1 : S[l1]? = some (.lst us)) (h2 : S[l2]? = some (.lst vs)) (hl : us.length = vs.length) (hn : us.length ≤ 1000) (h : ∀ p ∈ us.zip vs, SameAt k p.1 p.2 S) : SameAt (k + 1) (.ref l1) (.ref l2) S := fun X => by
  have up : ∀ {l : Nat} {o : O} (Y : Sto), S[l]? = some o → (S ++ Y)[l]? = some o := fun {l o} Y q => by rw [List.getElem?_append_left (List.getElem?_eq_some_iff.mp q).1]; exact q
  obtain ⟨G, e⟩ := row_loop (ok := fun S' => S'[l1]? = some (.lst us) ∧ S'[l2]? = some (.lst vs)) (S := S) (fun Y => ⟨up Y h1, up Y h2⟩) (us.zip vs) 0 X [] none none h (by simp [hl]; omega)
  refine ⟨.lst (List.replicate (0 + (us.zip vs).length) (.bl true)) :: G, ?_⟩
  unfold P_same; rw [e__law_same]
  have fl : flatU (.bl false) = true ∧ (List.replicate (0 + (us.zip vs).length) (U.bl true)).all flatU = true := ⟨rfl, by simp [flatU]⟩
  have nin : inU (.bl false) (List.replicate (0 + (us.zip vs).length) (U.bl true)) = false := by
    unfold inU; rw [List.any_eq_false]; intro x hx; rw [List.eq_of_mem_replicate hx]; decide
  have g1 : (S ++ (X ++ O.lst (List.replicate (0 + (us.zip vs).length) (U.bl true)) :: G))[S.length + X.length]? = some (.lst (List.replicate (0 + (us.zip vs).length) (.bl true))) := by rw [ga, ← Nat.add_zero X.length, ga]; rfl
  have hl' : ((us.length : Nat) : Int) = (vs.length : Int) := by omega
  have e' : compU (fun S' => S'[l1]? = some (.lst us) ∧ S'[l2]? = some (.lst vs)) (gTp [0, 1]) (cCB (P_same k) (cCons (cVar 0) (cCons (cVar 1) cNil))) (S.length + X.length) (pairU us vs) [none, none] (S ++ (X ++ [.lst []])) = some (S ++ (X ++ .lst (List.replicate (0 + (us.zip vs).length) (.bl true)) :: G)) := e
  have q1 := up X h1
  have q2 := up X h2
  rwa [c__law_same, x_isn, isNon, ty_lst q1, ty_lst q2, q1, q2, subT, hl', eq_self, cComp, iZip, seqU, rhoC, List.replicate, List.length_append, e', g1, x_inl fl, nin, if_true]
theorem zip_self {us : List U} {P : U × U → Prop} (h : ∀ u ∈ us, P (u, u)) : ∀ p ∈ us.zip us, P p := fun p hp => by
  obtain ⟨e, m⟩ := mem_zip_self hp
  have : p = (p.1, p.1) := by cases p; simp at e; rw [e]
  rw [this]; exact h _ m
theorem same_ints {k : Nat} {ns : List Int} {S : Sto} (hn : ns.length ≤ 1000) : SameAt (k + 2) (.tup (ns.map U.int)) (.tup (ns.map U.int)) S :=
  same_row rfl (by simpa using hn) (zip_self fun u hu => by
    obtain ⟨i, _, rfl⟩ := List.mem_map.mp hu
    exact same_int)
end OQ
set_option maxHeartbeats 1000000
namespace OQ
open PySem PySem.Spec PyProof.Rows L2 OG OP
section
variable {α : Type} {n w : Int} {f : α → U} {k : List α → Prop} {s : List α → Int}
end
section
variable {α : Type} {f : α → U} {k : List α → Prop} {s : List α → Int}
end
end OQ
set_option maxHeartbeats 1000000
namespace OQ
open PySem PySem.Spec PyProof.Rows L2 OG OP
def pt (ds : List U) (q : Int) (A B : U) : U := .tup [.tup ds, .int q, A, B]
def encQ (n : Nat) (ps : List (Int × Int)) : List U := (List.range n).map fun b : Nat => ((valG ps (b : Int)).map U.int).getD .non
section
variable {cD : Cl} {w : Int} {n i ll : Nat} {m : M} {x A B : U} {S : Sto} {ds : List U} {q : Int}
noncomputable def P_deed (cD : Cl) : Fn := fnU 1 1 (c_Doing_deed cD)
def bk (n : Nat) (hs : List Int) (ps : List (Int × Int)) (y : U) : U := .tup [.tup (hs.map U.int), .tup (encQ n ps), y]
end
end OQ
set_option maxHeartbeats 1000000
namespace OQ
open PySem PySem.Spec PyProof.Rows L2 OG OP
def lv (m : M) : Deed → Int
  | .leap h k => if m.hs.getD h.toNat 0 = 0 then k else 0
  | _ => 0
section
variable {cD : Cl} {w n : Int} {first : List Int} {i ll : Nat} {m : M} {A B : U} {S : Sto} {ds : List U} {q : Int} {r3 : Option U} {F : Nat}
end
end OQ
set_option maxHeartbeats 1000000
namespace OQ
open PySem PySem.Spec PyProof.Rows L2 OG OP
section
variable {cD : Cl} {w n : Int} {first : List Int} {i ll F : Nat}
noncomputable abbrev tG (cD : Cl) : CT := cTest (cOp fNotN (cMeth cD (P_deed cD) (cVar 0) cNil) (cC .non))
variable {α : Type} {rn : List α → M → Bool × M} {f : α → U} {k : List α → Prop} {D c : Nat}
end
end OQ
set_option maxHeartbeats 1000000
namespace OQ
open PySem PySem.Spec PyProof.Rows L2 OG OP
def prs : List (Option Int) → Nat → List (Int × Int)
  | [], _ => []
  | none :: r, k => prs r (k + 1)
  | some v :: r, k => ((k : Int), v) :: prs r (k + 1)
def ou : Option Int → U
  | none => .non
  | some v => .int v
def pU (p : Int × Int) : U := .tup [.int p.1, .int p.2]
theorem compIf_nil {ok : Sto → Prop} {g : CG} {ct : CT} {ce : CE} {l : Nat} {ρ : Rho} {S : Sto} (h : ok S) : compIfU ok g ct ce l [] ρ S = some S := by rw [compIfU, if_pos h]
theorem compIf_no {ok : Sto → Prop} {g : CG} {ct : CT} {ce : CE} {l : Nat} {ρ ρ0 : Rho} {S S0 S1 : Sto} {u : U} {us : List U} (h : ok S) (hg : g u ρ S = some (ρ0, S0)) (ht : ct ρ0 S0 = some (false, S1)) : compIfU ok g ct ce l (u :: us) ρ S = compIfU ok g ct ce l us ρ0 S1 := by
  rw [compIfU, if_pos h, hg, Option.bind_some, ht, Option.bind_some, if_neg Bool.false_ne_true]
theorem compIf_yes {ok : Sto → Prop} {g : CG} {ct : CT} {ce : CE} {l : Nat} {ρ ρ0 : Rho} {S S0 S1 S2 : Sto} {u x : U} {us ys : List U} (h : ok S) (hg : g u ρ S = some (ρ0, S0)) (ht : ct ρ0 S0 = some (true, S1)) (he : ce ρ0 S1 = some (x, S2)) (hl : S2[l]? = some (.lst ys)) (hn : ys.length < LIM) :
    compIfU ok g ct ce l (u :: us) ρ S = compIfU ok g ct ce l us ρ0 (S2.set l (.lst (ys ++ [x]))) := by
  rw [compIfU, if_pos h, hg, Option.bind_some, ht, Option.bind_some, if_pos rfl, he, Option.bind_some]
  simp only [hl, hn, if_true]
section
variable {cD : Cl} {w n : Int} {first : List Int} {i ll : Nat} {m : M} {x : U} {S : Sto}
end
end OQ
set_option maxHeartbeats 1000000
namespace OQ
open PySem PySem.Spec PyProof.Rows L2 OG OP
section
variable {cD : Cl} {w n : Int} {first : List Int}
end
end OQ
set_option maxHeartbeats 1000000
namespace OQ
open PySem PySem.Spec PyProof.Rows L2 OG OP
section
variable {cD : Cl} {n w : Int} {first : List Int}
end
end OQ
set_option maxHeartbeats 1000000
namespace OQ
open PySem PySem.Spec PyProof.Rows L2 OG OP
section
variable {w : Int} {first : List Int} {i ls lo lh ll : Nat} {m : M} {T : Sto} {n : Int}
theorem same_prs {k : Nat} {ps : List (Int × Int)} {S : Sto} {l1 l2 : Nat} (h1 : S[l1]? = some (.lst (ps.map pU))) (h2 : S[l2]? = some (.lst (ps.map pU))) (hn : ps.length ≤ 1000) : SameAt (k + 3) (.ref l1) (.ref l2) S :=
  same_lst h1 h2 rfl (by simpa using hn) (zip_self fun u hu => by
    obtain ⟨p, _, rfl⟩ := List.mem_map.mp hu
    have := same_ints (k := k) (ns := [p.1, p.2]) (S := S) (by simp)
    exact this)
end
end OQ
set_option maxHeartbeats 1000000
namespace OQ
open PySem PySem.Spec PyProof.Rows L2 OG OP
def Lay (k : Nat) (S : Sto) (u : U) : Prop := ∃ d, Dt S u d ∧ d.canLay0 = true ∧ d.depth ≤ k
def SameD (k : Nat) (S : Sto) (u v : U) : Prop := ∃ d, Dt S u d ∧ Dt S v d ∧ d.canLay0 = true ∧ d.depth ≤ k
def SameDL (k : Nat) (S : Sto) (us vs : List U) : Prop := ∃ ds, DtL S us ds ∧ DtL S vs ds ∧ PyData.canLayAll0 ds = true ∧ PyData.depthAll ds ≤ k
section
variable {k j : Nat} {S : Sto} {u v : U} {us vs : List U}
theorem Lay.int {i : Int} : Lay k S (.int i) := ⟨_, .int i, rfl, Nat.zero_le _⟩
theorem Lay.str {x : Str} (h : PyData.strOk x = true) : Lay k S (.str x) := ⟨_, .str x, h, Nat.zero_le _⟩
theorem SameD.refl (h : Lay k S u) : SameD k S u u := by obtain ⟨d, a, b, c⟩ := h; exact ⟨d, a, a, b, c⟩
theorem SameDL.nil : SameDL k S [] [] := ⟨[], .nil, .nil, rfl, Nat.zero_le _⟩
theorem SameDL.cons (h : SameD k S u v) (t : SameDL k S us vs) : SameDL k S (u :: us) (v :: vs) := by
  obtain ⟨d, a, b, c, e⟩ := h
  obtain ⟨ds, a', b', c', e'⟩ := t
  refine ⟨d :: ds, .cons a a', .cons b b', by unfold PyData.canLayAll0; rw [c, c']; rfl, ?_⟩
  unfold PyData.depthAll
  exact Nat.max_le.mpr ⟨e, e'⟩
theorem SameDL.all : ∀ {us : List U}, (∀ u ∈ us, Lay k S u) → SameDL k S us us
  | [], _ => .nil
  | u :: us, h => .cons (.refl (h u List.mem_cons_self)) (SameDL.all fun x hx => h x (List.mem_cons_of_mem _ hx))
theorem SameD.tup (h : SameDL k S us vs) : SameD (k + 1) S (.tup us) (.tup vs) := by
  obtain ⟨ds, a, b, c, e⟩ := h
  refine ⟨.tuple ds, .tup a, .tup b, by unfold PyData.canLay0; exact c, ?_⟩
  unfold PyData.depth
  omega
theorem SameD.lst {l l' : Nat} (h1 : S[l]? = some (.lst us)) (h2 : S[l']? = some (.lst vs)) (h : SameDL k S us vs) : SameD (k + 1) S (.ref l) (.ref l') := by
  obtain ⟨ds, a, b, c, e⟩ := h
  refine ⟨.list ds, .lst h1 a, .lst h2 b, by unfold PyData.canLay0; exact c, ?_⟩
  unfold PyData.depth
  omega
theorem Lay.tup (h : ∀ u ∈ us, Lay k S u) : Lay (k + 1) S (.tup us) := by
  obtain ⟨d, a, _, b, c⟩ := SameD.tup (SameDL.all h)
  exact ⟨d, a, b, c⟩
theorem SameD.ne (h : SameD k S u v) (hk : k ≤ 60) : fEqD true u v S = some (.bl false, S) := by
  obtain ⟨d, a, b, c, e⟩ := h
  exact fEqD_of true (.inl ⟨d, d, a, b, ⟨c, Nat.le_trans e hk⟩, ⟨c, Nat.le_trans e hk⟩, (SeqAt.eqv_refl d c).symm⟩)
end
section
variable {cD : Cl} {n w : Int} {j : Nat} {Ds : List (List (Dl j))} {ld lo : Nat} {x2 : Option U} {us : List U}
end
end OQ
set_option maxHeartbeats 1000000
namespace OQ
open PySem PySem.Spec PyProof.Rows L2 OG OP
section
variable {S : Sto} {l l' : Nat} {us : List U} {u : U} {i : Int}
def kPopAt (l : Nat) (i : Int) (S : Sto) : Option O → Option (U × Sto)
  | some (.lst us) => if 0 ≤ i ∧ i < us.length ∧ us.length ≤ LIM then (us[i.toNat]?).bind fun u => some (u, S.set l (.lst (us.eraseIdx i.toNat))) else none
  | _ => none
theorem x_popAt : fPopAt (.ref l) [.int i] S = kPopAt l i S S[l]? := by
  unfold fPopAt kPopAt; rfl
theorem x_popAt1 (h0 : 0 ≤ i) (h1 : i < us.length) (hL : us.length ≤ LIM) (hu : us[i.toNat]? = some u) : kPopAt l i S (some (.lst us)) = some (u, S.set l (.lst (us.eraseIdx i.toNat))) := by
  simp only [kPopAt]
  rw [if_pos ⟨h0, h1, hL⟩, hu, Option.bind_some]
def kPop (l : Nat) (S : Sto) : Option O → Option (U × Sto)
  | some (.lst us) => (us[us.length - 1]?).bind fun u => some (u, S.set l (.lst us.dropLast))
  | _ => none
theorem x_pop : fPop (.ref l) [] S = kPop l S S[l]? := by
  unfold fPop kPop; rfl
theorem x_pop1 {vs : List U} : kPop l S (some (.lst (vs ++ [u]))) = some (u, S.set l (.lst vs)) := by
  unfold kPop
  simp
def kNg : U × Sto → Option (U × Sto)
  | (.int i, S) => some (.int (-i), S)
  | _ => none
theorem x_neg {ca : CE} {ρ : Rho} : cNeg ca ρ S = (ca ρ S).bind kNg := by
  unfold cNeg
  congr 1
  funext p
  obtain ⟨x, S⟩ := p
  cases x <;> rfl
theorem x_neg1 : kNg (.int i, S) = some (.int (-i), S) := rfl
theorem at_last {vs : List U} : atI (vs ++ [u]) (-1) = some u := by
  unfold atI ixN
  rw [if_neg (by omega), if_pos (by rw [List.length_append, List.length_singleton]; omega)]
  simp only [Option.bind_some]
  have e : ((-1 : Int) + ((vs ++ [u]).length : Int)).toNat = vs.length := by rw [List.length_append, List.length_singleton]; omega
  rw [e]
  simp
theorem ne_nil (neg : Bool) (h : S[l]? = some (.lst us)) (h' : S[l']? = some (.lst [])) : fEqD neg (.ref l) (.ref l') S = some (.bl (if neg then !decide (us = []) else decide (us = [])), S) := by
  by_cases e : us = []
  · subst e
    have k := (SameD.lst (k := 0) h h' .nil)
    obtain ⟨d, a, b, c, e⟩ := k
    rw [decide_eq_true rfl]
    exact fEqD_of neg (.inl ⟨d, d, a, b, ⟨c, Nat.le_trans e (by omega)⟩, ⟨c, Nat.le_trans e (by omega)⟩, (SeqAt.eqv_refl d c).symm⟩)
  · rw [decide_eq_false e]
    exact fEqD_of neg (.inr ⟨l, l', us, [], rfl, rfl, h, h', by simpa using e, rfl⟩)
end
theorem erase_perm {α : Type} {l : List α} {k : Nat} (h : k < l.length) : (l[k] :: l.eraseIdx k).Perm l := by
  rw [List.eraseIdx_eq_take_drop_succ]
  refine (List.perm_middle.symm).trans ?_
  rw [List.getElem_cons_drop h, List.take_append_drop]
theorem map_erase {α β : Type} (f : α → β) (l : List α) (k : Nat) : (l.eraseIdx k).map f = (l.map f).eraseIdx k := by
  rw [List.eraseIdx_eq_take_drop_succ, List.eraseIdx_eq_take_drop_succ, List.map_append, List.map_take, List.map_drop]
noncomputable def P_names : Fn := fnU 5 2 (c__law_names P_take)
theorem names_loop (ns : List Int) (T : Sto) {x1 : Option U} : ∀ (us : List U) (r4 : Option U) (left found : List Int) {a c : Int}, 0 ≤ a → 0 ≤ c → left.length + found.length = 200 → us.length + found.length ≤ 100 → (found ++ left).Nodup → (∀ x ∈ found ++ left, 0 ≤ x ∧ x < 200) →
    ∃ (r4' : Option U) (left' found' : List Int) (a' c' : Int), loopU (fun _ => True) (gNm 4) (b__law_names_0 P_take) us [some (.ref 1), x1, some (.ref (T.length + 1 + 1)), some (.ref (T.length + 1 + 1 + 1)), r4] (scr ns :: pen a c :: (T ++ [.lst (left.map U.int), .lst (found.map U.int)]))
      = some (.nx, [some (.ref 1), x1, some (.ref (T.length + 1 + 1)), some (.ref (T.length + 1 + 1 + 1)), r4'], scr ns :: pen a' c' :: (T ++ [.lst (left'.map U.int), .lst (found'.map U.int)])) ∧ found'.length = found.length + us.length ∧ found'.Nodup ∧ (∀ x ∈ found', 0 ≤ x ∧ x < 200) ∧ 0 ≤ a' ∧ 0 ≤ c'
  | [], r4, left, found, a, c, ha, hc, hl, hu, hd, hb => ⟨r4, left, found, a, c, loop_nil trivial, by simp, (List.nodup_append.mp hd).1, fun x hx => hb x (List.mem_append_left _ hx), ha, hc⟩
  | u :: us, r4, left, found, a, c, ha, hc, hl, hu, hd, hb => by
    simp only [List.length_cons] at hu
    obtain ⟨f, a1, c1, e1, p1, q1, ha1, hc1⟩ := take_ok ns (T ++ [.lst (left.map U.int), .lst (found.map U.int)]) (m := (left.length : Int)) ha hc (by omega) (l9 (by omega) (by omega))
    have hk : f.toNat < left.length := by omega
    have hp : (found ++ [left[f.toNat]] ++ left.eraseIdx f.toNat).Perm (found ++ left) := by
      rw [List.append_assoc]
      refine List.Perm.append_left _ ?_
      exact erase_perm hk
    obtain ⟨r4', left', found', a', c', ih, k1, k2⟩ := names_loop ns T (x1 := x1) us (some u) (left.eraseIdx f.toNat) (found ++ [left[f.toNat]]) ha1 hc1 (by rw [List.length_eraseIdx_of_lt hk, List.length_append, List.length_singleton]; omega) (by rw [List.length_append, List.length_singleton]; omega) (hp.nodup_iff.mpr hd) (fun x hx => hb x (hp.mem_iff.mp hx))
    refine ⟨r4', left', found', a', c', (loop_nx trivial rfl ?_).trans ih, by rw [k1, List.length_append, List.length_singleton, List.length_cons]; omega, k2⟩
    have hg : (left.map U.int)[f.toNat]? = some (.int left[f.toNat]) := by rw [List.getElem?_map, List.getElem?_eq_getElem hk]; rfl
    have h1 : (left.map U.int).length ≤ LIM := by unfold LIM; rw [List.length_map]; omega
    have h2 : (found.map U.int).length < LIM := by unfold LIM; rw [List.length_map]; omega
    rwa [b__law_names_0, e1, x_popAt, x_popAt1 p1 (show f < ((left.map U.int).length : Int) by rw [List.length_map]; exact q1) h1 hg, x_app1 h2, List.length_map]
    rw [List.map_append, map_erase]
    rfl
theorem range_map (n : Nat) : rangeU 0 n = ((List.range n).map fun i : Nat => (i : Int)).map U.int := by
  unfold rangeU
  rw [List.map_map]
  refine List.map_congr_left fun i _ => ?_
  simp
theorem names_ok (ns : List Int) (T : Sto) {a c m : Int} (ha : 0 ≤ a) (hc : 0 ≤ c) (m0 : 0 ≤ m) (m1 : m ≤ 100) :
    ∃ (left names : List Int) (a' c' : Int), P_names [.ref 1, .int m] (scr ns :: pen a c :: T) = some (.ref (T.length + 1 + 1 + 1), scr ns :: pen a' c' :: (T ++ [.lst (left.map U.int), .lst (names.map U.int)])) ∧ names.length = m.toNat ∧ names.Nodup ∧ (∀ x ∈ names, 0 ≤ x ∧ x < 200) ∧ 0 ≤ a' ∧ 0 ≤ c' := by
  unfold P_names
  rw [e__law_names]
  have hL : (((List.range 200).map fun i : Nat => (i : Int))).Nodup := List.Pairwise.map _ (fun a b h e => h (by omega)) List.nodup_range
  obtain ⟨r4, left, names, a', c', e, k1, k2, k3, k4, k5⟩ := names_loop ns T (x1 := some (.int m)) (rangeU 0 m.toNat) none ((List.range 200).map fun i : Nat => (i : Int)) [] ha hc (by simp) (by simp [rangeU]; omega) (by rw [List.nil_append]; exact hL) (fun x hx => by
    rw [List.nil_append] at hx
    obtain ⟨i, hi, rfl⟩ := List.mem_map.mp hx
    have := List.mem_range.mp hi
    omega)
  refine ⟨left, names, a', c', ?_, by rw [k1]; simp [rangeU], k2, k3, k4, k5⟩
  have hr : -(2 ^ 62) ≤ m ∧ m < 2 ^ 62 := by omega
  have hR : cListRange (cCons (cC (.int 200)) cNil) [some (.ref 1), some (.int m), none, none, none] (scr ns :: pen a c :: T) = some (.ref (T.length + 1 + 1), scr ns :: pen a c :: (T ++ [.lst (((List.range 200).map fun i : Nat => (i : Int)).map U.int)])) := by
    rw [← range_map]
    rfl
  simp only [List.map_nil] at e
  rwa [c__law_names, hR, cFor, iRange1, hr, if_true, and_self, List.length_append, e]
end OQ
set_option maxHeartbeats 1000000
namespace OQ
open PySem PySem.Spec PyProof.Rows L2 OG OP
inductive Ev where
  | beg (a : Int) | look (a b x : Int) | put (a b x : Int) | fin (d : Bool) (a : Int)
def endS (d : Bool) : Str := if d then "done" else "fall"
def Ev.u : Ev → U
  | .beg a => .tup [.str "begin", .int a]
  | .look a b x => .tup [.str "look", .int a, .int b, .int x]
  | .put a b x => .tup [.str "put", .int a, .int b, .int x]
  | .fin d a => .tup [.str (endS d), .int a]
structure Att where
  en : Option Bool
  lk : List (Int × Int)
  nd : List (Int × Int)
  ps : List (Int × Int)
  bf : List Int
abbrev St := List (Int × Att)
def att0 (st : St) : Att := ⟨none, [], [], [], (st.filter fun p => p.2.en.isSome).map (·.1)⟩
def addP (nd : List (Int × Int)) (p : Int × Int) : List (Int × Int) := if p ∈ nd then nd else nd ++ [p]
def Att.ev (t : Att) : Ev → Att
  | .beg _ => t
  | .look _ b x => if (valG t.ps b).isSome then t else { t with lk := t.lk ++ [(b, x)], nd := addP t.nd (b, x) }
  | .put _ b x => { t with ps := putG t.ps b x }
  | .fin d _ => { t with en := some d }
def Ev.at : Ev → Int
  | .beg a => a | .look a _ _ => a | .put a _ _ => a | .fin _ a => a
def updA (st : St) (a : Int) (f : Att → Att) : St := st.map fun p => if p.1 = a then (p.1, f p.2) else p
def stp (st : St) : Ev → St
  | .beg a => st ++ [(a, att0 st)]
  | e => updA st e.at fun t => t.ev e
def keysS (st : St) : List Int := st.map (·.1)
def EvOk (n w : Int) (st : St) : Ev → Prop
  | .beg a => 0 ≤ a ∧ a < 200 ∧ a ∉ keysS st
  | .look a b x => (0 ≤ b ∧ b < n ∧ 0 ≤ x ∧ x < w) ∧ ∃ t, valG st a = some t ∧ t.en = none ∧ (∀ y, valG t.ps b = some y → y = x)
  | .put a b x => (0 ≤ b ∧ b < n ∧ 0 ≤ x ∧ x < w) ∧ ∃ t, valG st a = some t ∧ t.en = none
  | .fin _ a => ∃ t, valG st a = some t ∧ t.en = none
def LogF (n w : Int) : St → List Ev → Prop
  | _, [] => True
  | st, e :: r => EvOk n w st e ∧ LogF n w (stp st e) r
def runE (st : St) (es : List Ev) : St := es.foldl stp st
theorem logF_snoc {n w : Int} {e : Ev} : ∀ {es : List Ev} {st : St}, LogF n w st (es ++ [e]) ↔ LogF n w st es ∧ EvOk n w (runE st es) e
  | [], st => by simp [LogF, runE]
  | x :: es, st => by
    have ih := logF_snoc (n := n) (w := w) (e := e) (es := es) (st := stp st x)
    simp only [List.cons_append, LogF, runE, List.foldl_cons] at ih ⊢
    rw [ih, and_assoc]
theorem runE_snoc {st : St} {es : List Ev} {e : Ev} : runE st (es ++ [e]) = stp (runE st es) e := by
  unfold runE; rw [List.foldl_append]; rfl
theorem valG_mem {κ α : Type} [DecidableEq κ] {ps : List (κ × α)} {k : κ} {v : α} (h : valG ps k = some v) : (k, v) ∈ ps := by
  unfold valG at h
  obtain ⟨p, hp, rfl⟩ := Option.map_eq_some_iff.mp h
  have := List.find?_some hp
  have e : p.1 = k := by simpa using this
  subst e
  exact List.mem_of_find?_eq_some hp
theorem valG_none {κ α : Type} [DecidableEq κ] {ps : List (κ × α)} {k : κ} : valG ps k = none ↔ k ∉ ps.map (·.1) := by
  unfold valG
  rw [Option.map_eq_none_iff, List.find?_eq_none]
  simp only [decide_eq_true_eq, List.mem_map, not_exists, not_and]
theorem keys_updA {st : St} {a : Int} {f : Att → Att} : keysS (updA st a f) = keysS st := by
  unfold keysS updA
  rw [List.map_map]
  refine List.map_congr_left fun p _ => ?_
  simp only [Function.comp]
  split <;> rfl
theorem val_updA {st : St} {a : Int} {f : Att → Att} {b : Int} : valG (updA st a f) b = if b = a then (valG st b).map f else valG st b := by
  unfold valG updA
  induction st with
  | nil => simp
  | cons p r ih =>
    simp only [List.map_cons, List.find?_cons]
    by_cases e : p.1 = b
    · subst e
      by_cases e2 : p.1 = a
      · subst e2; simp
      · simp [e2]
    · have e3 : (if p.1 = a then (p.1, f p.2) else p).1 = p.1 := by split <;> rfl
      rw [e3, decide_eq_false e]
      exact ih
theorem valG_app {κ α : Type} [DecidableEq κ] {ps qs : List (κ × α)} {k : κ} : valG (ps ++ qs) k = (valG ps k).or (valG qs k) := by
  unfold valG
  rw [List.find?_append]
  cases List.find? (fun kv => decide (kv.1 = k)) ps <;> simp
theorem keys_stp {st : St} {e : Ev} : keysS (stp st e) = match e with
    | .beg a => keysS st ++ [a]
    | _ => keysS st := by
  cases e with
  | beg a => simp [stp, keysS]
  | _ => simp only [stp, keys_updA]
theorem val_stp_other {st : St} {e : Ev} {b : Int} (h : b ≠ e.at) : valG (stp st e) b = valG st b := by
  cases e with
  | beg a =>
    have h' : a ≠ b := Ne.symm h
    simp [stp, valG_app]
    cases valG st b with
    | some t => rfl
    | none => simp [valG, h']
  | _ => simp only [stp, val_updA, if_neg h]
theorem val_stp_same {st : St} {e : Ev} {t : Att} (h : valG st e.at = some t) : valG (stp st e) e.at = some (t.ev e) := by
  cases e with
  | beg a => simp only [stp, valG_app, Ev.at] at h ⊢; rw [h]; rfl
  | _ => simp only [stp, val_updA, if_pos]; rw [h]; rfl
theorem val_stp_beg {st : St} {a : Int} (h : a ∉ keysS st) : valG (stp st (.beg a)) a = some (att0 st) := by
  simp only [stp, valG_app]
  rw [valG_none.mpr h]
  simp [valG]
theorem nodup_stp {n w : Int} {st : St} {e : Ev} (h : (keysS st).Nodup) (ok : EvOk n w st e) : (keysS (stp st e)).Nodup := by
  rw [keys_stp]
  cases e with
  | beg a =>
    refine List.nodup_append.mpr ⟨h, by simp, fun x hx y hy e => ?_⟩
    simp at hy
    subst hy; subst e
    exact ok.2.2 hx
  | _ => exact h
noncomputable def P_event : Fn := fnU 9 6 (c__law_event P_take)
theorem event_ok (ns : List Int) (T : Sto) {a c n w at_ : Int} {seen now : List Int} {r : Nat} {ps : List (Int × Int)} (ha : 0 ≤ a) (hc : 0 ≤ c) (n0 : 1 ≤ n) (n1 : n ≤ 6) (w0 : 2 ≤ w) (w1 : w ≤ 1000) (hr : T[r]? = some (.dic (encP ps))) (hs : seen.length = n.toNat) (bs : ∀ z ∈ seen, 0 ≤ z ∧ z < w) (hn : now.length = n.toNat) (bn : ∀ z ∈ now, 0 ≤ z ∧ z < w) (bp : ∀ p ∈ ps, 0 ≤ p.2 ∧ p.2 < w) :
    ∃ (e : Ev) (a' c' : Int) (G : Sto), P_event [.ref 1, .tup [.int n, .int w], .int at_, .tup (seen.map U.int), .ref (r + 1 + 1), .tup (now.map U.int)] (scr ns :: pen a c :: T) = some (e.u, scr ns :: pen a' c' :: (T ++ G)) ∧ e.at = at_ ∧ (∀ {st : St} {t : Att}, valG st at_ = some t → t.en = none → t.ps = ps → EvOk n w st e) ∧ (∀ x, e ≠ .beg x) ∧ 0 ≤ a' ∧ 0 ≤ c' := by
  unfold P_event
  rw [e__law_event]
  obtain ⟨way, a1, c1, e1, p1, q1, ha1, hc1⟩ := take_ok ns T (m := 12) ha hc (by decide) (by decide +kernel)
  obtain ⟨box, a2, c2, e2, p2, q2, ha2, hc2⟩ := take_ok ns T (m := n) ha1 hc1 (by omega) (l9 (by omega) (by omega))
  by_cases c5 : way < 5
  · obtain ⟨f, a3, c3, e3, p3, q3, ha3, hc3⟩ := take_ok ns T (m := w) ha2 hc2 (by omega) (l9 (by omega) (by omega))
    obtain ⟨sb, hsb⟩ : ∃ z, z = seen.getD box.toNat 0 := ⟨_, rfl⟩
    obtain ⟨nb, hnb⟩ : ∃ z, z = now.getD box.toNat 0 := ⟨_, rfl⟩
    obtain ⟨g, a4, c4, e4, p4, q4, ha4, hc4⟩ := take_ok ns (T ++ [.lst [.int sb, .int sb, .int nb, .int f]]) (m := 4) ha3 hc3 (by decide) (by decide +kernel)
    have k1 := atF hs p2 q2
    have k2 := atF hn p2 q2
    have hb1 : box.toNat < seen.length := by omega
    have hb2 : box.toNat < now.length := by omega
    have b1 : 0 ≤ sb ∧ sb < w := by
      rw [hsb, List.getD_eq_getElem?_getD, List.getElem?_eq_getElem hb1]; exact bs _ (List.getElem_mem hb1)
    have b2 : 0 ≤ nb ∧ nb < w := by
      rw [hnb, List.getD_eq_getElem?_getD, List.getElem?_eq_getElem hb2]; exact bn _ (List.getElem_mem hb2)
    rw [← hsb] at k1
    rw [← hnb] at k2
    have pick : ∃ z : Int, atI [U.int sb, U.int sb, U.int nb, U.int f] g = some (.int z) ∧ 0 ≤ z ∧ z < w := by
      have : g = 0 ∨ g = 1 ∨ g = 2 ∨ g = 3 := by omega
      rcases this with rfl | rfl | rfl | rfl
      · exact ⟨sb, rfl, b1⟩
      · exact ⟨sb, rfl, b1⟩
      · exact ⟨nb, rfl, b2⟩
      · exact ⟨f, rfl, p3, q3⟩
    obtain ⟨z, hz, z0, z1⟩ := pick
    have hr' : ∀ G : Sto, (T ++ G)[r]? = some (.dic (encP ps)) := fun G => get_app hr
    obtain ⟨v, hv⟩ : ∃ v, v = (valG ps box).getD z := ⟨_, rfl⟩
    have hv2 : ((valG ps box).map U.int).getD (.int z) = .int v := by rw [hv]; cases valG ps box <;> rfl
    refine ⟨.look at_ box v, a4, c4, [.lst [.int sb, .int sb, .int nb, .int f]], ?_, rfl, fun h1 h2 h3 => ⟨⟨p2, q2, ?_⟩, _, h1, h2, fun y hy => ?_⟩, (fun x h => by cases h), ha4, hc4⟩
    · rwa [c__law_event, e1, e2, e3, e4, c5, k1, k2, hz, hr', val_encP, hv2, Ev.u]
    · rw [hv]
      cases hq : valG ps box with
      | none => exact ⟨z0, z1⟩
      | some y => exact bp _ (valG_mem hq)
    · rw [h3] at hy
      rw [hv, hy]; rfl
  by_cases c8 : way < 8
  · obtain ⟨f, a3, c3, e3, p3, q3, ha3, hc3⟩ := take_ok ns T (m := w) ha2 hc2 (by omega) (l9 (by omega) (by omega))
    refine ⟨.put at_ box f, a3, c3, [], ?_, rfl, fun h1 h2 h3 => ⟨⟨p2, q2, p3, q3⟩, _, h1, h2⟩, (fun x h => by cases h), ha3, hc3⟩
    rwa [c__law_event, e1, e2, e3, c5, c8, Ev.u, List.append_nil]
  have pick : ∃ d : Bool, atI [U.str "done", U.str "done", U.str "done", U.str "fall"] (way - 8) = some (.str (endS d)) := by
    have : way = 8 ∨ way = 9 ∨ way = 10 ∨ way = 11 := by omega
    rcases this with rfl | rfl | rfl | rfl
    · exact ⟨true, rfl⟩
    · exact ⟨true, rfl⟩
    · exact ⟨true, rfl⟩
    · exact ⟨false, rfl⟩
  obtain ⟨d, hd⟩ := pick
  refine ⟨.fin d at_, a2, c2, [.lst [.str "done", .str "done", .str "done", .str "fall"]], ?_, rfl, fun h1 h2 h3 => ⟨_, h1, h2⟩, (fun x h => by cases h), ha2, hc2⟩
  rwa [c__law_event, e1, e2, c5, c8, hd, Ev.u]
noncomputable def P_putin : Fn := fnU 2 2 c__law_put_in
theorem putin_loop {S : Sto} {r : Nat} {ps : List (Int × Int)} (hr : S[r]? = some (.dic (encP ps))) : ∀ (xs : List Int) (k : Nat) (ys : List Int) (r0 r1 : Option U), ys.length + xs.length ≤ 1000 →
    ∃ zs, compU (fun _ => True) (gTp [0, 1]) (cDGet (cVar 2) (cVar 0) (cVar 1)) S.length (((xs.map U.int).zipIdx k).map fun p => .tup [.int p.2, p.1]) [r0, r1, some (.ref r)] (S ++ [.lst (ys.map U.int)]) = some (S ++ [.lst ((ys ++ zs).map U.int)]) ∧ zs = beh xs ps k
  | [], k, ys, r0, r1, hl => ⟨[], by simp only [List.map_nil, List.zipIdx_nil, List.append_nil]; exact comp_nil trivial, rfl⟩
  | x :: xs, k, ys, r0, r1, hl => by
    obtain ⟨v, hv⟩ : ∃ v, v = (valG ps (k : Int)).getD x := ⟨_, rfl⟩
    have hv2 : ((valG ps (k : Int)).map U.int).getD (.int x) = .int v := by rw [hv]; cases valG ps (k : Int) <;> rfl
    obtain ⟨zs, h2, e2⟩ := putin_loop hr xs (k + 1) (ys ++ [v]) (some (.int k)) (some (.int x)) (by simp at hl ⊢; omega)
    refine ⟨v :: zs, ?_, by rw [e2, hv]; rfl⟩
    have hr' : ∀ G : Sto, (S ++ G)[r]? = some (.dic (encP ps)) := fun G => get_app hr
    simp only [List.map_cons, List.zipIdx_cons]
    refine (comp_cons (ρ0 := [some (.int k), some (.int x), some (.ref r)]) (S0 := S ++ [.lst (ys.map U.int)]) (S1 := S ++ [.lst (ys.map U.int)]) (x := .int v) (ys := ys.map U.int) trivial rfl ?_ ?_ (by unfold LIM; simp at hl ⊢; omega)).trans ?_
    · rwa [hr', val_encP, hv2]
    · rwa []
    · have e5 : (S ++ [O.lst (ys.map U.int)]).set S.length (.lst (ys.map U.int ++ [U.int v])) = S ++ [.lst ((ys ++ [v]).map U.int)] := by
        rwa [List.map_append, List.map_cons, List.map_nil]
      rw [e5, h2]
      simp
theorem putin_ok {S : Sto} {r : Nat} {ps : List (Int × Int)} {now : List Int} (hr : S[r]? = some (.dic (encP ps))) (hl : now.length ≤ 1000) :
    P_putin [.tup (now.map U.int), .ref r] S = some (.tup ((beh now ps 0).map U.int), S ++ [.lst ((beh now ps 0).map U.int)]) := by
  unfold P_putin
  rw [e__law_put_in]
  obtain ⟨zs, h, e⟩ := putin_loop hr now 0 [] none none (by simpa using hl)
  subst e
  simp only [List.map_nil, List.nil_append] at h
  have es : seqU (.tup (now.map U.int)) S = some (now.map U.int, fun _ => True) := rfl
  rwa [c__law_put_in, cComp, iEnum, es, enumU, rhoC, List.replicate, Option.getD_some, h]
end OQ
set_option maxHeartbeats 1000000
namespace OQ
open PySem PySem.Spec PyProof.Rows L2 OG OP
structure Go where
  a : Int
  seen : List Int
  r : Nat
def Go.u (g : Go) : U := .tup [.int g.a, .tup (g.seen.map U.int), .ref (g.r + 1 + 1)]
structure LgI (n w : Int) (N : Nat) (T0 T : Sto) (ln ll lg : Nat) (names : List Int) (evs : List Ev) (g : List Go) (now : List Int) : Prop where
  hn : T[ln]? = some (.lst (names.map U.int))
  hl : T[ll]? = some (.lst (evs.map Ev.u))
  hg : T[lg]? = some (.lst (g.map Go.u))
  bn : T0.length ≤ ln
  bl : T0.length ≤ ll
  bg : T0.length ≤ lg
  n1 : ln ≠ ll
  n2 : ln ≠ lg
  n3 : ll ≠ lg
  go : ∀ x ∈ g, (T0.length ≤ x.r ∧ x.r ≠ ln ∧ x.r ≠ ll ∧ x.r ≠ lg ∧ x.seen.length = n.toNat ∧ (∀ z ∈ x.seen, 0 ≤ z ∧ z < w)) ∧ ∃ t, valG (runE [] evs) x.a = some t ∧ t.en = none ∧ T[x.r]? = some (.dic (encP t.ps))
  gd : g.Pairwise fun x y => x.r ≠ y.r ∧ x.a ≠ y.a
  nd : names.Nodup
  nb : ∀ x ∈ names, 0 ≤ x ∧ x < 200 ∧ x ∉ keysS (runE [] evs)
  lo : LogF n w [] evs
  kd : (keysS (runE [] evs)).Nodup
  cnt : (runE [] evs).length + names.length ≤ N
  gl : g.length ≤ (runE [] evs).length
  nw : now.length = n.toNat
  nwb : ∀ z ∈ now, 0 ≤ z ∧ z < w
  pb : ∀ a t, valG (runE [] evs) a = some t → t.ps.length ≤ evs.length ∧ ∀ p ∈ t.ps, (0 ≤ p.1 ∧ p.1 < n) ∧ 0 ≤ p.2 ∧ p.2 < w
  fr : ∀ i, i < T0.length → T[i]? = T0[i]?
  le : T0.length ≤ T.length
section
variable {n w : Int} {N : Nat} {T0 T T' : Sto} {ln ll lg : Nat} {names : List Int} {evs : List Ev} {g : List Go} {now : List Int}
theorem LgI.app (h : LgI n w N T0 T ln ll lg names evs g now) (G : Sto) : LgI n w N T0 (T ++ G) ln ll lg names evs g now :=
  { h with
    hn := get_app h.hn, hl := get_app h.hl, hg := get_app h.hg
    go := fun x hx => by obtain ⟨k, t, h1, h2, h3⟩ := h.go x hx; exact ⟨k, t, h1, h2, get_app h3⟩
    fr := fun i hi => by rw [List.getElem?_append_left (Nat.lt_of_lt_of_le hi h.le)]; exact h.fr i hi
    le := by rw [List.length_append]; have := h.le; omega }
theorem mem_putG {κ α : Type} [DecidableEq κ] {ps : List (κ × α)} {b : κ} {v : α} {p : κ × α} (h : p ∈ putG ps b v) : p ∈ ps ∨ p = (b, v) := by
  unfold putG at h
  split at h
  · obtain ⟨q, hq, rfl⟩ := List.mem_map.mp h
    split
    · rename_i e
      right
      rw [← e]
    · exact .inl hq
  · rcases List.mem_append.mp h with z | z
    · exact .inl z
    · simp at z; exact .inr z
theorem len_stp {st : St} {e : Ev} (h : ∀ x, e ≠ .beg x) : (stp st e).length = st.length := by
  cases e with
  | beg a => exact absurd rfl (h a)
  | _ => simp [stp, updA]
theorem LgI.begin {a0 : Int} (h : LgI n w N T0 T ln ll lg (names ++ [a0]) evs g now) (hn : T'[ln]? = some (.lst (names.map U.int))) (hl : T'[ll]? = some (.lst ((evs ++ [Ev.beg a0]).map Ev.u))) (hg : T'[lg]? = some (.lst ((g ++ [Go.mk a0 now T.length]).map Go.u)))
    (hd : T'[T.length]? = some (.dic [])) (old : ∀ i, i ≠ ln → i ≠ ll → i ≠ lg → i < T.length → T'[i]? = T[i]?) (le : T.length ≤ T'.length) : LgI n w N T0 T' ln ll lg names (evs ++ [.beg a0]) (g ++ [⟨a0, now, T.length⟩]) now := by
  have ha : a0 ∈ names ++ [a0] := by simp
  obtain ⟨a1, a2, a3⟩ := h.nb a0 ha
  have ok : EvOk n w (runE [] evs) (.beg a0) := ⟨a1, a2, a3⟩
  have hb := h.le
  have dn := List.nodup_append.mp h.nd
  have oth : ∀ {x : Int}, x ∈ keysS (runE [] evs) → x ≠ a0 := fun hx e => a3 (e ▸ hx)
  have vk : ∀ {x : Int} {t : Att}, valG (runE [] evs) x = some t → x ∈ keysS (runE [] evs) := fun e => List.mem_map.mpr ⟨_, valG_mem e, rfl⟩
  refine { h with hn := hn, hl := hl, hg := hg, nd := dn.1, lo := logF_snoc.mpr ⟨h.lo, ok⟩, kd := by rw [runE_snoc]; exact nodup_stp h.kd ok, go := ?go, gd := ?gd, nb := ?nb, cnt := ?cnt, gl := ?gl, pb := ?pb, fr := ?fr, le := ?le }
  case go =>
    intro x hx
    rcases List.mem_append.mp hx with hx | hx
    · obtain ⟨⟨k1, k2, k3, k4, k5⟩, t, h1, h2, h3⟩ := h.go x hx
      refine ⟨⟨k1, k2, k3, k4, k5⟩, t, ?_, h2, ?_⟩
      · rw [runE_snoc, val_stp_other (show x.a ≠ (Ev.beg a0).at from oth (vk h1))]; exact h1
      · rw [old _ k2 k3 k4 (lt_of_get h3)]; exact h3
    · simp at hx
      subst hx
      have z1 := lt_of_get h.hn
      have z2 := lt_of_get h.hl
      have z3 := lt_of_get h.hg
      refine ⟨⟨hb, by dsimp only; omega, by dsimp only; omega, by dsimp only; omega, h.nw, h.nwb⟩, att0 (runE [] evs), ?_, rfl, hd⟩
      rw [runE_snoc]; exact val_stp_beg a3
  case gd =>
    refine List.pairwise_append.mpr ⟨h.gd, by simp, fun x hx y hy => ?_⟩
    simp at hy
    subst hy
    obtain ⟨_, t, h1, h2, h3⟩ := h.go x hx
    have := lt_of_get h3
    exact ⟨by dsimp only; omega, oth (vk h1)⟩
  case nb =>
    intro x hx
    obtain ⟨b1, b2, b3⟩ := h.nb x (List.mem_append_left _ hx)
    refine ⟨b1, b2, ?_⟩
    rw [runE_snoc, keys_stp]
    simp only [List.mem_append, List.mem_singleton, not_or]
    exact ⟨b3, dn.2.2 x hx a0 (by simp)⟩
  case cnt =>
    have := h.cnt
    rw [runE_snoc]
    simp [stp] at this ⊢
    omega
  case gl =>
    have := h.gl
    rw [runE_snoc]
    simp [stp]
    omega
  case pb =>
    intro a t e
    rw [runE_snoc] at e
    by_cases c : a = a0
    · subst c
      rw [val_stp_beg a3] at e
      cases e
      simp [att0]
    · rw [val_stp_other (show a ≠ (Ev.beg a0).at from c)] at e
      obtain ⟨k1, k2⟩ := h.pb a t e
      exact ⟨by rw [List.length_append]; omega, k2⟩
  case fr =>
    intro i hi
    have := h.bn; have := h.bl; have := h.bg
    rw [old i (by omega) (by omega) (by omega) (by omega)]
    exact h.fr i hi
  case le =>
    omega
theorem LgI.ev {e : Ev} {x : Go} {t : Att} {g' : List Go} {now' : List Int} (h : LgI n w N T0 T ln ll lg names evs g now) (ht : valG (runE [] evs) x.a = some t) (ea : e.at = x.a) (ok : EvOk n w (runE [] evs) e) (nb : ∀ y, e ≠ .beg y) (sub : g'.Sublist g)
    (hn : T'[ln]? = T[ln]?) (hl : T'[ll]? = some (.lst ((evs ++ [e]).map Ev.u))) (hg : T'[lg]? = some (.lst (g'.map Go.u)))
    (oth : ∀ y ∈ g', (y = x ∧ (t.ev e).en = none ∧ T'[y.r]? = some (.dic (encP (t.ev e).ps))) ∨ (y.a ≠ x.a ∧ T'[y.r]? = T[y.r]?))
    (fr : ∀ i, i < T0.length → T'[i]? = T[i]?) (le : T.length ≤ T'.length) (nw : now'.length = n.toNat) (nwb : ∀ z ∈ now', 0 ≤ z ∧ z < w) : LgI n w N T0 T' ln ll lg names (evs ++ [e]) g' now' := by
  have hb := h.le
  have ks : keysS (stp (runE [] evs) e) = keysS (runE [] evs) := by
    rw [keys_stp]
    cases e with
    | beg a => exact absurd rfl (nb a)
    | _ => rfl
  refine { h with hn := by rw [hn]; exact h.hn, hl := hl, hg := hg, lo := logF_snoc.mpr ⟨h.lo, ok⟩, kd := by rw [runE_snoc]; exact nodup_stp h.kd ok, nw := nw, nwb := nwb, gd := h.gd.sublist sub, nb := fun y hy => by rw [runE_snoc, ks]; exact h.nb y hy, fr := fun i hi => by rw [fr i hi]; exact h.fr i hi, le := by omega, cnt := by rw [runE_snoc, len_stp nb]; exact h.cnt, gl := by rw [runE_snoc, len_stp nb]; have := h.gl; have := sub.length_le; omega, go := ?go, pb := ?pb }
  case go =>
    intro y hy
    obtain ⟨k, u, h1, h2, h3⟩ := h.go y (sub.subset hy)
    refine ⟨k, ?_⟩
    rcases oth y hy with ⟨rfl, o1, o2⟩ | ⟨o1, o2⟩
    · refine ⟨t.ev e, ?_, o1, o2⟩
      rw [runE_snoc, ← ea]
      exact val_stp_same (by rw [ea]; exact ht)
    · refine ⟨u, ?_, h2, by rw [o2]; exact h3⟩
      rw [runE_snoc, val_stp_other (by rw [ea]; exact o1)]
      exact h1
  case pb =>
    intro a u e1
    rw [runE_snoc] at e1
    by_cases c : a = e.at
    · subst c
      rw [val_stp_same (by rw [ea]; exact ht)] at e1
      cases e1
      obtain ⟨k1, k2⟩ := h.pb _ _ ht
      rw [List.length_append, List.length_singleton]
      cases e with
      | beg a => exact absurd rfl (nb a)
      | look a b v =>
        simp only [Att.ev]
        split
        · exact ⟨by omega, k2⟩
        · exact ⟨by dsimp only; omega, k2⟩
      | put a b v =>
        obtain ⟨⟨b1, b2, b3, b4⟩, _⟩ := ok
        refine ⟨Nat.le_trans (len_putG t.ps b v) (by omega), fun p hp => ?_⟩
        rcases mem_putG hp with z | z
        · exact k2 p z
        · subst z; exact ⟨⟨b1, b2⟩, b3, b4⟩
      | fin d a => exact ⟨by simp only [Att.ev]; omega, k2⟩
    · rw [val_stp_other c] at e1
      obtain ⟨k1, k2⟩ := h.pb a u e1
      exact ⟨by rw [List.length_append]; omega, k2⟩
end
end OQ
set_option maxHeartbeats 1000000
namespace OQ
open PySem PySem.Spec PyProof.Rows L2 OG OP
theorem gss {S : Sto} {i : Nat} {o : O} : (S.set i o)[i]? = (S[i]?).map fun _ => o := by
  by_cases h : i < S.length
  · rw [List.getElem?_set_self h, List.getElem?_eq_getElem h]; rfl
  · rw [List.getElem?_eq_none (by simpa using h), List.getElem?_eq_none (by simpa using h)]; rfl
theorem gsn {S : Sto} {i j : Nat} {o : O} (h : i ≠ j) : (S.set i o)[j]? = S[j]? := List.getElem?_set_ne h
noncomputable def rBeg : CS := (cSeq (cDrop (cBM fAppend (cVar 8) (cCons (cTup (cCons (cBM fPop (cVar 5) cNil) (cCons (cVar 7) (cCons cDNew cNil)))) cNil)))
    (cDrop (cBM fAppend (cVar 6) (cCons (cTup (cCons (cC (.str "begin")) (cCons (cOp fIx (cOp fIx (cVar 8) (cNeg (cC (.int 1)))) (cC (.int 0))) cNil))) cNil))))
noncomputable def rEv2 : CS := (cSeq (cIfS (cTest (cOp fEq (cOp fIx (cOp fIx (cVar 6) (cNeg (cC (.int 1)))) (cC (.int 0))) (cC (.str "put")))) (cSetIx (cVar 13) (cOp fIx (cOp fIx (cVar 6) (cNeg (cC (.int 1)))) (cC (.int 2))) (cOp fIx (cOp fIx (cVar 6) (cNeg (cC (.int 1)))) (cC (.int 3)))) (cIfS (cTest (cOp fEq (cOp fIx (cOp fIx (cVar 6) (cNeg (cC (.int 1)))) (cC (.int 0))) (cC (.str "done")))) (cSet 7 (cCB P_putin (cCons (cVar 7) (cCons (cVar 13) cNil)))) cSkip))
    (cIfS (cTest (cOp (fIn false) (cOp fIx (cOp fIx (cVar 6) (cNeg (cC (.int 1)))) (cC (.int 0))) (cTup (cCons (cC (.str "done")) (cCons (cC (.str "fall")) cNil))))) (cDrop (cBM fPopAt (cVar 8) (cCons (cVar 10) cNil))) cSkip))
noncomputable def rEv : CS := (cSeq (cSet 10 (cCB P_take (cCons (cVar 0) (cCons (cCB fLen (cCons (cVar 8) cNil)) cNil))))
    (cSeq (cAsg (cOp fIx (cVar 8) (cVar 10)) (gTp [11, 12, 13]))
    (cSeq (cDrop (cBM fAppend (cVar 6) (cCons (cCB P_event (cCons (cVar 0) (cCons (cVar 1) (cCons (cVar 11) (cCons (cVar 12) (cCons (cVar 13) (cCons (cVar 7) cNil))))))) cNil))) rEv2)))
theorem b_log : b__law_log_0 P_names P_take P_event P_putin = cIfS (cAnd (cTest (cOp (fEqD true) (cVar 5) (cLst cNil))) (cOr (cTest (cOp (fEqD false) (cVar 8) (cLst cNil))) (cTest (cOp fEq (cCB P_take (cCons (cVar 0) (cCons (cC (.int 4)) cNil))) (cC (.int 0)))))) rBeg (cIfS (cTest (cOp (fEqD true) (cVar 8) (cLst cNil))) rEv cSkip) := rfl
section
variable {n w : Int} {N : Nat} {T0 T T' : Sto} {ln ll lg : Nat} {names : List Int} {evs : List Ev} {g : List Go} {now : List Int} {x2 x3 x4 x9 x10 x11 x12 x13 : Option U}
abbrev rhoL (n w : Int) (ln ll lg : Nat) (now : List Int) (x2 x3 x4 x9 x10 x11 x12 x13 : Option U) : Rho := [some (.ref 1), some (.tup [.int n, .int w]), x2, x3, x4, some (.ref (ln + 1 + 1)), some (.ref (ll + 1 + 1)), some (.tup (now.map U.int)), some (.ref (lg + 1 + 1)), x9, x10, x11, x12, x13]
theorem beg_ok (ns : List Int) {a c : Int} {a0 : Int} (h : LgI n w N T0 T ln ll lg (names ++ [a0]) evs g now) (hN : N ≤ 100) (hE : evs.length ≤ 1000) :
    ∃ T', rBeg (rhoL n w ln ll lg now x2 x3 x4 x9 x10 x11 x12 x13) (scr ns :: pen a c :: T) = some (.nx, rhoL n w ln ll lg now x2 x3 x4 x9 x10 x11 x12 x13, scr ns :: pen a c :: T') ∧ LgI n w N T0 T' ln ll lg names (evs ++ [.beg a0]) (g ++ [⟨a0, now, T.length⟩]) now := by
  have z1 := lt_of_get h.hn
  have z2 := lt_of_get h.hl
  have z3 := lt_of_get h.hg
  have hG : (g.map Go.u).length < LIM := by have := h.gl; have := h.cnt; unfold LIM; rw [List.length_map]; omega
  have hV : (evs.map Ev.u).length < LIM := by unfold LIM; rw [List.length_map]; omega
  have u : Go.u ⟨a0, now, T.length⟩ = .tup [.int a0, .tup (now.map U.int), .ref (T.length + 1 + 1)] := rfl
  have hn := h.hn
  rw [List.map_append, List.map_cons, List.map_nil] at hn
  have e1 : (T.set ln (.lst (names.map U.int)) ++ [O.dic []])[lg]? = some (.lst (g.map Go.u)) := get_app (by rw [gsn h.n2]; exact h.hg)
  have e2 : ((T.set ln (.lst (names.map U.int)) ++ [O.dic []]).set lg (.lst (g.map Go.u ++ [.tup [.int a0, .tup (now.map U.int), .ref (T.length + 1 + 1)]])))[ll]? = some (.lst (evs.map Ev.u)) := by
    rw [gsn (Ne.symm h.n3)]; exact get_app (by rw [gsn h.n1]; exact h.hl)
  have e3 : ((T.set ln (.lst (names.map U.int)) ++ [O.dic []]).set lg (.lst (g.map Go.u ++ [.tup [.int a0, .tup (now.map U.int), .ref (T.length + 1 + 1)]])))[lg]? = some (.lst (g.map Go.u ++ [.tup [.int a0, .tup (now.map U.int), .ref (T.length + 1 + 1)]])) := by
    rw [gss, e1]; rfl
  refine ⟨((T.set ln (.lst (names.map U.int)) ++ [O.dic []]).set lg (.lst (g.map Go.u ++ [U.tup [.int a0, .tup (now.map U.int), .ref (T.length + 1 + 1)]]))).set ll (.lst (evs.map Ev.u ++ [U.tup [.str "begin", .int a0]])), ?_, ?_⟩
  · rwa [rBeg, rhoL, h.hg, h.hl, hn, e1, e2, e3, x_pop, x_pop1, x_app1 hG, x_app1 hV, x_neg, x_neg1, at_last, List.length_set]
  · refine h.begin ?_ ?_ ?_ ?_ (fun i i1 i2 i3 hi => ?_) (by simp)
    · rw [gsn (Ne.symm h.n1), gsn (Ne.symm h.n2)]
      refine get_app ?_
      rw [gss, h.hn]; rfl
    · rw [gss, e2, List.map_append]; rfl
    · rw [gsn h.n3, e3, List.map_append, ← u]; rfl
    · rw [gsn (by omega), gsn (by omega)]
      have : (T.set ln (O.lst (names.map U.int))).length = T.length := List.length_set
      rw [← this]
      exact ga0
    · rw [gsn (Ne.symm i2), gsn (Ne.symm i3), List.getElem?_append_left (by simpa using hi), gsn (Ne.symm i1)]
theorem gd_sym : ∀ {x y : Go}, (x.r ≠ y.r ∧ x.a ≠ y.a) → (y.r ≠ x.r ∧ y.a ≠ x.a) := fun h => ⟨Ne.symm h.1, Ne.symm h.2⟩
theorem gd_or {k : Nat} (hk : k < g.length) (h : g.Pairwise fun x y => x.r ≠ y.r ∧ x.a ≠ y.a) : (∀ y ∈ g, y = g[k] ∨ (y.r ≠ g[k].r ∧ y.a ≠ g[k].a)) ∧ ∀ y ∈ g.eraseIdx k, y.r ≠ g[k].r ∧ y.a ≠ g[k].a := by
  have hp := erase_perm hk
  have h1 : (g[k] :: g.eraseIdx k).Pairwise fun x y => x.r ≠ y.r ∧ x.a ≠ y.a := (hp.pairwise_iff gd_sym).mpr h
  have h2 := (List.pairwise_cons.mp h1).1
  refine ⟨fun y hy => ?_, fun y hy => gd_sym (h2 y hy)⟩
  rcases List.mem_cons.mp (hp.mem_iff.mpr hy) with z | z
  · exact .inl z
  · exact .inr (gd_sym (h2 y z))
theorem w_look_put : decide (("look" : Str) = "put") = false := by decide +kernel
theorem w_look_done : decide (("look" : Str) = "done") = false := by decide +kernel
theorem w_done_put : decide (("done" : Str) = "put") = false := by decide +kernel
theorem w_fall_put : decide (("fall" : Str) = "put") = false := by decide +kernel
theorem w_fall_done : decide (("fall" : Str) = "done") = false := by decide +kernel
theorem w_self {x : Str} : decide (x = x) = true := decide_eq_true rfl
theorem in_end {x : Str} {S : Sto} : fIn false (.str x) (.tup [.str "done", .str "fall"]) S = some (.bl (inU (.str x) [.str "done", .str "fall"]), S) := rfl
theorem in_look : inU (.str "look") [.str "done", .str "fall"] = false := by decide +kernel
theorem in_put : inU (.str "put") [.str "done", .str "fall"] = false := by decide +kernel
theorem in_done : inU (.str "done") [.str "done", .str "fall"] = true := by decide +kernel
theorem in_fall : inU (.str "fall") [.str "done", .str "fall"] = true := by decide +kernel
theorem beh_bd {now : List Int} {ps : List (Int × Int)} {w : Int} (h : ∀ z ∈ now, 0 ≤ z ∧ z < w) (hp : ∀ p ∈ ps, 0 ≤ p.2 ∧ p.2 < w) (k : Nat) : ∀ z ∈ beh now ps k, 0 ≤ z ∧ z < w := fun z hz => by
  unfold beh at hz
  obtain ⟨p, hp', rfl⟩ := List.mem_map.mp hz
  cases hv : valG ps (p.2 : Int) with
  | some y => exact hp _ (valG_mem hv)
  | none => exact h _ (List.fst_mem_of_mem_zipIdx hp')
theorem ev_ok (ns : List Int) {a c : Int} (ha : 0 ≤ a) (hc : 0 ≤ c) (n0 : 1 ≤ n) (n1 : n ≤ 6) (w0 : 2 ≤ w) (w1 : w ≤ 1000) (h : LgI n w N T0 T ln ll lg names evs g now) (hN : N ≤ 100) (hE : evs.length ≤ 1000) (hg : g ≠ []) :
    ∃ T' a' c' e g' now' y10 y11 y12 y13, rEv (rhoL n w ln ll lg now x2 x3 x4 x9 x10 x11 x12 x13) (scr ns :: pen a c :: T) = some (.nx, rhoL n w ln ll lg now' x2 x3 x4 x9 y10 y11 y12 y13, scr ns :: pen a' c' :: T') ∧ LgI n w N T0 T' ln ll lg names (evs ++ [e]) g' now' ∧ 0 ≤ a' ∧ 0 ≤ c' := by
  have hgl := h.gl
  have hct := h.cnt
  have gpos : 0 < g.length := List.length_pos_iff.mpr hg
  obtain ⟨f, a1, c1, e1, p1, q1, ha1, hc1⟩ := take_ok ns T (m := (g.length : Int)) ha hc (by omega) (l9 (by omega) (by omega))
  have hk : f.toNat < g.length := by omega
  obtain ⟨o1, o2⟩ := gd_or hk h.gd
  have hx : g[f.toNat] ∈ g := List.getElem_mem hk
  generalize hX : g[f.toNat] = x at o1 o2 hx
  obtain ⟨⟨k1, k2, k3, k4, k5, k6⟩, t, t1, t2, t3⟩ := h.go x hx
  obtain ⟨pl, pb⟩ := h.pb _ _ t1
  have hat : atI (g.map Go.u) f = some (.tup [.int x.a, .tup (x.seen.map U.int), .ref (x.r + 1 + 1)]) := atI_of p1 (by rw [List.getElem?_map, List.getElem?_eq_getElem hk, hX]; rfl)
  obtain ⟨e, a2, c2, G, e2, ea, ok, nb, ha2, hc2⟩ := event_ok ns T (at_ := x.a) ha1 hc1 n0 n1 w0 w1 t3 k5 k6 h.nw h.nwb fun p hp => (pb p hp).2
  have okE := ok t1 t2 rfl
  have hV : (evs.map Ev.u).length < LIM := by unfold LIM; rw [List.length_map]; omega
  have hGL : (g.map Go.u).length ≤ LIM := by unfold LIM; rw [List.length_map]; omega
  have hPL : (encP t.ps).length < LIM := by unfold LIM encP; rw [List.length_map]; omega
  have A := h.app G
  have pre : rEv (rhoL n w ln ll lg now x2 x3 x4 x9 x10 x11 x12 x13) (scr ns :: pen a c :: T) = rEv2 (rhoL n w ln ll lg now x2 x3 x4 x9 (some (.int f)) (some (.int x.a)) (some (.tup (x.seen.map U.int))) (some (.ref (x.r + 1 + 1)))) (scr ns :: pen a2 c2 :: ((T ++ G).set ll (.lst (evs.map Ev.u ++ [e.u])))) := by
    rwa [rEv, rhoL, h.hg, h.hl, A.hl, e1, e2, hat, x_app1 hV, List.length_map]
  rw [pre]
  have L0 : ((T ++ G).set ll (.lst (evs.map Ev.u ++ [e.u])))[ll]? = some (.lst (evs.map Ev.u ++ [e.u])) := by rw [gss, A.hl]; rfl
  have D0 : ((T ++ G).set ll (.lst (evs.map Ev.u ++ [e.u])))[x.r]? = some (.dic (encP t.ps)) := by rw [gsn (Ne.symm k3)]; exact get_app t3
  have G0 : ((T ++ G).set ll (.lst (evs.map Ev.u ++ [e.u])))[lg]? = some (.lst (g.map Go.u)) := by rw [gsn h.n3]; exact A.hg
  have N0 : ((T ++ G).set ll (.lst (evs.map Ev.u ++ [e.u])))[ln]? = T[ln]? := by rw [gsn (Ne.symm h.n1)]; rw [A.hn, h.hn]
  have F0 : ∀ i, i < T0.length → ((T ++ G).set ll (.lst (evs.map Ev.u ++ [e.u])))[i]? = T[i]? := fun i hi => by
    have := h.bl; have := h.le
    rw [gsn (by omega), List.getElem?_append_left (by omega)]
  have Y0 : ∀ y ∈ g, ((T ++ G).set ll (.lst (evs.map Ev.u ++ [e.u])))[y.r]? = T[y.r]? := fun y hy => by
    obtain ⟨⟨_, _, j3, _⟩, u, _, _, u3⟩ := h.go y hy
    rw [gsn (Ne.symm j3), u3]; exact get_app u3
  have Z0 : T.length ≤ ((T ++ G).set ll (.lst (evs.map Ev.u ++ [e.u]))).length := by simp
  have m1 : (evs ++ [e]).map Ev.u = evs.map Ev.u ++ [e.u] := by simp
  generalize (T ++ G).set ll (.lst (evs.map Ev.u ++ [e.u])) = T1 at L0 D0 G0 N0 F0 Y0 Z0 ⊢
  have hP : (g.map Go.u)[f.toNat]? = some (Go.u x) := by rw [List.getElem?_map, List.getElem?_eq_getElem hk, hX]; rfl
  have hpf : f < ((g.map Go.u).length : Int) := by rw [List.length_map]; exact q1
  cases e with
  | beg b => exact absurd rfl (nb b)
  | look b1 b2 b3 =>
    refine ⟨T1, a2, c2, .look b1 b2 b3, g, now, some (.int f), some (.int x.a), some (.tup (x.seen.map U.int)), some (.ref (x.r + 1 + 1)), ?_, h.ev t1 ea okE nb (List.Sublist.refl g) N0 (by rw [m1]; exact L0) G0 (fun y hy => ?_) F0 Z0 h.nw h.nwb, ha2, hc2⟩
    · simp only [Ev.u] at L0
      rwa [rEv2, rhoL, L0, x_neg, x_neg1, at_last, w_look_put, w_look_done, in_end, in_look]
    · rcases o1 y hy with rfl | z
      · refine .inl ⟨rfl, ?_, ?_⟩
        · simp only [Att.ev]; split <;> exact t2
        · rw [D0]; simp only [Att.ev]; split <;> rfl
      · exact .inr ⟨z.2, Y0 y hy⟩
  | put b1 b2 b3 =>
    refine ⟨T1.set x.r (.dic (encP (putG t.ps b2 b3))), a2, c2, .put b1 b2 b3, g, now, some (.int f), some (.int x.a), some (.tup (x.seen.map U.int)), some (.ref (x.r + 1 + 1)), ?_, h.ev t1 ea okE nb (List.Sublist.refl g) (by rw [gsn k2]; exact N0) (by rw [m1, gsn k3]; exact L0) (by rw [gsn k4]; exact G0) (fun y hy => ?_) (fun i hi => by rw [gsn (by omega)]; exact F0 i hi) (by simpa using Z0) h.nw h.nwb, ha2, hc2⟩
    · simp only [Ev.u] at L0
      have L1 : (T1.set x.r (.dic (encP (putG t.ps b2 b3))))[ll]? = some (.lst (evs.map Ev.u ++ [U.tup [.str "put", .int b1, .int b2, .int b3]])) := by rw [gsn k3]; exact L0
      rwa [rEv2, rhoL, L0, L1, D0, hPL, if_true, put_encP, x_neg, x_neg1, at_last, w_self, in_end, in_put]
    · rcases o1 y hy with rfl | z
      · exact .inl ⟨rfl, t2, by rw [gss, D0]; rfl⟩
      · exact .inr ⟨z.2, by rw [gsn (Ne.symm z.1)]; exact Y0 y hy⟩
  | fin d b1 =>
    have bb : ∀ z ∈ beh now t.ps 0, 0 ≤ z ∧ z < w := beh_bd h.nwb (fun p hp => (pb p hp).2) 0
    have sub : (g.eraseIdx f.toNat).Sublist g := List.eraseIdx_sublist ..
    cases d with
    | true =>
      have eP := putin_ok (S := scr ns :: pen a2 c2 :: T1) (r := x.r + 1 + 1) (ps := t.ps) (now := now) (by simp only [List.getElem?_cons_succ]; exact D0) (by have := h.nw; omega)
      have L1 : (T1 ++ [O.lst ((beh now t.ps 0).map U.int)])[ll]? = some (.lst (evs.map Ev.u ++ [U.tup [.str "done", .int b1]])) := get_app L0
      have G1 : (T1 ++ [O.lst ((beh now t.ps 0).map U.int)])[lg]? = some (.lst (g.map Go.u)) := get_app G0
      have gl : ∀ i, i < T.length → (T1 ++ [O.lst ((beh now t.ps 0).map U.int)])[i]? = T1[i]? := fun i hi => List.getElem?_append_left (by omega)
      refine ⟨(T1 ++ [O.lst ((beh now t.ps 0).map U.int)]).set lg (.lst ((g.map Go.u).eraseIdx f.toNat)), a2, c2, .fin true b1, g.eraseIdx f.toNat, beh now t.ps 0, some (.int f), some (.int x.a), some (.tup (x.seen.map U.int)), some (.ref (x.r + 1 + 1)), ?_, h.ev t1 ea okE nb sub (by rw [gsn (Ne.symm h.n2), gl _ (lt_of_get h.hn)]; exact N0) (by rw [m1, gsn (Ne.symm h.n3)]; exact L1) (by rw [gss, G1, map_erase]; rfl) (fun y hy => ?_) (fun i hi => ?_) (by simp; omega) (by rw [beh_len]; exact h.nw) bb, ha2, hc2⟩
      · simp only [Ev.u, endS, if_true] at L0
        rwa [rEv2, rhoL, L0, L1, G1, eP, x_neg, x_neg1, at_last, w_done_put, w_self, in_end, in_done, x_popAt, x_popAt1 p1 hpf hGL hP]
      · have hy' := sub.subset hy
        obtain ⟨z1, z2⟩ := o2 y hy
        obtain ⟨⟨_, _, _, j4, _⟩, u, _, _, u3⟩ := h.go y hy'
        exact .inr ⟨z2, by rw [gsn (Ne.symm j4), gl _ (lt_of_get u3)]; exact Y0 y hy'⟩
      · have := h.bg; have := h.le
        rw [gsn (by omega), gl i (by omega)]; exact F0 i hi
    | false =>
      refine ⟨T1.set lg (.lst ((g.map Go.u).eraseIdx f.toNat)), a2, c2, .fin false b1, g.eraseIdx f.toNat, now, some (.int f), some (.int x.a), some (.tup (x.seen.map U.int)), some (.ref (x.r + 1 + 1)), ?_, h.ev t1 ea okE nb sub (by rw [gsn (Ne.symm h.n2)]; exact N0) (by rw [m1, gsn (Ne.symm h.n3)]; exact L0) (by rw [gss, G0, map_erase]; rfl) (fun y hy => ?_) (fun i hi => ?_) (by simpa using Z0) h.nw h.nwb, ha2, hc2⟩
      · simp only [Ev.u, endS, Bool.false_eq_true, if_false] at L0
        rwa [rEv2, rhoL, L0, G0, x_neg, x_neg1, at_last, w_fall_put, w_fall_done, in_end, in_fall, x_popAt, x_popAt1 p1 hpf hGL hP]
      · have hy' := sub.subset hy
        obtain ⟨z1, z2⟩ := o2 y hy
        obtain ⟨⟨_, _, _, j4, _⟩, u, _, _, u3⟩ := h.go y hy'
        exact .inr ⟨z2, by rw [gsn (Ne.symm j4)]; exact Y0 y hy'⟩
      · have := h.bg; have := h.le
        rw [gsn (by omega)]; exact F0 i hi
end
end OQ
set_option maxHeartbeats 1000000
namespace OQ
open PySem PySem.Spec PyProof.Rows L2 OG OP
section
variable {n w : Int} {N : Nat} {T0 : Sto} {ln ll lg : Nat} {x2 x3 x4 : Option U}
theorem log_loop (ns : List Int) (n0 : 1 ≤ n) (n1 : n ≤ 6) (w0 : 2 ≤ w) (w1 : w ≤ 1000) (hN : N ≤ 100) : ∀ (us : List U) (T : Sto) (names : List Int) (evs : List Ev) (g : List Go) (now : List Int) (x9 x10 x11 x12 x13 : Option U) {a c : Int}, 0 ≤ a → 0 ≤ c → LgI n w N T0 T ln ll lg names evs g now → evs.length + us.length ≤ 1000 →
    ∃ (T' : Sto) (names' : List Int) (evs' : List Ev) (g' : List Go) (now' : List Int) (y9 y10 y11 y12 y13 : Option U) (a' c' : Int),
      loopU (fun _ => True) (gNm 9) (b__law_log_0 P_names P_take P_event P_putin) us (rhoL n w ln ll lg now x2 x3 x4 x9 x10 x11 x12 x13) (scr ns :: pen a c :: T)
        = some (.nx, rhoL n w ln ll lg now' x2 x3 x4 y9 y10 y11 y12 y13, scr ns :: pen a' c' :: T') ∧ LgI n w N T0 T' ln ll lg names' evs' g' now' ∧ evs'.length ≤ evs.length + us.length ∧ 0 ≤ a' ∧ 0 ≤ c'
  | [], T, names, evs, g, now, x9, x10, x11, x12, x13, a, c, ha, hc, I, hl => ⟨T, names, evs, g, now, x9, x10, x11, x12, x13, a, c, loop_nil trivial, I, by simp, ha, hc⟩
  | u :: us, T, names, evs, g, now, x9, x10, x11, x12, x13, a, c, ha, hc, I, hl => by
    rw [List.length_cons] at hl
    have key : ∃ (T1 : Sto) (names1 : List Int) (evs1 : List Ev) (g1 : List Go) (now1 : List Int) (z10 z11 z12 z13 : Option U) (a1 c1 : Int),
        b__law_log_0 P_names P_take P_event P_putin (rhoL n w ln ll lg now x2 x3 x4 (some u) x10 x11 x12 x13) (scr ns :: pen a c :: T) = some (.nx, rhoL n w ln ll lg now1 x2 x3 x4 (some u) z10 z11 z12 z13, scr ns :: pen a1 c1 :: T1) ∧ LgI n w N T0 T1 ln ll lg names1 evs1 g1 now1 ∧ evs1.length ≤ evs.length + 1 ∧ 0 ≤ a1 ∧ 0 ≤ c1 := by
      rw [b_log]
      have E1 := ne_nil true (S := scr ns :: pen a c :: (T ++ [.lst []])) (l := ln + 1 + 1) (l' := T.length + 1 + 1) (us := names.map U.int) (by simp only [List.getElem?_cons_succ]; exact get_app I.hn) (by simp only [List.getElem?_cons_succ, ga0]; rfl)
      have E2 : ∀ neg : Bool, fEqD neg (.ref (lg + 1 + 1)) (.ref (T.length + 1 + 1 + 1)) (scr ns :: pen a c :: (T ++ [.lst [], .lst []])) = some (.bl (if neg then !decide (g.map Go.u = []) else decide (g.map Go.u = [])), scr ns :: pen a c :: (T ++ [.lst [], .lst []])) := fun neg => ne_nil neg (by simp only [List.getElem?_cons_succ]; exact get_app I.hg) (by simp only [List.getElem?_cons_succ, ga]; rfl)
      have dG : decide (g.map Go.u = []) = decide (g = []) := by cases g <;> simp
      have dN : decide (names.map U.int = []) = decide (names = []) := by cases names <;> simp
      rw [dN] at E1
      rw [dG] at E2
      have sub : (scr ns :: pen a c :: (T ++ [.lst []])).length = T.length + 1 + 1 + 1 := by simp
      rcases List.eq_nil_or_concat names with rfl | ⟨names', a0, rfl⟩
      · by_cases gE : g = []
        · subst gE
          refine ⟨T ++ [.lst [], .lst []], [], evs, [], now, x10, x11, x12, x13, a, c, ?_, I.app _, by omega, ha, hc⟩
          rwa [rhoL, E1, E2, if_true, decide_true, List.length_append]
        · have J := I.app [.lst [], .lst []]
          obtain ⟨T', a', c', e, g', now', y10, y11, y12, y13, h1, h2, h3, h4⟩ := ev_ok (x2 := x2) (x3 := x3) (x4 := x4) (x9 := some u) (x10 := x10) (x11 := x11) (x12 := x12) (x13 := x13) ns ha hc n0 n1 w0 w1 J hN (by omega) gE
          refine ⟨T', _, _, _, _, y10, y11, y12, y13, a', c', ?_, h2, by simp, h3, h4⟩
          rw [← h1]
          rwa [rhoL, E1, E2, gE, if_true, decide_true, List.length_append]
      · have ne : names'.concat a0 ≠ [] := by simp
        by_cases gE : g = []
        · have J := I.app [.lst [], .lst []]
          rw [List.concat_eq_append] at J
          obtain ⟨T', h1, h2⟩ := beg_ok (x2 := x2) (x3 := x3) (x4 := x4) (x9 := some u) (x10 := x10) (x11 := x11) (x12 := x12) (x13 := x13) ns (a := a) (c := c) J hN (by omega)
          refine ⟨T', _, _, _, _, x10, x11, x12, x13, a, c, ?_, h2, by simp, ha, hc⟩
          rw [← h1]
          rwa [rhoL, E1, E2, ne, gE, if_true, decide_true, List.length_append, Bool.false_eq_true, if_false]
        · obtain ⟨f, a1, c1, e1, p1, q1, ha1, hc1⟩ := take_ok ns (T ++ [.lst [], .lst []]) (m := 4) ha hc (by decide) (by decide +kernel)
          by_cases fE : f = 0
          · have J := I.app [.lst [], .lst []]
            rw [List.concat_eq_append] at J
            obtain ⟨T', h1, h2⟩ := beg_ok (x2 := x2) (x3 := x3) (x4 := x4) (x9 := some u) (x10 := x10) (x11 := x11) (x12 := x12) (x13 := x13) ns (a := a1) (c := c1) J hN (by omega)
            refine ⟨T', _, _, _, _, x10, x11, x12, x13, a1, c1, ?_, h2, by simp, ha1, hc1⟩
            rw [← h1]
            rwa [rhoL, E1, E2, ne, gE, e1, fE, if_true, decide_true, List.length_append, Bool.false_eq_true, if_false]
          · have J := I.app [.lst [], .lst [], .lst []]
            have E3 : fEqD true (.ref (lg + 1 + 1)) (.ref (T.length + 1 + 1 + 1 + 1)) (scr ns :: pen a1 c1 :: (T ++ [.lst [], .lst [], .lst []])) = some (.bl true, scr ns :: pen a1 c1 :: (T ++ [.lst [], .lst [], .lst []])) := by
              have z := ne_nil true (S := scr ns :: pen a1 c1 :: (T ++ [.lst [], .lst [], .lst []])) (l := lg + 1 + 1) (l' := T.length + 1 + 1 + 1 + 1) (us := g.map Go.u) (by simp only [List.getElem?_cons_succ]; exact get_app I.hg) (by
                simp only [List.getElem?_cons_succ]
                rw [show T.length + 1 + 1 = T.length + 2 from rfl, ga]; rfl)
              rw [dG, decide_eq_false gE] at z
              exact z
            obtain ⟨T', a', c', e, g', now', y10, y11, y12, y13, h1, h2, h3, h4⟩ := ev_ok (x2 := x2) (x3 := x3) (x4 := x4) (x9 := some u) (x10 := x10) (x11 := x11) (x12 := x12) (x13 := x13) ns ha1 hc1 n0 n1 w0 w1 J hN (by omega) gE
            refine ⟨T', _, _, _, _, y10, y11, y12, y13, a', c', ?_, h2, by simp, h3, h4⟩
            rw [← h1]
            rwa [rhoL, E1, E2, E3, ne, gE, e1, fE, if_true, decide_true, List.length_append, Bool.false_eq_true, if_false]
    obtain ⟨T1, names1, evs1, g1, now1, z10, z11, z12, z13, a1, c1, h1, I1, l1, ha1, hc1⟩ := key
    obtain ⟨T', names', evs', g', now', y9, y10, y11, y12, y13, a', c', h2, I2, l2, ha2, hc2⟩ := log_loop ns n0 n1 w0 w1 hN us T1 names1 evs1 g1 now1 (some u) z10 z11 z12 z13 ha1 hc1 I1 (by omega)
    exact ⟨T', names', evs', g', now', y9, y10, y11, y12, y13, a', c', (loop_nx trivial rfl h1).trans h2, I2, by rw [List.length_cons]; omega, ha2, hc2⟩
end
noncomputable def P_log : Fn := fnU 14 5 (c__law_log P_names P_take P_event P_putin)
structure LogOk (n w : Int) (N : Nat) (evs : List Ev) : Prop where
  lo : LogF n w [] evs
  kd : (keysS (runE [] evs)).Nodup
  cnt : (runE [] evs).length ≤ N
  pb : ∀ a t, valG (runE [] evs) a = some t → t.ps.length ≤ evs.length ∧ ∀ p ∈ t.ps, (0 ≤ p.1 ∧ p.1 < n) ∧ 0 ≤ p.2 ∧ p.2 < w
theorem log_ok (ns : List Int) (T : Sto) {a c n w most size : Int} {state : List Int} (ha : 0 ≤ a) (hc : 0 ≤ c) (n0 : 1 ≤ n) (n1 : n ≤ 6) (w0 : 2 ≤ w) (w1 : w ≤ 1000) (hs : state.length = n.toNat) (bs : ∀ z ∈ state, 0 ≤ z ∧ z < w) (m0 : 0 ≤ most) (m1 : most ≤ 99) (s0 : 0 ≤ size) (s1 : size ≤ 900) :
    ∃ (evs : List Ev) (a' c' : Int) (G : Sto) (k : Nat), P_log [.ref 1, .tup [.int n, .int w], .tup (state.map U.int), .int most, .int size] (scr ns :: pen a c :: T) = some (.ref (T.length + k + 1 + 1), scr ns :: pen a' c' :: (T ++ G)) ∧ G[k]? = some (.lst (evs.map Ev.u)) ∧ LogOk n w most.toNat evs ∧ evs.length ≤ size.toNat ∧ 0 ≤ a' ∧ 0 ≤ c' := by
  unfold P_log
  rw [e__law_log]
  obtain ⟨f, a1, c1, e1, p1, q1, ha1, hc1⟩ := take_ok ns T (m := most + 1) ha hc (by omega) (l9 (by omega) (by omega))
  obtain ⟨left, names, a2, c2, e2, l2, d2, b2, ha2, hc2⟩ := names_ok ns T ha1 hc1 p1 (by omega)
  obtain ⟨h, a3, c3, e3, p3, q3, ha3, hc3⟩ := take_ok ns (T ++ [.lst (left.map U.int), .lst (names.map U.int), .lst [], .lst []]) (m := size + 1) ha2 hc2 (by omega) (l9 (by omega) (by omega))
  have I : LgI n w most.toNat T (T ++ [.lst (left.map U.int), .lst (names.map U.int), .lst [], .lst []]) (T.length + 1) (T.length + 2) (T.length + 3) names [] [] state :=
    { hn := ga, hl := ga, hg := ga, bn := by omega, bl := by omega, bg := by omega, n1 := by omega, n2 := by omega, n3 := by omega
      go := fun x hx => by cases hx
      gd := .nil, nd := d2, nb := fun x hx => ⟨(b2 x hx).1, (b2 x hx).2, by simp [runE, keysS]⟩, lo := trivial, kd := by simp [runE, keysS], cnt := by simp [runE]; omega, gl := by simp, nw := hs, nwb := bs
      pb := fun a t e => by simp [runE, valG] at e
      fr := fun i hi => List.getElem?_append_left hi, le := by simp }
  obtain ⟨T', names', evs', g', now', y9, y10, y11, y12, y13, a', c', e4, I4, l4, ha4, hc4⟩ := log_loop (x2 := some (.tup (state.map U.int))) (x3 := some (.int most)) (x4 := some (.int size)) ns n0 n1 w0 w1 (by omega) (rangeU 0 h.toNat) _ _ _ _ _ none none none none none ha3 hc3 I (by simp [rangeU]; omega)
  obtain ⟨G, rfl⟩ := fr_app (ls := []) I4.le I4.fr
  have hl := I4.hl
  rw [ga] at hl
  refine ⟨evs', a', c', G, 2, ?_, hl, ⟨I4.lo, I4.kd, by have := I4.cnt; omega, I4.pb⟩, by simp [rangeU] at l4; omega, ha4, hc4⟩
  have hr : -(2 ^ 62) ≤ h ∧ h < 2 ^ 62 := by omega
  simp only [rhoL] at e4
  rwa [c__law_log, e1, e2, e3, cFor, iRange1, hr, if_true, and_self, e4, List.length_append]
end OQ
set_option maxHeartbeats 1000000
namespace OQ
open PySem PySem.Spec PyProof.Rows L2 OG OP
section
variable {c : Cl} {B : Nat} {E L N P F E' : List (Key × U)} {X Y S : Sto} {k : Nat} {o : O}
def hd (c : Cl) (B : Nat) (E L N P F : List (Key × U)) : Sto := [.ins c [some (.ref (B + 1)), some (.ref (B + 2)), some (.ref (B + 3)), some (.ref (B + 4)), some (.ref (B + 5))], .dic E, .dic L, .dic N, .dic P, .dic F]
theorem hd0 : (S ++ (hd c B E L N P F ++ X))[S.length]? = some (.ins c [some (.ref (B + 1)), some (.ref (B + 2)), some (.ref (B + 3)), some (.ref (B + 4)), some (.ref (B + 5))]) := by rw [ga0]; rfl
theorem hd1 : (S ++ (hd c B E L N P F ++ X))[S.length + 1]? = some (.dic E) := by rw [ga]; rfl
theorem hd2 : (S ++ (hd c B E L N P F ++ X))[S.length + 2]? = some (.dic L) := by rw [ga]; rfl
theorem hd3 : (S ++ (hd c B E L N P F ++ X))[S.length + 3]? = some (.dic N) := by rw [ga]; rfl
theorem hd4 : (S ++ (hd c B E L N P F ++ X))[S.length + 4]? = some (.dic P) := by rw [ga]; rfl
theorem hd5 : (S ++ (hd c B E L N P F ++ X))[S.length + 5]? = some (.dic F) := by rw [ga]; rfl
theorem hs1 : (S ++ (hd c B E L N P F ++ X)).set (S.length + 1) (.dic E') = S ++ (hd c B E' L N P F ++ X) := by rw [gs]; rfl
theorem hs2 : (S ++ (hd c B E L N P F ++ X)).set (S.length + 2) (.dic E') = S ++ (hd c B E E' N P F ++ X) := by rw [gs]; rfl
theorem hs3 : (S ++ (hd c B E L N P F ++ X)).set (S.length + 3) (.dic E') = S ++ (hd c B E L E' P F ++ X) := by rw [gs]; rfl
theorem hs4 : (S ++ (hd c B E L N P F ++ X)).set (S.length + 4) (.dic E') = S ++ (hd c B E L N E' F ++ X) := by rw [gs]; rfl
theorem hs5 : (S ++ (hd c B E L N P F ++ X)).set (S.length + 5) (.dic E') = S ++ (hd c B E L N P E' ++ X) := by rw [gs]; rfl
theorem hlen : (S ++ (hd c B E L N P F ++ X)).length = S.length + (6 + X.length) := by simp [hd]; omega
theorem hgx : (S ++ (hd c B E L N P F ++ X))[S.length + (6 + k)]? = X[k]? := by
  rw [ga, List.getElem?_append_right (by simp [hd])]
  congr 1
  simp [hd]
theorem hsx : (S ++ (hd c B E L N P F ++ X)).set (S.length + (6 + k)) o = S ++ (hd c B E L N P F ++ X.set k o) := by
  rw [gs, List.set_append_right _ _ (by simp [hd])]
  congr 3
  simp [hd]
theorem happ : S ++ (hd c B E L N P F ++ X) ++ Y = S ++ (hd c B E L N P F ++ (X ++ Y)) := by simp only [List.append_assoc]
end
def enS : Option Bool → Str
  | none => "open"
  | some d => endS d
def encE (st : St) : List (Key × U) := st.map fun p => (.inl p.1, .str (enS p.2.en))
def encR (B j : Nat) (st : St) (i : Nat) : List (Key × U) := match st with
  | [] => []
  | p :: r => (.inl p.1, .ref (B + (6 + (4 * i + j)))) :: encR B j r (i + 1)
def encN (nd : List (Int × Int)) : List (List Key × U) := nd.map fun p => ([.inl p.1, .inl p.2], .bl true)
def blk (t : Att) : Sto := [.lst (t.bf.map U.int), .lst (t.lk.map pU), .dit (encN t.nd), .dic (encP t.ps)]
def blks : St → Sto
  | [] => []
  | p :: r => blk p.2 ++ blks r
def crs (c : Cl) (S : Sto) (st : St) : Sto := S ++ (hd c S.length (encE st) (encR S.length 1 st 0) (encR S.length 2 st 0) (encR S.length 3 st 0) (encR S.length 0 st 0) ++ blks st)
theorem blks_len : ∀ st : St, (blks st).length = 4 * st.length
  | [] => rfl
  | p :: r => by rw [blks, List.length_append, blks_len r, List.length_cons]; simp [blk]; omega
theorem blks_app : ∀ s r : St, blks (s ++ r) = blks s ++ blks r
  | [], r => rfl
  | p :: s, r => by rw [List.cons_append, blks, blks, blks_app s r, List.append_assoc]
theorem encR_app {B j : Nat} : ∀ (s r : St) (i : Nat), encR B j (s ++ r) i = encR B j s i ++ encR B j r (i + s.length)
  | [], r, i => rfl
  | p :: s, r, i => by
    rw [List.cons_append, encR, encR, encR_app s r (i + 1), List.cons_append, List.length_cons]
    congr 3
    omega
theorem encR_keys {B j : Nat} : ∀ (s : St) (i : Nat), (encR B j s i).map (·.1) = (keysS s).map Sum.inl
  | [], i => rfl
  | p :: s, i => by rw [encR, List.map_cons, encR_keys s (i + 1)]; rfl
theorem encE_keys {s : St} : (encE s).map (·.1) = (keysS s).map Sum.inl := by
  unfold encE keysS; rw [List.map_map, List.map_map]; rfl
theorem inl_not {ks : List Int} {a : Int} (h : a ∉ ks) : (Sum.inl a : Key) ∉ ks.map Sum.inl := fun z => by
  obtain ⟨b, hb, e⟩ := List.mem_map.mp z
  cases e
  exact h hb
theorem valG_skip {κ α : Type} [DecidableEq κ] {ps qs : List (κ × α)} {k : κ} {v : α} (h : k ∉ ps.map (·.1)) : valG (ps ++ (k, v) :: qs) k = some v := by
  rw [valG_app, valG_none.mpr h]
  simp [valG]
theorem putG_new {κ α : Type} [DecidableEq κ] {ps : List (κ × α)} {k : κ} {v : α} (h : k ∉ ps.map (·.1)) : putG ps k v = ps ++ [(k, v)] := by
  unfold putG
  rw [if_neg]
  simp only [List.any_eq_true, decide_eq_true_eq, not_exists, not_and]
  intro p hp e
  exact h (List.mem_map.mpr ⟨p, hp, e⟩)
theorem putG_old {κ α : Type} [DecidableEq κ] {ps qs : List (κ × α)} {k : κ} {v v' : α} (h : (ps ++ (k, v) :: qs).map (·.1) |>.Nodup) : putG (ps ++ (k, v) :: qs) k v' = ps ++ (k, v') :: qs := by
  unfold putG
  rw [if_pos (by simp)]
  rw [List.map_append, List.map_cons] at h
  have h1 := List.nodup_append.mp h
  have h2 := List.nodup_cons.mp h1.2.1
  have keep : ∀ {l : List (κ × α)}, k ∉ l.map (·.1) → (l.map fun p => if p.1 = k then (p.1, v') else p) = l := fun {l} hl => by
    rw [List.map_congr_left (g := id) fun p hp => ?_, List.map_id]
    rw [if_neg fun e => hl (List.mem_map.mpr ⟨p, hp, e⟩)]; rfl
  rw [List.map_append, List.map_cons]
  rw [keep fun z => h1.2.2 k z k List.mem_cons_self rfl, keep h2.1, if_pos rfl]
section
variable {c : Cl} {S : Sto} {s1 s2 st : St} {a : Int} {t t' : Att}
theorem nd_left (h : (keysS (s1 ++ (a, t) :: s2)).Nodup) : a ∉ keysS s1 := fun z => by
  unfold keysS at h z
  rw [List.map_append, List.map_cons] at h
  exact (List.nodup_append.mp h).2.2 a z a List.mem_cons_self rfl
theorem val_encR {j : Nat} (h : (keysS (s1 ++ (a, t) :: s2)).Nodup) : valG (encR S.length j (s1 ++ (a, t) :: s2) 0) (.inl a) = some (.ref (S.length + (6 + (4 * s1.length + j)))) := by
  rw [encR_app, encR, Nat.zero_add]
  exact valG_skip (by rw [encR_keys]; exact inl_not (nd_left h))
theorem val_encE (h : (keysS (s1 ++ (a, t) :: s2)).Nodup) : valG (encE (s1 ++ (a, t) :: s2)) (.inl a) = some (.str (enS t.en)) := by
  have e : encE (s1 ++ (a, t) :: s2) = encE s1 ++ (Sum.inl a, U.str (enS t.en)) :: encE s2 := by unfold encE; rw [List.map_append, List.map_cons]
  rw [e]
  exact valG_skip (by rw [encE_keys]; exact inl_not (nd_left h))
theorem encR_same {j : Nat} : encR S.length j (s1 ++ (a, t) :: s2) 0 = encR S.length j (s1 ++ (a, t') :: s2) 0 := by
  rw [encR_app, encR_app]; rfl
theorem encE_same (h : t.en = t'.en) : encE (s1 ++ (a, t) :: s2) = encE (s1 ++ (a, t') :: s2) := by
  unfold encE; rw [List.map_append, List.map_cons, List.map_append, List.map_cons, h]
theorem put_encE {d : Bool} (h : (keysS (s1 ++ (a, t) :: s2)).Nodup) (e : t'.en = some d) : putG (encE (s1 ++ (a, t) :: s2)) (.inl a) (.str (endS d)) = encE (s1 ++ (a, t') :: s2) := by
  have e1 : ∀ t : Att, encE (s1 ++ (a, t) :: s2) = encE s1 ++ (Sum.inl a, U.str (enS t.en)) :: encE s2 := fun t => by unfold encE; rw [List.map_append, List.map_cons]
  rw [e1, e1, e]
  refine putG_old ?_
  rw [← e1, encE_keys]
  exact List.Pairwise.map _ (fun a b h e => h (by cases e; rfl)) h
theorem blk_get {j : Nat} (hj : j < 4) : (blks (s1 ++ (a, t) :: s2))[4 * s1.length + j]? = (blk t)[j]? := by
  rw [blks_app, blks, List.getElem?_append_right (by rw [blks_len]; omega), blks_len, Nat.add_sub_cancel_left, List.getElem?_append_left (by simp [blk]; omega)]
theorem blk_set {j : Nat} {o : O} (hj : j < 4) (h : (blk t).set j o = blk t') : (blks (s1 ++ (a, t) :: s2)).set (4 * s1.length + j) o = blks (s1 ++ (a, t') :: s2) := by
  rw [blks_app, blks_app, blks, blks, List.set_append_right _ _ (by rw [blks_len]; omega), blks_len, Nat.add_sub_cancel_left, List.set_append_left _ _ (by simp [blk]; omega), h]
theorem crs_get {j : Nat} (hj : j < 4) : (crs c S (s1 ++ (a, t) :: s2))[S.length + (6 + (4 * s1.length + j))]? = (blk t)[j]? := by
  unfold crs; rw [hgx, blk_get hj]
theorem crs_set {j : Nat} {o : O} (hj : j < 4) (he : t.en = t'.en) (h : (blk t).set j o = blk t') : (crs c S (s1 ++ (a, t) :: s2)).set (S.length + (6 + (4 * s1.length + j))) o = crs c S (s1 ++ (a, t') :: s2) := by
  unfold crs
  rw [hsx, blk_set hj h, encE_same he]
  simp only [encR_same (t := t) (t' := t')]
theorem crs_end {d : Bool} (h : (keysS (s1 ++ (a, t) :: s2)).Nodup) : (crs c S (s1 ++ (a, t) :: s2)).set (S.length + 1) (.dic (putG (encE (s1 ++ (a, t) :: s2)) (.inl a) (.str (endS d)))) = crs c S (s1 ++ (a, { t with en := some d }) :: s2) := by
  unfold crs
  rw [hs1, put_encE (t' := { t with en := some d }) h rfl]
  simp only [encR_same (t := t) (t' := { t with en := some d })]
  congr 2
  rw [blks_app, blks_app]; rfl
theorem upd_split {f : Att → Att} (h : (keysS (s1 ++ (a, t) :: s2)).Nodup) : updA (s1 ++ (a, t) :: s2) a f = s1 ++ (a, f t) :: s2 := by
  have h0 := h
  unfold keysS at h
  rw [List.map_append, List.map_cons] at h
  have h1 := List.nodup_append.mp h
  have h2 := List.nodup_cons.mp h1.2.1
  unfold updA
  have keep : ∀ {l : St}, a ∉ l.map (·.1) → (l.map fun p => if p.1 = a then (p.1, f p.2) else p) = l := fun {l} hl => by
    rw [List.map_congr_left (g := id) fun p hp => ?_, List.map_id]
    rw [if_neg fun e => hl (List.mem_map.mpr ⟨p, hp, e⟩)]; rfl
  rw [List.map_append, List.map_cons, keep fun z => h1.2.2 a z a List.mem_cons_self rfl, keep h2.1, if_pos rfl]
theorem split_val {st : St} (h : valG st a = some t) : ∃ s1 s2, st = s1 ++ (a, t) :: s2 := List.append_of_mem (valG_mem h)
theorem x_fld0 {i : Nat} {u : U} {fus : List (Option U)} {Z : Sto} {l : Nat} (h : Z[l]? = some (.ins c fus)) (hu : fus[i]? = some (some u)) : kFld c i (.ref l, Z) = some (u, Z) := by
  rw [x_fld1, h, x_fld2, hu]; rfl
theorem x_sit {co cv : CE} {cr : CA} {ρ : Rho} {Z Z1 Z2 Z3 : Sto} {u : U} {l : Nat} {us : List U} {ks : List Key} {kus : List (List Key × U)} (h1 : cv ρ Z = some (u, Z1)) (h2 : co ρ Z1 = some (.ref l, Z2)) (h3 : cr ρ Z2 = some (us, Z3)) (h4 : Z3[l]? = some (.dit kus)) (h5 : tkey us = some ks) (h6 : kus.length < LIM) (h7 : us.length ≤ LIM) :
    cSetIxT co cr cv ρ Z = some (.nx, ρ, Z3.set l (.dit (putG kus ks u))) := by
  unfold cSetIxT
  rw [h1, Option.bind_some, h2, Option.bind_some, h3, Option.bind_some]
  simp only [h4, h5, Option.bind_some]
  rw [if_pos ⟨h6, h7⟩]
theorem put_encN (nd : List (Int × Int)) (b x : Int) : putG (encN nd) [.inl b, .inl x] (.bl true) = encN (addP nd (b, x)) := by
  have kk : ∀ p : Int × Int, ([Sum.inl p.1, Sum.inl p.2] : List Key) = [.inl b, .inl x] ↔ p = (b, x) := fun p => by
    obtain ⟨p1, p2⟩ := p
    simp
  unfold putG addP
  have ha : ((encN nd).any fun kv => decide (kv.1 = [Sum.inl b, Sum.inl x])) = decide ((b, x) ∈ nd) := by
    unfold encN
    induction nd with
    | nil => rfl
    | cons p r ih =>
      simp only [List.map_cons, List.any_cons, ih, List.mem_cons, kk]
      by_cases e : p = (b, x)
      · simp [e]
      · simp [e, Ne.symm e]
  rw [ha]
  by_cases m : (b, x) ∈ nd
  · rw [if_pos (decide_eq_true m), if_pos m]
    unfold encN
    rw [List.map_map]
    refine List.map_congr_left fun p _ => ?_
    simp only [Function.comp]
    split <;> simp_all
  · rw [if_neg (by simpa using m), if_neg m]
    simp [encN]
noncomputable def P_note (c : Cl) : Fn := fnU 4 4 (c_Course_note_look c)
theorem note_ok {b x : Int} (h : (keysS (s1 ++ (a, t) :: s2)).Nodup) (hl : t.lk.length ≤ 10000) (hn : t.nd.length ≤ 10000) : P_note c [.ref S.length, .int a, .int b, .int x] (crs c S (s1 ++ (a, t) :: s2)) = some (.non, crs c S (s1 ++ (a, t.ev (.look a b x)) :: s2)) := by
  unfold P_note
  rw [e_Course_note_look]
  have g3 := crs_get (c := c) (S := S) (s1 := s1) (s2 := s2) (a := a) (t := t) (j := 3) (by omega)
  have g1 := crs_get (c := c) (S := S) (s1 := s1) (s2 := s2) (a := a) (t := t) (j := 1) (by omega)
  have v1 := val_encR (S := S) (j := 1) h
  have v2 := val_encR (S := S) (j := 2) h
  have v3 := val_encR (S := S) (j := 3) h
  have f0 : ∀ st : St, (crs c S st)[S.length]? = some (.ins c [some (.ref (S.length + 1)), some (.ref (S.length + 2)), some (.ref (S.length + 3)), some (.ref (S.length + 4)), some (.ref (S.length + 5))]) := fun st => hd0
  have f2 : ∀ st : St, (crs c S st)[S.length + 2]? = some (.dic (encR S.length 1 st 0)) := fun st => hd2
  have f3 : ∀ st : St, (crs c S st)[S.length + 3]? = some (.dic (encR S.length 2 st 0)) := fun st => hd3
  have f4 : ∀ st : St, (crs c S st)[S.length + 4]? = some (.dic (encR S.length 3 st 0)) := fun st => hd4
  have F1 : ∀ st : St, kFld c 1 (.ref S.length, crs c S st) = some (.ref (S.length + 2), crs c S st) := fun st => x_fld0 (f0 st) rfl
  have F2 : ∀ st : St, kFld c 2 (.ref S.length, crs c S st) = some (.ref (S.length + 3), crs c S st) := fun st => x_fld0 (f0 st) rfl
  have F3 : ∀ st : St, kFld c 3 (.ref S.length, crs c S st) = some (.ref (S.length + 4), crs c S st) := fun st => x_fld0 (f0 st) rfl
  have g3' : (crs c S (s1 ++ (a, t) :: s2))[S.length + (6 + (4 * s1.length + 3))]? = some (.dic (encP t.ps)) := g3
  have g1' : (crs c S (s1 ++ (a, t) :: s2))[S.length + (6 + (4 * s1.length + 1))]? = some (.lst (t.lk.map pU)) := g1
  cases hv : valG t.ps b with
  | some y =>
    have e : t.ev (.look a b x) = t := by simp [Att.ev, hv]
    rw [e]
    rwa [c_Course_note_look, F3, f4, v3, g3', val_encP, hv, Option.map_some, Option.isSome_some, if_true]
  | none =>
    have e : t.ev (.look a b x) = { t with lk := t.lk ++ [(b, x)], nd := addP t.nd (b, x) } := by simp [Att.ev, hv]
    rw [e]
    have hL : (t.lk.map pU).length < LIM := by unfold LIM; rw [List.length_map]; omega
    have s1' := crs_set (c := c) (S := S) (s1 := s1) (s2 := s2) (a := a) (t := t) (t' := { t with lk := t.lk ++ [(b, x)] }) (j := 1) (o := .lst (t.lk.map pU ++ [pU (b, x)])) (by omega) rfl (by unfold blk; rw [List.map_append]; rfl)
    have h' : (keysS (s1 ++ (a, ({ t with lk := t.lk ++ [(b, x)] } : Att)) :: s2)).Nodup := by unfold keysS at h ⊢; rw [List.map_append, List.map_cons] at h ⊢; exact h
    have v2' := val_encR (S := S) (j := 2) h'
    have g2 := crs_get (c := c) (S := S) (s1 := s1) (s2 := s2) (a := a) (t := { t with lk := t.lk ++ [(b, x)] }) (j := 2) (by omega)
    have g2' : (crs c S (s1 ++ (a, ({ t with lk := t.lk ++ [(b, x)] } : Att)) :: s2))[S.length + (6 + (4 * s1.length + 2))]? = some (.dit (encN t.nd)) := g2
    have s2' := crs_set (c := c) (S := S) (s1 := s1) (s2 := s2) (a := a) (t := { t with lk := t.lk ++ [(b, x)] }) (t' := { t with lk := t.lk ++ [(b, x)], nd := addP t.nd (b, x) }) (j := 2) (o := .dit (encN (addP t.nd (b, x)))) (by omega) rfl rfl
    have e3 : cSetIxT (cOp fIx (cFld c 2 (cVar 0)) (cVar 1)) (cCons (cVar 2) (cCons (cVar 3) cNil)) (cC (.bl true)) [some (.ref S.length), some (.int a), some (.int b), some (.int x)] (crs c S (s1 ++ (a, ({ t with lk := t.lk ++ [(b, x)] } : Att)) :: s2)) = some (.nx, [some (.ref S.length), some (.int a), some (.int b), some (.int x)], crs c S (s1 ++ (a, ({ t with lk := t.lk ++ [(b, x)], nd := addP t.nd (b, x) } : Att)) :: s2)) := by
      rw [x_sit (u := .bl true) (us := [.int b, .int x]) (ks := [.inl b, .inl x]) (kus := encN t.nd) (l := S.length + (6 + (4 * s1.length + 2))) (Z1 := crs c S (s1 ++ (a, ({ t with lk := t.lk ++ [(b, x)] } : Att)) :: s2)) (Z2 := crs c S (s1 ++ (a, ({ t with lk := t.lk ++ [(b, x)] } : Att)) :: s2)) (Z3 := crs c S (s1 ++ (a, ({ t with lk := t.lk ++ [(b, x)] } : Att)) :: s2)) rfl ?_ rfl g2' rfl (by unfold LIM encN; rw [List.length_map]; omega) (by unfold LIM; simp), put_encN, s2']
      rwa [F2, f3, v2']
    have pu : pU (b, x) = .tup [.int b, .int x] := rfl
    rw [pu] at s1'
    rwa [c_Course_note_look, F1, F3, f2, f4, v1, v3, g1', g3', val_encP, hv, x_app1 hL, s1', e3, Option.map_none, Option.isSome_none, Bool.false_eq_true, if_true, if_false]
end
end OQ
set_option maxHeartbeats 1000000
namespace OQ
open PySem PySem.Spec PyProof.Rows L2 OG OP
section
variable {c : Cl} {S : Sto} {s1 s2 st : St} {a : Int} {t t' : Att}
theorem en_open {o : Option Bool} : decide (enS o = ("open" : Str)) = !o.isSome := by
  cases o with
  | none => exact decide_eq_true rfl
  | some d => cases d <;> (simp only [enS, endS, if_true, if_false, Bool.false_eq_true]; decide +kernel)
theorem bf_loop {ep : Nat} {E L N P F : List (Key × U)} {X : Sto} (hE : E = encE st) (hk : (keysS st).Nodup) : ∀ (p r : St) (r0 : Option U) (ys : List Int), st = p ++ r → ys.length + r.length ≤ 1000 →
    compIfU (fun S' => S'[S.length + 1]? = some (.fdc ep E)) (gNm 0) (cTest (cOp fNe (cOp fIx (cFld c 0 (cVar 1)) (cVar 0)) (cC (.str "open")))) (cVar 0) (S.length + (6 + X.length)) ((encE r).map fun q => kU q.1) [r0, some (.ref S.length)] ((S ++ (hd c S.length E L N P F ++ X)).set (S.length + 1) (.fdc ep E) ++ [.lst (ys.map U.int)])
      = some ((S ++ (hd c S.length E L N P F ++ X)).set (S.length + 1) (.fdc ep E) ++ [.lst ((ys ++ (r.filter fun p => p.2.en.isSome).map (·.1)).map U.int)])
  | p, [], r0, ys, e, hl => by
    have ok : ((S ++ (hd c S.length E L N P F ++ X)).set (S.length + 1) (.fdc ep E) ++ [O.lst (ys.map U.int)])[S.length + 1]? = some (.fdc ep E) := get_app (by rw [gss, hd1]; rfl)
    simp only [List.filter_nil, List.map_nil, List.append_nil]
    exact compIf_nil ok
  | p, (b, t) :: r, r0, ys, e, hl => by
    have hk' : (keysS (p ++ (b, t) :: r)).Nodup := by rw [← e]; exact hk
    have ok : ∀ ys : List Int, ((S ++ (hd c S.length E L N P F ++ X)).set (S.length + 1) (.fdc ep E) ++ [O.lst (ys.map U.int)])[S.length + 1]? = some (.fdc ep E) := fun ys => get_app (by rw [gss, hd1]; rfl)
    have i0 : ((S ++ (hd c S.length E L N P F ++ X)).set (S.length + 1) (.fdc ep E) ++ [O.lst (ys.map U.int)])[S.length]? = some (.ins c [some (.ref (S.length + 1)), some (.ref (S.length + 2)), some (.ref (S.length + 3)), some (.ref (S.length + 4)), some (.ref (S.length + 5))]) := get_app (by rw [gsn (by omega), hd0])
    have F0 : kFld c 0 (.ref S.length, (S ++ (hd c S.length E L N P F ++ X)).set (S.length + 1) (.fdc ep E) ++ [O.lst (ys.map U.int)]) = some (.ref (S.length + 1), (S ++ (hd c S.length E L N P F ++ X)).set (S.length + 1) (.fdc ep E) ++ [O.lst (ys.map U.int)]) := x_fld0 i0 rfl
    have vE : valG E (.inl b) = some (.str (enS t.en)) := by rw [hE, e]; exact val_encE hk'
    have kk : kU (Sum.inl b) = .int b := rfl
    have tst0 : ∀ Z : Sto, kFld c 0 (.ref S.length, Z) = some (.ref (S.length + 1), Z) → Z[S.length + 1]? = some (.fdc ep E) → (cTest (cOp fNe (cOp fIx (cFld c 0 (cVar 1)) (cVar 0)) (cC (.str "open")))) [some (.int b), some (.ref S.length)] Z = some (t.en.isSome, Z) := fun Z z1 z2 => by
      have z : (!decide (enS t.en = ("open" : Str))) = t.en.isSome := by rw [en_open, Bool.not_not]
      rwa [z1, z2, x_ixf, vE, z]
    have tst := tst0 _ F0 (ok ys)
    have ln : ((S ++ (hd c S.length E L N P F ++ X)).set (S.length + 1) (.fdc ep E)).length = S.length + (6 + X.length) := by rw [List.length_set, hlen]
    simp only [encE, List.map_cons, kk]
    cases hs : t.en.isSome with
    | false =>
      have ih := bf_loop (ep := ep) (L := L) (N := N) (P := P) (F := F) (X := X) hE hk (p ++ [(b, t)]) r (some (.int b)) ys (by rw [e]; simp) (by simp at hl ⊢; omega)
      refine (compIf_no (ok ys) rfl (by rw [← hs]; exact tst)).trans ?_
      rw [List.filter_cons_of_neg (by simpa using hs)]
      exact ih
    | true =>
      have ih := bf_loop (ep := ep) (L := L) (N := N) (P := P) (F := F) (X := X) hE hk (p ++ [(b, t)]) r (some (.int b)) (ys ++ [b]) (by rw [e]; simp) (by simp at hl ⊢; omega)
      refine (compIf_yes (x := .int b) (ys := ys.map U.int) (ok ys) rfl (by rw [← hs]; exact tst) rfl (by rw [← ln, ga0]; rfl) (by unfold LIM; simp at hl ⊢; omega)).trans ?_
      rw [List.filter_cons_of_pos (by simpa using hs)]
      have e5 : ((S ++ (hd c S.length E L N P F ++ X)).set (S.length + 1) (.fdc ep E) ++ [O.lst (ys.map U.int)]).set (S.length + (6 + X.length)) (.lst (ys.map U.int ++ [U.int b])) = (S ++ (hd c S.length E L N P F ++ X)).set (S.length + 1) (.fdc ep E) ++ [.lst ((ys ++ [b]).map U.int)] := by
        rw [← ln, gs0, List.map_append]; rfl
      rw [e5]
      refine ih.trans ?_
      simp
theorem bf_ok (hk : (keysS st).Nodup) (hl : st.length ≤ 900) (x1 : Option U) : cCompIfD (cFld c 0 (cVar 0)) (gNm 0) (cTest (cOp fNe (cOp fIx (cFld c 0 (cVar 1)) (cVar 0)) (cC (.str "open")))) (cVar 0) 1 [0] [some (.ref S.length), x1] (crs c S st) = some (.ref (S.length + (6 + 4 * st.length)), crs c S st ++ [.lst ((att0 st).bf.map U.int)]) := by
  have i0 : (crs c S st)[S.length]? = some (.ins c [some (.ref (S.length + 1)), some (.ref (S.length + 2)), some (.ref (S.length + 3)), some (.ref (S.length + 4)), some (.ref (S.length + 5))]) := hd0
  have F0 : kFld c 0 (.ref S.length, crs c S st) = some (.ref (S.length + 1), crs c S st) := x_fld0 i0 rfl
  have ce : cFld c 0 (cVar 0) [some (.ref S.length), x1] (crs c S st) = some (.ref (S.length + 1), crs c S st) := by rwa [F0]
  have ln : (crs c S st).length = S.length + (6 + 4 * st.length) := by unfold crs; rw [hlen, blks_len]
  have f1 : (crs c S st)[S.length + 1]? = some (.dic (encE st)) := hd1
  unfold cCompIfD cWalkD
  rw [ce, Option.bind_some]
  simp only [f1]
  refine uni_of fun ep => ?_
  have h := bf_loop (c := c) (S := S) (ep := ep) (L := encR S.length 1 st 0) (N := encR S.length 2 st 0) (P := encR S.length 3 st 0) (F := encR S.length 0 st 0) (X := blks st) rfl hk [] st none [] rfl (by simp; omega)
  have e1 : rhoC 1 [0] [some (.ref S.length), x1] = [none, some (.ref S.length)] := rfl
  rw [blks_len] at h
  rw [e1, ln]
  simp only [List.map_nil, List.nil_append] at h
  have h' : compIfU (fun S' => S'[S.length + 1]? = some (.fdc ep (encE st))) (gNm 0) (cTest (cOp fNe (cOp fIx (cFld c 0 (cVar 1)) (cVar 0)) (cC (.str "open")))) (cVar 0) (S.length + (6 + 4 * st.length)) ((encE st).map fun q => kU q.1) [none, some (.ref S.length)] ((crs c S st).set (S.length + 1) (.fdc ep (encE st)) ++ [.lst []]) = some ((crs c S st).set (S.length + 1) (.fdc ep (encE st)) ++ [.lst ((att0 st).bf.map U.int)]) := h
  rw [h', Option.bind_some]
  have g : ((crs c S st).set (S.length + 1) (.fdc ep (encE st)) ++ [O.lst ((att0 st).bf.map U.int)])[S.length + 1]? = some (.fdc ep (encE st)) := get_app (by rw [gss, f1]; rfl)
  simp only [g]
  have hlt : S.length + 1 < (crs c S st).length := by omega
  rw [List.set_append_left _ _ (by simpa using hlt), List.set_set]
  congr 3
  unfold crs
  rw [hs1]
def hc (c : Cl) (S : Sto) (E L N P F : List (Key × U)) (X : Sto) : Sto := S ++ (hd c S.length E L N P F ++ X)
section
variable {E L N P F E' : List (Key × U)} {X Y : Sto}
theorem hc0 : (hc c S E L N P F X)[S.length]? = some (.ins c [some (.ref (S.length + 1)), some (.ref (S.length + 2)), some (.ref (S.length + 3)), some (.ref (S.length + 4)), some (.ref (S.length + 5))]) := hd0
theorem hc1 : (hc c S E L N P F X)[S.length + 1]? = some (.dic E) := hd1
theorem hc2 : (hc c S E L N P F X)[S.length + 2]? = some (.dic L) := hd2
theorem hc3 : (hc c S E L N P F X)[S.length + 3]? = some (.dic N) := hd3
theorem hc4 : (hc c S E L N P F X)[S.length + 4]? = some (.dic P) := hd4
theorem hc5 : (hc c S E L N P F X)[S.length + 5]? = some (.dic F) := hd5
theorem ht1 : (hc c S E L N P F X).set (S.length + 1) (.dic E') = hc c S E' L N P F X := hs1
theorem ht2 : (hc c S E L N P F X).set (S.length + 2) (.dic E') = hc c S E E' N P F X := hs2
theorem ht3 : (hc c S E L N P F X).set (S.length + 3) (.dic E') = hc c S E L E' P F X := hs3
theorem ht4 : (hc c S E L N P F X).set (S.length + 4) (.dic E') = hc c S E L N E' F X := hs4
theorem ht5 : (hc c S E L N P F X).set (S.length + 5) (.dic E') = hc c S E L N P E' X := hs5
theorem hcl : (hc c S E L N P F X).length = S.length + (6 + X.length) := hlen
theorem hcA : hc c S E L N P F X ++ Y = hc c S E L N P F (X ++ Y) := happ
end
noncomputable def P_center (c : Cl) : Fn := fnU 2 2 (c_Course_enter c)
theorem encR_snoc {B j : Nat} {p : Int × Att} : encR B j (st ++ [p]) 0 = encR B j st 0 ++ [(.inl p.1, .ref (B + (6 + (4 * st.length + j))))] := by
  rw [encR_app, encR, Nat.zero_add]; rfl
theorem encR_len {B j : Nat} : ∀ (s : St) (i : Nat), (encR B j s i).length = s.length
  | [], _ => rfl
  | p :: s, i => by rw [encR, List.length_cons, encR_len s (i + 1), List.length_cons]
theorem center_ok (hk : (keysS st).Nodup) (ha : a ∉ keysS st) (hl : st.length ≤ 900) : P_center c [.ref S.length, .int a] (crs c S st) = some (.non, crs c S (st ++ [(a, att0 st)])) := by
  unfold P_center
  rw [e_Course_enter]
  have B0 := bf_ok (c := c) (S := S) hk hl (some (.int a))
  have pr : ∀ j, putG (encR S.length j st 0) (.inl a) (.ref (S.length + (6 + (4 * st.length + j)))) = encR S.length j (st ++ [(a, att0 st)]) 0 := fun j => by
    rw [putG_new (by rw [encR_keys]; exact inl_not ha), encR_snoc]
  have pe : putG (encE st) (.inl a) (.str "open") = encE (st ++ [(a, att0 st)]) := by
    rw [putG_new (by rw [encE_keys]; exact inl_not ha)]
    unfold encE; rw [List.map_append]; rfl
  have lR : ∀ j, (encR S.length j st 0).length < LIM := fun j => by rw [encR_len]; unfold LIM; omega
  have lE : (encE st).length < LIM := by unfold encE LIM; rw [List.length_map]; omega
  have l0 : (blks st).length = 4 * st.length := blks_len st
  have l1 : ∀ o : O, (blks st ++ [o]).length = 4 * st.length + 1 := fun o => by rw [List.length_append, l0]; rfl
  have l2 : ∀ o o' : O, (blks st ++ [o, o']).length = 4 * st.length + 2 := fun o o' => by rw [List.length_append, l0]; rfl
  have l3 : ∀ o o' o'' : O, (blks st ++ [o, o', o'']).length = 4 * st.length + 3 := fun o o' o'' => by rw [List.length_append, l0]; rfl
  have F0 : ∀ {E L N P F : List (Key × U)} {X : Sto}, kFld c 0 (.ref S.length, hc c S E L N P F X) = some (.ref (S.length + 1), hc c S E L N P F X) := x_fld0 hc0 rfl
  have F1 : ∀ {E L N P F : List (Key × U)} {X : Sto}, kFld c 1 (.ref S.length, hc c S E L N P F X) = some (.ref (S.length + 2), hc c S E L N P F X) := x_fld0 hc0 rfl
  have F2 : ∀ {E L N P F : List (Key × U)} {X : Sto}, kFld c 2 (.ref S.length, hc c S E L N P F X) = some (.ref (S.length + 3), hc c S E L N P F X) := x_fld0 hc0 rfl
  have F3 : ∀ {E L N P F : List (Key × U)} {X : Sto}, kFld c 3 (.ref S.length, hc c S E L N P F X) = some (.ref (S.length + 4), hc c S E L N P F X) := x_fld0 hc0 rfl
  have F4 : ∀ {E L N P F : List (Key × U)} {X : Sto}, kFld c 4 (.ref S.length, hc c S E L N P F X) = some (.ref (S.length + 5), hc c S E L N P F X) := x_fld0 hc0 rfl
  have dT : ∀ (ρ : Rho) (Z : Sto), cDNewT ρ Z = some (.ref Z.length, Z ++ [.dit []]) := fun _ _ => rfl
  have fin : crs c S (st ++ [(a, att0 st)]) = hc c S (encE (st ++ [(a, att0 st)])) (encR S.length 1 (st ++ [(a, att0 st)]) 0) (encR S.length 2 (st ++ [(a, att0 st)]) 0) (encR S.length 3 (st ++ [(a, att0 st)]) 0) (encR S.length 0 (st ++ [(a, att0 st)]) 0) (blks st ++ [.lst ((att0 st).bf.map U.int), .lst [], .dit [], .dic []]) := by
    unfold crs hc; rw [blks_app]; rfl
  rw [fin]
  have p0 := pr 0
  have p1 := pr 1
  have p2 := pr 2
  have p3 := pr 3
  rw [Nat.add_zero] at p0
  have C0 : crs c S st = hc c S (encE st) (encR S.length 1 st 0) (encR S.length 2 st 0) (encR S.length 3 st 0) (encR S.length 0 st 0) (blks st) := rfl
  rw [C0] at B0 ⊢
  rwa [c_Course_enter, B0, hcA, F0, F1, F2, F3, F4, hc1, hc2, hc3, hc4, hc5, ht1, ht2, ht3, ht4, ht5, lR, lE, if_true, p0, p1, p2, p3, pe, dT, hcl, l1, l2, l3]
noncomputable def P_follow (c : Cl) : Fn := fnU 3 2 (c_Course_follow (P_center c) (P_note c) c)
theorem w_look_begin : decide (("look" : Str) = "begin") = false := by decide +kernel
theorem w_put_begin : decide (("put" : Str) = "begin") = false := by decide +kernel
theorem w_put_look : decide (("put" : Str) = "look") = false := by decide +kernel
theorem w_done_begin : decide (("done" : Str) = "begin") = false := by decide +kernel
theorem w_done_look : decide (("done" : Str) = "look") = false := by decide +kernel
theorem w_fall_begin : decide (("fall" : Str) = "begin") = false := by decide +kernel
theorem w_fall_look : decide (("fall" : Str) = "look") = false := by decide +kernel
def Few (st : St) (m : Nat) : Prop := st.length ≤ m ∧ ∀ p ∈ st, p.2.lk.length ≤ m ∧ p.2.nd.length ≤ m ∧ p.2.ps.length ≤ m
theorem follow_ok {n w : Int} {e : Ev} {m : Nat} (hk : (keysS st).Nodup) (ok : EvOk n w st e) (fw : Few st m) (hm : m ≤ 900) : P_follow c [.ref S.length, e.u] (crs c S st) = some (.non, crs c S (stp st e)) := by
  unfold P_follow
  rw [e_Course_follow]
  have i0 : ∀ st : St, (crs c S st)[S.length]? = some (.ins c [some (.ref (S.length + 1)), some (.ref (S.length + 2)), some (.ref (S.length + 3)), some (.ref (S.length + 4)), some (.ref (S.length + 5))]) := fun _ => hd0
  cases e with
  | beg a =>
    have h := center_ok (c := c) (S := S) hk ok.2.2 (by have := fw.1; omega)
    rwa [c_Course_follow, Ev.u, w_self, h, i0, stp]
  | look a b x =>
    obtain ⟨_, t, h1, h2, _⟩ := ok
    obtain ⟨s1, s2, rfl⟩ := split_val h1
    obtain ⟨q1, q2, q3⟩ := fw.2 _ (List.mem_append_right s1 List.mem_cons_self)
    dsimp only at q1 q2
    have h := note_ok (c := c) (S := S) (b := b) (x := x) hk (by omega) (by omega)
    rwa [c_Course_follow, Ev.u, w_look_begin, w_self, h, i0, stp, Ev.at, upd_split hk]
  | put a b x =>
    obtain ⟨_, t, h1, h2⟩ := ok
    obtain ⟨s1, s2, rfl⟩ := split_val h1
    obtain ⟨q1, q2, q3⟩ := fw.2 _ (List.mem_append_right s1 List.mem_cons_self)
    dsimp only at q3
    have F3 : kFld c 3 (.ref S.length, crs c S (s1 ++ (a, t) :: s2)) = some (.ref (S.length + 4), crs c S (s1 ++ (a, t) :: s2)) := x_fld0 hd0 rfl
    have f4 : (crs c S (s1 ++ (a, t) :: s2))[S.length + 4]? = some (.dic (encR S.length 3 (s1 ++ (a, t) :: s2) 0)) := hd4
    have v3 := val_encR (S := S) (j := 3) hk
    have g3 : (crs c S (s1 ++ (a, t) :: s2))[S.length + (6 + (4 * s1.length + 3))]? = some (.dic (encP t.ps)) := crs_get (by omega)
    have lp : (encP t.ps).length < LIM := by unfold encP LIM; rw [List.length_map]; omega
    have s3 := crs_set (c := c) (S := S) (s1 := s1) (s2 := s2) (a := a) (t := t) (t' := t.ev (.put a b x)) (j := 3) (o := .dic (encP (putG t.ps b x))) (by omega) rfl rfl
    rwa [c_Course_follow, Ev.u, w_put_begin, w_put_look, w_self, i0, F3, f4, v3, g3, lp, if_true, put_encP, s3, stp, Ev.at, upd_split hk]
  | fin d a =>
    obtain ⟨t, h1, h2⟩ := ok
    obtain ⟨s1, s2, rfl⟩ := split_val h1
    have F0 : kFld c 0 (.ref S.length, crs c S (s1 ++ (a, t) :: s2)) = some (.ref (S.length + 1), crs c S (s1 ++ (a, t) :: s2)) := x_fld0 hd0 rfl
    have f1 : (crs c S (s1 ++ (a, t) :: s2))[S.length + 1]? = some (.dic (encE (s1 ++ (a, t) :: s2))) := hd1
    have lE : (encE (s1 ++ (a, t) :: s2)).length < LIM := by have := fw.1; unfold encE LIM; rw [List.length_map]; omega
    have ce := crs_end (c := c) (S := S) (d := d) hk
    cases d with
    | true =>
      simp only [endS, if_true] at ce
      rwa [c_Course_follow, Ev.u, endS, if_true, w_done_begin, w_done_look, w_done_put, i0, F0, f1, lE, ce, stp, Ev.at, Att.ev, upd_split hk]
    | false =>
      simp only [endS, Bool.false_eq_true, if_false] at ce
      rwa [c_Course_follow, Ev.u, endS, Bool.false_eq_true, if_true, if_false, w_fall_begin, w_fall_look, w_fall_put, i0, F0, f1, lE, ce, stp, Ev.at, Att.ev, upd_split hk]
noncomputable def P_cinit (c : Cl) : Fn := fnU 1 1 (c_Course_init c)
theorem cinit_ok (hns : c.ns.length = 5) : fMake c (P_cinit c) [] S = some (.ref S.length, crs c S []) := by
  rw [x_make, hns]
  have h : P_cinit c [.ref S.length] (S ++ [.ins c (List.replicate 5 none)]) = some (.non, crs c S []) := by
    unfold P_cinit
    rw [e_Course_init]
    rwa [c_Course_init, List.replicate, List.length_append]
    rfl
  rw [h]
  rfl
theorem few_stp {n w : Int} {e : Ev} {m : Nat} (hk : (keysS st).Nodup) (ok : EvOk n w st e) (fw : Few st m) : Few (stp st e) (m + 1) := by
  obtain ⟨f1, f2⟩ := fw
  cases e with
  | beg a =>
    refine ⟨by simp [stp]; omega, fun p hp => ?_⟩
    rcases List.mem_append.mp hp with z | z
    · obtain ⟨q1, q2, q3⟩ := f2 p z; exact ⟨by omega, by omega, by omega⟩
    · simp at z; subst z; simp [att0]
  | _ =>
    refine ⟨by simp [stp, updA]; omega, fun p hp => ?_⟩
    simp only [stp, updA] at hp
    obtain ⟨q, hq, rfl⟩ := List.mem_map.mp hp
    obtain ⟨q1, q2, q3⟩ := f2 q hq
    split
    · simp only [Att.ev]
      first
      | (split
         · exact ⟨by omega, by omega, by omega⟩
         · refine ⟨by simp; omega, ?_, by dsimp only; omega⟩
           dsimp only [addP]
           split
           · omega
           · simp; omega)
      | exact ⟨by omega, by omega, Nat.le_trans (len_putG ..) (by omega)⟩
      | exact ⟨by omega, by omega, by omega⟩
    · exact ⟨by omega, by omega, by omega⟩
noncomputable def P_course (c : Cl) : Fn := fnU 3 1 (c_course_of (P_follow c) (P_cinit c) c)
theorem course_loop {n w : Int} {x0 : Option U} {ok : Sto → Prop} (hok : ∀ st, ok (crs c S st)) : ∀ (es : List Ev) (st : St) (m : Nat) (r2 : Option U), LogF n w st es → (keysS st).Nodup → Few st m → m + es.length ≤ 900 →
    ∃ r2', loopU ok (gNm 2) (b_course_of_0 (P_follow c) (P_cinit c) c) (es.map Ev.u) [x0, some (.ref S.length), r2] (crs c S st) = some (.nx, [x0, some (.ref S.length), r2'], crs c S (runE st es))
  | [], st, m, r2, _, _, _, _ => ⟨r2, loop_nil (hok st)⟩
  | e :: es, st, m, r2, lf, hk, fw, hm => by
    rw [List.length_cons] at hm
    obtain ⟨oke, lf'⟩ := lf
    obtain ⟨r2', ih⟩ := course_loop hok es (stp st e) (m + 1) (some e.u) lf' (nodup_stp hk oke) (few_stp hk oke fw) (by omega)
    refine ⟨r2', (loop_nx (hok st) rfl ?_).trans ih⟩
    have h := follow_ok (c := c) (S := S) hk oke fw (by omega)
    have i0 : (crs c S st)[S.length]? = some (.ins c [some (.ref (S.length + 1)), some (.ref (S.length + 2)), some (.ref (S.length + 3)), some (.ref (S.length + 4)), some (.ref (S.length + 5))]) := hd0
    rwa [b_course_of_0, i0, h]
theorem course_ok {n w : Int} {N : Nat} {evs : List Ev} {l : Nat} (hns : c.ns.length = 5) (hl : S[l]? = some (.lst (evs.map Ev.u))) (lo : LogF n w [] evs) (he : evs.length ≤ 900) : P_course c [.ref l] S = some (.ref S.length, crs c S (runE [] evs)) := by
  unfold P_course
  rw [e_course_of]
  have hok : ∀ st, (crs c S st)[l]? = some (.lst (evs.map Ev.u)) := fun st => by unfold crs; exact get_app hl
  obtain ⟨r2, h⟩ := course_loop (c := c) (S := S) (x0 := some (.ref l)) (ok := fun S => S[l]? = some (.lst (evs.map Ev.u))) hok evs [] 0 none lo (by simp [keysS]) ⟨by simp, by simp⟩ (by omega)
  rwa [c_course_of, cinit_ok hns, cFor, iTp, hok, h]
end
end OQ
set_option maxHeartbeats 1000000
namespace OQ
open PySem PySem.Spec PyProof.Rows L2 OG OP
def lkOf (st : St) (a : Int) : List (Int × Int) := ((valG st a).map (·.lk)).getD []
def psOf (st : St) (a : Int) : List (Int × Int) := ((valG st a).map (·.ps)).getD []
def enOf (st : St) (a : Int) : Option Bool := (valG st a).bind (·.en)
section
variable {n w : Int} {st : St} {e : Ev} {a : Int}
theorem val_beg_none (ok : EvOk n w st (.beg a)) : valG st a = none := valG_none.mpr ok.2.2
theorem lk_other (h : a ≠ e.at) : lkOf (stp st e) a = lkOf st a ∧ psOf (stp st e) a = psOf st a ∧ enOf (stp st e) a = enOf st a := by
  unfold lkOf psOf enOf
  rw [val_stp_other h]
  exact ⟨rfl, rfl, rfl⟩
theorem lk_beg (ok : EvOk n w st (.beg a)) : lkOf (stp st (.beg a)) a = lkOf st a ∧ psOf (stp st (.beg a)) a = psOf st a ∧ enOf (stp st (.beg a)) a = enOf st a := by
  unfold lkOf psOf enOf
  rw [val_stp_beg ok.2.2, val_beg_none ok]
  exact ⟨rfl, rfl, rfl⟩
theorem lk_same {t : Att} (h : valG st e.at = some t) : lkOf (stp st e) e.at = (t.ev e).lk ∧ psOf (stp st e) e.at = (t.ev e).ps ∧ enOf (stp st e) e.at = (t.ev e).en := by
  unfold lkOf psOf enOf
  rw [val_stp_same h]
  exact ⟨rfl, rfl, rfl⟩
end
theorem val_putG {κ α : Type} [DecidableEq κ] {ps : List (κ × α)} {k b : κ} {v : α} : valG (putG ps k v) b = if b = k then some v else valG ps b := by
  by_cases m : k ∈ ps.map (·.1)
  · unfold putG
    rw [if_pos (by obtain ⟨p, hp, e⟩ := List.mem_map.mp m; exact List.any_eq_true.mpr ⟨p, hp, by simp [e]⟩)]
    induction ps with
    | nil => simp at m
    | cons p r ih =>
      unfold valG at ih ⊢
      simp only [List.map_cons, List.find?_cons]
      by_cases e1 : p.1 = k
      · simp only [e1, if_true]
        by_cases e2 : b = k
        · subst e2; simp
        · rw [decide_eq_false (Ne.symm e2), if_neg e2]
          by_cases m' : k ∈ r.map (·.1)
          · have := ih m'
            rw [if_neg e2] at this
            exact this
          · rw [List.map_congr_left (g := id) fun q hq => ?_, List.map_id]
            rw [if_neg fun z => m' (List.mem_map.mpr ⟨q, hq, z⟩)]; rfl
      · simp only [e1, if_false]
        have m' : k ∈ r.map (·.1) := by
          rcases List.mem_cons.mp m with z | z
          · exact absurd z.symm e1
          · exact z
        by_cases e2 : p.1 = b
        · rw [decide_eq_true e2]
          have : b ≠ k := fun z => e1 (e2.trans z)
          rw [if_neg this]
        · rw [decide_eq_false e2]
          exact ih m'
  · rw [putG_new m, valG_app]
    by_cases e2 : b = k
    · subst e2; rw [valG_none.mpr m, if_pos rfl]; simp [valG]
    · rw [if_neg e2]
      cases valG ps b with
      | some x => rfl
      | none => simp [valG, Ne.symm e2]
noncomputable def P_looks : Fn := fnU 5 2 c__law_looks
theorem w_begin_put : decide (("begin" : Str) = "put") = false := by decide +kernel
theorem w_begin_look : decide (("begin" : Str) = "look") = false := by decide +kernel
theorem x_inLI {neg : Bool} {b : Int} {us : List Int} {S : Sto} : kIn neg (.int b) S (some (.lst (us.map U.int))) = some (.bl (if neg then !decide (b ∈ us) else decide (b ∈ us)), S) := by
  rw [x_inl ⟨rfl, by simp [flatU]⟩]
  have e : inU (.int b) (us.map U.int) = decide (b ∈ us) := by
    unfold inU
    rw [List.any_map, Bool.eq_iff_iff, List.any_eq_true, decide_eq_true_eq]
    constructor
    · rintro ⟨x, hx, hh⟩
      simp [eqF] at hh
      subst hh; exact hx
    · intro hx
      exact ⟨b, hx, by simp [eqF]⟩
  rw [e]
theorem looks_loop {n w : Int} {S : Sto} {l : Nat} {us : List U} {a : Int} (hl : S[l]? = some (.lst us)) : ∀ (es : List Ev) (st : St) (fd : List (Int × Int)) (pt : List Int) (r4 : Option U), LogF n w st es → fd = lkOf st a → (∀ b, b ∈ pt ↔ (valG (psOf st a) b).isSome = true) → fd.length + es.length ≤ 1000 → pt.length + es.length ≤ 1000 →
    ∃ (r4' : Option U) (pt' : List Int), loopU (fun S => S[l]? = some (.lst us)) (gNm 4) b__law_looks_0 (es.map Ev.u) [some (.ref l), some (.int a), some (.ref S.length), some (.ref (S.length + 1)), r4] (S ++ [.lst (fd.map pU), .lst (pt.map U.int)])
      = some (.nx, [some (.ref l), some (.int a), some (.ref S.length), some (.ref (S.length + 1)), r4'], S ++ [.lst ((lkOf (runE st es) a).map pU), .lst (pt'.map U.int)])
  | [], st, fd, pt, r4, _, e1, _, _, _ => ⟨r4, pt, by subst e1; exact loop_nil (get_app hl)⟩
  | e :: es, st, fd, pt, r4, lf, e1, e2, h1, h2 => by
    rw [List.length_cons] at h1 h2
    obtain ⟨ok, lf'⟩ := lf
    have step : ∀ (fd' : List (Int × Int)) (pt' : List Int), fd' = lkOf (stp st e) a → (∀ b, b ∈ pt' ↔ (valG (psOf (stp st e) a) b).isSome = true) → fd'.length ≤ fd.length + 1 → pt'.length ≤ pt.length + 1 →
        b__law_looks_0 [some (.ref l), some (.int a), some (.ref S.length), some (.ref (S.length + 1)), some e.u] (S ++ [.lst (fd.map pU), .lst (pt.map U.int)]) = some (.nx, [some (.ref l), some (.int a), some (.ref S.length), some (.ref (S.length + 1)), some e.u], S ++ [.lst (fd'.map pU), .lst (pt'.map U.int)]) →
        ∃ (r4' : Option U) (pt' : List Int), loopU (fun S => S[l]? = some (.lst us)) (gNm 4) b__law_looks_0 ((e :: es).map Ev.u) [some (.ref l), some (.int a), some (.ref S.length), some (.ref (S.length + 1)), r4] (S ++ [.lst (fd.map pU), .lst (pt.map U.int)])
          = some (.nx, [some (.ref l), some (.int a), some (.ref S.length), some (.ref (S.length + 1)), r4'], S ++ [.lst ((lkOf (runE st (e :: es)) a).map pU), .lst (pt'.map U.int)]) := fun fd' pt' f1 f2 f3 f4 hb => by
      obtain ⟨r4', pt2, ih⟩ := looks_loop hl es (stp st e) fd' pt' (some e.u) lf' f1 f2 (by omega) (by omega)
      exact ⟨r4', pt2, (loop_nx (get_app hl) rfl hb).trans ih⟩
    have hF : (fd.map pU).length < LIM := by unfold LIM; rw [List.length_map]; omega
    have hP : (pt.map U.int).length < LIM := by unfold LIM; rw [List.length_map]; omega
    by_cases ea : a = e.at
    · cases e with
      | beg b =>
        have eb : a = b := ea
        subst eb
        obtain ⟨k1, k2, _⟩ := lk_beg ok
        refine step fd pt (by rw [k1]; exact e1) (fun b => by rw [k2]; exact e2 b) (by omega) (by omega) ?_
        rwa [b__law_looks_0, Ev.u, w_begin_put, w_begin_look, w_self]
      | look b1 b2 b3 =>
        have eb : a = b1 := ea
        subst eb
        obtain ⟨_, t, t1, t2, t3⟩ := id ok
        obtain ⟨k1, k2, _⟩ := lk_same (e := .look a b2 b3) t1
        simp only [Ev.at] at k1 k2
        have ps : psOf st a = t.ps := by unfold psOf; rw [t1]; rfl
        have lk : lkOf st a = t.lk := by unfold lkOf; rw [t1]; rfl
        have hm := e2 b2
        rw [ps] at hm
        cases hv : (valG t.ps b2).isSome with
        | true =>
          have hb : b2 ∈ pt := hm.mpr hv
          refine step fd pt (by rw [k1, e1, lk]; simp [Att.ev, hv]) (fun b => by rw [k2, e2 b, ps]; simp [Att.ev, hv]) (by omega) (by omega) ?_
          rwa [b__law_looks_0, Ev.u, w_look_put, w_self, x_inLI, hb, decide_true, if_true]
        | false =>
          have hb : b2 ∉ pt := fun z => by rw [hm.mp z] at hv; cases hv
          refine step (fd ++ [(b2, b3)]) pt (by rw [k1, e1, lk]; simp [Att.ev, hv]) (fun b => by rw [k2, e2 b, ps]; simp [Att.ev, hv]) (by simp) (by omega) ?_
          have pu : pU (b2, b3) = .tup [.int b2, .int b3] := rfl
          rwa [b__law_looks_0, Ev.u, w_look_put, w_self, x_inLI, hb, decide_false, if_true, x_app1 hF, List.map_append, pu]
      | put b1 b2 b3 =>
        have eb : a = b1 := ea
        subst eb
        obtain ⟨_, t, t1, t2⟩ := id ok
        obtain ⟨k1, k2, _⟩ := lk_same (e := .put a b2 b3) t1
        simp only [Ev.at] at k1 k2
        have ps : psOf st a = t.ps := by unfold psOf; rw [t1]; rfl
        have lk : lkOf st a = t.lk := by unfold lkOf; rw [t1]; rfl
        refine step fd (pt ++ [b2]) (by rw [k1, e1, lk]; rfl) (fun b => ?_) (by omega) (by simp) ?_
        · have hm := e2 b
          rw [ps] at hm
          rw [k2, List.mem_append, hm]
          show _ ↔ (valG (putG t.ps b2 b3) b).isSome = true
          rw [val_putG]
          by_cases z : b = b2
          · subst z; simp
          · simp [z]
        · rwa [b__law_looks_0, Ev.u, w_put_look, w_self, x_app1 hP, List.map_append]
      | fin d b1 =>
        have eb : a = b1 := ea
        subst eb
        obtain ⟨t, t1, t2⟩ := id ok
        obtain ⟨k1, k2, _⟩ := lk_same (e := .fin d a) t1
        simp only [Ev.at] at k1 k2
        have ps : psOf st a = t.ps := by unfold psOf; rw [t1]; rfl
        have lk : lkOf st a = t.lk := by unfold lkOf; rw [t1]; rfl
        refine step fd pt (by rw [k1, e1, lk]; rfl) (fun b => by rw [k2, e2 b, ps]; rfl) (by omega) (by omega) ?_
        cases d with
        | true => rwa [b__law_looks_0, Ev.u, endS, if_true, w_done_put, w_done_look, w_self]
        | false => rwa [b__law_looks_0, Ev.u, endS, Bool.false_eq_true, if_false, w_fall_put, w_fall_look, w_self]
    · obtain ⟨k1, k2, _⟩ := lk_other (st := st) ea
      refine step fd pt (by rw [k1]; exact e1) (fun b => by rw [k2]; exact e2 b) (by omega) (by omega) ?_
      have ea' : e.at ≠ a := Ne.symm ea
      cases e with
      | fin d b1 => cases d <;> (simp only [Ev.at] at ea'; rwa [b__law_looks_0, Ev.u, endS, ea'])
      | _ => simp only [Ev.at] at ea'; rwa [b__law_looks_0, Ev.u, ea']
end OQ
set_option maxHeartbeats 1000000
namespace OQ
open PySem PySem.Spec PyProof.Rows L2 OG OP
theorem compIf_run {α : Type} {ok : Sto → Prop} {gg : CG} {ct : CT} {ce : CE} {S : Sto} {f : α → U} {p : α → Bool} {v : α → U} {Rel : Rho → Prop} (hok : ∀ ys G, ok (S ++ (.lst ys :: G))) :
    ∀ (xs : List α) (ys : List U) (G : Sto) (ρ : Rho), Rel ρ → ys.length + xs.length ≤ 9999 →
    (∀ x ∈ xs, ∀ ys G ρ, Rel ρ → ∃ ρ0 G1, Rel ρ0 ∧ gg (f x) ρ (S ++ (.lst ys :: G)) = some (ρ0, S ++ (.lst ys :: G)) ∧ ct ρ0 (S ++ (.lst ys :: G)) = some (p x, S ++ (.lst ys :: (G ++ G1))) ∧
      (p x = true → ∃ G2, ce ρ0 (S ++ (.lst ys :: (G ++ G1))) = some (v x, S ++ (.lst ys :: (G ++ G1 ++ G2))))) →
    ∃ G', compIfU ok gg ct ce S.length (xs.map f) ρ (S ++ (.lst ys :: G)) = some (S ++ (.lst (ys ++ (xs.filter p).map v) :: (G ++ G')))
  | [], ys, G, ρ, _, _, _ => ⟨[], by simp only [List.map_nil, List.filter_nil, List.append_nil]; exact compIf_nil (hok ys G)⟩
  | x :: xs, ys, G, ρ, hr, hl, hb => by
    rw [List.length_cons] at hl
    obtain ⟨ρ0, G1, r0, h1, h2, h3⟩ := hb x List.mem_cons_self ys G ρ hr
    have hb' := fun x (hx : x ∈ xs) => hb x (List.mem_cons_of_mem _ hx)
    cases hp : p x with
    | false =>
      rw [hp] at h2
      obtain ⟨G', h⟩ := compIf_run hok xs ys (G ++ G1) ρ0 r0 (by omega) hb'
      refine ⟨G1 ++ G', ?_⟩
      rw [List.map_cons, List.filter_cons_of_neg (by simp [hp])]
      refine (compIf_no (hok ys G) h1 h2).trans ?_
      rw [h, List.append_assoc]
    | true =>
      rw [hp] at h2
      obtain ⟨G2, h4⟩ := h3 hp
      obtain ⟨G', h⟩ := compIf_run hok xs (ys ++ [v x]) (G ++ G1 ++ G2) ρ0 r0 (by simp; omega) hb'
      refine ⟨G1 ++ (G2 ++ G'), ?_⟩
      rw [List.map_cons, List.filter_cons_of_pos hp]
      refine (compIf_yes (hok ys G) h1 h2 h4 (by rw [ga0]; rfl) (by unfold LIM; omega)).trans ?_
      rw [gs0]
      simp only [List.set_cons_zero]
      rw [h]
      simp only [List.map_cons, List.append_assoc, List.cons_append, List.nil_append]
theorem comp_run {α : Type} {ok : Sto → Prop} {gg : CG} {ce : CE} {S : Sto} {f : α → U} {v : α → U} {Rel : Rho → Prop} (hok : ∀ ys G, ok (S ++ (.lst ys :: G))) :
    ∀ (xs : List α) (ys : List U) (G : Sto) (ρ : Rho), Rel ρ → ys.length + xs.length ≤ 9999 →
    (∀ x ∈ xs, ∀ ys G ρ, Rel ρ → ∃ ρ0 G1, Rel ρ0 ∧ gg (f x) ρ (S ++ (.lst ys :: G)) = some (ρ0, S ++ (.lst ys :: G)) ∧ ce ρ0 (S ++ (.lst ys :: G)) = some (v x, S ++ (.lst ys :: (G ++ G1)))) →
    ∃ G', compU ok gg ce S.length (xs.map f) ρ (S ++ (.lst ys :: G)) = some (S ++ (.lst (ys ++ xs.map v) :: (G ++ G')))
  | [], ys, G, ρ, _, _, _ => ⟨[], by simp only [List.map_nil, List.append_nil]; exact comp_nil (hok ys G)⟩
  | x :: xs, ys, G, ρ, hr, hl, hb => by
    rw [List.length_cons] at hl
    obtain ⟨ρ0, G1, r0, h1, h2⟩ := hb x List.mem_cons_self ys G ρ hr
    obtain ⟨G', h⟩ := comp_run hok xs (ys ++ [v x]) (G ++ G1) ρ0 r0 (by simp; omega) (fun x hx => hb x (List.mem_cons_of_mem _ hx))
    refine ⟨G1 ++ G', ?_⟩
    rw [List.map_cons]
    refine (comp_cons (hok ys G) h1 h2 (by rw [ga0]; rfl) (by unfold LIM; omega)).trans ?_
    rw [gs0]
    simp only [List.set_cons_zero]
    rw [h]
    simp only [List.map_cons, List.append_assoc, List.cons_append, List.nil_append]
section
variable {n w : Int} {S : Sto} {l : Nat} {evs : List Ev} {a : Int}
theorem looks_ok (hl : S[l]? = some (.lst (evs.map Ev.u))) (lo : LogF n w [] evs) (he : evs.length ≤ 900) :
    ∃ pt : List Int, P_looks [.ref l, .int a] S = some (.ref S.length, S ++ [.lst ((lkOf (runE [] evs) a).map pU), .lst (pt.map U.int)]) := by
  unfold P_looks
  rw [e__law_looks]
  obtain ⟨r4, pt, h⟩ := looks_loop (a := a) hl evs [] [] [] none lo rfl (by simp [psOf, valG]) (by simp; omega) (by simp; omega)
  simp only [List.map_nil] at h
  exact ⟨pt, by rwa [c__law_looks, cFor, iTp, get_app hl, h, List.length_append, Nat.zero_add]⟩
noncomputable def P_puts : Fn := fnU 4 2 c__law_puts
theorem puts_loop {us : List U} (hl : S[l]? = some (.lst us)) : ∀ (es : List Ev) (st : St) (ps : List (Int × Int)) (r3 : Option U), LogF n w st es → ps = psOf st a → ps.length + es.length ≤ 1000 →
    ∃ r3' : Option U, loopU (fun S => S[l]? = some (.lst us)) (gNm 3) b__law_puts_0 (es.map Ev.u) [some (.ref l), some (.int a), some (.ref S.length), r3] (S ++ [.dic (encP ps)])
      = some (.nx, [some (.ref l), some (.int a), some (.ref S.length), r3'], S ++ [.dic (encP (psOf (runE st es) a))])
  | [], st, ps, r3, _, e1, _ => ⟨r3, by subst e1; exact loop_nil (get_app hl)⟩
  | e :: es, st, ps, r3, lf, e1, h1 => by
    rw [List.length_cons] at h1
    obtain ⟨ok, lf'⟩ := lf
    have step : ∀ ps' : List (Int × Int), ps' = psOf (stp st e) a → ps'.length ≤ ps.length + 1 →
        b__law_puts_0 [some (.ref l), some (.int a), some (.ref S.length), some e.u] (S ++ [.dic (encP ps)]) = some (.nx, [some (.ref l), some (.int a), some (.ref S.length), some e.u], S ++ [.dic (encP ps')]) →
        ∃ r3' : Option U, loopU (fun S => S[l]? = some (.lst us)) (gNm 3) b__law_puts_0 ((e :: es).map Ev.u) [some (.ref l), some (.int a), some (.ref S.length), r3] (S ++ [.dic (encP ps)])
          = some (.nx, [some (.ref l), some (.int a), some (.ref S.length), r3'], S ++ [.dic (encP (psOf (runE st (e :: es)) a))]) := fun ps' f1 f2 hb => by
      obtain ⟨r3', ih⟩ := puts_loop hl es (stp st e) ps' (some e.u) lf' f1 (by omega)
      exact ⟨r3', (loop_nx (get_app hl) rfl hb).trans ih⟩
    have hP : (encP ps).length < LIM := by unfold LIM encP; rw [List.length_map]; omega
    by_cases ea : a = e.at
    · cases e with
      | beg b =>
        have eb : a = b := ea
        subst eb
        obtain ⟨_, k2, _⟩ := lk_beg ok
        refine step ps (by rw [k2]; exact e1) (by omega) ?_
        rwa [b__law_puts_0, Ev.u, w_begin_put, w_self]
      | look b1 b2 b3 =>
        have eb : a = b1 := ea
        subst eb
        obtain ⟨_, t, t1, t2, t3⟩ := id ok
        obtain ⟨_, k2, _⟩ := lk_same (e := .look a b2 b3) t1
        simp only [Ev.at] at k2
        have pt : psOf st a = t.ps := by unfold psOf; rw [t1]; rfl
        refine step ps (by rw [k2, e1, pt]; simp only [Att.ev]; split <;> rfl) (by omega) ?_
        rwa [b__law_puts_0, Ev.u, w_look_put, w_self]
      | put b1 b2 b3 =>
        have eb : a = b1 := ea
        subst eb
        obtain ⟨_, t, t1, t2⟩ := id ok
        obtain ⟨_, k2, _⟩ := lk_same (e := .put a b2 b3) t1
        simp only [Ev.at] at k2
        have pt : psOf st a = t.ps := by unfold psOf; rw [t1]; rfl
        refine step (putG ps b2 b3) (by rw [k2, e1, pt]; rfl) (len_putG ..) ?_
        rwa [b__law_puts_0, Ev.u, w_self, hP, if_true, put_encP]
      | fin d b1 =>
        have eb : a = b1 := ea
        subst eb
        obtain ⟨t, t1, t2⟩ := id ok
        obtain ⟨_, k2, _⟩ := lk_same (e := .fin d a) t1
        simp only [Ev.at] at k2
        have pt : psOf st a = t.ps := by unfold psOf; rw [t1]; rfl
        refine step ps (by rw [k2, e1, pt]; rfl) (by omega) ?_
        cases d with
        | true => rwa [b__law_puts_0, Ev.u, endS, if_true, w_done_put, w_self]
        | false => rwa [b__law_puts_0, Ev.u, endS, Bool.false_eq_true, if_false, w_fall_put, w_self]
    · obtain ⟨_, k2, _⟩ := lk_other (st := st) ea
      refine step ps (by rw [k2]; exact e1) (by omega) ?_
      have ea' : e.at ≠ a := Ne.symm ea
      cases e with
      | fin d b1 => cases d <;> (simp only [Ev.at] at ea'; rwa [b__law_puts_0, Ev.u, endS, ea'])
      | _ => simp only [Ev.at] at ea'; rwa [b__law_puts_0, Ev.u, ea']
theorem puts_ok (hl : S[l]? = some (.lst (evs.map Ev.u))) (lo : LogF n w [] evs) (he : evs.length ≤ 900) :
    P_puts [.ref l, .int a] S = some (.ref S.length, S ++ [.dic (encP (psOf (runE [] evs) a))]) := by
  unfold P_puts
  rw [e__law_puts]
  obtain ⟨r3, h⟩ := puts_loop (a := a) hl evs [] [] none lo rfl (by simp; omega)
  simp only [encP, List.map_nil] at h
  rwa [c__law_puts, cFor, iTp, get_app hl, h, encP]
end
end OQ
set_option maxHeartbeats 1000000
namespace OQ
open PySem PySem.Spec PyProof.Rows L2 OG OP
def begOf : Ev → U
  | .beg a => .int a
  | _ => .non
def isBeg : Ev → Bool
  | .beg _ => true
  | _ => false
theorem beg_list : ∀ (es : List Ev) (st : St), (keysS (runE st es)).map U.int = (keysS st).map U.int ++ (es.filter isBeg).map begOf
  | [], st => by simp [runE]
  | e :: es, st => by
    have ih := beg_list es (stp st e)
    show (keysS (runE (stp st e) es)).map U.int = _
    rw [ih, keys_stp, List.filter_cons]
    cases e <;> simp [isBeg, begOf]
theorem few_run {n w : Int} : ∀ (es : List Ev) (st : St) (m : Nat), LogF n w st es → (keysS st).Nodup → Few st m → Few (runE st es) (m + es.length)
  | [], st, m, _, _, h => h
  | e :: es, st, m, lf, hk, h => by
    have := few_run es (stp st e) (m + 1) lf.2 (nodup_stp hk lf.1) (few_stp hk lf.1 h)
    rw [List.length_cons, show m + (es.length + 1) = m + 1 + es.length from by omega]
    exact this
section
variable {n w : Int} {S : Sto} {l : Nat} {evs : List Ev} {a : Int} {N : Nat}
noncomputable def P_begun : Fn := fnU 1 1 c__law_begun
theorem begun_ok (hl : S[l]? = some (.lst (evs.map Ev.u))) (lo : LogOk n w N evs) (he : evs.length ≤ 900) (hN : N ≤ 60) :
    ∃ (G : Sto) (k : Nat), P_begun [.ref l] S = some (.ref (S.length + k), S ++ G) ∧ G[k]? = some (.lst ((sortI (keysS (runE [] evs))).map U.int)) := by
  unfold P_begun
  rw [e__law_begun]
  obtain ⟨G', h⟩ := compIf_run (S := S) (ok := fun S => S[l]? = some (.lst (evs.map Ev.u))) (gg := gNm 0)
    (ct := cTest (cOp fEq (cOp fIx (cVar 0) (cC (.int 0))) (cC (.str "begin"))))
    (ce := cOp fIx (cVar 0) (cC (.int 1))) (f := Ev.u) (p := isBeg) (v := begOf) (Rel := fun ρ => ∃ r0, ρ = [r0]) (fun ys G => get_app hl) evs [] [] [none] ⟨_, rfl⟩ (by simp; omega) (fun e he ys G ρ hρ => by
      obtain ⟨r0, rfl⟩ := hρ
      refine ⟨[some e.u], [], ⟨_, rfl⟩, rfl, ?_, fun hp => ⟨[], ?_⟩⟩
      · cases e with
        | fin d b => cases d with
          | true => rwa [Ev.u, endS, if_true, w_done_begin, isBeg, List.append_nil]
          | false => rwa [Ev.u, endS, Bool.false_eq_true, if_false, w_fall_begin, isBeg, List.append_nil]
        | beg b => rwa [Ev.u, w_self, isBeg, List.append_nil]
        | look b _ _ => rwa [Ev.u, w_look_begin, isBeg, List.append_nil]
        | put b _ _ => rwa [Ev.u, w_put_begin, isBeg, List.append_nil]
      · cases e with
        | beg b => rwa [Ev.u, begOf, List.append_nil]
        | _ => simp [isBeg] at hp)
  have hk := beg_list evs []
  simp only [keysS, List.map_nil, List.nil_append] at hk h
  rw [← hk] at h
  have hc := lo.cnt
  have hlen : ((runE [] evs).map (·.1)).length < 64 := by rw [List.length_map]; omega
  refine ⟨.lst (((runE [] evs).map (·.1)).map U.int) :: (G' ++ [.lst ((sortI (keysS (runE [] evs))).map U.int)]), G'.length + 1, ?_, ?_⟩
  · have hs : fSorted [.ref S.length] (S ++ (.lst (((runE [] evs).map (·.1)).map U.int) :: G')) = some (.ref (S.length + (G'.length + 1)), S ++ (.lst (((runE [] evs).map (·.1)).map U.int) :: (G' ++ [.lst ((sortI (keysS (runE [] evs))).map U.int)]))) := by
      simp only [fSorted, ga0, List.getElem?_cons_zero, intsU_map, Option.bind_some, hlen, if_true]
      simp [keysS]
    rwa [c__law_begun, cCompIf, iTp, hl, rhoC, List.replicate, h, hs]
  · rw [List.getElem?_cons_succ, List.getElem?_append_right (by omega)]; simp
end
end OQ
set_option maxHeartbeats 1000000
namespace OQ
open PySem PySem.Spec PyProof.Rows L2 OG OP
section
variable {c : Cl} {n w : Int} {S G : Sto} {st : St} {a : Int} {t : Att} {x : List Int}
end
end OQ
set_option maxHeartbeats 4000000
namespace OL
open PySem PySem.Spec PyProof.Rows L2 OG OP OQ
def top (i : Nat) : Stmt := PySem.Challenge.pw_oneglance_k13_looks_and_puts.main.body.getD i (.Pass ⟨0, 0, 0, 0⟩)
abbrev s_Course_init : Stmt := inClass (top 2) 0
abbrev s_Course_follow : Stmt := inClass (top 2) 2
abbrev s_Course_enter : Stmt := inClass (top 2) 3
abbrev s_Course_note_look : Stmt := inClass (top 2) 4
abbrev s_course_of : Stmt := top 3
abbrev s_outer_looks : Stmt := top 4
abbrev s_puts_of : Stmt := top 5
abbrev s__law_pen : Stmt := top 7
abbrev s__law_take : Stmt := top 8
abbrev s__law_world : Stmt := top 9
abbrev s__law_state : Stmt := top 10
abbrev s__law_names : Stmt := top 11
abbrev s__law_put_in : Stmt := top 12
abbrev s__law_event : Stmt := top 13
abbrev s__law_log : Stmt := top 14
abbrev s__law_begun : Stmt := top 15
abbrev s__law_looks : Stmt := top 17
abbrev s__law_puts : Stmt := top 18
abbrev s__law_same : Stmt := top 20
abbrev s_law : Stmt := top 21
section
variable {P : Program} {w : World} {K : PySem.W.Frag} {mg : Str → Option Value} {base : Heap}
theorem sc__law_take : FnScope ["pen", "many", "at", "cell", "one", "two", "three", "found"] ["pen", "many"] (defScope s__law_take) := ⟨rfl, rfl, rfl, by decide +kernel, rfl, by decide +kernel, by decide +kernel⟩
theorem h__law_take {k : Nat} (d : Def K mg "_law_take" s__law_take ["pen", "many"]) (B : Blt mg) : HasP P w K mg base "_law_take" (k + 1) ["pen", "many"] (fnU 8 2 (c__law_take )) :=
  d.pure sc__law_take fun f cdv A outer s H E hr => by
    have hu := hu_of hr
    have nd := sc__law_take.nd
    exact (qs_cons (qs_if (q_tcmp op_eq p_eq (q_ix hu (q_var (wpv 0)) (q_int wpe_int) (fun _ _ => rfl) (fun _ _ => rfl)) (q_int wpe_int) (nomark _)) (qs_cons (qs_set (i := 2) nd rfl (by first | exact Or.inl rfl | exact Or.inr rfl) (q_ix hu (q_var (wpv 0)) (q_int wpe_int) (fun _ _ => rfl) (fun _ _ => rfl)))
      (qs_cons (qs_setIx hu (q_var (wpv 0)) (q_int wpe_int) (q_op o_add p_add (q_var (wpv 2)) (q_int wpe_int)))
      (qs_cons (qs_set (i := 3) nd rfl (by first | exact Or.inl rfl | exact Or.inr rfl) (q_int wpe_int))
      (qs_cons (qs_if (q_tcmp op_lt p_lt (q_var (wpv 2)) (q_callB o_len p_len rfl B.len PySem.boot_len (q_cons (q_ix hu (q_var (wpv 0)) (q_int wpe_int) (fun _ _ => rfl) (fun _ _ => rfl)) q_nil)) (nomark _)) (qs_one (qs_set (i := 3) nd rfl (by first | exact Or.inl rfl | exact Or.inr rfl) (q_ix hu (q_ix hu (q_var (wpv 0)) (q_int wpe_int) (fun _ _ => rfl) (fun _ _ => rfl)) (q_var (wpv 2)) (fun _ _ => rfl) (fun _ _ => rfl)))) (qs_one (qs_if (q_tcmp op_gt p_gt (q_callB o_len p_len rfl B.len PySem.boot_len (q_cons (q_ix hu (q_var (wpv 0)) (q_int wpe_int) (fun _ _ => rfl) (fun _ _ => rfl)) q_nil)) (q_int wpe_int) (nomark _)) (qs_one (qs_set (i := 3) nd rfl (by first | exact Or.inl rfl | exact Or.inr rfl) (q_op o_add p_add (q_op op_mod p_mod (q_ix hu (q_ix hu (q_var (wpv 0)) (q_int wpe_int) (fun _ _ => rfl) (fun _ _ => rfl)) (q_op op_mod p_mod (q_op op_mul p_mul (q_var (wpv 2)) (q_int wpe_int)) (q_callB o_len p_len rfl B.len PySem.boot_len (q_cons (q_ix hu (q_var (wpv 0)) (q_int wpe_int) (fun _ _ => rfl) (fun _ _ => rfl)) q_nil))) (fun _ _ => rfl) (fun _ _ => rfl)) (q_int wpe_int)) (q_op op_mul p_mul (q_int wpe_int) (q_var (wpv 2)))))) qs_nil)))
      (qs_cons (qs_set (i := 4) nd rfl (by first | exact Or.inl rfl | exact Or.inr rfl) (q_op op_mod p_mod (q_op op_mul p_mul (q_op o_add p_add (q_op o_add p_add (q_op op_mod p_mod (q_var (wpv 3)) (q_int wpe_int)) (q_op op_mul p_mul (q_int wpe_int) (q_var (wpv 2)))) (q_int wpe_int)) (q_int wpe_int)) (q_int wpe_int)))
      (qs_cons (qs_set (i := 5) nd rfl (by first | exact Or.inl rfl | exact Or.inr rfl) (q_op op_mod p_mod (q_op o_add p_add (q_op o_add p_add (q_op op_mul p_mul (q_var (wpv 4)) (q_var (wpv 4))) (q_op op_mul p_mul (q_int wpe_int) (q_var (wpv 2)))) (q_int wpe_int)) (q_int wpe_int)))
      (qs_cons (qs_set (i := 6) nd rfl (by first | exact Or.inl rfl | exact Or.inr rfl) (q_op op_mod p_mod (q_op o_add p_add (q_op op_mul p_mul (q_var (wpv 5)) (q_var (wpv 5))) (q_var (wpv 4))) (q_int wpe_int)))
      (qs_cons (qs_setIx hu (q_var (wpv 0)) (q_int wpe_int) (q_op o_add p_add (q_op op_fdivB p_div (q_op o_add p_add (q_op op_mul p_mul (q_var (wpv 5)) (q_int wpe_int)) (q_var (wpv 6))) (q_int wpe_int)) (q_int wpe_int)))
      (qs_one (qs_if (q_tcmp op_ge p_ge (q_var (wpv 3)) (q_op op_pow p_pow (q_int wpe_int) (q_int wpe_int)) (nomark _)) (qs_one (qs_setIx hu (q_var (wpv 0)) (q_int wpe_int) (q_op op_fdivB p_div (q_var (wpv 3)) (q_op op_pow p_pow (q_int wpe_int) (q_int wpe_int))))) qs_nil)))))))))) qs_nil)
      (qs_cons (qs_set (i := 7) nd rfl (by first | exact Or.inl rfl | exact Or.inr rfl) (q_op op_mod p_mod (q_ix hu (q_var (wpv 0)) (q_int wpe_int) (fun _ _ => rfl) (fun _ _ => rfl)) (q_var (wpv 1))))
      (qs_cons (qs_setIx hu (q_var (wpv 0)) (q_int wpe_int) (q_op op_fdivB p_div (q_ix hu (q_var (wpv 0)) (q_int wpe_int) (fun _ _ => rfl) (fun _ _ => rfl)) (q_var (wpv 1))))
      (qs_one (qs_ret (q_var (wpv 7)))))))
theorem sc__law_world : FnScope ["pen"] ["pen"] (defScope s__law_world) := ⟨rfl, rfl, rfl, by decide +kernel, rfl, by decide +kernel, by decide +kernel⟩
theorem h__law_world {k : Nat} {f__law_take : Fn} (d : Def K mg "_law_world" s__law_world ["pen"]) (B : Blt mg) (G__law_take : HasP P w K mg base "_law_take" (k) ["pen", "many"] f__law_take) : HasP P w K mg base "_law_world" (k + 1) ["pen"] (fnU 1 1 (c__law_world f__law_take)) :=
  d.pure sc__law_world fun f cdv A outer s H E hr => by
    have hu := hu_of hr
    have nd := sc__law_world.nd
    exact (qs_one (qs_ret (q_tup (q_cons (q_op o_add p_add (q_int wpe_int) (q_call G__law_take hr rfl (q_cons (q_var (wpv 0)) (q_cons (q_int wpe_int) q_nil)))) (q_cons (q_ix hu (q_lst (q_cons (q_int wpe_int) (q_cons (q_int wpe_int) (q_cons (q_int wpe_int) (q_cons (q_int wpe_int) (q_cons (q_op o_add p_add (q_int wpe_int) (q_call G__law_take hr rfl (q_cons (q_var (wpv 0)) (q_cons (q_int wpe_int) q_nil)))) q_nil)))))) (q_call G__law_take hr rfl (q_cons (q_var (wpv 0)) (q_cons (q_int wpe_int) q_nil))) (fun _ _ => rfl) (fun _ _ => rfl)) q_nil)))))
theorem sc__law_state : FnScope ["pen", "world"] ["pen", "world"] (defScope s__law_state) := ⟨rfl, rfl, rfl, by decide +kernel, rfl, by decide +kernel, by decide +kernel⟩
theorem h__law_state {k : Nat} {f__law_take : Fn} (d : Def K mg "_law_state" s__law_state ["pen", "world"]) (B : Blt mg) (G__law_take : HasP P w K mg base "_law_take" (k) ["pen", "many"] f__law_take) : HasP P w K mg base "_law_state" (k + 1) ["pen", "world"] (fnU 2 2 (c__law_state f__law_take)) :=
  d.pure sc__law_state fun f cdv A outer s H E hr => by
    have hu := hu_of hr
    have nd := sc__law_state.nd
    exact (qs_one (qs_ret (q_callTy call_tuple_of p_tuple rfl B.tuple OG.boot_tuple (q_cons (q_comp (Nc := ["box", "pen", "world"]) (tn := ["box"]) (capN := ["pen", "world"]) (caps := [0, 1]) rfl (qi_range1 rfl B.range (q_cons (q_ix hu (q_var (wpv 1)) (q_int wpe_int) (fun _ _ => rfl) (fun _ _ => rfl)) q_nil)) (fun _ _ _ => (qg_name (wpg_name (i := 0) (show (["box", "pen", "world"] : List Str).Nodup by decide +kernel) rfl (by first | exact Or.inl rfl | exact Or.inr rfl)))) (fun _ _ _ => (q_call G__law_take hr rfl (q_cons (q_var (wpv 1)) (q_cons (q_ix hu (q_var (wpv 2)) (q_int wpe_int) (fun _ _ => rfl) (fun _ _ => rfl)) q_nil)))) rfl rfl (by decide +kernel) (by decide +kernel) ⟨rfl, rfl, trivial⟩ rfl (.cons ⟨rfl, rfl, rfl, _, rfl⟩ (.cons ⟨rfl, rfl, rfl, _, rfl⟩ .nil)) rfl rfl) q_nil))))
theorem sc__law_names : FnScope ["pen", "many", "left", "found", "k"] ["pen", "many"] (defScope s__law_names) := ⟨rfl, rfl, rfl, by decide +kernel, rfl, by decide +kernel, by decide +kernel⟩
theorem h__law_names {k : Nat} {f__law_take : Fn} (d : Def K mg "_law_names" s__law_names ["pen", "many"]) (B : Blt mg) (G__law_take : HasP P w K mg base "_law_take" (k) ["pen", "many"] f__law_take) : HasP P w K mg base "_law_names" (k + 1) ["pen", "many"] (fnU 5 2 (c__law_names f__law_take)) :=
  d.pure sc__law_names fun f cdv A outer s H E hr => by
    have hu := hu_of hr
    have nd := sc__law_names.nd
    exact (qs_cons (qs_set (i := 2) nd rfl (by first | exact Or.inl rfl | exact Or.inr rfl) (q_listRange rfl rfl B.list rfl B.range (q_cons (q_int wpe_int) q_nil) rfl rfl))
      (qs_cons (qs_set (i := 3) nd rfl (by first | exact Or.inl rfl | exact Or.inr rfl) (q_lst q_nil))
      (qs_cons (qs_for PassesOwn.never rfl (qi_range1 rfl B.range (q_cons (q_var (wpv 1)) q_nil)) (qg_name (wpg_name (i := 4) nd rfl (by first | exact Or.inl rfl | exact Or.inr rfl))) (qs_one (qs_expr (q_append (q_var (wpv 3)) (q_cons (q_popAt (q_var (wpv 2)) (q_cons (q_call G__law_take hr rfl (q_cons (q_var (wpv 0)) (q_cons (q_callB o_len p_len rfl B.len PySem.boot_len (q_cons (q_var (wpv 2)) q_nil)) q_nil))) q_nil)) q_nil)))))
      (qs_one (qs_ret (q_var (wpv 3)))))))
theorem sc__law_put_in : FnScope ["state", "puts"] ["state", "puts"] (defScope s__law_put_in) := ⟨rfl, rfl, rfl, by decide +kernel, rfl, by decide +kernel, by decide +kernel⟩
theorem h__law_put_in {k : Nat} (d : Def K mg "_law_put_in" s__law_put_in ["state", "puts"]) (B : Blt mg) : HasP P w K mg base "_law_put_in" (k + 1) ["state", "puts"] (fnU 2 2 (c__law_put_in )) :=
  d.pure sc__law_put_in fun f cdv A outer s H E hr => by
    have hu := hu_of hr
    have nd := sc__law_put_in.nd
    exact (qs_one (qs_ret (q_callTy call_tuple_of p_tuple rfl B.tuple OG.boot_tuple (q_cons (q_comp (Nc := ["box", "number", "puts"]) (tn := ["box", "number"]) (capN := ["puts"]) (caps := [1]) rfl (qi_enum rfl B.enumerate (q_var (wpv 0))) (fun _ _ _ => (qg_tup rfl (qgs_cons (wpg_name (i := 0) (show (["box", "number", "puts"] : List Str).Nodup by decide +kernel) rfl (by first | exact Or.inl rfl | exact Or.inr rfl)) (qgs_cons (wpg_name (i := 1) (show (["box", "number", "puts"] : List Str).Nodup by decide +kernel) rfl (by first | exact Or.inl rfl | exact Or.inr rfl)) qgs_nil)))) (fun _ _ _ => (q_dget hu (q_var (wpv 2)) (q_var (wpv 0)) (q_var (wpv 1)) ⟨rfl, rfl, rfl, rfl⟩)) rfl rfl (by decide +kernel) (by decide +kernel) ⟨rfl, trivial⟩ rfl (.cons ⟨rfl, rfl, rfl, _, rfl⟩ .nil) rfl rfl) q_nil))))
theorem sc__law_event : FnScope ["pen", "world", "a", "seen", "puts", "now", "way", "box", "number"] ["pen", "world", "a", "seen", "puts", "now"] (defScope s__law_event) := ⟨rfl, rfl, rfl, by decide +kernel, rfl, by decide +kernel, by decide +kernel⟩
theorem h__law_event {k : Nat} {f__law_take : Fn} (d : Def K mg "_law_event" s__law_event ["pen", "world", "a", "seen", "puts", "now"]) (B : Blt mg) (G__law_take : HasP P w K mg base "_law_take" (k) ["pen", "many"] f__law_take) : HasP P w K mg base "_law_event" (k + 1) ["pen", "world", "a", "seen", "puts", "now"] (fnU 9 6 (c__law_event f__law_take)) :=
  d.pure sc__law_event fun f cdv A outer s H E hr => by
    have hu := hu_of hr
    have nd := sc__law_event.nd
    exact (qs_cons (qs_set (i := 6) nd rfl (by first | exact Or.inl rfl | exact Or.inr rfl) (q_call G__law_take hr rfl (q_cons (q_var (wpv 0)) (q_cons (q_int wpe_int) q_nil))))
      (qs_cons (qs_set (i := 7) nd rfl (by first | exact Or.inl rfl | exact Or.inr rfl) (q_call G__law_take hr rfl (q_cons (q_var (wpv 0)) (q_cons (q_ix hu (q_var (wpv 1)) (q_int wpe_int) (fun _ _ => rfl) (fun _ _ => rfl)) q_nil))))
      (qs_cons (qs_if (q_tcmp op_lt p_lt (q_var (wpv 6)) (q_int wpe_int) (nomark _)) (qs_cons (qs_set (i := 8) nd rfl (by first | exact Or.inl rfl | exact Or.inr rfl) (q_ix hu (q_lst (q_cons (q_ix hu (q_var (wpv 3)) (q_var (wpv 7)) (fun _ _ => rfl) (fun _ _ => rfl)) (q_cons (q_ix hu (q_var (wpv 3)) (q_var (wpv 7)) (fun _ _ => rfl) (fun _ _ => rfl)) (q_cons (q_ix hu (q_var (wpv 5)) (q_var (wpv 7)) (fun _ _ => rfl) (fun _ _ => rfl)) (q_cons (q_call G__law_take hr rfl (q_cons (q_var (wpv 0)) (q_cons (q_ix hu (q_var (wpv 1)) (q_int wpe_int) (fun _ _ => rfl) (fun _ _ => rfl)) q_nil))) q_nil))))) (q_call G__law_take hr rfl (q_cons (q_var (wpv 0)) (q_cons (q_int wpe_int) q_nil))) (fun _ _ => rfl) (fun _ _ => rfl)))
      (qs_one (qs_ret (q_tup (q_cons (q_str wpe_str) (q_cons (q_var (wpv 2)) (q_cons (q_var (wpv 7)) (q_cons (q_dget hu (q_var (wpv 4)) (q_var (wpv 7)) (q_var (wpv 8)) ⟨rfl, rfl, rfl, rfl⟩) q_nil)))))))) qs_nil)
      (qs_cons (qs_if (q_tcmp op_lt p_lt (q_var (wpv 6)) (q_int wpe_int) (nomark _)) (qs_one (qs_ret (q_tup (q_cons (q_str wpe_str) (q_cons (q_var (wpv 2)) (q_cons (q_var (wpv 7)) (q_cons (q_call G__law_take hr rfl (q_cons (q_var (wpv 0)) (q_cons (q_ix hu (q_var (wpv 1)) (q_int wpe_int) (fun _ _ => rfl) (fun _ _ => rfl)) q_nil))) q_nil))))))) qs_nil)
      (qs_one (qs_ret (q_tup (q_cons (q_ix hu (q_lst (q_cons (q_str wpe_str) (q_cons (q_str wpe_str) (q_cons (q_str wpe_str) (q_cons (q_str wpe_str) q_nil))))) (q_op op_sub p_sub (q_var (wpv 6)) (q_int wpe_int)) (fun _ _ => rfl) (fun _ _ => rfl)) (q_cons (q_var (wpv 2)) q_nil)))))))))
theorem sc__law_log : FnScope ["pen", "world", "state", "most", "size", "names", "log", "now", "going", "k", "at", "a", "seen", "puts"] ["pen", "world", "state", "most", "size"] (defScope s__law_log) := ⟨rfl, rfl, rfl, by decide +kernel, rfl, by decide +kernel, by decide +kernel⟩
theorem h__law_log {k : Nat} {f__law_names f__law_take f__law_event f__law_put_in : Fn} (d : Def K mg "_law_log" s__law_log ["pen", "world", "state", "most", "size"]) (B : Blt mg) (G__law_names : HasP P w K mg base "_law_names" (k) ["pen", "many"] f__law_names) (G__law_take : HasP P w K mg base "_law_take" (k) ["pen", "many"] f__law_take) (G__law_event : HasP P w K mg base "_law_event" (k) ["pen", "world", "a", "seen", "puts", "now"] f__law_event) (G__law_put_in : HasP P w K mg base "_law_put_in" (k) ["state", "puts"] f__law_put_in) : HasP P w K mg base "_law_log" (k + 1) ["pen", "world", "state", "most", "size"] (fnU 14 5 (c__law_log f__law_names f__law_take f__law_event f__law_put_in)) :=
  d.pure sc__law_log fun f cdv A outer s H E hr => by
    have hu := hu_of hr
    have nd := sc__law_log.nd
    exact (qs_cons (qs_set (i := 5) nd rfl (by first | exact Or.inl rfl | exact Or.inr rfl) (q_call G__law_names hr rfl (q_cons (q_var (wpv 0)) (q_cons (q_call G__law_take hr rfl (q_cons (q_var (wpv 0)) (q_cons (q_op o_add p_add (q_var (wpv 3)) (q_int wpe_int)) q_nil))) q_nil))))
      (qs_cons (qs_set (i := 6) nd rfl (by first | exact Or.inl rfl | exact Or.inr rfl) (q_lst q_nil))
      (qs_cons (qs_set (i := 7) nd rfl (by first | exact Or.inl rfl | exact Or.inr rfl) (q_var (wpv 2)))
      (qs_cons (qs_set (i := 8) nd rfl (by first | exact Or.inl rfl | exact Or.inr rfl) (q_lst q_nil))
      (qs_cons (qs_for PassesOwn.never rfl (qi_range1 rfl B.range (q_cons (q_call G__law_take hr rfl (q_cons (q_var (wpv 0)) (q_cons (q_op o_add p_add (q_var (wpv 4)) (q_int wpe_int)) q_nil))) q_nil)) (qg_name (wpg_name (i := 9) nd rfl (by first | exact Or.inl rfl | exact Or.inr rfl))) (qs_one (qs_if (q_wt (q_and (q_tcmp (op_neD hr.units) p_eqD (q_var (wpv 5)) (q_lst q_nil) (nomark _)) (q_and1 (q_wt (q_or (q_tcmp (op_eqD hr.units) p_eqD (q_var (wpv 8)) (q_lst q_nil) (nomark _)) (q_or1 (q_tcmp op_eq p_eq (q_call G__law_take hr rfl (q_cons (q_var (wpv 0)) (q_cons (q_int wpe_int) q_nil))) (q_int wpe_int) (nomark _)))))))) (qs_cons (qs_expr (q_append (q_var (wpv 8)) (q_cons (q_tup (q_cons (q_pop (q_var (wpv 5))) (q_cons (q_var (wpv 7)) (q_cons q_dnew q_nil)))) q_nil)))
      (qs_one (qs_expr (q_append (q_var (wpv 6)) (q_cons (q_tup (q_cons (q_str wpe_str) (q_cons (q_ix hu (q_ix hu (q_var (wpv 8)) (q_neg (q_int wpe_int)) (fun _ _ => rfl) (fun _ _ => rfl)) (q_int wpe_int) (fun _ _ => rfl) (fun _ _ => rfl)) q_nil))) q_nil))))) (qs_one (qs_if (q_tcmp (op_neD hr.units) p_eqD (q_var (wpv 8)) (q_lst q_nil) (nomark _)) (qs_cons (qs_set (i := 10) nd rfl (by first | exact Or.inl rfl | exact Or.inr rfl) (q_call G__law_take hr rfl (q_cons (q_var (wpv 0)) (q_cons (q_callB o_len p_len rfl B.len PySem.boot_len (q_cons (q_var (wpv 8)) q_nil)) q_nil))))
      (qs_cons (qs_asg (q_ix hu (q_var (wpv 8)) (q_var (wpv 10)) (fun _ _ => rfl) (fun _ _ => rfl)) (qg_tup rfl (qgs_cons (wpg_name (i := 11) nd rfl (by first | exact Or.inl rfl | exact Or.inr rfl)) (qgs_cons (wpg_name (i := 12) nd rfl (by first | exact Or.inl rfl | exact Or.inr rfl)) (qgs_cons (wpg_name (i := 13) nd rfl (by first | exact Or.inl rfl | exact Or.inr rfl)) qgs_nil)))))
      (qs_cons (qs_expr (q_append (q_var (wpv 6)) (q_cons (q_call G__law_event hr rfl (q_cons (q_var (wpv 0)) (q_cons (q_var (wpv 1)) (q_cons (q_var (wpv 11)) (q_cons (q_var (wpv 12)) (q_cons (q_var (wpv 13)) (q_cons (q_var (wpv 7)) q_nil))))))) q_nil)))
      (qs_cons (qs_if (q_tcmp op_eq p_eq (q_ix hu (q_ix hu (q_var (wpv 6)) (q_neg (q_int wpe_int)) (fun _ _ => rfl) (fun _ _ => rfl)) (q_int wpe_int) (fun _ _ => rfl) (fun _ _ => rfl)) (q_str wpe_str) (nomark _)) (qs_one (qs_setIx hu (q_var (wpv 13)) (q_ix hu (q_ix hu (q_var (wpv 6)) (q_neg (q_int wpe_int)) (fun _ _ => rfl) (fun _ _ => rfl)) (q_int wpe_int) (fun _ _ => rfl) (fun _ _ => rfl)) (q_ix hu (q_ix hu (q_var (wpv 6)) (q_neg (q_int wpe_int)) (fun _ _ => rfl) (fun _ _ => rfl)) (q_int wpe_int) (fun _ _ => rfl) (fun _ _ => rfl)))) (qs_one (qs_if (q_tcmp op_eq p_eq (q_ix hu (q_ix hu (q_var (wpv 6)) (q_neg (q_int wpe_int)) (fun _ _ => rfl) (fun _ _ => rfl)) (q_int wpe_int) (fun _ _ => rfl) (fun _ _ => rfl)) (q_str wpe_str) (nomark _)) (qs_one (qs_set (i := 7) nd rfl (by first | exact Or.inl rfl | exact Or.inr rfl) (q_call G__law_put_in hr rfl (q_cons (q_var (wpv 7)) (q_cons (q_var (wpv 13)) q_nil))))) qs_nil)))
      (qs_one (qs_if (q_tin hu (q_ix hu (q_ix hu (q_var (wpv 6)) (q_neg (q_int wpe_int)) (fun _ _ => rfl) (fun _ _ => rfl)) (q_int wpe_int) (fun _ _ => rfl) (fun _ _ => rfl)) (q_tup (q_cons (q_str wpe_str) (q_cons (q_str wpe_str) q_nil))) (by with_unfolding_all rfl)) (qs_one (qs_expr (q_popAt (q_var (wpv 8)) (q_cons (q_var (wpv 10)) q_nil)))) qs_nil)))))) qs_nil)))))
      (qs_one (qs_ret (q_var (wpv 6)))))))))
theorem sc__law_begun : FnScope ["log"] ["log"] (defScope s__law_begun) := ⟨rfl, rfl, rfl, by decide +kernel, rfl, by decide +kernel, by decide +kernel⟩
theorem h__law_begun {k : Nat} (d : Def K mg "_law_begun" s__law_begun ["log"]) (B : Blt mg) : HasP P w K mg base "_law_begun" (k + 1) ["log"] (fnU 1 1 (c__law_begun )) :=
  d.pure sc__law_begun fun f cdv A outer s H E hr => by
    have hu := hu_of hr
    have nd := sc__law_begun.nd
    exact (qs_one (qs_ret (q_callB (o_sorted rfl) p_sorted rfl B.sorted OG.boot_sorted (q_cons (q_compIf (Nc := ["event"]) (tn := ["event"]) (capN := []) (caps := []) rfl (qi_seq (q_var (wpv 0))) (fun _ _ _ => (qg_name (wpg_name (i := 0) (show (["event"] : List Str).Nodup by decide +kernel) rfl (by first | exact Or.inl rfl | exact Or.inr rfl)))) (fun _ _ _ => (q_tcmp op_eq p_eq (q_ix hu (q_var (wpv 0)) (q_int wpe_int) (fun _ _ => rfl) (fun _ _ => rfl)) (q_str wpe_str) (nomark _))) (fun _ _ _ => (q_ix hu (q_var (wpv 0)) (q_int wpe_int) (fun _ _ => rfl) (fun _ _ => rfl))) rfl rfl (by decide +kernel) (by decide +kernel) trivial rfl .nil rfl rfl) q_nil))))
theorem sc__law_looks : FnScope ["log", "a", "found", "put", "event"] ["log", "a"] (defScope s__law_looks) := ⟨rfl, rfl, rfl, by decide +kernel, rfl, by decide +kernel, by decide +kernel⟩
theorem h__law_looks {k : Nat} (d : Def K mg "_law_looks" s__law_looks ["log", "a"]) (B : Blt mg) : HasP P w K mg base "_law_looks" (k + 1) ["log", "a"] (fnU 5 2 (c__law_looks )) :=
  d.pure sc__law_looks fun f cdv A outer s H E hr => by
    have hu := hu_of hr
    have nd := sc__law_looks.nd
    exact (qs_cons (qs_set (i := 2) nd rfl (by first | exact Or.inl rfl | exact Or.inr rfl) (q_lst q_nil))
      (qs_cons (qs_set (i := 3) nd rfl (by first | exact Or.inl rfl | exact Or.inr rfl) (q_lst q_nil))
      (qs_cons (qs_for PassesOwn.never rfl (qi_seq (q_var (wpv 0))) (qg_name (wpg_name (i := 4) nd rfl (by first | exact Or.inl rfl | exact Or.inr rfl))) (qs_cons (qs_if (q_wt (q_and (q_tcmp op_eq p_eq (q_ix hu (q_var (wpv 4)) (q_int wpe_int) (fun _ _ => rfl) (fun _ _ => rfl)) (q_var (wpv 1)) (nomark _)) (q_and1 (q_tcmp op_eq p_eq (q_ix hu (q_var (wpv 4)) (q_int wpe_int) (fun _ _ => rfl) (fun _ _ => rfl)) (q_str wpe_str) (nomark _))))) (qs_one (qs_expr (q_append (q_var (wpv 3)) (q_cons (q_ix hu (q_var (wpv 4)) (q_int wpe_int) (fun _ _ => rfl) (fun _ _ => rfl)) q_nil)))) qs_nil)
      (qs_one (qs_if (q_wt (q_and (q_tcmp op_eq p_eq (q_ix hu (q_var (wpv 4)) (q_int wpe_int) (fun _ _ => rfl) (fun _ _ => rfl)) (q_var (wpv 1)) (nomark _)) (q_and (q_tcmp op_eq p_eq (q_ix hu (q_var (wpv 4)) (q_int wpe_int) (fun _ _ => rfl) (fun _ _ => rfl)) (q_str wpe_str) (nomark _)) (q_and1 (q_tnotin hu (q_ix hu (q_var (wpv 4)) (q_int wpe_int) (fun _ _ => rfl) (fun _ _ => rfl)) (q_var (wpv 3)) (by with_unfolding_all rfl)))))) (qs_one (qs_expr (q_append (q_var (wpv 2)) (q_cons (q_tup (q_cons (q_ix hu (q_var (wpv 4)) (q_int wpe_int) (fun _ _ => rfl) (fun _ _ => rfl)) (q_cons (q_ix hu (q_var (wpv 4)) (q_int wpe_int) (fun _ _ => rfl) (fun _ _ => rfl)) q_nil))) q_nil)))) qs_nil))))
      (qs_one (qs_ret (q_var (wpv 2)))))))
theorem sc__law_puts : FnScope ["log", "a", "found", "event"] ["log", "a"] (defScope s__law_puts) := ⟨rfl, rfl, rfl, by decide +kernel, rfl, by decide +kernel, by decide +kernel⟩
theorem h__law_puts {k : Nat} (d : Def K mg "_law_puts" s__law_puts ["log", "a"]) (B : Blt mg) : HasP P w K mg base "_law_puts" (k + 1) ["log", "a"] (fnU 4 2 (c__law_puts )) :=
  d.pure sc__law_puts fun f cdv A outer s H E hr => by
    have hu := hu_of hr
    have nd := sc__law_puts.nd
    exact (qs_cons (qs_set (i := 2) nd rfl (by first | exact Or.inl rfl | exact Or.inr rfl) q_dnew)
      (qs_cons (qs_for PassesOwn.never rfl (qi_seq (q_var (wpv 0))) (qg_name (wpg_name (i := 3) nd rfl (by first | exact Or.inl rfl | exact Or.inr rfl))) (qs_one (qs_if (q_wt (q_and (q_tcmp op_eq p_eq (q_ix hu (q_var (wpv 3)) (q_int wpe_int) (fun _ _ => rfl) (fun _ _ => rfl)) (q_var (wpv 1)) (nomark _)) (q_and1 (q_tcmp op_eq p_eq (q_ix hu (q_var (wpv 3)) (q_int wpe_int) (fun _ _ => rfl) (fun _ _ => rfl)) (q_str wpe_str) (nomark _))))) (qs_one (qs_setIx hu (q_var (wpv 2)) (q_ix hu (q_var (wpv 3)) (q_int wpe_int) (fun _ _ => rfl) (fun _ _ => rfl)) (q_ix hu (q_var (wpv 3)) (q_int wpe_int) (fun _ _ => rfl) (fun _ _ => rfl)))) qs_nil)))
      (qs_one (qs_ret (q_var (wpv 2))))))
theorem sc__law_same : FnScope ["found", "due"] ["found", "due"] (defScope s__law_same) := ⟨rfl, rfl, rfl, by decide +kernel, rfl, by decide +kernel, by decide +kernel⟩
theorem h__law_same {k : Nat} {f__law_same : Fn} (d : Def K mg "_law_same" s__law_same ["found", "due"]) (B : Blt mg) (G__law_same : HasP P w K mg base "_law_same" (k) ["found", "due"] f__law_same) : HasP P w K mg base "_law_same" (k + 1) ["found", "due"] (fnU 2 2 (c__law_same f__law_same)) :=
  d.pure sc__law_same fun f cdv A outer s H E hr => by
    have hu := hu_of hr
    have nd := sc__law_same.nd
    exact (qs_cons (qs_if (q_tcmp op_isN p_isN (q_var (wpv 1)) (q_non wpe_non) (nomark _)) (qs_one (qs_ret (q_cmp op_isN p_isN (q_var (wpv 0)) (q_non wpe_non) (nomark _)))) qs_nil)
      (qs_cons (qs_if (q_tval (q_isi (T := .bool) (by intro z; cases z) (q_var (wpv 1)) (wpe_ty rfl B.bool OG.boot_bool) rfl B.isinstance)) (qs_one (qs_ret (q_andV (q_isi (T := .bool) (by intro z; cases z) (q_var (wpv 0)) (wpe_ty rfl B.bool OG.boot_bool) rfl B.isinstance) (q_one (q_cmp op_eq p_eq (q_var (wpv 0)) (q_var (wpv 1)) (nomark _)))))) qs_nil)
      (qs_cons (qs_if (q_tval (q_isi (T := .str) (by intro z; cases z) (q_var (wpv 1)) (wpe_ty rfl B.str OG.boot_str) rfl B.isinstance)) (qs_one (qs_ret (q_andV (q_isi (T := .str) (by intro z; cases z) (q_var (wpv 0)) (wpe_ty rfl B.str OG.boot_str) rfl B.isinstance) (q_one (q_cmp op_eq p_eq (q_var (wpv 0)) (q_var (wpv 1)) (nomark _)))))) qs_nil)
      (qs_cons (qs_if (q_tval (q_isi (T := .int) (by intro z; cases z) (q_var (wpv 1)) (wpe_ty rfl B.int OG.boot_int) rfl B.isinstance)) (qs_one (qs_ret (q_andV (q_isi (T := .int) (by intro z; cases z) (q_var (wpv 0)) (wpe_ty rfl B.int OG.boot_int) rfl B.isinstance) (q_andV (q_notV (q_isi (T := .bool) (by intro z; cases z) (q_var (wpv 0)) (wpe_ty rfl B.bool OG.boot_bool) rfl B.isinstance)) (q_one (q_cmp op_eq p_eq (q_var (wpv 0)) (q_var (wpv 1)) (nomark _))))))) qs_nil)
      (qs_cons (qs_if (q_wt (q_or (q_tcmp op_ne p_ne (q_isi (T := .tuple) (by intro z; cases z) (q_var (wpv 1)) (wpe_ty rfl B.tuple OG.boot_tuple) rfl B.isinstance) (q_isi (T := .tuple) (by intro z; cases z) (q_var (wpv 0)) (wpe_ty rfl B.tuple OG.boot_tuple) rfl B.isinstance) (nomark _)) (q_or1 (q_tcmp op_ne p_ne (q_isi (T := .list) (by intro z; cases z) (q_var (wpv 1)) (wpe_ty rfl B.list OG.boot_list) rfl B.isinstance) (q_isi (T := .list) (by intro z; cases z) (q_var (wpv 0)) (wpe_ty rfl B.list OG.boot_list) rfl B.isinstance) (nomark _))))) (qs_one (qs_ret (q_bl wpe_bl))) qs_nil)
      (qs_one (qs_ret (q_andV (q_cmp op_eq p_eq (q_callB o_len p_len rfl B.len PySem.boot_len (q_cons (q_var (wpv 0)) q_nil)) (q_callB o_len p_len rfl B.len PySem.boot_len (q_cons (q_var (wpv 1)) q_nil)) (nomark _)) (q_one (q_notin hu (q_bl wpe_bl) (q_comp (Nc := ["one", "other"]) (tn := ["one", "other"]) (capN := []) (caps := []) rfl (qi_zip rfl B.zip (q_var (wpv 0)) (q_var (wpv 1))) (fun _ _ _ => (qg_tup rfl (qgs_cons (wpg_name (i := 0) (show (["one", "other"] : List Str).Nodup by decide +kernel) rfl (by first | exact Or.inl rfl | exact Or.inr rfl)) (qgs_cons (wpg_name (i := 1) (show (["one", "other"] : List Str).Nodup by decide +kernel) rfl (by first | exact Or.inl rfl | exact Or.inr rfl)) qgs_nil)))) (fun _ _ _ => (q_call G__law_same hr rfl (q_cons (q_var (wpv 0)) (q_cons (q_var (wpv 1)) q_nil)))) rfl rfl (by decide +kernel) (by decide +kernel) trivial rfl .nil rfl rfl) (by with_unfolding_all rfl)))))))))))
theorem sc_Course_note_look : FnScope ["self", "a", "box", "number"] ["self", "a", "box", "number"] (defScope s_Course_note_look) := ⟨rfl, rfl, rfl, by decide +kernel, rfl, by decide +kernel, by decide +kernel⟩
theorem h_Course_note_look {k : Nat} {cCourse : Cl} {fa : Addr} {fd : FuncData} (F : Fun K "note_look" "Course.note_look" s_Course_note_look fa fd) (bi : Binds K fd ["self", "a", "box", "number"] []) (mt : Meth K cCourse.C "note_look" fa) (B : Blt mg) (TCourse : TC K cCourse ["ends", "looks", "needs", "puts", "before"]) : MHas P w K mg base cCourse "note_look" (k + 1) ["self", "a", "box", "number"] (fnU 4 4 (c_Course_note_look cCourse)) :=
  ⟨⟨fa, fd, mt, F.pure sc_Course_note_look fun cdv A outer s H E hr => (by
    have hu := hu_of hr
    have nd := sc_Course_note_look.nd
    exact (qs_one (qs_if (q_tnotin hu (q_var (wpv 2)) (q_ix hu (q_fld TCourse.cl (TCourse.na 3 rfl) (TCourse.ix rfl) (q_var (wpv 0))) (q_var (wpv 1)) (fun _ _ => rfl) (fun _ _ => rfl)) (by with_unfolding_all rfl)) (qs_cons (qs_expr (q_append (q_ix hu (q_fld TCourse.cl (TCourse.na 1 rfl) (TCourse.ix rfl) (q_var (wpv 0))) (q_var (wpv 1)) (fun _ _ => rfl) (fun _ _ => rfl)) (q_cons (q_tup (q_cons (q_var (wpv 2)) (q_cons (q_var (wpv 3)) q_nil))) q_nil)))
      (qs_one (qs_setIxT hu (q_ix hu (q_fld TCourse.cl (TCourse.na 2 rfl) (TCourse.ix rfl) (q_var (wpv 0))) (q_var (wpv 1)) (fun _ _ => rfl) (fun _ _ => rfl)) (q_cons (q_var (wpv 2)) (q_cons (q_var (wpv 3)) q_nil)) (q_bl wpe_bl)))) qs_nil))), bi⟩⟩
theorem sc_Course_enter : FnScope ["self", "a"] ["self", "a"] (defScope s_Course_enter) := ⟨rfl, rfl, rfl, by decide +kernel, rfl, by decide +kernel, by decide +kernel⟩
theorem h_Course_enter {k : Nat} {cCourse : Cl} {fa : Addr} {fd : FuncData} (F : Fun K "enter" "Course.enter" s_Course_enter fa fd) (bi : Binds K fd ["self", "a"] []) (mt : Meth K cCourse.C "enter" fa) (B : Blt mg) (TCourse : TC K cCourse ["ends", "looks", "needs", "puts", "before"]) : MHas P w K mg base cCourse "enter" (k + 1) ["self", "a"] (fnU 2 2 (c_Course_enter cCourse)) :=
  ⟨⟨fa, fd, mt, F.pure sc_Course_enter fun cdv A outer s H E hr => (by
    have hu := hu_of hr
    have nd := sc_Course_enter.nd
    exact (qs_cons (qs_setIx hu (q_fld TCourse.cl (TCourse.na 4 rfl) (TCourse.ix rfl) (q_var (wpv 0))) (q_var (wpv 1)) (q_compIfD (Nc := ["one", "self"]) (tn := ["one"]) (capN := ["self"]) (caps := [0]) rfl (q_fld TCourse.cl (TCourse.na 0 rfl) (TCourse.ix rfl) (q_var (wpv 0))) (fun _ _ _ => (qg_name (wpg_name (i := 0) (show (["one", "self"] : List Str).Nodup by decide +kernel) rfl (by first | exact Or.inl rfl | exact Or.inr rfl)))) (fun _ _ _ => (q_tcmp op_ne p_ne (q_ix hu (q_fld TCourse.cl (TCourse.na 0 rfl) (TCourse.ix rfl) (q_var (wpv 1))) (q_var (wpv 0)) (fun _ _ => rfl) (fun _ _ => rfl)) (q_str wpe_str) (nomark _))) (fun _ _ _ => (q_var (wpv 0))) rfl rfl (by decide +kernel) (by decide +kernel) ⟨rfl, trivial⟩ rfl (.cons ⟨rfl, rfl, rfl, _, rfl⟩ .nil) rfl rfl))
      (qs_cons (qs_setIx hu (q_fld TCourse.cl (TCourse.na 0 rfl) (TCourse.ix rfl) (q_var (wpv 0))) (q_var (wpv 1)) (q_str wpe_str))
      (qs_cons (qs_setIx hu (q_fld TCourse.cl (TCourse.na 1 rfl) (TCourse.ix rfl) (q_var (wpv 0))) (q_var (wpv 1)) (q_lst q_nil))
      (qs_cons (qs_setIx hu (q_fld TCourse.cl (TCourse.na 2 rfl) (TCourse.ix rfl) (q_var (wpv 0))) (q_var (wpv 1)) q_dnewT)
      (qs_one (qs_setIx hu (q_fld TCourse.cl (TCourse.na 3 rfl) (TCourse.ix rfl) (q_var (wpv 0))) (q_var (wpv 1)) q_dnew))))))), bi⟩⟩
theorem sc_Course_follow : FnScope ["self", "event", "a"] ["self", "event"] (defScope s_Course_follow) := ⟨rfl, rfl, rfl, by decide +kernel, rfl, by decide +kernel, by decide +kernel⟩
theorem h_Course_follow {k : Nat} {f_Course_enter f_Course_note_look : Fn} {cCourse : Cl} {fa : Addr} {fd : FuncData} (F : Fun K "follow" "Course.follow" s_Course_follow fa fd) (bi : Binds K fd ["self", "event"] []) (mt : Meth K cCourse.C "follow" fa) (B : Blt mg) (TCourse : TC K cCourse ["ends", "looks", "needs", "puts", "before"]) (M_Course_enter : MHas P w K mg base cCourse "enter" (k) ["self", "a"] f_Course_enter) (M_Course_note_look : MHas P w K mg base cCourse "note_look" (k) ["self", "a", "box", "number"] f_Course_note_look) : MHas P w K mg base cCourse "follow" (k + 1) ["self", "event"] (fnU 3 2 (c_Course_follow f_Course_enter f_Course_note_look cCourse)) :=
  ⟨⟨fa, fd, mt, F.pure sc_Course_follow fun cdv A outer s H E hr => (by
    have hu := hu_of hr
    have nd := sc_Course_follow.nd
    exact (qs_cons (qs_set (i := 2) nd rfl (by first | exact Or.inl rfl | exact Or.inr rfl) (q_ix hu (q_var (wpv 1)) (q_int wpe_int) (fun _ _ => rfl) (fun _ _ => rfl)))
      (qs_one (qs_if (q_tcmp op_eq p_eq (q_ix hu (q_var (wpv 1)) (q_int wpe_int) (fun _ _ => rfl) (fun _ _ => rfl)) (q_str wpe_str) (nomark _)) (qs_one (qs_expr (q_meth TCourse.cl M_Course_enter hr (TCourse.nm (by decide +kernel)) (q_var (wpv 0)) (q_cons (q_var (wpv 2)) q_nil)))) (qs_one (qs_if (q_tcmp op_eq p_eq (q_ix hu (q_var (wpv 1)) (q_int wpe_int) (fun _ _ => rfl) (fun _ _ => rfl)) (q_str wpe_str) (nomark _)) (qs_one (qs_expr (q_meth TCourse.cl M_Course_note_look hr (TCourse.nm (by decide +kernel)) (q_var (wpv 0)) (q_cons (q_var (wpv 2)) (q_cons (q_ix hu (q_var (wpv 1)) (q_int wpe_int) (fun _ _ => rfl) (fun _ _ => rfl)) (q_cons (q_ix hu (q_var (wpv 1)) (q_int wpe_int) (fun _ _ => rfl) (fun _ _ => rfl)) q_nil)))))) (qs_one (qs_if (q_tcmp op_eq p_eq (q_ix hu (q_var (wpv 1)) (q_int wpe_int) (fun _ _ => rfl) (fun _ _ => rfl)) (q_str wpe_str) (nomark _)) (qs_one (qs_setIx hu (q_ix hu (q_fld TCourse.cl (TCourse.na 3 rfl) (TCourse.ix rfl) (q_var (wpv 0))) (q_var (wpv 2)) (fun _ _ => rfl) (fun _ _ => rfl)) (q_ix hu (q_var (wpv 1)) (q_int wpe_int) (fun _ _ => rfl) (fun _ _ => rfl)) (q_ix hu (q_var (wpv 1)) (q_int wpe_int) (fun _ _ => rfl) (fun _ _ => rfl)))) (qs_one (qs_setIx hu (q_fld TCourse.cl (TCourse.na 0 rfl) (TCourse.ix rfl) (q_var (wpv 0))) (q_var (wpv 2)) (q_ix hu (q_var (wpv 1)) (q_int wpe_int) (fun _ _ => rfl) (fun _ _ => rfl)))))))))))), bi⟩⟩
theorem sc_Course_init : FnScope ["self"] ["self"] (defScope s_Course_init) := ⟨rfl, rfl, rfl, by decide +kernel, rfl, by decide +kernel, by decide +kernel⟩
theorem h_Course_init {k : Nat} {cCourse : Cl} {fa : Addr} {fd : FuncData} (F : Fun K "__init__" "Course.__init__" s_Course_init fa fd) (bi : Binds K fd ["self"] []) (mk : Mk K cCourse.C fa) (hmg : mg "Course" = some (.ref cCourse.C)) (B : Blt mg) (TCourse : TC K cCourse ["ends", "looks", "needs", "puts", "before"]) : CMk P w K mg base cCourse "Course" (k + 1) ["self"] (fnU 1 1 (c_Course_init cCourse)) :=
  ⟨⟨fa, fd, mk, F.pure sc_Course_init fun cdv A outer s H E hr => (by
    have hu := hu_of hr
    have nd := sc_Course_init.nd
    exact (qs_cons (qs_setF TCourse.cl (TCourse.na 0 rfl) (TCourse.ix rfl) (q_var (wpv 0)) q_dnew)
      (qs_cons (qs_setF TCourse.cl (TCourse.na 1 rfl) (TCourse.ix rfl) (q_var (wpv 0)) q_dnew)
      (qs_cons (qs_setF TCourse.cl (TCourse.na 2 rfl) (TCourse.ix rfl) (q_var (wpv 0)) q_dnew)
      (qs_cons (qs_setF TCourse.cl (TCourse.na 3 rfl) (TCourse.ix rfl) (q_var (wpv 0)) q_dnew)
      (qs_one (qs_setF TCourse.cl (TCourse.na 4 rfl) (TCourse.ix rfl) (q_var (wpv 0)) q_dnew))))))), bi, hmg⟩, by rw [TCourse.ns]; decide +kernel, by rw [TCourse.ns]; decide⟩
theorem sc_course_of : FnScope ["log", "course", "event"] ["log"] (defScope s_course_of) := ⟨rfl, rfl, rfl, by decide +kernel, rfl, by decide +kernel, by decide +kernel⟩
theorem h_course_of {k : Nat} {f_Course_follow f_Course_init : Fn} {cCourse : Cl} (d : Def K mg "course_of" s_course_of ["log"]) (B : Blt mg) (TCourse : TC K cCourse ["ends", "looks", "needs", "puts", "before"]) (M_Course_follow : MHas P w K mg base cCourse "follow" (k + 1) ["self", "event"] f_Course_follow) (M_Course : CMk P w K mg base cCourse "Course" k ["self"] f_Course_init) : HasP P w K mg base "course_of" (k + 1 + 1) ["log"] (fnU 3 1 (c_course_of f_Course_follow f_Course_init cCourse)) :=
  d.pure sc_course_of fun f cdv A outer s H E hr => by
    have hu := hu_of hr
    have nd := sc_course_of.nd
    exact (qs_cons (qs_set (i := 1) nd rfl (by first | exact Or.inl rfl | exact Or.inr rfl) (q_make0 M_Course hr rfl))
      (qs_cons (qs_for PassesOwn.never rfl (qi_seq (q_var (wpv 0))) (qg_name (wpg_name (i := 2) nd rfl (by first | exact Or.inl rfl | exact Or.inr rfl))) (qs_one (qs_expr (q_meth TCourse.cl M_Course_follow hr (TCourse.nm (by decide +kernel)) (q_var (wpv 1)) (q_cons (q_var (wpv 2)) q_nil)))))
      (qs_one (qs_ret (q_var (wpv 1))))))
theorem sc_outer_looks : FnScope ["log", "a"] ["log", "a"] (defScope s_outer_looks) := ⟨rfl, rfl, rfl, by decide +kernel, rfl, by decide +kernel, by decide +kernel⟩
theorem h_outer_looks {k : Nat} {f_course_of : Fn} {cCourse : Cl} (d : Def K mg "outer_looks" s_outer_looks ["log", "a"]) (B : Blt mg) (TCourse : TC K cCourse ["ends", "looks", "needs", "puts", "before"]) (G_course_of : HasP P w K mg base "course_of" (k) ["log"] f_course_of) : HasP P w K mg base "outer_looks" (k + 1) ["log", "a"] (fnU 2 2 (c_outer_looks f_course_of cCourse)) :=
  d.pure sc_outer_looks fun f cdv A outer s H E hr => by
    have hu := hu_of hr
    have nd := sc_outer_looks.nd
    exact (qs_one (qs_ret (q_ix hu (q_fld TCourse.cl (TCourse.na 1 rfl) (TCourse.ix rfl) (q_call G_course_of hr rfl (q_cons (q_var (wpv 0)) q_nil))) (q_var (wpv 1)) (fun _ _ => rfl) (fun _ _ => rfl))))
theorem sc_puts_of : FnScope ["log", "a"] ["log", "a"] (defScope s_puts_of) := ⟨rfl, rfl, rfl, by decide +kernel, rfl, by decide +kernel, by decide +kernel⟩
noncomputable def c_puts_of (f_course_of : Fn) (cCourse : Cl) : CS :=
  (cRet (cSortedI (cOp fIx (cFld cCourse 3 (cCB f_course_of (cCons (cVar 0) cNil))) (cVar 1))))
theorem e_puts_of {f_course_of : Fn} {cCourse : Cl} {a0 a1 : U} {S : Sto} : fnU 2 2 (c_puts_of f_course_of cCourse) [a0, a1] S = ((c_puts_of f_course_of cCourse) [some a0, some a1] S).bind kFn := x_fn rfl
theorem h_puts_of {k : Nat} {f_course_of : Fn} {cCourse : Cl} (d : Def K mg "puts_of" s_puts_of ["log", "a"]) (B : Blt mg) (TCourse : TC K cCourse ["ends", "looks", "needs", "puts", "before"]) (G_course_of : HasP P w K mg base "course_of" (k) ["log"] f_course_of) : HasP P w K mg base "puts_of" (k + 1) ["log", "a"] (fnU 2 2 (c_puts_of f_course_of cCourse)) :=
  d.pure sc_puts_of fun f cdv A outer s H E hr => by
    have hu := hu_of hr
    have nd := sc_puts_of.nd
    exact (qs_one (qs_ret (q_sortedI rfl rfl B.sorted OG.boot_sorted (q_ix hu (q_fld TCourse.cl (TCourse.na 3 rfl) (TCourse.ix rfl) (q_call G_course_of hr rfl (q_cons (q_var (wpv 0)) q_nil))) (q_var (wpv 1)) (fun _ _ => rfl) (fun _ _ => rfl)))))
theorem sc_law : FnScope ["script", "pen", "world", "turn", "log", "handed", "a", "due", "rows", "again", "looks", "puts"] ["script"] (defScope s_law) := ⟨rfl, rfl, rfl, by decide +kernel, rfl, by decide +kernel, by decide +kernel⟩
noncomputable def b_law_0 (f__law_world f__law_log f__law_state f__law_begun f__law_puts f_outer_looks f_puts_of f__law_same f__law_looks : Fn) : CS :=
  (cSeq (cSet 10 (cCB f_outer_looks (cCons (cVar 5) (cCons (cVar 6) cNil))))
    (cSeq (cSet 11 (cCB f_puts_of (cCons (cVar 5) (cCons (cVar 6) cNil))))
    (cSeq (cIfS (cOr (cNot (cTest (cCB f__law_same (cCons (cVar 10) (cCons (cCB f__law_looks (cCons (cVar 4) (cCons (cVar 6) cNil))) cNil))))) (cNot (cTest (cCB f__law_same (cCons (cVar 11) (cCons (cVar 8) cNil)))))) (cRet (cC (.bl false))) cSkip)
    (cSeq (cDrop (cBM fAppend (cVar 10) (cCons (cTup (cCons (cC (.int 0)) (cCons (cC (.int 0)) cNil))) cNil)))
    (cDrop (cBM fAppend (cVar 11) (cCons (cTup (cCons (cC (.int 9)) (cCons (cC (.int 0)) cNil))) cNil)))))))
noncomputable def b_law_1 (f__law_world f__law_log f__law_state f__law_begun f__law_puts f_outer_looks f_puts_of f__law_same f__law_looks : Fn) : CS :=
  (cSeq (cSet 7 (cCB f__law_puts (cCons (cVar 4) (cCons (cVar 6) cNil))))
    (cSeq (cSet 8 (cComp (iTp (cCB fSorted (cCons (cVar 7) cNil))) (gNm 0) (cTup (cCons (cVar 0) (cCons (cOp fIx (cVar 1) (cVar 0)) cNil))) 1 [7]))
    (cFor (iRange1 (cCons (cC (.int 2)) cNil)) (gNm 9) (b_law_0 f__law_world f__law_log f__law_state f__law_begun f__law_puts f_outer_looks f_puts_of f__law_same f__law_looks))))
noncomputable def b_law_2 (f__law_world f__law_log f__law_state f__law_begun f__law_puts f_outer_looks f_puts_of f__law_same f__law_looks : Fn) : CS :=
  (cSeq (cSet 4 (cCB f__law_log (cCons (cVar 1) (cCons (cVar 2) (cCons (cCB f__law_state (cCons (cVar 1) (cCons (cVar 2) cNil))) (cCons (cC (.int 6)) (cCons (cC (.int 60)) cNil)))))))
    (cSeq (cSet 5 (cCB fList (cCons (cVar 4) cNil)))
    (cSeq (cFor (iTp (cCB f__law_begun (cCons (cVar 4) cNil))) (gNm 6) (b_law_1 f__law_world f__law_log f__law_state f__law_begun f__law_puts f_outer_looks f_puts_of f__law_same f__law_looks))
    (cIfS (cTest (cOp (fEqD true) (cVar 5) (cVar 4))) (cRet (cC (.bl false))) cSkip))))
noncomputable def c_law (f__law_world f__law_log f__law_state f__law_begun f__law_puts f_outer_looks f_puts_of f__law_same f__law_looks : Fn) : CS :=
  (cSeq (cSet 2 (cCB f__law_world (cCons (cVar 1) cNil)))
    (cSeq (cFor (iRange1 (cCons (cC (.int 2)) cNil)) (gNm 3) (b_law_2 f__law_world f__law_log f__law_state f__law_begun f__law_puts f_outer_looks f_puts_of f__law_same f__law_looks))
    (cRet (cC (.bl true)))))
theorem h_law {k : Nat} {f__law_world f__law_log f__law_state f__law_begun f__law_puts f_outer_looks f_puts_of f__law_same f__law_looks : Fn} {fa : Addr} {fd : FuncData} (F : Fun K "law" "law" s_law fa fd) (B : Blt mg) (G__law_pen : Has P w K mg base "_law_pen" k ["script"] (spPenX K)) (G__law_world : HasP P w K mg base "_law_world" k ["pen"] f__law_world) (G__law_log : HasP P w K mg base "_law_log" k ["pen", "world", "state", "most", "size"] f__law_log) (G__law_state : HasP P w K mg base "_law_state" k ["pen", "world"] f__law_state) (G__law_begun : HasP P w K mg base "_law_begun" k ["log"] f__law_begun) (G__law_puts : HasP P w K mg base "_law_puts" k ["log", "a"] f__law_puts) (G_outer_looks : HasP P w K mg base "outer_looks" k ["log", "a"] f_outer_looks) (G_puts_of : HasP P w K mg base "puts_of" k ["log", "a"] f_puts_of) (G__law_same : HasP P w K mg base "_law_same" k ["found", "due"] f__law_same) (G__law_looks : HasP P w K mg base "_law_looks" k ["log", "a"] f__law_looks)
    (ok : ∀ (ns : List Int) (a c : Int), 0 ≤ a → 0 ≤ c → ∃ ρ' S', c_law f__law_world f__law_log f__law_state f__law_begun f__law_puts f_outer_looks f_puts_of f__law_same f__law_looks [none, some (.ref 1), none, none, none, none, none, none, none, none, none, none] [.lst (ns.map U.int), .lst [.ref 0, .int a, .int c]] = some (.rt (.bl true), ρ', S')) : FnOk P w K mg base CX0 (k + 1) fa fd ["script"] (spLaw K) := by
  refine Fun.okW F sc_law (fun vs H Q E h => (by obtain ⟨a, ns, rfl, _⟩ := h; rfl)) fun cdv A outer s H vs Q E hr h => ?_
  obtain ⟨a, ns, rfl, hS, hlen, q⟩ := h
  have hu := hu_of hr
  have nd := sc_law.nd
  refine ⟨_, wpss_cons (u := tS K (c_law f__law_world f__law_log f__law_state f__law_begun f__law_puts f_outer_looks f_puts_of f__law_same f__law_looks)) (wps_set (i := 1) nd rfl (by first | exact Or.inl rfl | exact Or.inr rfl) (wpe_fn G__law_pen hr rfl (wpa_cons (wpv 0) wpa_nil))) (qs_cons (qs_set (i := 2) nd rfl (by first | exact Or.inl rfl | exact Or.inr rfl) (q_call G__law_world hr rfl (q_cons (q_var (wpv 1)) q_nil)))
      (qs_cons (qs_for PassesOwn.never rfl (qi_range1 rfl B.range (q_cons (q_int wpe_int) q_nil)) (qg_name (wpg_name (i := 3) nd rfl (by first | exact Or.inl rfl | exact Or.inr rfl))) (qs_cons (qs_set (i := 4) nd rfl (by first | exact Or.inl rfl | exact Or.inr rfl) (q_call G__law_log hr rfl (q_cons (q_var (wpv 1)) (q_cons (q_var (wpv 2)) (q_cons (q_call G__law_state hr rfl (q_cons (q_var (wpv 1)) (q_cons (q_var (wpv 2)) q_nil))) (q_cons (q_int wpe_int) (q_cons (q_int wpe_int) q_nil)))))))
      (qs_cons (qs_set (i := 5) nd rfl (by first | exact Or.inl rfl | exact Or.inr rfl) (q_callTy call_list_of p_list rfl B.list OG.boot_list (q_cons (q_var (wpv 4)) q_nil)))
      (qs_cons (qs_for PassesOwn.never rfl (qi_seq (q_call G__law_begun hr rfl (q_cons (q_var (wpv 4)) q_nil))) (qg_name (wpg_name (i := 6) nd rfl (by first | exact Or.inl rfl | exact Or.inr rfl))) (qs_cons (qs_set (i := 7) nd rfl (by first | exact Or.inl rfl | exact Or.inr rfl) (q_call G__law_puts hr rfl (q_cons (q_var (wpv 4)) (q_cons (q_var (wpv 6)) q_nil))))
      (qs_cons (qs_setComp (Nc := ["box", "due"]) (tn := ["box"]) (capN := ["due"]) (caps := [7]) rfl (qi_seq (q_callB (o_sorted rfl) p_sorted rfl B.sorted OG.boot_sorted (q_cons (q_var (wpv 7)) q_nil))) (fun _ _ _ => (qg_name (wpg_name (i := 0) (show (["box", "due"] : List Str).Nodup by decide +kernel) rfl (by first | exact Or.inl rfl | exact Or.inr rfl)))) (fun _ _ _ => (q_tup (q_cons (q_var (wpv 0)) (q_cons (q_ix hu (q_var (wpv 1)) (q_var (wpv 0)) (fun _ _ => rfl) (fun _ _ => rfl)) q_nil)))) rfl rfl (by decide +kernel) (by decide +kernel) ⟨rfl, trivial⟩ rfl (.cons ⟨rfl, rfl, rfl, _, rfl⟩ .nil) rfl rfl nd rfl rfl rfl)
      (qs_one (qs_for PassesOwn.never rfl (qi_range1 rfl B.range (q_cons (q_int wpe_int) q_nil)) (qg_name (wpg_name (i := 9) nd rfl (by first | exact Or.inl rfl | exact Or.inr rfl))) (qs_cons (qs_set (i := 10) nd rfl (by first | exact Or.inl rfl | exact Or.inr rfl) (q_call G_outer_looks hr rfl (q_cons (q_var (wpv 5)) (q_cons (q_var (wpv 6)) q_nil))))
      (qs_cons (qs_set (i := 11) nd rfl (by first | exact Or.inl rfl | exact Or.inr rfl) (q_call G_puts_of hr rfl (q_cons (q_var (wpv 5)) (q_cons (q_var (wpv 6)) q_nil))))
      (qs_cons (qs_if (q_wt (q_or (q_tnot (q_tval (q_call G__law_same hr rfl (q_cons (q_var (wpv 10)) (q_cons (q_call G__law_looks hr rfl (q_cons (q_var (wpv 4)) (q_cons (q_var (wpv 6)) q_nil))) q_nil))))) (q_or1 (q_tnot (q_tval (q_call G__law_same hr rfl (q_cons (q_var (wpv 11)) (q_cons (q_var (wpv 8)) q_nil)))))))) (qs_one (qs_ret (q_bl wpe_bl))) qs_nil)
      (qs_cons (qs_expr (q_append (q_var (wpv 10)) (q_cons (q_tup (q_cons (q_int wpe_int) (q_cons (q_int wpe_int) q_nil))) q_nil)))
      (qs_one (qs_expr (q_append (q_var (wpv 11)) (q_cons (q_tup (q_cons (q_int wpe_int) (q_cons (q_int wpe_int) q_nil))) q_nil)))))))))))))
      (qs_one (qs_if (q_tcmp (op_neD hr.units) p_eqD (q_var (wpv 5)) (q_var (wpv 4)) (nomark _)) (qs_one (qs_ret (q_bl wpe_bl))) qs_nil))))))
      (qs_one (qs_ret (q_bl wpe_bl))))), ?_⟩
  refine ⟨_, rfl, a, ns, rfl, hS, fun p xs H1 s1 P1 n1 => ?_⟩
  exact law_end P1 ok q
end
end OL
set_option maxHeartbeats 1000000
namespace OL
open PySem PySem.Spec PyProof.Rows L2 OG OP OQ
def PsI (st : OQ.St) : Prop := ∀ a t, valG st a = some t → (t.ps.map (·.1)).Nodup
theorem nd_put {ps : List (Int × Int)} {b x : Int} (h : (ps.map (·.1)).Nodup) : ((putG ps b x).map (·.1)).Nodup := by
  rw [putG_keys]
  unfold addL
  split
  · exact h
  · rename_i hn
    refine List.nodup_append.mpr ⟨h, by simp, fun y hy z hz e => ?_⟩
    rw [List.mem_singleton.mp hz] at e
    exact hn (by rw [← e]; simpa using hy)
theorem psI_stp {n w : Int} {st : OQ.St} {e : Ev} (ok : EvOk n w st e) (h : PsI st) : PsI (stp st e) := by
  intro a t ht
  by_cases ea : a = e.at
  · cases e with
    | beg b =>
      have eb : a = b := ea
      subst eb
      rw [val_stp_beg ok.2.2] at ht
      cases ht
      simp [att0]
    | look b1 b2 b3 =>
      have eb : a = b1 := ea
      subst eb
      obtain ⟨bd, t0, t1, t2, t3⟩ := id ok
      have := val_stp_same (e := .look a b2 b3) t1
      simp only [Ev.at] at this
      rw [this] at ht; cases ht
      have := h a t0 t1
      simp only [Att.ev]
      split <;> exact this
    | put b1 b2 b3 =>
      have eb : a = b1 := ea
      subst eb
      obtain ⟨_, t0, t1, t2⟩ := id ok
      have := val_stp_same (e := .put a b2 b3) t1
      simp only [Ev.at] at this
      rw [this] at ht; cases ht
      exact nd_put (h a t0 t1)
    | fin d b1 =>
      have eb : a = b1 := ea
      subst eb
      obtain ⟨t0, t1, t2⟩ := id ok
      have := val_stp_same (e := .fin d a) t1
      simp only [Ev.at] at this
      rw [this] at ht; cases ht
      exact h a t0 t1
  · rw [val_stp_other ea] at ht
    exact h a t ht
theorem psI_run {n w : Int} : ∀ (es : List Ev) (st : OQ.St), LogF n w st es → PsI st → PsI (runE st es)
  | [], st, _, h => h
  | e :: es, st, lf, h => psI_run es (stp st e) lf.2 (psI_stp lf.1 h)
theorem psI0 : PsI [] := fun a t h => by simp [valG] at h
theorem sortP_keys {ps : List (Int × Int)} (h : (ps.map (·.1)).Nodup) : sortP ps = (sortI (ps.map (·.1))).map fun b => (b, (valG ps b).getD 0) := by
  have nd : (sortI (ps.map (·.1))).Nodup := (sortI_perm _).nodup_iff.mpr h
  have hs := sortI_sorted (ps.map (·.1))
  have st : (sortI (ps.map (·.1))).Pairwise (fun a b => a < b) := by
    have := List.Pairwise.and hs nd
    exact this.imp fun h => by omega
  have val : ∀ p ∈ ps, valG ps p.1 = some p.2 := fun p hp => by
    obtain ⟨l, r, e⟩ := List.append_of_mem hp
    rw [e] at h ⊢
    refine valG_skip fun z => ?_
    rw [List.map_append, List.map_cons] at h
    exact (List.nodup_append.mp h).2.2 _ z _ List.mem_cons_self rfl
  refine sortP_of (List.Pairwise.map _ (fun a b hab => by simp [ltP]; omega) st) fun x => ⟨fun hx => ?_, fun hx => ?_⟩
  · obtain ⟨b, hb, rfl⟩ := List.mem_map.mp hx
    obtain ⟨p, hp, rfl⟩ := List.mem_map.mp ((sortI_perm _).mem_iff.mp hb)
    rw [val p hp]
    exact hp
  · refine List.mem_map.mpr ⟨x.1, (sortI_perm _).mem_iff.mpr (List.mem_map.mpr ⟨x, hx, rfl⟩), ?_⟩
    rw [val x hx]; rfl
section
variable {c : Cl} {n w : Int} {S : Sto} {evs : List Ev} {a : Int} {t : Att} {N l : Nat}
noncomputable def P_outer (c : Cl) : Fn := fnU 2 2 (c_outer_looks (P_course c) c)
theorem cB2 {st : OQ.St} {j : Nat} {o : O} (hj : j < 4) (h : valG st a = some t) (hk : (keysS st).Nodup) (ho : (blk t)[j]? = some o) : ∃ k, valG (encR S.length j st 0) (.inl a) = some (.ref (S.length + k)) ∧ (crs c S st)[S.length + k]? = some o := by
  obtain ⟨s1, s2, rfl⟩ := split_val h
  exact ⟨_, val_encR hk, by rw [crs_get hj]; exact ho⟩
theorem outer_ok (hns : c.ns.length = 5) (hl : S[l]? = some (.lst (evs.map Ev.u))) (lg : LogOk n w N evs) (he : evs.length ≤ 900) (hv : valG (runE [] evs) a = some t) :
    ∃ G k, P_outer c [.ref l, .int a] S = some (.ref (S.length + k), S ++ G) ∧ G[k]? = some (.lst (t.lk.map pU)) := by
  unfold P_outer
  rw [e_outer_looks]
  have h1 := course_ok (c := c) (N := N) hns hl lg.lo he
  obtain ⟨k, v1, g1⟩ := cB2 (c := c) (S := S) (j := 1) (by omega) hv lg.kd rfl
  obtain ⟨C, hC⟩ : ∃ C, crs c S (runE [] evs) = S ++ C := ⟨_, rfl⟩
  have f2 : (crs c S (runE [] evs))[S.length + 2]? = some (.dic (encR S.length 1 (runE [] evs) 0)) := hd2
  have F1 : kFld c 1 (.ref S.length, crs c S (runE [] evs)) = some (.ref (S.length + 2), crs c S (runE [] evs)) := x_fld0 hd0 rfl
  refine ⟨C, k, ?_, ?_⟩
  · rw [← hC]
    rwa [c_outer_looks, h1, F1, f2, v1]
  · rw [hC, ga] at g1; exact g1
noncomputable def P_putsof (c : Cl) : Fn := fnU 2 2 (c_puts_of (P_course c) c)
theorem putsof_ok (hns : c.ns.length = 5) (hl : S[l]? = some (.lst (evs.map Ev.u))) (lg : LogOk n w N evs) (he : evs.length ≤ 60) (hv : valG (runE [] evs) a = some t) :
    ∃ G k, P_putsof c [.ref l, .int a] S = some (.ref (S.length + k), S ++ G) ∧ G[k]? = some (.lst ((sortP t.ps).map pP)) := by
  unfold P_putsof
  rw [e_puts_of]
  have h1 := course_ok (c := c) (N := N) hns hl lg.lo (by omega)
  obtain ⟨k, v3, g3⟩ := cB2 (c := c) (S := S) (j := 3) (by omega) hv lg.kd rfl
  obtain ⟨C, hC⟩ : ∃ C, crs c S (runE [] evs) = S ++ C := ⟨_, rfl⟩
  have f4 : (crs c S (runE [] evs))[S.length + 4]? = some (.dic (encR S.length 3 (runE [] evs) 0)) := hd4
  have F3 : kFld c 3 (.ref S.length, crs c S (runE [] evs)) = some (.ref (S.length + 4), crs c S (runE [] evs)) := x_fld0 hd0 rfl
  have nk := psI_run evs [] lg.lo psI0 a t hv
  have nd : t.ps.Nodup := by
    have := List.pairwise_map.mp nk
    exact this.imp fun h e => h (by rw [e])
  have ln : t.ps.length < 64 := by have := (lg.pb a t hv).1; omega
  have hi : cOp fIx (cFld c 3 (cCB (P_course c) (cCons (cVar 0) cNil))) (cVar 1) [some (.ref l), some (.int a)] S = some (.ref (S.length + k), crs c S (runE [] evs)) := by
    rwa [h1, F3, f4, v3]
  have hs : cSortedI (cOp fIx (cFld c 3 (cCB (P_course c) (cCons (cVar 0) cNil))) (cVar 1)) [some (.ref l), some (.int a)] S = some (.ref (crs c S (runE [] evs)).length, crs c S (runE [] evs) ++ [.lst ((sortP t.ps).map pP)]) := by
    unfold cSortedI
    rw [hi, Option.bind_some]
    simp only [g3]
    have ep : pairsK (encP t.ps) = some t.ps := pairsK_map t.ps
    rw [ep, Option.bind_some, if_pos ⟨nd, ln⟩]
  refine ⟨C ++ [.lst ((sortP t.ps).map pP)], C.length, ?_, ?_⟩
  · rw [← List.append_assoc, ← hC]
    have : (crs c S (runE [] evs)).length = S.length + C.length := by rw [hC, List.length_append]
    rw [this] at hs
    rwa [c_puts_of, hs]
  · rw [List.getElem?_append_right (Nat.le_refl _), Nat.sub_self]; rfl
noncomputable abbrev fL (c : Cl) (f : Fn → Fn → Fn → Fn → Fn → Fn → Fn → Fn → Fn → CS) : CS := f P_world P_log P_state P_begun P_puts (P_outer c) (P_putsof c) (P_same 3) P_looks
abbrev rh (wu : U) (r3 : Option U) (jl jh : Nat) (r6 r7 r8 r9 r10 r11 : Option U) : Rho := [none, some (.ref 1), some wu, r3, some (.ref jl), some (.ref jh), r6, r7, r8, r9, r10, r11]
variable {jl jh jr : Nat} {r3 r7 : Option U} {wu : U}
theorem again_loop {Z : Sto} (hns : c.ns.length = 5) (lg : LogOk n w N evs) (he : evs.length ≤ 60) (hv : valG (runE [] evs) a = some t)
    (hl : Z[jl]? = some (.lst (evs.map Ev.u))) (hh : Z[jh]? = some (.lst (evs.map Ev.u))) (hr : Z[jr]? = some (.lst ((sortP t.ps).map pU))) (hsl : (sortP t.ps).length ≤ 1000) : ∀ (us : List U) (G : Sto) (r9 r10 r11 : Option U),
    ∃ G' r9' r10' r11', loopU (fun _ => True) (gNm 9) (fL c b_law_0) us (rh wu r3 jl jh (some (.int a)) r7 (some (.ref jr)) r9 r10 r11) (Z ++ G)
      = some (.nx, rh wu r3 jl jh (some (.int a)) r7 (some (.ref jr)) r9' r10' r11', Z ++ G')
  | [], G, r9, r10, r11 => ⟨G, r9, r10, r11, loop_nil trivial⟩
  | u :: us, G, r9, r10, r11 => by
    obtain ⟨Y, hY⟩ : ∃ Y, Y = Z ++ G := ⟨_, rfl⟩
    have up : ∀ {j : Nat} {o : O}, Z[j]? = some o → ∀ X, (Y ++ X)[j]? = some o := fun h X => by rw [hY, List.append_assoc]; exact get_app h
    have up0 : ∀ {j : Nat} {o : O}, Z[j]? = some o → Y[j]? = some o := fun h => by have := up h []; rwa [List.append_nil] at this
    obtain ⟨C1, k1, h1, g1⟩ := outer_ok (c := c) (S := Y) hns (up0 hh) lg (by omega) hv
    obtain ⟨C2, k2, h2, g2⟩ := putsof_ok (c := c) (S := Y ++ C1) hns (up hh C1) lg he hv
    have hlY : (Y ++ C1 ++ C2)[jl]? = some (.lst (evs.map Ev.u)) := by rw [List.append_assoc]; exact up hl _
    obtain ⟨pt, h3⟩ := looks_ok (a := a) hlY lg.lo (by omega)
    have elk : lkOf (runE [] evs) a = t.lk := by unfold lkOf; rw [hv]; rfl
    rw [elk] at h3
    obtain ⟨X, hX⟩ : ∃ X, X = C1 ++ (C2 ++ [O.lst (t.lk.map pU), .lst (pt.map U.int)]) := ⟨_, rfl⟩
    have eY : Y ++ C1 ++ C2 ++ [O.lst (t.lk.map pU), .lst (pt.map U.int)] = Y ++ X := by rw [hX]; simp only [List.append_assoc]
    have e2 : (Y ++ C1).length + k2 = Y.length + (C1.length + k2) := by rw [List.length_append]; omega
    have e3 : (Y ++ C1 ++ C2).length = Y.length + (C1.length + C2.length) := by rw [List.length_append, List.length_append]; omega
    rw [eY, e3] at h3
    rw [e2] at h2
    have x1 : X[k1]? = some (.lst (t.lk.map pU)) := by rw [hX]; exact get_app g1
    have x2 : X[C1.length + k2]? = some (.lst ((sortP t.ps).map pU)) := by rw [hX, List.getElem?_append_right (by omega), Nat.add_sub_cancel_left]; exact get_app g2
    have x3 : X[C1.length + C2.length]? = some (.lst (t.lk.map pU)) := by rw [hX, List.getElem?_append_right (by omega), Nat.add_sub_cancel_left, List.getElem?_append_right (by omega), Nat.sub_self]; rfl
    have fw := few_run evs [] 0 lg.lo (by simp [keysS]) ⟨by simp, by simp⟩
    have llk : t.lk.length ≤ 1000 := by have := (fw.2 _ (valG_mem hv)).1; dsimp only at this; omega
    obtain ⟨G4, h4⟩ := same_prs (k := 0) (S := Y ++ X) (l1 := Y.length + k1) (l2 := Y.length + (C1.length + C2.length)) (by rw [ga]; exact x1) (by rw [ga]; exact x3) llk []
    obtain ⟨G5, h5⟩ := same_prs (k := 0) (S := Y ++ X) (l1 := Y.length + (C1.length + k2)) (l2 := jr) (by rw [ga]; exact x2) (up hr X) hsl G4
    rw [List.append_nil, List.nil_append] at h4
    obtain ⟨W, hW⟩ : ∃ W, W = X ++ (G4 ++ G5) := ⟨_, rfl⟩
    have eW : Y ++ X ++ (G4 ++ G5) = Y ++ W := by rw [hW, List.append_assoc]
    rw [eW] at h5
    have w1 : W[k1]? = some (.lst (t.lk.map pU)) := by rw [hW]; exact get_app x1
    have b1 : k1 < C1.length := (List.getElem?_eq_some_iff.mp g1).1
    have w2 : (W.set k1 (.lst (t.lk.map pU ++ [.tup [.int 0, .int 0]])))[C1.length + k2]? = some (.lst ((sortP t.ps).map pU)) := by rw [List.getElem?_set_ne (by omega), hW]; exact get_app x2
    have hL1 : (t.lk.map pU).length < LIM := by unfold LIM; rw [List.length_map]; omega
    have hL2 : ((sortP t.ps).map pU).length < LIM := by unfold LIM; rw [List.length_map]; omega
    obtain ⟨G', r9', r10', r11', ih⟩ := again_loop hns lg he hv hl hh hr hsl us (G ++ (W.set k1 (.lst (t.lk.map pU ++ [.tup [.int 0, .int 0]]))).set (C1.length + k2) (.lst ((sortP t.ps).map pU ++ [.tup [.int 9, .int 0]]))) (some u) (some (.ref (Y.length + k1))) (some (.ref (Y.length + (C1.length + k2))))
    refine ⟨G', r9', r10', r11', ?_⟩
    rw [← hY]
    refine (loop_nx trivial rfl ?_).trans (by rw [← List.append_assoc, ← hY] at ih; exact ih)
    simp only [List.append_assoc] at h2 h3 h4 h5
    rwa [fL, rh, b_law_0, h1, h2, h3, h4, h5, w1, x_app1 hL1, w2, x_app1 hL2]
theorem keysI_encP : ∀ ps : List (Int × Int), keysI (encP ps) = some (ps.map (·.1))
  | [] => rfl
  | p :: r => by
    have ih := keysI_encP r
    unfold encP at ih ⊢
    rw [List.map_cons, keysI, ih]; rfl
theorem rows_ok {Z : Sto} {jd : Nat} {ps : List (Int × Int)} (hd : Z[jd]? = some (.dic (encP ps))) (nk : (ps.map (·.1)).Nodup) (hl : ps.length < 64) {ρ : Rho} (hρ : ρ[7]? = some (some (.ref jd))) :
    ∃ G k, cComp (iTp (cCB fSorted (cCons (cVar 7) cNil))) (gNm 0) (cTup (cCons (cVar 0) (cCons (cOp fIx (cVar 1) (cVar 0)) cNil))) 1 [7] ρ Z = some (.ref (Z.length + k), Z ++ G) ∧ G[k]? = some (.lst ((sortP ps).map pU)) := by
  have hlk : (ps.map (·.1)).length < 64 := by rw [List.length_map]; exact hl
  have hs : fSorted [.ref jd] Z = some (.ref Z.length, Z ++ [.lst ((sortI (ps.map (·.1))).map U.int)]) := by
    simp only [fSorted, hd, keysI_encP, Option.bind_some, hlk, if_true]
  have hsl : (sortI (ps.map (·.1))).length < 64 := by rw [(sortI_perm _).length_eq]; exact hlk
  obtain ⟨G', h⟩ := comp_run (S := Z ++ [.lst ((sortI (ps.map (·.1))).map U.int)]) (ok := fun Y => Y[Z.length]? = some (.lst ((sortI (ps.map (·.1))).map U.int))) (gg := gNm 0) (ce := cTup (cCons (cVar 0) (cCons (cOp fIx (cVar 1) (cVar 0)) cNil))) (f := U.int) (v := fun b => pU (b, (valG ps b).getD 0)) (Rel := fun ρ => ∃ r0, ρ = [r0, some (.ref jd)]) (fun ys G => get_app (by rw [ga0]; rfl)) (sortI (ps.map (·.1))) [] [] [none, some (.ref jd)] ⟨_, rfl⟩ (by simp; omega) (fun b hb ys G ρ hρ => by
      obtain ⟨r0, rfl⟩ := hρ
      have hb' := (sortI_perm _).mem_iff.mp hb
      obtain ⟨v, hv⟩ : ∃ v, valG ps b = some v := by
        cases hv : valG ps b with
        | some v => exact ⟨v, rfl⟩
        | none => exact absurd hb' (valG_none.mp hv)
      have hd' : ∀ Y, (Z ++ Y)[jd]? = some (.dic (encP ps)) := fun Y => get_app hd
      refine ⟨[some (.int b), some (.ref jd)], [], ⟨_, rfl⟩, rfl, ?_⟩
      rwa [hd', val_encP, hv, Option.map_some, Option.getD_some, pU, List.append_nil])
  have e : ((sortI (ps.map (·.1))).map fun b => pU (b, (valG ps b).getD 0)) = (sortP ps).map pU := by rw [sortP_keys nk, List.map_map]; rfl
  rw [e] at h
  refine ⟨[.lst ((sortI (ps.map (·.1))).map U.int)] ++ (.lst ((sortP ps).map pU) :: G'), 1, ?_, rfl⟩
  have g0 : (Z ++ [O.lst ((sortI (ps.map (·.1))).map U.int)])[Z.length]? = some (.lst ((sortI (ps.map (·.1))).map U.int)) := by rw [ga0]; rfl
  have hc : cCB fSorted (cCons (cVar 7) cNil) ρ Z = some (.ref Z.length, Z ++ [.lst ((sortI (ps.map (·.1))).map U.int)]) := by
    rw [x_cb, x_cons, x_var, hρ, x_var', Option.bind_some, x_cons1, x_nil, Option.bind_some, x_cons2, Option.bind_some, x_cb1, hs]
  unfold cComp iTp
  rw [hc, Option.bind_some]
  have er : rhoC 1 [7] ρ = [none, some (.ref jd)] := by simp [rhoC, hρ, List.replicate]
  simp only [List.nil_append, List.append_assoc, List.cons_append, List.length_append, List.length_cons, List.length_nil, Nat.zero_add] at h
  simp only [g0, Option.bind_some, er, List.nil_append, List.append_assoc, List.cons_append, List.length_append, List.length_cons, List.length_nil, Nat.zero_add, h]
theorem begun_loop {Z : Sto} {jb : Nat} {us : List U} (hns : c.ns.length = 5) (lg : LogOk n w N evs) (he : evs.length ≤ 60)
    (hl : Z[jl]? = some (.lst (evs.map Ev.u))) (hh : Z[jh]? = some (.lst (evs.map Ev.u))) (hb : Z[jb]? = some (.lst us)) : ∀ (bs : List Int) (G : Sto) (r6 r7 r8 r9 r10 r11 : Option U), (∀ b ∈ bs, b ∈ keysS (runE [] evs)) →
    ∃ G' r6' r7' r8' r9' r10' r11', loopU (fun Z => Z[jb]? = some (.lst us)) (gNm 6) (fL c b_law_1) (bs.map U.int) (rh wu r3 jl jh r6 r7 r8 r9 r10 r11) (Z ++ G)
      = some (.nx, rh wu r3 jl jh r6' r7' r8' r9' r10' r11', Z ++ G')
  | [], G, r6, r7, r8, r9, r10, r11, _ => ⟨G, r6, r7, r8, r9, r10, r11, loop_nil (get_app hb)⟩
  | b :: bs, G, r6, r7, r8, r9, r10, r11, hk => by
    have hbk := hk b List.mem_cons_self
    obtain ⟨t, hv⟩ : ∃ t, valG (runE [] evs) b = some t := by
      cases hv : valG (runE [] evs) b with
      | some t => exact ⟨t, rfl⟩
      | none => exact absurd hbk (valG_none.mp hv)
    have eps : psOf (runE [] evs) b = t.ps := by unfold psOf; rw [hv]; rfl
    have nk := psI_run evs [] lg.lo psI0 b t hv
    have ln : t.ps.length < 64 := by have := (lg.pb b t hv).1; omega
    have h1 := puts_ok (a := b) (S := Z ++ G) (get_app hl) lg.lo (by omega)
    rw [eps] at h1
    obtain ⟨G2, k2, h2, g2⟩ := rows_ok (Z := Z ++ G ++ [.dic (encP t.ps)]) (jd := (Z ++ G).length) (by rw [ga0]; rfl) nk ln (ρ := rh wu r3 jl jh (some (.int b)) (some (.ref (Z ++ G).length)) r8 r9 r10 r11) rfl
    obtain ⟨Y, hY⟩ : ∃ Y, Y = Z ++ G ++ [.dic (encP t.ps)] ++ G2 := ⟨_, rfl⟩
    have r2 : iRange1 (cCons (cC (.int 2)) cNil) = fun ρ S => some (rangeU 0 2, fun _ => True, S) := rfl
    have up : ∀ {j : Nat} {o : O}, Z[j]? = some o → Y[j]? = some o := fun h => by rw [hY, List.append_assoc, List.append_assoc]; exact get_app h
    have hsl : (sortP t.ps).length ≤ 1000 := by rw [sortP_keys nk, List.length_map, (sortI_perm _).length_eq, List.length_map]; omega
    obtain ⟨G3, r9', r10', r11', h3⟩ := again_loop (Z := Y) (wu := wu) (r3 := r3) (r7 := some (.ref (Z ++ G).length)) (jr := (Z ++ G ++ [O.dic (encP t.ps)]).length + k2) hns lg he hv (up hl) (up hh) (by rw [hY, ga]; exact g2) hsl (rangeU 0 2) [] r9 r10 r11
    rw [List.append_nil] at h3
    obtain ⟨X, hX⟩ : ∃ X, Y ++ G3 = Z ++ X := ⟨G ++ ([.dic (encP t.ps)] ++ (G2 ++ G3)), by rw [hY]; simp only [List.append_assoc]⟩
    obtain ⟨G', a6, a7, a8, a9, a10, a11, ih⟩ := begun_loop hns lg he hl hh hb bs X (some (.int b)) (some (.ref (Z ++ G).length)) (some (.ref ((Z ++ G ++ [O.dic (encP t.ps)]).length + k2))) r9' r10' r11' (fun z hz => hk z (List.mem_cons_of_mem _ hz))
    refine ⟨G', a6, a7, a8, a9, a10, a11, (loop_nx (get_app hb) rfl ?_).trans ih⟩
    rw [← hX, ← h3]
    rw [← hY] at h2
    show fL c b_law_1 (rh wu r3 jl jh (some (.int b)) r7 r8 r9 r10 r11) (Z ++ G) = _
    unfold fL b_law_1
    have e1 : cCB P_puts (cCons (cVar 4) (cCons (cVar 6) cNil)) (rh wu r3 jl jh (some (.int b)) r7 r8 r9 r10 r11) (Z ++ G) = some (.ref (Z ++ G).length, Z ++ G ++ [.dic (encP t.ps)]) := by
      rw [← h1]; rfl
    rw [x_seq, x_set, e1, Option.bind_some, x_set1, Option.bind_some, x_seq1, x_seq, x_set]
    show ((cComp _ _ _ _ _ (rh wu r3 jl jh (some (.int b)) (some (.ref (Z ++ G).length)) r8 r9 r10 r11) _).bind _).bind _ = _
    rw [h2, Option.bind_some, x_set1, Option.bind_some, x_seq1]
    simp only [cFor, r2, Option.bind_some]
    rfl
theorem lay_ev {S : Sto} (e : Ev) : Lay 1 S e.u := by
  have two : ∀ (x : Str) (a : Int), PyData.strOk x = true → Lay 1 S (.tup [.str x, .int a]) := fun x a h => .tup fun u hu => by
    simp only [List.mem_cons, List.not_mem_nil, or_false] at hu
    rcases hu with rfl | rfl
    · exact .str h
    · exact .int
  have four : ∀ (x : Str) (a b y : Int), PyData.strOk x = true → Lay 1 S (.tup [.str x, .int a, .int b, .int y]) := fun x a b y h => .tup fun u hu => by
    simp only [List.mem_cons, List.not_mem_nil, or_false] at hu
    rcases hu with rfl | rfl | rfl | rfl
    · exact .str h
    · exact .int
    · exact .int
    · exact .int
  cases e with
  | fin d a => cases d <;> exact two _ a (by decide +kernel)
  | beg a => exact two _ a (by decide +kernel)
  | look a b x => exact four _ a b x (by decide +kernel)
  | put a b x => exact four _ a b x (by decide +kernel)
theorem evs_ne {S : Sto} {l l' : Nat} {es : List Ev} (h : S[l]? = some (.lst (es.map Ev.u))) (h' : S[l']? = some (.lst (es.map Ev.u))) : fEqD true (.ref l) (.ref l') S = some (.bl false, S) :=
  SameD.ne (k := 2) (SameD.lst h h' (SameDL.all fun u hu => by obtain ⟨e, _, rfl⟩ := List.mem_map.mp hu; exact lay_ev e)) (by omega)
theorem turn_ok (hns : c.ns.length = 5) (ns : List Int) (n0 : 1 ≤ n) (n1 : n ≤ 6) (w0 : 2 ≤ w) (w1 : w ≤ 1000) (T : Sto) {a c1 : Int} (ha : 0 ≤ a) (hc : 0 ≤ c1) (q3 q4 q5 q6 q7 q8 q9 q10 q11 : Option U) :
    ∃ (p4 p5 p6 p7 p8 p9 p10 p11 : Option U) (T' : Sto) (a' c' : Int), fL c b_law_2 [none, some (.ref 1), some (.tup [.int n, .int w]), q3, q4, q5, q6, q7, q8, q9, q10, q11] (scr ns :: pen a c1 :: T)
      = some (.nx, [none, some (.ref 1), some (.tup [.int n, .int w]), q3, p4, p5, p6, p7, p8, p9, p10, p11], scr ns :: pen a' c' :: T') ∧ 0 ≤ a' ∧ 0 ≤ c' := by
  obtain ⟨x, a0, c0, G0, e0, hx, bx, ha0, hc0⟩ := state_ok ns T ha hc n0 n1 w0 w1
  obtain ⟨evs, a1, c2, G1, k1, e1, g1, lg, he, ha1, hc1⟩ := log_ok ns (T ++ G0) (most := 6) (size := 60) ha0 hc0 n0 n1 w0 w1 hx bx (by omega) (by omega) (by omega) (by omega)
  have he' : evs.length ≤ 60 := by have : (60 : Int).toNat = 60 := rfl; omega
  obtain ⟨Z, hZ⟩ : ∃ Z, Z = scr ns :: pen a1 c2 :: (T ++ G0 ++ G1) := ⟨_, rfl⟩
  have zl : Z[(T ++ G0).length + k1 + 1 + 1]? = some (.lst (evs.map Ev.u)) := by
    rw [hZ, List.getElem?_cons_succ, List.getElem?_cons_succ, ga]; exact g1
  obtain ⟨G8, k8, e8, g8⟩ := begun_ok (S := Z ++ [.lst (evs.map Ev.u)]) (get_app zl) lg (by omega) (by decide)
  have hbl : ∀ b ∈ sortI (keysS (runE [] evs)), b ∈ keysS (runE [] evs) := fun b hb => (sortI_perm _).mem_iff.mp hb
  obtain ⟨W, hW⟩ : ∃ W, W = Z ++ [.lst (evs.map Ev.u)] := ⟨_, rfl⟩
  rw [← hW] at e8
  have wl : (W ++ G8)[(T ++ G0).length + k1 + 1 + 1]? = some (.lst (evs.map Ev.u)) := by rw [hW]; exact get_app (get_app zl)
  have wh : (W ++ G8)[Z.length]? = some (.lst (evs.map Ev.u)) := by rw [hW]; exact get_app (by rw [ga0]; rfl)
  obtain ⟨G9, p6, p7, p8, p9, p10, p11, e9⟩ := begun_loop (c := c) (Z := W ++ G8) (jb := W.length + k8) (jh := Z.length) (wu := .tup [.int n, .int w]) (r3 := q3) hns lg he' wl wh (by rw [ga]; exact g8) (sortI (keysS (runE [] evs))) [] q6 q7 q8 q9 q10 q11 hbl
  rw [List.append_nil] at e9
  have e10 := evs_ne (S := W ++ G8 ++ G9) (get_app wh) (get_app wl)
  obtain ⟨T', hT'⟩ : ∃ T', W ++ G8 ++ G9 = scr ns :: pen a1 c2 :: T' := ⟨T ++ G0 ++ G1 ++ ([.lst (evs.map Ev.u)] ++ (G8 ++ G9)), by rw [hW, hZ]; simp only [List.append_assoc, List.cons_append, List.nil_append]⟩
  refine ⟨some (.ref ((T ++ G0).length + k1 + 1 + 1)), some (.ref Z.length), p6, p7, p8, p9, p10, p11, T', a1, c2, ?_, ha1, hc1⟩
  rw [← hT']
  rw [← hZ] at e1
  simp only [fL, rh, List.append_assoc] at e9 e10
  have hW2 : Z ++ [O.lst (evs.map Ev.u)] = W := hW.symm
  rwa [fL, b_law_2, e0, e1, zl, hW2, cFor, iTp, e8, g8, e9, e10]
theorem turn_loop (hns : c.ns.length = 5) (ns : List Int) (n0 : 1 ≤ n) (n1 : n ≤ 6) (w0 : 2 ≤ w) (w1 : w ≤ 1000) : ∀ (us : List U) (T : Sto) (a c1 : Int) (q3 q4 q5 q6 q7 q8 q9 q10 q11 : Option U), 0 ≤ a → 0 ≤ c1 →
    ∃ (ρ' : Rho) (S' : Sto), loopU (fun _ => True) (gNm 3) (fL c b_law_2) us [none, some (.ref 1), some (.tup [.int n, .int w]), q3, q4, q5, q6, q7, q8, q9, q10, q11] (scr ns :: pen a c1 :: T) = some (.nx, ρ', S')
  | [], T, a, c1, q3, q4, q5, q6, q7, q8, q9, q10, q11, _, _ => ⟨_, _, loop_nil trivial⟩
  | u :: us, T, a, c1, q3, q4, q5, q6, q7, q8, q9, q10, q11, ha, hc => by
    obtain ⟨p4, p5, p6, p7, p8, p9, p10, p11, T', a', c', e, ha', hc'⟩ := turn_ok hns ns n0 n1 w0 w1 T ha hc (some u) q4 q5 q6 q7 q8 q9 q10 q11
    obtain ⟨ρ', S', ih⟩ := turn_loop hns ns n0 n1 w0 w1 us T' a' c' (some u) p4 p5 p6 p7 p8 p9 p10 p11 ha' hc'
    exact ⟨ρ', S', (loop_nx trivial rfl e).trans ih⟩
theorem law_ok (hns : c.ns.length = 5) (ns : List Int) (a c1 : Int) (ha : 0 ≤ a) (hc : 0 ≤ c1) : ∃ ρ' S', (fL c c_law) [none, some (.ref 1), none, none, none, none, none, none, none, none, none, none] [.lst (ns.map U.int), .lst [.ref 0, .int a, .int c1]] = some (.rt (.bl true), ρ', S') := by
  obtain ⟨n, w, a1, c2, G, e1, n0, n1, w0, w1, ha1, hc1⟩ := world_ok ns [] ha hc
  obtain ⟨ρ, S', e6⟩ := turn_loop (c := c) hns ns n0 n1 w0 w1 (rangeU 0 2) ([] ++ G) a1 c2 none none none none none none none none none ha1 hc1
  refine ⟨ρ, S', ?_⟩
  have r2 : iRange1 (cCons (cC (.int 2)) cNil) = fun ρ S => some (rangeU 0 2, fun _ => True, S) := rfl
  show fL c c_law _ [scr ns, pen a c1] = _
  simp only [fL, List.nil_append] at e6
  rwa [fL, c_law, cFor, r2, e1, e6]
end
end OL
set_option maxHeartbeats 4000000
namespace OL
open PySem PySem.Spec PyProof.Rows L2 OG OP OQ
section
variable {P : Program} {w : World} {K : PySem.W.Frag} {mg : Str → Option Value} {base : Heap}
theorem sc__law_pen : FnScope ["script"] ["script"] (defScope s__law_pen) := ⟨rfl, rfl, rfl, by decide +kernel, rfl, by decide +kernel, by decide +kernel⟩
theorem has_pen {k : Nat} (B : Blt mg) (d : Def K mg "_law_pen" s__law_pen ["script"]) : Has P w K mg base "_law_pen" (k+1) ["script"] (spPenX K) := by
  refine d.has sc__law_pen (fun vs H Q E h => ?_) (fun f cdv A outer s H vs Q E hr h => ?_)
  · obtain ⟨a, ns, rfl, _⟩ := h; rfl
  obtain ⟨a, ns, rfl, hS, q⟩ := h
  have nd := sc__law_pen.nd
  refine ⟨_, (wpss_one (wps_ret (wpe_lst (wpa_cons (wpe_callTy call_list_of rfl B.list OG.boot_list (wpa_cons (wpe_slice sl_list (wpv 0) wpo_none (wpo_some wpe_int)) wpa_nil)) (wpa_cons wpe_int (wpa_cons wpe_int wpa_nil)))))), ?_⟩
  refine ⟨_, rfl, _, rfl, a, _, rfl, hS, fun p hp => ⟨p, _, rfl, .inl (SqL.of upd_same), fun l hl => ⟨(by show 3 ≤ sizeLine; decide), fun r hr' => ?_⟩⟩⟩
  obtain ⟨ms, em⟩ : ∃ ms : List Int, cutV (ns.map V.int) none (some 63) = ms.map V.int := ⟨_, cut_ints _ _ _⟩
  rw [em] at hl hr' ⊢
  refine q r l _ (((same_new hp _).trans (same_new hl _)).trans (same_new hr' _)) ⟨ms, 0, 0, upd_same, ?_, ne_of_none upd_same hr', by decide, by decide⟩ ?_
  · rw [upd_ne (ne_of_none upd_same hr')]; exact upd_same
  · exact (((same_new hp _).trans (same_new hl _))).free hr'
end
theorem all_mk {l : PySem.W.OpenLaw} {w : World} {K : PySem.W.Frag} {h : Heap} {mg : Str → Option Value} {fa : Addr} (X : K.In h) (G : h.Ns mainGlobals mg) (hfa : mg "law" = some (.ref fa))
    {f1 : Addr} {od1 an1 : Option Addr} {sl1 : Array (Option Value)} {oc1 kV1 dc1 pm1 cd1 ct1 : Value}
    {f2 : Addr} {od2 an2 : Option Addr} {sl2 : Array (Option Value)} {oc2 kV2 dc2 pm2 cd2 ct2 : Value}
    {f3 : Addr} {od3 an3 : Option Addr} {sl3 : Array (Option Value)} {oc3 kV3 dc3 pm3 cd3 ct3 : Value}
    {f4 : Addr} {od4 an4 : Option Addr} {sl4 : Array (Option Value)} {oc4 kV4 dc4 pm4 cd4 ct4 : Value}
    {f5 : Addr} {od5 an5 : Option Addr} {sl5 : Array (Option Value)} {oc5 kV5 dc5 pm5 cd5 ct5 : Value}
    {f6 : Addr} {od6 an6 : Option Addr} {sl6 : Array (Option Value)} {oc6 kV6 dc6 pm6 cd6 ct6 : Value}
    {f7 : Addr} {od7 an7 : Option Addr} {sl7 : Array (Option Value)} {oc7 kV7 dc7 pm7 cd7 ct7 : Value}
    {f8 : Addr} {od8 an8 : Option Addr} {sl8 : Array (Option Value)} {oc8 kV8 dc8 pm8 cd8 ct8 : Value}
    {f9 : Addr} {od9 an9 : Option Addr} {sl9 : Array (Option Value)} {oc9 kV9 dc9 pm9 cd9 ct9 : Value}
    {f10 : Addr} {od10 an10 : Option Addr} {sl10 : Array (Option Value)} {oc10 kV10 dc10 pm10 cd10 ct10 : Value}
    {f11 : Addr} {od11 an11 : Option Addr} {sl11 : Array (Option Value)} {oc11 kV11 dc11 pm11 cd11 ct11 : Value}
    {f12 : Addr} {od12 an12 : Option Addr} {sl12 : Array (Option Value)} {oc12 kV12 dc12 pm12 cd12 ct12 : Value}
    {f13 : Addr} {od13 an13 : Option Addr} {sl13 : Array (Option Value)} {oc13 kV13 dc13 pm13 cd13 ct13 : Value}
    {f14 : Addr} {od14 an14 : Option Addr} {sl14 : Array (Option Value)} {oc14 kV14 dc14 pm14 cd14 ct14 : Value}
    {f15 : Addr} {od15 an15 : Option Addr} {sl15 : Array (Option Value)} {oc15 kV15 dc15 pm15 cd15 ct15 : Value}
    {f16 : Addr} {od16 an16 : Option Addr} {sl16 : Array (Option Value)} {oc16 kV16 dc16 pm16 cd16 ct16 : Value}
    {CCourse : Addr}
    {f17 : Addr} {od17 an17 : Option Addr} {sl17 : Array (Option Value)} {oc17 kV17 dc17 pm17 cd17 ct17 : Value}
    {f18 : Addr} {od18 an18 : Option Addr} {sl18 : Array (Option Value)} {oc18 kV18 dc18 pm18 cd18 ct18 : Value}
    {f19 : Addr} {od19 an19 : Option Addr} {sl19 : Array (Option Value)} {oc19 kV19 dc19 pm19 cd19 ct19 : Value}
    {f20 : Addr} {od20 an20 : Option Addr} {sl20 : Array (Option Value)} {oc20 kV20 dc20 pm20 cd20 ct20 : Value}
    (a1 : PySem.W.nsIn K mainGlobals "_law_take" = some (some (.ref f1))) (l1 : K.lookup f1 = some ⟨oc1, od1, .func (PySem.W.fnOf "_law_take" "_law_take" (defArgs s__law_take) (defBody s__law_take) (defScope s__law_take) .none kV1 dc1 pm1 an1 cd1 ct1), sl1⟩) (c1 : PySem.W.codeIn K cd1 "_law_take" = true) (k1 : PySem.W.keepIn K (.ref f1) = true)
    (a2 : PySem.W.nsIn K mainGlobals "_law_world" = some (some (.ref f2))) (l2 : K.lookup f2 = some ⟨oc2, od2, .func (PySem.W.fnOf "_law_world" "_law_world" (defArgs s__law_world) (defBody s__law_world) (defScope s__law_world) .none kV2 dc2 pm2 an2 cd2 ct2), sl2⟩) (c2 : PySem.W.codeIn K cd2 "_law_world" = true) (k2 : PySem.W.keepIn K (.ref f2) = true)
    (a3 : PySem.W.nsIn K mainGlobals "_law_state" = some (some (.ref f3))) (l3 : K.lookup f3 = some ⟨oc3, od3, .func (PySem.W.fnOf "_law_state" "_law_state" (defArgs s__law_state) (defBody s__law_state) (defScope s__law_state) .none kV3 dc3 pm3 an3 cd3 ct3), sl3⟩) (c3 : PySem.W.codeIn K cd3 "_law_state" = true) (k3 : PySem.W.keepIn K (.ref f3) = true)
    (a4 : PySem.W.nsIn K mainGlobals "_law_names" = some (some (.ref f4))) (l4 : K.lookup f4 = some ⟨oc4, od4, .func (PySem.W.fnOf "_law_names" "_law_names" (defArgs s__law_names) (defBody s__law_names) (defScope s__law_names) .none kV4 dc4 pm4 an4 cd4 ct4), sl4⟩) (c4 : PySem.W.codeIn K cd4 "_law_names" = true) (k4 : PySem.W.keepIn K (.ref f4) = true)
    (a5 : PySem.W.nsIn K mainGlobals "_law_put_in" = some (some (.ref f5))) (l5 : K.lookup f5 = some ⟨oc5, od5, .func (PySem.W.fnOf "_law_put_in" "_law_put_in" (defArgs s__law_put_in) (defBody s__law_put_in) (defScope s__law_put_in) .none kV5 dc5 pm5 an5 cd5 ct5), sl5⟩) (c5 : PySem.W.codeIn K cd5 "_law_put_in" = true) (k5 : PySem.W.keepIn K (.ref f5) = true)
    (a6 : PySem.W.nsIn K mainGlobals "_law_event" = some (some (.ref f6))) (l6 : K.lookup f6 = some ⟨oc6, od6, .func (PySem.W.fnOf "_law_event" "_law_event" (defArgs s__law_event) (defBody s__law_event) (defScope s__law_event) .none kV6 dc6 pm6 an6 cd6 ct6), sl6⟩) (c6 : PySem.W.codeIn K cd6 "_law_event" = true) (k6 : PySem.W.keepIn K (.ref f6) = true)
    (a7 : PySem.W.nsIn K mainGlobals "_law_log" = some (some (.ref f7))) (l7 : K.lookup f7 = some ⟨oc7, od7, .func (PySem.W.fnOf "_law_log" "_law_log" (defArgs s__law_log) (defBody s__law_log) (defScope s__law_log) .none kV7 dc7 pm7 an7 cd7 ct7), sl7⟩) (c7 : PySem.W.codeIn K cd7 "_law_log" = true) (k7 : PySem.W.keepIn K (.ref f7) = true)
    (a8 : PySem.W.nsIn K mainGlobals "_law_begun" = some (some (.ref f8))) (l8 : K.lookup f8 = some ⟨oc8, od8, .func (PySem.W.fnOf "_law_begun" "_law_begun" (defArgs s__law_begun) (defBody s__law_begun) (defScope s__law_begun) .none kV8 dc8 pm8 an8 cd8 ct8), sl8⟩) (c8 : PySem.W.codeIn K cd8 "_law_begun" = true) (k8 : PySem.W.keepIn K (.ref f8) = true)
    (a9 : PySem.W.nsIn K mainGlobals "_law_looks" = some (some (.ref f9))) (l9 : K.lookup f9 = some ⟨oc9, od9, .func (PySem.W.fnOf "_law_looks" "_law_looks" (defArgs s__law_looks) (defBody s__law_looks) (defScope s__law_looks) .none kV9 dc9 pm9 an9 cd9 ct9), sl9⟩) (c9 : PySem.W.codeIn K cd9 "_law_looks" = true) (k9 : PySem.W.keepIn K (.ref f9) = true)
    (a10 : PySem.W.nsIn K mainGlobals "_law_puts" = some (some (.ref f10))) (l10 : K.lookup f10 = some ⟨oc10, od10, .func (PySem.W.fnOf "_law_puts" "_law_puts" (defArgs s__law_puts) (defBody s__law_puts) (defScope s__law_puts) .none kV10 dc10 pm10 an10 cd10 ct10), sl10⟩) (c10 : PySem.W.codeIn K cd10 "_law_puts" = true) (k10 : PySem.W.keepIn K (.ref f10) = true)
    (a11 : PySem.W.nsIn K mainGlobals "_law_same" = some (some (.ref f11))) (l11 : K.lookup f11 = some ⟨oc11, od11, .func (PySem.W.fnOf "_law_same" "_law_same" (defArgs s__law_same) (defBody s__law_same) (defScope s__law_same) .none kV11 dc11 pm11 an11 cd11 ct11), sl11⟩) (c11 : PySem.W.codeIn K cd11 "_law_same" = true) (k11 : PySem.W.keepIn K (.ref f11) = true)
    (a12 : PySem.W.nsIn K mainGlobals "course_of" = some (some (.ref f12))) (l12 : K.lookup f12 = some ⟨oc12, od12, .func (PySem.W.fnOf "course_of" "course_of" (defArgs s_course_of) (defBody s_course_of) (defScope s_course_of) .none kV12 dc12 pm12 an12 cd12 ct12), sl12⟩) (c12 : PySem.W.codeIn K cd12 "course_of" = true) (k12 : PySem.W.keepIn K (.ref f12) = true)
    (a13 : PySem.W.nsIn K mainGlobals "outer_looks" = some (some (.ref f13))) (l13 : K.lookup f13 = some ⟨oc13, od13, .func (PySem.W.fnOf "outer_looks" "outer_looks" (defArgs s_outer_looks) (defBody s_outer_looks) (defScope s_outer_looks) .none kV13 dc13 pm13 an13 cd13 ct13), sl13⟩) (c13 : PySem.W.codeIn K cd13 "outer_looks" = true) (k13 : PySem.W.keepIn K (.ref f13) = true)
    (a14 : PySem.W.nsIn K mainGlobals "puts_of" = some (some (.ref f14))) (l14 : K.lookup f14 = some ⟨oc14, od14, .func (PySem.W.fnOf "puts_of" "puts_of" (defArgs s_puts_of) (defBody s_puts_of) (defScope s_puts_of) .none kV14 dc14 pm14 an14 cd14 ct14), sl14⟩) (c14 : PySem.W.codeIn K cd14 "puts_of" = true) (k14 : PySem.W.keepIn K (.ref f14) = true)
    (a15 : PySem.W.nsIn K mainGlobals "_law_pen" = some (some (.ref f15))) (l15 : K.lookup f15 = some ⟨oc15, od15, .func (PySem.W.fnOf "_law_pen" "_law_pen" (defArgs s__law_pen) (defBody s__law_pen) (defScope s__law_pen) .none kV15 dc15 pm15 an15 cd15 ct15), sl15⟩) (c15 : PySem.W.codeIn K cd15 "_law_pen" = true) (k15 : PySem.W.keepIn K (.ref f15) = true)
    (a16 : PySem.W.nsIn K mainGlobals "law" = some (some (.ref f16))) (l16 : K.lookup f16 = some ⟨oc16, od16, .func (PySem.W.fnOf "law" "law" (defArgs s_law) (defBody s_law) (defScope s_law) .none kV16 dc16 pm16 an16 cd16 ct16), sl16⟩) (c16 : PySem.W.codeIn K cd16 "law" = true) (k16 : PySem.W.keepIn K (.ref f16) = true)
    (aCCourse : PySem.W.nsIn K mainGlobals "Course" = some (some (.ref CCourse))) (pgCourse : PySem.W.plainGet K CCourse Str.empty = true) (hdCourse : PySem.W.hasDictIn K CCourse = true) (poCourse : PySem.W.plainOver K CCourse = true) (saCourse : PySem.W.findIn K (.ref CCourse) "__setattr__" = some (some (.builtin "object.__setattr__"))) (mkCourse : PySem.W.makesIn K CCourse = true) (kcCourse : PySem.W.keepIn K (.ref CCourse) = true)
    (nfCourse0 : PySem.W.findIn K (.ref CCourse) "ends" = some none)
    (nfCourse1 : PySem.W.findIn K (.ref CCourse) "looks" = some none)
    (nfCourse2 : PySem.W.findIn K (.ref CCourse) "needs" = some none)
    (nfCourse3 : PySem.W.findIn K (.ref CCourse) "puts" = some none)
    (nfCourse4 : PySem.W.findIn K (.ref CCourse) "before" = some none)
    (a17 : PySem.W.findIn K (.ref CCourse) "__init__" = some (some (.ref f17))) (i17 : PySem.W.isFn K (.ref f17) = true) (l17 : K.lookup f17 = some ⟨oc17, od17, .func (PySem.W.fnOf "__init__" "Course.__init__" (defArgs s_Course_init) (defBody s_Course_init) (defScope s_Course_init) .none kV17 dc17 pm17 an17 cd17 ct17), sl17⟩) (c17 : PySem.W.codeIn K cd17 "Course.__init__" = true) (k17 : PySem.W.keepIn K (.ref f17) = true)
    (a18 : PySem.W.findIn K (.ref CCourse) "note_look" = some (some (.ref f18))) (i18 : PySem.W.isFn K (.ref f18) = true) (l18 : K.lookup f18 = some ⟨oc18, od18, .func (PySem.W.fnOf "note_look" "Course.note_look" (defArgs s_Course_note_look) (defBody s_Course_note_look) (defScope s_Course_note_look) .none kV18 dc18 pm18 an18 cd18 ct18), sl18⟩) (c18 : PySem.W.codeIn K cd18 "Course.note_look" = true) (k18 : PySem.W.keepIn K (.ref f18) = true)
    (a19 : PySem.W.findIn K (.ref CCourse) "enter" = some (some (.ref f19))) (i19 : PySem.W.isFn K (.ref f19) = true) (l19 : K.lookup f19 = some ⟨oc19, od19, .func (PySem.W.fnOf "enter" "Course.enter" (defArgs s_Course_enter) (defBody s_Course_enter) (defScope s_Course_enter) .none kV19 dc19 pm19 an19 cd19 ct19), sl19⟩) (c19 : PySem.W.codeIn K cd19 "Course.enter" = true) (k19 : PySem.W.keepIn K (.ref f19) = true)
    (a20 : PySem.W.findIn K (.ref CCourse) "follow" = some (some (.ref f20))) (i20 : PySem.W.isFn K (.ref f20) = true) (l20 : K.lookup f20 = some ⟨oc20, od20, .func (PySem.W.fnOf "follow" "Course.follow" (defArgs s_Course_follow) (defBody s_Course_follow) (defScope s_Course_follow) .none kV20 dc20 pm20 an20 cd20 ct20), sl20⟩) (c20 : PySem.W.codeIn K cd20 "Course.follow" = true) (k20 : PySem.W.keepIn K (.ref f20) = true)
    (z21 : PySem.W.nsIn K mainGlobals "len" = some none)
    (z22 : PySem.W.nsIn K mainGlobals "isinstance" = some none)
    (z23 : PySem.W.nsIn K mainGlobals "int" = some none)
    (z24 : PySem.W.nsIn K mainGlobals "bool" = some none)
    (z25 : PySem.W.nsIn K mainGlobals "str" = some none)
    (z26 : PySem.W.nsIn K mainGlobals "tuple" = some none)
    (z27 : PySem.W.nsIn K mainGlobals "list" = some none)
    (z28 : PySem.W.nsIn K mainGlobals "range" = some none)
    (z29 : PySem.W.nsIn K mainGlobals "min" = some none)
    (z30 : PySem.W.nsIn K mainGlobals "sum" = some none)
    (z31 : PySem.W.nsIn K mainGlobals "all" = some none)
    (z32 : PySem.W.nsIn K mainGlobals "zip" = some none)
    (z33 : PySem.W.nsIn K mainGlobals "sorted" = some none)
    (z34 : PySem.W.nsIn K mainGlobals "dict" = some none)
    (z35 : PySem.W.nsIn K mainGlobals "enumerate" = some none)
    (z36 : PySem.W.nsIn K mainGlobals "any" = some none)
    (z37 : PySem.W.nsIn K mainGlobals "max" = some none)
    (z38 : PySem.W.nsIn K mainGlobals "set" = some none) :
    ∃ fd : FuncData, (∀ (s : Shared) (v : Value), BindsTo s fd ⟨[v], []⟩ [("script", v)]) ∧ ∀ base : Heap, K.In base → base.Ns mainGlobals mg → FnOk l.prog w K mg base CX0 5 fa fd ["script"] (spLaw K) := by
  have e := hfa.symm.trans (PySem.W.mg_of X G a16)
  cases e
  have F__law_take := fun_mk (st := s__law_take) l1 c1 k1
  have D__law_take : Def K mg "_law_take" s__law_take ["pen", "many"] := ⟨_, _, F__law_take, F__law_take.binds (ps := ["pen", "many"]) fun _ _ _ _ _ _ us hl => match us, hl with | [_, _], _ => rfl, PySem.W.mg_of X G a1⟩
  have F__law_world := fun_mk (st := s__law_world) l2 c2 k2
  have D__law_world : Def K mg "_law_world" s__law_world ["pen"] := ⟨_, _, F__law_world, F__law_world.binds (ps := ["pen"]) fun _ _ _ _ _ _ us hl => match us, hl with | [_], _ => rfl, PySem.W.mg_of X G a2⟩
  have F__law_state := fun_mk (st := s__law_state) l3 c3 k3
  have D__law_state : Def K mg "_law_state" s__law_state ["pen", "world"] := ⟨_, _, F__law_state, F__law_state.binds (ps := ["pen", "world"]) fun _ _ _ _ _ _ us hl => match us, hl with | [_, _], _ => rfl, PySem.W.mg_of X G a3⟩
  have F__law_names := fun_mk (st := s__law_names) l4 c4 k4
  have D__law_names : Def K mg "_law_names" s__law_names ["pen", "many"] := ⟨_, _, F__law_names, F__law_names.binds (ps := ["pen", "many"]) fun _ _ _ _ _ _ us hl => match us, hl with | [_, _], _ => rfl, PySem.W.mg_of X G a4⟩
  have F__law_put_in := fun_mk (st := s__law_put_in) l5 c5 k5
  have D__law_put_in : Def K mg "_law_put_in" s__law_put_in ["state", "puts"] := ⟨_, _, F__law_put_in, F__law_put_in.binds (ps := ["state", "puts"]) fun _ _ _ _ _ _ us hl => match us, hl with | [_, _], _ => rfl, PySem.W.mg_of X G a5⟩
  have F__law_event := fun_mk (st := s__law_event) l6 c6 k6
  have D__law_event : Def K mg "_law_event" s__law_event ["pen", "world", "a", "seen", "puts", "now"] := ⟨_, _, F__law_event, F__law_event.binds (ps := ["pen", "world", "a", "seen", "puts", "now"]) fun _ _ _ _ _ _ us hl => match us, hl with | [_, _, _, _, _, _], _ => rfl, PySem.W.mg_of X G a6⟩
  have F__law_log := fun_mk (st := s__law_log) l7 c7 k7
  have D__law_log : Def K mg "_law_log" s__law_log ["pen", "world", "state", "most", "size"] := ⟨_, _, F__law_log, F__law_log.binds (ps := ["pen", "world", "state", "most", "size"]) fun _ _ _ _ _ _ us hl => match us, hl with | [_, _, _, _, _], _ => rfl, PySem.W.mg_of X G a7⟩
  have F__law_begun := fun_mk (st := s__law_begun) l8 c8 k8
  have D__law_begun : Def K mg "_law_begun" s__law_begun ["log"] := ⟨_, _, F__law_begun, F__law_begun.binds (ps := ["log"]) fun _ _ _ _ _ _ us hl => match us, hl with | [_], _ => rfl, PySem.W.mg_of X G a8⟩
  have F__law_looks := fun_mk (st := s__law_looks) l9 c9 k9
  have D__law_looks : Def K mg "_law_looks" s__law_looks ["log", "a"] := ⟨_, _, F__law_looks, F__law_looks.binds (ps := ["log", "a"]) fun _ _ _ _ _ _ us hl => match us, hl with | [_, _], _ => rfl, PySem.W.mg_of X G a9⟩
  have F__law_puts := fun_mk (st := s__law_puts) l10 c10 k10
  have D__law_puts : Def K mg "_law_puts" s__law_puts ["log", "a"] := ⟨_, _, F__law_puts, F__law_puts.binds (ps := ["log", "a"]) fun _ _ _ _ _ _ us hl => match us, hl with | [_, _], _ => rfl, PySem.W.mg_of X G a10⟩
  have F__law_same := fun_mk (st := s__law_same) l11 c11 k11
  have D__law_same : Def K mg "_law_same" s__law_same ["found", "due"] := ⟨_, _, F__law_same, F__law_same.binds (ps := ["found", "due"]) fun _ _ _ _ _ _ us hl => match us, hl with | [_, _], _ => rfl, PySem.W.mg_of X G a11⟩
  have F_course_of := fun_mk (st := s_course_of) l12 c12 k12
  have D_course_of : Def K mg "course_of" s_course_of ["log"] := ⟨_, _, F_course_of, F_course_of.binds (ps := ["log"]) fun _ _ _ _ _ _ us hl => match us, hl with | [_], _ => rfl, PySem.W.mg_of X G a12⟩
  have F_outer_looks := fun_mk (st := s_outer_looks) l13 c13 k13
  have D_outer_looks : Def K mg "outer_looks" s_outer_looks ["log", "a"] := ⟨_, _, F_outer_looks, F_outer_looks.binds (ps := ["log", "a"]) fun _ _ _ _ _ _ us hl => match us, hl with | [_, _], _ => rfl, PySem.W.mg_of X G a13⟩
  have F_puts_of := fun_mk (st := s_puts_of) l14 c14 k14
  have D_puts_of : Def K mg "puts_of" s_puts_of ["log", "a"] := ⟨_, _, F_puts_of, F_puts_of.binds (ps := ["log", "a"]) fun _ _ _ _ _ _ us hl => match us, hl with | [_, _], _ => rfl, PySem.W.mg_of X G a14⟩
  have F__law_pen := fun_mk (st := s__law_pen) l15 c15 k15
  have D__law_pen : Def K mg "_law_pen" s__law_pen ["script"] := ⟨_, _, F__law_pen, F__law_pen.binds (ps := ["script"]) fun _ _ _ _ _ _ us hl => match us, hl with | [_], _ => rfl, PySem.W.mg_of X G a15⟩
  have F_law := fun_mk (st := s_law) l16 c16 k16
  have D_law : Def K mg "law" s_law ["script"] := ⟨_, _, F_law, F_law.binds (ps := ["script"]) fun _ _ _ _ _ _ us hl => match us, hl with | [_], _ => rfl, PySem.W.mg_of X G a16⟩
  have TCourse : TC K (⟨CCourse, ["ends", "looks", "needs", "puts", "before"]⟩ : Cl) ["ends", "looks", "needs", "puts", "before"] := ⟨⟨pgCourse, hdCourse, poCourse, saCourse⟩, rfl, fun f hf => by
    simp only [List.mem_cons, List.not_mem_nil, or_false] at hf
    rcases hf with rfl | rfl | rfl | rfl | rfl
    · exact nfCourse0
    · exact nfCourse1
    · exact nfCourse2
    · exact nfCourse3
    · exact nfCourse4⟩
  have mgC_Course := PySem.W.mg_of X G aCCourse
  have F_Course_init := fun_mk (st := s_Course_init) l17 c17 k17
  have bi_Course_init := F_Course_init.binds (ps := ["self"]) fun _ _ _ _ _ _ us hl => match us, hl with | [_], _ => rfl
  have mk_Course : Mk K (⟨CCourse, ["ends", "looks", "needs", "puts", "before"]⟩ : Cl).C f17 := ⟨mkCourse, a17, i17, kcCourse⟩
  have F_Course_note_look := fun_mk (st := s_Course_note_look) l18 c18 k18
  have bi_Course_note_look := F_Course_note_look.binds (ps := ["self", "a", "box", "number"]) fun _ _ _ _ _ _ us hl => match us, hl with | [_, _, _, _], _ => rfl
  have mt_Course_note_look : Meth K (⟨CCourse, ["ends", "looks", "needs", "puts", "before"]⟩ : Cl).C "note_look" f18 := ⟨a18, i18, k18⟩
  have F_Course_enter := fun_mk (st := s_Course_enter) l19 c19 k19
  have bi_Course_enter := F_Course_enter.binds (ps := ["self", "a"]) fun _ _ _ _ _ _ us hl => match us, hl with | [_, _], _ => rfl
  have mt_Course_enter : Meth K (⟨CCourse, ["ends", "looks", "needs", "puts", "before"]⟩ : Cl).C "enter" f19 := ⟨a19, i19, k19⟩
  have F_Course_follow := fun_mk (st := s_Course_follow) l20 c20 k20
  have bi_Course_follow := F_Course_follow.binds (ps := ["self", "event"]) fun _ _ _ _ _ _ us hl => match us, hl with | [_, _], _ => rfl
  have mt_Course_follow : Meth K (⟨CCourse, ["ends", "looks", "needs", "puts", "before"]⟩ : Cl).C "follow" f20 := ⟨a20, i20, k20⟩
  have B : Blt mg := ⟨PySem.W.mg_none_of X G z21, PySem.W.mg_none_of X G z22, PySem.W.mg_none_of X G z23, PySem.W.mg_none_of X G z24, PySem.W.mg_none_of X G z25, PySem.W.mg_none_of X G z26, PySem.W.mg_none_of X G z27, PySem.W.mg_none_of X G z28, PySem.W.mg_none_of X G z29, PySem.W.mg_none_of X G z30, PySem.W.mg_none_of X G z31, PySem.W.mg_none_of X G z32, PySem.W.mg_none_of X G z33, PySem.W.mg_none_of X G z34, PySem.W.mg_none_of X G z35, PySem.W.mg_none_of X G z36, PySem.W.mg_none_of X G z37, PySem.W.mg_none_of X G z38⟩
  refine ⟨PySem.W.fnOf "law" "law" (defArgs s_law) (defBody s_law) (defScope s_law) .none kV16 dc16 pm16 an16 cd16 ct16, fun s v => .of_eq rfl, fun base _ _ => ?_⟩
  have Gp := has_pen (P := l.prog) (w := w) (base := base) (k := 0) B D__law_pen
  have G__law_take := h__law_take (P := l.prog) (w := w) (base := base) (k := 0) D__law_take B 
  have G__law_world := h__law_world (P := l.prog) (w := w) (base := base) (k := 1) D__law_world B G__law_take
  have G__law_state := h__law_state (P := l.prog) (w := w) (base := base) (k := 1) D__law_state B G__law_take
  have G__law_names := h__law_names (P := l.prog) (w := w) (base := base) (k := 1) D__law_names B G__law_take
  have G__law_put_in := h__law_put_in (P := l.prog) (w := w) (base := base) (k := 0) D__law_put_in B 
  have G__law_event := h__law_event (P := l.prog) (w := w) (base := base) (k := 1) D__law_event B G__law_take
  have G__law_log := h__law_log (P := l.prog) (w := w) (base := base) (k := 2) D__law_log B G__law_names (Has.mono G__law_take (by decide)) G__law_event (Has.mono G__law_put_in (by decide))
  have G__law_begun := h__law_begun (P := l.prog) (w := w) (base := base) (k := 0) D__law_begun B 
  have G__law_looks := h__law_looks (P := l.prog) (w := w) (base := base) (k := 0) D__law_looks B 
  have G__law_puts := h__law_puts (P := l.prog) (w := w) (base := base) (k := 0) D__law_puts B 
  have G__law_same0 : HasP l.prog w K mg base "_law_same" 1 ["found", "due"] (P_same 1) := h__law_same (P := l.prog) (w := w) (base := base) (k := 0) D__law_same B (D__law_same.no)
  have G__law_same1 : HasP l.prog w K mg base "_law_same" 2 ["found", "due"] (P_same 2) := h__law_same (P := l.prog) (w := w) (base := base) (k := 1) D__law_same B G__law_same0
  have G__law_same2 : HasP l.prog w K mg base "_law_same" 3 ["found", "due"] (P_same 3) := h__law_same (P := l.prog) (w := w) (base := base) (k := 2) D__law_same B G__law_same1
  have M_Course_note_look := h_Course_note_look (P := l.prog) (w := w) (base := base) (k := 0) F_Course_note_look bi_Course_note_look mt_Course_note_look B TCourse
  have M_Course_enter := h_Course_enter (P := l.prog) (w := w) (base := base) (k := 0) F_Course_enter bi_Course_enter mt_Course_enter B TCourse
  have M_Course_follow := h_Course_follow (P := l.prog) (w := w) (base := base) (k := 1) F_Course_follow bi_Course_follow mt_Course_follow B TCourse M_Course_enter M_Course_note_look
  have M_Course_init := h_Course_init (P := l.prog) (w := w) (base := base) (k := 0) F_Course_init bi_Course_init mk_Course mgC_Course B TCourse
  have G_course_of := h_course_of (P := l.prog) (w := w) (base := base) (k := 1) D_course_of B TCourse M_Course_follow M_Course_init
  have G_outer_looks := h_outer_looks (P := l.prog) (w := w) (base := base) (k := 3) D_outer_looks B TCourse G_course_of
  have G_puts_of := h_puts_of (P := l.prog) (w := w) (base := base) (k := 3) D_puts_of B TCourse G_course_of
  exact h_law (P := l.prog) (w := w) (base := base) (k := 4) F_law B (Has.mono Gp (by decide)) (Has.mono G__law_world (by decide)) (Has.mono G__law_log (by decide)) (Has.mono G__law_state (by decide)) (Has.mono G__law_begun (by decide)) (Has.mono G__law_puts (by decide)) G_outer_looks G_puts_of (Has.mono G__law_same2 (by decide)) (Has.mono G__law_looks (by decide)) fun ns a c ha hc => law_ok (c := ⟨CCourse, _⟩) rfl ns a c ha hc
theorem walk {l : PySem.W.OpenLaw} {q : Program} {loose : List Str} {XP : (Str → Option Value) → Heap → Prop} {YP : World → Heap → Prop} {d : DefRec} {K : Params → PySem.W.Frag} (hn : l.most = some 63) (hdf : d.params.defaults = [])
    (hY : ∀ (w : World) (h : Heap), YP w h → (K w.params).In h)
    (F : ∀ (w : World) (mg : Str → Option Value) (fa : Addr) (h : Heap), (K w.params).In h → h.Ns mainGlobals mg → mg d.name = some (.ref fa) →
      ∃ fd : FuncData, (∀ (s : Shared) (u : Value), BindsTo s fd ⟨[u], []⟩ [("script", u)]) ∧ ∀ base : Heap, (K w.params).In base → base.Ns mainGlobals mg → FnOk l.prog w (K w.params) mg base CX0 5 fa fd ["script"] (spLaw (K w.params))) :
    PySem.W.WalkO q loose XP YP l.row.toRowW d [] (fun f vs => PySem.call f vs) :=
  L2.walk_of (n := 63) (k := 5) (x := "script") (CX := fun _ => CX0) (sp := fun w => spLaw (K w.params)) hn (by decide) hdf ⟨rfl, by decide, by decide⟩ hY F (fun _ _ a ns hl _ hS => ⟨a, ns, rfl, hS, hl, fun _ => rfl⟩) fun _ _ _ _ _ z => z
end OL
open PySem PySem.W PyProof.Rows
set_option maxRecDepth 100000 in
set_option maxHeartbeats 0 in
theorem PySem.Challenge.cw_oneglance_k13_looks_and_puts_holds : PySem.Challenge.rw_oneglance_k13_looks_and_puts.Holds := by
  w_on; o_law; k_head; (case hw => w_witness2)
  k_fill
  refine OL.walk (l := PySem.Challenge.rw_oneglance_k13_looks_and_puts) rfl rfl (fun w h Y => PySem.W.kIn_of Y) ?F
  case F =>
    intro w mg fa h KX G hmg
    refine' OL.all_mk KX G hmg ?a1 ?l1 ?c1 ?k1 ?a2 ?l2 ?c2 ?k2 ?a3 ?l3 ?c3 ?k3 ?a4 ?l4 ?c4 ?k4 ?a5 ?l5 ?c5 ?k5 ?a6 ?l6 ?c6 ?k6 ?a7 ?l7 ?c7 ?k7 ?a8 ?l8 ?c8 ?k8 ?a9 ?l9 ?c9 ?k9 ?a10 ?l10 ?c10 ?k10 ?a11 ?l11 ?c11 ?k11 ?a12 ?l12 ?c12 ?k12 ?a13 ?l13 ?c13 ?k13 ?a14 ?l14 ?c14 ?k14 ?a15 ?l15 ?c15 ?k15 ?a16 ?l16 ?c16 ?k16 ?aCCourse ?pgCourse ?hdCourse ?poCourse ?saCourse ?mkCourse ?kcCourse ?nfCourse0 ?nfCourse1 ?nfCourse2 ?nfCourse3 ?nfCourse4 ?a17 ?i17 ?l17 ?c17 ?k17 ?a18 ?i18 ?l18 ?c18 ?k18 ?a19 ?i19 ?l19 ?c19 ?k19 ?a20 ?i20 ?l20 ?c20 ?k20 ?z21 ?z22 ?z23 ?z24 ?z25 ?z26 ?z27 ?z28 ?z29 ?z30 ?z31 ?z32 ?z33 ?z34 ?z35 ?z36 ?z37 ?z38
    (case a1 => k_is)
    (case l1 => k_is)
    (case c1 => k_is)
    (case k1 => k_is)
    (case a2 => k_is)
    (case l2 => k_is)
    (case c2 => k_is)
    (case k2 => k_is)
    (case a3 => k_is)
    (case l3 => k_is)
    (case c3 => k_is)
    (case k3 => k_is)
    (case a4 => k_is)
    (case l4 => k_is)
    (case c4 => k_is)
    (case k4 => k_is)
    (case a5 => k_is)
    (case l5 => k_is)
    (case c5 => k_is)
    (case k5 => k_is)
    (case a6 => k_is)
    (case l6 => k_is)
    (case c6 => k_is)
    (case k6 => k_is)
    (case a7 => k_is)
    (case l7 => k_is)
    (case c7 => k_is)
    (case k7 => k_is)
    (case a8 => k_is)
    (case l8 => k_is)
    (case c8 => k_is)
    (case k8 => k_is)
    (case a9 => k_is)
    (case l9 => k_is)
    (case c9 => k_is)
    (case k9 => k_is)
    (case a10 => k_is)
    (case l10 => k_is)
    (case c10 => k_is)
    (case k10 => k_is)
    (case a11 => k_is)
    (case l11 => k_is)
    (case c11 => k_is)
    (case k11 => k_is)
    (case a12 => k_is)
    (case l12 => k_is)
    (case c12 => k_is)
    (case k12 => k_is)
    (case a13 => k_is)
    (case l13 => k_is)
    (case c13 => k_is)
    (case k13 => k_is)
    (case a14 => k_is)
    (case l14 => k_is)
    (case c14 => k_is)
    (case k14 => k_is)
    (case a15 => k_is)
    (case l15 => k_is)
    (case c15 => k_is)
    (case k15 => k_is)
    (case a16 => k_is)
    (case l16 => k_is)
    (case c16 => k_is)
    (case k16 => k_is)
    (case aCCourse => k_is)
    (case pgCourse => k_is)
    (case hdCourse => k_is)
    (case poCourse => k_is)
    (case saCourse => k_is)
    (case mkCourse => k_is)
    (case kcCourse => k_is)
    (case nfCourse0 => k_is)
    (case nfCourse1 => k_is)
    (case nfCourse2 => k_is)
    (case nfCourse3 => k_is)
    (case nfCourse4 => k_is)
    (case a17 => k_is)
    (case i17 => k_is)
    (case l17 => k_is)
    (case c17 => k_is)
    (case k17 => k_is)
    (case a18 => k_is)
    (case i18 => k_is)
    (case l18 => k_is)
    (case c18 => k_is)
    (case k18 => k_is)
    (case a19 => k_is)
    (case i19 => k_is)
    (case l19 => k_is)
    (case c19 => k_is)
    (case k19 => k_is)
    (case a20 => k_is)
    (case i20 => k_is)
    (case l20 => k_is)
    (case c20 => k_is)
    (case k20 => k_is)
    (case z21 => k_is)
    (case z22 => k_is)
    (case z23 => k_is)
    (case z24 => k_is)
    (case z25 => k_is)
    (case z26 => k_is)
    (case z27 => k_is)
    (case z28 => k_is)
    (case z29 => k_is)
    (case z30 => k_is)
    (case z31 => k_is)
    (case z32 => k_is)
    (case z33 => k_is)
    (case z34 => k_is)
    (case z35 => k_is)
    (case z36 => k_is)
    (case z37 => k_is)
    (case z38 => k_is)
