import PyProof.Rows.All
import Wide.All
import OpenK.AllK
import Wide.FinOn
import Lean
import PyProof.EqAt
import PyProof.EqKinds
import PyProof.TupleCall
import PySem.Challenge.RW_edgetally_k30_measures_refused
set_option Elab.async false
set_option linter.all false
set_option maxRecDepth 100000
-- CHANGE: your row's module here, as the last of these rows
namespace L2
open PySem PySem.Spec PyProof.Rows
noncomputable abbrev Key := Sum Int Str
noncomputable def keyIs : Key → Value → Bool
  | .inl k, v => Value.isInt k v
  | .inr x, v => Value.isStrOf x v
noncomputable def keyH (w : World) : Key → Int
  | .inl k => hashInt k
  | .inr x => hashStr w x
theorem keyIs_shape : ∀ {k : Key} {v : Value}, keyIs k v = true → (∃ i t, k = Sum.inl i ∧ v = Value.int i t) ∨ (∃ x t, k = Sum.inr x ∧ v = Value.str x t)
  | .inl i, v, h => by
    obtain ⟨t, e⟩ := Value.isInt_shape (k := i) (v := v) h
    exact .inl ⟨i, t, rfl, e⟩
  | .inr x, v, h => by
    obtain ⟨t, e⟩ := Value.isStrOf_shape (x := x) (v := v) h
    exact .inr ⟨x, t, rfl, e⟩
theorem key_ll (a b : Int) : decide ((Sum.inl a : Key) = Sum.inl b) = (a == b) := by
  by_cases e : a = b
  · subst e; simp
  · have h : ¬ (Sum.inl a : Key) = Sum.inl b := fun q => e (Sum.inl.inj q)
    rw [decide_eq_false h]
    exact (beq_eq_false_iff_ne.mpr e).symm
theorem key_rr (a b : Str) : decide ((Sum.inr a : Key) = Sum.inr b) = decide (a = b) := by
  by_cases e : a = b
  · subst e; simp
  · have h : ¬ (Sum.inr a : Key) = Sum.inr b := fun q => e (Sum.inr.inj q)
    rw [decide_eq_false h, decide_eq_false e]
theorem key_lr (a : Int) (b : Str) : decide ((Sum.inl a : Key) = Sum.inr b) = false := decide_eq_false (fun q => nomatch q)
theorem key_rl (a : Str) (b : Int) : decide ((Sum.inr a : Key) = Sum.inl b) = false := decide_eq_false (fun q => nomatch q)
noncomputable def mixKind (prog : Program) (w : World) : PySem.KeyKind prog w Key where
  is := keyIs
  hash := keyH w
  inj := fun v a b ha hb => by
    rcases keyIs_shape ha with ⟨i, t, rfl, rfl⟩ | ⟨x, t, rfl, rfl⟩
    · rcases keyIs_shape hb with ⟨j, u, rfl, e⟩ | ⟨y, u, rfl, e⟩
      · injection e with e1 _; rw [e1]
      · exact nomatch e
    · rcases keyIs_shape hb with ⟨j, u, rfl, e⟩ | ⟨y, u, rfl, e⟩
      · exact nomatch e
      · injection e with e1 _; rw [e1]
  byValue := fun k v h => by
    rcases keyIs_shape h with ⟨i, t, rfl, rfl⟩ | ⟨x, t, rfl, rfl⟩ <;> rfl
  pyHash := fun hv h => by
    rcases keyIs_shape hv with ⟨i, t, rfl, rfl⟩ | ⟨x, t, rfl, rfl⟩
    · exact wpAny_pyHash_int h
    · exact wpAny_pyHash_str h
  eqBool := fun hu hv h => by
    rcases keyIs_shape hu with ⟨i, t, rfl, rfl⟩ | ⟨x, t, rfl, rfl⟩
    · rcases keyIs_shape hv with ⟨j, u, rfl, rfl⟩ | ⟨y, u, rfl, rfl⟩
      · rw [key_ll] at h; exact wpAny_eqBool_int h
      · rw [key_lr] at h; exact SeqAt.EqAt.int_str i t y u _ _ _ _ h
    · rcases keyIs_shape hv with ⟨j, u, rfl, rfl⟩ | ⟨y, u, rfl, rfl⟩
      · rw [key_rl] at h; exact SeqAt.EqAt.str_int x t j u _ _ _ _ h
      · rw [key_rr] at h; exact wpAny_eqBool_str h
  «strs» := fun k x t v h => by
    rcases keyIs_shape h with ⟨i, u, rfl, e⟩ | ⟨y, u, rfl, e⟩
    · exact nomatch e
    · injection e with e1 _
      subst e1
      cases v <;> rfl
end L2
namespace L2
open PySem PySem.Spec PyProof.Rows
inductive V where
  | non | bl (b : Bool) | int (i : Int) | str (x : Str) | byt (b : Array UInt8) | flt (b : UInt64) | ref (a : Addr) | ty (n : String)
  deriving DecidableEq
noncomputable def RelV : V → Value → Prop
  | .non, u => u = Value.none
  | .bl b, u => u = Value.bool b
  | .int i, u => ∃ t, u = Value.int i t
  | .str x, u => ∃ t, u = Value.str x t
  | .byt b, u => ∃ t, u = Value.bytes b t
  | .flt b, u => ∃ t, u = Value.float b t
  | .ref a, u => u = Value.ref a
  | .ty n, u => u = Value.type n
noncomputable abbrev Vals : List V → List Value → Prop := Paired RelV
theorem Vals.length {xs : List V} {us : List Value} (r : Vals xs us) : xs.length = us.length := Paired.length r
theorem Vals.get : ∀ {xs : List V} {us : List Value} {i : Nat} {x : V}, Vals xs us → xs[i]? = some x → ∃ u, us[i]? = some u ∧ RelV x u
  | _, _, _, _, .nil, e => by simp at e
  | _, _, 0, _, .cons r _, e => by simp at e; subst e; exact ⟨_, rfl, r⟩
  | _, _, i + 1, x, .cons _ t, e => by
    obtain ⟨u, h1, h2⟩ := Vals.get (i := i) (x := x) t (by simpa using e)
    exact ⟨u, by simpa using h1, h2⟩
theorem Vals.set {x : V} {u : Value} (r : RelV x u) : ∀ {xs : List V} {us : List Value} (i : Nat), Vals xs us → Vals (xs.set i x) (us.set i u)
  | _, _, _, .nil => .nil
  | _, _, 0, .cons _ t => .cons r t
  | _, _, i + 1, .cons q t => .cons q (Vals.set r i t)
theorem Vals.append : ∀ {xs ys : List V} {us ws : List Value}, Vals xs us → Vals ys ws → Vals (xs ++ ys) (us ++ ws)
  | _, _, _, _, .nil, s => s
  | _, _, _, _, .cons r t, s => .cons r (Vals.append t s)
theorem Vals.take : ∀ {xs : List V} {us : List Value} (n : Nat), Vals xs us → Vals (xs.take n) (us.take n)
  | _, _, 0, _ => .nil
  | _, _, _ + 1, .nil => .nil
  | _, _, n + 1, .cons r t => .cons r (Vals.take n t)
theorem Vals.drop : ∀ {xs : List V} {us : List Value} (n : Nat), Vals xs us → Vals (xs.drop n) (us.drop n)
  | _, _, 0, r => r
  | _, _, _ + 1, .nil => .nil
  | _, _, n + 1, .cons _ t => Vals.drop n t
noncomputable def RelO : Option V → Option Value → Prop
  | some v, some u => RelV v u
  | none, none => True
  | _, _ => False
noncomputable def KV {κ : Type} : List (κ × V) → List (κ × Value) → Prop := Paired fun (p : κ × V) (q : κ × Value) => p.1 = q.1 ∧ RelV p.2 q.2
noncomputable def kV : Key → V
  | .inl i => .int i
  | .inr x => .str x
inductive HO where
  /-- a list -/
  | lst (xs : List V)
  /-- a tuple (never changes) -/
  | tup (xs : List V)
  /-- a dict whose keys are ints and texts; one whose keys are tuples of ints and texts (the empty one is both) -/
  | dK (kvs : List (Key × V)) | dT (kvs : List (List Key × V))
  /-- a set of ints: its members, its size -/
  | set (S : Int → Bool) (n : Nat)
  /-- an instance of the class at C, its dict at dx, its attributes -/
  | ins (C dx : Addr) (fs : List (Str × V))
  /-- the dict of the instance at x -/
  | own (x : Addr)
  /-- the dict of an exception -/
  | xd (fs : List (Str × V))
  /-- a bound method, f of x -/
  | met (f x : Addr)
  /-- a range object lo, lo + 1, .. below hi -/
  | rng (lo hi : Int)
  /-- a thing that is known to the object (the script; a dict while a loop walks it): read, never written while it is so -/
  | frz (o : Obj) (u : HO)
  /-- a code object's table -/
  | tbl (ps : Array Value)
  /-- any other thing, by what is true of its one object (a def of one's own: SetO a S n := HO.ext fun h => ..) -/
  | ext (φ : Heap → Prop)
noncomputable abbrev Hp := Addr → Option HO
noncomputable def upd (H : Hp) (a : Addr) (o : HO) : Hp := fun b => if b = a then some o else H b
theorem upd_same {H : Hp} {a : Addr} {o : HO} : upd H a o a = some o := by unfold upd; rw [if_pos rfl]
theorem upd_ne {H : Hp} {a b : Addr} {o : HO} (h : b ≠ a) : upd H a o b = H b := by unfold upd; rw [if_neg h]
theorem ne_of {H : Hp} {a b : Addr} {o u : HO} (h : H a = some o) (h' : H b = some u) (d : o ≠ u) : a ≠ b := by
  intro e; subst e; rw [h] at h'; exact d (Option.some.inj h')
theorem ne_of_none {H : Hp} {a b : Addr} {o : HO} (h : H a = some o) (h' : H b = none) : a ≠ b := by
  intro e; subst e; rw [h] at h'; cases h'
section
variable (P : Program) (w : World)
noncomputable def ObjOk (H : Hp) (h : Heap) (a : Addr) : HO → Prop
  | .lst xs => xs.length ≤ sizeLine ∧ ∃ (its : List Value) (n : Nat), Vals xs its ∧ h.get? a = some { cls := .type "list", data := .seq its.toArray n }
  | .tup xs => xs.length ≤ sizeLine ∧ ∃ its : List Value, Vals xs its ∧ IsTup h a its.toArray
  | .dK kvs => kvs.length ≤ sizeLine ∧ (a == sysModules) = false ∧ ∃ vs, KV kvs vs ∧ h.DictOf (mixKind P w) a vs
  | .dT kvs => kvs.length ≤ sizeLine ∧ (a == sysModules) = false ∧ ∃ xs : List (List Key × Addr × Value),
      Paired (fun (p : List Key × V) (q : List Key × Addr × Value) => p.1 = q.1 ∧ H q.2.1 = some (.tup (p.1.map kV)) ∧ RelV p.2 q.2.2) kvs xs ∧
      ∃ o es ep, h.get? a = some o ∧ o.ExactDict ∧ o.data = .dict es ep ∧ es.toList = xs.map (entryOfKey (tupleKind (mixKind P w))) ∧ (xs.map (·.1)).Nodup
  | .set S n => h.SetOf (intKind P w) a S n
  | .ins C dx fs => H dx = some (.own a) ∧ fs.length ≤ 1000 ∧ dx ≠ a ∧ h.get? a = some (PySem.W.instObj C dx) ∧
      ∃ mA, h.Ns1 dx mA ∧ (∀ f, RelO (fs.lookup f) (mA f)) ∧ PySem.Within mA (fs.map (·.1))
  | .own _ => ∃ o, h.get? a = some o
  | .xd fs => ∃ mA, h.Ns1 a mA ∧ ∀ f, RelO (fs.lookup f) (mA f)
  | .rng lo hi => ∃ t u v, h.get? a = some { cls := .type "range", data := .fields #[.int lo t, .int hi u, .int 1 v] }
  | .frz o u => h.get? a = some o ∧ ObjOk H h a u
  | .tbl ps => h.get? a = some { cls := .none, data := .fields ps }
  | .met f x => h.get? a = some (PySem.W.methodObj (.ref f) (.ref x))
  | .ext φ => φ h ∧ (∃ o, h.get? a = some o) ∧ ∀ h1 h2 : Heap, φ h1 → (∀ o, h1.get? a = some o → h2.get? a = some o) → φ h2
noncomputable def HOk (H : Hp) (h : Heap) : Prop := ∀ a o, H a = some o → ObjOk P w H h a o
end
section
variable {P : Program} {w : World} {H H' : Hp} {h h' : Heap} {a : Addr} {o : HO}
theorem ObjOk.lt (x : ObjOk P w H h a o) : a < h.objs.size := by
  cases o with
  | lst xs => obtain ⟨_, _, _, _, e⟩ := x; exact Heap.lt_size e
  | tup xs => obtain ⟨_, _, _, p⟩ := x; exact p.lt
  | dK kvs => obtain ⟨_, _, _, _, o, _, _, e, _⟩ := x; exact Heap.lt_size e
  | dT kvs => obtain ⟨_, _, _, _, o, _, _, e, _⟩ := x; exact Heap.lt_size e
  | set S n => obtain ⟨o, _, _, _, e, _⟩ := x; exact Heap.lt_size e
  | ins C dx fs => obtain ⟨_, _, _, e, _⟩ := x; exact Heap.lt_size e
  | own y => obtain ⟨_, e⟩ := x; exact Heap.lt_size e
  | xd fs => obtain ⟨_, ⟨_, _, _, e, _⟩, _⟩ := x; exact Heap.lt_size e
  | rng lo hi => obtain ⟨_, _, _, e⟩ := x; exact Heap.lt_size e
  | frz ob u => obtain ⟨e, _⟩ := x; exact Heap.lt_size e
  | tbl ps => exact Heap.lt_size (show h.get? a = some _ from x)
  | met f y => exact Heap.lt_size (show h.get? a = some _ from x)
  | ext φ => obtain ⟨_, ⟨_, e⟩, _⟩ := x; exact Heap.lt_size e
theorem Paired.mapP {α β : Type} {F G : α → β → Prop} : ∀ {l₁ : List α} {l₂ : List β}, Paired F l₁ l₂ → (∀ a b, F a b → G a b) → Paired G l₁ l₂
  | _, _, .nil, _ => .nil
  | _, _, .cons r t, f => .cons (f _ _ r) (Paired.mapP t f)
theorem ObjOk.stay (x : ObjOk P w H h a o) (k : ∀ b u, (b = a ∨ H b = some (.own a)) → h.get? b = some u → h'.get? b = some u)
    (ho : ∀ b, H b = some (.own a) → H' b = some (.own a)) (ht : ∀ b xs, H b = some (.tup xs) → H' b = some (.tup xs)) : ObjOk P w H' h' a o := by
  induction o with
  | lst xs => obtain ⟨z, its, n, r, e⟩ := x; exact ⟨z, its, n, r, k _ _ (.inl rfl) e⟩
  | tup xs => obtain ⟨z, its, r, ob, e, c⟩ := x; exact ⟨z, its, r, ob, k _ _ (.inl rfl) e, c⟩
  | dK kvs => obtain ⟨z, y, vs, r, ob, es, ep, e, c⟩ := x; exact ⟨z, y, vs, r, ob, es, ep, k _ _ (.inl rfl) e, c⟩
  | dT kvs =>
    obtain ⟨z, y, xs, r, ob, es, ep, e, c⟩ := x
    exact ⟨z, y, xs, Paired.mapP r fun p q z => ⟨z.1, ht _ _ z.2.1, z.2.2⟩, ob, es, ep, k _ _ (.inl rfl) e, c⟩
  | set S n => obtain ⟨ob, es, ep, t, e, c⟩ := x; exact ⟨ob, es, ep, t, k _ _ (.inl rfl) e, c⟩
  | ins C dx fs =>
    obtain ⟨d, z, ne, e, mA, ⟨od, es, ep, e2, c⟩, r⟩ := x
    exact ⟨ho _ d, z, ne, k _ _ (.inl rfl) e, mA, ⟨od, es, ep, k _ _ (.inr d) e2, c⟩, r⟩
  | own y => obtain ⟨ob, e⟩ := x; exact ⟨ob, k _ _ (.inl rfl) e⟩
  | xd fs => obtain ⟨mA, ⟨od, es, ep, e, c⟩, r⟩ := x; exact ⟨mA, ⟨od, es, ep, k _ _ (.inl rfl) e, c⟩, r⟩
  | rng lo hi => obtain ⟨t, u, v, e⟩ := x; exact ⟨t, u, v, k _ _ (.inl rfl) e⟩
  | frz ob u ih => obtain ⟨e, q⟩ := x; exact ⟨k _ _ (.inl rfl) e, ih q⟩
  | tbl ps =>
    have e : h.get? a = some { cls := .none, data := .fields ps } := x
    show h'.get? a = some { cls := .none, data := .fields ps }
    exact k a _ (.inl rfl) e
  | met f y =>
    have e : h.get? a = some (PySem.W.methodObj (.ref f) (.ref y)) := x
    show h'.get? a = some (PySem.W.methodObj (.ref f) (.ref y))
    exact k a _ (.inl rfl) e
  | ext φ => obtain ⟨p, ⟨o, e⟩, st⟩ := x; exact ⟨st _ _ p fun o q => k _ _ (.inl rfl) q, ⟨o, k _ _ (.inl rfl) e⟩, st⟩
theorem HOk.lt (x : HOk P w H h) (e : H a = some o) : a < h.objs.size := (x a o e).lt
theorem HOk.fresh (x : HOk P w H h) (e : h.objs.size ≤ a) : H a = none := by
  cases q : H a with
  | none => rfl
  | some u => exact absurd (Nat.lt_of_lt_of_le (x.lt q) e) (Nat.lt_irrefl _)
theorem HOk.kept (x : HOk P w H h) (k : ∀ b u, h.get? b = some u → h'.get? b = some u) : HOk P w H h' := fun a o e =>
  (x a o e).stay (fun b u _ q => k b u q) (fun _ q => q) fun _ _ q => q
theorem HOk.laid (x : HOk P w H h) (k : ∀ b u, h.get? b = some u → h'.get? b = some u) (hp : h.objs.size ≤ a) (new : ObjOk P w (upd H a o) h' a o) : HOk P w (upd H a o) h' := fun b u e => by
  have hn := x.fresh hp
  by_cases hb : b = a
  · subst hb; rw [upd_same] at e; cases e; exact new
  · rw [upd_ne hb] at e
    exact (x b u e).stay (fun c v _ q => k c v q) (fun c q => by rw [upd_ne (ne_of_none q hn)]; exact q) fun c xs q => by rw [upd_ne (ne_of_none q hn)]; exact q
end
noncomputable def Rd (H : Hp) (a : Addr) (u : HO) : Prop := H a = some u ∨ ∃ o, H a = some (.frz o u)
theorem Rd.ok {P : Program} {w : World} {H : Hp} {h : Heap} {a : Addr} {u : HO} (r : Rd H a u) (x : HOk P w H h) : ObjOk P w H h a u := by
  rcases r with r | ⟨o, r⟩
  · exact x a u r
  · obtain ⟨_, q⟩ := x a _ r
    exact q
noncomputable def Mut : Option HO → Prop
  | some (.lst _) => True
  | some (.dK _) => True
  | some (.dT _) => True
  | some (.set _ _) => True
  | some (.ins _ _ _) => True
  | some (.ext _) => True
  | _ => False
section
variable {P : Program} {w : World} {H : Hp} {h h' : Heap} {x e : Addr} {o' : HO}
theorem HOk.write (ok : HOk P w H h) (mu : Mut (H x)) (he : e = x ∨ H e = some (.own x)) (k : ∀ b u, b ≠ e → h.get? b = some u → h'.get? b = some u) (heo : ∃ u, h'.get? e = some u)
    (new : ObjOk P w (upd H x o') h' x o') : HOk P w (upd H x o') h' := fun b u q => by
  have nown : ∀ c y, H c = some (.own y) → c ≠ x := fun c y r z => by subst z; rw [r] at mu; exact mu
  have ntup : ∀ c xs, H c = some (.tup xs) → c ≠ x := fun c xs r z => by subst z; rw [r] at mu; exact mu
  by_cases hb : b = x
  · subst hb; rw [upd_same] at q; cases q; exact new
  · rw [upd_ne hb] at q
    by_cases hbe : b = e
    · have q' : H b = some (.own x) := by
        rcases he with z | z
        · exact absurd (hbe.trans z) hb
        · rw [hbe]; exact z
      rw [q] at q'; cases q'
      obtain ⟨v, hv⟩ := heo
      exact ⟨v, by rw [hbe]; exact hv⟩
    · refine (ok b u q).stay (fun c v hc r => k c v ?_ r) (fun c r => by rw [upd_ne (nown c b r)]; exact r) fun c xs r => by rw [upd_ne (ntup c xs r)]; exact r
      rcases hc with rfl | hc
      · exact hbe
      · rintro rfl
        rcases he with z | z
        · exact nown c b hc z
        · rw [hc] at z; cases z; exact hb rfl
end
structure Un (fs ex : List Addr) (H H' : Hp) (h h' : Heap) : Prop where
  keep : ∀ b o, h.get? b = some o → H b = none → b ∉ fs → b ∉ ex → h'.get? b = some o
  slot : ∀ b o, h.get? b = some o → H b = none → b ∈ fs → b ∉ ex → ∃ sl, h'.get? b = some { o with slots := sl }
  free : ∀ b o, h.get? b = some o → H b = none → b ∉ ex → H' b = none
  there : ∀ b o, h.get? b = some o → b ∉ ex → ∃ o', h'.get? b = some o'
  tups : ∀ b xs, H b = some (.tup xs) → H' b = some (.tup xs)
  frzs : ∀ b o u, H b = some (.frz o u) → H' b = some (.frz o u)
  tbls : ∀ b ps, H b = some (.tbl ps) → ∃ more, H' b = some (.tbl (ps ++ more))
section
variable {fs fs' ex ex' : List Addr} {H H1 H2 : Hp} {h h1 h2 h' : Heap} {a x e : Addr} {o : HO}
theorem Un.any (u : Un fs ex H H1 h h1) {b : Addr} {ob : Obj} (q : h.get? b = some ob) (n : H b = none) (hx : b ∉ ex) : ∃ sl, h1.get? b = some { ob with slots := sl } := by
  by_cases hb : b ∈ fs
  · exact u.slot b ob q n hb hx
  · exact ⟨ob.slots, u.keep b ob q n hb hx⟩
theorem Un.trans (a : Un fs ex H H1 h h1) (b : Un fs ex H1 H2 h1 h2) : Un fs ex H H2 h h2 where
  keep := fun c ob q n hc hx => b.keep c ob (a.keep c ob q n hc hx) (a.free c ob q n hx) hc hx
  slot := fun c ob q n hc hx => by
    obtain ⟨sl, e1⟩ := a.slot c ob q n hc hx
    obtain ⟨sl', e2⟩ := b.slot c _ e1 (a.free c ob q n hx) hc hx
    exact ⟨sl', e2⟩
  free := fun c ob q n hx => by
    obtain ⟨o', e1⟩ := a.there c ob q hx
    exact b.free c o' e1 (a.free c ob q n hx) hx
  there := fun c ob q hx => by
    obtain ⟨o', e1⟩ := a.there c ob q hx
    exact b.there c o' e1 hx
  tups := fun c xs q => b.tups c xs (a.tups c xs q)
  frzs := fun c ob xs q => b.frzs c ob xs (a.frzs c ob xs q)
  tbls := fun c ps q => by
    obtain ⟨m1, e1⟩ := a.tbls c ps q
    obtain ⟨m2, e2⟩ := b.tbls c _ e1
    exact ⟨m1 ++ m2, by rw [e2, Array.append_assoc]⟩
theorem Un.kept (k : ∀ b u, h.get? b = some u → h'.get? b = some u) : Un fs ex H H h h' :=
  ⟨fun b ob q _ _ _ => k b ob q, fun b ob q _ _ _ => ⟨ob.slots, k b ob q⟩, fun _ _ _ n _ => n, fun b ob q _ => ⟨ob, k b ob q⟩, fun _ _ q => q, fun _ _ _ q => q, fun _ ps q => ⟨#[], by rw [q]; simp⟩⟩
theorem Un.refl : Un fs ex H H h h := Un.kept fun _ _ q => q
theorem Un.laid (k : ∀ b u, h.get? b = some u → h'.get? b = some u) (hp : h.objs.size ≤ a) (hn : H a = none) : Un fs ex H (upd H a o) h h' where
  keep := fun b u q _ _ _ => k b u q
  slot := fun b u q _ _ _ => ⟨u.slots, k b u q⟩
  free := fun b u q n _ => by rw [upd_ne (Nat.ne_of_lt (Nat.lt_of_lt_of_le (Heap.lt_size q) hp))]; exact n
  there := fun b u q _ => ⟨u, k b u q⟩
  tups := fun b xs q => by rw [upd_ne (ne_of_none q hn)]; exact q
  frzs := fun b u xs q => by rw [upd_ne (ne_of_none q hn)]; exact q
  tbls := fun b ps q => ⟨#[], by rw [upd_ne (ne_of_none q hn), q]; simp⟩
theorem Un.write (mu : Mut (H x)) (he : e = x ∨ H e = some (.own x)) (k : ∀ b u, b ≠ e → h.get? b = some u → h'.get? b = some u) (heo : ∃ u, h'.get? e = some u) : Un fs ex H (upd H x o) h h' := by
  have hx : ∀ b, H b = none → b ≠ x := fun b n z => by subst z; rw [n] at mu; exact mu
  have hb : ∀ b, H b = none → b ≠ e := fun b n z => by
    subst z
    rcases he with r | r
    · exact hx b n r
    · rw [n] at r; cases r
  have hm : ∀ b u, H b = some u → ¬ Mut (some u) → b ≠ x := fun b u q nm z => by subst z; rw [q] at mu; exact nm mu
  refine ⟨fun b u q n _ _ => k b u (hb b n) q, fun b u q n _ _ => ⟨u.slots, k b u (hb b n) q⟩, fun b u q n _ => by rw [upd_ne (hx b n)]; exact n, fun b u q _ => ?_,
    fun b xs q => by rw [upd_ne (hm b _ q fun z => z)]; exact q, fun b u xs q => by rw [upd_ne (hm b _ q fun z => z)]; exact q, fun b ps q => ⟨#[], by rw [upd_ne (hm b _ q fun z => z), q]; simp⟩⟩
  by_cases hbe : b = e
  · subst hbe; exact heo
  · exact ⟨u, k b u hbe q⟩
theorem Un.mono (u : Un fs ex H H1 h h1) (hs : ∀ b ∈ fs, b ∈ fs') (hx : ∀ b ∈ ex, b ∈ ex') : Un fs' ex' H H1 h h1 :=
  ⟨fun b ob q n hb he => u.keep b ob q n (fun z => hb (hs b z)) fun z => he (hx b z), fun _ _ q n _ he => u.any q n fun z => he (hx _ z), fun b ob q n he => u.free b ob q n fun z => he (hx b z), fun b ob q he => u.there b ob q fun z => he (hx b z), u.tups, u.frzs, u.tbls⟩
end
noncomputable def trk (h : Heap) (H : Hp) : List Addr := (List.range h.objs.size).filter fun a => (H a).isSome
noncomputable def hidT (h : Heap) (H : Hp) : Heap := PySem.W.hideAll h (trk h H)
theorem hidT_size (h : Heap) (H : Hp) : (hidT h H).objs.size = h.objs.size := PySem.W.hideAll_size _ _
theorem hidT_get {h : Heap} {H : Hp} {b : Addr} {o : Obj} (e : h.get? b = some o) (n : H b = none) : (hidT h H).get? b = some o :=
  PySem.W.hideAll_get _ e fun hm => by
    have q : (H b).isSome = true := (List.mem_filter.mp hm).2
    rw [n] at q; simp at q
theorem of_hidT {h : Heap} {H : Hp} {b : Addr} {o : Obj} (e : (hidT h H).get? b = some o) : h.get? b = some o ∧ H b = none := by
  have e' : h.get? b = some o := PySem.W.of_hideAll (trk h H) e
  refine ⟨e', ?_⟩
  cases q : H b with
  | none => rfl
  | some x =>
    have hm : b ∈ trk h H := List.mem_filter.mpr ⟨List.mem_range.mpr (Heap.lt_size e'), by simp [q]⟩
    have z : (hidT h H).get? b = none := PySem.W.hideAll_none (trk h H) hm
    rw [z] at e; cases e
end L2
namespace L2
open PySem PySem.Spec PyProof.Rows
structure Mod (K : PySem.W.Frag) (mg : Str → Option Value) (base : Heap) : Prop where
  kin : K.In base
  glob : base.Ns mainGlobals mg
  blt : ∃ mb, base.Ns builtinsNs mb ∧ ∀ x : Str, x ≠ "__name__" → mb x = bootBuiltins x
  nolimit : base.NoLimit
/-- the context: a def's body (or a comprehension's block) running. base: fixed through the whole law; s₀, H₀: the entry; outer: the frames whose slots others may change (a def's callers); stack: all frames that run;
   ex: iterators that were made ahead of the entry and are walked here (a comprehension's); fn: the names whose cells were made at the entry (a def: all; a comprehension's block: its own); calm: not within an except suite; pn: pins that every state bears; xe: what is wanted of an exception that leaves the code -/
structure Cx where
  prog : Program
  w : World
  K : PySem.W.Frag
  mg : Str → Option Value
  base : Heap
  A : Around
  N : List Str
  s₀ : Shared
  H₀ : Hp
  env : Env
  outer : List Env
  stack : List Env
  ex : List Addr
  fn : Str → Bool
  calm : Bool
  pn : List (Addr × Obj)
  xe : Value → Shared → Prop
noncomputable def frs (l : List Env) : List Addr := l.filterMap (·.frame)
noncomputable abbrev Cx.fs (X : Cx) : List Addr := frs X.outer
noncomputable def Vis (sc : Scope) (x : Str) : Prop := sc.names.lookup x = some .local ∨ sc.names.lookup x = some .cell ∨ sc.names.lookup x = some .free
noncomputable def Loc (sc : Scope) (x : Str) : Prop := sc.names.lookup x = some .local ∨ sc.names.lookup x = some .cell
noncomputable def Look (env : Env) (h : Heap) (m : Str → Option Value) (x : Str) (u : Value) : Prop :=
  (env.kindOf x = some .local ∧ m x = some u) ∨ ((env.kindOf x = some .cell ∨ env.kindOf x = some .free) ∧ ∃ c, env.cells.lookup x = some c ∧ h.IsCell c (some u))
structure Cx.Ok (X : Cx) : Prop where
  mod : Mod X.K X.mg X.base
  kind : X.env.scope.kind = .function
  glob : X.env.globals = mainGlobals
  blt : X.env.builtins = builtinsNs
  above : X.s₀.heap.objs.size ≤ X.env.locals
  inj : ∀ x y c, X.env.cells.lookup x = some c → X.env.cells.lookup y = some c → x = y
  has : ∀ x, (X.env.kindOf x = some .cell ∨ X.env.kindOf x = some .free) → ∃ c, X.env.cells.lookup x = some c
  cab : ∀ x c, X.fn x = true → X.env.cells.lookup x = some c → X.s₀.heap.objs.size ≤ c
  hd : X.calm = true → X.A.handled = none
  frames : X.A.frames = some X.stack
  stk : X.stack = X.outer ∨ (X.stack = X.env :: X.outer ∧ X.env.frame = some X.env.locals)
  exf : ∀ b ∈ X.ex, b ≠ X.env.locals ∧ ∀ x c, X.env.cells.lookup x = some c → c ≠ b
  bs : ∀ b o, X.base.get? b = some o → X.s₀.heap.get? b = some o ∧ X.H₀ b = none
  bsz : X.base.objs.size ≤ X.s₀.heap.objs.size
  noex : ∀ b o, X.base.get? b = some o → b ∉ X.ex
  exfs : ∀ b ∈ X.ex, b ∉ X.fs
  funs : X.s₀.heap.FunFrames X.base X.outer
  frf : ∀ b ∈ X.fs, X.H₀ b = none
structure Inv (X : Cx) (pins : List (Addr × Obj)) (σ : List (Option V)) (H : Hp) (s : Shared) : Prop where
  ok : X.Ok
  os : s.os = X.s₀.os
  bare : AllBare s.gens
  base : Un X.fs X.ex X.H₀ H X.s₀.heap s.heap
  loc : ∃ m, s.heap.Ns X.env.locals m ∧ ∀ (i : Nat) (x : Str) (v : V), X.N[i]? = some x → σ[i]? = some (some v) → Vis X.env.scope x → ∃ u, RelV v u ∧ Look X.env s.heap m x u
  cell : ∀ x c, X.env.cells.lookup x = some c → ∃ v, s.heap.IsCell c v
  free : H X.env.locals = none
  freeC : ∀ x c, X.env.cells.lookup x = some c → H c = none
  pin : ∀ p ∈ X.pn ++ pins, s.heap.get? p.1 = some p.2 ∧ H p.1 = none ∧ p.1 ≠ X.env.locals ∧ p.1 ∉ X.fs ∧ ∀ v, p.2.data ≠ .cell v
  hok : HOk X.prog X.w H s.heap
  len : σ.length = X.N.length
section
variable {X : Cx} {pins : List (Addr × Obj)} {σ : List (Option V)} {H H' : Hp} {s : Shared} {h' : Heap}
theorem Cx.Ok.nofr (ok : X.Ok) {b : Addr} {o : Obj} (e : X.base.get? b = some o) : b ∉ X.fs := fun hb => by
  have := (ok.funs.mem hb).1
  rw [e] at this; cases this
theorem Inv.bs (I : Inv X pins σ H s) : ∀ b o, X.base.get? b = some o → s.heap.get? b = some o ∧ H b = none := fun b o e =>
  ⟨I.base.keep b o (I.ok.bs b o e).1 (I.ok.bs b o e).2 (I.ok.nofr e) (I.ok.noex b o e), I.base.free b o (I.ok.bs b o e).1 (I.ok.bs b o e).2 (I.ok.noex b o e)⟩
theorem Inv.bk (I : Inv X pins σ H s) : ∀ b o, X.base.get? b = some o → s.heap.get? b = some o := fun b o e => (I.bs b o e).1
theorem Inv.mod (I : Inv X pins σ H s) : Mod X.K X.mg X.base := I.ok.mod
theorem Inv.kIn (I : Inv X pins σ H s) : X.K.In s.heap := I.ok.mod.kin.keeps I.bk
theorem Inv.fr (I : Inv X pins σ H s) : ∃ m, Fr X.base X.env.locals s.heap m :=
  let ⟨m, hn, _⟩ := I.loc
  ⟨m, hn, I.bk, Nat.le_trans I.ok.bsz I.ok.above⟩
theorem Inv.lt (I : Inv X pins σ H s) : X.env.locals < s.heap.objs.size := let ⟨_, hn, _⟩ := I.loc; hn.lt
theorem Inv.sz (I : Inv X pins σ H s) : X.s₀.heap.objs.size ≤ s.heap.objs.size := Nat.le_trans I.ok.above (Nat.le_of_lt I.lt)
theorem Inv.nofs (I : Inv X pins σ H s) {a : Addr} (h : s.heap.objs.size ≤ a) : a ∉ X.fs := fun hb => by
  obtain ⟨_, o, ho, _⟩ := I.ok.funs.mem hb
  exact absurd (Nat.lt_of_lt_of_le (Heap.lt_size ho) (Nat.le_trans I.sz h)) (Nat.lt_irrefl _)
theorem Inv.cne (I : Inv X pins σ H s) : ∀ x c, X.env.cells.lookup x = some c → c ≠ X.env.locals := fun x c e z => by
  obtain ⟨v, o, ho, hd⟩ := I.cell x c e
  obtain ⟨m, ⟨o', es, ep, ho', hd', _⟩, _⟩ := I.loc
  rw [z, ho'] at ho; cases ho; rw [hd'] at hd; cases hd
theorem Inv.funs (I : Inv X pins σ H s) : s.heap.FunFrames X.base X.outer := by
  have all : ∀ (l : List Env), (∀ b ∈ frs l, b ∈ X.fs) → X.s₀.heap.FunFrames X.base l → s.heap.FunFrames X.base l := by
    intro l
    induction l with
    | nil => intro _ _; trivial
    | cons env r ih =>
      intro hs hl
      obtain ⟨hk, ⟨L, o, hf, hn, ho, hd⟩, hr⟩ := hl
      have hL : L ∈ X.fs := hs L (by unfold frs; rw [List.filterMap_cons, hf]; exact List.mem_cons_self)
      obtain ⟨sl, e⟩ := I.base.slot L o ho (I.ok.frf L hL) hL fun z => I.ok.exfs L z hL
      exact ⟨hk, ⟨L, _, hf, hn, e, hd⟩, ih (fun b hb => hs b (by unfold frs; rw [List.filterMap_cons, hf]; exact List.mem_cons_of_mem _ hb)) hr⟩
  exact all X.outer (fun _ hb => hb) I.ok.funs
theorem Inv.stack (I : Inv X pins σ H s) : s.heap.FunFrames X.base X.stack := by
  rcases I.ok.stk with e | ⟨e, hf⟩
  · rw [e]; exact I.funs
  · rw [e]
    obtain ⟨m, hn, _⟩ := I.loc
    refine .cons (by rw [I.ok.kind]; decide) hf hn ?_ I.funs
    exact Heap.get?_none_of_le (Nat.le_trans I.ok.bsz I.ok.above)
theorem Inv.stkSub (I : Inv X pins σ H s) : ∀ b ∈ frs X.stack, b ∈ X.env.locals :: X.fs := fun b hb => by
  rcases I.ok.stk with e | ⟨e, hf⟩
  · rw [e] at hb; exact List.mem_cons_of_mem _ hb
  · rw [e] at hb
    unfold frs at hb
    rw [List.filterMap_cons, hf] at hb
    exact hb
theorem Inv.stkFree (I : Inv X pins σ H s) : ∀ b ∈ frs X.stack, H b = none := fun b hb => by
  rcases List.mem_cons.mp (I.stkSub b hb) with e | hb
  · rw [e]; exact I.free
  · obtain ⟨_, o, ho, _⟩ := I.ok.funs.mem hb
    exact I.base.free b o ho (I.ok.frf b hb) fun z => I.ok.exfs b z hb
theorem Inv.step {g' : Array GenState} {t' : Nat} {d' : Drawn} {ch : List Addr} (I : Inv X pins σ H s)
    (hch : ∀ b ∈ ch, (b ∈ X.ex ∨ X.s₀.heap.objs.size ≤ b) ∧ b ≠ X.env.locals ∧ (∀ x c, X.env.cells.lookup x = some c → c ≠ b) ∧ ∀ p ∈ X.pn ++ pins, p.1 ≠ b)
    (keep : ∀ b o, b ≠ X.env.locals → b ∉ X.fs → b ∉ ch → s.heap.get? b = some o → H b = none → h'.get? b = some o)
    (slot : ∀ b o, b ≠ X.env.locals → b ∈ X.fs → b ∉ ch → s.heap.get? b = some o → H b = none → ∃ sl, h'.get? b = some { o with slots := sl }) (free : ∀ b o, b ∉ ch → s.heap.get? b = some o → H b = none → H' b = none)
    (there : ∀ b o, b ∉ ch → s.heap.get? b = some o → ∃ o', h'.get? b = some o')
    (tups : ∀ b xs, H b = some (.tup xs) → H' b = some (.tup xs)) (frzs : ∀ b o u, H b = some (.frz o u) → H' b = some (.frz o u)) (tbls : ∀ b ps, H b = some (.tbl ps) → ∃ more, H' b = some (.tbl (ps ++ more)))
    (ns : ∀ m, s.heap.Ns X.env.locals m → h'.Ns X.env.locals m) (hok : HOk X.prog X.w H' h') (hg : AllBare g') :
    Inv X pins σ H' { s with heap := h', gens := g', drawn := d', toks := t' } := by
  have neL : ∀ b o, X.s₀.heap.get? b = some o → b ≠ X.env.locals := fun b o e => Nat.ne_of_lt (Nat.lt_of_lt_of_le (Heap.lt_size e) I.ok.above)
  have neC : ∀ b o, X.s₀.heap.get? b = some o → b ∉ X.ex → b ∉ ch := fun b o e hx hb => by
    rcases (hch b hb).1 with z | z
    · exact hx z
    · exact absurd (Nat.lt_of_lt_of_le (Heap.lt_size e) z) (Nat.lt_irrefl _)
  have cellK : ∀ x c, X.env.cells.lookup x = some c → ∀ v, s.heap.IsCell c v → h'.IsCell c v := fun x c e v h_ => by
    obtain ⟨o, ho, hd⟩ := h_
    have nch : c ∉ ch := fun z => (hch c z).2.2.1 x c e rfl
    by_cases hc : c ∈ X.fs
    · obtain ⟨sl, q⟩ := slot c o (I.cne x c e) hc nch ho (I.freeC x c e)
      exact ⟨_, q, hd⟩
    · exact ⟨o, keep c o (I.cne x c e) hc nch ho (I.freeC x c e), hd⟩
  refine ⟨I.ok, I.os, hg, ⟨fun b o e n hb hx => ?_, fun b o e n hb hx => ?_, fun b o e n hx => ?_, fun b o e hx => ?_, fun b xs e => tups b xs (I.base.tups b xs e), fun b o xs e => frzs b o xs (I.base.frzs b o xs e), fun b ps e => ?_⟩, ?_, fun x c e => ?_, ?_, fun x c e => ?_, fun p hp => ?_, hok, I.len⟩
  · exact keep b o (neL b o e) hb (neC b o e hx) (I.base.keep b o e n hb hx) (I.base.free b o e n hx)
  · obtain ⟨sl, e1⟩ := I.base.slot b o e n hb hx
    obtain ⟨sl', e2⟩ := slot b _ (neL b o e) hb (neC b o e hx) e1 (I.base.free b o e n hx)
    exact ⟨sl', e2⟩
  · obtain ⟨o', e1⟩ := I.base.there b o e hx
    exact free b o' (neC b o e hx) e1 (I.base.free b o e n hx)
  · obtain ⟨o', e1⟩ := I.base.there b o e hx
    exact there b o' (neC b o e hx) e1
  · obtain ⟨m1, e1⟩ := I.base.tbls b ps e
    obtain ⟨m2, e2⟩ := tbls b _ e1
    exact ⟨m1 ++ m2, by rw [e2, Array.append_assoc]⟩
  · obtain ⟨m, hn, hl⟩ := I.loc
    refine ⟨m, ns m hn, fun i x v e1 e2 e3 => ?_⟩
    obtain ⟨u, r, l⟩ := hl i x v e1 e2 e3
    refine ⟨u, r, ?_⟩
    rcases l with l | ⟨k, c, e, z⟩
    · exact .inl l
    · exact .inr ⟨k, c, e, cellK x c e _ z⟩
  · obtain ⟨v, z⟩ := I.cell x c e
    exact ⟨v, cellK x c e v z⟩
  · obtain ⟨m, ⟨o, _, _, ho, _⟩, _⟩ := I.loc
    exact free _ o (fun z => (hch _ z).2.1 rfl) ho I.free
  · obtain ⟨v, o, ho, hd⟩ := I.cell x c e
    exact free c o (fun z => (hch c z).2.2.1 x c e rfl) ho (I.freeC x c e)
  · obtain ⟨e, n, ne, nf, d⟩ := I.pin p hp
    have nch : p.1 ∉ ch := fun z => (hch p.1 z).2.2.2 p hp rfl
    exact ⟨keep p.1 p.2 ne nf nch e n, free p.1 p.2 nch e n, ne, nf, d⟩
theorem Inv.un {t' : Nat} (I : Inv X pins σ H s) (u : Un X.fs [] H H' s.heap h') (hok : HOk X.prog X.w H' h') : Inv X pins σ H' { s with heap := h', toks := t' } := by
  obtain ⟨m, ⟨o, es, ep, ho, r⟩, _⟩ := id I.loc
  obtain ⟨sl, hL⟩ := u.any ho I.free (by simp)
  exact I.step (g' := s.gens) (d' := s.drawn) (ch := []) (fun _ z => nomatch z) (fun b o _ hb _ e n => u.keep b o e n hb (by simp)) (fun b o _ hb _ e n => u.slot b o e n hb (by simp)) (fun b o _ e n => u.free b o e n (by simp)) (fun b o _ e => u.there b o e (by simp)) u.tups u.frzs u.tbls (fun m' hm => by
    obtain ⟨o', es', ep', ho', r'⟩ := hm
    rw [ho] at ho'; cases ho'
    exact ⟨_, es', ep', hL, r'⟩) hok I.bare
theorem Inv.call {g' : Array GenState} {t' : Nat} {d' : Drawn} {ch : List Addr} (I : Inv X pins σ H s) (u : Un (frs X.stack) ch H H' s.heap h') (hok : HOk X.prog X.w H' h') (hg : AllBare g')
    (hch : ∀ b ∈ ch, (b ∈ X.ex ∨ X.s₀.heap.objs.size ≤ b) ∧ b ≠ X.env.locals ∧ (∀ x c, X.env.cells.lookup x = some c → c ≠ b) ∧ ∀ p ∈ X.pn ++ pins, p.1 ≠ b) :
    Inv X pins σ H' { s with heap := h', gens := g', drawn := d', toks := t' } := by
  obtain ⟨m, ⟨o, es, ep, ho, r⟩, _⟩ := id I.loc
  obtain ⟨sl, hL⟩ := u.any ho I.free fun z => (hch _ z).2.1 rfl
  exact I.step (ch := ch) hch (fun b o hL hb hc e n => u.keep b o e n (fun z => (List.mem_cons.mp (I.stkSub b z)).elim hL hb) hc) (fun b o _ _ hc e n => u.any e n hc) (fun b o hc e n => u.free b o e n hc) (fun b o hc e => u.there b o e hc) u.tups u.frzs u.tbls (fun m' hm => by
    obtain ⟨o', es', ep', ho', r'⟩ := hm
    rw [ho] at ho'; cases ho'
    exact ⟨_, es', ep', hL, r'⟩) hok hg
theorem Inv.turned {t' : Nat} {it : Addr} (I : Inv X pins σ H s) (k : ∀ b o, b ≠ it → s.heap.get? b = some o → h'.get? b = some o) (hn : H it = none) (hL : it ≠ X.env.locals)
    (h1 : it ∈ X.ex ∨ X.s₀.heap.objs.size ≤ it) (h2 : ∀ x c, X.env.cells.lookup x = some c → c ≠ it) (h3 : ∀ p ∈ X.pn ++ pins, p.1 ≠ it) : Inv X pins σ H { s with heap := h', toks := t' } := by
  have nit : ∀ b u, H b = some u → b ≠ it := fun b u e z => by rw [z, hn] at e; cases e
  refine I.step (g' := s.gens) (d' := s.drawn) (ch := [it]) (fun b hb => ?_) (fun b o _ _ hc e _ => k b o (fun z => hc (by simp [z])) e) (fun b o _ _ hc e _ => ⟨o.slots, k b o (fun z => hc (by simp [z])) e⟩) (fun _ _ _ _ n => n)
    (fun b o hc e => ⟨o, k b o (fun z => hc (by simp [z])) e⟩) (fun _ _ e => e) (fun _ _ _ e => e) (fun b ps e => ⟨#[], by rw [e]; simp⟩) (fun m hm => ?_) (fun b u e => ?_) I.bare
  · have e : b = it := by simpa using hb
    subst e
    exact ⟨h1, hL, h2, h3⟩
  · obtain ⟨o, es, ep, ho, r⟩ := hm
    exact ⟨o, es, ep, k _ o (Ne.symm hL) ho, r⟩
  · refine (I.hok b u e).stay (fun c v hc q => k c v ?_ q) (fun _ q => q) fun _ _ q => q
    rcases hc with z | z
    · rw [z]; exact nit b u e
    · exact nit c _ z
theorem Inv.tok (I : Inv X pins σ H s) (t : Nat) : Inv X pins σ H { s with toks := t } := I.un (h' := s.heap) (t' := t) Un.refl I.hok
theorem Inv.kept {t' : Nat} (I : Inv X pins σ H s) (k : ∀ b u, s.heap.get? b = some u → h'.get? b = some u) : Inv X pins σ H { s with heap := h', toks := t' } := I.un (Un.kept k) (I.hok.kept k)
theorem Inv.laid {a : Addr} {o : HO} {t' : Nat} (I : Inv X pins σ H s) (k : ∀ b u, s.heap.get? b = some u → h'.get? b = some u) (hp : s.heap.objs.size ≤ a) (new : ObjOk X.prog X.w (upd H a o) h' a o) :
    Inv X pins σ (upd H a o) { s with heap := h', toks := t' } := I.un (Un.laid k hp (I.hok.fresh hp)) (I.hok.laid k hp new)
theorem Inv.write {x e : Addr} {o : HO} {t' : Nat} (I : Inv X pins σ H s) (mu : Mut (H x)) (he : e = x ∨ H e = some (.own x)) (k : ∀ b u, b ≠ e → s.heap.get? b = some u → h'.get? b = some u) (heo : ∃ u, h'.get? e = some u)
    (new : ObjOk X.prog X.w (upd H x o) h' x o) : Inv X pins σ (upd H x o) { s with heap := h', toks := t' } := I.un (Un.write mu he k heo) (I.hok.write mu he k heo new)
theorem Inv.pins_of {pins' : List (Addr × Obj)} (I : Inv X pins σ H s) (h : ∀ p ∈ pins', s.heap.get? p.1 = some p.2 ∧ H p.1 = none ∧ p.1 ≠ X.env.locals ∧ p.1 ∉ X.fs ∧ ∀ v, p.2.data ≠ .cell v) : Inv X pins' σ H s :=
  ⟨I.ok, I.os, I.bare, I.base, I.loc, I.cell, I.free, I.freeC, fun p hp => (List.mem_append.mp hp).elim (fun z => I.pin p (List.mem_append_left _ z)) (h p), I.hok, I.len⟩
theorem nodup_ix {N : List Str} (hN : N.Nodup) {i j : Nat} {x : Str} (a : N[i]? = some x) (b : N[j]? = some x) : i = j := by
  obtain ⟨h1, e1⟩ := List.getElem?_eq_some_iff.mp a
  obtain ⟨h2, e2⟩ := List.getElem?_eq_some_iff.mp b
  exact (List.getElem_inj hN).mp (e1.trans e2.symm)
theorem store_ok2 {M : Model} {A : Around} {E : Value → Shared → Prop} {i : Nat} {x : Str} {v : V} {u : Value} {Q : Unit → Shared → Prop} (I : Inv X pins σ H s) (hN : X.N.Nodup) (hi : X.N[i]? = some x) (hx : Loc X.env.scope x) (r : RelV v u)
    (h : ∀ s', Inv X pins (σ.set i (some v)) H s' → (∃ a, Heap.SameBut a s.heap s'.heap ∧ (a = X.env.locals ∨ X.env.cells.lookup x = some a)) → Q () s') (hf : X.fn x = true ∨ X.env.scope.names.lookup x = some .local := by first | exact .inl rfl | exact .inr rfl | assumption) : wpAny M A (storeName X.env x u) Q E s := by
  obtain ⟨m, hn, hl⟩ := id I.loc
  have hcls : (X.env.scope.kind == .class || (X.env.scope.kind == .module && X.env.locals != X.env.globals)) = false := by rw [I.ok.kind]; rfl
  have hiσ : i < σ.length := by rw [I.len]; exact (List.getElem?_eq_some_iff.mp hi).1
  have cne := I.cne
  have tracked : ∀ {a : Addr} {h' : Heap}, (∃ o, s.heap.get? a = some o ∧ H a = none) → Heap.SameBut a s.heap h' → HOk X.prog X.w H h' := fun {a h'} ha hs b ob e => by
    obtain ⟨_, _, hfree⟩ := ha
    refine (I.hok b ob e).stay (fun c w' hc q => (hs.2 c ?_).trans q) (fun _ q => q) fun _ _ q => q
    rintro rfl
    rcases hc with rfl | hc
    · rw [hfree] at e; cases e
    · rw [hfree] at hc; cases hc
  rcases hx with hk | hk
  · refine wpAny_storeName_local hk hn (fun h' hn' hs => ?_) hcls
    obtain ⟨oL, _, _, hoL, _⟩ := id hn
    refine h _ ⟨I.ok, I.os, I.bare, ⟨fun b o e n hb hx => ?_, fun b o e n hb hx => ?_, I.base.free, fun b o e hx => ?_, I.base.tups, I.base.frzs, I.base.tbls⟩, ⟨_, hn', fun j y v' e1 e2 e3 => ?_⟩, fun y c e => ?_, I.free, I.freeC, fun p hp => ?_, tracked ⟨oL, hoL, I.free⟩ hs, by simpa using I.len⟩ ⟨_, hs, .inl rfl⟩
    · exact (hs.2 b (Nat.ne_of_lt (Nat.lt_of_lt_of_le (Heap.lt_size e) I.ok.above))).trans (I.base.keep b o e n hb hx)
    · obtain ⟨sl, e1⟩ := I.base.slot b o e n hb hx
      exact ⟨sl, (hs.2 b (Nat.ne_of_lt (Nat.lt_of_lt_of_le (Heap.lt_size e) I.ok.above))).trans e1⟩
    · obtain ⟨o', e1⟩ := I.base.there b o e hx
      exact ⟨o', (hs.2 b (Nat.ne_of_lt (Nat.lt_of_lt_of_le (Heap.lt_size e) I.ok.above))).trans e1⟩
    · by_cases hj : j = i
      · subst hj
        rw [hi] at e1; cases e1
        rw [List.getElem?_set_self hiσ] at e2
        cases e2
        exact ⟨u, r, .inl ⟨hk, by simp⟩⟩
      · rw [List.getElem?_set_ne (Ne.symm hj)] at e2
        obtain ⟨u', r', q⟩ := hl j y v' e1 e2 e3
        refine ⟨u', r', ?_⟩
        rcases q with ⟨k, e⟩ | ⟨k, c, e, z⟩
        · refine .inl ⟨k, ?_⟩
          have : y ≠ x := fun e => hj (nodup_ix hN e1 (e ▸ hi))
          simp [this, e]
        · exact .inr ⟨k, c, e, z.sameBut hs (cne y c e)⟩
    · obtain ⟨w', z⟩ := I.cell y c e
      exact ⟨w', z.sameBut hs (cne y c e)⟩
    · obtain ⟨e, n, ne, nf, d⟩ := I.pin p hp
      exact ⟨(hs.2 p.1 ne).trans e, n, ne, nf, d⟩
  · have hfn : X.fn x = true := by
      rcases hf with z | z
      · exact z
      · rw [z] at hk; cases hk
    obtain ⟨c, hc⟩ := I.ok.has x (.inl hk)
    obtain ⟨w', z⟩ := I.cell x c hc
    refine wpAny_storeName_cell I.ok.kind hk hc z (fun h' hc' hs => ?_)
    obtain ⟨oc, hoc, hocd⟩ := id z
    refine h { s with heap := h' } ⟨I.ok, I.os, I.bare, ⟨fun b o e n hb hx => ?_, fun b o e n hb hx => ?_, I.base.free, fun b o e hx => ?_, I.base.tups, I.base.frzs, I.base.tbls⟩, ⟨m, hn.sameBut hs (Ne.symm (cne x c hc)), fun j y v' e1 e2 e3 => ?_⟩, fun y c' e => ?_, I.free, I.freeC, fun p hp => ?_, tracked ⟨oc, hoc, I.freeC x c hc⟩ hs, by simpa using I.len⟩ ⟨c, hs, .inr hc⟩
    · exact (hs.2 b (Nat.ne_of_lt (Nat.lt_of_lt_of_le (Heap.lt_size e) (I.ok.cab x c hfn hc)))).trans (I.base.keep b o e n hb hx)
    · obtain ⟨sl, e1⟩ := I.base.slot b o e n hb hx
      exact ⟨sl, (hs.2 b (Nat.ne_of_lt (Nat.lt_of_lt_of_le (Heap.lt_size e) (I.ok.cab x c hfn hc)))).trans e1⟩
    · obtain ⟨o', e1⟩ := I.base.there b o e hx
      exact ⟨o', (hs.2 b (Nat.ne_of_lt (Nat.lt_of_lt_of_le (Heap.lt_size e) (I.ok.cab x c hfn hc)))).trans e1⟩
    · by_cases hj : j = i
      · subst hj
        rw [hi] at e1; cases e1
        rw [List.getElem?_set_self hiσ] at e2
        cases e2
        exact ⟨u, r, .inr ⟨.inl hk, c, hc, hc'⟩⟩
      · rw [List.getElem?_set_ne (Ne.symm hj)] at e2
        obtain ⟨u', r', q⟩ := hl j y v' e1 e2 e3
        refine ⟨u', r', ?_⟩
        rcases q with q | ⟨k, c', e, z'⟩
        · exact .inl q
        · refine .inr ⟨k, c', e, z'.sameBut hs ?_⟩
          rintro rfl
          exact hj (nodup_ix hN e1 (I.ok.inj _ _ _ e hc ▸ hi))
    · by_cases hcc : c' = c
      · subst hcc; exact ⟨_, hc'⟩
      · obtain ⟨w2, z2⟩ := I.cell y c' e
        exact ⟨w2, z2.sameBut hs hcc⟩
    · obtain ⟨e, n, ne, nf, d⟩ := I.pin p hp
      refine ⟨(hs.2 p.1 ?_).trans e, n, ne, nf, d⟩
      intro q
      rw [q, hoc] at e
      have q' : oc = p.2 := Option.some.inj e
      exact d w' (by rw [← q']; exact hocd)
theorem store_ok {M : Model} {A : Around} {E : Value → Shared → Prop} {i : Nat} {x : Str} {v : V} {u : Value} {Q : Unit → Shared → Prop} (I : Inv X pins σ H s) (hN : X.N.Nodup) (hi : X.N[i]? = some x) (hx : Loc X.env.scope x) (r : RelV v u)
    (h : ∀ s', Inv X pins (σ.set i (some v)) H s' → Q () s') (hf : X.fn x = true ∨ X.env.scope.names.lookup x = some .local := by first | exact .inl rfl | exact .inr rfl | assumption) : wpAny M A (storeName X.env x u) Q E s :=
  store_ok2 I hN hi hx r (fun s' I' _ => h s' I') hf
theorem Inv.call' {s' : Shared} {ch : List Addr} (I : Inv X pins σ H s) (ho : s'.os = s.os) (u : Un (frs X.stack) ch H H' s.heap s'.heap) (hok : HOk X.prog X.w H' s'.heap) (hg : AllBare s'.gens)
    (hch : ∀ b ∈ ch, (b ∈ X.ex ∨ X.s₀.heap.objs.size ≤ b) ∧ b ≠ X.env.locals ∧ (∀ x c, X.env.cells.lookup x = some c → c ≠ b) ∧ ∀ p ∈ X.pn ++ pins, p.1 ≠ b) : Inv X pins σ H' s' := by
  obtain ⟨h', g', d', t', o'⟩ := s'
  have e : o' = s.os := ho
  subst e
  exact I.call (g' := g') (t' := t') (d' := d') u hok hg hch
end
noncomputable abbrev XK := Value → Option Addr → Hp → Prop
noncomputable abbrev St := List (Option V)
noncomputable abbrev VK := V → Hp → Prop
noncomputable abbrev TE := St → Hp → VK → Prop
noncomputable abbrev TT := St → Hp → (Bool → Hp → Prop) → Prop
noncomputable abbrev TA := St → Hp → (List V → Hp → Prop) → Prop
structure Ends where
  nx : St → Hp → Prop
  rt : VK
  bk : St → Hp → Prop := fun _ _ => False
  ct : St → Hp → Prop := fun _ _ => False
noncomputable abbrev TS := Ends → St → Hp → Prop
noncomputable def EP (X : Cx) (pins : List (Addr × Obj)) (σ : St) (Q : VK) (u : Value) (s' : Shared) : Prop := ∃ v H', Inv X pins σ H' s' ∧ RelV v u ∧ Q v H'
noncomputable def TP (X : Cx) (pins : List (Addr × Obj)) (σ : St) (Q : Bool → Hp → Prop) (b : Bool) (s' : Shared) : Prop := ∃ H', Inv X pins σ H' s' ∧ Q b H'
noncomputable def AP (X : Cx) (pins : List (Addr × Obj)) (σ : St) (Q : List V → Hp → Prop) (us : List Value) (s' : Shared) : Prop := ∃ vs H', Inv X pins σ H' s' ∧ Vals vs us ∧ Q vs H'
noncomputable def SP (X : Cx) (pins : List (Addr × Obj)) (D : Ends) (f : Flow) (s' : Shared) : Prop :=
  match f with
  | .next => ∃ σ' H', Inv X pins σ' H' s' ∧ D.nx σ' H'
  | .brk => ∃ σ' H', Inv X pins σ' H' s' ∧ D.bk σ' H'
  | .cont => ∃ σ' H', Inv X pins σ' H' s' ∧ D.ct σ' H'
  | .ret u => ∃ v σ' H', Inv X pins σ' H' s' ∧ RelV v u ∧ D.rt v H'
noncomputable def PE (X : Cx) (e : Expr) (t : TE) : Prop :=
  ∀ (pins : List (Addr × Obj)) (s : Shared) (σ : St) (H : Hp) (Q : VK), Inv X pins σ H s → t σ H Q → wpAny (model X.prog X.w) X.A (eval e X.env) (EP X pins σ Q) X.xe s
noncomputable def PT (X : Cx) (e : Expr) (t : TT) : Prop :=
  ∀ (pins : List (Addr × Obj)) (s : Shared) (σ : St) (H : Hp) (Q : Bool → Hp → Prop), Inv X pins σ H s → t σ H Q → wpAny (model X.prog X.w) X.A (isTrue e X.env (eval e X.env)) (TP X pins σ Q) X.xe s
noncomputable def PW (X : Cx) (e : Expr) (t : TT) : Prop :=
  ∀ (whole : Sem Value) (pins : List (Addr × Obj)) (s : Shared) (σ : St) (H : Hp) (Q : Bool → Hp → Prop), Inv X pins σ H s → t σ H Q → wpAny (model X.prog X.w) X.A (isTrue e X.env whole) (TP X pins σ Q) X.xe s
theorem PW.pt {X : Cx} {e : Expr} {t : TT} (h : PW X e t) : PT X e t := h _
noncomputable def PA (X : Cx) (es : List Expr) (t : TA) : Prop :=
  ∀ (pos : Pos) (pins : List (Addr × Obj)) (s : Shared) (σ : St) (H : Hp) (Q : List V → Hp → Prop), Inv X pins σ H s → t σ H Q → wpAny (model X.prog X.w) X.A (spliced (backTo pos (starEach es X.env))) (AP X pins σ Q) X.xe s
noncomputable def PS (X : Cx) (st : Stmt) (t : TS) : Prop :=
  ∀ (pins : List (Addr × Obj)) (s : Shared) (σ : St) (H : Hp) (D : Ends), Inv X pins σ H s → t D σ H → wpAny (model X.prog X.w) X.A (exec st X.env) (SP X pins D) X.xe s
noncomputable def PSs (X : Cx) (st : List Stmt) (t : TS) : Prop :=
  ∀ (pins : List (Addr × Obj)) (s : Shared) (σ : St) (H : Hp) (D : Ends), Inv X pins σ H s → t D σ H → wpAny (model X.prog X.w) X.A (execs st X.env) (SP X pins D) X.xe s
theorem thn {α : Type} {t : Sem α} {Q Q' : α → Shared → Prop} {M : Model} {A : Around} {E : Value → Shared → Prop} {s : Shared} (h : wpAny M A t Q E s) (hQ : ∀ a s, Q a s → Q' a s) : wpAny M A t Q' E s := wpAny_mono h hQ fun _ _ x => x
end L2
namespace L2
open PySem PySem.Spec PyProof.Rows
section
variable {X : Cx}
noncomputable def tVar (i : Nat) : TE := fun σ H Q => ∃ v, σ[i]? = some (some v) ∧ Q v H
noncomputable def tC (v : V) : TE := fun _ H Q => Q v H
theorem pe_var {i : Nat} {x : Str} {pos : Pos} (hN : X.N[i]? = some x) (hv : Vis X.env.scope x) (hd : (x == ("__debug__" : Str)) = false := by decide) (hcd : (x == ("__classdict__" : Str)) = false := by decide) : PE X (.Name x pos) (tVar i) := by
  intro pins s σ H Q I h
  obtain ⟨v, e, h⟩ := h
  obtain ⟨m, hn, hl⟩ := I.loc
  obtain ⟨u, r, l⟩ := hl i x v hN e hv
  have fin : EP X pins σ Q u s := ⟨v, H, I, r, h⟩
  rcases l with ⟨hk, hm⟩ | ⟨hk, c, hc, hcell⟩
  · exact wpAny_Name (wpAny_loadName_local I.ok.kind hk hn hm fin) hd
  · rcases hk with hk | hk
    · exact wpAny_Name (wpAny_loadName_cell I.ok.kind hk hc hcell fin) hd
    · exact wpAny_Name (wpAny_loadName_free I.ok.kind hk hc hcell fin hcd) hd
theorem pe_int {i j pos} : PE X (.Constant (.int i) j pos) (tC (.int i)) := fun _ _ _ H _ I h => wpAny_Constant_int ⟨.int i, H, I.tok _, ⟨_, rfl⟩, h⟩
theorem pe_bl {b j pos} : PE X (.Constant (.bool b) j pos) (tC (.bl b)) := fun _ _ _ H _ I h => Constant_bool ⟨.bl b, H, I, rfl, h⟩
theorem pe_str {x j pos} : PE X (.Constant (.str x) j pos) (tC (.str x)) := fun _ _ _ H _ I h => Calls.Constant_str ⟨.str x, H, I.tok _, ⟨_, rfl⟩, h⟩
noncomputable def Gl (X : Cx) (x : Str) : Prop := X.env.kindOf x = some .globalImplicit
theorem ld_glob {E : Value → Shared → Prop} {pins : List (Addr × Obj)} {s : Shared} {σ : St} {H : Hp} {x : Str} {u : Value} {pos : Pos} {Q : Value → Shared → Prop} (I : Inv X pins σ H s) (hg : Gl X x) (hm : X.mg x = some u) (h : Q u s)
    (hd : (x == ("__debug__" : Str)) = false := by decide) : wpAny (model X.prog X.w) X.A (eval (.Name x pos) X.env) Q E s :=
  Calls.Name_function_global I.ok.kind hg (Calls.loadGlobal_global (by rw [I.ok.glob]; exact I.mod.glob.keeps I.bk) hm h) hd
theorem ld_blt {E : Value → Shared → Prop} {pins : List (Addr × Obj)} {s : Shared} {σ : St} {H : Hp} {x : Str} {u : Value} {pos : Pos} {Q : Value → Shared → Prop} (I : Inv X pins σ H s) (hg : Gl X x) (hm : X.mg x = none) (hv : bootBuiltins x = some u) (h : Q u s)
    (hn : x ≠ "__name__" := by decide) (hd : (x == ("__debug__" : Str)) = false := by decide) : wpAny (model X.prog X.w) X.A (eval (.Name x pos) X.env) Q E s := by
  obtain ⟨mb, h1, h2⟩ := I.mod.blt
  exact Calls.Name_function_global I.ok.kind hg (Calls.loadGlobal_builtin (by rw [I.ok.glob]; exact I.mod.glob.keeps I.bk) hm (by rw [I.ok.blt]; exact h1.keeps I.bk) ((h2 x hn).trans hv) h) hd
theorem pe_glob {x : Str} {v : V} {u : Value} {pos : Pos} (hg : Gl X x) (hm : X.mg x = some u) (r : RelV v u) (hd : (x == ("__debug__" : Str)) = false := by decide) : PE X (.Name x pos) (tC v) :=
  fun _ _ _ H _ I h => ld_glob I hg hm ⟨v, H, I, r, h⟩ hd
variable {a b : Expr} {ta tb : TE} {pos : Pos}
variable {tA tB' : TT} {rest : List Expr}
noncomputable def tAnd (t u : TT) : TT := fun σ H Q => t σ H fun c H1 => if c = true then u σ H1 Q else Q false H1
noncomputable def tOr (t u : TT) : TT := fun σ H Q => t σ H fun c H1 => if c = true then Q true H1 else u σ H1 Q
noncomputable def tNot (t : TT) : TT := fun σ H Q => t σ H fun c H1 => Q (!c) H1
theorem pw_and1 (ha : PT X a tA) : PW X (.BoolOp .And [a] pos) tA := by
  intro wh pins s σ H Q I h
  refine isTrue_and (thn (ha pins s σ H Q I h) fun c s1 e => ?_)
  cases c with
  | true => exact isTrue_and_nil e
  | false => exact e
theorem pw_or1 (ha : PT X a tA) : PW X (.BoolOp .Or [a] pos) tA := by
  intro wh pins s σ H Q I h
  refine isTrue_or (thn (ha pins s σ H Q I h) fun c s1 e => ?_)
  cases c with
  | false => exact isTrue_or_nil e
  | true => exact e
theorem pw_and (ha : PT X a tA) (hb : PW X (.BoolOp .And (b :: rest) pos) tB') : PW X (.BoolOp .And (a :: b :: rest) pos) (tAnd tA tB') := by
  intro wh pins s σ H Q I h
  refine isTrue_and (thn (ha pins s σ H _ I h) fun c s1 h_ => ?_)
  obtain ⟨H1, I1, q1⟩ := h_
  cases c with
  | true => exact hb wh pins s1 σ H1 Q I1 q1
  | false => exact ⟨H1, I1, q1⟩
theorem pw_or (ha : PT X a tA) (hb : PW X (.BoolOp .Or (b :: rest) pos) tB') : PW X (.BoolOp .Or (a :: b :: rest) pos) (tOr tA tB') := by
  intro wh pins s σ H Q I h
  refine isTrue_or (thn (ha pins s σ H _ I h) fun c s1 h_ => ?_)
  obtain ⟨H1, I1, q1⟩ := h_
  cases c with
  | true => exact ⟨H1, I1, q1⟩
  | false => exact hb wh pins s1 σ H1 Q I1 q1
theorem pt_not (ha : PT X a tA) : PT X (.UnaryOp .Not a pos) (tNot tA) := by
  intro pins s σ H Q I h
  exact isTrue_not (ha pins s σ H (fun c H1 => Q (!c) H1) I h)
noncomputable def tAndV (ta tb : TE) : TE := fun σ H Q => ta σ H fun x H1 => ∃ c, x = .bl c ∧ if c = true then tb σ H1 Q else Q (.bl false) H1
theorem pe_one {op} {t : TE} (h : PE X a t) : PE X (.BoolOp op [a] pos) t := fun pins s σ H Q I hw => BoolOp_one (h pins s σ H Q I hw)
theorem pe_and (ha : PE X a ta) (hb : PE X (.BoolOp .And (b :: rest) pos) tb) : PE X (.BoolOp .And (a :: b :: rest) pos) (tAndV ta tb) := by
  intro pins s σ H Q I h
  refine BoolOp_and (thn (ha pins s σ H _ I h) fun v s1 h_ => ?_)
  obtain ⟨x, H1, I1, r1, q1⟩ := h_
  obtain ⟨c, rfl, q1⟩ := q1
  cases r1
  refine wpAny_truthy_bool ?_
  cases c with
  | true => exact hb pins s1 σ H1 Q I1 q1
  | false => exact ⟨.bl false, H1, I1, rfl, q1⟩
end
end L2
namespace L2
open PySem PySem.Spec PyProof.Rows
noncomputable def SqL (K : PySem.W.Frag) (H : Hp) (a : Addr) (xs : List V) : Prop :=
  Rd H a (.lst xs) ∨
    ∃ (o : Obj) (its : Array Value) (n : Nat), K.lookup a = some o ∧ o.cls = .type "list" ∧ o.dict = none ∧ o.data = .seq its n ∧ its.size ≤ sizeLine ∧ Vals xs its.toList
noncomputable def SqT (K : PySem.W.Frag) (H : Hp) (a : Addr) (xs : List V) : Prop :=
  Rd H a (.tup xs) ∨
    ∃ (o : Obj) (its : Array Value) (n : Nat), K.lookup a = some o ∧ o.cls = .type "tuple" ∧ o.data = .seq its n ∧ its.size ≤ sizeLine ∧ Vals xs its.toList
noncomputable def absV : Value → Option V
  | .none => some .non
  | .bool b => some (.bl b)
  | .int i _ => some (.int i)
  | .str x _ => some (.str x)
  | .bytes b _ => some (.byt b)
  | .float b _ => some (.flt b)
  | .ref a => some (.ref a)
  | .type n => some (.ty n)
  | _ => none
theorem RelV.abs {x : V} {u : Value} (r : RelV x u) : absV u = some x := by
  cases x with
  | non => cases r; rfl
  | bl _ => cases r; rfl
  | int _ => obtain ⟨t, rfl⟩ := r; rfl
  | str _ => obtain ⟨t, rfl⟩ := r; rfl
  | byt _ => obtain ⟨t, rfl⟩ := r; rfl
  | flt _ => obtain ⟨t, rfl⟩ := r; rfl
  | ref _ => cases r; rfl
  | ty _ => cases r; rfl
theorem RelV.inj {x y : V} {u : Value} (r : RelV x u) (q : RelV y u) : x = y := Option.some.inj (r.abs.symm.trans q.abs)
theorem Vals.inj : ∀ {xs ys : List V} {us : List Value}, Vals xs us → Vals ys us → xs = ys
  | _, _, _, .nil, .nil => rfl
  | _, _, _, .cons r t, .cons r' t' => by rw [r.inj r', Vals.inj t t']
section
variable {X : Cx} {pins : List (Addr × Obj)} {σ : St} {H : Hp} {s : Shared} {a : Addr} {xs ys : List V}
theorem SqL.of {K : PySem.W.Frag} (h : H a = some (.lst xs)) : SqL K H a xs := .inl (.inl h)
theorem Inv.list (I : Inv X pins σ H s) (h : SqL X.K H a xs) : ∃ its : List Value, Vals xs its ∧ PlainL s.heap a its.toArray ∧ xs.length ≤ sizeLine := by
  rcases h with h | ⟨o, its, n, hk, hc, hd, hs, hz, r⟩
  · obtain ⟨z, its, n, r, e⟩ := h.ok I.hok
    exact ⟨its, r, ⟨_, n, e, rfl, rfl, rfl⟩, z⟩
  · refine ⟨its.toList, r, ⟨o, n, I.kIn a o hk, hc, hd, by simpa using hs⟩, ?_⟩
    have e := r.length
    simp only [Array.length_toList] at e
    omega
theorem Inv.tuple (I : Inv X pins σ H s) (h : SqT X.K H a xs) : ∃ its : List Value, Vals xs its ∧ IsTup s.heap a its.toArray ∧ xs.length ≤ sizeLine := by
  rcases h with h | ⟨o, its, n, hk, hc, hs, hz, r⟩
  · obtain ⟨z, its, r, p⟩ := h.ok I.hok
    exact ⟨its, r, p, z⟩
  · refine ⟨its.toList, r, ⟨o, I.kIn a o hk, hc, n, by simpa using hs⟩, ?_⟩
    have e := r.length
    simp only [Array.length_toList] at e
    omega
theorem Inv.list_inj (I : Inv X pins σ H s) (h : SqL X.K H a xs) (h' : SqL X.K H a ys) : xs = ys := by
  obtain ⟨its, r, ⟨o, n, e, _, _, d⟩, _⟩ := I.list h
  obtain ⟨its', r', ⟨o', n', e', _, _, d'⟩, _⟩ := I.list h'
  rw [e] at e'; cases e'
  rw [d] at d'
  injection d' with d1 _
  have : its = its' := by simpa using congrArg Array.toList d1
  subst this
  exact r.inj r'
theorem Inv.tuple_inj (I : Inv X pins σ H s) (h : SqT X.K H a xs) (h' : SqT X.K H a ys) : xs = ys := by
  obtain ⟨its, r, ⟨o, e, _, n, d⟩, _⟩ := I.tuple h
  obtain ⟨its', r', ⟨o', e', _, n', d'⟩, _⟩ := I.tuple h'
  rw [e] at e'; cases e'
  rw [d] at d'
  injection d' with d1 _
  have : its = its' := by simpa using congrArg Array.toList d1
  subst this
  exact r.inj r'
end
noncomputable abbrev Cx.wish (X : Cx) (E : Value → Shared → Prop) : Cx := { X with xe := E }
noncomputable abbrev Cx.nox (X : Cx) : Cx := X.wish fun _ _ => False
theorem Cx.Ok.wish {X : Cx} (ok : X.Ok) (E : Value → Shared → Prop) : (X.wish E).Ok :=
  ⟨ok.mod, ok.kind, ok.glob, ok.blt, ok.above, ok.inj, ok.has, ok.cab, ok.hd, ok.frames, ok.stk, ok.exf, ok.bs, ok.bsz, ok.noex, ok.exfs, ok.funs, ok.frf⟩
theorem Cx.Ok.unwish {X : Cx} {E : Value → Shared → Prop} (ok : (X.wish E).Ok) : X.Ok :=
  ⟨ok.mod, ok.kind, ok.glob, ok.blt, ok.above, ok.inj, ok.has, ok.cab, ok.hd, ok.frames, ok.stk, ok.exf, ok.bs, ok.bsz, ok.noex, ok.exfs, ok.funs, ok.frf⟩
section
variable {X : Cx} {pins : List (Addr × Obj)} {σ : St} {H : Hp} {s : Shared} {E : Value → Shared → Prop}
theorem Inv.wish (I : Inv X pins σ H s) (E : Value → Shared → Prop) : Inv (X.wish E) pins σ H s := ⟨I.ok.wish E, I.os, I.bare, I.base, I.loc, I.cell, I.free, I.freeC, I.pin, I.hok, I.len⟩
theorem Inv.unwish (I : Inv (X.wish E) pins σ H s) : Inv X pins σ H s := ⟨I.ok.unwish, I.os, I.bare, I.base, I.loc, I.cell, I.free, I.freeC, I.pin, I.hok, I.len⟩
theorem SP.unwish {D : Ends} {f : Flow} {s' : Shared} (h : SP (X.wish E) pins D f s') : SP X pins D f s' := by
  cases f with
  | next => obtain ⟨σ', H', I, q⟩ := h; exact ⟨σ', H', I.unwish, q⟩
  | brk => obtain ⟨σ', H', I, q⟩ := h; exact ⟨σ', H', I.unwish, q⟩
  | cont => obtain ⟨σ', H', I, q⟩ := h; exact ⟨σ', H', I.unwish, q⟩
  | ret u => obtain ⟨v, σ', H', I, r, q⟩ := h; exact ⟨v, σ', H', I.unwish, r, q⟩
theorem PSs.nox {st : List Stmt} {t : TS} (h : PSs X.nox st t) : PSs X st t := fun pins s σ H D I hw =>
  wpAny_mono (h pins s σ H D (I.wish _) hw) (fun _ _ q => q.unwish) fun _ _ z => False.elim z
end
section
variable {X : Cx} {st : Stmt} {rest : List Stmt} {t u : TS} {e : Expr} {te : TE} {pos : Pos}
noncomputable def tNext : TS := fun D σ H => D.nx σ H
noncomputable def tSeq (t u : TS) : TS := fun D σ H => t { D with nx := u D } σ H
theorem pss_nil : PSs X [] tNext := fun _ _ σ H _ I h => wpAny_execs_nil ⟨σ, H, I, h⟩
theorem pss_cons (h1 : PS X st t) (h2 : PSs X rest u) : PSs X (st :: rest) (tSeq t u) := by
  intro pins s σ H D I h
  refine wpAny_execs_cons (thn (h1 pins s σ H { D with nx := u D } I h) fun f s1 q => ?_)
  cases f with
  | next =>
    obtain ⟨σ', H', I', q⟩ := q
    exact h2 pins s1 σ' H' D I' q
  | ret v => exact q
  | brk => exact q
  | cont => exact q
theorem pss_one (h1 : PS X st t) : PSs X [st] t := by
  intro pins s σ H D I h
  refine wpAny_execs_cons (thn (h1 pins s σ H D I h) fun f s1 q => ?_)
  cases f with
  | next => exact wpAny_execs_nil q
  | ret v => exact q
  | brk => exact q
  | cont => exact q
theorem Inv.quiet {pins : List (Addr × Obj)} {σ : St} {H : Hp} {s : Shared} (I : Inv X pins σ H s) : interactive X.env = false := by simp [interactive, I.ok.kind]
noncomputable def tDrop (te : TE) : TS := fun D σ H => te σ H fun _ H1 => D.nx σ H1
theorem ps_expr (he : PE X e te) (hs : swapsWith e none pos.line X.env = pure false := by rfl) : PS X (.Expr e pos) (tDrop te) := by
  intro pins s σ H D I h
  exact wpAny_Expr_any (thn (he pins s σ H _ I h) fun v s1 ⟨x, H1, I1, r1, q1⟩ => ⟨σ, H1, I1, q1⟩) I.quiet hs
noncomputable def tRet (te : TE) : TS := fun D σ H => te σ H D.rt
theorem ps_ret (he : PE X e te) : PS X (.Return (some e) pos) (tRet te) := by
  intro pins s σ H D I h
  exact wpAny_Return_some (thn (he pins s σ H _ I h) fun v s1 ⟨x, H1, I1, r1, q1⟩ => ⟨x, σ, H1, I1, r1, q1⟩)
noncomputable def tIfS (c : TT) (t u : TS) : TS := fun D σ H => c σ H fun b H1 => if b = true then t D σ H1 else u D σ H1
theorem ps_if {c : Expr} {a b : List Stmt} {tc : TT} (hc : PT X c tc) (ha : PSs X a t) (hb : PSs X b u) : PS X (.If c a b pos) (tIfS tc t u) := by
  intro pins s σ H D I h
  refine wpAny_If (thn (hc pins s σ H _ I h) fun d s1 h_ => ?_)
  obtain ⟨H1, I1, q1⟩ := h_
  cases d with
  | true => exact ha pins s1 σ H1 D I1 q1
  | false => exact hb pins s1 σ H1 D I1 q1
end
noncomputable abbrev TG := V → St → Hp → (St → Hp → Prop) → Prop
noncomputable def PG (X : Cx) (target : Expr) (t : TG) : Prop :=
  ∀ (pins : List (Addr × Obj)) (s : Shared) (σ : St) (H : Hp) (v : V) (u : Value) (Q : St → Hp → Prop), Inv X pins σ H s → RelV v u → t v σ H Q →
    wpAny (model X.prog X.w) X.A (assign target X.env u) (fun _ s' => ∃ σ' H', Inv X pins σ' H' s' ∧ Q σ' H') X.xe s
noncomputable abbrev TSet := V → V → V → Hp → (Hp → Prop) → Prop
noncomputable def PSet (X : Cx) (t : TSet) : Prop :=
  ∀ (pins : List (Addr × Obj)) (s : Shared) (σ : St) (H : Hp) (o i v : V) (ov iv u : Value) (Q : Hp → Prop), Inv X pins σ H s → RelV o ov → RelV i iv → RelV v u → t o i v H Q →
    wpAny (model X.prog X.w) X.A (setItem ov iv u) (fun _ s' => ∃ H', Inv X pins σ H' s' ∧ Q H') X.xe s
section
variable {X : Cx} {pos : Pos}
noncomputable def gName (i : Nat) : TG := fun v σ H Q => Q (σ.set i (some v)) H
theorem pg_name {i : Nat} {x : Str} (hN : X.N.Nodup) (hi : X.N[i]? = some x) (hx : Loc X.env.scope x) (hf : X.fn x = true ∨ X.env.scope.names.lookup x = some .local := by first | exact .inl rfl | exact .inr rfl | assumption) : PG X (.Name x pos) (gName i) := by
  intro pins s σ H v u Q I r h
  exact wpAny_assign_Name (store_ok I hN hi hx r (fun s' I' => ⟨_, H, I', h⟩) hf)
noncomputable def gSub (to ti : TE) (t : TSet) : TG := fun v σ H Q => to σ H fun o H1 => ti σ H1 fun i H2 => t o i v H2 fun H3 => Q σ H3
theorem pg_sub {o i : Expr} {to ti : TE} {t : TSet} (ho : PE X o to) (hi : PE X i ti) (hs : PSet X t)
    (ha : ∀ v, assign (.Subscript o i pos) X.env v = (do
      let ov ← holding [v] (eval o X.env)
      let iv ← holding [v, ov] (eval i X.env)
      standAt pos
      holding [v, ov, iv] (setItem ov iv v)
      release [v, ov, iv] []) := by intro _; rfl) : PG X (.Subscript o i pos) (gSub to ti t) := by
  intro pins s σ H v u Q I r h
  rw [ha]
  refine wpAny_bind (wpAny_holding (thn (ho pins s σ H _ I h) fun ov s1 h_ => ?_))
  obtain ⟨x, H1, I1, r1, q1⟩ := h_
  refine wpAny_bind (wpAny_holding (thn (hi pins s1 σ H1 _ I1 q1) fun iv s2 h_ => ?_))
  obtain ⟨y, H2, I2, r2, q2⟩ := h_
  refine wpAny_bind (wpAny_standAt (wpAny_bind (wpAny_holding (thn (hs pins s2 σ H2 x y v ov iv u _ I2 r1 r2 r q2) fun _ s3 h_ => ?_))))
  obtain ⟨H3, I3, q3⟩ := h_
  exact wpAny_release ⟨σ, H3, I3, q3⟩
noncomputable def tAsg (te : TE) (g : TG) : TS := fun D σ H => te σ H fun x H1 => g x σ H1 D.nx
theorem ps_asg {tg e : Expr} {te : TE} {g : TG} (he : PE X e te) (hg : PG X tg g) (hs : swapsWithSole [tg] e pos.line X.env = pure false := by rfl) (hw : swappedStores [tg] e X.env = pure none := by rfl)
    (h1 : (assignEach [tg] X.env).map (·.2) = [assign tg X.env] := by rfl) : PS X (.Assign [tg] e pos) (tAsg te g) := by
  intro pins s σ H D I h
  refine wpAny_Assign_stores (thn (he pins s σ H _ I h) fun v s1 ⟨x, H1, I1, r1, q1⟩ => ?_) hs hw
  rw [h1]
  exact thn (hg pins s1 σ H1 x v _ I1 r1 q1) fun _ s2 q => q
theorem ps_set {i : Nat} {x : Str} {e : Expr} {te : TE} {pos' : Pos} (hN : X.N.Nodup) (hi : X.N[i]? = some x) (hx : Loc X.env.scope x) (he : PE X e te) (hs : swapsWith e (some (.Name x pos')) pos.line X.env = pure false := by rfl) (hf : X.fn x = true ∨ X.env.scope.names.lookup x = some .local := by first | exact .inl rfl | exact .inr rfl | assumption) :
    PS X (.Assign [.Name x pos'] e pos) (tAsg te (gName i)) := by
  intro pins s σ H D I h
  refine wpAny_Assign_Name (thn (he pins s σ H _ I h) fun v s1 ⟨y, H1, I1, r1, q1⟩ => ?_) hs
  exact store_ok I1 hN hi hx r1 (fun s2 I2 => ⟨_, H1, I2, q1⟩) hf
noncomputable def tPar (i j : Nat) (ta : TA) : TS := fun D σ H => ta σ H fun vs H1 => ∃ v w, vs = [v, w] ∧ D.nx ((σ.set i (some v)).set j (some w)) H1
theorem ps_par {i j : Nat} {x y : Str} {a b : Expr} {ta : TA} {px py pt : Pos} {kt k2 pt2} (hc : X.calm = true) (hN : X.N.Nodup) (hi : X.N[i]? = some x) (hj : X.N[j]? = some y) (hij : i ≠ j)
    (hx : X.env.scope.names.lookup x = some .local) (hy : X.env.scope.names.lookup y = some .local) (ha : PA X [a, b] ta)
    (hw : swappedStores [.Tuple [.Name x px, .Name y py] kt pt] (.Tuple [a, b] k2 pt2) X.env = pure (some [x, y]))
    (hs : swapsWithSole [.Tuple [.Name x px, .Name y py] kt pt] (.Tuple [a, b] k2 pt2) pos.line X.env = pure false := by rfl) :
    PS X (.Assign [.Tuple [.Name x px, .Name y py] kt pt] (.Tuple [a, b] k2 pt2) pos) (tPar i j ta) := by
  intro pins s σ H D I h
  rw [exec_Assign_arm]
  refine wpAny_bind (wpAny_standAt ?_)
  rw [hs]
  refine wpAny_bind (wpAny_pure ?_)
  rw [if_neg (by decide)]
  refine wpAny_bind (Tuple_ (thn (ha _ pins s σ H _ I h) fun us s1 h_ => ?_))
  obtain ⟨vs, H1, I1, r1, q1⟩ := h_
  obtain ⟨v, w, e1, q1⟩ := q1
  subst e1
  obtain ⟨u1, u2, rfl, rv, rw'⟩ : ∃ u1 u2, us = [u1, u2] ∧ RelV v u1 ∧ RelV w u2 := by
    cases r1 with
    | cons p q =>
      cases q with
      | cons p' q' =>
        cases q'
        exact ⟨_, _, rfl, p, p'⟩
  refine wpAny_newObj_type ?_ (by show 2 ≤ sizeLine; decide)
  have I2 : Inv X pins σ H1 { s1 with heap := s1.heap.push { cls := .type "tuple", data := .seq [u1, u2].toArray } } := I1.kept (t' := s1.toks) fun b o e => Heap.get?_push_of_some _ e
  rw [hw]
  refine wpAny_bind (wpAny_pure ?_)
  show wpAny (model X.prog X.w) X.A (do rule "assign.swapped-stores"; let items ← unpackItems (.ref s1.heap.objs.size) 2 none; assignInOrder [fun v => bindName X.env y v, fun v => bindName X.env x v] items.reverse; pure Flow.next) _ _ _
  refine wpAny_bind (wpAny_rule (wpAny_bind (unpackItems_tuple (items := #[u1, u2]) (I.ok.hd hc) (IsTup.new s1.heap _) fun h' hx' => ?_)))
  have I3 := I2.kept (h' := h') (t' := s1.toks) fun b o e => hx' b o (Nat.ne_of_lt (Heap.lt_size e)) e
  show wpAny _ _ (assignInOrder [fun v => bindName X.env y v, fun v => bindName X.env x v] [u2, u1] >>= fun _ => pure Flow.next) _ _ _
  refine wpAny_bind (assignInOrder_cons (wpAny_bindName (store_ok I3 hN hj (.inl hy) rw' (fun s2 I4 => ?_) (.inr hy))))
  refine assignInOrder_cons (wpAny_bindName (store_ok I4 hN hi (.inl hx) rv (fun s3 I5 => assignInOrder_nil (wpAny_pure ?_)) (.inr hx)))
  rw [List.set_comm _ _ (Ne.symm hij)] at I5
  exact ⟨_, H1, I5, q1⟩
end
section
variable {X : Cx} {pos : Pos}
noncomputable def tWhile (c : TT) (tb : TS) : TS := fun D σ H => ∃ W : Nat → St → Hp → Prop, (∃ m, W m σ H) ∧ ∀ m σ H, W m σ H →
  c σ H fun b H1 => if b = true then ∃ N : St → Hp → Prop, (∀ σ' H', N σ' H' → ∃ m', m' < m ∧ W m' σ' H') ∧ tb { D with nx := N, ct := N, bk := D.nx } σ H1 else D.nx σ H1
theorem ps_while {c : Expr} {body : List Stmt} {tc : TT} {tb : TS} (hp : PassesOwn (model X.prog X.w) X.A X.env X.xe) (hc : PT X c tc) (hb : PSs X body tb) : PS X (.While c body [] pos) (tWhile tc tb) := by
  intro pins s σ H D I h
  obtain ⟨W, ⟨m0, w0⟩, turn⟩ := h
  refine wpAny_While (codeAny_whileLoop (fun n s' => ∃ σ' H', Inv X pins σ' H' s' ∧ W n σ' H') ?_ m0 ⟨σ, H, I, w0⟩)
  rintro n s1 ⟨σ1, H1, I1, w1⟩
  refine wpAny_passesOwn hp (thn (hc pins s1 σ1 H1 _ I1 (turn n σ1 H1 w1)) fun b s2 h_ => ?_)
  obtain ⟨H2, I2, q2⟩ := h_
  cases b with
  | true =>
    obtain ⟨N, hN, q2⟩ := q2
    rw [if_pos rfl]
    refine wpAny_passesOwn hp (thn (hb pins s2 σ1 H2 _ I2 q2) fun f s3 q3 => ?_)
    cases f with
    | next =>
      obtain ⟨σ3, H3, I3, n3⟩ := q3
      obtain ⟨m', hm, w3⟩ := hN σ3 H3 n3
      exact ⟨m', hm, σ3, H3, I3, w3⟩
    | cont =>
      obtain ⟨σ3, H3, I3, n3⟩ := q3
      obtain ⟨m', hm, w3⟩ := hN σ3 H3 n3
      exact ⟨m', hm, σ3, H3, I3, w3⟩
    | brk => exact q3
    | ret v => exact q3
  | false =>
    rw [if_neg Bool.false_ne_true]
    exact wpAny_execs_nil ⟨σ1, H2, I2, q2⟩
end
structure It where
  go : Nat → Hp → Prop
  yld : Nat → Hp → V → Hp → Prop
  stop : Nat → Hp → Prop
noncomputable def FpOk (X : Cx) (pins : List (Addr × Obj)) (H : Hp) (b : Addr) : Prop :=
  H b = none ∧ b ≠ X.env.locals ∧ b ∉ X.fs ∧ (b ∈ X.ex ∨ X.s₀.heap.objs.size ≤ b) ∧ (∀ x c, X.env.cells.lookup x = some c → c ≠ b) ∧ ∀ p ∈ X.pn ++ pins, p.1 ≠ b
theorem Inv.fpOk {X : Cx} {pins : List (Addr × Obj)} {σ : St} {H H' : Hp} {s : Shared} {b : Addr} (I : Inv X pins σ H s) (hb : s.heap.objs.size ≤ b) (hn : H' b = none) : FpOk X pins H' b := by
  refine ⟨hn, Nat.ne_of_gt (Nat.lt_of_lt_of_le I.lt hb), I.nofs hb, .inr (Nat.le_trans I.sz hb), fun x c e z => ?_, fun p hp z => ?_⟩
  · obtain ⟨v, q⟩ := I.cell x c e
    exact absurd (Nat.lt_of_lt_of_le q.lt (by rw [z]; exact hb)) (Nat.lt_irrefl _)
  · exact absurd (Nat.lt_of_lt_of_le (Heap.lt_size (I.pin p hp).1) (by rw [z]; exact hb)) (Nat.lt_irrefl _)
structure Turn (P : Program) (w : World) (K : PySem.W.Frag) (tg : Expr) (J : It) (fp : List Addr) (it : Addr) (tn : Nat → Heap → Prop) : Prop where
  mem : it ∈ fp
  obj : ∀ i h, tn i h → ∀ b ∈ fp, ∃ o, h.get? b = some o ∧ ∀ v, o.data ≠ .cell v
  keep : ∀ i h h', tn i h → (∀ b ∈ fp, ∀ o, h.get? b = some o → h'.get? b = some o) → tn i h'
  item : ∀ (X : Cx), X.prog = P → X.w = w → X.K = K → X.calm = true → ∀ (i : Nat) (pins : List (Addr × Obj)) (s : Shared) (σ : St) (H : Hp) (E : Value → Shared → Prop), Inv X pins σ H s → (∀ b ∈ fp, FpOk X pins H b) → tn i s.heap → J.go i H →
    wpAny (model P w) X.A (pyNext (.ref it)) (fun r s1 => ∃ u, r = some u ∧
      wpAny (model P w) X.A (letOwnedTupleGo tg (.ref it) u) (fun _ s2 => ∃ x H', Inv X pins σ H' s2 ∧ RelV x u ∧ J.yld i H x H' ∧ tn (i + 1) s2.heap ∧ ∀ b ∈ fp, H' b = none) E s1) E s
  done : ∀ (X : Cx), X.prog = P → X.w = w → X.K = K → X.calm = true → ∀ (i : Nat) (pins : List (Addr × Obj)) (s : Shared) (σ : St) (H : Hp) (E : Value → Shared → Prop), Inv X pins σ H s → (∀ b ∈ fp, FpOk X pins H b) → tn i s.heap → J.stop i H →
    wpAny (model P w) X.A (pyNext (.ref it)) (fun r s1 => r = none ∧ Inv X pins σ H s1) E s
  self : ∀ (A : Around) (i : Nat) (s : Shared) (Q : Value → Shared → Prop) (E : Value → Shared → Prop), tn i s.heap → Q (.ref it) s → wpAny (model P w) A (pyIter (.ref it)) Q E s
noncomputable abbrev TI := St → Hp → (It → Hp → Prop) → Prop
noncomputable def PIE (X : Cx) (pins : List (Addr × Obj)) (σ : St) (tg : Expr) (R : It → Hp → Prop) (itv : Value) (s2 : Shared) : Prop :=
  ∃ (it : Addr) (fp : List Addr) (tn : Nat → Heap → Prop) (J : It) (H' : Hp), itv = .ref it ∧ Inv X pins σ H' s2 ∧ Turn X.prog X.w X.K tg J fp it tn ∧ tn 0 s2.heap ∧ (∀ b ∈ fp, FpOk X pins H' b) ∧ R J H'
noncomputable def PI (X : Cx) (tg iter : Expr) (wi : TI) : Prop :=
  ∀ (pins : List (Addr × Obj)) (s : Shared) (σ : St) (H : Hp) (R : It → Hp → Prop), Inv X pins σ H s → wi σ H R →
    wpAny (model X.prog X.w) X.A (eval iter X.env) (fun v s1 => wpAny (model X.prog X.w) X.A (pyIter v) (PIE X pins σ tg R) X.xe s1) X.xe s
theorem go_of {M : Model} {A : Around} {E : Value → Shared → Prop} {s : Shared} {tg : Expr} {it : Addr} {u : Value} {o : Obj} {n : String} {vs : Array Value} {Q : Unit → Shared → Prop} (ho : s.heap.get? it = some o) (hc : o.cls = .type n) (hd : o.data = .fields vs)
    (hn : ["enumerate", "zip", "dict_itemiterator", "dict_reverseitemiterator", "odict_iterator", "itertools.zip_longest", "itertools.pairwise"].contains n = false) (hQ : Q () s) : wpAny M A (letOwnedTupleGo tg (.ref it) u) Q E s := by
  unfold letOwnedTupleGo
  cases tg <;> first
    | exact wpAny_pure hQ
    | (cases u <;> first
        | exact wpAny_pure hQ
        | (refine wpAny_bind (wpAny_load ho ?_)
           rw [hc, hd]
           show wpAny M A (if (["enumerate", "zip", "dict_itemiterator", "dict_reverseitemiterator", "odict_iterator", "itertools.zip_longest", "itertools.pairwise"].contains n && vs[0]? == some (rawInt _)) = true then _ else _) Q E s
           rw [if_neg (by intro h; rw [hn, Bool.false_and] at h; cases h)]
           exact wpAny_pure hQ))
noncomputable def Itl (K : PySem.W.Frag) (a : Addr) : It :=
  ⟨fun i H => ∃ xs x, SqL K H a xs ∧ xs[i]? = some x, fun i H x H' => H' = H ∧ ∀ xs, SqL K H a xs → xs[i]? = some x, fun i H => ∃ xs, SqL K H a xs ∧ xs.length ≤ i⟩
noncomputable def Itt (K : PySem.W.Frag) (a : Addr) : It :=
  ⟨fun i H => ∃ xs x, SqT K H a xs ∧ xs[i]? = some x, fun i H x H' => H' = H ∧ ∀ xs, SqT K H a xs → xs[i]? = some x, fun i H => ∃ xs, SqT K H a xs ∧ xs.length ≤ i⟩
noncomputable def Itr (lo : Int) (n : Nat) : It := ⟨fun i _ => i < n, fun i H x H' => H' = H ∧ x = .int (lo + i), fun i _ => n ≤ i⟩
theorem turn_list {P : Program} {w : World} {K : PySem.W.Frag} {tg : Expr} (a it : Addr) : Turn P w K tg (Itl K a) [it] it (fun i h => h.IsListIter it a i) where
  mem := by simp
  obj := fun i h st b hb => by
    have e : b = it := by simpa using hb
    subst e
    obtain ⟨o, e, c, d⟩ := st
    exact ⟨o, e, fun v z => by rw [d] at z; cases z⟩
  keep := fun i h h' st k => st.at fun o e => k it (by simp) o e
  item := by
    intro X hP hw hK hc i pins s σ H E I hf st hg
    subst hP hw hK
    obtain ⟨xs, x, hq, hx⟩ := hg
    obtain ⟨its, rv, p, hz⟩ := I.list hq
    obtain ⟨u, hu, ru⟩ := rv.get hx
    obtain ⟨f0, f1, f2, f3, f4, f5⟩ := hf it (by simp)
    refine wpAny_pyNext_list_item st p.isList (x := u) (by simpa using hu) fun h' st' sb => ?_
    have I1 : Inv X pins σ H { s with heap := h' } := I.turned (t' := s.toks) (fun b o hb e => (sb.2 b hb).trans e) f0 f1 f3 f4 f5
    obtain ⟨o, e, c, d⟩ := id st'
    exact ⟨u, rfl, go_of (s := { s with heap := h' }) e c d (by decide) ⟨x, H, I1, ru, ⟨rfl, fun ys hy => by rw [I.list_inj hy hq]; exact hx⟩, st', fun b hb => (hf b hb).1⟩⟩
  done := by
    intro X hP hw hK hc i pins s σ H E I hf st hg
    subst hP hw hK
    obtain ⟨xs, hq, hx⟩ := hg
    obtain ⟨its, rv, p, hz⟩ := I.list hq
    obtain ⟨f0, f1, f2, f3, f4, f5⟩ := hf it (by simp)
    have hl := rv.length
    exact wpAny_pyNext_list_end (I.ok.hd hc) st p.isList (by simp; omega) fun h' eb => ⟨rfl, I.turned (t' := s.toks) (fun b o hb e => eb b o hb e) f0 f1 f3 f4 f5⟩
  self := fun _ _ _ _ _ st h => wpAny_pyIter_listiter st h
theorem turn_tuple {P : Program} {w : World} {K : PySem.W.Frag} {tg : Expr} (a it : Addr) : Turn P w K tg (Itt K a) [it] it (fun i h => h.IsTupleIter it a i) where
  mem := by simp
  obj := fun i h st b hb => by
    have e : b = it := by simpa using hb
    subst e
    obtain ⟨o, e, c, d⟩ := st
    exact ⟨o, e, fun v z => by rw [d] at z; cases z⟩
  keep := fun i h h' st k => st.at fun o e => k it (by simp) o e
  item := by
    intro X hP hw hK hc i pins s σ H E I hf st hg
    subst hP hw hK
    obtain ⟨xs, x, hq, hx⟩ := hg
    obtain ⟨its, rv, p, hz⟩ := I.tuple hq
    obtain ⟨u, hu, ru⟩ := rv.get hx
    obtain ⟨f0, f1, f2, f3, f4, f5⟩ := hf it (by simp)
    refine wpAny_pyNext_tuple_item st (show s.heap.IsTuple a its.toArray from p) (x := u) (by simpa using hu) fun h' st' sb => ?_
    have I1 : Inv X pins σ H { s with heap := h' } := I.turned (t' := s.toks) (fun b o hb e => (sb.2 b hb).trans e) f0 f1 f3 f4 f5
    obtain ⟨o, e, c, d⟩ := id st'
    exact ⟨u, rfl, go_of (s := { s with heap := h' }) e c d (by decide) ⟨x, H, I1, ru, ⟨rfl, fun ys hy => by rw [I.tuple_inj hy hq]; exact hx⟩, st', fun b hb => (hf b hb).1⟩⟩
  done := by
    intro X hP hw hK hc i pins s σ H E I hf st hg
    subst hP hw hK
    obtain ⟨xs, hq, hx⟩ := hg
    obtain ⟨its, rv, p, hz⟩ := I.tuple hq
    obtain ⟨f0, f1, f2, f3, f4, f5⟩ := hf it (by simp)
    have hl := rv.length
    exact wpAny_pyNext_tuple_end (I.ok.hd hc) st (show s.heap.IsTuple a its.toArray from p) (by simp; omega) fun h' eb => ⟨rfl, I.turned (t' := s.toks) (fun b o hb e => eb b o hb e) f0 f1 f3 f4 f5⟩
  self := fun _ _ _ _ _ st h => wpAny_pyIter_tupleiter st h
theorem turn_range {P : Program} {w : World} {K : PySem.W.Frag} {tg : Expr} (it : Addr) (lo : Int) (n : Nat) : Turn P w K tg (Itr lo n) [it] it (fun i h => IsRangeIter h it (lo + (i : Nat) * 1) ((n : Int) - (i : Nat)) 1) where
  mem := by simp
  obj := fun i h st b hb => by
    have e : b = it := by simpa using hb
    subst e
    exact ⟨_, st, fun v z => by
      have z' : Data.fields _ = Data.cell v := z
      cases z'⟩
  keep := fun i h h' st k => k it (by simp) _ st
  item := by
    intro X hP hw hK hc i pins s σ H E I hf st hg
    subst hP hw hK
    obtain ⟨f0, f1, f2, f3, f4, f5⟩ := hf it (by simp)
    have W := Walks.range (prog := X.prog) (w := X.w) (I.ok.hd hc) it lo 1 n
    refine W.item i s _ _ hg st fun v h' tk hv st' kk => ?_
    obtain ⟨t, rfl⟩ := hv
    have I1 : Inv X pins σ H { s with heap := h', toks := tk } := I.turned (fun b o hb e => kk b o (by simpa using hb) e) f0 f1 f3 f4 f5
    refine ⟨_, rfl, go_of (s := { s with heap := h', toks := tk }) (n := "range_iterator") st' rfl rfl (by decide) ⟨.int (lo + i), H, I1, ⟨t, ?_⟩, ⟨rfl, rfl⟩, st', fun b hb => (hf b hb).1⟩⟩
    rw [Int.mul_one]
  done := by
    intro X hP hw hK hc i pins s σ H E I hf st hg
    subst hP hw hK
    obtain ⟨f0, f1, f2, f3, f4, f5⟩ := hf it (by simp)
    exact wpAny_pyNext_range_end (I.ok.hd hc) st (by have : n ≤ i := hg; omega) fun h' eb => ⟨rfl, I.turned (t' := s.toks) (fun b o hb e => eb b o hb e) f0 f1 f3 f4 f5⟩
  self := fun _ _ _ _ _ st h => wpAny_pyIter_rangeiter st h
end L2
namespace L2
open PySem PySem.Spec PyProof.Rows
section
variable {X : Cx} {tg : Expr}
noncomputable def iList (K : PySem.W.Frag) (tl : TE) : TI := fun σ H R => tl σ H fun x H1 => ∃ a, x = .ref a ∧ (∃ xs, SqL K H1 a xs) ∧ R (Itl K a) H1
theorem pi_list {l : Expr} {tl : TE} (hl : PE X l tl) : PI X tg l (iList X.K tl) := by
  intro pins s σ H R I h
  refine thn (hl pins s σ H _ I h) fun v s1 h_ => ?_
  obtain ⟨x, H1, I1, r1, q1⟩ := h_
  obtain ⟨a, e, ⟨xs, hq⟩, q⟩ := q1
  subst e
  cases r1
  obtain ⟨its, rv, p, hz⟩ := I1.list hq
  refine wpAny_pyIter_list p.isList ?_
  refine ⟨s1.heap.objs.size, [s1.heap.objs.size], _, _, H1, rfl, I1.kept (t' := s1.toks) fun b o e => Heap.get?_push_of_some _ e, turn_list a _, ⟨_, Heap.get?_push_size _ rfl, rfl, rfl⟩, fun b hb => ?_, q⟩
  have e : b = s1.heap.objs.size := by simpa using hb
  subst e
  exact I1.fpOk (Nat.le_refl _) (I1.hok.fresh (Nat.le_refl _))
theorem range_it {pins : List (Addr × Obj)} {σ : St} {H : Hp} {s : Shared} {R : It → Hp → Prop} {E : Value → Shared → Prop} {lo hi : Int} {t u v : Tok} {tk : Nat} (I : Inv X pins σ H s) (h1 : -(2 ^ 62) ≤ lo) (h2 : lo < 2 ^ 62) (h3 : -(2 ^ 62) ≤ hi) (h4 : hi < 2 ^ 62)
    (q : R (Itr lo (hi - lo).toNat) H) : wpAny (model X.prog X.w) X.A (pyIter (.ref s.heap.objs.size)) (PIE X pins σ tg R) E { s with heap := s.heap.push { cls := .type "range", data := .fields #[.int lo t, .int hi u, .int 1 v] }, toks := tk } := by
  refine wpAny_pyIter_range (IsRange.new ..) (small_one h1 h2 h3 h4) ?_
  have I1 : Inv X pins σ H { s with heap := s.heap.push { cls := .type "range", data := .fields #[.int lo t, .int hi u, .int 1 v] }, toks := tk } := I.kept fun b o e => Heap.get?_push_of_some _ e
  refine ⟨(s.heap.push { cls := .type "range", data := .fields #[.int lo t, .int hi u, .int 1 v] }).objs.size, [(s.heap.push { cls := .type "range", data := .fields #[.int lo t, .int hi u, .int 1 v] }).objs.size], _, _, H, rfl,
    I1.kept (t' := tk) fun b o e => Heap.get?_push_of_some _ e, turn_range _ lo (hi - lo).toNat, ?_, fun b hb => ?_, q⟩
  · have e1 : lo + ((0 : Nat) : Int) * 1 = lo := by simp
    have e2 : (((hi - lo).toNat : Nat) : Int) - ((0 : Nat) : Int) = Builtin.Range.rangeSize lo hi 1 := by rw [rangeSize_one]; split <;> omega
    show IsRangeIter _ _ (lo + ((0 : Nat) : Int) * 1) ((((hi - lo).toNat : Nat) : Int) - ((0 : Nat) : Int)) 1
    rw [e1, e2]
    exact Heap.get?_push_size _ rfl
  · have e : b = (s.heap.push { cls := .type "range", data := .fields #[.int lo t, .int hi u, .int 1 v] }).objs.size := by simpa using hb
    subst e
    exact I1.fpOk (Nat.le_refl _) (I1.hok.fresh (Nat.le_refl _))
noncomputable def iRng1 (ta : TA) : TI := fun σ H R => ta σ H fun vs H1 => ∃ j : Int, vs = [.int j] ∧ -(2 ^ 62) ≤ j ∧ j < 2 ^ 62 ∧ R (Itr 0 j.toNat) H1
theorem pi_range1 {a : Expr} {ta : TA} {p pos : Pos} (hg : Gl X "range") (hm : X.mg "range" = none) (ha : PA X [a] ta) (hs : starEach [a] X.env = [(false, eval a X.env)] := by rfl) : PI X tg (.Call (.Name "range" p) [a] [] pos) (iRng1 ta) := by
  intro pins s σ H R I h
  refine Call_ (ld_blt I hg hm boot_range (PyProof.Rows.callWith_type1 (thn (ha pos pins s σ H _ I h) fun us s1 ⟨vs, H1, I1, r1, q1⟩ => ?_) hs rfl))
  obtain ⟨j, e, q1, q2, q⟩ := q1
  subst e
  cases r1 with
  | cons r rr =>
    cases rr
    obtain ⟨t, rfl⟩ := r
    exact call_range_1 (range_it I1 (by omega) (by omega) q1 q2 (by simpa using q))
noncomputable def tFor (wi : TI) (g : TG) (tb : TS) : TS := fun D σ H => wi σ H fun J H1 => ∃ W : Nat → Nat → St → Hp → Prop, (∃ m, W 0 m σ H1) ∧ ∀ i m σ H, W i m σ H →
  (J.stop i H ∧ D.nx σ H) ∨ (J.go i H ∧ ∃ N : St → Hp → Prop, (∀ σ' H', N σ' H' → ∃ m', m' < m ∧ W (i + 1) m' σ' H') ∧ ∀ x H', J.yld i H x H' → g x σ H' fun σ2 H2 => tb { D with nx := N, ct := N, bk := D.nx } σ2 H2)
noncomputable def pinsAt (fp : List Addr) (h : Heap) : List (Addr × Obj) := fp.filterMap fun b => (h.get? b).map fun o => (b, o)
theorem mem_pinsAt {fp : List Addr} {h : Heap} {b : Addr} {o : Obj} (hb : b ∈ fp) (e : h.get? b = some o) : (b, o) ∈ pinsAt fp h := List.mem_filterMap.mpr ⟨b, hb, by rw [e]; rfl⟩
theorem of_pinsAt {fp : List Addr} {h : Heap} {p : Addr × Obj} (hp : p ∈ pinsAt fp h) : p.1 ∈ fp ∧ h.get? p.1 = some p.2 := by
  obtain ⟨b, hb, e⟩ := List.mem_filterMap.mp hp
  cases q : h.get? b with
  | none => rw [q] at e; cases e
  | some o =>
    rw [q] at e
    have e' : (b, o) = p := Option.some.inj e
    subst e'
    exact ⟨hb, q⟩
theorem Inv.pinned {pins : List (Addr × Obj)} {σ : St} {H : Hp} {s : Shared} {fp : List Addr} (I : Inv X pins σ H s) (hf : ∀ b ∈ fp, FpOk X pins H b) (ho : ∀ b ∈ fp, ∃ o, s.heap.get? b = some o ∧ ∀ v, o.data ≠ .cell v) : Inv X (pins ++ pinsAt fp s.heap) σ H s :=
  I.pins_of fun p hp => (List.mem_append.mp hp).elim (fun z => I.pin p (List.mem_append_right _ z)) fun z => by
    obtain ⟨hb, e⟩ := of_pinsAt z
    obtain ⟨f0, f1, f2, _⟩ := hf p.1 hb
    obtain ⟨o, e', d⟩ := ho p.1 hb
    rw [e] at e'; cases e'
    exact ⟨e, f0, f1, f2, d⟩
theorem Inv.unpinned {pins pl : List (Addr × Obj)} {σ : St} {H : Hp} {s : Shared} (I : Inv X (pins ++ pl) σ H s) : Inv X pins σ H s := I.pins_of fun p hp => I.pin p (List.mem_append_right _ (List.mem_append_left _ hp))
theorem ps_for {iter : Expr} {body : List Stmt} {wi : TI} {g : TG} {tb : TS} {pos : Pos} (hp : PassesOwn (model X.prog X.w) X.A X.env X.xe) (hc : X.calm = true) (hi : PI X tg iter wi) (hg : PG X tg g) (hb : PSs X body tb)
    (hs : ∀ x, foldedSetIterable iter X.env x = pure x := by intro _; rfl) : PS X (.For tg iter body [] pos) (tFor wi g tb) := by
  intro pins s σ H D I h
  refine wpAny_For (thn (hi pins s σ H _ I h) fun v s1 h1 => thn h1 fun itv s2 h2 => ?_) hs
  obtain ⟨it, fp, tn, J, H2, e, I2, T, st2, f2, W, ⟨m0, w0⟩, turn⟩ := h2
  subst e
  -- what stays true of the iterator's objects through the loop
  have stat : ∀ {H' : Hp}, (∀ b ∈ fp, H' b = none) → ∀ b ∈ fp, FpOk X pins H' b := fun hn b hb => ⟨hn b hb, (f2 b hb).2⟩
  refine codeAny_forLoop_any (fun n s' => ∃ i σ' H', Inv X pins σ' H' s' ∧ tn i s'.heap ∧ (∀ b ∈ fp, H' b = none) ∧ W i n σ' H') ?_ m0 ⟨0, σ, H2, I2, st2, fun b hb => (f2 b hb).1, w0⟩
  rintro n s3 ⟨i, σ3, H3, I3, st3, fr3, w3⟩
  rcases turn i n σ3 H3 w3 with ⟨stop, qn⟩ | ⟨go, N, hN, step⟩
  · refine wpAny_passesOwn hp (thn (T.done X rfl rfl rfl hc i pins s3 σ3 H3 X.xe I3 (stat fr3) st3 stop) fun r s4 ⟨hr, I4⟩ => ?_)
    subst hr
    exact wpAny_execs_nil ⟨σ3, H3, I4, qn⟩
  · refine wpAny_passesOwn hp (thn (T.item X rfl rfl rfl hc i pins s3 σ3 H3 X.xe I3 (stat fr3) st3 go) fun r s4 h_ => ?_)
    obtain ⟨u, hr, h4⟩ := h_
    subst hr
    refine wpAny_passesOwn hp (thn h4 fun _ s5 h_ => ?_)
    obtain ⟨x, H5, I5, r5, y5, st5, fr5⟩ := h_
    have I5' := I5.pinned (stat fr5) (T.obj _ _ st5)
    refine wpAny_passesOwn hp (thn (hg _ s5 σ3 H5 x u _ I5' r5 (step x H5 y5)) fun _ s6 h_ => ?_)
    obtain ⟨σ6, H6, I6, q6⟩ := h_
    refine wpAny_passesOwn hp (thn (hb _ s6 σ6 H6 _ I6 q6) fun f s7 q7 => ?_)
    have again : ∀ {σ7 : St} {H7 : Hp}, Inv X (pins ++ pinsAt fp s5.heap) σ7 H7 s7 → N σ7 H7 → ∃ m, m < n ∧ ∃ i σ' H', Inv X pins σ' H' s7 ∧ tn i s7.heap ∧ (∀ b ∈ fp, H' b = none) ∧ W i m σ' H' := fun {σ7 H7} I7 n7 => by
      obtain ⟨m', hm, w7⟩ := hN σ7 H7 n7
      refine ⟨m', hm, i + 1, σ7, H7, I7.unpinned, T.keep _ _ _ st5 fun b hb o e => (I7.pin (b, o) (List.mem_append_right _ (List.mem_append_right _ (mem_pinsAt hb e)))).1, fun b hb => ?_, w7⟩
      obtain ⟨o, e, d⟩ := T.obj _ _ st5 b hb
      exact (I7.pin (b, o) (List.mem_append_right _ (List.mem_append_right _ (mem_pinsAt hb e)))).2.1
    cases f with
    | next => obtain ⟨σ7, H7, I7, n7⟩ := q7; exact again I7 n7
    | cont => obtain ⟨σ7, H7, I7, n7⟩ := q7; exact again I7 n7
    | brk => obtain ⟨σ7, H7, I7, q7⟩ := q7; exact ⟨σ7, H7, I7.unpinned, q7⟩
    | ret v => obtain ⟨x7, σ7, H7, I7, r7, q7⟩ := q7; exact ⟨x7, σ7, H7, I7.unpinned, r7, q7⟩
end
end L2
namespace L2
open PySem PySem.Spec PyProof.Rows
noncomputable abbrev R2 := V → V → Hp → VK → Prop
noncomputable def OpR (X : Cx) (f : Value → Value → Sem Value) (r : R2) : Prop :=
  ∀ (pins : List (Addr × Obj)) (s : Shared) (σ : St) (H : Hp) (x y : V) (v u : Value) (Q : VK), Inv X pins σ H s → RelV x v → RelV y u → r x y H Q →
    wpAny (model X.prog X.w) X.A (f v u) (EP X pins σ Q) X.xe s
noncomputable def UnR (X : Cx) (f : Value → Sem Value) (r : V → Hp → VK → Prop) : Prop :=
  ∀ (pins : List (Addr × Obj)) (s : Shared) (σ : St) (H : Hp) (x : V) (v : Value) (Q : VK), Inv X pins σ H s → RelV x v → r x H Q →
    wpAny (model X.prog X.w) X.A (f v) (EP X pins σ Q) X.xe s
noncomputable def CallR (X : Cx) (f : Value) (r : List V → Hp → VK → Prop) : Prop :=
  ∀ (pins : List (Addr × Obj)) (s : Shared) (σ : St) (H : Hp) (xs : List V) (us : List Value) (Q : VK), Inv X pins σ H s → Vals xs us → r xs H Q →
    wpAny (model X.prog X.w) X.A (call f us) (EP X pins σ Q) X.xe s
noncomputable def TruR (X : Cx) (r : V → Hp → (Bool → Hp → Prop) → Prop) : Prop :=
  ∀ (pins : List (Addr × Obj)) (s : Shared) (σ : St) (H : Hp) (x : V) (v : Value) (Q : Bool → Hp → Prop), Inv X pins σ H s → RelV x v → r x H Q →
    wpAny (model X.prog X.w) X.A (truthy v) (TP X pins σ Q) X.xe s
noncomputable def tOp (r : R2) (ta tb : TE) : TE := fun σ H Q => ta σ H fun x H1 => tb σ H1 fun y H2 => r x y H2 Q
noncomputable def tUn (r : V → Hp → VK → Prop) (ta : TE) : TE := fun σ H Q => ta σ H fun x H1 => r x H1 Q
noncomputable def rI (C : Int → Int → Prop) (g : Int → Int → V) : R2 := fun x y H Q => ∃ i j, x = .int i ∧ y = .int j ∧ C i j ∧ Q (g i j) H
noncomputable def rI0 (g : Int → Int → V) : R2 := fun x y H Q => ∃ i j, x = .int i ∧ y = .int j ∧ Q (g i j) H
noncomputable def rU (g : Int → V) : V → Hp → VK → Prop := fun x H Q => ∃ i, x = .int i ∧ Q (g i) H
section
variable {X : Cx} {a b c : Expr} {ta tb tc : TE} {pos : Pos}
theorem binT (ha : PE X a ta) (hb : PE X b tb) {pins : List (Addr × Obj)} {s : Shared} {σ : St} {H : Hp} {R : V → V → Hp → Prop} (I : Inv X pins σ H s)
    (h : ta σ H fun x H1 => tb σ H1 fun y H2 => R x y H2) {Q : Value → Shared → Prop} {f : Value → Value → Sem Value}
    (hf : ∀ v u s2 x y H2, Inv X pins σ H2 s2 → RelV x v → RelV y u → R x y H2 → wpAny (model X.prog X.w) X.A (f v u) Q X.xe s2) :
    wpAny (model X.prog X.w) X.A (eval a X.env) (fun v s₁ => wpAny (model X.prog X.w) X.A (eval b X.env) (fun u s₂ => wpAny (model X.prog X.w) X.A (f v u) Q X.xe s₂) X.xe s₁) X.xe s := by
  refine thn (ha pins s σ H _ I h) fun v s1 h_ => ?_
  obtain ⟨x, H1, I1, r1, q1⟩ := h_
  refine thn (hb pins s1 σ H1 _ I1 q1) fun u s2 h_ => ?_
  obtain ⟨y, H2, I2, r2, q2⟩ := h_
  exact hf v u s2 x y H2 I2 r1 r2 q2
theorem pe_op {op : Operator} {r : R2} (ho : OpR X (binaryOp op) r) (ha : PE X a ta) (hb : PE X b tb) : PE X (.BinOp a op b pos) (tOp r ta tb) := by
  intro pins s σ H Q I h
  exact wpAny_BinOp (binT ha hb I h fun v u s2 x y H2 I2 rx ry q => ho pins s2 σ H2 x y v u Q I2 rx ry q)
theorem pe_un {op : UnaryOp} {r : V → Hp → VK → Prop} (ho : UnR X (unaryOp op) r) (ha : PE X a ta) : PE X (.UnaryOp op a pos) (tUn r ta) := by
  intro pins s σ H Q I h
  exact UnaryOp_ (thn (ha pins s σ H _ I h) fun v s1 ⟨x, H1, I1, r1, q1⟩ => ho pins s1 σ H1 x v Q I1 r1 q1)
theorem opI {f : Value → Value → Sem Value} {C : Int → Int → Prop} {g : Int → Int → Int}
    (rule : ∀ (i j : Int) (t u : Tok) (s : Shared) (Q : Value → Shared → Prop) (E : Value → Shared → Prop), C i j → Q (.int (g i j) s.toks) { s with toks := s.toks + 1 } → wpAny (model X.prog X.w) X.A (f (.int i t) (.int j u)) Q E s) :
    OpR X f (rI C fun i j => .int (g i j)) := by
  intro pins s σ H x y v u Q I rx ry h
  obtain ⟨i, j, rfl, rfl, hc, q⟩ := h
  obtain ⟨t, rfl⟩ := rx
  obtain ⟨t', rfl⟩ := ry
  exact rule i j t t' s _ _ hc ⟨.int (g i j), H, I.tok _, ⟨_, rfl⟩, q⟩
theorem opI0 {f : Value → Value → Sem Value} {g : Int → Int → Int}
    (rule : ∀ (i j : Int) (t u : Tok) (s : Shared) (Q : Value → Shared → Prop) (E : Value → Shared → Prop), Q (.int (g i j) s.toks) { s with toks := s.toks + 1 } → wpAny (model X.prog X.w) X.A (f (.int i t) (.int j u)) Q E s) :
    OpR X f (rI0 fun i j => .int (g i j)) := by
  intro pins s σ H x y v u Q I rx ry h
  obtain ⟨i, j, rfl, rfl, q⟩ := h
  obtain ⟨t, rfl⟩ := rx
  obtain ⟨t', rfl⟩ := ry
  exact rule i j t t' s _ _ ⟨.int (g i j), H, I.tok _, ⟨_, rfl⟩, q⟩
theorem opB0 {f : Value → Value → Sem Value} {g : Int → Int → Bool}
    (rule : ∀ (i j : Int) (t u : Tok) (s : Shared) (Q : Value → Shared → Prop) (E : Value → Shared → Prop), Q (.bool (g i j)) s → wpAny (model X.prog X.w) X.A (f (.int i t) (.int j u)) Q E s) :
    OpR X f (rI0 fun i j => .bl (g i j)) := by
  intro pins s σ H x y v u Q I rx ry h
  obtain ⟨i, j, rfl, rfl, q⟩ := h
  obtain ⟨t, rfl⟩ := rx
  obtain ⟨t', rfl⟩ := ry
  exact rule i j t t' s _ _ ⟨.bl (g i j), H, I, rfl, q⟩
noncomputable def CDiv (i j : Int) : Prop := 0 < j ∧ j < 1073741824
noncomputable def CPow (i j : Int) : Prop := 0 ≤ j ∧ j ≤ 1000000 ∧ i.natAbs < 2 ^ 64
noncomputable def CMul (i j : Int) : Prop := (-(2 ^ 64) < i ∧ i < 2 ^ 64) ∨ (-(2 ^ 64) < j ∧ j < 2 ^ 64)
theorem CMul.ok {i j : Int} (h : CMul i j) : IntMulOk i j := by
  rcases h with ⟨h1, h2⟩ | ⟨h1, h2⟩
  · exact .of_left (intBits_le_64 h1 h2)
  · exact .of_right (intBits_le_64 h1 h2)
theorem op_add : OpR X (binaryOp .Add) (rI0 fun i j => .int (i + j)) := opI0 fun _ _ _ _ _ _ _ q => add_int q
theorem op_sub : OpR X (binaryOp .Sub) (rI0 fun i j => .int (i - j)) := opI0 fun _ _ _ _ _ _ _ q => sub_int q
theorem op_mul : OpR X (binaryOp .Mult) (rI CMul fun i j => .int (i * j)) := opI fun _ _ _ _ _ _ _ hc q => mul_int q hc.ok
theorem op_fdiv : OpR X (binaryOp .FloorDiv) (rI CDiv fun i j => .int (i / j)) := opI fun i j _ _ _ _ _ hc q => by
  have h1 : (0 : Int) < j := hc.1
  have h2 : j < 1073741824 := hc.2
  exact floordiv_int (by omega) (by rw [Int.fdiv_eq_ediv_of_nonneg i (by omega)]; exact q) (.inl (PyProof.noPylong_small (by omega)))
theorem op_mod : OpR X (binaryOp .Mod) (rI (fun _ j => 0 < j) fun i j => .int (i % j)) := opI fun i j _ _ _ _ _ hc q => by
  have h1 : (0 : Int) < j := hc
  exact mod_int' (by omega) (by rw [Int.fmod_eq_emod_of_nonneg i (by omega)]; exact q)
theorem op_pow : OpR X (binaryOp .Pow) (rI CPow fun i j => .int (i ^ j.toNat)) := opI fun _ _ _ _ _ _ _ hc q => pow_int_small hc.1 hc.2.1 hc.2.2 q
theorem unI {f : Value → Sem Value} {g : Int → Int}
    (rule : ∀ (i : Int) (t : Tok) (s : Shared) (Q : Value → Shared → Prop) (E : Value → Shared → Prop), Q (.int (g i) s.toks) { s with toks := s.toks + 1 } → wpAny (model X.prog X.w) X.A (f (.int i t)) Q E s) :
    UnR X f (rU fun i => .int (g i)) := by
  intro pins s σ H x v Q I rx h
  obtain ⟨i, rfl, q⟩ := h
  obtain ⟨t, rfl⟩ := rx
  exact rule i t s _ _ ⟨.int (g i), H, I.tok _, ⟨_, rfl⟩, q⟩
theorem un_neg : UnR X (unaryOp .USub) (rU fun i => .int (-i)) := unI fun _ _ _ _ _ q => neg_int q
end
noncomputable def scal : V → V → Bool
  | .non, .non => true | .non, .int _ => true | .int _, .non => true | .non, .bl _ => true | .bl _, .non => true | .non, .str _ => true | .str _, .non => true
  | .int _, .int _ => true | .bl _, .bl _ => true | .str _, .str _ => true | .byt _, .byt _ => true
  | .int _, .str _ => true | .str _, .int _ => true | .bl _, .str _ => true | .str _, .bl _ => true
  | _, _ => false
noncomputable def rEq : R2 := fun x y H Q => scal x y = true ∧ Q (.bl (decide (x = y))) H
noncomputable def rNe : R2 := fun x y H Q => scal x y = true ∧ Q (.bl (!decide (x = y))) H
theorem dec_int {i j : Int} : decide (V.int i = V.int j) = (i == j) := by
  rw [Bool.eq_iff_iff]
  simp
theorem dec_bl {i j : Bool} : decide (V.bl i = V.bl j) = (i == j) := by
  rw [Bool.eq_iff_iff]
  simp
theorem dec_str {i j : Str} : decide (V.str i = V.str j) = (i == j) := by
  rw [Bool.eq_iff_iff]
  simp
theorem dec_byt {i j : Array UInt8} : decide (V.byt i = V.byt j) = (i.toList == j.toList) := by
  rw [Bool.eq_iff_iff]
  cases i
  cases j
  simp
section
variable {X : Cx} {a b c : Expr} {ta tb tc : TE} {pos : Pos}
theorem fin_bl {pins : List (Addr × Obj)} {σ : St} {H : Hp} {s : Shared} {Q : VK} {k k' : Bool} (I : Inv X pins σ H s) (q : Q (.bl k) H) (e : k = k') : EP X pins σ Q (.bool k') s := by
  subst e
  exact ⟨.bl k, H, I, rfl, q⟩
theorem op_eq : OpR X (compareOp .Eq) rEq := by
  intro pins s σ H x y v u Q I rx ry h
  obtain ⟨hs, q⟩ := h
  cases x with
  | non =>
    cases rx
    cases y with
    | non => cases ry; exact PySem.EqNone.eq_none_none (fin_bl I q (by simp))
    | bl j => cases ry; exact PySem.EqNone.eq_none_bool (fin_bl I q (by simp))
    | int j => obtain ⟨t', rfl⟩ := ry; exact PySem.EqNone.eq_none_int (fin_bl I q (by simp))
    | str j => obtain ⟨t', rfl⟩ := ry; exact PySem.EqNone.eq_none_str (fin_bl I q (by simp))
    | _ => exact absurd (show false = true from hs) Bool.false_ne_true
  | bl i =>
    cases rx
    cases y with
    | non => cases ry; exact PySem.EqNone.eq_bool_none (fin_bl I q (by simp))
    | bl j => cases ry; exact eq_bool (fin_bl I q dec_bl)
    | str j => obtain ⟨t', rfl⟩ := ry; exact PySem.EqMixed.eq_bool_str (fin_bl I q (by simp))
    | _ => exact absurd (show false = true from hs) Bool.false_ne_true
  | int i =>
    obtain ⟨t, rfl⟩ := rx
    cases y with
    | non => cases ry; exact PySem.EqNone.eq_int_none (fin_bl I q (by simp))
    | int j => obtain ⟨t', rfl⟩ := ry; exact eq_int (fin_bl I q dec_int)
    | str j => obtain ⟨t', rfl⟩ := ry; exact PySem.EqMixed.eq_int_str (fin_bl I q (by simp))
    | _ => exact absurd (show false = true from hs) Bool.false_ne_true
  | str i =>
    obtain ⟨t, rfl⟩ := rx
    cases y with
    | non => cases ry; exact PySem.EqNone.eq_str_none (fin_bl I q (by simp))
    | bl j => cases ry; exact PySem.EqMixed.eq_str_bool (fin_bl I q (by simp))
    | int j => obtain ⟨t', rfl⟩ := ry; exact PySem.EqMixed.eq_str_int (fin_bl I q (by simp))
    | str j => obtain ⟨t', rfl⟩ := ry; exact eq_str (fin_bl I q dec_str)
    | _ => exact absurd (show false = true from hs) Bool.false_ne_true
  | byt i =>
    obtain ⟨t, rfl⟩ := rx
    cases y with
    | byt j => obtain ⟨t', rfl⟩ := ry; exact PySem.W.eq_bytes (fin_bl I q dec_byt)
    | _ => exact absurd (show false = true from hs) Bool.false_ne_true
  | _ => cases y <;> exact absurd (show false = true from hs) Bool.false_ne_true
theorem op_ne : OpR X (compareOp .NotEq) rNe := by
  intro pins s σ H x y v u Q I rx ry h
  obtain ⟨hs, q⟩ := h
  cases x with
  | non =>
    cases rx
    cases y with
    | non => cases ry; exact PySem.EqNone.ne_none_none (fin_bl I q (by simp))
    | bl j => cases ry; exact PySem.EqNone.ne_none_bool (fin_bl I q (by simp))
    | int j => obtain ⟨t', rfl⟩ := ry; exact PySem.EqNone.ne_none_int (fin_bl I q (by simp))
    | str j => obtain ⟨t', rfl⟩ := ry; exact PySem.EqNone.ne_none_str (fin_bl I q (by simp))
    | _ => exact absurd (show false = true from hs) Bool.false_ne_true
  | bl i =>
    cases rx
    cases y with
    | non => cases ry; exact PySem.EqNone.ne_bool_none (fin_bl I q (by simp))
    | bl j => cases ry; exact ne_bool (fin_bl I q (congrArg not dec_bl))
    | str j => obtain ⟨t', rfl⟩ := ry; exact PySem.EqMixed.ne_bool_str (fin_bl I q (by simp))
    | _ => exact absurd (show false = true from hs) Bool.false_ne_true
  | int i =>
    obtain ⟨t, rfl⟩ := rx
    cases y with
    | non => cases ry; exact PySem.EqNone.ne_int_none (fin_bl I q (by simp))
    | int j => obtain ⟨t', rfl⟩ := ry; exact ne_int (fin_bl I q (congrArg not dec_int))
    | str j => obtain ⟨t', rfl⟩ := ry; exact PySem.EqMixed.ne_int_str (fin_bl I q (by simp))
    | _ => exact absurd (show false = true from hs) Bool.false_ne_true
  | str i =>
    obtain ⟨t, rfl⟩ := rx
    cases y with
    | non => cases ry; exact PySem.EqNone.ne_str_none (fin_bl I q (by simp))
    | bl j => cases ry; exact PySem.EqMixed.ne_str_bool (fin_bl I q (by simp))
    | int j => obtain ⟨t', rfl⟩ := ry; exact PySem.EqMixed.ne_str_int (fin_bl I q (by simp))
    | str j => obtain ⟨t', rfl⟩ := ry; exact ne_str (fin_bl I q (congrArg not dec_str))
    | _ => exact absurd (show false = true from hs) Bool.false_ne_true
  | byt i =>
    obtain ⟨t, rfl⟩ := rx
    cases y with
    | byt j => obtain ⟨t', rfl⟩ := ry; exact PySem.W.ne_bytes (fin_bl I q (congrArg not dec_byt))
    | _ => exact absurd (show false = true from hs) Bool.false_ne_true
  | _ => cases y <;> exact absurd (show false = true from hs) Bool.false_ne_true
theorem op_lt : OpR X (compareOp .Lt) (rI0 fun i j => .bl (decide (i < j))) := opB0 fun _ _ _ _ _ _ _ q => lt_int q
theorem op_le : OpR X (compareOp .LtE) (rI0 fun i j => .bl (decide (i ≤ j))) := opB0 fun _ _ _ _ _ _ _ q => le_int q
theorem op_gt : OpR X (compareOp .Gt) (rI0 fun i j => .bl (decide (j < i))) := opB0 fun _ _ _ _ _ _ _ q => gt_int q
theorem op_ge : OpR X (compareOp .GtE) (rI0 fun i j => .bl (decide (j ≤ i))) := opB0 fun _ _ _ _ _ _ _ q => ge_int q
theorem OpR.or {f : Value → Value → Sem Value} {r r' : R2} (h : OpR X f r) (h' : OpR X f r') : OpR X f (fun x y H Q => r x y H Q ∨ r' x y H Q) := by
  intro pins s σ H x y v u Q I rx ry q
  rcases q with q | q
  · exact h pins s σ H x y v u Q I rx ry q
  · exact h' pins s σ H x y v u Q I rx ry q
theorem nomark (b : Expr) {op : CmpOp} (h : op ≠ .In := by decide) (h2 : op ≠ .NotIn := by decide) : behindInMarks op b = false := by
  have e1 : (op == CmpOp.In) = false := by cases op <;> first | rfl | exact absurd rfl h
  have e2 : (op == CmpOp.NotIn) = false := by cases op <;> first | rfl | exact absurd rfl h2
  cases b <;> simp [behindInMarks, e1, e2]
theorem pe_cmpR {op : CmpOp} {r : R2} (ho : OpR X (compareOp op) r) (ha : PE X a ta) (hb : PE X b tb) (hm : behindInMarks op b = false) : PE X (.Compare a [op] [b] pos) (tOp r ta tb) := by
  intro pins s σ H Q I h
  exact wpAny_Compare1 (binT ha hb I h fun v u s2 x y H2 I2 rx ry q => ho pins s2 σ H2 x y v u Q I2 rx ry q) hm
noncomputable def tTest (t : TE) : TT := fun σ H Q => t σ H fun x H' => ∃ k, x = .bl k ∧ Q k H'
theorem pt_cmpR {op : CmpOp} {r : R2} (ho : OpR X (compareOp op) r) (ha : PE X a ta) (hb : PE X b tb) (hm : behindInMarks op b = false) : PT X (.Compare a [op] [b] pos) (tTest (tOp r ta tb)) := by
  intro pins s σ H Q I h
  refine wpAny_isTrue_Compare1 (thn (ha pins s σ H _ I h) fun v s1 ⟨x, H1, I1, r1, q1⟩ => thn (hb pins s1 σ H1 _ I1 q1) fun u s2 ⟨y, H2, I2, r2, q2⟩ =>
    thn (ho pins s2 σ H2 x y v u _ I2 r1 r2 q2) fun c s3 ⟨z, H3, I3, r3, k, e, q3⟩ => ?_) hm
  subst e
  cases r3
  exact wpAny_truthy_bool ⟨H3, I3, q3⟩
noncomputable def tChain (r r' : R2) (ta tb tc : TE) : TE := fun σ H Q => ta σ H fun x H1 => tb σ H1 fun y H2 => r x y H2 fun z H3 => ∃ k, z = .bl k ∧
  (if k = true then tc σ H3 fun w' H4 => r' y w' H4 Q else Q (.bl false) H3)
theorem pt_chain {op op' : CmpOp} {r r' : R2} (ho : OpR X (compareOp op) r) (ho' : OpR X (compareOp op') r') (ha : PE X a ta) (hb : PE X b tb) (hc : PE X c tc)
    (hm : lastMarks [op, op'] [b, c] = false := by with_unfolding_all rfl) : PT X (.Compare a [op, op'] [b, c] pos) (tTest (tChain r r' ta tb tc)) := by
  intro pins s σ H Q I h
  refine isTrue_chain (thn (ha pins s σ H _ I h) fun v s1 ⟨x, H1, I1, r1, q1⟩ => test_link (thn (hb pins s1 σ H1 _ I1 q1) fun u s2 ⟨y, H2, I2, r2, q2⟩ =>
    thn (ho pins s2 σ H2 x y v u _ I2 r1 r2 q2) fun d s3 ⟨z, H3, I3, r3, k, e, q3⟩ => ?_)) hm
  subst e
  cases r3
  refine wpAny_truthy_bool ?_
  cases k with
  | false =>
    obtain ⟨k', e', q'⟩ := q3
    cases e'
    exact ite_ff ⟨H3, I3, q'⟩
  | true =>
    refine ite_tt (test_last (thn (hc pins s3 σ H3 _ I3 q3) fun w' s4 ⟨z', H4, I4, r4, q4⟩ => thn (ho' pins s4 σ H4 y z' u w' _ I4 r2 r4 q4) fun d' s5 h_ => ?_))
    obtain ⟨z2, H5, I5, r5, k2, e2, q5⟩ := h_
    subst e2
    cases r5
    exact wpAny_truthy_bool ⟨H5, I5, q5⟩
noncomputable def TruV (K : PySem.W.Frag) (x : V) (H : Hp) (k : Bool) : Prop :=
  match x with
  | .non => k = false
  | .bl b => k = b
  | .int i => k = (i != 0)
  | .str y => y.length ≤ sizeLine ∧ k = ((y.length : Int) != 0)
  | .byt y => y.size ≤ sizeLine ∧ k = ((y.size : Int) != 0)
  | .ref p => (∃ xs, SqL K H p xs ∧ k = !xs.isEmpty) ∨ (∃ xs, SqT K H p xs ∧ k = !xs.isEmpty) ∨ ∃ kvs, H p = some (.dK kvs) ∧ k = !kvs.isEmpty
  | _ => False
theorem isEmpty_kv {κ : Type} {kvs : List (κ × V)} {vs : List (κ × Value)} (r : KV kvs vs) : (!vs.isEmpty) = !kvs.isEmpty := by
  cases r <;> rfl
theorem isEmpty_of {xs : List V} {its : List Value} (r : Vals xs its) : (!its.toArray.isEmpty) = !xs.isEmpty := by
  cases r <;> simp
theorem line63 : (sizeLine : Nat) < 2 ^ 63 := by rw [sizeLine_eq]; decide
theorem tru_ok : TruR X (fun x H Q => ∃ k, TruV X.K x H k ∧ Q k H) := by
  intro pins s σ H x v Q I rx h
  obtain ⟨k, e, q⟩ := h
  have hl := line63
  have hs : sizeLine = 16777216 := sizeLine_eq
  cases x with
  | non =>
    cases rx
    have e' : k = false := e
    subst e'
    exact truthy_none ⟨H, I, q⟩
  | bl b =>
    cases rx
    have e' : k = b := e
    subst e'
    exact wpAny_truthy_bool ⟨H, I, q⟩
  | int i =>
    obtain ⟨t, rfl⟩ := rx
    have e' : k = (i != 0) := e
    subst e'
    exact PySem.P.truthy_int ⟨H, I, q⟩
  | str y =>
    obtain ⟨t, rfl⟩ := rx
    obtain ⟨hy, e'⟩ : y.length ≤ sizeLine ∧ k = ((y.length : Int) != 0) := e
    subst e'
    exact PySem.P.truthy_str (by omega) ⟨H, I.tok _, q⟩
  | byt y =>
    obtain ⟨t, rfl⟩ := rx
    obtain ⟨hy, e'⟩ : y.size ≤ sizeLine ∧ k = ((y.size : Int) != 0) := e
    subst e'
    exact PySem.W.truthy_bytes (by omega) ⟨H, I.tok _, q⟩
  | ref p =>
    cases rx
    have e' : (∃ xs, SqL X.K H p xs ∧ k = !xs.isEmpty) ∨ (∃ xs, SqT X.K H p xs ∧ k = !xs.isEmpty) ∨ ∃ kvs, H p = some (.dK kvs) ∧ k = !kvs.isEmpty := e
    rcases e' with ⟨xs, hx, e'⟩ | ⟨xs, hx, e'⟩ | ⟨kvs, hx, e'⟩
    · subst e'
      obtain ⟨its, r, pl, hz⟩ := I.list hx
      have hlen := r.length
      exact wpAny_truthy_list pl.isList (by simp only [List.size_toArray]; omega) ⟨H, I.tok _, by rw [isEmpty_of r]; exact q⟩
    · subst e'
      obtain ⟨its, r, pl, hz⟩ := I.tuple hx
      have hlen := r.length
      exact truthy_tuple pl (by simp only [List.size_toArray]; omega) ⟨H, I.tok _, by rw [isEmpty_of r]; exact q⟩
    · subst e'
      obtain ⟨hz, hS, vs, r, m⟩ : kvs.length ≤ sizeLine ∧ (p == sysModules) = false ∧ ∃ vs, KV kvs vs ∧ s.heap.DictOf (mixKind X.prog X.w) p vs := I.hok p _ hx
      have hlen : kvs.length = vs.length := Paired.length r
      exact wpAny_truthy_dict hS m (by omega) ⟨H, I.tok _, by rw [isEmpty_kv r]; exact q⟩
  | _ => exact (show False from e).elim
theorem pt_truth (ha : PE X a ta) (he : ∀ whole, isTrue a X.env whole = (do let v ← whole; standAt a.pos; holding [v] (truthy v))) :
    PT X a (fun σ H Q => ta σ H fun x H' => ∃ k, TruV X.K x H' k ∧ Q k H') := by
  intro pins s σ H Q I h
  exact isTrue_plain (thn (ha pins s σ H _ I h) fun v s1 ⟨x, H1, I1, r1, q1⟩ => tru_ok pins s1 σ H1 x v Q I1 r1 q1) (he _)
theorem vals1 {x : V} {us : List Value} (r : Vals [x] us) : ∃ u, us = [u] ∧ RelV x u := by
  cases r with
  | cons r1 r2 => cases r2; exact ⟨_, rfl, r1⟩
theorem vals2 {x y : V} {us : List Value} (r : Vals [x, y] us) : ∃ u w', us = [u, w'] ∧ RelV x u ∧ RelV y w' := by
  cases r with
  | cons r1 r2 =>
    cases r2 with
    | cons r3 r4 => cases r4; exact ⟨_, _, rfl, r1, r3⟩
theorem call_abs : CallR X (.builtin "abs") (fun xs H Q => ∃ i, xs = [.int i] ∧ Q (.int (if i < 0 then -i else i)) H) := by
  intro pins s σ H xs us Q I r h
  obtain ⟨i, rfl, q⟩ := h
  obtain ⟨u, rfl, t, rfl⟩ := vals1 r
  exact call_abs_int fun u tk => ⟨.int (if i < 0 then -i else i), H, I.tok _, ⟨_, rfl⟩, q⟩
theorem call_min2 (hc : X.calm = true) : CallR X (.builtin "min") (fun xs H Q => ∃ i j, xs = [.int i, .int j] ∧ Q (.int (if j < i then j else i)) H) := by
  intro pins s σ H xs us Q I r h
  obtain ⟨i, j, rfl, q⟩ := h
  obtain ⟨u, w', rfl, ⟨t, rfl⟩, ⟨t', rfl⟩⟩ := vals2 r
  refine min_two_ints (I.ok.hd hc) fun h' tk k => ⟨_, H, I.kept k, ?_, q⟩
  by_cases hj : j < i
  · rw [if_pos hj, if_pos hj]; exact ⟨_, rfl⟩
  · rw [if_neg hj, if_neg hj]; exact ⟨_, rfl⟩
end
end L2
namespace L2
open PySem PySem.Spec PyProof.Rows
structure ObjM (h : Heap) (x dx C : Addr) (mA : Str → Option Value) : Prop where
  obj : h.get? x = some (PySem.W.instObj C dx)
  ns : h.Ns1 dx mA
  ne : dx ≠ x
theorem lookIn_ns {h : Heap} {dx : Addr} {mA : Str → Option Value} (n : h.Ns1 dx mA) : ∃ od, h.get? dx = some od ∧ ∀ name, PySem.W.lookIn name od = some (mA name) := by
  obtain ⟨o, es, ep, ho, hd, hk, _, hm⟩ := n
  refine ⟨o, ho, fun name => ?_⟩
  have e := hm name
  unfold nsFind findBy at e
  rw [← Array.find?_toList] at e
  unfold PySem.W.lookIn
  rw [hd]
  dsimp only
  split
  · rename_i y q
    rw [q] at e
    exact congrArg some e
  · rename_i q
    rw [q] at e
    have a : es.toList.any (·.refKey) = false := by
      rw [List.any_eq_false]
      intro y hy
      obtain ⟨z, t, hkey⟩ := hk y (Array.mem_toList_iff.mp hy)
      simp [DictEntry.refKey, hkey]
    have a' : ¬ es.toList.any (·.refKey) = true := by rw [a]; exact Bool.false_ne_true
    rw [if_neg a']
    exact congrArg some e
theorem ObjM.look {h : Heap} {x dx C : Addr} {mA : Str → Option Value} (I : ObjM h x dx C mA) : ∃ od, PySem.W.InstAt h x (PySem.W.instObj C dx) C (some od) ∧ ∀ name, PySem.W.lookIn name od = some (mA name) :=
  let ⟨od, ho, hl⟩ := lookIn_ns I.ns
  ⟨od, ⟨I.obj, rfl, rfl, ho⟩, hl⟩
section
variable {prog : Program} {w : World} {A : Around} {E : Value → Shared → Prop} {s : Shared} {K : PySem.W.Frag} {x dx C f : Addr} {mA : Str → Option Value} {name : Str} {v : Value}
theorem set_map {ns : List Str} {Q : Unit → Shared → Prop} (X : K.In s.heap) (I : ObjM s.heap x dx C mA)
    (hs : PySem.W.findIn K (.ref C) "__setattr__" = some (some (.builtin "object.__setattr__"))) (hp : PySem.W.plainOver K C = true) (ht : PySem.W.takerIn K C name = some none) (hh : PySem.W.hasDictIn K C = true)
    (hw : PySem.Within mA ns) (hsz : ns.length ≤ sizeLine)
    (h : ∀ h', ObjM h' x dx C (fun y => if y = name then some v else mA y) → Heap.SameBut dx s.heap h' → Q () { s with heap := h', toks := s.toks + 2 }) :
    wpAny (model prog w) A (setAttr (.ref x) name v) Q E s := by
  obtain ⟨od, J, hl⟩ := I.look
  refine PySem.W.set_plain X J hs (PySem.W.osa_open (s := { s with toks := s.toks + 1 }) (r := none) X J hp ht fun b => ?_)
  obtain ⟨cd, hc, hd'⟩ := PySem.W.any_some hh
  have hx : s.heap.get? x = some ⟨.ref C, some dx, .plain, #[]⟩ := I.obj
  refine wpAny_bind (wpAny_pure (wpAny_bind (wpAny_bind (wpAny_loadPart hx (wpAny_bind (PySem.W.Looks.here (s := { s with toks := s.toks + 1 }) (PySem.W.looks_clsIn X hc) ?_))))))
  rw [hd']
  refine wpAny_pure (a := some dx) (wpAny_bind (wpAny_pure (wpAny_bind ?_)))
  refine wpAny_nsSet1 (s := { s with toks := s.toks + 1 }) I.ns fun h' hn2 hs2 => ?_
  obtain ⟨oD, esD, epD, hoD, hdD, hcD⟩ := hn2.count (PySem.Within.cons name v hw)
  refine wpAny_bind (wpAny_lookBehind hoD (by rw [hdD]; exact pastItsLine_dict (Nat.le_trans hcD (by rw [List.length_cons]; omega))) ?_)
  exact wpAny_pure (h _ ⟨(hs2.2 _ (Ne.symm I.ne)).trans I.obj, hn2, I.ne⟩ hs2)
theorem make_map {R : Result → Shared → Prop} {vs : List Value} {kw : List (Str × Value)} (X : K.In s.heap) (hm : PySem.W.makesIn K C = true)
    (hi : PySem.W.findIn K (.ref C) "__init__" = some (some (.ref f))) (hf : PySem.W.typeIn K (.ref f) = some (.type "function"))
    (h : codeAny (model prog w) (A.under (.builtin "type.__call__" ⟨.ref C :: vs, kw⟩)) (.call (.ref f) ⟨.ref (s.heap.objs.size + 1) :: vs, kw⟩) (PySem.W.InitBack (s.heap.objs.size + 1) R)
      { s with heap := (s.heap.push PySem.W.emptyDict).push (PySem.W.instObj C s.heap.objs.size) }) :
    codeAny (model prog w) A (.call (.ref C) ⟨vs, kw⟩) R s := by
  obtain ⟨hh, g, d, t, os⟩ := s
  exact PySem.W.make_core (PySem.W.makes_of X hm) (PySem.W.looks_findIn X hi) (fun self => PySem.W.bind_fn X self hf) (.inl rfl) h
end
noncomputable def putF (f : Str) (v : V) : List (Str × V) → List (Str × V)
  | [] => [(f, v)]
  | (g, x) :: r => if g = f then (g, v) :: r else (g, x) :: putF f v r
theorem lookup_putF (f g : Str) (v : V) : ∀ fs : List (Str × V), (putF f v fs).lookup g = if g = f then some v else fs.lookup g
  | [] => by
    show List.lookup g [(f, v)] = _
    by_cases h : g = f
    · have hb : (g == f) = true := beq_iff_eq.mpr h
      simp only [List.lookup, hb, if_pos h]
    · have hb : (g == f) = false := beq_eq_false_iff_ne.mpr h
      simp only [List.lookup, hb, if_neg h]
  | (k, x) :: r => by
    have ih := lookup_putF f g v r
    rw [show putF f v ((k, x) :: r) = (if k = f then (k, v) :: r else (k, x) :: putF f v r) from rfl]
    by_cases hk : k = f
    · rw [if_pos hk]
      by_cases h : g = k
      · have hb : (g == k) = true := beq_iff_eq.mpr h
        simp only [List.lookup, hb, if_pos (h.trans hk)]
      · have hb : (g == k) = false := beq_eq_false_iff_ne.mpr h
        simp only [List.lookup, hb, if_neg (fun e : g = f => h (e.trans hk.symm))]
    · rw [if_neg hk]
      by_cases h : g = k
      · have hb : (g == k) = true := beq_iff_eq.mpr h
        simp only [List.lookup, hb, if_neg (fun e : g = f => hk (h.symm.trans e))]
      · have hb : (g == k) = false := beq_eq_false_iff_ne.mpr h
        simp only [List.lookup, hb]
        exact ih
theorem keys_putF (f : Str) (v : V) : ∀ fs : List (Str × V), f ∈ (putF f v fs).map (·.1) ∧ ∀ g, g ∈ fs.map (·.1) → g ∈ (putF f v fs).map (·.1)
  | [] => ⟨by simp [putF], fun g h => by simp at h⟩
  | (k, x) :: r => by
    obtain ⟨i1, i2⟩ := keys_putF f v r
    rw [show putF f v ((k, x) :: r) = (if k = f then (k, v) :: r else (k, x) :: putF f v r) from rfl]
    by_cases hk : k = f
    · rw [if_pos hk]
      subst hk
      exact ⟨by simp, fun g h => by simpa using h⟩
    · rw [if_neg hk]
      refine ⟨?_, fun g h => ?_⟩
      · rw [List.map_cons]
        exact List.mem_cons_of_mem _ i1
      · rw [List.map_cons] at h ⊢
        rcases List.mem_cons.mp h with e | e
        · exact List.mem_cons.mpr (.inl e)
        · exact List.mem_cons_of_mem _ (i2 g e)
theorem length_putF (f : Str) (v : V) : ∀ fs : List (Str × V), (putF f v fs).length ≤ fs.length + 1
  | [] => by simp [putF]
  | (k, x) :: r => by
    have ih := length_putF f v r
    rw [show putF f v ((k, x) :: r) = (if k = f then (k, v) :: r else (k, x) :: putF f v r) from rfl]
    by_cases hk : k = f
    · rw [if_pos hk, List.length_cons, List.length_cons]; omega
    · rw [if_neg hk, List.length_cons, List.length_cons]; omega
section
variable {P : Program} {w : World} {H H' : Hp} {h h' : Heap} {a C dx : Addr} {fs fs' : List (Str × V)}
theorem ins_get (hok : HOk P w H h) (e : H a = some (.ins C dx fs)) : ∃ mA, ObjM h a dx C mA ∧ (∀ f, RelO (fs.lookup f) (mA f)) ∧ PySem.Within mA (fs.map (·.1)) ∧ fs.length ≤ 1000 ∧ H dx = some (.own a) := by
  obtain ⟨d, z, ne, ob, mA, n, r, q⟩ := (show ObjOk P w H h a (.ins C dx fs) from hok a _ e)
  exact ⟨mA, ⟨ob, n, ne⟩, r, q, z, d⟩
end
structure Cls (K : PySem.W.Frag) (C : Addr) : Prop where
  pg : PySem.W.plainGet K C Str.empty = true
  hd : PySem.W.hasDictIn K C = true
  po : PySem.W.plainOver K C = true
  sa : PySem.W.findIn K (.ref C) "__setattr__" = some (some (.builtin "object.__setattr__"))
noncomputable def NoAttr (K : PySem.W.Frag) (C : Addr) (f : Str) : Prop := PySem.W.findIn K (.ref C) f = some none
theorem NoAttr.taker {K : PySem.W.Frag} {C : Addr} {f : Str} (n : NoAttr K C f) : PySem.W.takerIn K C f = some none := by
  unfold PySem.W.takerIn
  rw [show PySem.W.findIn K (.ref C) f = some none from n]
  rfl
section
variable {X : Cx} {pins : List (Addr × Obj)} {σ : St} {H : Hp} {s : Shared} {a C dx : Addr} {fs : List (Str × V)} {f : Str} {v : V} {A : Around} {E : Value → Shared → Prop}
theorem setattr_ok {y : V} {u : Value} {Q : Unit → Shared → Prop} (I : Inv X pins σ H s) (e : H a = some (.ins C dx fs)) (c : Cls X.K C) (n : NoAttr X.K C f) (hl : fs.length < 1000) (ry : RelV y u)
    (h : ∀ s', Inv X pins σ (upd H a (.ins C dx (putF f y fs))) s' → Q () s') : wpAny (model X.prog X.w) A (setAttr (.ref a) f u) Q E s := by
  obtain ⟨mA, O, r, wi, _, ho⟩ := ins_get I.hok e
  have hz : (fs.map (·.1)).length ≤ sizeLine := by rw [List.length_map, sizeLine_eq]; omega
  refine set_map I.kIn O c.sa c.po n.taker c.hd wi hz fun h' O' sb => h _ ?_
  have hd : ∃ o, h'.get? dx = some o := let ⟨o, _, _, e', _⟩ := O'.ns; ⟨o, e'⟩
  refine I.write (x := a) (e := dx) (by rw [e]; exact True.intro) (.inr ho) (fun b q hb z => (sb.2 b hb).trans z) hd ?_
  refine ⟨by rw [upd_ne O.ne]; exact ho, ?_, O.ne, O'.obj, _, O'.ns, fun g => ?_, fun g hg => ?_⟩
  · have := length_putF f y fs; omega
  · show RelO ((putF f y fs).lookup g) (if g = f then some u else mA g)
    rw [lookup_putF]
    by_cases q : g = f
    · rw [if_pos q, if_pos q]; exact ry
    · rw [if_neg q, if_neg q]; exact r g
  · by_cases q : g = f
    · rw [q]; exact (keys_putF f y fs).1
    · refine (keys_putF f y fs).2 g (wi g fun z => hg ?_)
      show (if g = f then some u else mA g) = none
      rw [if_neg q]; exact z
theorem Inv.made (I : Inv X pins σ H s) : Inv X pins σ (upd (upd H s.heap.objs.size (.own (s.heap.objs.size + 1))) (s.heap.objs.size + 1) (.ins C s.heap.objs.size []))
    { s with heap := (s.heap.push PySem.W.emptyDict).push (PySem.W.instObj C s.heap.objs.size) } := by
  have e1 : (s.heap.push PySem.W.emptyDict).get? s.heap.objs.size = some PySem.W.emptyDict := Heap.get?_push_size s.heap rfl
  have e2 : ((s.heap.push PySem.W.emptyDict).push (PySem.W.instObj C s.heap.objs.size)).get? (s.heap.objs.size + 1) = some (PySem.W.instObj C s.heap.objs.size) := by
    have := Heap.get?_push_size (s.heap.push PySem.W.emptyDict) (o := PySem.W.instObj C s.heap.objs.size) rfl
    rwa [Heap.size_push] at this
  have e3 : (s.heap.push PySem.W.emptyDict).Ns s.heap.objs.size (fun _ => none) := ⟨PySem.W.emptyDict, #[], _, e1, rfl, (fun e he => absurd he (by simp)), fun _ => rfl⟩
  have I1 := I.laid (a := s.heap.objs.size) (o := .own (s.heap.objs.size + 1)) (h' := s.heap.push PySem.W.emptyDict) (t' := s.toks) (fun b u q => Heap.get?_push_of_some _ q) (Nat.le_refl _) ⟨_, e1⟩
  refine I1.laid (a := s.heap.objs.size + 1) (o := .ins C s.heap.objs.size []) (t' := s.toks) (fun b u q => Heap.get?_push_of_some _ q) (Nat.le_of_eq (Heap.size_push _ _)) ?_
  have ne : s.heap.objs.size ≠ s.heap.objs.size + 1 := Nat.ne_of_lt (Nat.lt_succ_self _)
  refine ⟨by rw [upd_ne ne, upd_same], Nat.zero_le _, ne, e2, fun _ => none, (Heap.Ns1.of_empty e3).at fun o q => Heap.get?_push_of_some _ q, fun _ => True.intro, fun y hy => absurd rfl hy⟩
end
noncomputable def sFld (K : PySem.W.Frag) (ta tv : TE) (f : Str) : TS := fun D σ H => tv σ H fun y H1 => ta σ H1 fun x H2 => ∃ a C dx fs, x = .ref a ∧ H2 a = some (.ins C dx fs) ∧ Cls K C ∧ NoAttr K C f ∧ fs.length < 1000 ∧
  D.nx σ (upd H2 a (.ins C dx (putF f y fs)))
section
variable {X : Cx} {o e value : Expr} {f : Str} {pos pos' tpos : Pos} {ta tv : TE}
theorem ps_fld (ha : PE X o ta) (hv : PE X value tv) (hs : swapsWith value (some (.Attribute o f pos')) pos.line X.env = pure false) : PS X (.Assign [.Attribute o f pos'] value pos) (sFld X.K ta tv f) := by
  intro pins s σ H D I h
  refine plainObj_wpAny_Assign_Attribute (thn (hv pins s σ H _ I h) fun u s1 h1_ => ?_) hs
  obtain ⟨y, H1, I1, ry, q⟩ := h1_
  refine thn (ha pins s1 σ H1 _ I1 q) fun ov s2 h_ => ?_
  obtain ⟨x, H2, I2, rx, a, C, dx, fs, ex, ea, c, n, l, q2⟩ := h_
  subst ex
  obtain rfl : ov = Value.ref a := rx
  exact setattr_ok I2 ea c n l ry fun s3 I3 => ⟨σ, _, I3, q2⟩
end
section
variable {X : Cx} {pins : List (Addr × Obj)} {σ : St} {H : Hp} {s : Shared} {A : Around} {E : Value → Shared → Prop} {Q : Value → Shared → Prop} {c : Value} {b : Bool}
inductive TyOf (K : PySem.W.Frag) (H : Hp) : V → Value → Prop where
  | non : TyOf K H .non (.type "NoneType")
  | bl (x : Bool) : TyOf K H (.bl x) (.type "bool")
  | int (i : Int) : TyOf K H (.int i) (.type "int")
  | str (x : Str) : TyOf K H (.str x) (.type "str")
  | flt (x : UInt64) : TyOf K H (.flt x) (.type "float")
  | lst {a : Addr} {xs : List V} (e : H a = some (.lst xs)) : TyOf K H (.ref a) (.type "list")
  | frz {a : Addr} {o : Obj} {xs : List V} (e : H a = some (.frz o (.lst xs))) : TyOf K H (.ref a) (.type "list")
  | tup {a : Addr} {xs : List V} (e : H a = some (.tup xs)) : TyOf K H (.ref a) (.type "tuple")
  | dK {a : Addr} {kvs : List (Key × V)} (e : H a = some (.dK kvs)) : TyOf K H (.ref a) (.type "dict")
  | dT {a : Addr} {kvs : List (List Key × V)} (e : H a = some (.dT kvs)) : TyOf K H (.ref a) (.type "dict")
  | ins {a C dx : Addr} {fs : List (Str × V)} (e : H a = some (.ins C dx fs)) (cl : Cls K C) (ha : PySem.W.findIn K (.ref C) "__class__" = some (some (.builtin "object.__class__")))
      (hn : PySem.W.specialIn K (.builtin "object.__class__") "__get__" = some (some (.builtin "getset_descriptor.__get__"))) (htk : PySem.W.takesIn K (.builtin "object.__class__") = some true)
      (hm : PySem.W.mroIn K C (.type "object") = some true) : TyOf K H (.ref a) (.ref C)
end
end L2
namespace L2
open PySem PySem.Spec PyProof.Rows
structure Room (k : Nat) (A : Around) : Prop where
  hd : A.handled = none
  dp : A.depth + 3 * k + 5 < recursionLimit
  un : A.units + 16 * k + 200 < cLine
theorem Room.mono {j k : Nat} {A : Around} (r : Room k A) (h : j ≤ k) : Room j A := ⟨r.hd, by have := r.dp; omega, by have := r.un; omega⟩
theorem Room.deeper {k : Nat} {A : Around} (r : Room (k + 1) A) (env : Env) : Room k (A.deeper env) :=
  ⟨r.hd, by have := r.dp; show A.depth + 1 + 3 * k + 5 < _; omega, by have := r.un; show A.units + 3 + 16 * k + 200 < _; omega⟩
theorem make_depth {A : Around} {C : Addr} {us : List Value} {kw : List (Str × Value)} : (A.under (.builtin "type.__call__" ⟨.ref C :: us, kw⟩)).depth = A.depth + 1 := by
  first | rfl | simp [Around.under, Code.weight, Code.isCreation, Code.isGuard, Code.isCaller, Code.frames, Code.isFrame, guardIds]
theorem make_units {A : Around} {C : Addr} {us : List Value} {kw : List (Str × Value)} : (A.under (.builtin "type.__call__" ⟨.ref C :: us, kw⟩)).units = A.units + 1 := by
  first | rfl | simp [Around.under, Code.cUnits, Code.frames, Code.isFrame]
theorem Room.make {k : Nat} {A : Around} (r : Room (k + 1) A) (C : Addr) (us : List Value) (kw : List (Str × Value)) : Room k (A.under (.builtin "type.__call__" ⟨.ref C :: us, kw⟩)) :=
  ⟨r.hd, by have := r.dp; rw [make_depth]; omega, by have := r.un; rw [make_units]; omega⟩
theorem Room.depth {k : Nat} {A : Around} (r : Room k A) : A.depth < recursionLimit := by have := r.dp; omega
theorem Room.units {k : Nat} {A : Around} (r : Room k A) : A.units + 64 < cLine := by have := r.un; omega
noncomputable def tNil : TA := fun _ H Q => Q [] H
noncomputable def tCons (ta : TE) (tr : TA) : TA := fun σ H Q => ta σ H fun x H1 => tr σ H1 fun xs H2 => Q (x :: xs) H2
section
variable {X : Cx} {e : Expr} {es : List Expr} {te : TE} {t : TA} {pos : Pos}
theorem pa_nil : PA X [] tNil := fun _ _ _ _ H Q I h => Calls.spliced_nil ⟨[], H, I, .nil, h⟩
theorem pa_cons (ha : PE X e te) (hr : PA X es t) (hs : starEach (e :: es) X.env = (false, eval e X.env) :: starEach es X.env := by rfl) : PA X (e :: es) (tCons te t) := by
  intro pos pins s σ H Q I h
  rw [hs]
  show wpAny _ _ (spliced ((false, eval e X.env) :: backTo pos (starEach es X.env))) _ _ s
  refine Calls.spliced_cons (thn (ha pins s σ H _ I h) fun u s1 h_ => ?_)
  obtain ⟨x, H1, I1, r1, q1⟩ := h_
  exact thn (hr pos pins s1 σ H1 _ I1 q1) fun us s2 ⟨xs, H2, I2, r2, q2⟩ => ⟨x :: xs, H2, I2, .cons r1 r2, q2⟩
noncomputable def tTup (t : TA) : TE := fun σ H Q => t σ H fun xs H1 => xs.length ≤ sizeLine ∧ ∀ p, H1 p = none → Q (.ref p) (upd H1 p (.tup xs))
noncomputable def tLst (t : TA) : TE := fun σ H Q => t σ H fun xs H1 => xs.length ≤ sizeLine ∧ ∀ p, H1 p = none → Q (.ref p) (upd H1 p (.lst xs))
theorem pe_tup {x1} (h : PA X es t) : PE X (.Tuple es x1 pos) (tTup t) := by
  intro pins s σ H Q I hq
  refine wpAny_Tuple_spliced (thn (h pos pins s σ H _ I hq) fun us s1 ⟨xs, H1, I1, r, z, q⟩ => ⟨by rw [← r.length]; exact z, ?_⟩)
  have hf : H1 s1.heap.objs.size = none := I1.hok.fresh (Nat.le_refl _)
  refine ⟨.ref s1.heap.objs.size, upd H1 s1.heap.objs.size (.tup xs), I1.laid (t' := s1.toks) (fun b u e => Heap.get?_push_of_some _ e) (Nat.le_refl _) ?_, rfl, q _ hf⟩
  exact ⟨z, us, r, ⟨_, Heap.get?_push_size _ rfl, rfl, _, rfl⟩⟩
theorem pe_lst (h : PA X es t) : PE X (.List es pos) (tLst t) := by
  intro pins s σ H Q I hq
  refine wpAny_List_spliced (thn (h pos pins s σ H _ I hq) fun us s1 ⟨xs, H1, I1, r, z, q⟩ => ⟨by rw [← r.length]; exact z, ?_⟩)
  have hf : H1 s1.heap.objs.size = none := I1.hok.fresh (Nat.le_refl _)
  refine ⟨.ref s1.heap.objs.size, upd H1 s1.heap.objs.size (.lst xs), I1.laid (t' := s1.toks) (fun b u e => Heap.get?_push_of_some _ e) (Nat.le_refl _) ?_, rfl, q _ hf⟩
  exact ⟨z, us, 0, r, Heap.get?_push_size _ rfl⟩
end
noncomputable abbrev Sp := List V → Hp → VK → XK → Prop
noncomputable abbrev CXT := List Env → Hp → Shared → XK → Value → Shared → Prop
structure Env0 (P : Program) (w : World) (K : PySem.W.Frag) (mg : Str → Option Value) (base : Heap) (A : Around) (outer : List Env) (s : Shared) (H : Hp) : Prop where
  frames : A.frames = some outer
  mod : Mod K mg base
  bs : ∀ b o, base.get? b = some o → s.heap.get? b = some o ∧ H b = none
  bsz : base.objs.size ≤ s.heap.objs.size
  funs : s.heap.FunFrames base outer
  frf : ∀ b ∈ frs outer, H b = none
  hok : HOk P w H s.heap
  bare : AllBare s.gens
noncomputable def CE (outer : List Env) (P : Program) (w : World) (H : Hp) (s : Shared) (Q : VK) (u : Value) (s' : Shared) : Prop :=
  ∃ v H', s'.os = s.os ∧ AllBare s'.gens ∧ Un (frs outer) [] H H' s.heap s'.heap ∧ HOk P w H' s'.heap ∧ RelV v u ∧ Q v H'
noncomputable def CR (CX : CXT) (outer : List Env) (P : Program) (w : World) (H : Hp) (s : Shared) (Q : VK) (E : XK) (r : Result) (s' : Shared) : Prop :=
  match r with
  | .ok (.ret u) => CE outer P w H s Q u s'
  | .ok _ => False
  | .error e => CX outer H s E e s'
structure FnOk (P : Program) (w : World) (K : PySem.W.Frag) (mg : Str → Option Value) (base : Heap) (CX : CXT) (k : Nat) (f : Addr) (fd : FuncData) (ps : List Str) (sp : Sp) : Prop where
  len : ∀ vs H Q E, sp vs H Q E → vs.length = ps.length
  run : ∀ (A : Around) (outer : List Env) (s : Shared) (H : Hp) (args : Args) (us : List Value) (vs : List V) (Q : VK) (E : XK), Room k A → Env0 P w K mg base A outer s H → BindsTo s fd args (ps.zip us) → Vals vs us → sp vs H Q E →
    codeAny (model P w) A (.call (.ref f) args) (CR CX outer P w H s Q E) s
theorem Env0.make {P : Program} {w : World} {K : PySem.W.Frag} {mg : Str → Option Value} {base : Heap} {A : Around} {outer : List Env} {s : Shared} {H : Hp} (e : Env0 P w K mg base A outer s H) (C : Addr) (us : List Value) (kw : List (Str × Value)) :
    Env0 P w K mg base (A.under (.builtin "type.__call__" ⟨.ref C :: us, kw⟩)) outer s H := ⟨by first | exact e.frames | (simpa [Around.under, Code.envs, Code.isFrame, pushEnvs] using e.frames), e.mod, e.bs, e.bsz, e.funs, e.frf, e.hok, e.bare⟩
section
variable {X : Cx} {pins : List (Addr × Obj)} {σ : St} {H : Hp} {s s' : Shared}
theorem Inv.env0 (I : Inv X pins σ H s) : Env0 X.prog X.w X.K X.mg X.base X.A X.stack s H :=
  ⟨I.ok.frames, I.ok.mod, I.bs, Nat.le_trans I.ok.bsz I.sz, I.stack, I.stkFree, I.hok, I.bare⟩
theorem Inv.after {Q : VK} {u : Value} (I : Inv X pins σ H s) (h : CE X.stack X.prog X.w H s Q u s') : EP X pins σ Q u s' := by
  obtain ⟨v, H', os, bare, un, hok, r, q⟩ := h
  obtain ⟨hh, g, d, t, os'⟩ := s'
  obtain rfl : os' = s.os := os
  exact ⟨v, H', I.call (h' := hh) (g' := g) (d' := d) (t' := t) (ch := []) un hok bare (fun b z => absurd z (by simp)), r, q⟩
end
noncomputable def tCall (sp : Sp) (dvs : List V) (E : St → XK) (t : TA) : TE := fun σ H Q => t σ H fun vs H1 => sp (vs ++ dvs) H1 Q (E σ)
noncomputable def Binds (K : PySem.W.Frag) (fd : FuncData) (ps : List Str) (ds : List Value) : Prop :=
  ∀ (s : Shared) (us : List Value), K.In s.heap → (us ++ ds).length = ps.length → BindsTo s fd ⟨us, []⟩ (ps.zip (us ++ ds))
theorem Binds.all {K : PySem.W.Frag} {fd : FuncData} {ps : List Str} (h : ∀ us : List Value, us.length = ps.length → bindArgs fd ⟨us, []⟩ = pure (ps.zip us)) : Binds K fd ps [] := fun s us _ hl => by
  rw [List.append_nil] at hl ⊢
  exact .of_eq (h us hl)
noncomputable def Passes (CX : CXT) (X : Cx) (E : St → XK) : Prop := ∀ (pins : List (Addr × Obj)) (σ : St) (H : Hp) (s : Shared) (e : Value) (s' : Shared), Inv X pins σ H s → CX X.stack H s (E σ) e s' → X.xe e s'
section
variable {X : Cx} {CX : CXT} {k : Nat} {f C : Addr} {fd : FuncData} {ps : List Str} {sp : Sp} {dvs : List V} {ds : List Value} {E : St → XK} {x m : Str} {p pos apos : Pos} {e o : Expr} {es : List Expr} {ta : TE} {t : TA}
theorem run_fn {pins : List (Addr × Obj)} {σ : St} {H : Hp} {s : Shared} {Q : VK} {us : List Value} {vs : List V} (F : FnOk X.prog X.w X.K X.mg X.base CX k f fd ps sp) (hr : Room k X.A) (hb : Binds X.K fd ps ds) (hd : Vals dvs ds) (hx : Passes CX X E)
    (I : Inv X pins σ H s) (r : Vals vs us) (h : sp (vs ++ dvs) H Q (E σ)) : wpAny (model X.prog X.w) X.A (call (.ref f) us) (EP X pins σ Q) X.xe s := by
  have r2 : Vals (vs ++ dvs) (us ++ ds) := r.append hd
  have hl : (us ++ ds).length = ps.length := by rw [← r2.length]; exact F.len _ _ _ _ h
  refine wpAny_call (codeAny_mono (F.run X.A X.stack s H ⟨us, []⟩ (us ++ ds) (vs ++ dvs) Q (E σ) hr I.env0 (hb s us I.kIn hl) r2 h) fun r s' hq => ?_)
  cases r with
  | error e => exact hx pins σ H s e s' I hq
  | ok fl =>
    cases fl with
    | ret u => exact I.after hq
    | next => exact False.elim hq
    | brk => exact False.elim hq
    | cont => exact False.elim hq
theorem pe_call (F : FnOk X.prog X.w X.K X.mg X.base CX k f fd ps sp) (hr : Room k X.A) (hg : Gl X x) (hm : X.mg x = some (.ref f)) (hk : PySem.W.keepIn X.K (.ref f) = true) (hb : Binds X.K fd ps ds) (hd : Vals dvs ds) (hx : Passes CX X E)
    (ha : PA X (e :: es) t) (hdb : (x == ("__debug__" : Str)) = false := by decide) (he : starEach (e :: es) X.env = (false, eval e X.env) :: starEach es X.env := by rfl) (hpl : (backTo pos (starEach es X.env)).any (·.1) = false := by rfl) :
    PE X (.Call (.Name x p) (e :: es) [] pos) (tCall sp dvs E t) := by
  intro pins s σ H Q I h
  refine wpAny_Call_Name_kw (ld_glob I hg hm ?_ hdb)
  refine PySem.W.callWith_K (h₀ := X.base) I.ok.mod.kin hk (thn (ha pos pins s σ H _ I h) fun us s1 ⟨vs, H1, I1, r, q⟩ => ⟨I1.kIn, ?_⟩) he hpl
  exact run_fn F hr hb hd hx I1 r q
structure Mk (K : PySem.W.Frag) (C f : Addr) : Prop where
  makes : PySem.W.makesIn K C = true
  init : PySem.W.findIn K (.ref C) "__init__" = some (some (.ref f))
  fn : PySem.W.isFn K (.ref f) = true
  kp : PySem.W.keepIn K (.ref C) = true
end
noncomputable def PK (X : Cx) (kws : List Keyword) (t : TA) : Prop :=
  ∀ (pos : Pos) (pins : List (Addr × Obj)) (s : Shared) (σ : St) (H : Hp) (Q : List V → Hp → Prop), Inv X pins σ H s → t σ H Q → wpAny (model X.prog X.w) X.A (evalAll ((backToKw pos (keywordEach kws X.env)).map (·.2))) (AP X pins σ Q) X.xe s
section
variable {X : Cx} {CX : CXT} {k : Nat} {f C : Addr} {fd : FuncData} {ps ks : List Str} {sp : Sp} {E : St → XK} {x m : Str} {p pos apos kpos : Pos} {e o : Expr} {es : List Expr} {kws : List Keyword} {te ta : TE} {t tk : TA} {nm : Option Str}
theorem pk_nil : PK X [] tNil := fun _ _ _ _ H Q I h => wpAny_evalAll_nil ⟨[], H, I, .nil, h⟩
theorem pk_cons (ha : PE X e te) (hr : PK X kws t) : PK X (⟨nm, e, kpos⟩ :: kws) (tCons te t) := by
  intro pos pins s σ H Q I h
  show wpAny _ _ (evalAll ((do let v ← eval e X.env; standAt pos; pure v) :: (backToKw pos (keywordEach kws X.env)).map (·.2))) _ _ s
  refine wpAny_evalAll_cons (wpAny_bind (thn (ha pins s σ H _ I h) fun u s1 ⟨x, H1, I1, r1, q1⟩ => wpAny_bind (wpAny_standAt (wpAny_pure ?_))))
  exact thn (hr pos pins s1 σ H1 _ I1 q1) fun us s2 ⟨xs, H2, I2, r2, q2⟩ => ⟨x :: xs, H2, I2, .cons r1 r2, q2⟩
structure KBinds (K : PySem.W.Frag) (fd : FuncData) (ps ks : List Str) (g : List Value → List Value → List Value) (gV : List V → List V → List V) : Prop where
  to : ∀ (s : Shared) (us ws : List Value), K.In s.heap → (g us ws).length = ps.length → BindsTo s fd ⟨us, ks.zip ws⟩ (ps.zip (g us ws))
  rel : ∀ {vs : List V} {us : List Value} {zs : List V} {ws : List Value}, Vals vs us → Vals zs ws → Vals (gV vs zs) (g us ws)
variable {g : List Value → List Value → List Value} {gV : List V → List V → List V}
end
structure FnScope (N P : List Str) (sc : Scope) : Prop where
  kind : sc.kind = .function
  co : sc.isCoroutine = false
  gen : sc.isGenerator = false
  nd : N.Nodup
  pre : N.take P.length = P
  par : ∀ x ∈ P, sc.names.lookup x = some .local ∨ sc.names.lookup x = some .cell
  nofree : ∀ y ∈ sc.names, y.2 ≠ .free
theorem bindL_out {kindOf : Str → Option NameKind} {x : Str} : ∀ {binds : List (Str × Value)} {m : Str → Option Value}, (∀ v, (x, v) ∉ binds) → bindL kindOf binds m x = m x
  | [], _, _ => rfl
  | (n, v) :: r, m, h => by
    unfold bindL
    rw [bindL_out fun w hw => h w (List.mem_cons_of_mem _ hw)]
    split
    · have : x ≠ n := by rintro rfl; exact h v List.mem_cons_self
      simp [this]
    · rfl
theorem bindC_out {kindOf : Str → Option NameKind} {x : Str} : ∀ {binds : List (Str × Value)} {m : Str → Option Value}, (∀ v, (x, v) ∉ binds) → bindC kindOf binds m x = m x
  | [], _, _ => rfl
  | (n, v) :: r, m, h => by
    unfold bindC
    rw [bindC_out fun w hw => h w (List.mem_cons_of_mem _ hw)]
    split
    · rfl
    · have : x ≠ n := by rintro rfl; exact h v List.mem_cons_self
      simp [this]
theorem bindL_get {kindOf : Str → Option NameKind} {x : Str} {v : Value} : ∀ {P : List Str} {vs : List Value} {i : Nat} {m : Str → Option Value}, P.Nodup → P[i]? = some x → vs[i]? = some v → kindOf x = some .local →
    bindL kindOf (P.zip vs) m x = some v
  | [], _, _, _, _, h, _, _ => by simp at h
  | _ :: _, [], _, _, _, _, h, _ => by simp at h
  | p :: P, w :: vs, 0, m, nd, h1, h2, hk => by
    simp at h1 h2; subst h1; subst h2
    show bindL kindOf ((p, w) :: P.zip vs) m p = _
    unfold bindL
    rw [bindL_out fun v hv => (List.nodup_cons.mp nd).1 (List.of_mem_zip hv).1, if_pos hk]
    simp
  | p :: P, w :: vs, i + 1, m, nd, h1, h2, hk => by
    show bindL kindOf ((p, w) :: P.zip vs) m x = _
    unfold bindL
    exact bindL_get (i := i) (List.nodup_cons.mp nd).2 (by simpa using h1) (by simpa using h2) hk
theorem bindC_get {kindOf : Str → Option NameKind} {x : Str} {v : Value} : ∀ {P : List Str} {vs : List Value} {i : Nat} {m : Str → Option Value}, P.Nodup → P[i]? = some x → vs[i]? = some v → kindOf x ≠ some .local →
    bindC kindOf (P.zip vs) m x = some v
  | [], _, _, _, _, h, _, _ => by simp at h
  | _ :: _, [], _, _, _, _, h, _ => by simp at h
  | p :: P, w :: vs, 0, m, nd, h1, h2, hk => by
    simp at h1 h2; subst h1; subst h2
    show bindC kindOf ((p, w) :: P.zip vs) m p = _
    unfold bindC
    rw [bindC_out fun v hv => (List.nodup_cons.mp nd).1 (List.of_mem_zip hv).1, if_neg hk]
    simp
  | p :: P, w :: vs, i + 1, m, nd, h1, h2, hk => by
    show bindC kindOf ((p, w) :: P.zip vs) m x = _
    unfold bindC
    exact bindC_get (i := i) (List.nodup_cons.mp nd).2 (by simpa using h1) (by simpa using h2) hk
noncomputable def start (N : List Str) (vs : List V) : St := vs.map some ++ List.replicate (N.length - vs.length) none
noncomputable def cxOf (CX : CXT) (P : Program) (w : World) (K : PySem.W.Frag) (mg : Str → Option Value) (base : Heap) (N : List Str) (qual : Str) (scope : Scope) (f : Addr) (cd : Value) (A : Around) (outer : List Env) (s : Shared) (H : Hp) (E : XK) : Cx where
  prog := P
  w := w
  K := K
  mg := mg
  base := base
  A := A.deeper (envOfC qual scope s.heap.objs.size f cd)
  N := N
  s₀ := s
  H₀ := H
  env := envOfC qual scope s.heap.objs.size f cd
  outer := outer
  stack := envOfC qual scope s.heap.objs.size f cd :: outer
  ex := []
  calm := true
  fn := fun _ => true
  pn := []
  xe := fun e s' => wpAny (model P w) (A.deeper (envOfC qual scope s.heap.objs.size f cd)) (leaving (envOfC qual scope s.heap.objs.size f cd) e) (fun _ s'' => CX outer H s E e s'') (fun e' s'' => CX outer H s E e' s'') s'
theorem cell_has {sc : Scope} {n : Nat} {x : Str} (h : sc.names.lookup x = some .cell) : ∃ c, (cellsFrom n sc.names []).lookup x = some c := by
  have q := PySem.W.cellsFrom_some sc.names n [] (.inl h)
  exact Option.isSome_iff_exists.mp q
theorem inv_start {CX : CXT} {P : Program} {w : World} {K : PySem.W.Frag} {mg : Str → Option Value} {base : Heap} {N ps : List Str} {qual : Str} {scope : Scope} {f : Addr} {cd : Value} {A : Around} {outer : List Env} {s s1 : Shared} {H : Hp} {E : XK} {us : List Value} {vs : List V}
    (S : FnScope N ps scope) (hd : A.handled = none) (e0 : Env0 P w K mg base A outer s H) (hl : vs.length = ps.length) (r : Vals vs us)
    (x : InCallC s s.heap.objs.size (bindL (envOfC qual scope s.heap.objs.size f cd).kindOf (ps.zip us) fun _ => none) (cellsFrom (s.heap.objs.size + 1) scope.names []) (bindC (envOfC qual scope s.heap.objs.size f cd).kindOf (ps.zip us) fun _ => none) s1) :
    Inv (cxOf CX P w K mg base N qual scope f cd A outer s H E) [] (start N vs) H s1 := by
  have hpl : ps.length ≤ N.length := by have := congrArg List.length S.pre; rw [List.length_take] at this; omega
  obtain ⟨h1, tk, rfl, hk⟩ := x.done
  have noA : ∀ b : Addr, b ∉ (cxOf CX P w K mg base N qual scope f cd A outer s H E).ex := fun b z => absurd (show b ∈ ([] : List Addr) from z) (by simp)
  refine ⟨⟨e0.mod, S.kind, rfl, rfl, Nat.le_refl _, fun y z c h1 h2 => ?_, fun y hy => ?_, fun y c _ h => ?_, fun _ => hd, Around.frames_deeper e0.frames, .inr ⟨rfl, rfl⟩, fun b z => absurd z (noA b), e0.bs, e0.bsz, fun b _ _ => noA b, fun b z => absurd z (noA b), e0.funs, e0.frf⟩,
    rfl, e0.bare, Un.kept hk, ⟨_, x.toInCall.ns, fun i y v h1 h2 h3 => ?_⟩, fun y c h => ⟨_, x.cell y c h⟩, e0.hok.fresh (Nat.le_refl _), fun y c h => ?_, fun p hp => absurd (show p ∈ ([] : List (Addr × Obj)) from hp) (by simp), e0.hok.kept hk, ?_⟩
  · exact name_of_addr x.apart (PySem.mem_of_lookup h1) (PySem.mem_of_lookup h2)
  · have hy : scope.names.lookup y = some .cell ∨ scope.names.lookup y = some .free := hy
    rcases hy with hy | hy
    · exact cell_has hy
    · exact absurd rfl (S.nofree _ (PySem.mem_of_lookup hy))
  · exact Nat.le_of_lt (x.above y c (PySem.mem_of_lookup h))
  · have hi : i < vs.length := by
      unfold start at h2
      by_cases hi : i < vs.length
      · exact hi
      · rw [List.getElem?_append_right (by simpa using hi)] at h2
        rw [List.getElem?_replicate] at h2
        split at h2 <;> cases h2
    have ha : vs[i]? = some v := by
      unfold start at h2
      rw [List.getElem?_append_left (by simpa using hi), List.getElem?_map] at h2
      cases e : vs[i]? with
      | none => rw [e] at h2; cases h2
      | some a => rw [e] at h2; cases h2; rfl
    obtain ⟨u, hu, rv⟩ := r.get ha
    have hp : ps[i]? = some y := by
      rw [← S.pre, List.getElem?_take_of_lt (by omega)]; exact h1
    have ndP : ps.Nodup := by rw [← S.pre]; exact S.nd.sublist (List.take_sublist _ _)
    refine ⟨u, rv, ?_⟩
    rcases S.par y (List.mem_of_getElem? hp) with k | k
    · exact .inl ⟨k, bindL_get ndP hp hu k⟩
    · obtain ⟨c, e⟩ := cell_has (n := s.heap.objs.size + 1) k
      refine .inr ⟨.inl k, c, e, ?_⟩
      have q := x.cell y c e
      rw [bindC_get ndP hp hu (by show scope.names.lookup y ≠ _; rw [k]; decide)] at q
      exact q
  · exact e0.hok.fresh (Nat.le_of_lt (x.above y c (PySem.mem_of_lookup h)))
  · unfold start
    show _ = N.length
    rw [List.length_append, List.length_map, List.length_replicate]
    omega
theorem fn_of {CX : CXT} {P : Program} {w : World} {K : PySem.W.Frag} {mg : Str → Option Value} {base : Heap} {k : Nat} {f : Addr} {name qual : Str} {params : Arguments} {body : List Stmt} {scope : Scope} {dV kV doc pm cdv ct oc : Value} {an od : Option Addr}
    {osl : Array (Option Value)} {N ps : List Str} {sp : Sp} (lk : K.lookup f = some ⟨oc, od, .func (PySem.W.fnOf name qual params body scope dV kV doc pm an cdv ct), osl⟩) (hcd : PySem.W.codeIn K cdv qual = true) (S : FnScope N ps scope)
    (len : ∀ vs H Q E, sp vs H Q E → vs.length = ps.length)
    (hbody : ∀ (A : Around) (outer : List Env) (s : Shared) (H : Hp) (vs : List V) (Q : VK) (E : XK), Room k (A.deeper (envOfC qual scope s.heap.objs.size f cdv)) → sp vs H Q E →
      ∃ t, PSs (cxOf CX P w K mg base N qual scope f cdv A outer s H E) body t ∧ t { nx := fun _ H' => Q .non H', rt := Q } (start N vs) H) :
    FnOk P w K mg base CX (k + 1) f (PySem.W.fnOf name qual params body scope dV kV doc pm an cdv ct) ps sp := by
  refine ⟨len, fun A outer s H args us vs Q E hr e0 hb r hsp => ?_⟩
  have hl := len _ _ _ _ hsp
  have KX : K.In s.heap := e0.mod.kin.keeps fun b o e => (e0.bs b o e).1
  have lim : s.heap.NoLimit := e0.mod.nolimit.keeps fun b o e => (e0.bs b o e).1
  have hkind : ∀ y ∈ ps.zip us, scope.names.lookup y.1 = some .local ∨ (scope.names.lookup y.1 = some .cell ∧ ((cellsFrom (s.heap.objs.size + 1) scope.names []).lookup y.1).isSome = true) := fun ⟨n, v⟩ hy => by
    rcases S.par n (List.of_mem_zip hy).1 with q | q
    · exact .inl q
    · exact .inr ⟨q, PySem.W.cellsFrom_some _ _ _ (.inl q)⟩
  refine codeAny_call_function hr.depth (KX _ _ lk) rfl S.co S.gen rfl (PySem.W.codeRec_of KX hcd) (hb _ _ _ _ ?_)
  refine wpAny_newFunctionEnv_cells S.kind hkind fun env he s1 x => ?_
  subst he
  refine ⟨lim.keeps x.toInCall.keep, codeAny_func ?_⟩
  obtain ⟨t, ht, hq⟩ := hbody A outer s H vs Q E (hr.deeper _) hsp
  have I : Inv (cxOf CX P w K mg base N qual scope f cdv A outer s H E) [] (start N vs) H s1 := inv_start S hr.hd e0 hl r x
  refine wpAny_mono (ht [] s1 (start N vs) H _ I hq) (fun fl s' hs => ?_) fun e s' hs => hs
  have fin : ∀ {σ' : St} {H' : Hp} {v : V} {u : Value}, Inv (cxOf CX P w K mg base N qual scope f cdv A outer s H E) [] σ' H' s' → RelV v u → Q v H' → CE outer P w H s Q u s' :=
    fun {σ' H' v u} J rv q => ⟨v, H', J.os, J.bare, J.base, J.hok, rv, q⟩
  cases fl with
  | ret u =>
    obtain ⟨v, σ', H', J, rv, q⟩ := hs
    exact fin J rv q
  | next =>
    obtain ⟨σ', H', J, q⟩ := hs
    exact fin (v := V.non) (u := Value.none) J rfl q
  | brk =>
    obtain ⟨_, _, _, q⟩ := hs
    exact False.elim q
  | cont =>
    obtain ⟨_, _, _, q⟩ := hs
    exact False.elim q
end L2
namespace L2
open PySem PySem.Spec PyProof.Rows
section
variable {X : Cx} {x : Str} {p pos : Pos} {e : Expr} {es : List Expr} {t : TA} {id T : String} {r : List V → Hp → VK → Prop}
noncomputable def tCB (r : List V → Hp → VK → Prop) (t : TA) : TE := fun σ H Q => t σ H fun vs H1 => r vs H1 Q
theorem pe_callB (hc : CallR X (.builtin id) r) (hg : Gl X x) (hm : X.mg x = none) (hv : bootBuiltins x = some (.builtin id)) (ha : PA X (e :: es) t) (hn : x ≠ "__name__" := by decide) (hdb : (x == ("__debug__" : Str)) = false := by decide)
    (he : starEach (e :: es) X.env = (false, eval e X.env) :: starEach es X.env := by rfl) (hpl : (backTo pos (starEach es X.env)).any (·.1) = false := by rfl) : PE X (.Call (.Name x p) (e :: es) [] pos) (tCB r t) := by
  intro pins s σ H Q I h
  refine wpAny_Call_Name_kw (ld_blt I hg hm hv ?_ hn hdb)
  exact PyProof.Rows.callWith_builtin1 (thn (ha pos pins s σ H _ I h) fun us s1 ⟨vs, H1, I1, r1, q1⟩ => hc pins s1 σ H1 vs us Q I1 r1 q1) he hpl
theorem pe_callTy (hc : CallR X (.type T) r) (hg : Gl X x) (hm : X.mg x = none) (hv : bootBuiltins x = some (.type T)) (ha : PA X (e :: es) t) (hn : x ≠ "__name__" := by decide) (hdb : (x == ("__debug__" : Str)) = false := by decide)
    (he : starEach (e :: es) X.env = (false, eval e X.env) :: starEach es X.env := by rfl) (hpl : (backTo pos (starEach es X.env)).any (·.1) = false := by rfl) : PE X (.Call (.Name x p) (e :: es) [] pos) (tCB r t) := by
  intro pins s σ H Q I h
  refine wpAny_Call_Name_kw (ld_blt I hg hm hv ?_ hn hdb)
  exact PyProof.Rows.callWith_type1 (thn (ha pos pins s σ H _ I h) fun us s1 ⟨vs, H1, I1, r1, q1⟩ => hc pins s1 σ H1 vs us Q I1 r1 q1) he hpl
end
end L2
namespace HT
open PySem PyProof.Rows
section
open PySem.SeqAt
open PySem.AutoSeq1 (wpAny_loadPart')
open PySem.MeetsSeq PySem.MeetsSeq2 PySem.MeetsSeq3
end
section
variable {prog : Program} {w : World} {A : Around} {E : Value → Shared → Prop} {s : Shared}
theorem cat_tup {t b : Addr} {vs ws : List Value} {Q : Value → Shared → Prop} (ht : IsTup s.heap t vs.toArray) (hb : IsTup s.heap b ws.toArray) (hv : vs ≠ [])
    (h1 : ws = [] → Q (.ref t) s) (h2 : ws ≠ [] → Q (.ref s.heap.objs.size) { s with heap := s.heap.push { cls := .type "tuple", data := .seq (vs ++ ws).toArray } })
    (hsz : vs.length + ws.length ≤ sizeLine) : wpAny (model prog w) A (binaryOp .Add (.ref t) (.ref b)) Q E s := by
  obtain ⟨⟨cls, dd, data, sl⟩, ho, hc, n, hd⟩ := id ht
  obtain ⟨⟨cls2, dd2, data2, sl2⟩, ho2, hc2, n2, hd2⟩ := id hb
  simp only at hc hd hc2 hd2
  subst hc hd hc2 hd2
  have e : vs.toArray ++ ws.toArray = (vs ++ ws).toArray := by simp
  by_cases hw : ws = []
  · exact concat_meets ⟨_, ho, rfl⟩ ⟨_, ho2, rfl⟩ noFill_tuple_add seq_tuple_add PySem.F.slot_tuple_add PySem.F.entry_tuple_add (PySem.F.args_tuple_add_2 _ _)
      (tuple_addW1 t b vs.toArray ws.toArray n n2 dd dd2 sl sl2 (by simpa using hv) (by simp [hw])) ⟨ho, ho2, h1 hw⟩
  · refine concat_meets ⟨_, ho, rfl⟩ ⟨_, ho2, rfl⟩ noFill_tuple_add seq_tuple_add PySem.F.slot_tuple_add PySem.F.entry_tuple_add (PySem.F.args_tuple_add_2 _ _)
      (tuple_addW2 t b vs.toArray ws.toArray n n2 dd dd2 sl sl2 (by simpa using hv) (by simpa using hw) (by rw [List.size_toArray, List.size_toArray]; exact hsz)) ⟨ho, ho2, ?_⟩
    rw [e]
    exact h2 hw
noncomputable def sIx (n d : Nat) : Option Int → Nat
  | none => d
  | some v => if v < 0 then (v + (n : Int)).toNat else min v.toNat n
end
end HT
namespace L2
open PySem PySem.Spec PyProof.Rows
noncomputable abbrev TO := St → Hp → (Option Int → Hp → Prop) → Prop
noncomputable def PO (X : Cx) (e : Option Expr) (t : TO) : Prop :=
  ∀ (pins : List (Addr × Obj)) (s : Shared) (σ : St) (H : Hp) (Q : Option Int → Hp → Prop), Inv X pins σ H s → t σ H Q →
    wpAny (model X.prog X.w) X.A (evalPart e X.env) (fun u s' => ∃ o H', Inv X pins σ H' s' ∧ IsPart u o ∧ Q o H') X.xe s
noncomputable def tNoPart : TO := fun _ H Q => Q none H
noncomputable def tPart (t : TE) : TO := fun σ H Q => t σ H fun x H1 => ∃ i, x = .int i ∧ Q (some i) H1
theorem intsAre_of {ns : List Int} : ∀ {us : List Value}, Vals (ns.map V.int) us → IntsAre us ns := by
  induction ns with
  | nil => intro us r; rw [List.map_nil] at r; cases r; exact .nil
  | cons n ns ih =>
    intro us r
    rw [List.map_cons] at r
    cases r with
    | cons r1 r2 =>
      obtain ⟨t, e⟩ := r1
      subst e
      exact .cons n t (ih r2)
section
variable {X : Cx} {e : Expr} {te : TE} {lo hi : Option Expr} {tl th : TO} {pos p2 : Pos}
theorem po_none : PO X none tNoPart := by
  intro pins s σ H Q I h
  rw [evalPart_none]
  exact wpAny_pure ⟨none, H, I, .none, h⟩
theorem po_some (h : PE X e te) : PO X (some e) (tPart te) := by
  intro pins s σ H Q I hw
  rw [evalPart_some]
  refine thn (h pins s σ H _ I hw) fun u s1 h_ => ?_
  obtain ⟨x, H1, I1, r1, q1⟩ := h_
  obtain ⟨i, rfl, q⟩ := q1
  obtain ⟨t, rfl⟩ := r1
  exact ⟨some i, H1, I1, .int i t, q⟩
noncomputable def SlR (X : Cx) (r : V → Option Int → Option Int → Hp → VK → Prop) : Prop :=
  ∀ (pins : List (Addr × Obj)) (s : Shared) (σ : St) (H : Hp) (x : V) (v vl vu : Value) (lo hi : Option Int) (sl : Addr) (Q : VK), Inv X pins σ H s → RelV x v → s.heap.IsSliceOf sl vl vu .none → IsPart vl lo → IsPart vu hi → r x lo hi H Q →
    ∃ T id, typeLookup (.type T) "__getitem__" = pure (some (.builtin id)) ∧ s.TypeIs v T ∧ wpAny (model X.prog X.w) X.A (getItem v (.ref sl)) (EP X pins σ Q) X.xe s
noncomputable def tSl (r : V → Option Int → Option Int → Hp → VK → Prop) (te : TE) (tl th : TO) : TE := fun σ H Q => te σ H fun x H1 => tl σ H1 fun l H2 => th σ H2 fun u H3 => r x l u H3 Q
theorem pe_slice {r : V → Option Int → Option Int → Hp → VK → Prop} (hr : SlR X r) (he : PE X e te) (hl : PO X lo tl) (hu : PO X hi th) : PE X (.Subscript e (.Slice lo hi none p2) pos) (tSl r te tl th) := by
  intro pins s σ H Q I h
  refine Subscript_ (thn (he pins s σ H _ I h) fun v s1 h_ => ?_)
  obtain ⟨x, H1, I1, r1, q1⟩ := h_
  refine wpAny_Slice (thn (hl pins s1 σ H1 _ I1 q1) fun vl s2 ⟨l, H2, I2, pl, q2⟩ => thn (hu pins s2 σ H2 _ I2 q2) fun vu s3 h_ => ?_)
  obtain ⟨u, H3, I3, pu, q3⟩ := h_
  rw [evalPart_none]
  refine wpAny_pure ?_
  have I4 : Inv X pins σ H3 { s3 with heap := s3.heap.push { cls := .type "slice", data := .fields #[vl, vu, .none] } } := I3.kept (t' := s3.toks) fun b ob q => Heap.get?_push_of_some _ q
  obtain ⟨T, id, hT, ht, hg⟩ := hr pins { s3 with heap := s3.heap.push { cls := .type "slice", data := .fields #[vl, vu, .none] } } σ H3 x v vl vu l u s3.heap.objs.size Q I4 r1 (Heap.IsSliceOf.new ..) pl pu q3
  show wpAny (model X.prog X.w) X.A (subscriptTail e (.Slice lo hi none p2) v (.ref s3.heap.objs.size)) (EP X pins σ Q) X.xe { s3 with heap := s3.heap.push { cls := .type "slice", data := .fields #[vl, vu, .none] } }
  exact tail_any (ops := [.ref s3.heap.objs.size, v]) ht hT hg (by with_unfolding_all rfl)
noncomputable def cutV (xs : List V) (lo hi : Option Int) : List V := (xs.drop (HT.sIx xs.length 0 lo)).take (HT.sIx xs.length xs.length hi - HT.sIx xs.length 0 lo)
theorem cutV_length (xs : List V) (lo hi : Option Int) : (cutV xs lo hi).length ≤ xs.length := by
  unfold cutV
  rw [List.length_take, List.length_drop]
  omega
noncomputable def rCatT (K : PySem.W.Frag) : R2 := fun x y H Q => ∃ a b xs ys, x = .ref a ∧ y = .ref b ∧ SqT K H a xs ∧ SqT K H b ys ∧ xs ≠ [] ∧ xs.length + ys.length ≤ sizeLine ∧
  (ys = [] → Q (.ref a) H) ∧ (ys ≠ [] → ∀ p, H p = none → Q (.ref p) (upd H p (.tup (xs ++ ys))))
theorem Vals.nil_iff {xs : List V} {us : List Value} (r : Vals xs us) : us = [] ↔ xs = [] := by
  cases r with
  | nil => simp
  | cons _ _ => simp
theorem op_catT : OpR X (binaryOp .Add) (rCatT X.K) := by
  intro pins s σ H x y v u Q I rx ry h
  obtain ⟨a, b, xs, ys, rfl, rfl, ha, hb, hx, hz, q1, q2⟩ := h
  cases rx
  cases ry
  obtain ⟨its, r1, p1, _⟩ := I.tuple ha
  obtain ⟨its2, r2, p2, _⟩ := I.tuple hb
  refine HT.cat_tup p1 p2 (fun z => hx (r1.nil_iff.mp z)) (fun z => ⟨.ref a, H, I, rfl, q1 (r2.nil_iff.mp z)⟩) (fun z => ?_) (by rw [← r1.length, ← r2.length]; exact hz)
  refine ⟨.ref s.heap.objs.size, _, I.laid (t' := s.toks) (o := .tup (xs ++ ys)) (fun b ob q => Heap.get?_push_of_some _ q) (Nat.le_refl _) ?_, rfl, q2 (fun w => z (r2.nil_iff.mpr w)) _ (I.hok.fresh (Nat.le_refl _))⟩
  exact ⟨by rw [List.length_append]; exact hz, _, r1.append r2, IsTup.new _ _⟩
end
end L2
namespace L2
open PySem PySem.Spec PyProof.Rows
noncomputable def ixN (n : Nat) (i : Int) : Option Nat := if 0 ≤ i then (if i < n then some i.toNat else none) else if -(n : Int) ≤ i then some (i + n).toNat else none
noncomputable def atI {α : Type} (xs : List α) (i : Int) : Option α := (ixN xs.length i).bind fun j => xs[j]?
theorem ixN_seq {n : Nat} {i : Int} {j : Nat} (h : ixN n i = some j) : seqIndex? i n = some j ∧ j < n ∧ -(n : Int) ≤ i ∧ i < n := by
  unfold ixN at h
  by_cases h0 : 0 ≤ i
  · rw [if_pos h0] at h
    by_cases h1 : i < n
    · rw [if_pos h1] at h
      have e : i.toNat = j := Option.some.inj h
      exact ⟨by rw [seqIndex_of h0 h1, e], by omega, by omega, h1⟩
    · rw [if_neg h1] at h; cases h
  · rw [if_neg h0] at h
    by_cases h1 : -(n : Int) ≤ i
    · rw [if_pos h1] at h
      have e : (i + n).toNat = j := Option.some.inj h
      exact ⟨by rw [seqIndex_neg (by omega) h1, e], by omega, h1, by omega⟩
    · rw [if_neg h1] at h; cases h
theorem atI_get {α : Type} {xs : List α} {i : Int} {v : α} (h : atI xs i = some v) : ∃ j, seqIndex? i xs.length = some j ∧ xs[j]? = some v ∧ j < xs.length ∧ -(xs.length : Int) ≤ i ∧ i < xs.length := by
  unfold atI at h
  cases e : ixN xs.length i with
  | none => rw [e] at h; cases h
  | some j =>
    rw [e] at h
    obtain ⟨h1, h2, h3, h4⟩ := ixN_seq e
    exact ⟨j, h1, h, h2, h3, h4⟩
theorem atI_nat {α : Type} {xs : List α} {j : Nat} {v : α} (h : xs[j]? = some v) : atI xs (j : Int) = some v := by
  have hj : j < xs.length := (List.getElem?_eq_some_iff.mp h).1
  have e : ixN xs.length (j : Int) = some j := by
    unfold ixN
    rw [if_pos (by omega), if_pos (by omega)]; simp
  unfold atI; rw [e]; exact h
noncomputable def PlainIx (b : Expr) : Prop := ∀ o i, subscripted b false o i = operate [o, i] (getItem o i)
noncomputable def IxR (X : Cx) (r : R2) : Prop :=
  ∀ (value slice : Expr) (pins : List (Addr × Obj)) (s : Shared) (σ : St) (H : Hp) (x y : V) (v u : Value) (Q : VK), Inv X pins σ H s → RelV x v → RelV y u → r x y H Q →
    subscripted slice false v u = operate [v, u] (getItem v u) → wpAny (model X.prog X.w) X.A (subscriptTail value slice v u) (EP X pins σ Q) X.xe s
section
variable {X : Cx} {a b : Expr} {ta tb : TE} {pos : Pos}
theorem IxR.or {r r' : R2} (h : IxR X r) (h' : IxR X r') : IxR X (fun x y H Q => r x y H Q ∨ r' x y H Q) := by
  intro value slice pins s σ H x y v u Q I rx ry q hs
  rcases q with q | q
  · exact h value slice pins s σ H x y v u Q I rx ry q hs
  · exact h' value slice pins s σ H x y v u Q I rx ry q hs
theorem pe_ix {r : R2} (hr : IxR X r) (ha : PE X a ta) (hb : PE X b tb) (hs : PlainIx b) : PE X (.Subscript a b pos) (tOp r ta tb) := by
  intro pins s σ H Q I h
  exact Subscript_ (binT ha hb I h fun v u s2 x y H2 I2 rx ry q => hr a b pins s2 σ H2 x y v u Q I2 rx ry q (hs _ _))
noncomputable def rIxL (K : PySem.W.Frag) : R2 := fun x y H Q => ∃ p xs i v, x = .ref p ∧ y = .int i ∧ SqL K H p xs ∧ atI xs i = some v ∧ Q v H
noncomputable def rIxT (K : PySem.W.Frag) : R2 := fun x y H Q => ∃ p xs i v, x = .ref p ∧ y = .int i ∧ SqT K H p xs ∧ atI xs i = some v ∧ Q v H
theorem ix_list : IxR X (rIxL X.K) := by
  intro value slice pins s σ H x y v u Q I rx ry h hs
  obtain ⟨p, xs, i, z, rfl, rfl, hq, he, q⟩ := h
  cases rx
  obtain ⟨t, rfl⟩ := ry
  obtain ⟨its, r, pl, hz⟩ := I.list hq
  obtain ⟨j, h1, h2, h3, h4, h5⟩ := atI_get he
  obtain ⟨w, ew, rw'⟩ := r.get h2
  have hl := r.length
  have hn := line63
  have fin : EP X pins σ Q w s := ⟨z, H, I, rw', q⟩
  by_cases h0 : 0 ≤ i
  · have hj : i.toNat = j := by
      rw [seqIndex_of h0 h5] at h1
      exact Option.some.inj h1
    exact item_listR pl.isList h0 (by omega) (by rw [hj]; simpa using ew) fin hs
  · have hj : (i + (its.toArray.size : Int)).toNat = j := by
      rw [seqIndex_neg (by omega) h4] at h1
      rw [List.size_toArray, ← hl]
      exact Option.some.inj h1
    exact subscriptTail_builtinR (x := w) pl.isList.typeIs slot_list_getitem.lookup
      (wpAny_getItem_list_neg (Q := fun r s' => r = w ∧ EP X pins σ Q r s') pl.isList (by omega) (by rw [List.size_toArray] <;> omega) (by omega) (by rw [hj]; simpa using ew) ⟨rfl, fin⟩) hs
theorem ix_tup : IxR X (rIxT X.K) := by
  intro value slice pins s σ H x y v u Q I rx ry h hs
  obtain ⟨p, xs, i, z, rfl, rfl, hq, he, q⟩ := h
  cases rx
  obtain ⟨t, rfl⟩ := ry
  obtain ⟨its, r, pl, hz⟩ := I.tuple hq
  obtain ⟨j, h1, h2, h3, h4, h5⟩ := atI_get he
  obtain ⟨w, ew, rw'⟩ := r.get h2
  have hl := r.length
  have hn := line63
  have fin : EP X pins σ Q w s := ⟨z, H, I, rw', q⟩
  exact subscriptTail_builtinR (x := w) pl.typeIs slot_tuple_getitem.lookup
    (getItem_tuple (j := j) (Q := fun r s' => r = w ∧ EP X pins σ Q r s') pl (by omega) (by omega) (by rw [List.size_toArray, ← hl]; exact h1) (by simpa using ew) ⟨rfl, fin⟩) hs
theorem mapSeq_set (its : List Value) (n j : Nat) (u : Value) : Obj.mapSeq (·.setIfInBounds j u) { cls := .type "list", data := .seq its.toArray n } = { cls := .type "list", data := .seq (its.set j u).toArray n } := by
  simp [Obj.mapSeq]
theorem Inv.lst {pins : List (Addr × Obj)} {σ : St} {H : Hp} {s : Shared} {p : Addr} {xs : List V} (I : Inv X pins σ H s) (h : H p = some (.lst xs)) :
    ∃ (its : List Value) (n : Nat), Vals xs its ∧ s.heap.get? p = some { cls := .type "list", data := .seq its.toArray n } ∧ xs.length ≤ sizeLine := by
  obtain ⟨z, its, n, r, e⟩ := I.hok p _ h
  exact ⟨its, n, r, e, z⟩
theorem Inv.lstUpd {pins : List (Addr × Obj)} {σ : St} {H : Hp} {s : Shared} {p : Addr} {xs ys : List V} {its its' : List Value} {n n' : Nat} {f : Obj → Obj} (I : Inv X pins σ H s) (h : H p = some (.lst xs))
    (ho : s.heap.get? p = some { cls := .type "list", data := .seq its.toArray n }) (hf : f { cls := .type "list", data := .seq its.toArray n } = { cls := .type "list", data := .seq its'.toArray n' }) (r : Vals ys its') (hz : ys.length ≤ sizeLine) (t : Nat) :
    Inv X pins σ (upd H p (.lst ys)) { s with heap := s.heap.update p f, toks := t } := by
  have e : (s.heap.update p f).get? p = some { cls := .type "list", data := .seq its'.toArray n' } := by
    rw [Heap.get?_update_self f ho (by rw [hf] <;> rfl), hf]
  refine I.write (x := p) (e := p) (by rw [h]; trivial) (.inl rfl) (fun b u hb q => (Heap.get?_update_other _ _ (Ne.symm hb)).trans q) ⟨_, e⟩ ?_
  exact ⟨hz, its', n', r, e⟩
noncomputable def rSetL : V → V → V → Hp → (Hp → Prop) → Prop := fun o i v H Q => ∃ p xs k j, o = .ref p ∧ i = .int k ∧ H p = some (.lst xs) ∧ ixN xs.length k = some j ∧ Q (upd H p (.lst (xs.set j v)))
theorem set_list : PSet X rSetL := by
  intro pins s σ H o i v ov iv u Q I ro ri rv h
  obtain ⟨p, xs, k, j, rfl, rfl, hp, hj, q⟩ := h
  cases ro
  obtain ⟨t, rfl⟩ := ri
  obtain ⟨its, n, r, ho, hz⟩ := I.lst hp
  obtain ⟨h1, h2, h3, h4⟩ := ixN_seq hj
  have hl := r.length
  have hn := line63
  have I' : Inv X pins σ (upd H p (.lst (xs.set j v))) { s with heap := s.heap.update p (Obj.mapSeq (·.setIfInBounds j u)) } :=
    I.lstUpd hp ho (mapSeq_set its n j u) (r.set rv j) (by rw [List.length_set]; exact hz) s.toks
  by_cases h0 : 0 ≤ k
  · have hk : k.toNat = j := by
      rw [seqIndex_of h0 h4] at h1
      exact Option.some.inj h1
    exact PySem.W.ki_setAt ho h0 (by omega) (by rw [List.size_toArray, ← hl]; exact h4) (by rw [hk]; exact ⟨_, I', q⟩)
  · have hk : (k + (its.toArray.size : Int)).toNat = j := by
      rw [seqIndex_neg (by omega) h3] at h1
      rw [List.size_toArray, ← hl]
      exact Option.some.inj h1
    exact PySem.W.ki_setBack ho (by omega) (by rw [List.size_toArray, ← hl]; exact h3) (by omega) (by rw [hk]; exact ⟨_, I', q⟩)
theorem slice_bounds (lo hi : Option Int) (n : Nat) : (sliceBounds lo hi none n).1 = ((HT.sIx n 0 lo : Nat) : Int) ∧ (sliceBounds lo hi none n).2.1 = ((HT.sIx n n hi : Nat) : Int) ∧ (sliceBounds lo hi none n).2.2 = 1 := by
  refine ⟨?_, ?_, rfl⟩
  · cases lo with
    | none => simp [sliceBounds, HT.sIx]
    | some i =>
      simp only [sliceBounds, HT.sIx, Option.getD_none, show (1 : Int) > 0 by decide, if_true]
      by_cases h : i < 0
      · simp only [h, if_true] <;> omega
      · simp only [h, if_false] <;> omega
  · cases hi with
    | none => simp [sliceBounds, HT.sIx]
    | some i =>
      simp only [sliceBounds, HT.sIx, Option.getD_none, show (1 : Int) > 0 by decide, if_true]
      by_cases h : i < 0
      · simp only [h, if_true] <;> omega
      · simp only [h, if_false] <;> omega
theorem slicePick_cut (its : List Value) (lo hi : Option Int) : slicePick its.toArray lo hi none = ((its.drop (HT.sIx its.length 0 lo)).take (HT.sIx its.length its.length hi - HT.sIx its.length 0 lo)).toArray := by
  obtain ⟨h1, h2, h3⟩ := slice_bounds lo hi its.toArray.size
  unfold slicePick
  rw [h1, h2, h3]
  simp only [sliceRange_one, pick_run, List.size_toArray] <;> rfl
noncomputable def rSlL (K : PySem.W.Frag) : V → Option Int → Option Int → Hp → VK → Prop := fun x lo hi H Q => ∃ a xs, x = .ref a ∧ SqL K H a xs ∧ ∀ p, H p = none → Q (.ref p) (upd H p (.lst (cutV xs lo hi)))
theorem sl_list : SlR X (rSlL X.K) := by
  intro pins s σ H x v vl vu lo hi sl Q I rx hs pl pu h
  obtain ⟨a, xs, rfl, hx, q⟩ := h
  cases rx
  obtain ⟨its, r, ht, hz⟩ := I.list hx
  have hlen := r.length
  refine ⟨"list", _, slot_list_getitem.lookup, ht.isList.typeIs, ?_⟩
  refine wpAny_getItem_list_slice ht.isList hs pl pu .none (by simp) ?_ (by rw [List.size_toArray] <;> omega)
  rw [slicePick_cut, ← hlen]
  refine ⟨.ref s.heap.objs.size, _, I.laid (t' := s.toks) (o := .lst (cutV xs lo hi)) (fun b ob q => Heap.get?_push_of_some _ q) (Nat.le_refl _) ?_, rfl, q _ (I.hok.fresh (Nat.le_refl _))⟩
  exact ⟨Nat.le_trans (cutV_length xs lo hi) hz, _, 0, (r.drop (HT.sIx xs.length 0 lo)).take (HT.sIx xs.length xs.length hi - HT.sIx xs.length 0 lo), Heap.get?_push_size _ rfl⟩
noncomputable def flatV : V → Bool
  | .non => true
  | .bl _ => true
  | .int _ => true
  | .str _ => true
  | _ => false
noncomputable def eqV : V → V → Bool
  | .non, .non => true
  | .bl a, .bl b => a == b
  | .bl a, .int b => (if a then 1 else 0) == b
  | .int a, .bl b => a == (if b then 1 else 0)
  | .int a, .int b => a == b
  | .str a, .str b => a == b
  | _, _ => false
theorem eqAt_V {A : Around} {s : Shared} {y x : V} {u v : Value} (ry : RelV y u) (rx : RelV x v) (fy : flatV y = true) (fx : flatV x = true) : SeqAt.EqAt A s u v (eqV y x) := by
  cases y with
  | non =>
    cases ry
    cases x with
    | non => cases rx; exact SeqAt.EqAt.same _
    | bl b => cases rx; exact SeqAt.EqAt.none_bool b
    | int b => obtain ⟨t, rfl⟩ := rx; exact SeqAt.EqAt.none_int b t
    | str b => obtain ⟨t, rfl⟩ := rx; exact SeqAt.EqAt.none_str b t
    | _ => exact absurd (show false = true from fx) Bool.false_ne_true
  | bl a =>
    cases ry
    cases x with
    | non => cases rx; exact SeqAt.EqAt.bool_none a
    | bl b => cases rx; exact SeqAt.EqAt.bool_bool a b
    | int b => obtain ⟨t, rfl⟩ := rx; exact SeqAt.EqAt.bool_int a b t
    | str b => obtain ⟨t, rfl⟩ := rx; exact SeqAt.EqAt.bool_str a b t
    | _ => exact absurd (show false = true from fx) Bool.false_ne_true
  | int a =>
    obtain ⟨t', rfl⟩ := ry
    cases x with
    | non => cases rx; exact SeqAt.EqAt.int_none a t'
    | bl b => cases rx; exact SeqAt.EqAt.int_bool a t' b
    | int b => obtain ⟨t, rfl⟩ := rx; exact SeqAt.EqAt.int_int a t' b t
    | str b => obtain ⟨t, rfl⟩ := rx; exact SeqAt.EqAt.int_str a t' b t
    | _ => exact absurd (show false = true from fx) Bool.false_ne_true
  | str a =>
    obtain ⟨t', rfl⟩ := ry
    cases x with
    | non => cases rx; exact SeqAt.EqAt.str_none a t'
    | bl b => cases rx; exact SeqAt.EqAt.str_bool a t' b
    | int b => obtain ⟨t, rfl⟩ := rx; exact SeqAt.EqAt.str_int a t' b t
    | str b => obtain ⟨t, rfl⟩ := rx; exact SeqAt.EqAt.str_str a t' b t
    | _ => exact absurd (show false = true from fx) Bool.false_ne_true
  | _ => exact absurd (show false = true from fy) Bool.false_ne_true
noncomputable def eqU (x : V) (u : Value) : Bool := match u with
  | .none => eqV .non x
  | .bool b => eqV (.bl b) x
  | .int i _ => eqV (.int i) x
  | .str z _ => eqV (.str z) x
  | _ => false
theorem eqU_of {x y : V} {u : Value} (r : RelV y u) (f : flatV y = true) : eqU x u = eqV y x := by
  cases y with
  | non => cases r; rfl
  | bl b => cases r; rfl
  | int i => obtain ⟨t, rfl⟩ := r; rfl
  | str z => obtain ⟨t, rfl⟩ := r; rfl
  | _ => exact absurd (show false = true from f) Bool.false_ne_true
theorem any_eqU {x : V} : ∀ {xs : List V} {us : List Value}, Vals xs us → xs.all flatV = true → us.any (eqU x) = xs.any fun y => eqV y x
  | _, _, .nil, _ => rfl
  | y :: xs, u :: us, .cons r t, f => by
    rw [List.all_cons, Bool.and_eq_true] at f
    rw [List.any_cons, List.any_cons, eqU_of r f.1, any_eqU t f.2]
theorem mem_eqAt {A : Around} {s : Shared} {x : V} {v : Value} (rx : RelV x v) (fx : flatV x = true) : ∀ {xs : List V} {us : List Value}, Vals xs us → xs.all flatV = true → ∀ u ∈ us, SeqAt.EqAt A s u v (eqU x u)
  | _, _, .nil, _ => fun u hu => by cases hu
  | y :: xs, u :: us, .cons r t, f => fun u' hu => by
    rw [List.all_cons, Bool.and_eq_true] at f
    rcases List.mem_cons.mp hu with rfl | hu
    · rw [eqU_of r f.1]; exact eqAt_V r rx f.1 fx
    · exact mem_eqAt rx fx t f.2 u' hu
noncomputable def inV (x : V) (xs : List V) : Bool := xs.any fun y => eqV y x
noncomputable def rIn (K : PySem.W.Frag) (neg : Bool) : R2 := fun x y H Q => ∃ p xs, y = .ref p ∧ (SqL K H p xs ∨ SqT K H p xs) ∧ flatV x = true ∧ xs.all flatV = true ∧ Q (.bl (if neg then !inV x xs else inV x xs)) H
theorem op_in_seq : OpR X (compareOp .In) (rIn X.K false) := by
  intro pins s σ H x y v u Q I rx ry h
  obtain ⟨p, xs, rfl, hq, fx, fs, q⟩ := h
  cases ry
  rcases hq with hq | hq
  · obtain ⟨its, r, pl, hz⟩ := I.list hq
    refine SeqAt.in_listAt (eqU x) pl.isList (fun w hw => mem_eqAt rx fx r fs w (by simpa using hw)) ⟨.bl _, H, I, rfl, ?_⟩
    rw [show its.toArray.any (eqU x) = its.any (eqU x) by simp, any_eqU r fs]
    exact q
  · obtain ⟨its, r, pl, hz⟩ := I.tuple hq
    refine SeqAt.in_tupleAt (eqU x) pl (fun w hw => mem_eqAt rx fx r fs w (by simpa using hw)) ⟨.bl _, H, I, rfl, ?_⟩
    rw [show its.toArray.any (eqU x) = its.any (eqU x) by simp, any_eqU r fs]
    exact q
theorem op_notIn_seq : OpR X (compareOp .NotIn) (rIn X.K true) := by
  intro pins s σ H x y v u Q I rx ry h
  obtain ⟨p, xs, rfl, hq, fx, fs, q⟩ := h
  cases ry
  rcases hq with hq | hq
  · obtain ⟨its, r, pl, hz⟩ := I.list hq
    refine SeqAt.notIn_listAt (eqU x) pl.isList (fun w hw => mem_eqAt rx fx r fs w (by simpa using hw)) ⟨.bl _, H, I, rfl, ?_⟩
    rw [show its.toArray.any (eqU x) = its.any (eqU x) by simp, any_eqU r fs]
    exact q
  · obtain ⟨its, r, pl, hz⟩ := I.tuple hq
    refine SeqAt.notIn_tupleAt (eqU x) pl (fun w hw => mem_eqAt rx fx r fs w (by simpa using hw)) ⟨.bl _, H, I, rfl, ?_⟩
    rw [show its.toArray.any (eqU x) = its.any (eqU x) by simp, any_eqU r fs]
    exact q
theorem call_len_seq : CallR X (.builtin "len") (fun xs H Q => ∃ p ys, xs = [.ref p] ∧ (SqL X.K H p ys ∨ SqT X.K H p ys) ∧ Q (.int ys.length) H) := by
  intro pins s σ H xs us Q I r h
  obtain ⟨p, ys, rfl, hq, q⟩ := h
  obtain ⟨u, rfl, rx⟩ := vals1 r
  cases rx
  have hn := line63
  rcases hq with hq | hq
  · obtain ⟨its, r', pl, hz⟩ := I.list hq
    have hlen := r'.length
    exact Calls.call_len_list pl.isList (by simp only [List.size_toArray] <;> omega) ⟨.int ys.length, H, I.tok _, ⟨s.toks + 1, by rw [List.size_toArray, hlen]⟩, q⟩
  · obtain ⟨its, r', pl, hz⟩ := I.tuple hq
    have hlen := r'.length
    exact len_tuple pl (by simp only [List.size_toArray] <;> omega) ⟨.int ys.length, H, I.tok _, ⟨s.toks + 1, by rw [List.size_toArray, hlen]⟩, q⟩
theorem call_list_of : CallR X (.type "list") (fun xs H Q => ∃ p ys, xs = [.ref p] ∧ (SqL X.K H p ys ∨ SqT X.K H p ys) ∧ ∀ l, H l = none → Q (.ref l) (upd H l (.lst ys))) := by
  intro pins s σ H xs us Q I r h
  obtain ⟨p, ys, rfl, hq, q⟩ := h
  obtain ⟨u, rfl, rx⟩ := vals1 r
  cases rx
  have fin : ∀ (its : List Value), Vals ys its → ys.length ≤ sizeLine → ∀ (h' : Heap) (c' : Nat), (∀ b o', s.heap.get? b = some o' → h'.get? b = some o') →
      h'.get? s.heap.objs.size = some { cls := .type "list", dict := none, data := .seq its.toArray c', slots := #[] } → EP X pins σ Q (.ref s.heap.objs.size) { s with heap := h' } := fun its r' hz h' c' kp e =>
    ⟨.ref s.heap.objs.size, _, I.laid (t' := s.toks) kp (Nat.le_refl _) (show ObjOk X.prog X.w _ h' _ (.lst ys) from ⟨hz, its, c', r', e⟩), rfl, q _ (I.hok.fresh (Nat.le_refl _))⟩
  rcases hq with hq | hq
  · obtain ⟨its, r', pl, hz⟩ := I.list hq
    have hlen := r'.length
    obtain ⟨o, ho, hc, n, hd⟩ := pl.isList
    exact call_list_seq p (.inl rfl) ho hc hd (fun h' c' kp e => fin its r' hz h' c' kp e) (by simp only [List.size_toArray] <;> omega)
  · obtain ⟨its, r', pl, hz⟩ := I.tuple hq
    have hlen := r'.length
    obtain ⟨o, ho, hc, n, hd⟩ := pl
    exact call_list_seq p (.inr rfl) ho hc hd (fun h' c' kp e => fin its r' hz h' c' kp e) (by simp only [List.size_toArray] <;> omega)
variable {o e : Expr} {es : List Expr} {to : TE} {t : TA} {name : Str} {apos cpos : Pos} {T id : String} {r : V → List V → Hp → VK → Prop}
/- xs.append(e), list.index on a module's tuple .. are MtR facts of 06m -/
end
end L2
namespace L2
open PySem PySem.Spec PyProof.Rows
theorem Vals.rep {xs : List V} {us : List Value} (h : Vals xs us) : ∀ k : Nat, Vals (List.replicate k xs).flatten (List.replicate k us).flatten
  | 0 => .nil
  | k + 1 => by
    rw [List.replicate_succ, List.replicate_succ, List.flatten_cons, List.flatten_cons]
    exact Vals.append h (Vals.rep h k)
theorem foldl_rep (its : List Value) : ∀ (k : Nat) (acc : List Value),
    List.foldl (fun x1 x2 => x1 ++ x2) acc.toArray (List.replicate k its.toArray) = (acc ++ (List.replicate k its).flatten).toArray
  | 0, acc => by simp
  | k + 1, acc => by
    have e : acc.toArray ++ its.toArray = (acc ++ its).toArray := by simp
    have e2 : (acc ++ its) ++ (List.replicate k its).flatten = acc ++ (List.replicate (k + 1) its).flatten := by
      rw [List.replicate_succ, List.flatten_cons, List.append_assoc]
    rw [← e2, ← foldl_rep its k (acc ++ its), ← e, List.replicate_succ, List.foldl_cons]
section
variable {X : Cx} {pins : List (Addr × Obj)} {σ : St} {H : Hp} {s : Shared} {l b : Addr} {xs ys zs : List V}
theorem Inv.lset {its its' : List Value} {n : Nat} {f : Array Value → Array Value} {t' : Nat} (I : Inv X pins σ H s) (hH : H l = some (.lst xs))
    (e : s.heap.get? l = some { cls := .type "list", data := .seq its.toArray n }) (hf : f its.toArray = its'.toArray) (hv : Vals ys its') (hz : ys.length ≤ sizeLine) :
    Inv X pins σ (upd H l (.lst ys)) { s with heap := s.heap.update l (Obj.mapSeq f), toks := t' } := by
  have q := PySem.IsL.update e f
  rw [hf] at q
  refine I.write (x := l) (e := l) (by rw [hH]; exact trivial) (.inl rfl) (fun b' u hb hu => (Heap.get?_update_other s.heap (Obj.mapSeq f) (Ne.symm hb)).trans hu) ⟨_, q⟩ ?_
  exact ⟨hz, its', _, hv, q⟩
theorem Inv.lnew {its : List Value} {t' : Nat} (I : Inv X pins σ H s) (hv : Vals ys its) (hz : ys.length ≤ sizeLine) :
    Inv X pins σ (upd H s.heap.objs.size (.lst ys)) { s with heap := s.heap.push { cls := .type "list", data := .seq its.toArray }, toks := t' } :=
  I.laid (fun _ _ q => Heap.get?_push_of_some _ q) (Nat.le_refl _) ⟨hz, its, 0, hv, Heap.get?_push_size _ rfl⟩
theorem Inv.fresh (I : Inv X pins σ H s) : H s.heap.objs.size = none := I.hok.fresh (Nat.le_refl _)
theorem Inv.lstM (I : Inv X pins σ H s) (hH : H l = some (.lst xs)) : xs.length ≤ sizeLine ∧ ∃ (its : List Value) (n : Nat), Vals xs its ∧ xs.length = its.length ∧ s.heap.get? l = some { cls := .type "list", data := .seq its.toArray n } := by
  obtain ⟨z, its, n, r, e⟩ := I.hok l _ hH
  exact ⟨z, its, n, r, r.length, e⟩
theorem notLongL {n : Nat} (h : n ≤ sizeLine) : Builtin.List.listTooLong n = false := by
  unfold Builtin.List.listTooLong
  exact decide_eq_false (by omega)
end
section
variable {X : Cx}
noncomputable def rCat : R2 := fun x y H Q => ∃ l b xs zs, x = .ref l ∧ y = .ref b ∧ H l = some (.lst xs) ∧ H b = some (.lst zs) ∧ xs.length + zs.length ≤ sizeLine ∧ ∀ p, H p = none → Q (.ref p) (upd H p (.lst (xs ++ zs)))
theorem op_cat : OpR X (binaryOp .Add) rCat := by
  intro pins s σ H x y v u Q I rx ry h
  obtain ⟨l, b, xs, zs, rfl, rfl, hH, hB, hz, q⟩ := h
  cases rx
  cases ry
  obtain ⟨z, its, n, r, hl, e⟩ := I.lstM hH
  obtain ⟨z2, its2, n2, r2, hl2, e2⟩ := I.lstM hB
  refine PySem.P.add_list e e2 ?_ (by rw [List.size_toArray, List.size_toArray]; omega)
  have ea : its.toArray ++ its2.toArray = (its ++ its2).toArray := by simp
  rw [ea]
  exact ⟨.ref _, _, I.lnew (t' := s.toks) (r.append r2) (by rw [List.length_append]; omega), rfl, q _ I.fresh⟩
noncomputable def rRep : R2 := fun x y H Q => ∃ l k xs, x = .ref l ∧ y = .int k ∧ H l = some (.lst xs) ∧ -(2 ^ 63) ≤ k ∧ k < 2 ^ 63 ∧ xs.length * k.toNat ≤ sizeLine ∧
  ∀ p, H p = none → Q (.ref p) (upd H p (.lst (List.replicate k.toNat xs).flatten))
theorem len_rep {α : Type} (xs : List α) (k : Nat) : (List.replicate k xs).flatten.length = k * xs.length := by
  induction k with
  | zero => simp
  | succ k ih => rw [List.replicate_succ, List.flatten_cons, List.length_append, ih, Nat.succ_mul, Nat.add_comm]
theorem op_rep : OpR X (binaryOp .Mult) rRep := by
  intro pins s σ H x y v u Q I rx ry h
  obtain ⟨l, k, xs, rfl, rfl, hH, h1, h2, hz, q⟩ := h
  cases rx
  obtain ⟨t, rfl⟩ := ry
  obtain ⟨z, its, n, r, hl, e⟩ := I.lstM hH
  have hlen : its.toArray.size * k.toNat ≤ sizeLine := by rw [List.size_toArray, ← hl]; exact hz
  have hcap : ¬ its.toArray.size * k.toNat > (2 ^ 63 - 1) / 8 := by
    have : (sizeLine : Nat) ≤ (2 ^ 63 - 1) / 8 := by decide
    omega
  have hfit : ¬ (!Builtin.List.listFitsIndex k) = true := by
    rw [fitsIndex_both h1 h2]
    exact Bool.false_ne_true
  have hlong : ¬ Builtin.List.listTooLong (its.toArray.size * k.toNat) = true := by
    rw [notLongL hlen]
    exact Bool.false_ne_true
  have hnew : List.foldl (fun x1 x2 => x1 ++ x2) #[] (List.replicate (if its.toArray.isEmpty = true then 0 else k.toNat) its.toArray) = (List.replicate k.toNat its).flatten.toArray := by
    have f0 : ∀ m : Nat, List.foldl (fun x1 x2 => x1 ++ x2) #[] (List.replicate m its.toArray) = (List.replicate m its).flatten.toArray := fun m => by
      have := foldl_rep its m []
      rw [List.nil_append] at this
      exact this
    rw [f0]
    cases its with
    | nil => simp
    | cons a r' => rw [if_neg (by simp)]
  refine wpAny_binaryOp_repeat_ref (T := "list") (U := "int") (by decide) ⟨_, e, rfl⟩ (fun s' => typeIs_int s' k t) noFill_list_mul F.fills_int_mul F.slot_int_rmul repeat_list F.slot_int_index.lookup
    (call_meets F.slot_int_rmul (typeIs_int s k t) F.entry_int_rmul (F.args_int_rmul_2 _ _) (int___rmul___int_list k t l its.toArray n)
      ⟨e, rfl, ⟨_, e, rfl⟩, call_meets F.slot_list_mul ⟨_, e, rfl⟩ F.entry_list_mul (F.args_list_mul_2 _ _) (AutoListH.list___mul___list_int_3 l its.toArray n k t hfit hcap hlong) ⟨e, ?_⟩⟩)
  rw [hnew]
  exact ⟨.ref _, _, I.lnew (t' := s.toks) (r.rep k.toNat) (by rw [len_rep, Nat.mul_comm]; exact hz), rfl, q _ I.fresh⟩
end
section
variable {prog : Program} {w : World} {A : Around} {E : Value → Shared → Prop} {s : Shared}
end
section
variable {X : Cx}
end
end L2
namespace Att
open PySem PySem.W PySem.Calls PyProof.Rows
theorem ints_of_wellAll {P : Params} {h : Heap} : ∀ (ns : List Int) (vs : List Value), WellAll P h vs (ns.map WData.int) → IntsAre vs ns := by
  intro ns
  induction ns with
  | nil =>
    intro vs w
    rw [List.map_nil] at w
    cases w
    exact .nil
  | cons n ns ih =>
    intro vs w
    rw [List.map_cons] at w
    cases w with
    | cons a b =>
      cases a
      exact .cons _ _ (ih _ b)
theorem script_of {l : OpenLaw} {n : Nat} (hn : l.most = some n) {P : Params} {h : Heap} {args : List WData} {vals : List Value}
    (hpre : l.row.toRowW.claim.pre args = true) (hwl : WellAll P h vals args) :
    ∃ a vs ns, vals = [Value.ref a] ∧ args = [WData.list (ns.map WData.int)] ∧ h.get? a = some { cls := .type "list", data := .seq vs.toArray } ∧ IntsAre vs ns ∧ ns.length ≤ n := by
  have hsh : WShape.hasAll [] args [.list .int] = true := (pre_splitW hpre).1
  have hc : l.pre.holds [] { args := args } = true := (pre_splitW hpre).2
  obtain ⟨d, r, rfl, h1, h2⟩ := hasAllW_cons hsh
  obtain rfl := hasAllW_nil h2
  obtain ⟨xs, rfl, h3⟩ := hasW_list h1
  obtain ⟨ns, rfl⟩ := items_int h3
  have hlen : ns.length ≤ n := by
    unfold OpenLaw.pre at hc
    have h4 : (WTm.not (.lt (.lit (.int (n : Int))) (.len (.arg 0)))).holds [] { args := [.list (ns.map .int)] } = true := by
      have h4 := (holds_andW hc).1
      rw [hn] at h4
      exact h4
    have h5 := condW_of h4 (w_not (w_lt w_lit (w_len_list (w_arg rfl))))
    rw [List.length_map] at h5
    refine Nat.le_of_not_lt fun q => ?_
    have q' : (n : Int) < ((ns.length : Nat) : Int) := by omega
    first
      | (rw [decide_eq_true q'] at h5; exact absurd h5 (by decide))
      | (simp at h5; omega)
  cases hwl with
  | cons w1 w2 =>
    cases w2
    cases w1 with
    | list ho hall => exact ⟨_, _, ns, rfl, rfl, ho, ints_of_wellAll ns _ hall, hlen⟩
theorem post_true (l : OpenLaw) (args : List WData) : l.row.toRowW.claim.post args (.bool true) args = true :=
  postW_of (r := l.row.toRowW) (X := (true == true))
    (show WShape.has [] (.bool true) .bool = true by first | rfl | decide | simp [WShape.has, WShape.arms, WShape.armsAll])
    (show (WTm.eq .res (.lit (.bool true))).value [] { args := args, res := some (.bool true), after := args } = some (.bool (true == true)) from w_eq_bool (w_res rfl) w_lit) rfl
theorem attach_call {l : OpenLaw} {n : Nat} {q : Program} {loose : List Str} {XP : (Str → Option Value) → Heap → Prop} {YP : World → Heap → Prop} {d : DefRec}
    (hn : l.most = some n) (hdf : d.params.defaults = [])
    (call : ∀ (w : World) (s₀ s₁ : Shared) (mg mb : Str → Option Value) (fa : Addr) (o : Obj) (pm cd doc : Value) (a : Addr) (vs : List Value) (ns : List Int),
      Ground q loose [] XP w s₀ mg mb s₁.heap → YP w s₁.heap →
      s₁.heap.get? fa = some o → o.data = .func (docDef d.name d.params d.body d.scope pm cd doc) → s₁.heap.CodeRec cd d.name → mg d.name = some (.ref fa) →
      s₁.heap.get? a = some { cls := .type "list", data := .seq vs.toArray } → IntsAre vs ns → ns.length ≤ n → s₁.gens = #[] →
      codeAny (model l.prog w) callerA (.call (.ref fa) ⟨[.ref a], []⟩) (fun r s' => r = .ok (.ret (.bool true)) ∧ OldK s₁.heap s'.heap ∧ s'.os = s₁.os ∧ AllBare s'.gens) s₁) :
    WalkO q loose XP YP l.row.toRowW d [] (fun f vs => PySem.call f vs) := by
  intro w s₀ s₁ mg mb G Y fa o pm cd doc dV kV ho hd hcd hD hmg hg args vals as hpre hlay hrd hwl hlo
  obtain rfl : dV = .none := Dflts.none hD hdf
  obtain rfl : kV = .none := Dflts.noKw hD
  obtain ⟨a, vs, ns, rfl, rfl, hobj, hints, hlen⟩ := script_of hn hpre hwl
  refine enter_call (codeAny_mono (call w s₀ s₁ mg mb fa o pm cd doc a vs ns G Y ho (fd_plain hd) hcd hmg hobj hints hlen hg) fun r s' hq => ?_)
  obtain ⟨rfl, h2, h3, h4⟩ := hq
  exact ⟨.inl ⟨.bool true, .bool true, [], rfl, fun _ => rfl, .bool true, post_true l _, fun _ => ⟨List.Pairwise.nil, fun _ hm => (nomatch hm)⟩⟩, h2, h3, h4⟩
section
variable {prog : Program} {w : World} {A : Around} {E : Value → Shared → Prop} {s : Shared} {K : Frag}
end
end Att
namespace L2
open PySem PySem.Spec PyProof.Rows
theorem vals_ints : ∀ {vs : List Value} {ns : List Int}, IntsAre vs ns → Vals (ns.map V.int) vs
  | _, _, .nil => .nil
  | _, _, .cons n t h => .cons ⟨t, rfl⟩ (vals_ints h)
noncomputable def Only (H : Hp) : Prop := ∀ b, H b = none ∨ ∃ o xs, H b = some (.frz o (.lst xs))
theorem law_call {P : Program} {w : World} {K : PySem.W.Frag} {mg mb : Str → Option Value} {CX : CXT} {k : Nat} {fa a : Addr} {fd : FuncData} {x : Str} {sp : Sp} {s₁ : Shared} {vs : List Value} {ns : List Int}
    (KX : K.In s₁.heap) (hns : s₁.heap.Ns mainGlobals mg) (hb : s₁.heap.Ns builtinsNs mb) (hbb : ∀ x : Str, x ≠ "__name__" → mb x = bootBuiltins x) (hlim : s₁.heap.NoLimit) (hg : s₁.gens = #[])
    (ha : s₁.heap.get? a = some { cls := .type "list", data := .seq vs.toArray }) (hi : IntsAre vs ns) (hl : ns.length ≤ sizeLine) (hr : Room k callerA)
    (F : ∀ base : Heap, K.In base → base.Ns mainGlobals mg → FnOk P w K mg base CX k fa fd [x] sp) (hbind : ∀ (s : Shared) (u : Value), BindsTo s fd ⟨[u], []⟩ [(x, u)])
    (hsp : ∀ H : Hp, Only H → SqL K H a (ns.map V.int) → sp [.ref a] H (fun v _ => v = .bl true) fun _ _ _ => False)
    (hCX : ∀ H e s', CX [] H s₁ (fun _ _ _ => False) e s' → False) :
    codeAny (model P w) callerA (.call (.ref fa) ⟨[.ref a], []⟩) (fun r s' => r = .ok (.ret (.bool true)) ∧ OldK s₁.heap s'.heap ∧ s'.os = s₁.os ∧ AllBare s'.gens) s₁ := by
  have rv := vals_ints hi
  have lenV := hi.length
  -- from an abstract heap in which nothing but the script may be tracked
  have core : ∀ H : Hp, Only H → SqL K H a (ns.map V.int) → HOk P w H s₁.heap → (∀ b, H b ≠ none → b = a) → (H a ≠ none → K.lookup a = none) →
      codeAny (model P w) callerA (.call (.ref fa) ⟨[.ref a], []⟩) (fun r s' => r = .ok (.ret (.bool true)) ∧ OldK s₁.heap s'.heap ∧ s'.os = s₁.os ∧ AllBare s'.gens) s₁ := by
    intro H hO hS hok hA hK
    have base_of : ∀ {b : Addr} {o : Obj}, s₁.heap.get? b = some o → H b = none → (hidT s₁.heap H).get? b = some o := fun e n => hidT_get e n
    have noA : ∀ {b : Addr} {o : Obj} {es : Array DictEntry} {ep : Nat}, s₁.heap.get? b = some o → o.data = .dict es ep → H b = none := fun {b o es ep} e d => by
      cases q : H b with
      | none => rfl
      | some u =>
        have e' : b = a := hA b (by rw [q]; simp)
        subst e'
        rw [ha] at e; cases e
        have d' : Data.seq vs.toArray _ = Data.dict es ep := d
        cases d'
    have nsK : ∀ {b : Addr} {m : Str → Option Value}, s₁.heap.Ns b m → (hidT s₁.heap H).Ns b m := fun {b m} ⟨o, es, ep, e, d, r⟩ => ⟨o, es, ep, base_of e (noA e d), d, r⟩
    have hKb : K.In (hidT s₁.heap H) := fun b o e => base_of (KX b o e) (by
      cases q : H b with
      | none => rfl
      | some u =>
        have e' : b = a := hA b (by rw [q]; simp)
        subst e'
        rw [hK (by rw [q]; simp)] at e; cases e)
    have hM : Mod K mg (hidT s₁.heap H) := ⟨hKb, nsK hns, ⟨mb, nsK hb, hbb⟩, let ⟨mc, h1, h2⟩ := hlim; ⟨mc, nsK h1, h2⟩⟩
    have e0 : Env0 P w K mg (hidT s₁.heap H) callerA [] s₁ H := ⟨rfl, hM, fun b o e => of_hidT e, Nat.le_of_eq (hidT_size _ _), trivial, fun b hb => absurd (show b ∈ ([] : List Addr) from hb) (by simp), hok, .of_eq hg⟩
    refine codeAny_mono ((F _ hKb (nsK hns)).run callerA [] s₁ H ⟨[.ref a], []⟩ [.ref a] [.ref a] _ _ hr e0 (hbind s₁ (.ref a)) (.cons rfl .nil) (hsp H hO hS)) fun r s' h => ?_
    cases r with
    | error e => exact (hCX H e s' h).elim
    | ok fl =>
      cases fl with
      | next => exact False.elim h
      | brk => exact False.elim h
      | cont => exact False.elim h
      | ret u =>
        obtain ⟨v, H', os, bare, un, hok', r', q⟩ := h
        have q' : v = .bl true := q
        subst q'
        obtain rfl : u = Value.bool true := r'
        refine ⟨rfl, OldK.of_keep fun b o e => ?_, os, bare⟩
        cases q : H b with
        | none => exact un.keep b o e q (by intro z; exact absurd (show b ∈ ([] : List Addr) from z) (by simp)) (by simp)
        | some u =>
          rcases hO b with z | ⟨ob, xs, z⟩
          · rw [q] at z; cases z
          · have z2 := un.frzs b ob _ z
            obtain ⟨e1, _⟩ := hok b _ z
            obtain ⟨e2, _⟩ := hok' b _ z2
            rw [e] at e1; cases e1
            exact e2
  cases hk : K.lookup a with
  | some o =>
    -- the script is one of the module's own objects
    have e := KX a o hk
    rw [ha] at e
    cases e
    refine core (fun _ => none) (fun _ => .inl rfl) (.inr ⟨_, vs.toArray, _, hk, rfl, rfl, rfl, by rw [List.size_toArray, lenV]; exact hl, by simpa using rv⟩) (fun b u z => by have z' : (none : Option HO) = some u := z; cases z') (fun b z => absurd rfl z) fun z => absurd rfl z
  | none =>
    refine core (fun b => if b = a then some (.frz { cls := .type "list", data := .seq vs.toArray } (.lst (ns.map V.int))) else none) (fun b => ?_) (.inl (.inr ⟨{ cls := .type "list", data := .seq vs.toArray }, if_pos rfl⟩)) (fun b u z => ?_) (fun b z => ?_) fun _ => hk
    · by_cases hb : b = a
      · exact .inr ⟨_, _, if_pos hb⟩
      · exact .inl (if_neg hb)
    · by_cases hb : b = a
      · have z' := (if_pos hb).symm.trans z
        cases z'
        subst hb
        exact ⟨ha, by rw [List.length_map]; exact hl, vs, _, rv, ha⟩
      · have z' := (if_neg hb).symm.trans z
        cases z'
    · by_cases hb : b = a
      · exact hb
      · exact absurd (if_neg hb) z
end L2
namespace L2
open PySem PySem.Spec PyProof.Rows
theorem walk_of {l : PySem.W.OpenLaw} {n k : Nat} {q : Program} {loose : List Str} {XP : (Str → Option Value) → Heap → Prop} {YP : World → Heap → Prop} {d : DefRec} {K : Params → PySem.W.Frag} {CX : World → CXT} {sp : World → Sp} {x : Str}
    (hn : l.most = some n) (hn2 : n ≤ sizeLine) (hdf : d.params.defaults = []) (hr : Room k callerA)
    (hY : ∀ (w : World) (h : Heap), YP w h → (K w.params).In h)
    (F : ∀ (w : World) (mg : Str → Option Value) (fa : Addr) (h : Heap), (K w.params).In h → h.Ns mainGlobals mg → mg d.name = some (.ref fa) →
      ∃ fd : FuncData, (∀ (s : Shared) (u : Value), BindsTo s fd ⟨[u], []⟩ [(x, u)]) ∧
        ∀ base : Heap, (K w.params).In base → base.Ns mainGlobals mg → FnOk l.prog w (K w.params) mg base (CX w) k fa fd [x] (sp w))
    (hsp : ∀ (w : World) (H : Hp) (a : Addr) (ns : List Int), ns.length ≤ n → Only H → SqL (K w.params) H a (ns.map V.int) → sp w [.ref a] H (fun v _ => v = .bl true) fun _ _ _ => False)
    (hCX : ∀ (w : World) (H : Hp) (s : Shared) (e : Value) (s' : Shared), CX w [] H s (fun _ _ _ => False) e s' → False) :
    PySem.W.WalkO q loose XP YP l.row.toRowW d [] (fun f vs => PySem.call f vs) := by
  refine Att.attach_call hn hdf fun w s₀ s₁ mg mb fa o pm cd doc a vs ns G Y ho hd hcd hmg hobj hints hlen hg => ?_
  have KX := hY w _ Y
  obtain ⟨fd, hb, hF⟩ := F w mg fa _ KX G.T.g hmg
  exact law_call KX G.T.g G.T.b G.T.builtins G.T.nolimit hg hobj hints (Nat.le_trans hlen hn2) hr hF hb (fun H hO hS => hsp w H a ns hlen hO hS) fun H e s' => hCX w H s₁ e s'
end L2
/- THE LAST THEOREM (shape; LID, My.* are yours):
   My.Adr: a structure of the addresses that your layer names (classes, functions); My.Txt K t: a structure (Prop) of the equations over K;
   My.txt_mk : {K} {implicit addresses ..} (e1 : nsIn K mainGlobals "law" = some (some (.ref f))) (e2 : K.lookup f = some ⟨oc, od, .func (fnOf "law" "law" params body scope dV kV doc pm an cdv ct), sl⟩) (e3 : codeIn K cdv "law" = true) .. : ∃ t, My.Txt K t
set_option maxRecDepth 100000 in
set_option maxHeartbeats 0 in
theorem PySem.Challenge.cw_LID_holds : PySem.Challenge.rw_LID.Holds := by
  w_on; o_law; k_head; (case hw => w_witness2)
  k_fill
  refine L2.walk_of (l := PySem.Challenge.rw_LID) (n := 63) (k := 40) (x := "script") (CX := fun w => ..) (sp := fun _ => My.sp_law) rfl (by decide) rfl ⟨rfl, by decide, by decide⟩ (fun w h Y => PySem.W.kIn_of Y) ?F ?S ?C
  case F =>
    intro w mg fa h KX G hmg
    have T : ∃ t, My.Txt (L2.KOf KX) t := by
      dsimp only [L2.KOf]                          -- K must stand as «<heap const> w.params» for k_is
      refine' My.txt_mk ?e1 ?e2 ?e3 ..
      (case e1 => PySem.W.k_is)                    -- in the order: a name -> its address -> its object -> its parts
      (case e2 => PySem.W.k_is)
      ..
    obtain ⟨t, T⟩ := T
    have e0 := hmg.symm.trans (PySem.W.mg_of KX G T.law)
    cases e0                                       -- fa is the law's own address
    exact ⟨_, fun s u => .of_eq rfl, fun base kb nb => My.law_fn T kb nb⟩     -- if «.of_eq rfl» comes too early: refine' ⟨_, ?b, fun base kb nb => My.law_fn T kb nb⟩; exact fun s u => .of_eq rfl
  case S => exact fun w H a ns hl hO hS => ..
  case C => exact ..
(the tactic k_is has no namespace: write k_is) -/
namespace L2
open PySem PySem.Spec PyProof.Rows
noncomputable def inClass (s : Stmt) (j : Nat) : Stmt := match s with
  | .ClassDef _ _ _ body _ _ _ _ _ _ _ => body.getD j (.Pass ⟨0, 0, 0, 0⟩)
  | _ => .Pass ⟨0, 0, 0, 0⟩
noncomputable def defArgs (s : Stmt) : Arguments := match s with
  | .FunctionDef _ a _ _ _ _ _ _ _ _ => a
  | _ => { posonlyargs := [], args := [], vararg := none, kwonlyargs := [], kw_defaults := [], kwarg := none, defaults := [] }
noncomputable def defBody (s : Stmt) : List Stmt := match s with
  | .FunctionDef _ _ b _ _ _ _ _ _ _ => b
  | _ => []
noncomputable def defScope (s : Stmt) : Scope := match s with
  | .FunctionDef _ _ _ _ _ _ sc _ _ _ => sc
  | _ => { kind := .function, names := [], isGenerator := false, isCoroutine := false }
noncomputable abbrev E0 : St → XK := fun _ _ _ _ => False
section
variable {P : Program} {w : World} {K : PySem.W.Frag} {mg : Str → Option Value} {base : Heap}
end
theorem small1000 {n : Nat} (h : n ≤ 1000) : n < sizeLine := Nat.lt_of_le_of_lt h (by decide)
section
variable {X : Cx}
theorem pv (i : Nat) {x : Str} {pos : Pos} (hN : X.N[i]? = some x := by rfl) (hv : Vis X.env.scope x := by first | exact Or.inl rfl | exact Or.inr (Or.inl rfl) | exact Or.inr (Or.inr rfl)) (hd : (x == ("__debug__" : Str)) = false := by decide)
    (hcd : (x == ("__classdict__" : Str)) = false := by decide) : PE X (.Name x pos) (tVar i) := pe_var hN hv hd hcd
end
theorem iteT {A B : Prop} (h : A) : if true = true then A else B := by
  rw [if_pos rfl]
  exact h
theorem ite2 {c A B : Prop} [Decidable c] (h1 : c → A) (h2 : ¬ c → B) : if c then A else B := by
  by_cases h : c
  · rw [if_pos h]
    exact h1 h
  · rw [if_neg h]
    exact h2 h
noncomputable def Same (H H' : Hp) : Prop := ∀ b o, H b = some o → H' b = some o
theorem Same.refl (H : Hp) : Same H H := fun _ _ h => h
theorem Same.trans {H H1 H2 : Hp} (a : Same H H1) (b : Same H1 H2) : Same H H2 := fun c o h => b c o (a c o h)
theorem Same.free {H H' : Hp} (e : Same H H') {l : Addr} (h : H' l = Option.none) : H l = Option.none := by
  cases q : H l with
  | none => rfl
  | some o =>
    rw [e l o q] at h
    cases h
end L2
namespace L2
open PySem PySem.Spec PyProof.Rows
theorem cellsFrom_app : ∀ (names : List (Str × NameKind)) (n : Nat) (acc : List (Str × Addr)), cellsFrom n names acc = cellsFrom n names [] ++ acc
  | [], _, _ => rfl
  | (x, k) :: r, n, acc => by
    unfold cellsFrom
    split
    · rw [cellsFrom_app r (n + 1) ((x, n) :: acc), cellsFrom_app r (n + 1) [(x, n)], List.append_assoc]
      rfl
    · exact cellsFrom_app r n acc
theorem mem_cellsFrom : ∀ {names : List (Str × NameKind)} {n : Nat} {x : Str} {c : Addr}, (x, c) ∈ cellsFrom n names [] → (x, NameKind.cell) ∈ names
  | [], _, _, _, h => by cases h
  | (y, k) :: r, n, x, c, h => by
    unfold cellsFrom at h
    split at h
    · rename_i hk
      rw [cellsFrom_app] at h
      rcases List.mem_append.mp h with h | h
      · exact List.mem_cons_of_mem _ (mem_cellsFrom h)
      · obtain ⟨rfl, _⟩ : x = y ∧ c = n := by simpa using h
        obtain rfl : k = .cell := by simpa using hk
        exact List.mem_cons_self
    · exact List.mem_cons_of_mem _ (mem_cellsFrom h)
noncomputable def cloF (cells : List (Str × Addr)) : List (Str × NameKind) → List (Str × Addr) → List (Str × Addr)
  | [], acc => acc
  | (x, k) :: r, acc => if k == .free then cloF cells r ((x, (cells.lookup x).getD 0) :: acc) else cloF cells r acc
theorem mem_cloF {cells : List (Str × Addr)} : ∀ {names : List (Str × NameKind)} {acc : List (Str × Addr)} {x : Str} {c : Addr}, (x, c) ∈ cloF cells names acc → (x, c) ∈ acc ∨ ((x, NameKind.free) ∈ names ∧ c = (cells.lookup x).getD 0)
  | [], _, _, _, h => .inl h
  | (y, k) :: r, acc, x, c, h => by
    unfold cloF at h
    split at h
    · rename_i hk
      obtain rfl : k = .free := by simpa using hk
      rcases mem_cloF h with h | ⟨h, e⟩
      · rcases List.mem_cons.mp h with h | h
        · cases h
          exact .inr ⟨List.mem_cons_self, rfl⟩
        · exact .inl h
      · exact .inr ⟨List.mem_cons_of_mem _ h, e⟩
    · rcases mem_cloF h with h | ⟨h, e⟩
      · exact .inl h
      · exact .inr ⟨List.mem_cons_of_mem _ h, e⟩
theorem cloF_acc {cells : List (Str × Addr)} : ∀ {names : List (Str × NameKind)} {acc : List (Str × Addr)} {p : Str × Addr}, p ∈ acc → p ∈ cloF cells names acc
  | [], _, _, h => h
  | (y, k) :: r, acc, p, h => by
    unfold cloF
    split
    · exact cloF_acc (List.mem_cons_of_mem _ h)
    · exact cloF_acc h
theorem cloF_mem {cells : List (Str × Addr)} : ∀ {names : List (Str × NameKind)} {acc : List (Str × Addr)} {x : Str}, (x, NameKind.free) ∈ names → (x, (cells.lookup x).getD 0) ∈ cloF cells names acc
  | [], _, _, h => by cases h
  | (y, k) :: r, acc, x, h => by
    unfold cloF
    rcases List.mem_cons.mp h with h | h
    · cases h
      rw [if_pos (by decide)]
      exact cloF_acc List.mem_cons_self
    · split
      · exact cloF_mem h
      · exact cloF_mem h
theorem lookup_isSome {α : Type} : ∀ {l : List (Str × α)} {x : Str} {c : α}, (x, c) ∈ l → ∃ d, l.lookup x = some d
  | [], _, _, h => by cases h
  | (y, d) :: r, x, c, h => by
    rw [List.lookup_cons]
    cases hb : x == y with
    | true => exact ⟨d, rfl⟩
    | false =>
      rcases List.mem_cons.mp h with h | h
      · cases h
        simp at hb
      · exact lookup_isSome h
theorem lookup_nodup {α : Type} : ∀ {l : List (Str × α)} {x : Str} {c : α}, (l.map (·.1)).Nodup → (x, c) ∈ l → l.lookup x = some c
  | [], _, _, _, h => by cases h
  | (y, d) :: r, x, c, nd, h => by
    rw [List.map_cons] at nd
    obtain ⟨n1, n2⟩ := List.nodup_cons.mp nd
    rw [List.lookup_cons]
    rcases List.mem_cons.mp h with h | h
    · cases h
      simp
    · have : x ≠ y := fun e => n1 (e ▸ List.mem_map_of_mem (f := (·.1)) h)
      rw [beq_eq_false_iff_ne.mpr this]
      exact lookup_nodup n2 h
theorem clo_for {env : Env} (f : Str × NameKind → List (Str × Addr) → Sem (ForInStep (List (Str × Addr))))
    (hf : ∀ name kind cs, f (name, kind) cs = if kind == .free then (do let a ← cellOf env name; pure (.yield ((name, a) :: cs))) else pure (.yield cs)) :
    ∀ (names : List (Str × NameKind)) (acc : List (Str × Addr)), (∀ y ∈ names, y.2 = .free → ∃ c, env.cells.lookup y.1 = some c) → forIn names acc f = pure (cloF env.cells names acc)
  | [], _, _ => by rw [List.forIn_nil]; rfl
  | (x, k) :: r, acc, h => by
    rw [List.forIn_cons, hf]
    unfold cloF
    have hr : ∀ y ∈ r, y.2 = .free → ∃ c, env.cells.lookup y.1 = some c := fun y hy => h y (List.mem_cons_of_mem _ hy)
    by_cases hk : (k == NameKind.free) = true
    · rw [if_pos hk, if_pos hk]
      obtain ⟨c, hc⟩ := h (x, k) List.mem_cons_self (by simpa using hk)
      have hc' : env.cells.lookup x = some c := hc
      have e : cellOf env x = pure c := by unfold cellOf; rw [hc']
      rw [e, hc']
      simp only [pure_bind]
      exact clo_for f hf r _ hr
    · rw [if_neg hk, if_neg hk]
      simp only [pure_bind]
      exact clo_for f hf r _ hr
theorem closure_eq {scope : Scope} {env : Env} (h : ∀ y ∈ scope.names, y.2 = .free → ∃ c, env.cells.lookup y.1 = some c) : closureFor scope env = pure (cloF env.cells scope.names []) := by
  simp only [closureFor]
  rw [clo_for (env := env) _ (fun name kind cs => by cases hk : kind == NameKind.free <;> simp [hk]) scope.names [] h]
  rfl
theorem env_comp {M : Model} {A : Around} {E : Value → Shared → Prop} {s : Shared} {scope : Scope} {globals : Addr} {cl : List (Str × Addr)} {qual : Str} {env : Env} {Q : Env → Shared → Prop}
    (hQ : ∀ h' : Heap, h'.Ns s.heap.objs.size (fun _ => none) → (∀ b o, s.heap.get? b = some o → h'.get? b = some o) →
      (∀ n c, (n, c) ∈ cellsFrom (s.heap.objs.size + 1) scope.names [] → h'.IsCell c none ∧ s.heap.objs.size + 1 ≤ c) →
      ((cellsFrom (s.heap.objs.size + 1) scope.names []).Pairwise fun x y => x.2 ≠ y.2) →
      Q (newEnv scope s.heap.objs.size globals (cellsFrom (s.heap.objs.size + 1) scope.names cl) qual none .none (some env) builtinsNs) { s with heap := h' }) :
    wpAny M A (newFunctionEnv scope globals cl [] qual none .none (some env)) Q E s := by
  simp only [newFunctionEnv, Option.isSome_some, if_true]
  refine wpAny_bind (wpAny_alloc ?_)
  refine wpAny_bind (wpAny_layCells _ (fun name kind cells => by cases hkc : kind == NameKind.cell <;> simp [hkc]) _ _ _ _ ?_)
  have ok := cellsFrom_ok scope.names (s.heap.push { cls := .type "dict", data := .dict #[] }) (s.heap.objs.size + 1) [] ⟨fun _ _ hm => (nomatch hm), List.Pairwise.nil⟩ (by rw [Heap.size_push]; exact Nat.le_refl _)
  rw [Heap.size_push] at ok
  rw [show ({ s with heap := s.heap.push { cls := .type "dict", data := .dict #[] } } : Shared).heap.objs.size = s.heap.objs.size + 1 from Heap.size_push ..]
  have fin := hQ (pushCells (s.heap.push { cls := .type "dict", data := .dict #[] }) scope.names) ((Heap.Ns.new s.heap (.type "dict")).keeps (pushCells_keeps _ _)) (fun b o e => pushCells_keeps _ _ b o (Heap.get?_push_of_some _ e)) ok.empty ok.apart
  exact wpAny_bind (wpAny_pure (wpAny_pure fin))
noncomputable abbrev cxComp (X : Cx) (Nc : List Str) (scope : Scope) (cl : List (Str × Addr)) (C : Addr) (fp : List Addr) (s : Shared) (H : Hp) : Cx :=
  { X with N := Nc, s₀ := s, H₀ := H, env := compEnvC scope cl C X.env, outer := X.stack, stack := X.stack, ex := fp, fn := fun x => scope.names.lookup x != some .free, pn := [], xe := fun _ _ => False }
theorem mem_relabel {scope : Scope} {env : Env} {y : Str × NameKind} (h : y ∈ (relabel scope env).names) : y ∈ scope.names ∨ (y.2 = .cell ∧ (y.1, NameKind.free) ∈ scope.names) := by
  obtain ⟨⟨n, k⟩, hm, e⟩ := List.mem_map.mp h
  dsimp only at e
  split at e
  · rename_i hk
    cases e
    simp only [Bool.and_eq_true, beq_iff_eq] at hk
    obtain ⟨⟨hk, _⟩, _⟩ := hk
    subst hk
    exact .inr ⟨rfl, hm⟩
  · cases e
    exact .inl hm
theorem inv_comp {X : Cx} {pins : List (Addr × Obj)} {σ : St} {H : Hp} {s : Shared} {Nc vars : List Str} {caps : List Nat} {scope : Scope} {fp : List Addr} {h' : Heap} (I : Inv X pins σ H s)
    (hk : scope.kind = .function) (hnd : (scope.names.map (·.1)).Nodup) (hfree : ∀ y ∈ scope.names, y.2 = .free → X.env.kindOf y.1 = some .cell ∨ X.env.kindOf y.1 = some .free)
    (hNc : Nc = vars ++ caps.map (fun j => X.N.getD j Str.empty)) (hcap : ∀ j ∈ caps, j < X.N.length ∧ scope.names.lookup (X.N.getD j Str.empty) = some .free)
    (hfp : ∀ b ∈ fp, FpOk X pins H b) (hfo : ∀ b ∈ fp, ∃ o, s.heap.get? b = some o) (ns : h'.Ns s.heap.objs.size fun _ => none) (keep : ∀ b o, s.heap.get? b = some o → h'.get? b = some o)
    (ce : ∀ n c, (n, c) ∈ cellsFrom (s.heap.objs.size + 1) scope.names [] → h'.IsCell c none ∧ s.heap.objs.size + 1 ≤ c) (ca : (cellsFrom (s.heap.objs.size + 1) scope.names []).Pairwise fun x y => x.2 ≠ y.2) :
    Inv (cxComp X Nc scope (cellsFrom (s.heap.objs.size + 1) scope.names (cloF X.env.cells scope.names [])) s.heap.objs.size fp s H) [] (List.replicate vars.length none ++ caps.map (fun j => σ.getD j none)) H { s with heap := h' } := by
  -- the cells
  have old : ∀ {x : Str} {c : Addr}, (x, c) ∈ cloF X.env.cells scope.names [] → X.env.cells.lookup x = some c ∧ (x, NameKind.free) ∈ scope.names := fun {x c} h => by
    rcases mem_cloF h with h | ⟨hm, e⟩
    · cases h
    · obtain ⟨d, hd⟩ := I.ok.has x (hfree _ hm rfl)
      rw [hd] at e
      exact ⟨by rw [hd, e]; rfl, hm⟩
  have cases2 : ∀ {x : Str} {c : Addr}, (cellsFrom (s.heap.objs.size + 1) scope.names (cloF X.env.cells scope.names [])).lookup x = some c →
      (x, c) ∈ cellsFrom (s.heap.objs.size + 1) scope.names [] ∨ (X.env.cells.lookup x = some c ∧ (x, NameKind.free) ∈ scope.names) := fun {x c} h => by
    have h := PySem.mem_of_lookup h
    rw [cellsFrom_app] at h
    rcases List.mem_append.mp h with h | h
    · exact .inl h
    · exact .inr (old h)
  have freeC : ∀ {x : Str}, (x, NameKind.free) ∈ scope.names → ∃ c, X.env.cells.lookup x = some c ∧ (cellsFrom (s.heap.objs.size + 1) scope.names (cloF X.env.cells scope.names [])).lookup x = some c := fun {x} hm => by
    obtain ⟨d, hd⟩ := I.ok.has x (hfree _ hm rfl)
    have e := cloF_mem (cells := X.env.cells) (acc := []) hm
    obtain ⟨c, hc⟩ := lookup_isSome (l := cellsFrom (s.heap.objs.size + 1) scope.names (cloF X.env.cells scope.names [])) (x := x) (c := (X.env.cells.lookup x).getD 0) (by rw [cellsFrom_app]; exact List.mem_append_right _ e)
    rcases cases2 hc with z | ⟨z, _⟩
    · have z1 := lookup_nodup hnd (mem_cellsFrom z)
      rw [lookup_nodup hnd hm] at z1
      cases z1
    · exact ⟨c, z, hc⟩
  have oldlt : ∀ {x : Str} {c : Addr}, X.env.cells.lookup x = some c → c < s.heap.objs.size := fun {x c} h => let ⟨v, q⟩ := I.cell x c h; q.lt
  have nofr : H s.heap.objs.size = none := I.hok.fresh (Nat.le_refl _)
  have fsub : ∀ b ∈ frs X.stack, b ∈ X.env.locals :: X.fs := I.stkSub
  refine ⟨⟨I.ok.mod, hk, I.ok.glob, I.ok.blt, Nat.le_refl _, fun x y c h1 h2 => ?_, fun x hx => ?_, fun x c hf h => ?_, I.ok.hd, I.ok.frames, .inl rfl, fun b hb => ⟨?_, fun x c h e => ?_⟩, I.bs, Nat.le_trans I.ok.bsz I.sz, fun b o e hb => ?_, fun b hb hf => ?_, I.stack, I.stkFree⟩,
    rfl, I.bare, Un.kept keep, ⟨_, ns, fun i x v e1 e2 e3 => ?_⟩, fun x c h => ?_, nofr, fun x c h => ?_, fun p hp => absurd hp (by simp), I.hok.kept keep, ?_⟩
  · rcases cases2 h1 with z1 | ⟨z1, _⟩ <;> rcases cases2 h2 with z2 | ⟨z2, _⟩
    · exact name_of_addr ca z1 z2
    · exact absurd (Nat.lt_of_lt_of_le (oldlt z2) (Nat.le_trans (Nat.le_succ _) (ce _ _ z1).2)) (Nat.lt_irrefl _)
    · exact absurd (Nat.lt_of_lt_of_le (oldlt z1) (Nat.le_trans (Nat.le_succ _) (ce _ _ z2).2)) (Nat.lt_irrefl _)
    · exact I.ok.inj _ _ _ z1 z2
  · -- has
    have hx : (relabel scope X.env).names.lookup x = some .cell ∨ (relabel scope X.env).names.lookup x = some .free := hx
    have hm : (x, NameKind.cell) ∈ scope.names ∨ (x, NameKind.free) ∈ scope.names := by
      rcases hx with hx | hx
      · rcases mem_relabel (PySem.mem_of_lookup hx) with z | ⟨_, z⟩
        · exact .inl z
        · exact .inr z
      · rcases mem_relabel (PySem.mem_of_lookup hx) with z | ⟨_, z⟩
        · exact .inr z
        · exact .inr z
    rcases hm with hm | hm
    · have q := PySem.W.cellsFrom_some scope.names (s.heap.objs.size + 1) (cloF X.env.cells scope.names []) (x := x) (.inl (lookup_nodup hnd hm))
      exact Option.isSome_iff_exists.mp q
    · obtain ⟨c, _, hc⟩ := freeC hm
      exact ⟨c, hc⟩
  · -- cab
    rcases cases2 h with z | ⟨_, z⟩
    · exact Nat.le_trans (Nat.le_succ _) (ce _ _ z).2
    · have z' : (scope.names.lookup x != some .free) = true := hf
      rw [lookup_nodup hnd z] at z'
      exact absurd z' (by decide)
  · obtain ⟨o, e⟩ := hfo b hb
    exact Nat.ne_of_lt (Heap.lt_size e)
  · rcases cases2 h with z | ⟨z, _⟩
    · obtain ⟨o, e'⟩ := hfo b hb
      subst e
      exact absurd (Nat.lt_of_lt_of_le (Heap.lt_size e') (Nat.le_trans (Nat.le_succ _) (ce _ _ z).2)) (Nat.lt_irrefl _)
    · exact (hfp b hb).2.2.2.2.1 x c z e
  · obtain ⟨_, _, _, h4, _⟩ := hfp b hb
    rcases h4 with z | z
    · exact I.ok.noex b o e z
    · exact absurd (Nat.lt_of_lt_of_le (Heap.lt_size (I.ok.bs b o e).1) z) (Nat.lt_irrefl _)
  · obtain ⟨_, h2, h3, _⟩ := hfp b hb
    rcases List.mem_cons.mp (fsub b hf) with z | z
    · exact h2 z
    · exact h3 z
  · -- the names' values
    have hi : ¬ i < vars.length := fun hi => by
      rw [List.getElem?_append_left (by simpa using hi), List.getElem?_replicate] at e2
      split at e2 <;> cases e2
    have e1' : (vars ++ caps.map (fun j => X.N.getD j Str.empty))[i]? = some x := by rw [← hNc]; exact e1
    rw [List.getElem?_append_right (by omega)] at e1'
    rw [List.getElem?_append_right (by simpa using hi)] at e2
    rw [List.length_replicate] at e2
    cases q : caps[i - vars.length]? with
    | none => rw [List.getElem?_map, q] at e2; cases e2
    | some j =>
      rw [List.getElem?_map, q] at e1' e2
      have e1'' : X.N.getD j Str.empty = x := Option.some.inj e1'
      have e2' : σ.getD j none = some v := Option.some.inj e2
      obtain ⟨hj, hfr⟩ := hcap j (List.mem_of_getElem? q)
      rw [e1''] at hfr
      obtain ⟨c, hc, hc'⟩ := freeC (PySem.mem_of_lookup hfr)
      have hNj : X.N[j]? = some x := by
        rw [← e1'', List.getD_eq_getElem?_getD, List.getElem?_eq_getElem hj]; rfl
      have hσj : σ[j]? = some (some v) := by
        have hl : j < σ.length := by rw [I.len]; exact hj
        rw [List.getD_eq_getElem?_getD, List.getElem?_eq_getElem hl] at e2'
        rw [List.getElem?_eq_getElem hl]
        exact congrArg some e2'
      have hkx := hfree _ (PySem.mem_of_lookup hfr) rfl
      obtain ⟨m, hn, hl⟩ := I.loc
      obtain ⟨u, r, l⟩ := hl j x v hNj hσj (hkx.elim (fun z => .inr (.inl z)) fun z => .inr (.inr z))
      refine ⟨u, r, .inr ⟨?_, c, hc', ?_⟩⟩
      · rcases e3 with z | z | z
        · exfalso
          rcases mem_relabel (PySem.mem_of_lookup z) with y | ⟨y, _⟩
          · rw [lookup_nodup hnd y] at hfr; cases hfr
          · cases y
        · exact .inl z
        · exact .inr z
      · rcases l with ⟨l, _⟩ | ⟨_, c', e, z⟩
        · exfalso
          rcases hkx with y | y
          · have y' : X.env.kindOf x = some .cell := y
            rw [l] at y'; cases y'
          · have y' : X.env.kindOf x = some .free := y
            rw [l] at y'; cases y'
        · rw [hc] at e
          cases e
          exact z.keeps keep
  · rcases cases2 h with z | ⟨z, _⟩
    · exact ⟨none, (ce _ _ z).1⟩
    · obtain ⟨v, q⟩ := I.cell x c z
      exact ⟨v, q.keeps keep⟩
  · rcases cases2 h with z | ⟨z, _⟩
    · exact I.hok.fresh (Nat.le_trans (Nat.le_succ _) (ce _ _ z).2)
    · exact I.freeC x c z
  · show _ = Nc.length
    rw [hNc, List.length_append, List.length_append, List.length_replicate, List.length_map, List.length_map]
end L2
namespace L2
open PySem PySem.Spec PyProof.Rows
noncomputable abbrev TB := St → Hp → (St → Hp → Prop) → Prop
noncomputable def bodyOf (elt : Expr) (gens : List Comprehension) (scope : Scope) (pos : Pos) (d : Nat) (acc : Value) (env : Env) (k : Sem PySem.Fin) : Sem PySem.Fin :=
  match gens[d + 1]? with
  | some g' => do
    let x ← eval g'.iter env
    standAt g'.iter.pos
    let x ← if g'.is_async != 0 then foldedIterable g'.iter x else foldedSetIterable g'.iter env x
    let _ ← runOwn (.compStart (.ListComp elt gens scope pos) (d + 1) (← holding [x] (if g'.is_async != 0 then asyncIter x else pyIter x)) acc env) env
    k
  | none => do
    (do let _ ← call (.builtin "list.append") [acc, ← eval elt env])
    k
theorem compTurn_gen {elt target iter : Expr} {ifs : List Expr} {gens : List Comprehension} {scope : Scope} {pos : Pos} {d : Nat} {it acc : Value} {env : Env} (hg : gens[d]? = some ⟨target, iter, ifs, 0⟩) :
    compTurn (.ListComp elt gens scope pos) d it acc env = (do
      standAt iter.pos
      match ← pyNext it with
      | none => pure (.done .next)
      | some v =>
        letOwnedTupleGo target it v
        assign target env v
        let mut ok := true
        for c in ifs do
          if ok then ok ← isTrue c env (eval c env)
        if ok then bodyOf elt gens scope pos d acc env (again (.compLoop (.ListComp elt gens scope pos) d it acc env))
        else again (.compLoop (.ListComp elt gens scope pos) d it acc env)) := by
  unfold compTurn bodyOf
  dsimp only
  rw [hg]
  dsimp only
  cases gens[d + 1]? <;> rfl
section
variable {prog : Program} {w : World} {A : Around} {R : Result → Shared → Prop} {s : Shared}
theorem loop_gen {elt target iter : Expr} {ifs : List Expr} {gens : List Comprehension} {scope : Scope} {pos : Pos} {d : Nat} {it acc : Value} {env : Env} (hg : gens[d]? = some ⟨target, iter, ifs, 0⟩) (I : Nat → Shared → Prop)
    (turn : ∀ n s, I n s → wpAny (model prog w) A (pyNext it) (fun r s₁ => match r with
      | none => R (.ok .next) s₁
      | some v => wpAny (model prog w) A (letOwnedTupleGo target it v) (fun _ s₁' => wpAny (model prog w) A (assign target env v) (fun _ s₂ =>
          wpAny (model prog w) A (forIn ifs true fun c r => if r = true then do let ok ← isTrue c env (eval c env); pure (ForInStep.yield ok) else pure (ForInStep.yield r)) (fun ok s₃ =>
            if ok = true then ∀ (k : Sem PySem.Fin) (Q' : PySem.Fin → Shared → Prop) (E' : Value → Shared → Prop), (∀ s₄ m, m < n → I m s₄ → wpAny (model prog w) A k Q' E' s₄) → wpAny (model prog w) A (bodyOf elt gens scope pos d acc env k) Q' E' s₃
            else ∃ m, m < n ∧ I m s₃) (fun _ _ => False) s₂) (fun _ _ => False) s₁') (fun _ _ => False) s₁) (fun _ _ => False) s)
    (n : Nat) (h : I n s) :
    codeAny (model prog w) A (.compLoop (.ListComp elt gens scope pos) d it acc env) R s := by
  refine codeAny_loop rfl I (fun n s hI => ?_) n h
  show wpAny _ A ((compTurn (.ListComp elt gens scope pos) d it acc env).onRaise (fun x => do noteFrame x env; theTreesLotGoes x)) _ _ s
  refine wpAny_noted ?_
  rw [compTurn_gen hg]
  refine wpAny_bind (wpAny_standAt (wpAny_bind (wpAny_mono (turn n s hI) (fun r s₁ h₁ => ?_) fun _ _ h' => h'.elim)))
  cases r with
  | none => exact wpAny_pure h₁
  | some v =>
    refine wpAny_bind (wpAny_mono h₁ (fun _ s₁' h₁' => ?_) fun _ _ h' => h'.elim)
    refine wpAny_bind (wpAny_mono h₁' (fun _ s₂ h₂ => wpAny_bind (wpAny_mono h₂ (fun ok s₃ h₃ => ?_) fun _ _ h' => h'.elim)) fun _ _ h' => h'.elim)
    cases ok with
    | false => exact wpAny_pure ⟨rfl, h₃⟩
    | true => exact h₃ _ _ _ fun s₄ m hm hI => wpAny_pure ⟨rfl, m, hm, hI⟩
theorem start_gen {elt target iter : Expr} {ifs : List Expr} {gens : List Comprehension} {scope : Scope} {pos : Pos} {d : Nat} {it acc : Value} {env : Env} (hg : gens[d]? = some ⟨target, iter, ifs, 0⟩)
    (h0 : codeAny (model prog w) A (.compLoop (.ListComp elt gens scope pos) d it acc env) R s)
    (h : wpAny (model prog w) A (pyIter it) (fun it' s' => codeAny (model prog w) A (.compLoop (.ListComp elt gens scope pos) d it' acc env) R s') (fun _ _ => False) s) :
    codeAny (model prog w) A (.compStart (.ListComp elt gens scope pos) d it acc env) R s := by
  refine codeAny_of_tree ?_
  show wpAny _ _ ((compStart (.ListComp elt gens scope pos) d it acc env).onRaise (fun x => do noteFrame x env; standAt theWindowsPlace)) _ _ s
  refine wpAny_notedAt ?_
  unfold compStart
  have hg' : (clausesOf (.ListComp elt gens scope pos))[d]? = some ⟨target, iter, ifs, 0⟩ := hg
  generalize (clausesOf (.ListComp elt gens scope pos))[d]? = og at hg' ⊢
  subst hg'
  show wpAny _ _ (ask >>= _) _ _ s
  refine wpAny_bind (wpAny_askSetting (wpAny_ite ?_))
  split
  · first
      | exact wpAny_bind (wpAny_pure (wpAny_pure (And.intro rfl h0)))
      | exact wpAny_pure (And.intro rfl h0)
  · first
      | exact wpAny_bind (wpAny_rule (wpAny_bind (wpAny_standAt (wpAny_bind (wpAny_mono h (fun it' s' h' => wpAny_pure (And.intro rfl h')) fun _ _ x => x.elim)))))
      | (refine wpAny_bind (wpAny_rule ?_); show wpAny _ _ (standAt iter.pos >>= _) _ _ s; exact wpAny_bind (wpAny_standAt (wpAny_bind (wpAny_mono h (fun it' s' h' => wpAny_pure (And.intro rfl h')) fun _ _ x => x.elim))))
end
noncomputable def PIfs (X : Cx) (ifs : List Expr) (t : TT) : Prop :=
  ∀ (pins : List (Addr × Obj)) (s : Shared) (σ : St) (H : Hp) (Q : Bool → Hp → Prop), Inv X pins σ H s → t σ H Q →
    wpAny (model X.prog X.w) X.A (forIn ifs true fun c r => if r = true then do let ok ← isTrue c X.env (eval c X.env); pure (ForInStep.yield ok) else pure (ForInStep.yield r)) (TP X pins σ Q) X.xe s
noncomputable def tIf0 : TT := fun _ H Q => Q true H
theorem pifs_nil {X : Cx} : PIfs X [] tIf0 := fun _ _ _ H _ I h => wpAny_pure ⟨H, I, h⟩
theorem pifs_one {X : Cx} {c : Expr} {t : TT} (hc : PT X c t) : PIfs X [c] t := fun pins s σ H Q I h => by
  simp only [List.forIn_cons, List.forIn_nil, if_true]
  exact wpAny_bind (wpAny_bind (wpAny_mono (hc pins s σ H Q I h) (fun b s' hb => wpAny_pure (wpAny_pure hb)) fun _ _ x => x))
noncomputable def PB (X : Cx) (elt : Expr) (gens : List Comprehension) (scope : Scope) (pos : Pos) (d : Nat) (D : Addr) (t : TB) : Prop :=
  ∀ (pins : List (Addr × Obj)) (s : Shared) (σ : St) (H : Hp) (Q : St → Hp → Prop), Inv X pins σ H s → t σ H Q →
    ∀ (k : Sem PySem.Fin) (Q' : PySem.Fin → Shared → Prop) (E' : Value → Shared → Prop), (∀ s' σ' H', Inv X pins σ' H' s' → Q σ' H' → wpAny (model X.prog X.w) X.A k Q' E' s') → wpAny (model X.prog X.w) X.A (bodyOf elt gens scope pos d (.ref D) X.env k) Q' E' s
noncomputable def cLoop (J : It) (g : TG) (tt : TT) (tb : TB) : TB := fun σ H Q => ∃ W : Nat → Nat → St → Hp → Prop, (∃ m, W 0 m σ H) ∧ ∀ i m σ H, W i m σ H →
  (J.stop i H ∧ Q σ H) ∨ (J.go i H ∧ ∃ N : St → Hp → Prop, (∀ σ' H', N σ' H' → ∃ m', m' < m ∧ W (i + 1) m' σ' H') ∧ ∀ x H', J.yld i H x H' → g x σ H' fun σ2 H2 => tt σ2 H2 fun b H3 => if b = true then tb σ2 H3 N else N σ2 H3)
noncomputable def cEmit (D : Addr) (te : TE) : TB := fun σ H Q => te σ H fun v H1 => ∃ xs, H1 D = some (.lst xs) ∧ xs.length < sizeLine ∧ Q σ (upd H1 D (.lst (xs ++ [v])))
noncomputable def cNext (wi : TI) (lp : It → TB) : TB := fun σ H Q => wi σ H fun J H1 => lp J σ H1 Q
section
variable {X : Cx} {elt target iter : Expr} {ifs : List Expr} {gens : List Comprehension} {scope : Scope} {pos : Pos} {d : Nat} {D : Addr}
theorem comp_loop {g : TG} {tt : TT} {tb : TB} (hg : gens[d]? = some ⟨target, iter, ifs, 0⟩) (hc : X.calm = true) (hxe : X.xe = fun _ _ => False) (hgt : PG X target g) (hts : PIfs X ifs tt) (hb : PB X elt gens scope pos d D tb)
    {it : Addr} {fp : List Addr} {tn : Nat → Heap → Prop} {J : It} {pins : List (Addr × Obj)} {s : Shared} {σ : St} {H : Hp} {Q : St → Hp → Prop}
    (I : Inv X pins σ H s) (T : Turn X.prog X.w X.K target J fp it tn) (st : tn 0 s.heap) (hf : ∀ b ∈ fp, FpOk X pins H b) (h : cLoop J g tt tb σ H Q) :
    codeAny (model X.prog X.w) X.A (.compStart (.ListComp elt gens scope pos) d (.ref it) (.ref D) X.env) (fun r s' => r = .ok .next ∧ ∃ σ' H', Inv X pins σ' H' s' ∧ Q σ' H') s := by
  obtain ⟨W, ⟨m0, w0⟩, turn⟩ := h
  have stat : ∀ {H' : Hp}, (∀ b ∈ fp, H' b = none) → ∀ b ∈ fp, FpOk X pins H' b := fun hn b hb => ⟨hn b hb, (hf b hb).2⟩
  have loop : codeAny (model X.prog X.w) X.A (.compLoop (.ListComp elt gens scope pos) d (.ref it) (.ref D) X.env) (fun r s' => r = .ok .next ∧ ∃ σ' H', Inv X pins σ' H' s' ∧ Q σ' H') s := by
    refine loop_gen hg (fun n s' => ∃ i σ' H', Inv X pins σ' H' s' ∧ tn i s'.heap ∧ (∀ b ∈ fp, H' b = none) ∧ W i n σ' H') ?_ m0 ⟨0, σ, H, I, st, fun b hb => (hf b hb).1, w0⟩
    rintro n s3 ⟨i, σ3, H3, I3, st3, fr3, w3⟩
    rcases turn i n σ3 H3 w3 with ⟨stop, qn⟩ | ⟨go, N, hN, step⟩
    · refine thn (T.done X rfl rfl rfl hc i pins s3 σ3 H3 _ I3 (stat fr3) st3 stop) fun r s4 ⟨hr, I4⟩ => ?_
      subst hr
      exact ⟨rfl, σ3, H3, I4, qn⟩
    · refine thn (T.item X rfl rfl rfl hc i pins s3 σ3 H3 _ I3 (stat fr3) st3 go) fun r s4 h_ => ?_
      obtain ⟨u, hr, h4⟩ := h_
      subst hr
      refine thn h4 fun _ s5 h_ => ?_
      obtain ⟨x, H5, I5, r5, y5, st5, fr5⟩ := h_
      have I5' := I5.pinned (stat fr5) (T.obj _ _ st5)
      have again : ∀ {σ7 : St} {H7 : Hp} {s7 : Shared}, Inv X (pins ++ pinsAt fp s5.heap) σ7 H7 s7 → N σ7 H7 → ∃ m, m < n ∧ ∃ i σ' H', Inv X pins σ' H' s7 ∧ tn i s7.heap ∧ (∀ b ∈ fp, H' b = none) ∧ W i m σ' H' := fun {σ7 H7 s7} I7 n7 => by
        obtain ⟨m', hm, w7⟩ := hN σ7 H7 n7
        refine ⟨m', hm, i + 1, σ7, H7, I7.unpinned, T.keep _ _ _ st5 fun b hb o e => (I7.pin (b, o) (List.mem_append_right _ (List.mem_append_right _ (mem_pinsAt hb e)))).1, fun b hb => ?_, w7⟩
        obtain ⟨o, e, d⟩ := T.obj _ _ st5 b hb
        exact (I7.pin (b, o) (List.mem_append_right _ (List.mem_append_right _ (mem_pinsAt hb e)))).2.1
      have h6 := hgt _ s5 σ3 H5 x u _ I5' r5 (step x H5 y5)
      rw [hxe] at h6
      refine thn h6 fun _ s6 h_ => ?_
      obtain ⟨σ6, H6, I6, q6⟩ := h_
      have h7 := hts _ s6 σ6 H6 _ I6 q6
      rw [hxe] at h7
      refine thn h7 fun b s7 h_ => ?_
      obtain ⟨H7, I7, q7⟩ := h_
      cases b with
      | true =>
        rw [if_pos rfl] at q7 ⊢
        intro k Q' E' hk
        refine hb _ s7 σ6 H7 N I7 q7 k Q' E' fun s8 σ8 H8 I8 n8 => ?_
        obtain ⟨m, hm, z⟩ := again I8 n8
        exact hk s8 m hm z
      | false =>
        rw [if_neg Bool.false_ne_true] at q7 ⊢
        exact again I7 q7
  exact start_gen hg loop (T.self X.A 0 s _ _ st loop)
theorem pb_emit {te : TE} (hg : gens[d + 1]? = none) (he : PE X elt te) (hxe : X.xe = fun _ _ => False) : PB X elt gens scope pos d D (cEmit D te) := by
  intro pins s σ H Q I h k Q' E' hk
  unfold bodyOf
  rw [hg]
  have h1 := he pins s σ H _ I h
  rw [hxe] at h1
  refine wpAny_bind (wpAny_bind (wpAny_mono h1 (fun u s1 ⟨v, H1, I1, r, xs, hD, hz, q⟩ => ?_) fun _ _ f => f.elim))
  obtain ⟨z, its, n, rv, hl, e⟩ := I1.lstM hD
  refine wpAny_bind (call_meets F.slot_list_append ⟨_, e, rfl⟩ F.entry_list_append (F.args_list_append_2 _ _) (PySem.list_append D its.toArray n u (by rw [List.size_toArray]; omega)) ⟨e, ?_⟩)
  refine wpAny_pure (hk _ σ _ (I1.lset (its' := its ++ [u]) hD e (by simp) (rv.append (.cons r .nil)) ?_) q)
  rw [List.length_append, List.length_singleton]
  omega
theorem pb_next {target' iter' : Expr} {ifs' : List Expr} {g : TG} {tt : TT} {tb : TB} {wi : TI} (hg : gens[d + 1]? = some ⟨target', iter', ifs', 0⟩) (hc : X.calm = true) (hxe : X.xe = fun _ _ => False) (hi : PI X target' iter' wi)
    (hgt : PG X target' g) (hts : PIfs X ifs' tt) (hb : PB X elt gens scope pos (d + 1) D tb) (hs : ∀ x, foldedSetIterable iter' X.env x = pure x := by intro _; rfl) : PB X elt gens scope pos d D (cNext wi fun J => cLoop J g tt tb) := by
  intro pins s σ H Q I h k Q' E' hk
  unfold bodyOf
  rw [hg]
  have h1 := hi pins s σ H _ I h
  rw [hxe] at h1
  refine wpAny_bind (wpAny_mono h1 (fun v s1 h1 => wpAny_bind (wpAny_standAt ?_)) fun _ _ f => f.elim)
  show wpAny _ _ (foldedSetIterable iter' X.env v >>= _) _ _ _
  refine wpAny_bind (wpAny_of_eq (hs v) ?_)
  show wpAny _ _ (holding [v] (pyIter v) >>= _) _ _ _
  refine wpAny_bind (wpAny_holding (wpAny_mono h1 (fun itv s2 h2 => ?_) fun _ _ f => f.elim))
  obtain ⟨it, fp, tn, J, H2, e, I2, T, st2, f2, q⟩ := h2
  subst e
  refine wpAny_bind (wpAny_runOwn (codeAny_mono (comp_loop hg hc hxe hgt hts hb I2 T st2 f2 q) fun r s' ⟨hr, z⟩ => ?_))
  subst hr
  obtain ⟨σ', H', I', q'⟩ := z
  exact hk s' σ' H' I' q'
end
end L2
namespace L2
open PySem PySem.Spec PyProof.Rows
noncomputable def cStart (vars : List Str) (caps : List Nat) (σ : St) : St := List.replicate vars.length none ++ caps.map (fun j => σ.getD j none)
noncomputable def tComp (vars : List Str) (caps : List Nat) (wi : TI) (lp : Addr → It → TB) : TE := fun σ H Q => wi σ H fun J H1 => ∀ D, H1 D = none → lp D J (cStart vars caps σ) (upd H1 D (.lst [])) fun _ H' => Q (.ref D) H'
structure CmpScope (X : Cx) (scope : Scope) (Nc vars : List Str) (caps : List Nat) : Prop where
  kind : scope.kind = .function
  nd : (scope.names.map (·.1)).Nodup
  free : ∀ y ∈ scope.names, y.2 = .free → X.env.kindOf y.1 = some .cell ∨ X.env.kindOf y.1 = some .free
  names : Nc = vars ++ caps.map (fun j => X.N.getD j Str.empty)
  cap : ∀ j ∈ caps, j < X.N.length ∧ scope.names.lookup (X.N.getD j Str.empty) = some .free
section
variable {X : Cx} {elt target iter : Expr} {ifs : List Expr} {rest : List Comprehension} {scope : Scope} {pos : Pos} {Nc vars : List Str} {caps : List Nat} {g : TG} {tt : TT} {tb : Addr → TB} {wi : TI}
noncomputable def OldC (X : Cx) (pins : List (Addr × Obj)) (H : Hp) (C : Addr) : Prop := H C = none ∧ C ≠ X.env.locals ∧ X.s₀.heap.objs.size ≤ C ∧ (∀ x c, X.env.cells.lookup x = some c → c ≠ C) ∧ ∀ p ∈ X.pn ++ pins, p.1 ≠ C
theorem comp_core {pins : List (Addr × Obj)} {σ : St} {H : Hp} {s : Shared} {it : Addr} {fp : List Addr} {tn : Nat → Heap → Prop} {J : It} {E : Value → Shared → Prop} {QQ : Addr → Hp → Prop} {RR : Value → Addr → Result → Shared → Prop}
    (hc : X.calm = true) (S : CmpScope X scope Nc vars caps)
    (hb : ∀ (cl : List (Str × Addr)) (C : Addr) (fp : List Addr) (s : Shared) (H : Hp), PG (cxComp X Nc scope cl C fp s H) target g ∧ PIfs (cxComp X Nc scope cl C fp s H) ifs tt ∧ ∀ D, PB (cxComp X Nc scope cl C fp s H) elt (⟨target, iter, ifs, 0⟩ :: rest) scope pos 0 D (tb D))
    (I : Inv X pins σ H s) (T : Turn X.prog X.w X.K target J fp it tn) (st : tn 0 s.heap) (hf : ∀ b ∈ fp, FpOk X pins H b)
    (q : ∀ D, H D = none → cLoop J g tt (tb D) (cStart vars caps σ) (upd H D (.lst [])) fun _ H' => QQ D H')
    (hRR : ∀ (D C : Addr) (s' : Shared) (H' : Hp) (m : Str → Option Value), Inv X pins σ H' s' → s'.heap.Ns C m → OldC X pins H' C → QQ D H' → RR (.ref D) C (.ok .next) s') :
    wpAny (model X.prog X.w) X.A (newList []) (fun acc s₃ => wpAny (model X.prog X.w) X.A (newFunctionEnv scope X.env.globals (cloF X.env.cells scope.names []) [] X.env.qual none .none (some X.env)) (fun cenv s₄ =>
      codeAny (model X.prog X.w) X.A (.compStart (.ListComp elt (⟨target, iter, ifs, 0⟩ :: rest) scope pos) 0 (.ref it) acc { cenv with scope := relabel scope X.env }) (RR acc cenv.locals) s₄) E s₃) E s := by
  refine wpAny_newObj_type ?_
  have hD : H s.heap.objs.size = none := I.fresh
  have I3 : Inv X pins σ (upd H s.heap.objs.size (.lst [])) { s with heap := s.heap.push { cls := .type "list", data := .seq ([] : List Value).toArray } } := I.lnew (t' := s.toks) .nil (Nat.zero_le _)
  generalize hs3 : ({ s with heap := s.heap.push { cls := .type "list", data := .seq ([] : List Value).toArray } } : Shared) = s3 at I3
  have q3 := q s.heap.objs.size hD
  have kp3 : ∀ b o, s.heap.get? b = some o → s3.heap.get? b = some o := fun b o e => by rw [← hs3]; exact Heap.get?_push_of_some _ e
  have fo3 : ∀ b ∈ fp, ∃ o, s3.heap.get? b = some o := fun b hb => let ⟨o, e, _⟩ := T.obj _ _ st b hb; ⟨o, kp3 b o e⟩
  have f3 : ∀ b ∈ fp, FpOk X pins (upd H s.heap.objs.size (.lst [])) b := fun b hb' => ⟨by
    rw [upd_ne]
    · exact (hf b hb').1
    · obtain ⟨o, e, _⟩ := T.obj _ _ st b hb'
      exact Nat.ne_of_lt (Heap.lt_size e), (hf b hb').2⟩
  generalize hH3 : upd H s.heap.objs.size (.lst []) = H3 at I3 q3 f3
  generalize s.heap.objs.size = D at hD hH3 q3 ⊢
  refine env_comp fun h' ns keep ce ca => ?_
  have Ic := inv_comp I3 S.kind S.nd S.free S.names S.cap f3 fo3 ns keep ce ca
  obtain ⟨b1, b2, b3⟩ := hb (cellsFrom (s3.heap.objs.size + 1) scope.names (cloF X.env.cells scope.names [])) s3.heap.objs.size fp s3 H3
  have st4 : tn 0 h' := T.keep _ _ _ st fun b hb o e => keep b o (kp3 b o e)
  have f4 : ∀ b ∈ fp, FpOk (cxComp X Nc scope (cellsFrom (s3.heap.objs.size + 1) scope.names (cloF X.env.cells scope.names [])) s3.heap.objs.size fp s3 H3) [] H3 b := fun b hb' =>
    ⟨(f3 b hb').1, (Ic.ok.exf b hb').1, Ic.ok.exfs b hb', .inl hb', (Ic.ok.exf b hb').2, fun p hp => absurd hp (by simp)⟩
  refine codeAny_mono (comp_loop (X := cxComp X Nc scope (cellsFrom (s3.heap.objs.size + 1) scope.names (cloF X.env.cells scope.names [])) s3.heap.objs.size fp s3 H3) (gens := ⟨target, iter, ifs, 0⟩ :: rest) (d := 0) rfl hc rfl b1 b2 (b3 D) Ic T st4 f4 q3) fun r s' h_ => ?_
  obtain ⟨hr, σ', H', I', q'⟩ := h_
  subst hr
  obtain ⟨m, hm, _⟩ := I'.loc
  have C1 : X.env.locals < s3.heap.objs.size := I3.lt
  refine hRR D _ s' H' m (I3.call' (ch := fp) I'.os I'.base I'.hok I'.bare fun b hb' => ?_) hm ⟨I'.free, Nat.ne_of_gt C1, I3.sz, fun x c e z => ?_, fun p hp z => ?_⟩ q'
  · obtain ⟨_, h2, h3, h4, h5, h6⟩ := hf b hb'
    exact ⟨h4, h2, h5, h6⟩
  · obtain ⟨v, e'⟩ := I3.cell x c e
    exact absurd (z ▸ e'.lt) (Nat.lt_irrefl _)
  · have := Heap.lt_size (I3.pin p hp).1
    rw [z] at this
    exact absurd this (Nat.lt_irrefl _)
theorem Inv.letgo {pins : List (Addr × Obj)} {σ : St} {H : Hp} {s : Shared} {C : Addr} {h' : Heap} (I : Inv X pins σ H s) (o : OldC X pins H C) (hs : Heap.SameBut C s.heap h') : Inv X pins σ H { s with heap := h' } :=
  I.turned (t' := s.toks) (fun b ob hb e => (hs.2 b hb).trans e) o.1 (Ne.symm (Ne.symm o.2.1)) (.inr o.2.2.1) o.2.2.2.1 o.2.2.2.2
theorem CmpScope.clo (S : CmpScope X scope Nc vars caps) (ok : X.Ok) : closureFor scope X.env = pure (cloF X.env.cells scope.names []) := closure_eq fun y hy hk => ok.has y.1 (S.free y hy hk)
theorem CmpScope.loc (S : CmpScope X scope Nc vars caps) : ∀ x ∈ scope.names, x.2 = .local → scope.names.lookup x.1 = some .local := fun x hx hk => lookup_nodup S.nd (by rw [← hk]; exact hx)
theorem pe_comp (hc : X.calm = true) (S : CmpScope X scope Nc vars caps) (hi : PI X target iter wi)
    (hb : ∀ (cl : List (Str × Addr)) (C : Addr) (fp : List Addr) (s : Shared) (H : Hp), PG (cxComp X Nc scope cl C fp s H) target g ∧ PIfs (cxComp X Nc scope cl C fp s H) ifs tt ∧ ∀ D, PB (cxComp X Nc scope cl C fp s H) elt (⟨target, iter, ifs, 0⟩ :: rest) scope pos 0 D (tb D))
    (hs : ∀ x, foldedSetIterable iter X.env x = pure x := by intro _; rfl) : PE X (.ListComp elt (⟨target, iter, ifs, 0⟩ :: rest) scope pos) (tComp vars caps wi fun D J => cLoop J g tt (tb D)) := by
  intro pins s σ H Q I h
  rw [eval_ListComp]
  refine wpAny_comprehension_free (use := none) rfl hs (S.clo I.ok) S.kind S.loc (wpAny_mono (hi pins s σ H _ I h) (fun v s1 h1 => wpAny_mono h1 (fun itv s2 h2 => ?_) fun _ _ x => x) fun _ _ x => x)
  obtain ⟨it, fp, tn, J, H2, e, I2, T, st2, f2, q⟩ := h2
  subst e
  refine comp_core (RR := fun acc C => compPost (model X.prog X.w) X.A X.xe none _ acc C) hc S hb I2 T st2 f2 q fun D C s' H' m I' ns oc q' => ?_
  exact ⟨m, ns, fun h' hs' => ⟨.ref D, H', I'.letgo oc hs', rfl, q'⟩⟩
theorem ps_setC {i : Nat} {x : Str} {pos' spos : Pos} (hN : X.N.Nodup) (hi' : X.N[i]? = some x) (hx : Loc X.env.scope x) (hc : X.calm = true) (S : CmpScope X scope Nc vars caps) (hi : PI X target iter wi)
    (hb : ∀ (cl : List (Str × Addr)) (C : Addr) (fp : List Addr) (s : Shared) (H : Hp), PG (cxComp X Nc scope cl C fp s H) target g ∧ PIfs (cxComp X Nc scope cl C fp s H) ifs tt ∧ ∀ D, PB (cxComp X Nc scope cl C fp s H) elt (⟨target, iter, ifs, 0⟩ :: rest) scope pos 0 D (tb D))
    (hsw : swapsWith (.ListComp elt (⟨target, iter, ifs, 0⟩ :: rest) scope pos) (some (.Name x pos')) spos.line X.env = pure true := by rfl)
    (hs : ∀ x, foldedSetIterable iter X.env x = pure x := by intro _; rfl) (hf : X.fn x = true ∨ X.env.scope.names.lookup x = some .local := by first | exact .inl rfl | exact .inr rfl | assumption) :
    PS X (.Assign [.Name x pos'] (.ListComp elt (⟨target, iter, ifs, 0⟩ :: rest) scope pos) spos) (tAsg (tComp vars caps wi fun D J => cLoop J g tt (tb D)) (gName i)) := by
  intro pins s σ H D I h
  rw [exec_Assign_Name_used _ _ _ _ hsw]
  refine wpAny_bind (wpAny_standAt (wpAny_bind ?_))
  show wpAny _ X.A (do let _ ← comprehension (.ListComp elt (⟨target, iter, ifs, 0⟩ :: rest) scope pos) scope X.env _ (newList []) false (eval iter X.env) (some (assign (.Name x pos') X.env))) _ _ s
  refine wpAny_bind (wpAny_mono (wpAny_comprehension_free (use := some (assign (.Name x pos') X.env)) (Q := fun _ s' => SP X pins D .next s') rfl hs (S.clo I.ok) S.kind S.loc
    (wpAny_mono (hi pins s σ H _ I h) (fun v s1 h1 => wpAny_mono h1 (fun itv s2 h2 => ?_) fun _ _ e => e) fun _ _ e => e)) (fun _ s' hq => wpAny_pure (wpAny_pure hq)) fun _ _ e => e)
  obtain ⟨it, fp, tn, J, H2, e, I2, T, st2, f2, q⟩ := h2
  subst e
  refine comp_core (RR := fun acc C => compPost (model X.prog X.w) X.A X.xe (some (assign (.Name x pos') X.env)) _ acc C) hc S hb I2 T st2 f2 q fun A C s' H' m I' ns oc q' => ?_
  show wpAny _ X.A (assign (.Name x pos') X.env (.ref A)) _ _ s'
  refine wpAny_assign_Name (store_ok2 I' hN hi' hx (v := .ref A) rfl (fun s2 I2 ⟨a, sb, ha⟩ => ?_) hf)
  have hCa : C ≠ a := by
    rcases ha with rfl | ha
    · exact oc.2.1
    · exact fun z => oc.2.2.2.1 x a ha z.symm
  exact ⟨m, ns.sameBut sb hCa, fun h' hs' => ⟨_, H', I2.letgo oc hs', q'⟩⟩
end
end L2
namespace L2
open PySem PySem.Spec
open Sem (wp)
open Builtin Builtin.ObjectAttr
noncomputable abbrev excObj (C : Addr) (dx : Option Addr) (t : Addr) : Obj := { cls := .ref C, dict := dx, data := .fields #[.ref t, .none, .none, .none, .bool false, .none] }
structure XShape (h : Heap) (C : Addr) (bm : List Value) : Prop where
  at_ : ∃ (nm q : Str) (N : Addr) (bs : List Value) (hdct : Bool) (sn : List Str) (sub : List Value) (ab : Bool) (col : Option Bool) (dd : Option Addr) (k0 k1 k2 k3 k5 : Option Value),
    h.get? C = some (excClassObj nm q C N bs bm hdct sn sub ab col dd k0 k1 k2 k3 k5 "ValueError.__new__")
  val : bm.contains (.type "ValueError") = true
  bas : bm.contains (.type "BaseException") = true
  att : bm.contains (.type "AttributeError") = false
  nam : bm.contains (.type "NameError") = false
section
variable {prog : Program} {w : World} {A : Around} {E : Value → Shared → Prop} {h : Heap} {g : Array GenState} {d : Drawn} {t : Nat} {os : OsState} {C : Addr} {bm rest : List Value}
theorem exc_new {R : Result → Shared → Prop} (S : XShape h C bm)
    (hq : R (.ok (.ret (.ref (h.objs.size + 1)))) ⟨(h.push { cls := .type "tuple", data := .seq rest.toArray }).push (excObj C none h.objs.size), g, d, t, os⟩) (hrest : rest.length ≤ sizeLine) :
    codeAny (model prog w) A (.builtin "ValueError.__new__" ⟨.ref C :: rest, []⟩) R ⟨h, g, d, t, os⟩ := by
  obtain ⟨⟨nm, q, N, bs, hdct, sn, sub, ab, col, dd, k0, k1, k2, k3, k5, hC⟩, hV, hB, hA, hN⟩ := S
  have Fv := PySem.F.excBase_ValueError
  have hends := Fv.ends
  have hcB : (Value.ref C :: bm).contains (.type "ValueError") = true := by rw [List.contains_cons, hV, Bool.or_true]
  have hcA : (Value.ref C :: bm).contains (.type "AttributeError") = false := by rw [List.contains_cons, hA]; rfl
  have hcN : (Value.ref C :: bm).contains (.type "NameError") = false := by rw [List.contains_cons, hN]; rfl
  refine codeAny_builtinAt Fv.entry ?_
  unfold Builtin.«BaseException.__new__»
  refine wpAt_bind ?_
  show wpAt _ _ _ (stack >>= _) _ _ _
  refine wpAt_bind (wpAt_stack fun p below => wpAt_of_wpAny ?_)
  wp_walk
  refine wpAt_of_wpAny ?_
  rw [Fv.owner]
  repeat (first | with_reducible refine wpAny_madeHere_exc Fv.canon hC ?_ | with_reducible refine wpAny_loadPart_at hC ?_ | (with_reducible refine wpAny_isSubtype_exc hC ?_; first | rw [hcB] | rw [hcA] | rw [hcN]) | wp_step)
  show R _ _
  rw [Heap.size_push]
  exact hq
theorem exc_type_call {K : PySem.W.Frag} {fI : Addr} {Q : PySem.Fin → Shared → Prop} (X : K.In h) (S : XShape h C bm) (hi : PySem.W.findIn K (.ref C) "__init__" = some (some (.ref fI))) (hf : PySem.W.isFn K (.ref fI) = true) (hrest : rest.length ≤ sizeLine)
    (hq : wpAny (model prog w) A (call (.ref fI) (.ref (h.objs.size + 1) :: rest)) (fun r s' => r = .none ∧ Q (.done (.ret (.ref (h.objs.size + 1)))) s') E
      ⟨(h.push { cls := .type "tuple", data := .seq rest.toArray }).push { cls := .ref C, data := .fields #[.ref h.objs.size, .none, .none, .none, .bool false, .none] }, g, d, t, os⟩) :
    wpAny (model prog w) A (Builtin.«type.__call__» ⟨.ref C :: rest, []⟩) Q E ⟨h, g, d, t, os⟩ := by
  have S' := S
  obtain ⟨⟨nm, q, N, bs, hdct, sn, sub, ab, col, dd, k0, k1, k2, k3, k5, hC⟩, hV, hB, hA, hN⟩ := S
  have Fv := PySem.F.excBase_ValueError
  repeat (first | with_reducible refine wpAny_loadPart_at hC ?_ | with_reducible refine wpAny_madeBy_exc hC ?_ | wp_step)
  refine codeAny_call_builtin_code (Code.quiet_builtin _ Fv.quiet) (wpAny_check_new_subU Fv hV (OwnTail.base (bmB := bm)) hC ?_)
  refine exc_new S' ?_ hrest
  show wpAny _ _ _ _ _ _
  have keep : ∀ b o, h.get? b = some o → ((h.push { cls := .type "tuple", data := .seq rest.toArray }).push { cls := .ref C, data := .fields #[.ref h.objs.size, .none, .none, .none, .bool false, .none] }).get? b = some o := fun b o e => Heap.get?_push_of_some _ (Heap.get?_push_of_some _ e)
  have hC1 := keep _ _ hC
  have X1 := X.keeps keep
  have hget : ((h.push { cls := .type "tuple", data := .seq rest.toArray }).push { cls := .ref C, data := .fields #[.ref h.objs.size, .none, .none, .none, .bool false, .none] }).get? (h.objs.size + 1) = some { cls := .ref C, data := .fields #[.ref h.objs.size, .none, .none, .none, .bool false, .none] } := by heap_get
  have hcC : (Value.ref C :: bm).contains (.ref C) = true := by simp
  unfold isInstance
  repeat (first | with_reducible refine wpAny_loadPart_at hget ?_ | (with_reducible refine wpAny_isSubtype_exc hC1 ?_; rw [hcC]) | wp_step)
  show wpAny _ _ (typeLookup (.ref C) _) _ _ _
  refine (PySem.W.looks_findIn X1 hi).here ?_
  refine wpAny_holding (wpAny_bind ((PySem.W.bind_fn X1 (.ref (h.objs.size + 1)) (beq_iff_eq.mp hf)).here ?_))
  refine wpAny_bind (wpAny_mono hq (fun r s' hr => ?_) fun _ _ x => x)
  obtain ⟨rfl, hQ⟩ := hr
  wp_walk
  exact hQ
theorem exc_call {K : PySem.W.Frag} {fI : Addr} {Q : Value → Shared → Prop} (X : K.In h) (S : XShape h C bm) (hi : PySem.W.findIn K (.ref C) "__init__" = some (some (.ref fI))) (hf : PySem.W.isFn K (.ref fI) = true) (hrest : rest.length ≤ sizeLine)
    (hq : wpAny (model prog w) (A.under (.builtin "type.__call__" ⟨.ref C :: rest, []⟩)) (call (.ref fI) (.ref (h.objs.size + 1) :: rest)) (fun r s' => r = .none ∧ Q (.ref (h.objs.size + 1)) s') E
      ⟨(h.push { cls := .type "tuple", data := .seq rest.toArray }).push { cls := .ref C, data := .fields #[.ref h.objs.size, .none, .none, .none, .bool false, .none] }, g, d, t, os⟩) :
    wpAny (model prog w) A (call (.ref C) rest) Q E ⟨h, g, d, t, os⟩ := by
  have S' := S
  obtain ⟨⟨nm, q, N, bs, hdct, sn, sub, ab, col, dd, k0, k1, k2, k3, k5, hC⟩, hV, hB, hA, hN⟩ := S
  have f1 := tc_lookup
  have f2 := tc_bind (.ref C)
  have hT : (⟨h, g, d, t, os⟩ : Shared).TypeIs (.ref C) "type" := ⟨_, hC, rfl⟩
  refine wpAny_call (codeAny_of_tree ?_)
  show wpAny _ _ (callAny (.ref C) _) _ _ _
  repeat (any_goals (first | assumption | with_reducible refine wpAny_loadPart_at hC ?_ | wp_step))
  refine ⟨rfl, ?_⟩
  exact codeAny_call_builtin_at (Code.quiet_builtin _ (by decide +kernel)) entry_typeCall (wpAny_check_type_call_sub hC (exc_type_call X S' hi hf hrest hq))
theorem exc_check_init {oe : Obj} {M : Model} {e : Addr} {Q : Unit → Shared → Prop} (S : XShape h C bm) (he : h.get? e = some oe) (hcls : oe.cls = .ref C) (hq : Q () ⟨h, g, d, t, os⟩) :
    wpAny M A (checkBuiltinCall "ValueError.__init__" ⟨.ref e :: rest, []⟩) Q E ⟨h, g, d, t, os⟩ := by
  obtain ⟨⟨nm, q, N, bs, hdct, sn, sub, ab, col, dd, k0, k1, k2, k3, k5, hC⟩, hV, hB, hA, hN⟩ := S
  have Fv := PySem.F.excBase_ValueError
  have hcB : (Value.ref C :: bm).contains (.type "ValueError") = true := by rw [List.contains_cons, hV, Bool.or_true]
  have hshort := Fv.noStar
  simp only [checkBuiltinCall, Fv.initKind, Fv.initSplit, Fv.initRow]
  repeat (first | (with_reducible refine wpAny_loadPart_at he ?_; rw [hcls]) | with_reducible refine wpAny_loadPart_at hC ?_ | (with_reducible refine wpAny_isSubtype_exc hC ?_; rw [hcB]) | wp_step)
  refine wpAny_onRaise ?_
  have star : ∀ (a b : String) (n : Nat), Bind.check ⟨.positional, "*", "ValueError", .self, [⟨"args", .varPos, false⟩]⟩ a b n (List.map (fun x => x.fst) ({ pos := Value.ref e :: rest } : Args).kw) = pure () := fun a b n => check_star_args _ _ _ _ _ _
  rw [star]
  exact wpAny_pure hq
theorem exc_vinit {dx : Option Addr} {t0 e : Addr} {Q : Value → Shared → Prop} (S : XShape h C bm) (he : h.get? e = some (excObj C dx t0)) (hrest : rest.length ≤ sizeLine)
    (hq : ∀ h' : Heap, h'.get? e = some (excObj C dx h.objs.size) → (∀ b o, b ≠ e → h.get? b = some o → h'.get? b = some o) → Q .none ⟨h', g, d, t, os⟩) :
    wpAny (model prog w) A (call (.builtin "ValueError.__init__") (.ref e :: rest)) Q E ⟨h, g, d, t, os⟩ := by
  have Fv := PySem.F.excBase_ValueError
  refine wpAny_call (codeAny_call_builtin Fv.init.plain Fv.initEntry (exc_check_init S he rfl ?_))
  have he2 := Heap.get?_push_of_some { cls := .type "tuple", data := .seq rest.toArray } he
  unfold Builtin.«BaseException.__init__»
  dsimp only
  refine wpAny_bind ?_
  refine wpAny_newTuple ?_ hrest
  unfold Builtin.BaseException.bexcPut
  refine wpAny_bind (wpAny_bind (wpAny_field he2 rfl (x := .ref t0) rfl ?_))
  refine wpAny_bind (wpAny_setField he2 rfl (by simp) ?_)
  dsimp only
  refine wpAny_letGo (wpAny_pure ?_)
  refine hq _ ?_ fun b o hb e1 => ?_
  · rw [Heap.get?_update_self _ he2 rfl]
    rfl
  · rw [Heap.get?_update_other _ _ (Ne.symm hb)]
    exact Heap.get?_push_of_some _ e1
end
noncomputable def excLine : List Value → Bool
  | [.type a, .type b, .type c, .type d] => a == "ValueError" && b == "Exception" && c == "BaseException" && d == "object"
  | .ref _ :: r => excLine r
  | _ => false
theorem refuse_value (self : Value) : refuseLoop self "__setattr__" [.type "ValueError", .type "Exception", .type "BaseException", .type "object"] = pure () := by kernel_rfl
theorem refuse_exc (self : Value) : ∀ {l : List Value}, excLine l = true → refuseLoop self "__setattr__" l = pure ()
  | [.type a, .type b, .type c, .type d], e => by
    simp only [excLine, Bool.and_eq_true, beq_iff_eq] at e
    obtain ⟨⟨⟨rfl, rfl⟩, rfl⟩, rfl⟩ := e
    exact refuse_value self
  | .ref c :: r, e => by rw [refuseLoop_ref]; exact refuse_exc self (by cases r <;> exact e)
theorem exc_has : ∀ {l : List Value}, excLine l = true → l.contains (.type "object") = true
  | [.type a, .type b, .type c, .type d], e => by
    simp only [excLine, Bool.and_eq_true, beq_iff_eq] at e
    obtain ⟨⟨⟨rfl, rfl⟩, rfl⟩, rfl⟩ := e
    decide
  | .ref c :: r, e => by rw [List.contains_cons, exc_has (l := r) (by cases r <;> exact e), Bool.or_true]
section
variable {prog : Program} {w : World} {A : Around} {E : Value → Shared → Prop} {s : Shared} {C e : Addr} {K : PySem.W.Frag} {cd : ClassData} {name : Str} {v : Value}
theorem exc_open {R : Result → Shared → Prop} {tk : Tok} {oe : Obj} (X : K.In s.heap) (he : s.heap.get? e = some oe) (hcls : oe.cls = .ref C) (hc : PySem.W.clsIn K C = some cd) (hl : excLine cd.mro = true) (ht : PySem.W.findIn K (.ref C) name = some none)
    (h : ∀ b, wpAny (model prog w) A.in1 (storeInOwnDict (.ref e) (.ref C) (.str name tk) name v b)
      (fun fin s' => match fin with | .done f => R (.ok f) s' | .again c' => c'.quiet = true ∧ codeAny (model prog w) A c' R s') (fun x s' => R (.error x) s') s) :
    codeAny (model prog w) A (.call (.builtin "object.__setattr__") ⟨[.ref e, .str name tk, v], []⟩) R s := by
  have SF := PySem.F.store_object
  have tp : PySem.W.Looks (model prog w) s.heap (typeOf (.ref e)) (.ref C) := by
    have := (PySem.W.Looks.ld (M := model prog w) (part := some headPart) he)
    exact this.andThen (by rw [hcls]; exact .now)
  have ne : cd.mro.isEmpty = false := by cases q : cd.mro with | nil => rw [q] at hl; cases hl | cons _ _ => rfl
  have sub : PySem.W.Looks (model prog w) s.heap (isInstance (.ref e) (.type "object")) true := tp.andThen (PySem.W.looks_mroIn X (by unfold PySem.W.mroIn; rw [hc, Option.bind_some, if_neg (by rw [ne]; decide), exc_has hl]))
  refine codeAny_call_builtin SF.slot.plain SF.entry (@PySem.W.check_slot (model prog w) _ _ s "object.__setattr__" "object" "__setattr__" (.ref e) [.str name tk, v] [] _ SF.kind SF.split sub (SF.args (.ref e) (.str name tk) v) ?_)
  have hm : PySem.W.Looks (model prog w) s.heap (mroOf (.ref C)) cd.mro := (PySem.W.looks_clsIn X hc).andThen .now
  rw [PySem.W.osa_eq, refuse_eq]
  refine wpAny_bind (wpAny_bind (tp.here (wpAny_bind (hm.here ?_))))
  rw [refuse_exc _ hl]
  refine wpAny_pure (wpAny_bind (tp.here (wpAny_bind ((PySem.W.looks_findIn X ht).here (wpAny_bind (wpAny_pure ?_))))))
  exact h _
theorem exc_plain {oe : Obj} {Q : Unit → Shared → Prop} (X : K.In s.heap) (he : s.heap.get? e = some oe) (hcls : oe.cls = .ref C) (hs : PySem.W.findIn K (.ref C) "__setattr__" = some (some (.builtin "object.__setattr__")))
    (h : codeAny (model prog w) A (.call (.builtin "object.__setattr__") ⟨[.ref e, .str name s.toks, v], []⟩) (fun r s' => match r with | .ok (.ret _) => Q () s' | .ok _ => False | .error x => E x s') { s with toks := s.toks + 1 }) :
    wpAny (model prog w) A (setAttr (.ref e) name v) Q E s := by
  have tp : PySem.W.Looks (model prog w) s.heap (typeOf (.ref e)) (.ref C) := by
    have := (PySem.W.Looks.ld (M := model prog w) (part := some headPart) he)
    exact this.andThen (by rw [hcls]; exact .now)
  refine wpAny_bind (wpAny_mkText (wpAny_bind (wpAny_bind (wpAny_bind (tp _ _ _ _ (fun _ _ e => e) (PySem.W.looks_findIn X hs _ _ _ _ (fun _ _ e => e) (wpAny_holding ?_)))))))
  rw [PySem.F.store_object.slot.bind]
  refine wpAny_bind (wpAny_pure (wpAny_bind (wpAny_call (codeAny_mono h fun r s' z => ?_))))
  rcases r with x | (v | _ | _ | _) <;> first | exact z | exact wpAny_pure (wpAny_pure z)
theorem exc_set0 {t0 : Addr} {Q : Unit → Shared → Prop} (X : K.In s.heap) (he : s.heap.get? e = some (excObj C none t0))
    (hs : PySem.W.findIn K (.ref C) "__setattr__" = some (some (.builtin "object.__setattr__"))) (hc : PySem.W.clsIn K C = some cd) (hd : cd.hasDict = true) (hl : excLine cd.mro = true) (ht : PySem.W.findIn K (.ref C) name = some none)
    (hq : ∀ h' : Heap, h'.get? e = some (excObj C (some s.heap.objs.size) t0) → h'.Ns1 s.heap.objs.size (fun y => if y = name then some v else none) →
      (∀ b o, b ≠ e → s.heap.get? b = some o → h'.get? b = some o) → Q () { s with heap := h', toks := s.toks + 2 }) :
    wpAny (model prog w) A (setAttr (.ref e) name v) Q E s := by
  refine exc_plain X he rfl hs (exc_open (s := { s with toks := s.toks + 1 }) X he rfl hc hl ht fun b => ?_)
  refine wpAny_bind (wpAny_pure (wpAny_bind (wpAny_bind (wpAny_loadPart he (wpAny_bind (PySem.W.Looks.here (s := { s with toks := s.toks + 1 }) (PySem.W.looks_clsIn X hc) ?_))))))
  rw [hd]
  refine wpAny_bind (wpAny_alloc ?_)
  have he2 := Heap.get?_push_of_some { cls := .type "dict", data := .dict #[] } he
  refine wpAny_bind (wpAny_update he2 (wpAny_pure ?_))
  have hu : ((s.heap.push { cls := .type "dict", data := .dict #[] }).update e fun o => { o with dict := some s.heap.objs.size }).get? e = some (excObj C (some s.heap.objs.size) t0) := Heap.get?_update_self _ he2 rfl
  have hne : s.heap.objs.size ≠ e := Nat.ne_of_gt (Heap.lt_size he)
  have hn : ((s.heap.push { cls := .type "dict", data := .dict #[] }).update e fun o => { o with dict := some s.heap.objs.size }).Ns1 s.heap.objs.size fun _ => none := by
    refine Heap.Ns1.of_empty ((Heap.Ns.new s.heap (.type "dict")).sameBut (Heap.SameBut.update ..) hne)
  refine wpAny_bind (wpAny_pure (wpAny_bind ?_))
  refine wpAny_nsSet1 hn fun h' hn2 hs2 => ?_
  obtain ⟨oD, esD, epD, hoD, hdD, hcD⟩ := hn2.count (PySem.Within.cons name v PySem.Within.nil)
  refine wpAny_bind (wpAny_lookBehind hoD (by rw [hdD]; exact pastItsLine_dict (Nat.le_trans hcD (by show 1 ≤ sizeLine + 1; decide))) ?_)
  refine wpAny_pure (hq h' ((hs2.2 _ (Ne.symm hne)).trans hu) hn2 fun b o hb e1 => ?_)
  have hbs : b ≠ s.heap.objs.size := Nat.ne_of_lt (Heap.lt_size e1)
  refine (hs2.2 _ hbs).trans ?_
  rw [Heap.get?_update_other _ _ (Ne.symm hb)]
  exact Heap.get?_push_of_some _ e1
theorem exc_match {c : Value} {oe : Obj} {b : Bool} {Q : Bool → Shared → Prop} {M : Model} (X : K.In s.heap) (he : s.heap.get? e = some oe) (hcls : oe.cls = .ref C) (hx : PySem.W.exmOne K (.ref C) c = some b) (hq : Q b s) :
    wpAny M A (excMatches (.ref e) c) Q E s := by
  have tp : PySem.W.Looks M s.heap (typeOf (.ref e)) (.ref C) := by
    have := (PySem.W.Looks.ld (M := M) (part := some headPart) he)
    exact this.andThen (by rw [hcls]; exact .now)
  exact (PySem.W.exm_one X tp hx).here hq
theorem exc_raise {bm : List Value} {dx : Option Addr} {t0 : Addr} {env : Env} {M : Model} {x : Sem Value} {Q : Flow → Shared → Prop} (hh : A.handled = none)
    (h : wpAny M A x (fun v s₁ => ∃ e t0 dx C bm, v = .ref e ∧ XShape s₁.heap C bm ∧ s₁.heap.get? e = some (excObj C dx t0) ∧ E (.ref e) s₁) E s) : wpAny M A (raiseStmt env (some x) none) Q E s := by
  unfold raiseStmt
  refine wpAny_bind (wpAny_mono h (fun v s₁ h₁ => ?_) fun _ _ x => x)
  obtain ⟨e, t0, dx, C, bm, rfl, S, he, hE⟩ := h₁
  obtain ⟨⟨nm, q, N, bs, hdct, sn, sub, ab, col, dd, k0, k1, k2, k3, k5, hC⟩, hV, hB, hA, hN⟩ := S
  have hcB : (Value.ref C :: bm).contains (.type "BaseException") = true := by rw [List.contains_cons, hB, Bool.or_true]
  have he' : s₁.heap.get? e = some { cls := .ref C, dict := dx, data := .fields #[.ref t0, .none, .none, .none, .bool false, .none] } := he
  obtain ⟨hp, g, d, tk, os⟩ := s₁
  repeat (first | with_reducible refine wpAny_loadPart_at he' ?_ | with_reducible refine wpAny_loadPart_at hC ?_ | (with_reducible refine wpAny_isSubtype_exc hC ?_; rw [hcB]) | wp_step)
  exact wpAny_raiseNew_none hh hE
end
end L2
namespace L2
open PySem PySem.Spec PyProof.Rows
noncomputable def excH (C x : Addr) (dx : Option Addr) : HO := .ext fun h => ∃ t, h.get? x = some (excObj C dx t)
theorem ObjOk.there {P : Program} {w : World} {H : Hp} {h : Heap} {a : Addr} {o : HO} (x : ObjOk P w H h a o) : ∃ ob, h.get? a = some ob := by
  cases o with
  | lst xs => obtain ⟨_, _, _, _, e⟩ := x; exact ⟨_, e⟩
  | tup xs => obtain ⟨_, _, _, _, e, _⟩ := x; exact ⟨_, e⟩
  | dK kvs => obtain ⟨_, _, _, _, o, _, _, e, _⟩ := x; exact ⟨_, e⟩
  | dT kvs => obtain ⟨_, _, _, _, o, _, _, e, _⟩ := x; exact ⟨_, e⟩
  | set S n => obtain ⟨o, _, _, _, e, _⟩ := x; exact ⟨_, e⟩
  | ins C dx fs => obtain ⟨_, _, _, e, _⟩ := x; exact ⟨_, e⟩
  | own y => exact x
  | xd fs => obtain ⟨_, ⟨_, _, _, e, _⟩, _⟩ := x; exact ⟨_, e⟩
  | rng lo hi => obtain ⟨_, _, _, e⟩ := x; exact ⟨_, e⟩
  | frz ob u => obtain ⟨e, _⟩ := x; exact ⟨_, e⟩
  | tbl ps => exact ⟨_, (show h.get? a = some _ from x)⟩
  | met f y => exact ⟨_, (show h.get? a = some _ from x)⟩
  | ext φ => obtain ⟨_, e, _⟩ := x; exact e
theorem excH_ok {P : Program} {w : World} {H : Hp} {h : Heap} {C x t : Addr} {dx : Option Addr} (e : h.get? x = some (excObj C dx t)) : ObjOk P w H h x (excH C x dx) :=
  ⟨⟨t, e⟩, ⟨_, e⟩, fun _ _ ⟨t, e1⟩ k => ⟨t, k _ e1⟩⟩
theorem excH_get {P : Program} {w : World} {H : Hp} {h : Heap} {C x : Addr} {dx : Option Addr} (q : ObjOk P w H h x (excH C x dx)) : ∃ t, h.get? x = some (excObj C dx t) := q.1
noncomputable def delH (H : Hp) (x : Addr) : Hp := fun b => if b = x then none else H b
theorem delH_self {H : Hp} {x : Addr} : delH H x x = none := by unfold delH; rw [if_pos rfl]
theorem delH_ne {H : Hp} {x b : Addr} (h : b ≠ x) : delH H x b = H b := by unfold delH; rw [if_neg h]
theorem delH_some {H : Hp} {x b : Addr} {o : HO} (h : delH H x b = some o) : b ≠ x ∧ H b = some o := by
  unfold delH at h
  split at h
  · cases h
  · exact ⟨by assumption, h⟩
structure Flown (P : Program) (w : World) (outer : List Env) (H : Hp) (s : Shared) (E : XK) (x C : Addr) (H' : Hp) (s' : Shared) : Prop where
  os : s'.os = s.os
  bare : AllBare s'.gens
  un : Un (frs outer) [] H H' s.heap s'.heap
  hok : HOk P w H' s'.heap
  tr : ∃ (oe : Obj) (vs : Array Value) (T : Addr) (oT : Obj) (ts : Array Value) (a0 : Value), s'.heap.get? x = some oe ∧ (oe.cls = .ref C ∧ vs[0]? = some a0) ∧ oe.data = .fields vs ∧ vs[1]? = some (.ref T) ∧ T ≠ x ∧ s'.heap.get? T = some oT ∧ oT.data = .fields ts ∧ ts[3]? = some .none ∧ H' T = none ∧ s.heap.get? T = none
  xn : H' x = none
  xs : s.heap.get? x = none
  wish : E (.ref C) none H'
noncomputable def CXE (P : Program) (w : World) : CXT := fun outer H s E e s' => ∃ x C H', e = .ref x ∧ Flown P w outer H s E x C H' s'
theorem left_done {X : Cx} {pins : List (Addr × Obj)} {σ : St} {H H' : Hp} {s s' : Shared} {h' : Heap} {ext : List Addr} {x C : Addr} {a0 : Value} {E : XK} (I : Inv X pins σ H s) (hst : X.stack = X.env :: X.outer) (hfr : X.env.frame = some X.env.locals) (hex : X.ex = [])
    (os : s'.os = X.s₀.os) (bare : AllBare s'.gens) (U0 : Un (frs X.stack) [] X.H₀ H' X.s₀.heap s'.heap) (hok : HOk X.prog X.w H' s'.heap) (hfn : ∀ b ∈ frs X.stack, H' b = none)
    (hext : ∀ b ∈ ext, X.s₀.heap.get? b = none ∧ H' b = none) (hx : x ∈ ext) (wish : E (.ref C) none H')
    (L : Heap.LeftW (PySem.W.hideAll s'.heap (ext ++ frs X.stack)) (X.env :: X.outer) x (.ref C) a0 s'.heap h') : Flown X.prog X.w X.outer X.H₀ X.s₀ E x C H' { s' with heap := h' } := by
  obtain ⟨L1, L2, L3, L4⟩ := L
  have fsub : ∀ b ∈ frs X.outer, b ∈ frs X.stack := fun b hb => by
    rw [hst]; unfold frs; rw [List.filterMap_cons, hfr]; exact List.mem_cons_of_mem _ hb
  have fcase : ∀ b ∈ frs X.stack, b = X.env.locals ∨ b ∈ frs X.outer := fun b hb => by
    rw [hst] at hb; unfold frs at hb; rw [List.filterMap_cons, hfr] at hb
    exact List.mem_cons.mp hb
  have nel : ∀ b o, X.s₀.heap.get? b = some o → b ≠ X.env.locals := fun b o e => Nat.ne_of_lt (Nat.lt_of_lt_of_le (Heap.lt_size e) I.ok.above)
  have stay : ∀ b o, s'.heap.get? b = some o → b ∉ ext → b ∉ frs X.stack → h'.get? b = some o := fun b o e h1 h2 =>
    L1 b o (PySem.W.hideAll_get _ e fun hm => (List.mem_append.mp hm).elim h1 h2)
  have nex : ∀ b o, X.s₀.heap.get? b = some o → b ∉ ext := fun b o e hb => by rw [(hext b hb).1] at e; cases e
  have mem2 : ∀ b ∈ frs X.stack, ∃ o, h'.get? b = some o ∧ ∀ vs, o.data ≠ .fields vs := fun b hb => (L2.mem (by rw [← hst]; exact hb)).2
  obtain ⟨oe, vs, T, oT, ts, he, hc, hd, h1, hnT, hTe, hT, hdT, h3⟩ := L3
  have hTT : H' T = none ∧ X.s₀.heap.get? T = none := by
    by_cases hm : T ∈ ext ++ frs X.stack
    · rcases List.mem_append.mp hm with hm | hm
      · exact ⟨(hext T hm).2, (hext T hm).1⟩
      · obtain ⟨o, e, nf⟩ := mem2 T hm
        rw [hT] at e; cases e
        exact absurd hdT (nf ts)
    · have hs : s'.heap.get? T = none := by
        cases q : s'.heap.get? T with
        | none => rfl
        | some o => rw [PySem.W.hideAll_get _ q hm] at hnT; cases hnT
      constructor
      · cases q : H' T with
        | none => rfl
        | some o => obtain ⟨ob, e⟩ := (hok T o q).there; rw [hs] at e; cases e
      · cases q : X.s₀.heap.get? T with
        | none => rfl
        | some o => obtain ⟨ob, e⟩ := U0.there T o q (by simp); rw [hs] at e; cases e
  refine ⟨os, bare, ⟨fun b o e n hb _ => ?_, fun b o e n hb _ => ?_, fun b o e n hb => U0.free b o e n hb, fun b o e _ => ?_, U0.tups, U0.frzs, U0.tbls⟩, fun a o e => ?_, ⟨oe, vs, T, oT, ts, a0, he, hc, hd, h1, hTe, hT, hdT, h3, hTT.1, hTT.2⟩, (hext x hx).2, (hext x hx).1, wish⟩
  · have nf : b ∉ frs X.stack := fun z => (fcase b z).elim (nel b o e) hb
    exact stay b o (U0.keep b o e n nf (by simp)) (nex b o e) nf
  · obtain ⟨sl, e1⟩ := U0.slot b o e n (fsub b hb) (by simp)
    obtain ⟨_, o', e2, nf⟩ := I.ok.funs.mem hb
    rw [e] at e2; cases e2
    obtain ⟨sl', e3⟩ := L4 b _ e1 nf
    exact ⟨sl', e3⟩
  · obtain ⟨o', e1⟩ := U0.there b o e (by simp)
    by_cases hb : b ∈ frs X.stack
    · obtain ⟨o2, e2, _⟩ := mem2 b hb
      exact ⟨o2, e2⟩
    · exact ⟨o', stay b o' e1 (nex b o e) hb⟩
  · refine (hok a o e).stay (fun b u hb e1 => ?_) (fun _ q => q) fun _ _ q => q
    have hb' : H' b ≠ none := by
      rcases hb with rfl | hb
      · rw [e]; simp
      · rw [hb]; simp
    exact stay b u e1 (fun z => hb' (hext b z).2) fun z => hb' (hfn b z)
theorem funs_hide {h base : Heap} {as : List Addr} {l : List Env} (hl : h.FunFrames base l) (hin : ∀ b ∈ frs l, b ∈ as) : h.FunFrames (PySem.W.hideAll h as) l :=
  PySem.W.funFrames_hide hl fun env he a ha => hin a (by unfold frs; exact List.mem_filterMap.mpr ⟨env, he, ha⟩)
theorem pass_on {X : Cx} {E E' : XK} (hst : X.stack = X.env :: X.outer) (hfr : X.env.frame = some X.env.locals) (hex : X.ex = []) (hE : ∀ cls dx H, E' cls dx H → E cls dx H)
    {pins : List (Addr × Obj)} {σ : St} {H : Hp} {s s' : Shared} {e : Value} (I : Inv X pins σ H s) (h : CXE X.prog X.w X.stack H s E' e s') {E1 : Value → Shared → Prop} :
    wpAny (model X.prog X.w) X.A (leaving X.env e) (fun _ s'' => CXE X.prog X.w X.outer X.H₀ X.s₀ E e s'') E1 s' := by
  obtain ⟨x, C, H', rfl, os, bare, un, hok, ⟨oe, vs, T, oT, ts, a0, he, hc, hd, h1, hTe, hT, hdT, h3, hTn, hTs⟩, xn, xs, wish⟩ := h
  have nofs : ∀ b ∈ X.fs, b ∈ frs X.stack := fun b hb => by
    rw [hst]; unfold frs; rw [List.filterMap_cons, hfr]; exact List.mem_cons_of_mem _ hb
  have hU : Un (frs X.stack) [] X.H₀ H X.s₀.heap s.heap := by
    have b := I.base
    rw [hex] at b
    exact b.mono nofs fun _ z => z
  have U0 := hU.trans un
  have old : ∀ b, s.heap.get? b = none → X.s₀.heap.get? b = none := fun b e => by
    cases q : X.s₀.heap.get? b with
    | none => rfl
    | some o => obtain ⟨o', e'⟩ := hU.there b o q (by simp); rw [e] at e'; cases e'
  have hstk := I.stack
  have hfun : s'.heap.FunFrames X.base X.stack := by
    have all : ∀ (l : List Env), (∀ b ∈ frs l, b ∈ frs X.stack) → s.heap.FunFrames X.base l → s'.heap.FunFrames X.base l := by
      intro l
      induction l with
      | nil => intro _ _; trivial
      | cons env r ih =>
        intro hs hl
        obtain ⟨hk, ⟨L, o, hf, hn, ho, hdd⟩, hr⟩ := hl
        have hL : L ∈ frs X.stack := hs L (by unfold frs; rw [List.filterMap_cons, hf]; exact List.mem_cons_self)
        obtain ⟨sl, e⟩ := un.slot L o ho (I.stkFree L hL) hL (by simp)
        exact ⟨hk, ⟨L, _, hf, hn, e, hdd⟩, ih (fun b hb => hs b (by unfold frs; rw [List.filterMap_cons, hf]; exact List.mem_cons_of_mem _ hb)) hr⟩
    exact all X.stack (fun _ hb => hb) hstk
  have hfn : ∀ b ∈ frs X.stack, H' b = none := fun b hb => by
    obtain ⟨_, o, ho, _⟩ := hstk.mem hb
    exact un.free b o ho (I.stkFree b hb) (by simp)
  have hin : ∀ b ∈ frs X.stack, b ∈ [x, T] ++ frs X.stack := fun b hb => List.mem_append_right _ hb
  have hF : s'.heap.FunFrames (PySem.W.hideAll s'.heap ([x, T] ++ frs X.stack)) (X.env :: X.outer) := by
    have z := funs_hide hfun hin
    rw [hst] at z ⊢
    exact z
  refine wpAny_leaving_nextW (base := PySem.W.hideAll s'.heap ([x, T] ++ frs X.stack)) (by rw [← hst]; exact I.ok.frames) hF hfr ⟨oe, vs, T, oT, ts, he, hc, hd, h1, PySem.W.hideAll_none _ (by simp), hTe, hT, hdT, h3⟩ (fun b o q => PySem.W.of_hideAll _ q) (PySem.W.hideAll_none _ (by simp)) fun h' L => ?_
  refine ⟨x, C, H', rfl, left_done I hst hfr hex (os.trans I.os) bare U0 hok hfn (fun b hb => ?_) (by simp) (hE _ _ _ wish) L⟩
  rcases List.mem_cons.mp hb with rfl | hb
  · exact ⟨old _ xs, xn⟩
  · obtain rfl : b = T := by simpa using hb
    exact ⟨old _ hTs, hTn⟩
theorem pass_new {X : Cx} {E : XK} (hst : X.stack = X.env :: X.outer) (hfr : X.env.frame = some X.env.locals) (hex : X.ex = [])
    {pins : List (Addr × Obj)} {σ : St} {H : Hp} {s : Shared} {x C : Addr} {dx : Option Addr} (I : Inv X pins σ H s) (hH : H x = some (excH C x dx)) (h0 : X.H₀ x = none) (wish : E (.ref C) none (delH H x)) {E1 : Value → Shared → Prop} :
    wpAny (model X.prog X.w) X.A (leaving X.env (.ref x)) (fun _ s'' => CXE X.prog X.w X.outer X.H₀ X.s₀ E (.ref x) s'') E1 s := by
  obtain ⟨t, he⟩ := excH_get (I.hok x _ hH)
  have nofs : ∀ b ∈ X.fs, b ∈ frs X.stack := fun b hb => by
    rw [hst]; unfold frs; rw [List.filterMap_cons, hfr]; exact List.mem_cons_of_mem _ hb
  have hU : Un (frs X.stack) [] X.H₀ H X.s₀.heap s.heap := by
    have b := I.base
    rw [hex] at b
    exact b.mono nofs fun _ z => z
  have xs : X.s₀.heap.get? x = none := by
    cases q : X.s₀.heap.get? x with
    | none => rfl
    | some o => have := hU.free x o q h0 (by simp); rw [hH] at this; cases this
  have ne : ∀ b o, H b = some o → (∀ φ, o ≠ .ext φ) → b ≠ x := fun b o e hn z => by subst z; rw [hH] at e; cases e; exact hn _ rfl
  have U0 : Un (frs X.stack) [] X.H₀ (delH H x) X.s₀.heap s.heap := by
    refine ⟨hU.keep, hU.slot, fun b o e n hb => ?_, hU.there, fun b ys q => ?_, fun b o u q => ?_, fun b ps q => ?_⟩
    · unfold delH; split
      · rfl
      · exact hU.free b o e n hb
    · have := hU.tups b ys q
      rw [delH_ne (ne b _ this fun _ z => by cases z)]; exact this
    · have := hU.frzs b o u q
      rw [delH_ne (ne b _ this fun _ z => by cases z)]; exact this
    · obtain ⟨more, this⟩ := hU.tbls b ps q
      exact ⟨more, by rw [delH_ne (ne b _ this fun _ z => by cases z)]; exact this⟩
  have hok : HOk X.prog X.w (delH H x) s.heap := fun a o e => by
    obtain ⟨na, e'⟩ := delH_some e
    refine (I.hok a o e').stay (fun _ _ _ q => q) (fun b q => ?_) fun b ys q => ?_
    · rw [delH_ne (ne b _ q fun _ z => by cases z)]; exact q
    · rw [delH_ne (ne b _ q fun _ z => by cases z)]; exact q
  have hstk := I.stack
  have hfn : ∀ b ∈ frs X.stack, delH H x b = none := fun b hb => by
    unfold delH; split
    · rfl
    · exact I.stkFree b hb
  have hF : s.heap.FunFrames (PySem.W.hideAll s.heap ([x] ++ frs X.stack)) (X.env :: X.outer) := by
    have z := funs_hide hstk (as := [x] ++ frs X.stack) fun b hb => List.mem_append_right _ hb
    rw [hst] at z ⊢
    exact z
  refine wpAny_leaving_firstW (base := PySem.W.hideAll s.heap ([x] ++ frs X.stack)) (a0 := .ref t) (by rw [← hst]; exact I.ok.frames) hF hfr he (fun b o q => PySem.W.of_hideAll _ q) (PySem.W.hideAll_none _ (by simp)) rfl rfl rfl fun h' L => ?_
  refine ⟨x, C, delH H x, rfl, left_done (ext := [x]) I hst hfr hex I.os I.bare U0 hok hfn (fun b hb => ?_) (by simp) wish L⟩
  obtain rfl : b = x := by simpa using hb
  exact ⟨xs, delH_self⟩
end L2
namespace L2
open PySem PySem.Spec PyProof.Rows
theorem still {P : Program} {w : World} {fsL ext : List Addr} {H H' : Hp} {s s' : Shared} {h' : Heap} (un : Un fsL [] H H' s.heap s'.heap) (hok : HOk P w H' s'.heap) (hext : ∀ b ∈ ext, s.heap.get? b = none ∧ H' b = none) (hfn : ∀ b ∈ fsL, H' b = none)
    (hfd : ∀ b ∈ fsL, ∃ o, s'.heap.get? b = some o ∧ ∀ vs, o.data ≠ .fields vs) (k1 : ∀ b o, s'.heap.get? b = some o → b ∉ ext → b ∉ fsL → h'.get? b = some o)
    (k2 : ∀ b o, s'.heap.get? b = some o → (∀ vs, o.data ≠ .fields vs) → ∃ sl, h'.get? b = some { o with slots := sl }) : Un fsL [] H H' s.heap h' ∧ HOk P w H' h' := by
  have nex : ∀ b o, s.heap.get? b = some o → b ∉ ext := fun b o e hb => by rw [(hext b hb).1] at e; cases e
  refine ⟨⟨fun b o e n hb _ => k1 b o (un.keep b o e n hb (by simp)) (nex b o e) hb, fun b o e n hb _ => ?_, fun b o e n hb => un.free b o e n hb, fun b o e _ => ?_, un.tups, un.frzs, un.tbls⟩, fun a o e => ?_⟩
  · obtain ⟨sl, e1⟩ := un.slot b o e n hb (by simp)
    obtain ⟨o2, e2, nf⟩ := hfd b hb
    rw [e1] at e2; cases e2
    obtain ⟨sl', e3⟩ := k2 b _ e1 nf
    exact ⟨sl', e3⟩
  · obtain ⟨o', e1⟩ := un.there b o e (by simp)
    by_cases hb : b ∈ fsL
    · obtain ⟨o2, e2, nf⟩ := hfd b hb
      obtain ⟨sl, e3⟩ := k2 b o2 e2 nf
      exact ⟨_, e3⟩
    · exact ⟨o', k1 b o' e1 (nex b o e) hb⟩
  · refine (hok a o e).stay (fun b u hb e1 => ?_) (fun _ q => q) fun _ _ q => q
    have hb' : H' b ≠ none := by
      rcases hb with rfl | hb
      · rw [e]; simp
      · rw [hb]; simp
    exact k1 b u e1 (fun z => hb' (hext b z).2) fun z => hb' (hfn b z)
section
variable {X : Cx} {pins : List (Addr × Obj)} {σ : St} {H H' : Hp} {s s' : Shared} {E : XK} {x C : Addr}
theorem Flown.inv (I : Inv X pins σ H s) (F : Flown X.prog X.w X.stack H s E x C H' s') : Inv X pins σ H' s' :=
  I.call' (ch := []) F.os F.un F.hok F.bare fun b hb => absurd hb (by simp)
theorem Flown.frames (I : Inv X pins σ H s) (F : Flown X.prog X.w X.stack H s E x C H' s') : s'.heap.FunFrames X.base X.stack ∧ (∀ b ∈ frs X.stack, H' b = none) ∧ ∀ b ∈ frs X.stack, ∃ o, s'.heap.get? b = some o ∧ ∀ vs, o.data ≠ .fields vs := by
  have I' := F.inv I
  exact ⟨I'.stack, I'.stkFree, fun b hb => (I'.stack.mem hb).2⟩
theorem Flown.noted (hst : X.stack = X.env :: X.outer) (hfr : X.env.frame = some X.env.locals) (I : Inv X pins σ H s) (F : Flown X.prog X.w X.stack H s E x C H' s') {M : Model} {E1 E2 : Value → Shared → Prop} {A2 : Around} {Q : Unit → Shared → Prop}
    (h : ∀ s2, Flown X.prog X.w X.stack H s E x C H' s2 → Q () s2) : wpAny M X.A (noteFrame (.ref x) X.env) (fun _ s1 => wpAny M A2 (setFlight (.ref x) none) Q E2 s1) E1 s' := by
  obtain ⟨hfun, hfn, hfd⟩ := F.frames I
  obtain ⟨os, bare, un, hok, ⟨oe, vs, T, oT, ts, a0, he, hc, hd, h1, hTe, hT, hdT, h3, hTn, hTs⟩, xn, xs, wish⟩ := F
  have hF : s'.heap.FunFrames (PySem.W.hideAll s'.heap ([x, T] ++ frs X.stack)) (X.env :: X.outer) := by
    have z := funs_hide hfun (as := [x, T] ++ frs X.stack) fun b hb => List.mem_append_right _ hb
    rw [hst] at z ⊢
    exact z
  refine wpAny_noteFrame_onW (base := PySem.W.hideAll s'.heap ([x, T] ++ frs X.stack)) (by rw [← hst]; exact I.ok.frames) hF hfr ⟨oe, vs, T, oT, ts, he, hc, hd, h1, PySem.W.hideAll_none _ (by simp), hTe, hT, hdT, h3⟩ (fun b o q => PySem.W.of_hideAll _ q) (PySem.W.hideAll_none _ (by simp)) fun h' L => ?_
  obtain ⟨L1, L2, L3, L4⟩ := L
  have hext : ∀ b ∈ [x, T], s.heap.get? b = none ∧ H' b = none := fun b hb => by
    rcases List.mem_cons.mp hb with rfl | hb
    · exact ⟨xs, xn⟩
    · obtain rfl : b = T := by simpa using hb
      exact ⟨hTs, hTn⟩
  have k1 : ∀ b o, s'.heap.get? b = some o → b ∉ [x, T] → b ∉ frs X.stack → h'.get? b = some o := fun b o e n1 n2 => L1 b o (PySem.W.hideAll_get _ e fun hm => (List.mem_append.mp hm).elim n1 n2)
  obtain ⟨un2, hok2⟩ := still un hok hext hfn hfd k1 L4
  have mem2 : ∀ b ∈ frs X.stack, ∃ o, h'.get? b = some o ∧ ∀ vs, o.data ≠ .fields vs := fun b hb => (L2.mem (by rw [← hst]; exact hb)).2
  obtain ⟨oe2, vs2, T2, oT2, ts2, he2, hc2, hd2, h12, hnT2, hTe2, hT2, hdT2, h32⟩ := L3
  have hTT : H' T2 = none ∧ s.heap.get? T2 = none := by
    by_cases hm : T2 ∈ [x, T] ++ frs X.stack
    · rcases List.mem_append.mp hm with hm | hm
      · exact ⟨(hext T2 hm).2, (hext T2 hm).1⟩
      · obtain ⟨o, e, nf⟩ := mem2 T2 hm
        rw [hT2] at e; cases e
        exact absurd hdT2 (nf ts2)
    · have hs : s'.heap.get? T2 = none := by
        cases q : s'.heap.get? T2 with
        | none => rfl
        | some o => rw [PySem.W.hideAll_get _ q hm] at hnT2; cases hnT2
      constructor
      · cases q : H' T2 with
        | none => rfl
        | some o => obtain ⟨ob, e⟩ := (hok T2 o q).there; rw [hs] at e; cases e
      · cases q : s.heap.get? T2 with
        | none => rfl
        | some o => obtain ⟨ob, e⟩ := un.there T2 o q (by simp); rw [hs] at e; cases e
  -- setFlight
  have hsz : 3 < ts2.size := (Array.getElem?_eq_some_iff.mp h32).1
  unfold setFlight
  refine wpAny_bind (wpAny_field he2 hd2 h12 ?_)
  rw [if_pos (show (Value.ref T2 != Value.none) = true from by simp)]
  refine wpAny_setField hT2 hdT2 hsz (h _ ?_)
  have oth : ∀ b, b ≠ T2 → (h'.update T2 (Obj.mapFields (·.setIfInBounds 3 ((none : Option Addr).elim Value.none fun f => rawInt f)))).get? b = h'.get? b := fun b hb => Heap.get?_update_other _ _ (Ne.symm hb)
  have noT : ∀ b o, h'.get? b = some o → (∀ vs, o.data ≠ .fields vs) → b ≠ T2 := fun b o e nf z => by subst z; rw [hT2] at e; cases e; exact nf _ hdT2
  obtain ⟨un3, hok3⟩ := still (s' := { s' with heap := h' }) (ext := [T2]) (h' := h'.update T2 (Obj.mapFields (·.setIfInBounds 3 ((none : Option Addr).elim Value.none fun f => rawInt f)))) un2 hok2 (fun b hb => by
    obtain rfl : b = T2 := by simpa using hb
    exact ⟨hTT.2, hTT.1⟩) hfn mem2 (fun b o e n1 _ => by rw [oth b (by simpa using n1)]; exact e) fun b o e nf => ⟨o.slots, by rw [oth b (noT b o e nf)]; exact e⟩
  refine ⟨os, bare, un3, hok3, ⟨oe2, vs2, T2, _, _, a0, ?_, hc2, hd2, h12, hTe2, Heap.get?_update_self _ hT2 (Obj.isFreed_of_fields (Obj.data_mapFields hdT2 _)), Obj.data_mapFields hdT2 _, by simp [hsz], hTT.1, hTT.2⟩, xn, xs, wish⟩
  rw [oth x (Ne.symm hTe2)]; exact he2
theorem Flown.landed (I : Inv X pins σ H s) (F : Flown X.prog X.w X.stack H s E x C H' s') {M : Model} {E2 : Value → Shared → Prop} {A2 : Around} {Q : Unit → Shared → Prop}
    (h : ∀ s2, Flown X.prog X.w X.stack H s E x C H' s2 → Q () s2) : wpAny M A2 (setFlight (.ref x) none) Q E2 s' := by
  obtain ⟨hfun, hfn, hfd⟩ := F.frames I
  obtain ⟨os, bare, un, hok, ⟨oe2, vs2, T2, oT2, ts2, a0, he2, hc2, hd2, h12, hTe2, hT2, hdT2, h32, hTn, hTs⟩, xn, xs, wish⟩ := F
  have hsz : 3 < ts2.size := (Array.getElem?_eq_some_iff.mp h32).1
  unfold setFlight
  refine wpAny_bind (wpAny_field he2 hd2 h12 ?_)
  rw [if_pos (show (Value.ref T2 != Value.none) = true from by simp)]
  refine wpAny_setField hT2 hdT2 hsz (h _ ?_)
  have oth : ∀ b, b ≠ T2 → (s'.heap.update T2 (Obj.mapFields (·.setIfInBounds 3 ((none : Option Addr).elim Value.none fun f => rawInt f)))).get? b = s'.heap.get? b := fun b hb => Heap.get?_update_other _ _ (Ne.symm hb)
  have noT : ∀ b o, s'.heap.get? b = some o → (∀ vs, o.data ≠ .fields vs) → b ≠ T2 := fun b o e nf z => by subst z; rw [hT2] at e; cases e; exact nf _ hdT2
  obtain ⟨un3, hok3⟩ := still (ext := [T2]) (h' := s'.heap.update T2 (Obj.mapFields (·.setIfInBounds 3 ((none : Option Addr).elim Value.none fun f => rawInt f)))) un hok (fun b hb => by
    obtain rfl : b = T2 := by simpa using hb
    exact ⟨hTs, hTn⟩) hfn hfd (fun b o e n1 _ => by rw [oth b (by simpa using n1)]; exact e) fun b o e nf => ⟨o.slots, by rw [oth b (noT b o e nf)]; exact e⟩
  refine ⟨os, bare, un3, hok3, ⟨oe2, vs2, T2, _, _, a0, ?_, hc2, hd2, h12, hTe2, Heap.get?_update_self _ hT2 (Obj.isFreed_of_fields (Obj.data_mapFields hdT2 _)), Obj.data_mapFields hdT2 _, by simp [hsz], hTn, hTs⟩, xn, xs, wish⟩
  rw [oth x (Ne.symm hTe2)]; exact he2
theorem Flown.cls (F : Flown X.prog X.w X.stack H s E x C H' s') : ∃ oe, s'.heap.get? x = some oe ∧ oe.cls = .ref C := by obtain ⟨oe, _, _, _, _, _, he, hc, _⟩ := F.tr; exact ⟨oe, he, hc.1⟩
end
noncomputable abbrev Cx.inA (X : Cx) (A : Around) : Cx := { X with A := A, calm := false, xe := fun _ _ => False }
theorem Inv.inA {X : Cx} {pins : List (Addr × Obj)} {σ : St} {H : Hp} {s : Shared} (I : Inv X pins σ H s) (A : Around) (hA : A.frames = X.A.frames) : Inv (X.inA A) pins σ H s :=
  ⟨⟨I.ok.mod, I.ok.kind, I.ok.glob, I.ok.blt, I.ok.above, I.ok.inj, I.ok.has, I.ok.cab, fun h => absurd h (by simp), hA.trans I.ok.frames, I.ok.stk, I.ok.exf, I.ok.bs, I.ok.bsz, I.ok.noex, I.ok.exfs, I.ok.funs, I.ok.frf⟩, I.os, I.bare, I.base, I.loc, I.cell, I.free, I.freeC, I.pin, I.hok, I.len⟩
theorem Inv.outA {X : Cx} {pins : List (Addr × Obj)} {σ : St} {H : Hp} {s : Shared} {A : Around} (ok : X.Ok) (I : Inv (X.inA A) pins σ H s) : Inv X pins σ H s :=
  ⟨ok, I.os, I.bare, I.base, I.loc, I.cell, I.free, I.freeC, I.pin, I.hok, I.len⟩
theorem SP.outA {X : Cx} {pins : List (Addr × Obj)} {A : Around} {D : Ends} {f : Flow} {s : Shared} (ok : X.Ok) (h : SP (X.inA A) pins D f s) : SP X pins D f s := by
  cases f with
  | next => obtain ⟨σ', H', I, q⟩ := h; exact ⟨σ', H', I.outA ok, q⟩
  | brk => obtain ⟨σ', H', I, q⟩ := h; exact ⟨σ', H', I.outA ok, q⟩
  | cont => obtain ⟨σ', H', I, q⟩ := h; exact ⟨σ', H', I.outA ok, q⟩
  | ret u => obtain ⟨v, σ', H', I, r, q⟩ := h; exact ⟨v, σ', H', I.outA ok, r, q⟩
noncomputable def PHd (X : Cx) (hs : List ExceptHandler) (t : Addr → TS) : Prop :=
  ∀ (pins : List (Addr × Obj)) (σ : St) (H0 H : Hp) (s0 s : Shared) (E : XK) (x C : Addr) (D : Ends), Inv X pins σ H0 s0 → Flown X.prog X.w X.stack H0 s0 E x C H s → t C D σ H → wpAny (model X.prog X.w) X.A (handleBy (.ref x) X.env hs) (SP X pins D) X.xe s
noncomputable def hNone : Addr → TS := fun _ _ _ _ => False
noncomputable def hCons (K : PySem.W.Frag) (Dc : Addr) (ts : TS) (r : Addr → TS) : Addr → TS := fun C D σ H => ∃ b, PySem.W.exmOne K (.ref C) (.ref Dc) = some b ∧ if b = true then ts D σ H else r C D σ H
section
variable {X : Cx}
theorem phd_nil : PHd X [] hNone := fun _ _ _ _ _ _ _ _ _ _ _ _ h => h.elim
theorem phd_cons {cn : Str} {np pos : Pos} {b0 : Stmt} {suite : List Stmt} {rest : List ExceptHandler} {Dc : Addr} {ts : TS} {r : Addr → TS} (hg : Gl X cn) (hm : X.mg cn = some (.ref Dc)) (hs : ∀ A, PSs (X.inA A) (b0 :: suite) ts) (hr : PHd X rest r)
    (hd : (cn == ("__debug__" : Str)) = false := by decide) : PHd X (.ExceptHandler (some (.Name cn np)) none (b0 :: suite) pos :: rest) (hCons X.K Dc ts r) := by
  intro pins σ H0 H s0 s E x C D I0 F h
  obtain ⟨b, hb, h⟩ := h
  have I := F.inv I0
  obtain ⟨oe, he, hc⟩ := F.cls
  have Im := I.inA (X.A.mark (some (.ref x))) rfl
  refine wpAny_handleBy_cons (codeAny_handlers_test (ld_glob (X := X.inA (X.A.mark (some (.ref x)))) Im hg hm ?_ hd)) (by intro q; cases q)
  refine exc_match I.kIn he hc hb ?_
  cases b with
  | true =>
    rw [if_pos rfl] at h
    refine codeAny_handlers_suite (F.landed I0 fun s2 F2 => ?_)
    have I2 := (F2.inv I0).inA (X.A.mark (some (.ref x))) rfl
    exact wpAny_mono (hs _ pins s2 σ H D I2 h) (fun f s3 q => q.outA I.ok) fun _ _ z => z.elim
  | false =>
    rw [if_neg Bool.false_ne_true] at h
    exact hr pins σ H0 H s0 s E x C D I0 F h
end
noncomputable abbrev Cx.inTry (X : Cx) (pn : List (Addr × Obj)) (xe : Value → Shared → Prop) : Cx := { X with pn := pn, xe := xe }
theorem Inv.inTry {X : Cx} {pins : List (Addr × Obj)} {σ : St} {H : Hp} {s : Shared} (I : Inv X pins σ H s) (xe : Value → Shared → Prop) : Inv (X.inTry (X.pn ++ pins) xe) [] σ H s :=
  ⟨⟨I.ok.mod, I.ok.kind, I.ok.glob, I.ok.blt, I.ok.above, I.ok.inj, I.ok.has, I.ok.cab, I.ok.hd, I.ok.frames, I.ok.stk, I.ok.exf, I.ok.bs, I.ok.bsz, I.ok.noex, I.ok.exfs, I.ok.funs, I.ok.frf⟩, I.os, I.bare, I.base, I.loc, I.cell, I.free, I.freeC, fun p hp => I.pin p (by simpa using hp), I.hok, I.len⟩
theorem Inv.outTry {X : Cx} {pins pins' : List (Addr × Obj)} {σ : St} {H : Hp} {s : Shared} {xe : Value → Shared → Prop} (ok : X.Ok) (I : Inv (X.inTry (X.pn ++ pins) xe) pins' σ H s) : Inv X pins σ H s :=
  ⟨ok, I.os, I.bare, I.base, I.loc, I.cell, I.free, I.freeC, fun p hp => I.pin p (List.mem_append_left _ hp), I.hok, I.len⟩
noncomputable def tTry (tb : (St → XK) → TS) (th : Addr → TS) : TS := fun D σ H => ∃ E : St → XK, (∀ σ' C dx H', E σ' (.ref C) dx H' → th C D σ' H') ∧ tb E D σ H
section
variable {X : Cx}
theorem ps_try {body : List Stmt} {h0 : ExceptHandler} {hs : List ExceptHandler} {pos : Pos} {tb : (St → XK) → TS} {th : Addr → TS} (hst : X.stack = X.env :: X.outer) (hfr : X.env.frame = some X.env.locals)
    (hb : ∀ (E : St → XK) (pn : List (Addr × Obj)) (xe : Value → Shared → Prop), Passes (CXE X.prog X.w) (X.inTry pn xe) E → PSs (X.inTry pn xe) body (tb E)) (hh : PHd X (h0 :: hs) th) : PS X (.Try body (h0 :: hs) [] [] pos) (tTry tb th) := by
  intro pins s σ H D I h
  obtain ⟨E, hE, hq⟩ := h
  rw [arm_exec_Try]
  refine wpAny_bind (wpAny_standAt ?_)
  unfold tryStmt
  show wpAny _ _ ((execs body X.env).attempt >>= _) _ _ s
  have pass : Passes (CXE X.prog X.w) (X.inTry (X.pn ++ pins) fun e s' => wpAny (model X.prog X.w) X.A (noteFrame e X.env) (fun _ s1 => wpAny (model X.prog X.w) X.A (setFlight e none) (fun _ s2 => wpAny (model X.prog X.w) X.A (handleBy e X.env (h0 :: hs)) (SP X pins D) X.xe s2) X.xe s1) X.xe s') E := by
    intro pins' σ' H1 s1 e s' I1 hx
    obtain ⟨x, C, H2, rfl, F⟩ := hx
    have J := I1.outTry I.ok
    have F' : Flown X.prog X.w X.stack H1 s1 (E σ') x C H2 s' := F
    exact F'.noted hst hfr J fun s2 F2 => hh pins σ' H1 H2 s1 s2 (E σ') x C D J F2 (hE σ' C none H2 F2.wish)
  refine wpAny_bind (wpAny_attempt (wpAny_mono (hb E _ _ pass [] s σ H D (I.inTry _) hq) (fun f s1 h1 => ?_) fun e s1 h1 => ?_))
  · have h2 : SP X pins D f s1 := by
      cases f with
      | next => obtain ⟨σ', H', J, q⟩ := h1; exact ⟨σ', H', J.outTry I.ok, q⟩
      | brk => obtain ⟨σ', H', J, q⟩ := h1; exact ⟨σ', H', J.outTry I.ok, q⟩
      | cont => obtain ⟨σ', H', J, q⟩ := h1; exact ⟨σ', H', J.outTry I.ok, q⟩
      | ret u => obtain ⟨v, σ', H', J, r, q⟩ := h1; exact ⟨v, σ', H', J.outTry I.ok, r, q⟩
    cases f with
    | next => exact wpAny_execs_nil h2
    | brk => exact wpAny_pure h2
    | cont => exact wpAny_pure h2
    | ret u => exact wpAny_pure h2
  · refine wpAny_bind (wpAny_mono h1 (fun _ s2 h2 => ?_) fun _ _ z => z)
    show wpAny _ _ (setFlight e none >>= _) _ _ s2
    exact wpAny_bind (wpAny_mono h2 (fun _ s3 h3 => h3) fun _ _ z => z)
end
end L2
namespace L2
open PySem PySem.Spec PyProof.Rows
structure XC (K : PySem.W.Frag) (C : Addr) : Prop where
  sh : ∃ bm, ∀ h : Heap, K.In h → XShape h C bm
  sa : PySem.W.findIn K (.ref C) "__setattr__" = some (some (.builtin "object.__setattr__"))
  cd : ∃ cd, PySem.W.clsIn K C = some cd ∧ cd.hasDict = true ∧ excLine cd.mro = true
theorem xc_mk {K : PySem.W.Frag} {C N : Addr} {nm q : Str} {bs bm : List Value} {hdct : Bool} {sn : List Str} {sub : List Value} {ab : Bool} {col : Option Bool} {dd : Option Addr} {k0 k1 k2 k3 k5 : Option Value} {cd : ClassData}
    (l : K.lookup C = some (excClassObj nm q C N bs bm hdct sn sub ab col dd k0 k1 k2 k3 k5 "ValueError.__new__")) (sa : PySem.W.findIn K (.ref C) "__setattr__" = some (some (.builtin "object.__setattr__"))) (c : PySem.W.clsIn K C = some cd)
    (h1 : (bm.contains (.type "ValueError") && bm.contains (.type "BaseException") && !bm.contains (.type "AttributeError") && !bm.contains (.type "NameError") && cd.hasDict && excLine cd.mro) = true) : XC K C := by
  simp only [Bool.and_eq_true, Bool.not_eq_true'] at h1
  obtain ⟨⟨⟨⟨⟨a, b⟩, c'⟩, d⟩, e⟩, f⟩ := h1
  exact ⟨⟨bm, fun h X => ⟨⟨nm, q, N, bs, hdct, sn, sub, ab, col, dd, k0, k1, k2, k3, k5, X _ _ l⟩, a, b, c', d⟩⟩, sa, cd, c, e, f⟩
structure XMk (K : PySem.W.Frag) (C f : Addr) : Prop where
  xc : XC K C
  init : PySem.W.findIn K (.ref C) "__init__" = some (some (.ref f))
  fn : PySem.W.isFn K (.ref f) = true
  kp : PySem.W.keepIn K (.ref C) = true
section
variable {X : Cx} {CX : CXT} {k : Nat} {f C : Addr} {fd : FuncData} {ps : List Str} {sp : Sp} {dvs : List V} {ds : List Value} {E : St → XK} {x m : Str} {p pos apos : Pos} {e o : Expr} {es : List Expr} {ta : TE} {t : TA}
noncomputable def tExc (C : Addr) (sp : Sp) (dvs : List V) (E : St → XK) (t : TA) : TE := fun σ H Q => t σ H fun vs H1 => vs.length ≤ sizeLine ∧ ∀ x, H1 x = none →
  sp (.ref x :: (vs ++ dvs)) (upd H1 x (excH C x none)) (fun v H2 => v = .non ∧ Q (.ref x) H2) (E σ)
theorem run_exc {pins : List (Addr × Obj)} {σ : St} {H : Hp} {s : Shared} {Q : VK} {us : List Value} {vs : List V} (M : XMk X.K C f) (F : FnOk X.prog X.w X.K X.mg X.base CX k f fd ps sp) (hr : Room (k + 1) X.A) (hb : Binds X.K fd ps ds) (hd : Vals dvs ds)
    (hx : Passes CX X E) (I : Inv X pins σ H s) (r : Vals vs us) (hz : vs.length ≤ sizeLine)
    (h : ∀ x, H x = none → sp (.ref x :: (vs ++ dvs)) (upd H x (excH C x none)) (fun v H2 => v = .non ∧ Q (.ref x) H2) (E σ)) :
    wpAny (model X.prog X.w) X.A (call (.ref C) us) (EP X pins σ Q) X.xe s := by
  have hq := h (s.heap.objs.size + 1) (I.hok.fresh (Nat.le_succ _))
  obtain ⟨bm, sh⟩ := M.xc.sh
  have I1 : Inv X pins σ H { s with heap := s.heap.push { cls := .type "tuple", data := .seq us.toArray } } := I.kept (t' := s.toks) fun b o q => Heap.get?_push_of_some _ q
  have eX : ((s.heap.push { cls := .type "tuple", data := .seq us.toArray }).push (excObj C none s.heap.objs.size)).get? (s.heap.objs.size + 1) = some (excObj C none s.heap.objs.size) := by
    have := Heap.get?_push_size (s.heap.push { cls := .type "tuple", data := .seq us.toArray }) (o := excObj C none s.heap.objs.size) rfl
    rwa [Heap.size_push] at this
  have I2 : Inv X pins σ (upd H (s.heap.objs.size + 1) (excH C (s.heap.objs.size + 1) none)) { s with heap := (s.heap.push { cls := .type "tuple", data := .seq us.toArray }).push (excObj C none s.heap.objs.size) } :=
    I1.laid (a := s.heap.objs.size + 1) (o := excH C (s.heap.objs.size + 1) none) (t' := s.toks) (fun b u q => Heap.get?_push_of_some _ q) (Nat.le_of_eq (Heap.size_push _ _)) (excH_ok eX)
  have r2 : Vals (V.ref (s.heap.objs.size + 1) :: (vs ++ dvs)) (Value.ref (s.heap.objs.size + 1) :: (us ++ ds)) := .cons rfl (r.append hd)
  have hl : (Value.ref (s.heap.objs.size + 1) :: us ++ ds).length = ps.length := by
    have e := r2.length
    rw [F.len _ _ _ _ hq] at e
    exact e.symm
  have hcall : wpAny (model X.prog X.w) (X.A.under (.builtin "type.__call__" ⟨.ref C :: us, []⟩)) (call (.ref f) (.ref (s.heap.objs.size + 1) :: us)) (fun r s' => r = .none ∧ EP X pins σ Q (.ref (s.heap.objs.size + 1)) s') X.xe
      { s with heap := (s.heap.push { cls := .type "tuple", data := .seq us.toArray }).push (excObj C none s.heap.objs.size) } := by
    refine wpAny_call (codeAny_mono (F.run _ X.stack _ _ ⟨Value.ref (s.heap.objs.size + 1) :: us, []⟩ (Value.ref (s.heap.objs.size + 1) :: (us ++ ds)) _ _ (E σ) (hr.make C us [])
      (I2.env0.make C us []) (hb _ (Value.ref (s.heap.objs.size + 1) :: us) I2.kIn hl) r2 hq) fun r s' hq' => ?_)
    cases r with
    | error e => exact hx pins σ _ _ e s' I2 hq'
    | ok fl =>
      cases fl with
      | ret u =>
        obtain ⟨v, H', I3, rv, ev, q3⟩ := I2.after hq'
        subst ev
        exact ⟨rv, ⟨V.ref (s.heap.objs.size + 1), H', I3, rfl, q3⟩⟩
      | next => exact False.elim hq'
      | brk => exact False.elim hq'
      | cont => exact False.elim hq'
  obtain ⟨hh, g, d, tk, os⟩ := s
  exact exc_call I.kIn (sh _ I.kIn) M.init M.fn (by rw [← r.length]; exact hz) hcall
theorem pe_exc (M : XMk X.K C f) (F : FnOk X.prog X.w X.K X.mg X.base CX k f fd ps sp) (hr : Room (k + 1) X.A) (hg : Gl X x) (hm : X.mg x = some (.ref C)) (hb : Binds X.K fd ps ds) (hd : Vals dvs ds) (hx : Passes CX X E)
    (ha : PA X (e :: es) t) (hdb : (x == ("__debug__" : Str)) = false := by decide) (he : starEach (e :: es) X.env = (false, eval e X.env) :: starEach es X.env := by rfl) (hpl : (backTo pos (starEach es X.env)).any (·.1) = false := by rfl) :
    PE X (.Call (.Name x p) (e :: es) [] pos) (tExc C sp dvs E t) := by
  intro pins s σ H Q I h
  refine wpAny_Call_Name_kw (ld_glob I hg hm ?_ hdb)
  refine PySem.W.callWith_K (h₀ := X.base) I.ok.mod.kin M.kp (thn (ha pos pins s σ H _ I h) fun us s1 ⟨vs, H1, I1, r, hz, q⟩ => ⟨I1.kIn, ?_⟩) he hpl
  exact run_exc M F hr hb hd hx I1 r hz q
structure ClsFn (K : PySem.W.Frag) (D : Addr) (m : Str) (f : Addr) : Prop where
  ga : PySem.W.specialIn K (.ref D) "__getattribute__" = some (some (.builtin "type.__getattribute__"))
  rd : PySem.W.readsIn K D (.type "type") = true
  fnd : PySem.W.findCls K (.ref D) (.type "type") m = some (.val (.ref f))
  kp : PySem.W.keepIn K (.ref f) = true
theorem pe_clsCall {D : Addr} {pl : Sem Bool} (c : ClsFn X.K D m f) (F : FnOk X.prog X.w X.K X.mg X.base CX k f fd ps sp) (hr : Room k X.A) (hg : Gl X x) (hm : X.mg x = some (.ref D)) (hb : Binds X.K fd ps ds) (hd : Vals dvs ds) (hx : Passes CX X E)
    (ha : PA X (e :: es) t) (hdb : (x == ("__debug__" : Str)) = false := by decide) (hst : starEach (e :: es) X.env = (false, eval e X.env) :: starEach es X.env := by rfl) (hpl : (backTo pos (starEach es X.env)).any (·.1) = false := by rfl)
    (ht : eval (.Call (.Attribute (.Name x p) m apos) (e :: es) [] pos) X.env = (do
      let ov ← eval (.Name x p) X.env
      standAt apos.atName
      let (f, first) ← holding [ov] (getMethod ov m pl)
      callWith pos f first (backTo pos (starEach (e :: es) X.env)) (backToKw pos (keywordEach [] X.env))) := by rfl) :
    PE X (.Call (.Attribute (.Name x p) m apos) (e :: es) [] pos) (tCall sp dvs E t) := by
  intro pins s σ H Q I h
  refine PySem.W.methodCall_KW (pl := pl) (ld_glob I hg hm ?_ hdb) ht
  refine PySem.W.method_cls I.kIn c.ga (PySem.W.cls_value I.kIn c.rd c.fnd rfl ?_)
  have I1 := I.tok (s.toks + 1)
  refine PySem.W.callWith_K (first := []) (h₀ := X.base) I.ok.mod.kin c.kp (thn (ha pos pins _ σ H _ I1 h) fun us s2 ⟨vs, H2, I2, r, q2⟩ => ⟨I2.kIn, ?_⟩) hst hpl
  exact run_fn F hr hb hd hx I2 r q2
noncomputable def tVin (K : PySem.W.Frag) (t : TA) : TE := fun σ H Q => t σ H fun vs H1 => ∃ x C dx rest, vs = .ref x :: rest ∧ rest.length ≤ sizeLine ∧ H1 x = some (excH C x dx) ∧ XC K C ∧ Q .non (upd H1 x (excH C x dx))
theorem call_vinit {pins : List (Addr × Obj)} {σ : St} {H : Hp} {s : Shared} {Q : VK} {us : List Value} {vs : List V} (I : Inv X pins σ H s) (r : Vals vs us)
    (h : ∃ x C dx rest, vs = .ref x :: rest ∧ rest.length ≤ sizeLine ∧ H x = some (excH C x dx) ∧ XC X.K C ∧ Q .non (upd H x (excH C x dx))) : wpAny (model X.prog X.w) X.A (call (.builtin "ValueError.__init__") us) (EP X pins σ Q) X.xe s := by
  obtain ⟨x, C, dx, rest, rfl, hz, hx, c, q⟩ := h
  cases r with
  | cons r1 r2 =>
    cases r1
    obtain ⟨t0, he⟩ := excH_get (I.hok x _ hx)
    obtain ⟨bm, sh⟩ := c.sh
    obtain ⟨hh, g, d, tk, os⟩ := s
    refine exc_vinit (sh _ I.kIn) he (by rw [← r2.length]; exact hz) fun h' e1 keep => ?_
    have I2 : Inv X pins σ (upd H x (excH C x dx)) ⟨h', g, d, tk, os⟩ := I.write (t' := tk) (x := x) (e := x) (by rw [hx]; exact True.intro) (.inl rfl) (fun b u hb q => keep b u hb q) ⟨_, e1⟩ (excH_ok e1)
    exact ⟨.non, _, I2, rfl, q⟩
theorem ve_type : typeOf (.type "ValueError") = pure (.type "type") := by kernel_rfl
theorem ve_stub : Manifest.isStub "ValueError" = false := by decide +kernel
theorem ve_find {K : PySem.W.Frag} : PySem.W.findCls K (.type "ValueError") (.type "type") "__init__" = some (.val (.builtin "ValueError.__init__")) := by kernel_rfl
set_option maxHeartbeats 4000000 in
theorem pe_vinit {pl : Sem Bool} (hg : Gl X "ValueError") (hm : X.mg "ValueError" = none) (ha : PA X (e :: es) t) (hst : starEach (e :: es) X.env = (false, eval e X.env) :: starEach es X.env := by rfl) (hpl : (backTo pos (starEach es X.env)).any (·.1) = false := by rfl)
    (ht : eval (.Call (.Attribute (.Name "ValueError" p) "__init__" apos) (e :: es) [] pos) X.env = (do
      let ov ← eval (.Name "ValueError" p) X.env
      standAt apos.atName
      let (f, first) ← holding [ov] (getMethod ov "__init__" pl)
      callWith pos f first (backTo pos (starEach (e :: es) X.env)) (backToKw pos (keywordEach [] X.env))) := by rfl) :
    PE X (.Call (.Attribute (.Name "ValueError" p) "__init__" apos) (e :: es) [] pos) (tVin X.K t) := by
  intro pins s σ H Q I h
  obtain ⟨m, F⟩ := I.fr
  refine PySem.W.methodCall_KW (pl := pl) (ld_blt I hg hm PyProof.Rows.Boot.«ValueError» ?_) ht
  refine PySem.W.method_type (v := .builtin "ValueError.__init__") F I.mod.kin ve_type ve_stub ve_find rfl ?_
  have I1 := I.tok (s.toks + 1)
  exact PyProof.Rows.callWith_builtin1 (thn (ha pos pins _ σ H _ I1 h) fun us s1 ⟨vs, H1, I2, r1, q1⟩ => call_vinit I2 r1 q1) hst hpl
noncomputable def sFldX0 (K : PySem.W.Frag) (ta tv : TE) (f : Str) : TS := fun D σ H => tv σ H fun y H1 => ta σ H1 fun x H2 => ∃ a C, x = .ref a ∧ H2 a = some (excH C a none) ∧ XC K C ∧ PySem.W.findIn K (.ref C) f = some none ∧
  ∀ d, H2 d = none → d ≠ a → D.nx σ (upd (upd H2 d (.xd [(f, y)])) a (excH C a (some d)))
theorem ps_fldX0 {o value : Expr} {f : Str} {pos' : Pos} {tv : TE} (ha : PE X o ta) (hv : PE X value tv) (hs : swapsWith value (some (.Attribute o f pos')) pos.line X.env = pure false) : PS X (.Assign [.Attribute o f pos'] value pos) (sFldX0 X.K ta tv f) := by
  intro pins s σ H D I h
  refine plainObj_wpAny_Assign_Attribute (thn (hv pins s σ H _ I h) fun u s1 h1_ => ?_) hs
  obtain ⟨y, H1, I1, ry, q⟩ := h1_
  refine thn (ha pins s1 σ H1 _ I1 q) fun ov s2 h_ => ?_
  obtain ⟨x, H2, I2, rx, a, C, ex, ea, c, n, q2⟩ := h_
  subst ex
  obtain rfl : ov = Value.ref a := rx
  obtain ⟨t0, he⟩ := excH_get (I2.hok a _ ea)
  obtain ⟨cd, c1, c2, c3⟩ := c.cd
  refine exc_set0 I2.kIn he c.sa c1 c2 c3 n fun h' e1 n1 keep => ?_
  have hd : H2 s2.heap.objs.size = none := I2.fresh
  have hda : s2.heap.objs.size ≠ a := Nat.ne_of_gt (Heap.lt_size he)
  have od : ∃ o, h'.get? s2.heap.objs.size = some o := let ⟨o, _, _, e, _⟩ := n1; ⟨o, e⟩
  have ne2 : ∀ b o, H2 b = some o → (∀ φ, o ≠ .ext φ) → b ≠ a := fun b o e hn z => by subst z; rw [ea] at e; cases e; exact hn _ rfl
  refine ⟨σ, _, I2.un (h' := h') (t' := s2.toks + 2) ⟨fun b o e nb _ _ => keep b o (fun z => by subst z; rw [ea] at nb; cases nb) e, fun b o e nb _ _ => ⟨o.slots, keep b o (fun z => by subst z; rw [ea] at nb; cases nb) e⟩, fun b o e nb _ => ?_, fun b o e _ => ?_, fun b ys e => ?_, fun b o ys e => ?_, fun b ys e => ?_⟩ fun b o e => ?_, q2 _ hd hda⟩
  · rw [upd_ne (fun z => by subst z; rw [ea] at nb; cases nb), upd_ne (Nat.ne_of_lt (Heap.lt_size e))]; exact nb
  · by_cases z : b = a
    · subst z; exact ⟨_, e1⟩
    · exact ⟨o, keep b o z e⟩
  · rw [upd_ne (ne2 b _ e fun _ z => by cases z), upd_ne (ne_of_none e hd)]; exact e
  · rw [upd_ne (ne2 b _ e fun _ z => by cases z), upd_ne (ne_of_none e hd)]; exact e
  · exact ⟨#[], by rw [upd_ne (ne2 b _ e fun _ z => by cases z), upd_ne (ne_of_none e hd), e]; simp⟩
  · by_cases z : b = a
    · subst z
      rw [upd_same] at e; cases e
      exact excH_ok e1
    · rw [upd_ne z] at e
      by_cases z2 : b = s2.heap.objs.size
      · subst z2
        rw [upd_same] at e; cases e
        refine ⟨_, n1, fun g => ?_⟩
        by_cases q : g = f
        · subst q
          simp only [List.lookup_cons, beq_self_eq_true, if_true]
          exact ry
        · have hb : (g == f) = false := beq_eq_false_iff_ne.mpr q
          simp only [List.lookup_cons, hb, List.lookup_nil, if_neg q]
          trivial
      · rw [upd_ne z2] at e
        refine (I2.hok b o e).stay (fun c v hc q => keep c v ?_ q) (fun c q => ?_) fun c ys q => ?_
        · rcases hc with rfl | hc
          · exact z
          · exact ne2 c _ hc fun _ z => by cases z
        · rw [upd_ne (ne2 c _ q fun _ z => by cases z), upd_ne (ne_of_none q hd)]; exact q
        · rw [upd_ne (ne2 c _ q fun _ z => by cases z), upd_ne (ne_of_none q hd)]; exact q
end
noncomputable def tRaise (H₀ : Hp) (K : PySem.W.Frag) (E : XK) (te : TE) : TS := fun _ σ H => te σ H fun v H1 => ∃ x C dx, v = .ref x ∧ H1 x = some (excH C x dx) ∧ H₀ x = none ∧ XC K C ∧ E (.ref C) none (delH H1 x)
section
variable {P : Program} {w : World} {K : PySem.W.Frag} {mg : Str → Option Value} {base : Heap} {N : List Str} {qual : Str} {scope : Scope} {f : Addr} {cd : Value} {A : Around} {outer : List Env} {s : Shared} {H : Hp} {E : XK}
theorem passE : Passes (CXE P w) (cxOf (CXE P w) P w K mg base N qual scope f cd A outer s H E) (fun _ => E) := fun pins σ H1 s1 e s' I h => pass_on (X := cxOf (CXE P w) P w K mg base N qual scope f cd A outer s H E) rfl rfl rfl (fun _ _ _ z => z) I h
theorem passN {X : Cx} : Passes (CXE P w) X E0 := fun _ _ _ _ _ _ _ h => by
  obtain ⟨_, _, _, _, F⟩ := h
  exact F.wish.elim
theorem ownE : PassesOwn (model P w) (A.deeper (envOfC qual scope s.heap.objs.size f cd)) (envOfC qual scope s.heap.objs.size f cd) (cxOf (CXE P w) P w K mg base N qual scope f cd A outer s H E).xe := PassesOwn.leaving
theorem ps_raise {e : Expr} {pos : Pos} {te : TE} (hd : A.handled = none) (he : PE (cxOf (CXE P w) P w K mg base N qual scope f cd A outer s H E) e te) : PS (cxOf (CXE P w) P w K mg base N qual scope f cd A outer s H E) (.Raise (some e) none pos) (tRaise H K E te) := by
  intro pins s1 σ H1 D I h
  rw [arm_exec_Raise]
  refine wpAny_bind (wpAny_standAt ?_)
  refine exc_raise (env := (cxOf (CXE P w) P w K mg base N qual scope f cd A outer s H E).env) (bm := []) (dx := none) (t0 := 0) hd ?_
  refine wpAny_bind (thn (he pins s1 σ H1 _ I h) fun u s2 h_ => ?_)
  obtain ⟨v, H2, I2, r, x, C, dx, ev, ex, h0, c, q⟩ := h_
  refine wpAny_bind (wpAny_standAt (wpAny_pure ?_))
  subst ev
  obtain rfl : u = Value.ref x := r
  obtain ⟨t0, hex⟩ := excH_get (I2.hok x _ ex)
  obtain ⟨bm, sh⟩ := c.sh
  exact ⟨x, t0, dx, C, bm, rfl, sh _ I2.kIn, hex, pass_new (X := cxOf (CXE P w) P w K mg base N qual scope f cd A outer s H E) rfl rfl rfl I2 ex h0 q⟩
end
structure FunD (K : PySem.W.Frag) (x qual : Str) (st : Stmt) (f : Addr) (fd : FuncData) : Prop where
  ex : ∃ (oc : Value) (od : Option Addr) (dV kV doc pm : Value) (an : Option Addr) (cdv ct : Value) (osl : Array (Option Value)),
    fd = PySem.W.fnOf x qual (defArgs st) (defBody st) (defScope st) dV kV doc pm an cdv ct ∧ K.lookup f = some ⟨oc, od, .func fd, osl⟩ ∧ PySem.W.codeIn K cdv qual = true
  kp : PySem.W.keepIn K (.ref f) = true
theorem fund_mk {K : PySem.W.Frag} {x qual : Str} {st : Stmt} {f : Addr} {oc dV : Value} {od an : Option Addr} {osl : Array (Option Value)} {kV doc pm cdv ct : Value} (l : K.lookup f = some ⟨oc, od, .func (PySem.W.fnOf x qual (defArgs st) (defBody st) (defScope st) dV kV doc pm an cdv ct), osl⟩)
    (c : PySem.W.codeIn K cdv qual = true) (k : PySem.W.keepIn K (.ref f) = true) : FunD K x qual st f (PySem.W.fnOf x qual (defArgs st) (defBody st) (defScope st) dV kV doc pm an cdv ct) := ⟨⟨oc, od, dV, kV, doc, pm, an, cdv, ct, osl, rfl, l, c⟩, k⟩
section
variable {P : Program} {w : World} {K : PySem.W.Frag} {mg : Str → Option Value} {base : Heap}
theorem FunD.okE {x qual : Str} {st : Stmt} {f : Addr} {fd : FuncData} {N ps : List Str} {k : Nat} {sp : Sp} (F : FunD K x qual st f fd) (S : FnScope N ps (defScope st)) (len : ∀ vs H Q E, sp vs H Q E → vs.length = ps.length)
    (hbody : ∀ (cdv : Value) (A : Around) (outer : List Env) (s : Shared) (H : Hp) (vs : List V) (Q : VK) (E : XK), Room k (A.deeper (envOfC qual (defScope st) s.heap.objs.size f cdv)) → sp vs H Q E →
      ∃ t, PSs (cxOf (CXE P w) P w K mg base N qual (defScope st) f cdv A outer s H E) (defBody st) t ∧ t { nx := fun _ H' => Q .non H', rt := Q } (start N vs) H) : FnOk P w K mg base (CXE P w) (k + 1) f fd ps sp := by
  obtain ⟨oc, od, dV, kV, doc, pm, an, cdv, ct, osl, rfl, lk, hcd⟩ := F.ex
  exact fn_of lk hcd S len fun A outer s H vs Q E hr hsp => hbody cdv A outer s H vs Q E hr hsp
theorem FunD.ok {x qual : Str} {st : Stmt} {f : Addr} {fd : FuncData} {N ps : List Str} {k : Nat} {sp : Sp} (F : FunD K x qual st f fd) (S : FnScope N ps (defScope st)) (len : ∀ vs H Q E, sp vs H Q E → vs.length = ps.length)
    (hbody : ∀ (cdv : Value) (A : Around) (outer : List Env) (s : Shared) (H : Hp) (vs : List V) (Q : VK) (E : XK), Room k (A.deeper (envOfC qual (defScope st) s.heap.objs.size f cdv)) → sp vs H Q E →
      ∃ t, PSs (cxOf (CXE P w) P w K mg base N qual (defScope st) f cdv A outer s H E).nox (defBody st) t ∧ t { nx := fun _ H' => Q .non H', rt := Q } (start N vs) H) : FnOk P w K mg base (CXE P w) (k + 1) f fd ps sp := by
  obtain ⟨oc, od, dV, kV, doc, pm, an, cdv, ct, osl, rfl, lk, hcd⟩ := F.ex
  refine fn_of lk hcd S len fun A outer s H vs Q E hr hsp => ?_
  obtain ⟨t, h, q⟩ := hbody cdv A outer s H vs Q E hr hsp
  exact ⟨t, h.nox, q⟩
end
noncomputable abbrev TJ := St → Hp → Nat → (Nat → Hp → Prop) → Prop
noncomputable def PJ (X : Cx) (es : List Expr) (t : TJ) : Prop :=
  ∀ (pins : List (Addr × Obj)) (s : Shared) (σ : St) (H : Hp) (acc : Str) (Q : VK) , Inv X pins σ H s → acc.length ≤ sizeLine → (t σ H acc.length fun n H' => n ≤ sizeLine ∧ ∀ z : Str, z.length ≤ n → Q (.str z) H') →
    wpAny (model X.prog X.w) X.A (joinParts acc (evalEach es X.env)) (EP X pins σ Q) X.xe s
noncomputable def jNil : TJ := fun _ H n Q => Q n H
noncomputable def jStr (m : Nat) (t : TJ) : TJ := fun σ H n Q => n + m ≤ sizeLine ∧ t σ H (n + m) Q
noncomputable def jInt (te : TE) (t : TJ) : TJ := fun σ H n Q => te σ H fun v H1 => ∃ i, v = .int i ∧ i.natAbs.log2 < 1920 ∧ n + 1921 ≤ sizeLine ∧ ∀ m, m ≤ n + 1921 → t σ H1 m Q
noncomputable def tFstr (t : TJ) : TE := fun σ H Q => t σ H 0 fun n H' => n ≤ sizeLine ∧ ∀ z : Str, z.length ≤ n → Q (.str z) H'
section
variable {X : Cx} {es : List Expr} {t : TJ} {pos : Pos}
theorem pj_nil : PJ X [] jNil := fun pins s σ H acc Q I hz h => joinParts_nil ⟨.str acc, H, I.tok _, ⟨_, rfl⟩, h.2 acc (Nat.le_refl _)⟩ hz
theorem pj_str {x : Str} {j : Nat} {p : Pos} (h : PJ X es t) (he : evalEach (.Constant (.str x) j p :: es) X.env = eval (.Constant (.str x) j p) X.env :: evalEach es X.env := by rfl) : PJ X (.Constant (.str x) j p :: es) (jStr x.length t) := by
  intro pins s σ H acc Q I hz hq
  rw [he]
  obtain ⟨h1, h2⟩ := hq
  refine joinParts_cons (Calls.Constant_str ?_)
  have e : (acc ++ x).length = acc.length + x.length := strLen_append acc x
  exact ⟨by rw [e]; exact h1, h pins _ σ H (acc ++ x) Q (I.tok _) (by rw [e]; exact h1) (by rw [e]; exact h2)⟩
theorem pj_int {v : Expr} {p : Pos} {te : TE} (hv : PE X v te) (h : PJ X es t) (he : evalEach (.FormattedValue v (-1) none p :: es) X.env = eval (.FormattedValue v (-1) none p) X.env :: evalEach es X.env := by rfl) : PJ X (.FormattedValue v (-1) none p :: es) (jInt te t) := by
  intro pins s σ H acc Q I hz hq
  rw [he]
  refine joinParts_cons (FormattedValue_plain (thn (hv pins s σ H _ I hq) fun u s1 h_ => ?_))
  obtain ⟨y, H1, I1, r, i, ey, hi, hl, q⟩ := h_
  subst ey
  obtain ⟨tk, rfl⟩ := r
  refine wpAny_formatField_int hi ?_
  have e : (acc ++ Str.ofString (toString i)).length = acc.length + (Str.ofString (toString i)).length := strLen_append acc _
  have hb := int_text_len_1921 hi
  have hz2 : (acc ++ Str.ofString (toString i)).length ≤ sizeLine := by rw [e]; omega
  refine ⟨hz2, h pins _ σ H1 _ Q (I1.tok _) hz2 ?_⟩
  rw [e]
  exact q _ (by omega)
theorem pe_fstr {v1 v2 : Expr} {rest : List Expr} (h : PJ X (v1 :: v2 :: rest) t) : PE X (.JoinedStr (v1 :: v2 :: rest) pos) (tFstr t) := fun pins s σ H Q I hq =>
  JoinedStr_many (h pins s σ H Str.empty Q I (by decide) hq)
end
end L2
namespace L2
open PySem PySem.Spec PyProof.Rows
section
variable {X : Cx}
theorem call_sumL (hc : X.calm = true) : CallR X (.builtin "sum") (fun xs H Q => ∃ (a : Addr) (ns : List Int), xs = [.ref a] ∧ SqL X.K H a (ns.map V.int) ∧ Q (.int ns.sum) H) := by
  intro pins s σ H xs us Q I r h
  obtain ⟨a, ns, rfl, hq, q⟩ := h
  cases r with
  | cons r1 r2 =>
    cases r1
    cases r2
    obtain ⟨its, rv, p, hz⟩ := I.list hq
    have hi := intsAre_of rv
    obtain ⟨xs, ex⟩ := hi.allInts.items
    have hl := p.isList
    rw [ex] at hl
    refine sum_intListG (I.ok.hd hc) hl fun h' tk t' hk => ?_
    have e : preSum (numAt xs) xs.size = ns.sum := by
      have e1 := hi.numsOf
      have e2 : its = (intItems xs).toList := by rw [← ex]
      rw [e2, nums_intItems] at e1
      rw [preSum_eq, List.take_of_length_le (by simp), e1]
    rw [e]
    exact ⟨.int ns.sum, H, I.kept hk, ⟨_, rfl⟩, q⟩
noncomputable def CDivB (i j : Int) : Prop := 0 < j ∧ j.natAbs.log2 < 9000
theorem op_fdivB : OpR X (binaryOp .FloorDiv) (rI CDivB fun i j => .int (i / j)) := opI fun i j _ _ _ _ _ hc q => by
  have h1 : (0 : Int) < j := hc.1
  refine floordiv_int (by omega) ?_ (.inl (PyProof.noPylong_of_log2 hc.2))
  rw [Int.fdiv_eq_ediv_of_nonneg _ (by omega)]
  exact q
end
section
variable {K : PySem.W.Frag}
end
end L2
namespace L2
open PySem PySem.Spec PyProof.Rows
theorem cloop_list {K : PySem.W.Frag} {a : Addr} {xs : List V} {g : TG} {tt : TT} {tb : TB} {σ : St} {H : Hp} {Q : St → Hp → Prop} (Pv : Nat → St → Hp → Prop) (h0 : Pv 0 σ H) (hl : ∀ i σ H, i ≤ xs.length → Pv i σ H → SqL K H a xs)
    (turn : ∀ i x σ H, xs[i]? = some x → Pv i σ H → g x σ H fun σ2 H2 => tt σ2 H2 fun b H3 => if b = true then tb σ2 H3 (Pv (i + 1)) else Pv (i + 1) σ2 H3) (fin : ∀ σ H, Pv xs.length σ H → Q σ H) : cLoop (Itl K a) g tt tb σ H Q := by
  refine ⟨fun i m σ H => i ≤ xs.length ∧ m + i = xs.length ∧ Pv i σ H, ⟨xs.length, Nat.zero_le _, by omega, h0⟩, fun i m σ H ⟨hi, hm, hp⟩ => ?_⟩
  by_cases hlt : i < xs.length
  · refine .inr ⟨⟨xs, xs[i], hl i σ H hi hp, List.getElem?_eq_getElem hlt⟩, Pv (i + 1), fun σ' H' q => ⟨m - 1, by omega, by omega, by omega, q⟩, fun x H' ⟨e, hx⟩ => ?_⟩
    subst e
    exact turn i x σ H' (hx xs (hl i σ H' hi hp)) hp
  · obtain rfl : i = xs.length := by omega
    exact .inl ⟨⟨xs, hl _ σ H hi hp, Nat.le_refl _⟩, fin σ H hp⟩
theorem CmpScope.plain {X : Cx} {scope : Scope} {vars : List Str} (k : scope.kind = .function) (nd : (scope.names.map (·.1)).Nodup) (f : ∀ y ∈ scope.names, y.2 ≠ .free) : CmpScope X scope vars vars [] :=
  ⟨k, nd, fun y hy e => absurd e (f y hy), by simp, fun j hj => absurd hj (by simp)⟩
noncomputable def CMulB (i j : Int) : Prop := i.natAbs < 2 ^ 1000 ∧ j.natAbs < 2 ^ 1000
theorem bits_1000 {k : Int} (h : k.natAbs < 2 ^ 1000) : Builtin.Int.intBits k ≤ 2 ^ 20 := by
  unfold Builtin.Int.intBits
  split
  · exact Nat.zero_le _
  · rename_i hk
    have h0 : k.natAbs ≠ 0 := by
      intro z
      have : k = 0 := Int.natAbs_eq_zero.mp z
      subst this
      simp at hk
    have := (Nat.log2_lt h0).mpr h
    have e : (2 : Nat) ^ 20 = 1048576 := by decide
    omega
theorem op_mulB {X : Cx} : OpR X (binaryOp .Mult) (rI CMulB fun i j => .int (i * j)) := opI fun _ _ _ _ _ _ _ hc q => mul_int q (IntMulOk.of_bits (bits_1000 hc.1) (bits_1000 hc.2))
theorem Same.upd {H : Hp} {a : Addr} {o : HO} (h : H a = none) : Same H (upd H a o) := fun b u e => by rw [upd_ne (ne_of_none e h)]; exact e
end L2
namespace L2.Pu
open PySem PySem.Spec PyProof.Rows
theorem ex6 {α γ ε : Sort _} {P Q R : α → γ → ε → Prop} {C : Prop} (h : ∃ a b c, P a b c ∧ Q a b c ∧ R a b c) (k : ∀ a b c, P a b c → Q a b c → R a b c → C) : C := by
  obtain ⟨a, b, c, x, y, z⟩ := h
  exact k a b c x y z
theorem ex5 {α γ : Sort _} {P Q R : α → γ → Prop} {C : Prop} (h : ∃ a b, P a b ∧ Q a b ∧ R a b) (k : ∀ a b, P a b → Q a b → R a b → C) : C := by
  obtain ⟨a, b, x, y, z⟩ := h
  exact k a b x y z
inductive D where
  | non | bl (b : Bool) | int (i : Int) | str (x : Str) | ty (n : String) | txt
  | lst (xs : List D) | tup (xs : List D) | scr (xs : List Int) | obj (C : Addr) (ns : List Str) (xs : List D) | bag | adr (a : Addr)
structure Bg where
  cells : List Int
  i : Int
  j : Int
structure Fx where
  A : Addr → Prop
  bg : Option (Addr × Addr)
noncomputable def KL (K : PySem.W.Frag) (a : Addr) (xs : List V) : Prop :=
  ∃ (o : Obj) (its : Array Value) (n : Nat), K.lookup a = some o ∧ o.cls = .type "list" ∧ o.dict = none ∧ o.data = .seq its n ∧ its.size ≤ sizeLine ∧ Vals xs its.toList
noncomputable def KT (K : PySem.W.Frag) (a : Addr) (xs : List V) : Prop :=
  ∃ (o : Obj) (its : Array Value) (n : Nat), K.lookup a = some o ∧ o.cls = .type "tuple" ∧ o.data = .seq its n ∧ its.size ≤ sizeLine ∧ Vals xs its.toList
mutual
noncomputable def Den (K : PySem.W.Frag) (F : Fx) (H : Hp) : D → V → Prop
  | .non, v => v = .non
  | .bl b, v => v = .bl b
  | .int i, v => v = .int i
  | .str x, v => v = .str x
  | .ty n, v => v = .ty n
  | .txt, v => ∃ z, v = .str z
  | .lst ds, v => ∃ a xs, v = .ref a ∧ (¬ F.A a ∧ Rd H a (.lst xs)) ∧ DenL K F H ds xs
  | .scr ns, v => ∃ a, v = .ref a ∧ ((¬ F.A a ∧ Rd H a (.lst (ns.map V.int))) ∨ KL K a (ns.map V.int))
  | .tup ds, v => ∃ a xs, v = .ref a ∧ ((¬ F.A a ∧ Rd H a (.tup xs)) ∨ KT K a xs) ∧ DenL K F H ds xs
  | .obj C ns ds, v => ∃ a dx xs, v = .ref a ∧ ¬ F.A a ∧ H a = some (.ins C dx (ns.zip xs)) ∧ ns.length = xs.length ∧ DenL K F H ds xs
  | .bag, v => ∃ b l, F.bg = some (b, l) ∧ v = .ref b
  | .adr a, v => v = .ref a
noncomputable def DenL (K : PySem.W.Frag) (F : Fx) (H : Hp) : List D → List V → Prop
  | [], xs => xs = []
  | d :: ds, xs => ∃ x r, xs = x :: r ∧ Den K F H d x ∧ DenL K F H ds r
end
structure Tr (F : Fx) (H : Hp) (F2 : Fx) (H2 : Hp) : Prop where
  av : ∀ a, ¬ F.A a → H a ≠ none → ¬ F2.A a
  kp : ∀ a o, ¬ F.A a → H a = some o → H2 a = some o
  bg : F2.bg = F.bg
theorem Tr.trans {F F1 F2 : Fx} {H H1 H2 : Hp} (a : Tr F H F1 H1) (b : Tr F1 H1 F2 H2) : Tr F H F2 H2 :=
  ⟨fun x h1 h2 => b.av x (a.av x h1 h2) (by
      cases q : H x with
      | none => exact absurd q h2
      | some o => rw [a.kp x o h1 q]; simp),
   fun x o h1 h2 => b.kp x o (a.av x h1 (by rw [h2]; simp)) (a.kp x o h1 h2), b.bg.trans a.bg⟩
theorem Rd.tr {F F2 : Fx} {H H2 : Hp} {a : Addr} {u : HO} (t : Tr F H F2 H2) (h : ¬ F.A a) (r : Rd H a u) : ¬ F2.A a ∧ Rd H2 a u := by
  rcases r with r | ⟨o, r⟩
  · exact ⟨t.av a h (by rw [r]; simp), .inl (t.kp a _ h r)⟩
  · exact ⟨t.av a h (by rw [r]; simp), .inr ⟨o, t.kp a _ h r⟩⟩
mutual
theorem Den.tr {K : PySem.W.Frag} {F F2 : Fx} {H H2 : Hp} (t : Tr F H F2 H2) : ∀ (d : D) (v : V), Den K F H d v → Den K F2 H2 d v
  | .non, v, h => h
  | .bl b, v, h => h
  | .int i, v, h => h
  | .str x, v, h => h
  | .ty n, v, h => h
  | .txt, v, h => h
  | .lst ds, v, h => by
    unfold Den at h ⊢
    obtain ⟨a, xs, e, h1, h2⟩ := h
    exact ⟨a, xs, e, Rd.tr t h1.1 h1.2, DenL.tr t ds xs h2⟩
  | .scr ns, v, h => by
    unfold Den at h ⊢
    obtain ⟨a, e, h1⟩ := h
    exact ⟨a, e, h1.imp (fun ⟨p, q⟩ => Rd.tr t p q) id⟩
  | .tup ds, v, h => by
    unfold Den at h ⊢
    obtain ⟨a, xs, e, h1, h2⟩ := h
    exact ⟨a, xs, e, h1.imp (fun ⟨p, q⟩ => Rd.tr t p q) id, DenL.tr t ds xs h2⟩
  | .obj C ns ds, v, h => by
    unfold Den at h ⊢
    obtain ⟨a, dx, xs, e, h1, h2, h3, h4⟩ := h
    exact ⟨a, dx, xs, e, t.av a h1 (by rw [h2]; simp), t.kp a _ h1 h2, h3, DenL.tr t ds xs h4⟩
  | .bag, v, h => by
    unfold Den at h ⊢
    rw [t.bg]; exact h
  | .adr a, v, h => by
    unfold Den at h ⊢
    exact h
theorem DenL.tr {K : PySem.W.Frag} {F F2 : Fx} {H H2 : Hp} (t : Tr F H F2 H2) : ∀ (ds : List D) (xs : List V), DenL K F H ds xs → DenL K F2 H2 ds xs
  | [], xs, h => h
  | d :: ds, xs, h => by
    unfold DenL at h ⊢
    obtain ⟨x, r, e, h1, h2⟩ := h
    exact ⟨x, r, e, Den.tr t d x h1, DenL.tr t ds r h2⟩
end
section
variable {K : PySem.W.Frag} {F : Fx} {H : Hp}
theorem DenL.nil : DenL K F H [] [] := rfl
theorem DenL.cons {d : D} {ds : List D} {x : V} {xs : List V} (h : Den K F H d x) (t : DenL K F H ds xs) : DenL K F H (d :: ds) (x :: xs) := ⟨x, xs, rfl, h, t⟩
theorem DenL.length : ∀ {ds : List D} {xs : List V}, DenL K F H ds xs → ds.length = xs.length
  | [], xs, h => by have e : xs = [] := h; subst e; rfl
  | d :: ds, xs, h => by
    obtain ⟨x, r, e, _, h2⟩ := h
    subst e
    rw [List.length_cons, List.length_cons, DenL.length h2]
theorem DenL.get : ∀ {ds : List D} {xs : List V} {i : Nat} {d : D}, DenL K F H ds xs → ds[i]? = some d → ∃ x, xs[i]? = some x ∧ Den K F H d x
  | [], _, _, _, _, e => by simp at e
  | c :: ds, xs, 0, d, h, e => by
    obtain ⟨x, r, q, h1, h2⟩ := h
    subst q
    simp at e
    subst e
    exact ⟨x, rfl, h1⟩
  | c :: ds, xs, i + 1, d, h, e => by
    obtain ⟨x, r, q, h1, h2⟩ := h
    subst q
    obtain ⟨y, h3, h4⟩ := DenL.get (i := i) (d := d) h2 (by simpa using e)
    exact ⟨y, by simpa using h3, h4⟩
theorem DenL.getV : ∀ {ds : List D} {xs : List V} {i : Nat} {x : V}, DenL K F H ds xs → xs[i]? = some x → ∃ d, ds[i]? = some d ∧ Den K F H d x
  | [], xs, _, _, h, e => by have q : xs = [] := h; subst q; simp at e
  | c :: ds, xs, 0, d, h, e => by
    obtain ⟨x, r, q, h1, h2⟩ := h
    subst q
    simp at e
    subst e
    exact ⟨c, rfl, h1⟩
  | c :: ds, xs, i + 1, d, h, e => by
    obtain ⟨x, r, q, h1, h2⟩ := h
    subst q
    obtain ⟨y, h3, h4⟩ := DenL.getV (i := i) (x := d) h2 (by simpa using e)
    exact ⟨y, by simpa using h3, h4⟩
theorem DenL.append : ∀ {ds es : List D} {xs ys : List V}, DenL K F H ds xs → DenL K F H es ys → DenL K F H (ds ++ es) (xs ++ ys)
  | [], _, xs, _, h, h' => by have q : xs = [] := h; subst q; exact h'
  | c :: ds, es, xs, ys, h, h' => by
    obtain ⟨x, r, q, h1, h2⟩ := h
    subst q
    exact ⟨x, r ++ ys, rfl, h1, DenL.append h2 h'⟩
theorem DenL.set : ∀ {ds : List D} {xs : List V} (i : Nat) {d : D} {x : V}, DenL K F H ds xs → Den K F H d x → DenL K F H (ds.set i d) (xs.set i x)
  | [], xs, i, _, _, h, _ => by have q : xs = [] := h; subst q; simp; rfl
  | c :: ds, xs, 0, d, x, h, hd => by
    obtain ⟨y, r, q, h1, h2⟩ := h
    subst q
    exact ⟨x, r, rfl, hd, h2⟩
  | c :: ds, xs, i + 1, d, x, h, hd => by
    obtain ⟨y, r, q, h1, h2⟩ := h
    subst q
    exact ⟨y, r.set i x, rfl, h1, DenL.set i h2 hd⟩
theorem Den.sqL {ds : List D} {v : V} (h : Den K F H (.lst ds) v) : ∃ a xs, v = .ref a ∧ SqL K H a xs ∧ DenL K F H ds xs := by
  unfold Den at h
  obtain ⟨a, xs, e, h1, h2⟩ := h
  exact ⟨a, xs, e, .inl h1.2, h2⟩
theorem Den.rdL {ds : List D} {v : V} (h : Den K F H (.lst ds) v) : ∃ a xs, v = .ref a ∧ Rd H a (.lst xs) ∧ DenL K F H ds xs := by
  unfold Den at h
  obtain ⟨a, xs, e, h1, h2⟩ := h
  exact ⟨a, xs, e, h1.2, h2⟩
theorem Den.sqT {ds : List D} {v : V} (h : Den K F H (.tup ds) v) : ∃ a xs, v = .ref a ∧ SqT K H a xs ∧ DenL K F H ds xs := by
  unfold Den at h
  obtain ⟨a, xs, e, h1, h2⟩ := h
  exact ⟨a, xs, e, h1.imp (fun p => p.2) id, h2⟩
theorem Den.int {i : Int} {v : V} (h : Den K F H (.int i) v) : v = .int i := h
theorem Den.bl {i : Bool} {v : V} (h : Den K F H (.bl i) v) : v = .bl i := h
theorem Den.str {i : Str} {v : V} (h : Den K F H (.str i) v) : v = .str i := h
theorem Den.non {v : V} (h : Den K F H .non v) : v = .non := h
theorem DenL.ints : ∀ (ns : List Int) {xs : List V}, DenL K F H (ns.map D.int) xs → xs = ns.map V.int
  | [], xs, h => h
  | n :: ns, xs, h => by
    obtain ⟨x, r, e, h1, h2⟩ := h
    rw [e, DenL.ints ns h2]
    have q : x = .int n := h1
    rw [q]; rfl
end
structure Fr (F : Fx) (H : Hp) (β : Bg) : Prop where
  occ : ∀ a, F.A a → H a ≠ none
  bgA : ∀ b l, F.bg = some (b, l) → F.A b ∧ F.A l ∧ b ≠ l
  bag : ∀ b l, F.bg = some (b, l) → H b = some (.lst [.ref l, .int β.i, .int β.j]) ∧ H l = some (.lst (β.cells.map V.int))
structure To (F : Fx) (H H' : Hp) (β' : Bg) : Prop where
  kp : ∀ a o, H a = some o → (∀ b l, F.bg = some (b, l) → a ≠ b ∧ a ≠ l) → H' a = some o
  fr : Fr F H' β'
theorem To.refl {F : Fx} {H : Hp} {β : Bg} (fr : Fr F H β) : To F H H β := ⟨fun _ _ h _ => h, fr⟩
theorem To.trans {F : Fx} {H H1 H2 : Hp} {β1 β2 : Bg} (a : To F H H1 β1) (b : To F H1 H2 β2) : To F H H2 β2 := ⟨fun x o h n => b.kp x o (a.kp x o h n) n, b.fr⟩
theorem Fr.same {F : Fx} {H H' : Hp} {β : Bg} (fr : Fr F H β) (s : Same H H') : To F H H' β :=
  ⟨fun a o h _ => s a o h, ⟨fun a h q => (by
    cases e : H a with
    | none => exact fr.occ a h e
    | some o => exact absurd ((s a o e).symm.trans q) (by simp)), fr.bgA, fun b l e => ⟨s _ _ (fr.bag b l e).1, s _ _ (fr.bag b l e).2⟩⟩⟩
theorem Fr.upd {F : Fx} {H : Hp} {β : Bg} (fr : Fr F H β) {p : Addr} (o : HO) (h : H p = none) : To F H (upd H p o) β := fr.same (Same.upd h)
theorem Fr.fresh {F : Fx} {H : Hp} {β : Bg} (fr : Fr F H β) {p : Addr} (h : H p = none) : ¬ F.A p := fun q => fr.occ p q h
theorem To.tr {F : Fx} {H H' : Hp} {β β' : Bg} (fr : Fr F H β) (t : To F H H' β') : Tr F H F H' :=
  ⟨fun _ h _ => h, fun a o h e => t.kp a o e fun b l q => ⟨fun z => h (z ▸ (fr.bgA b l q).1), fun z => h (z ▸ (fr.bgA b l q).2.1)⟩, rfl⟩
noncomputable abbrev Dn := List (Option D)
structure VOk (K : PySem.W.Frag) (F : Fx) (H : Hp) (δ : Dn) (σ : St) : Prop where
  len : δ.length = σ.length
  tell : ∀ (i : Nat) (d : D), δ[i]? = some (some d) → ∃ v, σ[i]? = some (some v) ∧ Den K F H d v
theorem VOk.tr {K : PySem.W.Frag} {F F2 : Fx} {H H2 : Hp} {δ : Dn} {σ : St} (t : Tr F H F2 H2) (h : VOk K F H δ σ) : VOk K F2 H2 δ σ := ⟨h.len, fun i d e => let ⟨v, h1, h2⟩ := h.tell i d e; ⟨v, h1, Den.tr t d v h2⟩⟩
theorem VOk.set {K : PySem.W.Frag} {F : Fx} {H : Hp} {δ : Dn} {σ : St} {i : Nat} {d : D} {v : V} (h : VOk K F H δ σ) (hd : Den K F H d v) : VOk K F H (δ.set i (some d)) (σ.set i (some v)) := by
  refine ⟨by rw [List.length_set, List.length_set, h.len], fun j c e => ?_⟩
  rw [List.getElem?_set] at e
  rw [List.getElem?_set]
  by_cases q : i = j
  · subst q
    rw [if_pos rfl] at e ⊢
    split at e
    · rename_i hl
      cases e
      rw [if_pos (by rw [← h.len]; exact hl)]
      exact ⟨v, rfl, hd⟩
    · cases e
  · rw [if_neg q] at e ⊢
    exact h.tell j c e
noncomputable def Sub (δ δ1 : Dn) : Prop := ∀ (i : Nat) (d : D), δ[i]? = some (some d) → δ1[i]? = some (some d)
theorem VOk.sub {K : PySem.W.Frag} {F : Fx} {H : Hp} {δ δ1 : Dn} {σ : St} (h : VOk K F H δ1 σ) (s : Sub δ δ1) (l : δ.length = δ1.length) : VOk K F H δ σ := ⟨l.trans h.len, fun i d e => h.tell i d (s i d e)⟩
noncomputable abbrev M (α : Type) := Bg → Option (Except Addr α × Bg)
noncomputable def M.ret {α : Type} (a : α) : M α := fun β => some (.ok a, β)
noncomputable def M.bind {α γ : Type} (m : M α) (k : α → M γ) : M γ := fun β => match m β with
  | none => none
  | some (.error C, β1) => some (.error C, β1)
  | some (.ok a, β1) => k a β1
noncomputable def M.ofO {α : Type} (o : Option α) : M α := fun β => match o with
  | some a => some (.ok a, β)
  | none => none
noncomputable def M.fail {α : Type} : M α := fun _ => none
theorem M.bind_some {α γ : Type} (a : α) (k : α → M γ) : M.bind (M.ofO (some a)) k = k a := rfl
theorem M.bind_ok {α γ : Type} {m : M α} {k : α → M γ} {β β1 : Bg} {a : α} (h : m β = some (.ok a, β1)) : M.bind m k β = k a β1 := by unfold M.bind; rw [h]
theorem M.bind_err {α γ : Type} {m : M α} {k : α → M γ} {β β1 : Bg} {C : Addr} (h : m β = some (.error C, β1)) : M.bind m k β = some (.error C, β1) := by unfold M.bind; rw [h]
noncomputable def run {α γ : Type} (R : Hp → α → γ → Prop) (F : Fx) (E : St → XK) (σ : St) (m : M α) (H : Hp) (Q : γ → Hp → Prop) (β : Bg) : Prop :=
  ∃ r β', m β = some (r, β') ∧ match r with
    | .ok d => ∀ v H', To F H H' β' → R H' d v → Q v H'
    | .error C => ∀ H', To F H H' β' → E σ (.ref C) none H'
theorem run.mono {α γ : Type} {R : Hp → α → γ → Prop} {F : Fx} {E : St → XK} {σ : St} {m : M α} {H : Hp} {Q Q' : γ → Hp → Prop} {β : Bg} (h : run R F E σ m H Q β) (f : ∀ v H', Q v H' → Q' v H') : run R F E σ m H Q' β := by
  obtain ⟨r, β', e, h⟩ := h
  refine ⟨r, β', e, ?_⟩
  cases r with
  | ok d => exact fun v H' t q => f v H' (h v H' t q)
  | error C => exact h
theorem run.bind {α γ ε ζ : Type} {R : Hp → α → γ → Prop} {R2 : Hp → ε → ζ → Prop} {F : Fx} {E : St → XK} {σ : St} {m : M α} {k : α → M ε} {H : Hp} {Q : ζ → Hp → Prop} {β : Bg} (h : run R2 F E σ (M.bind m k) H Q β) :
    run R F E σ m H (fun v H1 => ∃ d β1, To F H H1 β1 ∧ R H1 d v ∧ run R2 F E σ (k d) H1 Q β1) β := by
  obtain ⟨r, β', e, h⟩ := h
  cases q : m β with
  | none => unfold M.bind at e; rw [q] at e; cases e
  | some z =>
    obtain ⟨r1, β1⟩ := z
    refine ⟨r1, β1, q, ?_⟩
    cases r1 with
    | error C =>
      rw [M.bind_err q] at e
      cases e
      exact h
    | ok d =>
      rw [M.bind_ok q] at e
      intro v H1 t hd
      refine ⟨d, β1, t, hd, r, β', e, ?_⟩
      cases r with
      | ok d2 => exact fun v2 H2 t2 h2 => h v2 H2 (t.trans t2) h2
      | error C => exact fun H2 t2 => h H2 (t.trans t2)
theorem run.ret {α γ : Type} {R : Hp → α → γ → Prop} {F : Fx} {E : St → XK} {σ : St} {a : α} {v : γ} {H : Hp} {Q : γ → Hp → Prop} {β : Bg} (fr : Fr F H β) (h : run R F E σ (M.ret a) H Q β) (r : R H a v) : Q v H := by
  obtain ⟨_, _, e, h⟩ := h
  cases e
  exact h v H (To.refl fr) r
theorem run.ofO {α γ : Type} {R : Hp → α → γ → Prop} {F : Fx} {E : St → XK} {σ : St} {o : Option α} {H : Hp} {Q : γ → Hp → Prop} {β : Bg} (h : run R F E σ (M.ofO o) H Q β) : ∃ a, o = some a ∧ ∀ v H', To F H H' β → R H' a v → Q v H' := by
  obtain ⟨_, _, e, h⟩ := h
  cases o with
  | none => cases e
  | some a => cases e; exact ⟨a, rfl, h⟩
noncomputable def tV (K : PySem.W.Frag) (f : Dn → M D) (E : St → XK) : TE := fun σ H Q => ∃ F δ β, Fr F H β ∧ VOk K F H δ σ ∧ run (Den K F) F E σ (f δ) H Q β
noncomputable def tVA (K : PySem.W.Frag) (f : Dn → M (List D)) (E : St → XK) : TA := fun σ H Q => ∃ F δ β, Fr F H β ∧ VOk K F H δ σ ∧ run (DenL K F) F E σ (f δ) H Q β
noncomputable def tVT (K : PySem.W.Frag) (f : Dn → M Bool) (E : St → XK) : TT := fun σ H Q => ∃ F δ β, Fr F H β ∧ VOk K F H δ σ ∧ run (fun _ (a b : Bool) => b = a) F E σ (f δ) H Q β
theorem _root_.L2.PE.imp {X : Cx} {e : Expr} {t t' : TE} (h : PE X e t) (f : ∀ σ H Q, t' σ H Q → t σ H Q) : PE X e t' := fun pins s σ H Q I q => h pins s σ H Q I (f σ H Q q)
theorem _root_.L2.PT.imp {X : Cx} {e : Expr} {t t' : TT} (h : PT X e t) (f : ∀ σ H Q, t' σ H Q → t σ H Q) : PT X e t' := fun pins s σ H Q I q => h pins s σ H Q I (f σ H Q q)
theorem _root_.L2.PW.imp {X : Cx} {e : Expr} {t t' : TT} (h : PW X e t) (f : ∀ σ H Q, t' σ H Q → t σ H Q) : PW X e t' := fun wh pins s σ H Q I q => h wh pins s σ H Q I (f σ H Q q)
theorem _root_.L2.PA.imp {X : Cx} {e : List Expr} {t t' : TA} (h : PA X e t) (f : ∀ σ H Q, t' σ H Q → t σ H Q) : PA X e t' := fun pos pins s σ H Q I q => h pos pins s σ H Q I (f σ H Q q)
noncomputable def fVar (i : Nat) : Dn → M D := fun δ => M.ofO (δ.getD i none)
noncomputable def fC (d : D) : Dn → M D := fun _ => M.ret d
noncomputable def f1 (op : D → Option D) (f : Dn → M D) : Dn → M D := fun δ => M.bind (f δ) fun a => M.ofO (op a)
noncomputable def f2 (op : D → D → Option D) (f g : Dn → M D) : Dn → M D := fun δ => M.bind (f δ) fun a => M.bind (g δ) fun b => M.ofO (op a b)
noncomputable def aNil : Dn → M (List D) := fun _ => M.ret []
noncomputable def aCons (f : Dn → M D) (g : Dn → M (List D)) : Dn → M (List D) := fun δ => M.bind (f δ) fun a => M.bind (g δ) fun as => M.ret (a :: as)
noncomputable def fArgs (op : List D → Option D) (g : Dn → M (List D)) : Dn → M D := fun δ => M.bind (g δ) fun as => M.ofO (op as)
noncomputable def fCall (m : List D → M D) (g : Dn → M (List D)) : Dn → M D := fun δ => M.bind (g δ) fun as => m as
section
variable {X : Cx} {E : St → XK} {e a b : Expr} {es : List Expr} {pos : Pos}
theorem v_var (i : Nat) {x : Str} (h : PE X (.Name x pos) (tVar i)) : PE X (.Name x pos) (tV X.K (fVar i) E) := h.imp fun σ H Q h_ => by
  obtain ⟨F, δ, β, fr, vk, r⟩ := h_
  obtain ⟨d, e, r⟩ := run.ofO r
  have e2 : δ[i]? = some (some d) := by
    rw [List.getD_eq_getElem?_getD] at e
    cases q : δ[i]? with
    | none => rw [q] at e; cases e
    | some z => rw [q] at e; simp at e; rw [e]
  obtain ⟨v, h1, h2⟩ := vk.tell i d e2
  exact ⟨v, h1, r v H (To.refl fr) h2⟩
theorem v_c {d : D} {v : V} (h : PE X e (tC v)) (hd : ∀ F H, Den X.K F H d v) : PE X e (tV X.K (fC d) E) := h.imp fun σ H Q h_ => by obtain ⟨F, δ, β, fr, vk, r⟩ := h_; exact run.ret fr r (hd F H)
theorem v_int {i j pos} : PE X (.Constant (.int i) j pos) (tV X.K (fC (.int i)) E) := v_c pe_int fun _ _ => rfl
theorem v_bl {i j pos} : PE X (.Constant (.bool i) j pos) (tV X.K (fC (.bl i)) E) := v_c pe_bl fun _ _ => rfl
theorem v_str {i j pos} : PE X (.Constant (.str i) j pos) (tV X.K (fC (.str i)) E) := v_c pe_str fun _ _ => rfl
theorem va_nil : PA X [] (tVA X.K aNil E) := pa_nil.imp fun σ H Q h_ => by obtain ⟨F, δ, β, fr, vk, r⟩ := h_; exact run.ret fr r DenL.nil
theorem va_cons {f : Dn → M D} {g : Dn → M (List D)} (ha : PE X e (tV X.K f E)) (hr : PA X es (tVA X.K g E)) (hs : starEach (e :: es) X.env = (false, eval e X.env) :: starEach es X.env := by rfl) : PA X (e :: es) (tVA X.K (aCons f g) E) :=
  (pa_cons ha hr hs).imp fun σ H Q h_ => ex6 h_ fun F δ β fr vk r => ⟨F, δ, β, fr, vk, (run.bind (R := Den X.K F) r).mono fun v H1 ⟨d, β1, t, hd, r1⟩ =>
    ⟨F, δ, β1, t.fr, vk.tr (t.tr fr), (run.bind (R := DenL X.K F) r1).mono fun vs H2 h_ => ex5 h_ fun ds β2 t2 hds r2 => run.ret t2.fr r2 (DenL.cons (Den.tr (t2.tr t.fr) _ _ hd) hds)⟩⟩
noncomputable def Lift2 (K : PySem.W.Frag) (r : R2) (op : D → D → Option D) : Prop := ∀ (F : Fx) (H : Hp) (β : Bg) (Q : VK) (d1 d2 d : D) (v1 v2 : V), Fr F H β → Den K F H d1 v1 → Den K F H d2 v2 → op d1 d2 = some d →
  (∀ v H', To F H H' β → Den K F H' d v → Q v H') → r v1 v2 H Q
noncomputable def Lift1 (K : PySem.W.Frag) (r : V → Hp → VK → Prop) (op : D → Option D) : Prop := ∀ (F : Fx) (H : Hp) (β : Bg) (Q : VK) (d1 d : D) (v1 : V), Fr F H β → Den K F H d1 v1 → op d1 = some d →
  (∀ v H', To F H H' β → Den K F H' d v → Q v H') → r v1 H Q
noncomputable def LiftA (K : PySem.W.Frag) (r : List V → Hp → VK → Prop) (op : List D → Option D) : Prop := ∀ (F : Fx) (H : Hp) (β : Bg) (Q : VK) (ds : List D) (d : D) (vs : List V), Fr F H β → DenL K F H ds vs → op ds = some d →
  (∀ v H', To F H H' β → Den K F H' d v → Q v H') → r vs H Q
theorem tOp_of {r : R2} {op : D → D → Option D} {f g : Dn → M D} {K : PySem.W.Frag} (l : Lift2 K r op) {σ : St} {H : Hp} {Q : VK} (h : tV K (f2 op f g) E σ H Q) : tOp r (tV K f E) (tV K g E) σ H Q := by
  obtain ⟨F, δ, β, fr, vk, h⟩ := h
  refine ⟨F, δ, β, fr, vk, (run.bind (R := Den K F) h).mono fun v H1 h_ => ex5 h_ fun d β1 t hd r1 => ⟨F, δ, β1, t.fr, vk.tr (t.tr fr), (run.bind (R := Den K F) r1).mono fun v2 H2 h_ => ex5 h_ fun d2 β2 t2 hd2 r2 => ?_⟩⟩
  obtain ⟨d3, e3, k⟩ := run.ofO r2
  exact l F H2 β2 Q d d2 d3 v v2 t2.fr (Den.tr (t2.tr t.fr) _ _ hd) hd2 e3 k
theorem v_bin {op : Operator} {r : R2} {o : D → D → Option D} {f g : Dn → M D} (ho : OpR X (binaryOp op) r) (l : Lift2 X.K r o) (ha : PE X a (tV X.K f E)) (hb : PE X b (tV X.K g E)) : PE X (.BinOp a op b pos) (tV X.K (f2 o f g) E) :=
  (pe_op ho ha hb).imp fun _ _ _ => tOp_of l
theorem v_cmp {op : CmpOp} {r : R2} {o : D → D → Option D} {f g : Dn → M D} (ho : OpR X (compareOp op) r) (l : Lift2 X.K r o) (ha : PE X a (tV X.K f E)) (hb : PE X b (tV X.K g E)) (hm : behindInMarks op b = false := by first | exact nomark _ | rfl) : PE X (.Compare a [op] [b] pos) (tV X.K (f2 o f g) E) :=
  (pe_cmpR ho ha hb hm).imp fun _ _ _ => tOp_of l
theorem v_un {op : UnaryOp} {r : V → Hp → VK → Prop} {o : D → Option D} {f : Dn → M D} (ho : UnR X (unaryOp op) r) (l : Lift1 X.K r o) (ha : PE X a (tV X.K f E)) : PE X (.UnaryOp op a pos) (tV X.K (f1 o f) E) :=
  (pe_un ho ha).imp fun σ H Q h_ => ex6 h_ fun F δ β fr vk h => ⟨F, δ, β, fr, vk, (run.bind (R := Den X.K F) h).mono fun v H1 h_ => ex5 h_ fun d β1 t hd r1 => let ⟨d3, e3, k⟩ := run.ofO r1; l F H1 β1 Q d d3 v t.fr hd e3 k⟩
theorem v_ix {r : R2} {o : D → D → Option D} {f g : Dn → M D} (hr : IxR X r) (l : Lift2 X.K r o) (ha : PE X a (tV X.K f E)) (hb : PE X b (tV X.K g E)) (hs : PlainIx b := by exact fun _ _ => rfl) : PE X (.Subscript a b pos) (tV X.K (f2 o f g) E) :=
  (pe_ix hr ha hb hs).imp fun _ _ _ => tOp_of l
theorem tCB_of {K : PySem.W.Frag} {r : List V → Hp → VK → Prop} {op : List D → Option D} {g : Dn → M (List D)} (l : LiftA K r op) {σ : St} {H : Hp} {Q : VK} (h : tV K (fArgs op g) E σ H Q) : tCB r (tVA K g E) σ H Q := by
  obtain ⟨F, δ, β, fr, vk, h⟩ := h
  refine ⟨F, δ, β, fr, vk, (run.bind (R := DenL K F) h).mono fun v H1 h_ => ex5 h_ fun d β1 t hd r1 => ?_⟩
  obtain ⟨d3, e3, k⟩ := run.ofO r1
  exact l F H1 β1 Q d d3 v t.fr hd e3 k
theorem v_callB {x : Str} {p : Pos} {id : String} {r : List V → Hp → VK → Prop} {op : List D → Option D} {g : Dn → M (List D)} (hc : CallR X (.builtin id) r) (l : LiftA X.K r op) (hg : Gl X x) (hm : X.mg x = none) (hv : bootBuiltins x = some (.builtin id)) (ha : PA X (e :: es) (tVA X.K g E)) (hn : x ≠ "__name__" := by decide) (hdb : (x == ("__debug__" : Str)) = false := by decide)
    (he : starEach (e :: es) X.env = (false, eval e X.env) :: starEach es X.env := by rfl) (hpl : (backTo pos (starEach es X.env)).any (·.1) = false := by rfl) : PE X (.Call (.Name x p) (e :: es) [] pos) (tV X.K (fArgs op g) E) :=
  (pe_callB hc hg hm hv ha hn hdb he hpl).imp fun _ _ _ => tCB_of l
theorem v_callTy {x : Str} {p : Pos} {T : String} {r : List V → Hp → VK → Prop} {op : List D → Option D} {g : Dn → M (List D)} (hc : CallR X (.type T) r) (l : LiftA X.K r op) (hg : Gl X x) (hm : X.mg x = none) (hv : bootBuiltins x = some (.type T)) (ha : PA X (e :: es) (tVA X.K g E)) (hn : x ≠ "__name__" := by decide) (hdb : (x == ("__debug__" : Str)) = false := by decide)
    (he : starEach (e :: es) X.env = (false, eval e X.env) :: starEach es X.env := by rfl) (hpl : (backTo pos (starEach es X.env)).any (·.1) = false := by rfl) : PE X (.Call (.Name x p) (e :: es) [] pos) (tV X.K (fArgs op g) E) :=
  (pe_callTy hc hg hm hv ha hn hdb he hpl).imp fun _ _ _ => tCB_of l
noncomputable def opTup (ds : List D) : Option D := if ds.length ≤ sizeLine then some (.tup ds) else none
noncomputable def opLst (ds : List D) : Option D := if ds.length ≤ sizeLine then some (.lst ds) else none
theorem Den.newT {K : PySem.W.Frag} {F : Fx} {H : Hp} {β : Bg} {p : Addr} {ds : List D} {xs : List V} (fr : Fr F H β) (h : H p = none) (hd : DenL K F H ds xs) : Den K F (upd H p (.tup xs)) (.tup ds) (.ref p) :=
  ⟨p, xs, rfl, .inl ⟨fr.fresh h, .inl upd_same⟩, DenL.tr ((fr.upd _ h).tr fr) _ _ hd⟩
theorem Den.newL {K : PySem.W.Frag} {F : Fx} {H : Hp} {β : Bg} {p : Addr} {ds : List D} {xs : List V} (fr : Fr F H β) (h : H p = none) (hd : DenL K F H ds xs) : Den K F (upd H p (.lst xs)) (.lst ds) (.ref p) :=
  ⟨p, xs, rfl, ⟨fr.fresh h, .inl upd_same⟩, DenL.tr ((fr.upd _ h).tr fr) _ _ hd⟩
theorem v_tup {x1} {g : Dn → M (List D)} (h : PA X es (tVA X.K g E)) : PE X (.Tuple es x1 pos) (tV X.K (fArgs opTup g) E) :=
  (pe_tup h).imp fun σ H Q h_ => ex6 h_ fun F δ β fr vk r => ⟨F, δ, β, fr, vk, (run.bind (R := DenL X.K F) r).mono fun vs H1 h_ => by
    obtain ⟨ds, β1, t, hd, r1⟩ := h_
    obtain ⟨d3, e3, k⟩ := run.ofO r1
    unfold opTup at e3
    split at e3
    · cases e3
      exact ⟨by rw [← hd.length]; assumption, fun p hp => k _ _ (t.fr.upd _ hp) (Den.newT t.fr hp hd)⟩
    · cases e3⟩
theorem v_lst {g : Dn → M (List D)} (h : PA X es (tVA X.K g E)) : PE X (.List es pos) (tV X.K (fArgs opLst g) E) :=
  (pe_lst h).imp fun σ H Q h_ => ex6 h_ fun F δ β fr vk r => ⟨F, δ, β, fr, vk, (run.bind (R := DenL X.K F) r).mono fun vs H1 h_ => by
    obtain ⟨ds, β1, t, hd, r1⟩ := h_
    obtain ⟨d3, e3, k⟩ := run.ofO r1
    unfold opLst at e3
    split at e3
    · cases e3
      exact ⟨by rw [← hd.length]; assumption, fun p hp => k _ _ (t.fr.upd _ hp) (Den.newL t.fr hp hd)⟩
    · cases e3⟩
end
noncomputable def spF (K : PySem.W.Frag) (n : Nat) (m : List D → M D) : Sp := fun vs H Q E => vs.length = n ∧ ∃ F ds β, Fr F H β ∧ DenL K F H ds vs ∧ run (Den K F) F (fun _ => E) [] (m ds) H Q β
section
variable {X : Cx} {E : St → XK} {e : Expr} {es : List Expr} {pos p : Pos} {x : Str} {k n : Nat} {f : Addr} {fd : FuncData} {ps : List Str}
theorem run.toE {α γ : Type} {R : Hp → α → γ → Prop} {F : Fx} {E : St → XK} {σ : St} {m : M α} {H : Hp} {Q : γ → Hp → Prop} {β : Bg} (h : run R F E σ m H Q β) : run R F (fun _ => E σ) [] m H Q β := h
theorem v_call {m : List D → M D} {g : Dn → M (List D)} (G : FnOk X.prog X.w X.K X.mg X.base (CXE X.prog X.w) k f fd ps (spF X.K n m)) (hr : Room k X.A) (hg : Gl X x) (hm : X.mg x = some (.ref f)) (hk : PySem.W.keepIn X.K (.ref f) = true) (hb : Binds X.K fd ps []) (hx : Passes (CXE X.prog X.w) X E)
    (ha : PA X (e :: es) (tVA X.K g E)) (hn : ∀ δ β r β', g δ β = some (.ok r, β') → r.length = n) (hdb : (x == ("__debug__" : Str)) = false := by decide) (he : starEach (e :: es) X.env = (false, eval e X.env) :: starEach es X.env := by rfl) (hpl : (backTo pos (starEach es X.env)).any (·.1) = false := by rfl) :
    PE X (.Call (.Name x p) (e :: es) [] pos) (tV X.K (fCall m g) E) :=
  (pe_call G hr hg hm hk hb .nil hx ha hdb he hpl).imp fun σ H Q h_ => ex6 h_ fun F δ β fr vk r => ⟨F, δ, β, fr, vk, by
    obtain ⟨r0, β0, e0, h0⟩ := run.bind (R := DenL X.K F) r
    refine ⟨r0, β0, e0, ?_⟩
    cases r0 with
    | error C => exact h0
    | ok ds =>
      intro vs H1 t hd
      obtain ⟨d', β1, t1, hd1, r1⟩ := h0 vs H1 t hd
      have hl := hn _ _ _ _ e0
      refine ⟨by rw [List.append_nil, ← hd.length, hl], F, d', β1, t1.fr, by rw [List.append_nil]; exact hd1, run.toE r1⟩⟩
end
theorem aNil_len {δ : Dn} {β β' : Bg} {r : List D} (h : aNil δ β = some (.ok r, β')) : r.length = 0 := by cases h; rfl
theorem aCons_len {f : Dn → M D} {g : Dn → M (List D)} {n : Nat} (hg : ∀ δ β r β', g δ β = some (.ok r, β') → r.length = n) : ∀ δ β r β', aCons f g δ β = some (.ok r, β') → r.length = n + 1 := by
  intro δ β r β' h
  unfold aCons M.bind at h
  split at h
  · cases h
  · cases h
  · dsimp only at h
    split at h
    · cases h
    · cases h
    · rename_i as _ hq
      cases h
      rw [List.length_cons, hg _ _ _ _ hq]
end L2.Pu
namespace L2.Pu
open PySem PySem.Spec PyProof.Rows
section
variable {X : Cx} {K : PySem.W.Frag}
noncomputable def opI (g : Int → Int → Option D) : D → D → Option D
  | .int i, .int j => g i j
  | _, _ => none
theorem opI_some {g : Int → Int → Option D} {a b d : D} (h : opI g a b = some d) : ∃ i j, a = .int i ∧ b = .int j ∧ g i j = some d := by
  cases a <;> cases b <;> first | (exact ⟨_, _, rfl, rfl, h⟩) | (cases h)
theorem lift_int0 {g : Int → Int → Int} : Lift2 K (rI0 fun i j => .int (g i j)) (opI fun i j => some (.int (g i j))) := fun F H β Q d1 d2 d v1 v2 fr h1 h2 e k => by
  obtain ⟨i, j, rfl, rfl, e⟩ := opI_some e
  cases e
  exact ⟨i, j, h1, h2, k _ H (To.refl fr) rfl⟩
theorem lift_bool0 {g : Int → Int → Bool} : Lift2 K (rI0 fun i j => .bl (g i j)) (opI fun i j => some (.bl (g i j))) := fun F H β Q d1 d2 d v1 v2 fr h1 h2 e k => by
  obtain ⟨i, j, rfl, rfl, e⟩ := opI_some e
  cases e
  exact ⟨i, j, h1, h2, k _ H (To.refl fr) rfl⟩
theorem lift_intC {C : Int → Int → Prop} {c : Int → Int → Bool} {g : Int → Int → Int} (hc : ∀ i j, c i j = true → C i j) : Lift2 K (rI C fun i j => .int (g i j)) (opI fun i j => if c i j = true then some (.int (g i j)) else none) := fun F H β Q d1 d2 d v1 v2 fr h1 h2 e k => by
  obtain ⟨i, j, rfl, rfl, e2⟩ := opI_some e
  split at e2
  · cases e2
    exact ⟨i, j, h1, h2, hc _ _ (by assumption), k _ H (To.refl fr) rfl⟩
  · cases e2
noncomputable def smallI (i : Int) : Bool := decide (i.natAbs < 2 ^ 1000)
noncomputable def subD : D → D → Option D := opI fun i j => some (.int (i - j))
noncomputable def fdivD : D → D → Option D := opI fun i j => if (decide (0 < j) && decide (j.natAbs.log2 < 9000)) = true then some (.int (i / j)) else none
noncomputable def modD : D → D → Option D := opI fun i j => if decide (0 < j) = true then some (.int (i % j)) else none
noncomputable def ltD : D → D → Option D := opI fun i j => some (.bl (decide (i < j)))
noncomputable def leD : D → D → Option D := opI fun i j => some (.bl (decide (i ≤ j)))
noncomputable def gtD : D → D → Option D := opI fun i j => some (.bl (decide (j < i)))
noncomputable def geD : D → D → Option D := opI fun i j => some (.bl (decide (j ≤ i)))
theorem l_sub : Lift2 K (rI0 fun i j => .int (i - j)) subD := lift_int0
theorem l_lt : Lift2 K (rI0 fun i j => .bl (decide (i < j))) ltD := lift_bool0
theorem l_le : Lift2 K (rI0 fun i j => .bl (decide (i ≤ j))) leD := lift_bool0
theorem l_gt : Lift2 K (rI0 fun i j => .bl (decide (j < i))) gtD := lift_bool0
theorem l_ge : Lift2 K (rI0 fun i j => .bl (decide (j ≤ i))) geD := lift_bool0
theorem l_fdiv : Lift2 K (rI CDivB fun i j => .int (i / j)) fdivD := lift_intC fun i j h => by
  simp only [Bool.and_eq_true, decide_eq_true_eq] at h
  exact h
theorem l_mod : Lift2 K (rI (fun _ j => 0 < j) fun i j => .int (i % j)) modD := lift_intC fun i j h => of_decide_eq_true h
noncomputable def rCatR : R2 := fun x y H Q => ∃ l b xs zs, x = .ref l ∧ y = .ref b ∧ Rd H l (.lst xs) ∧ Rd H b (.lst zs) ∧ xs.length + zs.length ≤ sizeLine ∧ ∀ p, H p = none → Q (.ref p) (upd H p (.lst (xs ++ zs)))
theorem op_catR : OpR X (binaryOp .Add) rCatR := by
  intro pins s σ H x y v u Q I rx ry h
  obtain ⟨l, b, xs, zs, rfl, rfl, hH, hB, hz, q⟩ := h
  cases rx
  cases ry
  obtain ⟨z, its, n, r, e⟩ := hH.ok I.hok
  obtain ⟨z2, its2, n2, r2, e2⟩ := hB.ok I.hok
  have l1 := r.length
  have l2 := r2.length
  refine PySem.P.add_list e e2 ?_ (by simp only [List.size_toArray]; omega)
  rw [show its.toArray ++ its2.toArray = (its ++ its2).toArray by simp]
  exact ⟨.ref _, _, I.lnew (t' := s.toks) (r.append r2) (by rw [List.length_append]; omega), rfl, q _ I.fresh⟩
noncomputable def rCat0 (K : PySem.W.Frag) : R2 := fun x y H Q => ∃ a b ys, x = .ref a ∧ y = .ref b ∧ SqT K H a [] ∧ SqT K H b ys ∧ Q (.ref b) H
theorem op_cat0 : OpR X (binaryOp .Add) (rCat0 X.K) := by
  intro pins s σ H x y v u Q I rx ry h
  obtain ⟨a, b, ys, rfl, rfl, ha, hb, q⟩ := h
  cases rx
  cases ry
  obtain ⟨its, r1, p1, _⟩ := I.tuple ha
  obtain ⟨its2, r2, p2, _⟩ := I.tuple hb
  cases r1
  obtain ⟨⟨c1, d1, dt1, sl1⟩, ho, hc, n, hd⟩ := p1
  obtain ⟨⟨c2, d2, dt2, sl2⟩, ho2, hc2, n2, hd2⟩ := p2
  simp only at hc hd hc2 hd2
  subst hc hd hc2 hd2
  exact PySem.concat_meets ⟨_, ho, rfl⟩ ⟨_, ho2, rfl⟩ noFill_tuple_add seq_tuple_add PySem.F.slot_tuple_add PySem.F.entry_tuple_add (PySem.F.args_tuple_add_2 _ _) (tuple_addW0 a b _ _ n n2 d1 d2 sl1 sl2 (by simp)) ⟨ho, ho2, ⟨.ref b, H, I, rfl, q⟩⟩
noncomputable def addD : D → D → Option D
  | .int i, .int j => some (.int (i + j))
  | .tup [], .tup b => some (.tup b)
  | .lst a, .lst b => if a.length + b.length ≤ sizeLine then some (.lst (a ++ b)) else none
  | .tup (c :: a), .tup b => if (c :: a).length + b.length ≤ sizeLine then some (.tup (c :: a ++ b)) else none
  | _, _ => none
theorem l_add : Lift2 K (fun x y H Q => (rI0 fun i j => .int (i + j)) x y H Q ∨ rCatR x y H Q ∨ rCatT K x y H Q ∨ rCat0 K x y H Q) addD := fun F H β Q d1 d2 d v1 v2 fr h1 h2 e k => by
  unfold addD at e
  split at e
  · cases e
    exact .inl ⟨_, _, h1, h2, k _ H (To.refl fr) rfl⟩
  · cases e
    obtain ⟨a, xs, rfl, r1, dl1⟩ := Den.sqT h1
    obtain ⟨b, ys, rfl, r2, dl2⟩ := Den.sqT h2
    have q : xs = [] := dl1
    subst q
    exact .inr (.inr (.inr ⟨a, b, ys, rfl, rfl, r1, r2, k _ H (To.refl fr) h2⟩))
  · split at e
    · cases e
      obtain ⟨a, xs, rfl, r1, dl1⟩ := Den.rdL h1
      obtain ⟨b, ys, rfl, r2, dl2⟩ := Den.rdL h2
      exact .inr (.inl ⟨a, b, xs, ys, rfl, rfl, r1, r2, by rw [← dl1.length, ← dl2.length]; assumption, fun p hp => k _ _ (fr.upd _ hp) (Den.newL fr hp (dl1.append dl2))⟩)
    · cases e
  · split at e
    · cases e
      obtain ⟨a, xs, rfl, r1, dl1⟩ := Den.sqT h1
      obtain ⟨b, ys, rfl, r2, dl2⟩ := Den.sqT h2
      have n1 := dl1.length
      have n2 := dl2.length
      refine .inr (.inr (.inl ⟨a, b, xs, ys, rfl, rfl, r1, r2, (fun z => by subst z; cases n1), by rw [← n1, ← n2]; assumption, fun z => ?_, fun _ p hp => k _ _ (fr.upd _ hp) (Den.newT fr hp (dl1.append dl2))⟩))
      subst z
      have z2 := List.length_eq_zero_iff.mp n2
      subst z2
      rw [List.append_nil] at k
      exact k _ H (To.refl fr) h1
    · cases e
  · cases e
theorem op_addAll : OpR X (binaryOp .Add) (fun x y H Q => (rI0 fun i j => .int (i + j)) x y H Q ∨ rCatR x y H Q ∨ rCatT X.K x y H Q ∨ rCat0 X.K x y H Q) := op_add.or (op_catR.or (op_catT.or op_cat0))
noncomputable def mulD : D → D → Option D := opI fun i j => if (smallI i && smallI j) = true then some (.int (i * j)) else none
theorem l_mul : Lift2 K (rI CMulB fun i j => .int (i * j)) mulD := lift_intC fun i j h => by
  simp only [Bool.and_eq_true, smallI, decide_eq_true_eq] at h
  exact h
noncomputable def eqS : D → D → Option Bool
  | .non, .non => some true
  | .int i, .int j => some (decide (i = j))
  | .bl i, .bl j => some (decide (i = j))
  | .str i, .str j => some (decide (i = j))
  | .int _, .str _ => some false
  | .str _, .int _ => some false
  | .bl _, .str _ => some false
  | .str _, .bl _ => some false
  | .non, .int _ => some false
  | .int _, .non => some false
  | .non, .str _ => some false
  | .str _, .non => some false
  | _, _ => none
theorem eqS_of {F : Fx} {H : Hp} {a b : D} {v w : V} {c : Bool} (h : eqS a b = some c) (h1 : Den K F H a v) (h2 : Den K F H b w) : scal v w = true ∧ decide (v = w) = c := by
  unfold eqS at h
  split at h <;> first
    | (cases h; cases h1.int; cases h2.int; exact ⟨rfl, by simp⟩)
    | (cases h; cases h1.bl; cases h2.bl; exact ⟨rfl, by simp⟩)
    | (cases h; cases h1.str; cases h2.str; exact ⟨rfl, by simp⟩)
    | (cases h; cases h1.non; cases h2.non; exact ⟨rfl, by simp⟩)
    | (cases h; cases h1.int; cases h2.str; exact ⟨rfl, rfl⟩)
    | (cases h; cases h1.str; cases h2.int; exact ⟨rfl, rfl⟩)
    | (cases h; cases h1.bl; cases h2.str; exact ⟨rfl, rfl⟩)
    | (cases h; cases h1.str; cases h2.bl; exact ⟨rfl, rfl⟩)
    | (cases h; cases h1.non; cases h2.int; exact ⟨rfl, rfl⟩)
    | (cases h; cases h1.int; cases h2.non; exact ⟨rfl, rfl⟩)
    | (cases h; cases h1.non; cases h2.str; exact ⟨rfl, rfl⟩)
    | (cases h; cases h1.str; cases h2.non; exact ⟨rfl, rfl⟩)
    | cases h
noncomputable def flatD : D → Bool
  | .int _ => true | .bl _ => true | .str _ => true | .non => true | _ => false
noncomputable def eqF : D → D → Bool
  | .non, .non => true
  | .bl a, .bl b => a == b
  | .bl a, .int b => (if a then 1 else 0) == b
  | .int a, .bl b => a == (if b then 1 else 0)
  | .int a, .int b => a == b
  | .str a, .str b => a == b
  | _, _ => false
noncomputable def seqOf : D → Option (List D)
  | .lst a => some a
  | .tup a => some a
  | _ => none
noncomputable def inB (x : D) (ys : List D) : Bool := ys.any fun y => eqF y x
noncomputable def inD (neg : Bool) (x y : D) : Option D := (seqOf y).bind fun ys => if (flatD x && ys.all flatD) = true then some (.bl (if neg then !inB x ys else inB x ys)) else none
theorem flat_of {F : Fx} {H : Hp} {d : D} {v : V} (f : flatD d = true) (h : Den K F H d v) : flatV v = true := by
  cases d <;> first | (cases h.int; rfl) | (cases h.bl; rfl) | (cases h.str; rfl) | (cases h.non; rfl) | cases f
theorem eqF_of {F : Fx} {H : Hp} {a b : D} {v w : V} (fa : flatD a = true) (fb : flatD b = true) (h1 : Den K F H a v) (h2 : Den K F H b w) : eqV v w = eqF a b := by
  cases a <;> cases b <;> first
    | (cases h1.int; cases h2.int; rfl) | (cases h1.int; cases h2.bl; rfl) | (cases h1.int; cases h2.str; rfl) | (cases h1.int; cases h2.non; rfl)
    | (cases h1.bl; cases h2.int; rfl) | (cases h1.bl; cases h2.bl; rfl) | (cases h1.bl; cases h2.str; rfl) | (cases h1.bl; cases h2.non; rfl)
    | (cases h1.str; cases h2.int; rfl) | (cases h1.str; cases h2.bl; rfl) | (cases h1.str; cases h2.str; rfl) | (cases h1.str; cases h2.non; rfl)
    | (cases h1.non; cases h2.int; rfl) | (cases h1.non; cases h2.bl; rfl) | (cases h1.non; cases h2.str; rfl) | (cases h1.non; cases h2.non; rfl)
    | (exfalso; exact Bool.false_ne_true fa) | (exfalso; exact Bool.false_ne_true fb)
theorem inB_of {F : Fx} {H : Hp} {x : D} {v : V} (fx : flatD x = true) (hx : Den K F H x v) : ∀ {ds : List D} {vs : List V}, ds.all flatD = true → DenL K F H ds vs → vs.all flatV = true ∧ inV v vs = inB x ds
  | [], vs, _, h => by have q : vs = [] := h; subst q; exact ⟨rfl, rfl⟩
  | d :: ds, vs, f, h => by
    obtain ⟨y, r, q, h1, h2⟩ := h
    subst q
    rw [List.all_cons, Bool.and_eq_true] at f
    obtain ⟨i1, i2⟩ := inB_of fx hx f.2 h2
    refine ⟨by rw [List.all_cons, flat_of f.1 h1, i1]; rfl, ?_⟩
    unfold inV inB at i2 ⊢
    rw [List.any_cons, List.any_cons, i2, eqF_of f.1 fx h1 hx]
theorem l_in {neg : Bool} : Lift2 K (rIn K neg) (inD neg) := fun F H β Q d1 d2 d v1 v2 fr h1 h2 e k => by
  unfold inD at e
  cases q : seqOf d2 with
  | none => rw [q] at e; cases e
  | some ys =>
    rw [q] at e
    simp only [Option.bind_some] at e
    split at e
    · rename_i hf
      rw [Bool.and_eq_true] at hf
      cases e
      cases d2 <;> first | (cases q; obtain ⟨a, xs, rfl, r1, dl⟩ := Den.sqL h2; obtain ⟨i1, i2⟩ := inB_of hf.1 h1 hf.2 dl; exact ⟨a, xs, rfl, .inl r1, flat_of hf.1 h1, i1, by rw [i2]; exact k _ H (To.refl fr) rfl⟩) | (cases q; obtain ⟨a, xs, rfl, r1, dl⟩ := Den.sqT h2; obtain ⟨i1, i2⟩ := inB_of hf.1 h1 hf.2 dl; exact ⟨a, xs, rfl, .inr r1, flat_of hf.1 h1, i1, by rw [i2]; exact k _ H (To.refl fr) rfl⟩) | cases q
    · cases e
noncomputable def ixD : D → D → Option D
  | .lst xs, .int i => atI xs i
  | .tup xs, .int i => atI xs i
  | _, _ => none
theorem atI_of {F : Fx} {H : Hp} {ds : List D} {vs : List V} {i : Int} {d : D} (h : DenL K F H ds vs) (e : atI ds i = some d) : ∃ v, atI vs i = some v ∧ Den K F H d v := by
  unfold atI at e ⊢
  rw [← h.length]
  cases q : ixN ds.length i with
  | none => rw [q] at e; cases e
  | some j =>
    rw [q] at e
    exact h.get e
theorem l_ix : Lift2 K (fun x y H Q => rIxL K x y H Q ∨ rIxT K x y H Q) ixD := fun F H β Q d1 d2 d v1 v2 fr h1 h2 e k => by
  unfold ixD at e
  split at e
  · obtain ⟨a, xs, rfl, r1, dl⟩ := Den.sqL h1
    obtain ⟨v, e2, hd⟩ := atI_of dl e
    exact .inl ⟨a, xs, _, v, rfl, h2, r1, e2, k _ H (To.refl fr) hd⟩
  · obtain ⟨a, xs, rfl, r1, dl⟩ := Den.sqT h1
    obtain ⟨v, e2, hd⟩ := atI_of dl e
    exact .inr ⟨a, xs, _, v, rfl, h2, r1, e2, k _ H (To.refl fr) hd⟩
  · cases e
theorem ix_both : IxR X (fun x y H Q => rIxL X.K x y H Q ∨ rIxT X.K x y H Q) := ix_list.or ix_tup
noncomputable def lenD : List D → Option D
  | [.lst xs] => some (.int xs.length)
  | [.tup xs] => some (.int xs.length)
  | _ => none
theorem DenL.one {F : Fx} {H : Hp} {d : D} {vs : List V} (h : DenL K F H [d] vs) : ∃ v, vs = [v] ∧ Den K F H d v := by
  obtain ⟨x, r, e, h1, h2⟩ := h
  have q : r = [] := h2
  subst q
  exact ⟨x, e, h1⟩
theorem DenL.two {F : Fx} {H : Hp} {d c : D} {vs : List V} (h : DenL K F H [d, c] vs) : ∃ v w, vs = [v, w] ∧ Den K F H d v ∧ Den K F H c w := by
  obtain ⟨x, r, e, h1, h2⟩ := h
  obtain ⟨y, rfl, h3⟩ := DenL.one h2
  exact ⟨x, y, e, h1, h3⟩
theorem l_len : LiftA K (fun xs H Q => ∃ p ys, xs = [.ref p] ∧ (SqL K H p ys ∨ SqT K H p ys) ∧ Q (.int ys.length) H) lenD := fun F H β Q ds d vs fr h e k => by
  unfold lenD at e
  split at e
  · cases e
    obtain ⟨v, rfl, g⟩ := DenL.one h
    obtain ⟨a, xs, rfl, r, dl⟩ := Den.sqL g
    exact ⟨a, xs, rfl, .inl r, by rw [← dl.length]; exact k _ H (To.refl fr) rfl⟩
  · cases e
    obtain ⟨v, rfl, g⟩ := DenL.one h
    obtain ⟨a, xs, rfl, r, dl⟩ := Den.sqT g
    exact ⟨a, xs, rfl, .inr r, by rw [← dl.length]; exact k _ H (To.refl fr) rfl⟩
  · cases e
noncomputable def minD : List D → Option D
  | [.int i, .int j] => some (.int (if j < i then j else i))
  | _ => none
theorem l_min : LiftA K (fun xs H Q => ∃ i j, xs = [.int i, .int j] ∧ Q (.int (if j < i then j else i)) H) minD := fun F H β Q ds d vs fr h e k => by
  unfold minD at e
  split at e
  · cases e
    obtain ⟨v, w, rfl, g, g'⟩ := DenL.two h
    cases g.int
    cases g'.int
    exact ⟨_, _, rfl, k _ H (To.refl fr) rfl⟩
  · cases e
noncomputable def intsOf : List D → Option (List Int)
  | [] => some []
  | .int i :: r => (intsOf r).map (i :: ·)
  | _ => none
theorem intsOf_eq : ∀ {ds : List D} {ns : List Int}, intsOf ds = some ns → ds = ns.map D.int
  | [], ns, h => by cases h; rfl
  | d :: ds, ns, h => by
    cases d with
    | int i =>
      unfold intsOf at h
      cases q : intsOf ds with
      | none => rw [q] at h; cases h
      | some ms => rw [q] at h; cases h; rw [intsOf_eq q]; rfl
    | _ => cases h
noncomputable def sumD : List D → Option D
  | [.lst xs] => (intsOf xs).map fun ns => .int ns.sum
  | _ => none
theorem l_sum : LiftA K (fun xs H Q => ∃ (a : Addr) (ns : List Int), xs = [.ref a] ∧ SqL K H a (ns.map V.int) ∧ Q (.int ns.sum) H) sumD := fun F H β Q ds d vs fr h e k => by
  unfold sumD at e
  split at e
  · rename_i xs
    cases q : intsOf xs with
    | none => rw [q] at e; cases e
    | some ns =>
      rw [q] at e; cases e
      obtain ⟨v, rfl, g⟩ := DenL.one h
      obtain ⟨a, ys, rfl, r, dl⟩ := Den.sqL g
      rw [intsOf_eq q] at dl
      have e2 := DenL.ints ns dl
      subst e2
      exact ⟨a, ns, rfl, r, k _ H (To.refl fr) rfl⟩
  · cases e
noncomputable def listD : List D → Option D
  | [.lst xs] => some (.lst xs)
  | [.tup xs] => some (.lst xs)
  | _ => none
theorem l_list : LiftA K (fun xs H Q => ∃ p ys, xs = [.ref p] ∧ (SqL K H p ys ∨ SqT K H p ys) ∧ ∀ l, H l = none → Q (.ref l) (upd H l (.lst ys))) listD := fun F H β Q ds d vs fr h e k => by
  unfold listD at e
  split at e
  · cases e
    obtain ⟨v, rfl, g⟩ := DenL.one h
    obtain ⟨a, xs, rfl, r, dl⟩ := Den.sqL g
    exact ⟨a, xs, rfl, .inl r, fun l hl => k _ _ (fr.upd _ hl) (Den.newL fr hl dl)⟩
  · cases e
    obtain ⟨v, rfl, g⟩ := DenL.one h
    obtain ⟨a, xs, rfl, r, dl⟩ := Den.sqT g
    exact ⟨a, xs, rfl, .inr r, fun l hl => k _ _ (fr.upd _ hl) (Den.newL fr hl dl)⟩
  · cases e
end
end L2.Pu
namespace L2.Pu
open PySem PySem.Spec PyProof.Rows
noncomputable def asB : D → Option Bool
  | .bl b => some b
  | _ => none
theorem asB_some {d : D} {b : Bool} (h : asB d = some b) : d = .bl b := by cases d <;> first | (cases h; rfl) | cases h
noncomputable def truD : D → Option Bool
  | .non => some false
  | .bl b => some b
  | .int i => some (i != 0)
  | .lst xs => some (!xs.isEmpty)
  | .tup xs => some (!xs.isEmpty)
  | _ => none
noncomputable def fB (f : Dn → M D) : Dn → M Bool := fun δ => M.bind (f δ) fun d => M.ofO (asB d)
noncomputable def fTru (f : Dn → M D) : Dn → M Bool := fun δ => M.bind (f δ) fun d => M.ofO (truD d)
noncomputable def fAndT (f g : Dn → M Bool) : Dn → M Bool := fun δ => M.bind (f δ) fun c => if c = true then g δ else M.ret false
noncomputable def fOrT (f g : Dn → M Bool) : Dn → M Bool := fun δ => M.bind (f δ) fun c => if c = true then M.ret true else g δ
noncomputable def fNotT (f : Dn → M Bool) : Dn → M Bool := fun δ => M.bind (f δ) fun c => M.ret (!c)
noncomputable def fAnd (f g : Dn → M D) : Dn → M D := fun δ => M.bind (f δ) fun d => M.bind (M.ofO (asB d)) fun c => if c = true then g δ else M.ret (.bl false)
noncomputable def fChain (o o' : D → D → Option D) (f g h : Dn → M D) : Dn → M D := fun δ => M.bind (f δ) fun a => M.bind (g δ) fun b => M.bind (M.ofO (o a b)) fun z => M.bind (M.ofO (asB z)) fun c => if c = true then M.bind (h δ) (fun w => M.ofO (o' b w)) else M.ret (.bl false)
section
variable {X : Cx} {E : St → XK} {a b c : Expr} {rest : List Expr} {pos : Pos} {K : PySem.W.Frag}
theorem M.ofO_bind {α γ : Type} {o : Option α} {k : α → M γ} {β : Bg} {z : Except Addr γ × Bg} (h : M.bind (M.ofO o) k β = some z) : ∃ a, o = some a ∧ k a β = some z := by
  cases o with
  | none => cases h
  | some a => exact ⟨a, rfl, h⟩
theorem run.ofO_bind {α γ ζ : Type} {R : Hp → γ → ζ → Prop} {F : Fx} {σ : St} {o : Option α} {k : α → M γ} {H : Hp} {Q : ζ → Hp → Prop} {β : Bg} (h : run R F E σ (M.bind (M.ofO o) k) H Q β) : ∃ a, o = some a ∧ run R F E σ (k a) H Q β := by
  obtain ⟨r, β', e, h⟩ := h
  obtain ⟨a, q, e⟩ := M.ofO_bind e
  exact ⟨a, q, r, β', e, h⟩
theorem run.bOk {F : Fx} {σ : St} {d : D} {v : V} {H : Hp} {Q : Bool → Hp → Prop} {β : Bg} (fr : Fr F H β) (hd : Den K F H d v) (h : run (fun _ (a b : Bool) => b = a) F E σ (M.ofO (asB d)) H Q β) : ∃ k, v = .bl k ∧ Q k H := by
  obtain ⟨b, e, k⟩ := run.ofO h
  rw [asB_some e] at hd
  exact ⟨b, hd, k b H (To.refl fr) rfl⟩
theorem tTest_of {f : Dn → M D} {σ : St} {H : Hp} {Q : Bool → Hp → Prop} (h : tVT K (fB f) E σ H Q) : tV K f E σ H fun x H' => ∃ k, x = .bl k ∧ Q k H' := by
  obtain ⟨F, δ, β, fr, vk, h⟩ := h
  exact ⟨F, δ, β, fr, vk, (run.bind (R := Den K F) h).mono fun v H1 h_ => ex5 h_ fun d β1 t hd r1 => run.bOk t.fr hd r1⟩
theorem t_cmp {op : CmpOp} {r : R2} {o : D → D → Option D} {f g : Dn → M D} (ho : OpR X (compareOp op) r) (l : Lift2 X.K r o) (ha : PE X a (tV X.K f E)) (hb : PE X b (tV X.K g E)) (hm : behindInMarks op b = false := by first | exact nomark _ | rfl) : PT X (.Compare a [op] [b] pos) (tVT X.K (fB (f2 o f g)) E) :=
  (pt_cmpR ho ha hb hm).imp fun σ H Q h => tOp_of l (tTest_of h)
theorem tChain_of {r r' : R2} {o o' : D → D → Option D} {f g h : Dn → M D} (l : Lift2 K r o) (l' : Lift2 K r' o') {σ : St} {H : Hp} {Q : VK} (hw : tV K (fChain o o' f g h) E σ H Q) : tChain r r' (tV K f E) (tV K g E) (tV K h E) σ H Q := by
  obtain ⟨F, δ, β, fr, vk, hw⟩ := hw
  refine ⟨F, δ, β, fr, vk, (run.bind (R := Den K F) hw).mono fun v H1 h_ => ex5 h_ fun d β1 t hd r1 => ⟨F, δ, β1, t.fr, vk.tr (t.tr fr), (run.bind (R := Den K F) r1).mono fun v2 H2 h_ => ex5 h_ fun d2 β2 t2 hd2 r2 => ?_⟩⟩
  obtain ⟨z, ez, r3⟩ := run.ofO_bind r2
  obtain ⟨c, ec, r4⟩ := run.ofO_bind r3
  rw [asB_some ec] at ez
  refine l F H2 β2 _ d d2 _ v v2 t2.fr (Den.tr (t2.tr t.fr) _ _ hd) hd2 ez fun vz H3 t3 hz => ⟨c, hz, ?_⟩
  cases c with
  | true =>
    rw [if_pos rfl] at r4
    refine ⟨F, δ, β2, t3.fr, vk.tr ((t.tr fr).trans ((t2.tr t.fr).trans (t3.tr t2.fr))), ?_⟩
    have r5 : run (Den K F) F E σ (M.bind (h δ) fun w => M.ofO (o' d2 w)) H3 Q β2 := by
      obtain ⟨rr, β', e, q⟩ := r4
      refine ⟨rr, β', e, ?_⟩
      cases rr with
      | ok d => exact fun v H' tt => q v H' (t3.trans tt)
      | error C => exact fun H' tt => q H' (t3.trans tt)
    refine (run.bind (R := Den K F) r5).mono fun w H4 h_ => ex5 h_ fun dw β4 t4 hdw r6 => ?_
    obtain ⟨d3, e3, k⟩ := run.ofO r6
    exact l' F H4 β4 Q d2 dw d3 v2 w t4.fr (Den.tr ((t3.tr t2.fr).trans (t4.tr t3.fr)) _ _ hd2) hdw e3 k
  | false =>
    rw [if_neg Bool.false_ne_true] at r4
    obtain ⟨rr, β', e, q⟩ := r4
    cases e
    exact q _ H3 t3 rfl
theorem t_chain {op op' : CmpOp} {r r' : R2} {o o' : D → D → Option D} {f g h : Dn → M D} (ho : OpR X (compareOp op) r) (ho' : OpR X (compareOp op') r') (l : Lift2 X.K r o) (l' : Lift2 X.K r' o') (ha : PE X a (tV X.K f E)) (hb : PE X b (tV X.K g E)) (hc : PE X c (tV X.K h E)) (hm : lastMarks [op, op'] [b, c] = false := by with_unfolding_all rfl) :
    PT X (.Compare a [op, op'] [b, c] pos) (tVT X.K (fB (fChain o o' f g h)) E) := (pt_chain ho ho' ha hb hc hm).imp fun σ H Q q => tChain_of l l' (tTest_of q)
theorem truD_of {F : Fx} {H : Hp} {d : D} {v : V} {k : Bool} (h : truD d = some k) (hd : Den K F H d v) : TruV K v H k := by
  cases d with
  | non => cases h; cases hd.non; rfl
  | bl b => cases h; cases hd.bl; rfl
  | int i => cases h; cases hd.int; rfl
  | lst xs =>
    cases h
    obtain ⟨a, ys, rfl, r, dl⟩ := Den.sqL hd
    refine .inl ⟨ys, r, ?_⟩
    have := dl.length
    cases xs <;> cases ys <;> first | rfl | (simp at this)
  | tup xs =>
    cases h
    obtain ⟨a, ys, rfl, r, dl⟩ := Den.sqT hd
    refine .inr (.inl ⟨ys, r, ?_⟩)
    have := dl.length
    cases xs <;> cases ys <;> first | rfl | (simp at this)
  | _ => cases h
theorem t_val {f : Dn → M D} (ha : PE X a (tV X.K f E)) (he : ∀ whole, isTrue a X.env whole = (do let v ← whole; standAt a.pos; holding [v] (truthy v)) := by intro _; rfl) : PT X a (tVT X.K (fTru f) E) :=
  (pt_truth ha he).imp fun σ H Q h_ => ex6 h_ fun F δ β fr vk h => ⟨F, δ, β, fr, vk, (run.bind (R := Den X.K F) h).mono fun v H1 h_ => by
    obtain ⟨d, β1, t, hd, r1⟩ := h_
    obtain ⟨k, e, q⟩ := run.ofO r1
    exact ⟨k, truD_of e hd, q k H1 (To.refl t.fr) rfl⟩⟩
theorem t_not {f : Dn → M Bool} (ha : PT X a (tVT X.K f E)) : PT X (.UnaryOp .Not a pos) (tVT X.K (fNotT f) E) :=
  (pt_not ha).imp fun σ H Q h_ => ex6 h_ fun F δ β fr vk h => ⟨F, δ, β, fr, vk, (run.bind (R := fun _ (a b : Bool) => b = a) h).mono fun v H1 h_ => by
    obtain ⟨d, β1, t, hd, r1⟩ := h_
    subst hd
    exact run.ret t.fr r1 rfl⟩
theorem tAnd_of {f g : Dn → M Bool} {σ : St} {H : Hp} {Q : Bool → Hp → Prop} (h : tVT K (fAndT f g) E σ H Q) : tAnd (tVT K f E) (tVT K g E) σ H Q := by
  obtain ⟨F, δ, β, fr, vk, h⟩ := h
  refine ⟨F, δ, β, fr, vk, (run.bind (R := fun _ (a b : Bool) => b = a) h).mono fun v H1 h_ => ex5 h_ fun d β1 t hd r1 => ?_⟩
  subst hd
  cases v with
  | true => rw [if_pos rfl] at r1 ⊢; exact ⟨F, δ, β1, t.fr, vk.tr (t.tr fr), r1⟩
  | false => rw [if_neg Bool.false_ne_true] at r1 ⊢; exact run.ret t.fr r1 rfl
theorem tOr_of {f g : Dn → M Bool} {σ : St} {H : Hp} {Q : Bool → Hp → Prop} (h : tVT K (fOrT f g) E σ H Q) : tOr (tVT K f E) (tVT K g E) σ H Q := by
  obtain ⟨F, δ, β, fr, vk, h⟩ := h
  refine ⟨F, δ, β, fr, vk, (run.bind (R := fun _ (a b : Bool) => b = a) h).mono fun v H1 h_ => ex5 h_ fun d β1 t hd r1 => ?_⟩
  subst hd
  cases v with
  | false => rw [if_neg Bool.false_ne_true] at r1 ⊢; exact ⟨F, δ, β1, t.fr, vk.tr (t.tr fr), r1⟩
  | true => rw [if_pos rfl] at r1 ⊢; exact run.ret t.fr r1 rfl
theorem w_and1 {f : Dn → M Bool} (ha : PT X a (tVT X.K f E)) : PW X (.BoolOp .And [a] pos) (tVT X.K f E) := pw_and1 ha
theorem w_or1 {f : Dn → M Bool} (ha : PT X a (tVT X.K f E)) : PW X (.BoolOp .Or [a] pos) (tVT X.K f E) := pw_or1 ha
theorem w_and {f g : Dn → M Bool} (ha : PT X a (tVT X.K f E)) (hb : PW X (.BoolOp .And (b :: rest) pos) (tVT X.K g E)) : PW X (.BoolOp .And (a :: b :: rest) pos) (tVT X.K (fAndT f g) E) := (pw_and ha hb).imp fun _ _ _ => tAnd_of
theorem w_or {f g : Dn → M Bool} (ha : PT X a (tVT X.K f E)) (hb : PW X (.BoolOp .Or (b :: rest) pos) (tVT X.K g E)) : PW X (.BoolOp .Or (a :: b :: rest) pos) (tVT X.K (fOrT f g) E) := (pw_or ha hb).imp fun _ _ _ => tOr_of
theorem t_bool {e : Expr} {f : Dn → M Bool} (h : PW X e (tVT X.K f E)) : PT X e (tVT X.K f E) := PW.pt h
theorem v_one {op} {f : Dn → M D} (h : PE X a (tV X.K f E)) : PE X (.BoolOp op [a] pos) (tV X.K f E) := pe_one h
theorem run.asB {F : Fx} {σ : St} {d : D} {v : V} {k : Bool → M D} {H : Hp} {Q : VK} {β : Bg} (hd : Den K F H d v) (h : run (Den K F) F E σ (M.bind (M.ofO (asB d)) k) H Q β) : ∃ c, v = .bl c ∧ run (Den K F) F E σ (k c) H Q β := by
  obtain ⟨c, e, h⟩ := run.ofO_bind h
  rw [asB_some e] at hd
  exact ⟨c, hd, h⟩
theorem v_and {f g : Dn → M D} (ha : PE X a (tV X.K f E)) (hb : PE X (.BoolOp .And (b :: rest) pos) (tV X.K g E)) : PE X (.BoolOp .And (a :: b :: rest) pos) (tV X.K (fAnd f g) E) :=
  (pe_and ha hb).imp fun σ H Q h_ => ex6 h_ fun F δ β fr vk h => ⟨F, δ, β, fr, vk, (run.bind (R := Den X.K F) h).mono fun v H1 h_ => by
    obtain ⟨d, β1, t, hd, r1⟩ := h_
    obtain ⟨c, e, r2⟩ := run.asB hd r1
    refine ⟨c, e, ?_⟩
    cases c with
    | true => rw [if_pos rfl] at r2 ⊢; exact ⟨F, δ, β1, t.fr, vk.tr (t.tr fr), r2⟩
    | false => rw [if_neg Bool.false_ne_true] at r2 ⊢; exact run.ret t.fr r2 rfl⟩
end
end L2.Pu
namespace L2.Pu
open PySem PySem.Spec PyProof.Rows
noncomputable def ItD (K : PySem.W.Frag) (J : It) (F : Fx) (H : Hp) (ds : List D) : Prop := ∀ (F2 : Fx) (H2 : Hp) (β2 : Bg), Tr F H F2 H2 → Fr F2 H2 β2 → ∀ i, (∀ d, ds[i]? = some d → J.go i H2 ∧ ∀ x H3, J.yld i H2 x H3 → Same H2 H3 ∧ Den K F2 H3 d x) ∧ (i = ds.length → J.stop i H2)
theorem ItD.tr {K : PySem.W.Frag} {J : It} {F F2 : Fx} {H H2 : Hp} {ds : List D} (t : Tr F H F2 H2) (h : ItD K J F H ds) : ItD K J F2 H2 ds := fun F3 H3 β3 t3 fr => h F3 H3 β3 (t.trans t3) fr
noncomputable def iV (K : PySem.W.Frag) (f : Dn → M (List D)) (E : St → XK) : TI := fun σ H R => ∃ F δ β, Fr F H β ∧ VOk K F H δ σ ∧ run (fun H' (ds : List D) (J : It) => ItD K J F H' ds) F E σ (f δ) H R β
theorem _root_.L2.PI.imp {X : Cx} {tg e : Expr} {t t' : TI} (h : PI X tg e t) (f : ∀ σ H Q, t' σ H Q → t σ H Q) : PI X tg e t' := fun pins s σ H Q I q => h pins s σ H Q I (f σ H Q q)
section
variable {X : Cx} {E : St → XK} {tg : Expr} {K : PySem.W.Frag}
noncomputable def iSeq (K : PySem.W.Frag) (tl : TE) : TI := fun σ H R => tl σ H fun x H1 => (∃ a, x = .ref a ∧ (∃ xs, SqL K H1 a xs) ∧ R (Itl K a) H1) ∨ (∃ a, x = .ref a ∧ (∃ xs, SqT K H1 a xs) ∧ R (Itt K a) H1)
theorem pi_seq {l : Expr} {tl : TE} (hl : PE X l tl) : PI X tg l (iSeq X.K tl) := by
  intro pins s σ H R I h
  refine thn (hl pins s σ H _ I h) fun v s1 h_ => ?_
  obtain ⟨x, H1, I1, r1, q1⟩ := h_
  have own : ∀ b ∈ [s1.heap.objs.size], FpOk X pins H1 b := fun b hb => by
    obtain rfl : b = s1.heap.objs.size := by simpa using hb
    exact I1.fpOk (Nat.le_refl _) (I1.hok.fresh (Nat.le_refl _))
  rcases q1 with ⟨a, e, ⟨xs, hq⟩, q⟩ | ⟨a, e, ⟨xs, hq⟩, q⟩
  · subst e
    cases r1
    obtain ⟨its, rv, p, hz⟩ := I1.list hq
    exact wpAny_pyIter_list p.isList ⟨s1.heap.objs.size, [s1.heap.objs.size], _, _, H1, rfl, I1.kept (t' := s1.toks) fun b o e => Heap.get?_push_of_some _ e, turn_list a _, ⟨_, Heap.get?_push_size _ rfl, rfl, rfl⟩, own, q⟩
  · subst e
    cases r1
    obtain ⟨its, rv, p, hz⟩ := I1.tuple hq
    exact wpAny_pyIter_tuple (show s1.heap.IsTuple a its.toArray from p) ⟨s1.heap.objs.size, [s1.heap.objs.size], _, _, H1, rfl, I1.kept (t' := s1.toks) fun b o e => Heap.get?_push_of_some _ e, turn_tuple a _, ⟨_, Heap.get?_push_size _ rfl, rfl, rfl⟩, own, q⟩
theorem itd_list {F : Fx} {H : Hp} {ds : List D} {a : Addr} (h : Den K F H (.lst ds) (.ref a)) : ItD K (Itl K a) F H ds := fun F2 H2 β2 t fr i => by
  have h2 := Den.tr t _ _ h
  obtain ⟨a', xs, e, sq, dl⟩ := Den.sqL h2
  cases e
  refine ⟨fun d hd => ?_, fun hi => ⟨xs, sq, by rw [← dl.length, hi]; exact Nat.le_refl _⟩⟩
  obtain ⟨x, hx, _⟩ := dl.get hd
  refine ⟨⟨xs, x, sq, hx⟩, fun y H3 hy => ?_⟩
  obtain ⟨rfl, hy⟩ := hy
  obtain ⟨d', e', hd'⟩ := dl.getV (hy xs sq)
  rw [hd] at e'
  cases e'
  exact ⟨Same.refl _, hd'⟩
theorem itd_tup {F : Fx} {H : Hp} {ds : List D} {a : Addr} (h : Den K F H (.tup ds) (.ref a)) : ItD K (Itt K a) F H ds := fun F2 H2 β2 t fr i => by
  have h2 := Den.tr t _ _ h
  obtain ⟨a', xs, e, sq, dl⟩ := Den.sqT h2
  cases e
  refine ⟨fun d hd => ?_, fun hi => ⟨xs, sq, by rw [← dl.length, hi]; exact Nat.le_refl _⟩⟩
  obtain ⟨x, hx, _⟩ := dl.get hd
  refine ⟨⟨xs, x, sq, hx⟩, fun y H3 hy => ?_⟩
  obtain ⟨rfl, hy⟩ := hy
  obtain ⟨d', e', hd'⟩ := dl.getV (hy xs sq)
  rw [hd] at e'
  cases e'
  exact ⟨Same.refl _, hd'⟩
noncomputable def nSeq (f : Dn → M D) : Dn → M (List D) := fun δ => M.bind (f δ) fun d => M.ofO (seqOf d)
theorem i_seq {l : Expr} {f : Dn → M D} (hl : PE X l (tV X.K f E)) : PI X tg l (iV X.K (nSeq f) E) :=
  (pi_seq hl).imp fun σ H R h_ => ex6 h_ fun F δ β fr vk h => ⟨F, δ, β, fr, vk, (run.bind (R := Den X.K F) h).mono fun v H1 h_ => by
    obtain ⟨d, β1, t, hd, r1⟩ := h_
    obtain ⟨ds, e, k⟩ := run.ofO r1
    cases d <;> first
      | (cases e; obtain ⟨a, xs, rfl, sq, dl⟩ := Den.sqL hd; exact .inl ⟨a, rfl, ⟨xs, sq⟩, k _ H1 (To.refl t.fr) (itd_list hd)⟩)
      | (cases e; obtain ⟨a, xs, rfl, sq, dl⟩ := Den.sqT hd; exact .inr ⟨a, rfl, ⟨xs, sq⟩, k _ H1 (To.refl t.fr) (itd_tup hd)⟩)
      | cases e⟩
noncomputable def rangeL (lo : Int) (n : Nat) : List D := (List.range n).map fun (i : Nat) => .int (lo + (i : Int))
theorem itd_range {F : Fx} {H : Hp} {lo : Int} {n : Nat} : ItD K (Itr lo n) F H (rangeL lo n) := fun F2 H2 β2 t fr i => by
  refine ⟨fun d hd => ?_, fun hi => ?_⟩
  · unfold rangeL at hd
    have hi : i < n := by
      have := (List.getElem?_eq_some_iff.mp hd).1
      simpa using this
    rw [List.getElem?_map, List.getElem?_range hi] at hd
    cases hd
    exact ⟨hi, fun x H3 ⟨e1, e2⟩ => by subst e1 e2; exact ⟨Same.refl _, rfl⟩⟩
  · show n ≤ i
    rw [hi]
    simp [rangeL]
noncomputable def rng1 : List D → Option (List D)
  | [.int j] => if (decide (-(2 ^ 62) ≤ j) && decide (j < 2 ^ 62)) = true then some (rangeL 0 j.toNat) else none
  | _ => none
noncomputable def nArgs (op : List D → Option (List D)) (g : Dn → M (List D)) : Dn → M (List D) := fun δ => M.bind (g δ) fun as => M.ofO (op as)
theorem i_range1 {a : Expr} {g : Dn → M (List D)} {p pos : Pos} (hg : Gl X "range") (hm : X.mg "range" = none) (ha : PA X [a] (tVA X.K g E)) (hs : starEach [a] X.env = [(false, eval a X.env)] := by rfl) : PI X tg (.Call (.Name "range" p) [a] [] pos) (iV X.K (nArgs rng1 g) E) :=
  (pi_range1 hg hm ha hs).imp fun σ H R h_ => ex6 h_ fun F δ β fr vk h => ⟨F, δ, β, fr, vk, (run.bind (R := DenL X.K F) h).mono fun vs H1 h_ => by
    obtain ⟨ds, β1, t, hd, r1⟩ := h_
    obtain ⟨l, e, k⟩ := run.ofO r1
    unfold rng1 at e
    split at e
    · split at e
      · rename_i hj
        cases e
        simp only [Bool.and_eq_true, decide_eq_true_eq] at hj
        obtain ⟨v, rfl, h1⟩ := DenL.one hd
        cases h1.int
        exact ⟨_, rfl, hj.1, hj.2, k _ H1 (To.refl t.fr) itd_range⟩
      · cases e
    · cases e⟩
noncomputable abbrev TgF := D → Dn → Option Dn
noncomputable def LiftG (K : PySem.W.Frag) (g : TG) (tg : TgF) : Prop := ∀ (F : Fx) (H : Hp) (δ δ1 : Dn) (σ : St) (d : D) (v : V) (Q : St → Hp → Prop), VOk K F H δ σ → Den K F H d v → tg d δ = some δ1 → (∀ σ1, VOk K F H δ1 σ1 → Q σ1 H) → g v σ H Q
noncomputable def tgC (i : Nat) : TgF := fun d δ => if (δ.getD i (some .non)).isNone then some (δ.set i (some d)) else none
theorem tgC_some {i : Nat} {d : D} {δ δ1 : Dn} (h : tgC i d δ = some δ1) : δ[i]? = some none ∧ δ1 = δ.set i (some d) := by
  unfold tgC at h
  split at h
  · rename_i q
    cases h
    refine ⟨?_, rfl⟩
    rw [List.getD_eq_getElem?_getD] at q
    cases e : δ[i]? with
    | none => rw [e] at q; cases q
    | some z =>
      rw [e] at q
      cases z with
      | none => rfl
      | some w => cases q
  · cases h
theorem lg_nameC {i : Nat} : LiftG K (gName i) (tgC i) := fun F H δ δ1 σ d v Q vk hd e k => by
  obtain ⟨_, rfl⟩ := tgC_some e
  exact k _ (vk.set hd)
noncomputable def SubG (tg : TgF) : Prop := ∀ d δ δ1, tg d δ = some δ1 → Sub δ δ1 ∧ δ.length = δ1.length
theorem sg_name {i : Nat} : SubG (tgC i) := fun d δ δ1 e => by
  obtain ⟨q, rfl⟩ := tgC_some e
  refine ⟨fun j c ej => ?_, by rw [List.length_set]⟩
  rw [List.getElem?_set]
  by_cases z : i = j
  · subst z; rw [q] at ej; cases ej
  · rw [if_neg z]; exact ej
structure ToD (F : Fx) (D : Addr) (H H' : Hp) (β' : Bg) : Prop where
  kp : ∀ a o, H a = some o → a ≠ D → (∀ b l, F.bg = some (b, l) → a ≠ b ∧ a ≠ l) → H' a = some o
  fr : Fr F H' β'
theorem ToD.trans {F : Fx} {D : Addr} {H H1 H2 : Hp} {β1 β2 : Bg} (a : ToD F D H H1 β1) (b : ToD F D H1 H2 β2) : ToD F D H H2 β2 := ⟨fun x o h n m => b.kp x o (a.kp x o h n m) n m, b.fr⟩
theorem To.toD {F : Fx} {H H' : Hp} {β' : Bg} (t : To F H H' β') (D : Addr) : ToD F D H H' β' := ⟨fun a o h _ m => t.kp a o h m, t.fr⟩
theorem ToD.tr {F : Fx} {D : Addr} {H H' : Hp} {β β' : Bg} (fr : Fr F H β) (hD : F.A D) (t : ToD F D H H' β') : Tr F H F H' :=
  ⟨fun _ h _ => h, fun a o h e => t.kp a o e (fun z => h (z ▸ hD)) fun b l q => ⟨fun z => h (z ▸ (fr.bgA b l q).1), fun z => h (z ▸ (fr.bgA b l q).2.1)⟩, rfl⟩
noncomputable def LiftB (K : PySem.W.Frag) (D : Addr) (tb : TB) (f : Dn → M (List Pu.D)) : Prop := ∀ (F : Fx) (H : Hp) (δ : Dn) (β β' : Bg) (σ : St) (acc : List V) (as os : List Pu.D) (Q : St → Hp → Prop), Fr F H β → F.A D → (∀ b l, F.bg = some (b, l) → D ≠ b ∧ D ≠ l) → VOk K F H δ σ → H D = some (.lst acc) → DenL K F H as acc →
  f δ β = some (.ok os, β') → as.length + os.length ≤ sizeLine → (∀ σ1 H1 acc1, ToD F D H H1 β' → VOk K F H1 δ σ1 → H1 D = some (.lst acc1) → DenL K F H1 (as ++ os) acc1 → Q σ1 H1) → tb σ H Q
noncomputable def cEm (f : Dn → M Pu.D) : Dn → M (List Pu.D) := fun δ => M.bind (f δ) fun d => M.ret [d]
theorem M.bind_inv {α γ : Type} {m : M α} {k : α → M γ} {β β' : Bg} {r : γ} (h : M.bind m k β = some (.ok r, β')) : ∃ a β1, m β = some (.ok a, β1) ∧ k a β1 = some (.ok r, β') := by
  unfold M.bind at h
  split at h
  · cases h
  · cases h
  · rename_i a β1 e
    exact ⟨a, β1, e, h⟩
theorem E0.run {α γ : Type} {R : Hp → α → γ → Prop} {F : Fx} {σ : St} {m : M α} {H : Hp} {Q : γ → Hp → Prop} {β β' : Bg} {a : α} (e : m β = some (.ok a, β')) (h : ∀ v H', To F H H' β' → R H' a v → Q v H') : run R F E0 σ m H Q β := ⟨.ok a, β', e, h⟩
theorem lb_emit {D : Addr} {f : Dn → M Pu.D} : LiftB K D (cEmit D (tV K f E0)) (cEm f) := fun F H δ β β' σ acc as os Q fr hA hb vk hD hd e hz k => by
  obtain ⟨d, β1, e1, e2⟩ := M.bind_inv e
  cases e2
  refine ⟨F, δ, β, fr, vk, E0.run e1 fun v H1 t hv => ?_⟩
  have hD1 := t.kp D _ hD hb
  have dl := DenL.tr (t.tr fr) _ _ hd
  refine ⟨acc, hD1, by rw [← hd.length]; simp at hz; omega, ?_⟩
  have tD : ToD F D H1 (upd H1 D (.lst (acc ++ [v]))) β' := by
    refine ⟨fun a o h n _ => by rw [upd_ne n]; exact h, fun a h q => ?_, fr.bgA, fun b l q => ?_⟩
    · by_cases z : a = D
      · subst z; rw [upd_same] at q; cases q
      · rw [upd_ne z] at q; exact t.fr.occ a h q
    · rw [upd_ne (hb b l q).1.symm, upd_ne (hb b l q).2.symm]
      exact t.fr.bag b l q
  have tt := tD.tr t.fr hA
  exact k σ _ _ ((t.toD D).trans tD) (vk.tr ((t.tr fr).trans tt)) upd_same (DenL.append (DenL.tr tt _ _ dl) ⟨v, [], rfl, Den.tr tt _ _ hv, rfl⟩)
noncomputable def cLp (tg : TgF) (tt : Dn → M Bool) (b : Dn → M (List Pu.D)) : List Pu.D → Dn → M (List Pu.D)
  | [], _ => M.ret []
  | d :: ds, δ => match tg d δ with
    | none => M.fail
    | some δ1 => M.bind (tt δ1) fun c => M.bind (if c = true then b δ1 else M.ret []) fun o => M.bind (cLp tg tt b ds δ) fun os => M.ret (o ++ os)
theorem lb_loop {D : Addr} {J : It} {g : TG} {tg : TgF} {tt : Dn → M Bool} {tb : TB} {b : Dn → M (List Pu.D)} (hg : LiftG K g tg) (sg : SubG tg) (hb : LiftB K D tb b) {F : Fx} {H : Hp} {δ : Dn} {β β' : Bg} {σ : St} {acc : List V} {as os ds : List Pu.D} {Q : St → Hp → Prop} (fr : Fr F H β) (hA : F.A D) (hn : ∀ b l, F.bg = some (b, l) → D ≠ b ∧ D ≠ l) (vk : VOk K F H δ σ) (hD : H D = some (.lst acc)) (hd : DenL K F H as acc)
    (it : ItD K J F H ds) (e : cLp tg tt b ds δ β = some (.ok os, β')) (hz : as.length + os.length ≤ sizeLine) (k : ∀ σ1 H1 acc1, ToD F D H H1 β' → VOk K F H1 δ σ1 → H1 D = some (.lst acc1) → DenL K F H1 (as ++ os) acc1 → Q σ1 H1) : cLoop J g (tVT K tt E0) tb σ H Q := by
  refine ⟨fun i m σ1 H1 => m + i = ds.length ∧ ∃ β1 acc1 as1 os1, ToD F D H H1 β1 ∧ VOk K F H1 δ σ1 ∧ H1 D = some (.lst acc1) ∧ DenL K F H1 as1 acc1 ∧ cLp tg tt b (ds.drop i) δ β1 = some (.ok os1, β') ∧ as1 ++ os1 = as ++ os,
    ⟨ds.length, by omega, β, acc, as, os, ⟨fun _ _ h _ _ => h, fr⟩, vk, hD, hd, e, rfl⟩, ?_⟩
  rintro i m σ1 H1 ⟨hm, β1, acc1, as1, os1, t1, vk1, hD1, hd1, e1, ea⟩
  have tr1 := t1.tr fr hA
  obtain ⟨iy, is⟩ := it F H1 β1 tr1 t1.fr i
  cases hi : ds[i]? with
  | none =>
    have hl : ds.length ≤ i := List.getElem?_eq_none_iff.mp hi
    rw [List.drop_eq_nil_of_le hl] at e1
    cases e1
    refine .inl ⟨is (by omega), k σ1 H1 acc1 t1 vk1 hD1 ?_⟩
    rw [← ea, List.append_nil]
    exact hd1
  | some d =>
    have hl : i < ds.length := (List.getElem?_eq_some_iff.mp hi).1
    obtain ⟨go, yl⟩ := iy d hi
    have ed : ds.drop i = d :: ds.drop (i + 1) := by
      rw [List.drop_eq_getElem_cons hl]
      congr 1
      exact Option.some.inj ((List.getElem?_eq_getElem hl).symm.trans hi)
    rw [ed] at e1
    unfold cLp at e1
    cases q : tg d δ with
    | none => rw [q] at e1; cases e1
    | some δ1 =>
      rw [q] at e1
      obtain ⟨c, β2, e2, e3⟩ := M.bind_inv e1
      obtain ⟨o, β3, e4, e5⟩ := M.bind_inv e3
      obtain ⟨os2, β4, e6, e7⟩ := M.bind_inv e5
      cases e7
      obtain ⟨s1, s2⟩ := sg _ _ _ q
      refine .inr ⟨go, fun σ9 H9 => ∃ acc9, ToD F D H H9 β3 ∧ VOk K F H9 δ σ9 ∧ H9 D = some (.lst acc9) ∧ DenL K F H9 (as1 ++ o) acc9, ?_, fun x H2 hy => ?_⟩
      · rintro σ9 H9 ⟨acc9, t9, vk9, hD9, hd9⟩
        exact ⟨m - 1, by omega, by omega, β3, acc9, as1 ++ o, os2, t9, vk9, hD9, hd9, e6, by rw [List.append_assoc]; exact ea⟩
      · obtain ⟨sm, dx⟩ := yl x H2 hy
        have t2 : To F H1 H2 β1 := t1.fr.same sm
        have tr2 := t2.tr t1.fr
        refine hg F H2 δ δ1 σ1 d x _ (vk1.tr tr2) dx q fun σ2 vk2 => ⟨F, δ1, β1, t2.fr, vk2, E0.run e2 fun c' H3 t3 ec => ?_⟩
        subst ec
        have hDn := hn
        have hD2 := sm _ _ hD1
        have hD3 := t3.kp D _ hD2 hn
        have tr3 := t3.tr t2.fr
        have d3 := DenL.tr (tr2.trans tr3) _ _ hd1
        have tt3 : ToD F D H H3 β2 := t1.trans ((t2.trans t3).toD D)
        have hle : as1.length + (o ++ os2).length ≤ sizeLine := by
          have := congrArg List.length ea
          simp only [List.length_append] at this ⊢
          omega
        cases c' with
        | true =>
          rw [if_pos rfl] at e4 ⊢
          refine hb F H3 δ1 β2 β3 σ2 acc1 as1 o _ t3.fr hA hn (vk2.tr tr3) hD3 d3 e4 (by rw [List.length_append] at hle; omega) fun σ4 H4 acc4 t4 vk4 hD4 hd4 => ?_
          exact ⟨acc4, tt3.trans t4, vk4.sub s1 s2, hD4, hd4⟩
        | false =>
          rw [if_neg Bool.false_ne_true] at e4 ⊢
          cases e4
          exact ⟨acc1, tt3, (vk2.tr tr3).sub s1 s2, hD3, by rw [List.append_nil]; exact d3⟩
noncomputable def cNx (it : Dn → M (List Pu.D)) (tg : TgF) (tt : Dn → M Bool) (b : Dn → M (List Pu.D)) : Dn → M (List Pu.D) := fun δ => M.bind (it δ) fun ds => cLp tg tt b ds δ
theorem lb_next {D : Addr} {it : Dn → M (List Pu.D)} {g : TG} {tg : TgF} {tt : Dn → M Bool} {tb : TB} {b : Dn → M (List Pu.D)} (hg : LiftG K g tg) (sg : SubG tg) (hb : LiftB K D tb b) : LiftB K D (cNext (iV K it E0) fun J => cLoop J g (tVT K tt E0) tb) (cNx it tg tt b) := fun F H δ β β' σ acc as os Q fr hA hn vk hD hd e hz k => by
  obtain ⟨ds, β1, e1, e2⟩ := M.bind_inv e
  refine ⟨F, δ, β, fr, vk, E0.run e1 fun J H1 t hJ => ?_⟩
  exact lb_loop hg sg hb t.fr hA hn (vk.tr (t.tr fr)) (t.kp D _ hD hn) (DenL.tr (t.tr fr) _ _ hd) hJ e2 hz fun σ1 H1 acc1 t1 => k σ1 H1 acc1 ((t.toD D).trans t1)
noncomputable def cSt (nv : Nat) (caps : List Nat) (δ : Dn) : Dn := List.replicate nv none ++ caps.map fun j => δ.getD j none
noncomputable def fComp (nv : Nat) (caps : List Nat) (it : Dn → M (List Pu.D)) (tg : TgF) (tt : Dn → M Bool) (b : Dn → M (List Pu.D)) : Dn → M Pu.D := fun δ β => match it δ β with
  | none => none
  | some (.error C, β1) => some (.error C, β1)
  | some (.ok ds, β1) => match cLp tg tt b ds (cSt nv caps δ) β1 with
    | some (.ok os, β2) => if os.length ≤ sizeLine then some (.ok (.lst os), β2) else none
    | _ => none
theorem cSt_ok {F : Fx} {H : Hp} {δ : Dn} {σ : St} {vars : List Str} {caps : List Nat} (vk : VOk K F H δ σ) : VOk K F H (cSt vars.length caps δ) (cStart vars caps σ) := by
  refine ⟨by simp [cSt, cStart], fun i d e => ?_⟩
  unfold cSt at e
  unfold cStart
  rw [List.getElem?_append] at e ⊢
  rw [List.length_replicate] at e ⊢
  by_cases hi : i < vars.length
  · rw [if_pos hi, List.getElem?_replicate, if_pos hi] at e
    cases e
  · rw [if_neg hi, List.getElem?_map] at e ⊢
    cases q : caps[i - vars.length]? with
    | none => rw [q] at e; cases e
    | some j =>
      rw [q] at e
      simp only [Option.map_some, Option.some.injEq] at e ⊢
      rw [List.getD_eq_getElem?_getD] at e
      cases z : δ[j]? with
      | none => rw [z] at e; cases e
      | some w =>
        rw [z] at e
        have ew : w = some d := e
        subst ew
        obtain ⟨v, h1, h2⟩ := vk.tell j d z
        exact ⟨v, by rw [List.getD_eq_getElem?_getD, h1]; rfl, h2⟩
theorem tComp_of {vars : List Str} {caps : List Nat} {it : Dn → M (List Pu.D)} {g : TG} {tg : TgF} {tt : Dn → M Bool} {tb : Addr → TB} {b : Dn → M (List Pu.D)} (hg : LiftG K g tg) (sg : SubG tg) (hb : ∀ D, LiftB K D (tb D) b) {σ : St} {H : Hp} {Q : VK} (h : tV K (fComp vars.length caps it tg tt b) E σ H Q) :
    tComp vars caps (iV K it E) (fun D J => cLoop J g (tVT K tt E0) (tb D)) σ H Q := by
  obtain ⟨F, δ, β, fr, vk, r, β', e, h⟩ := h
  unfold fComp at e
  refine ⟨F, δ, β, fr, vk, ?_⟩
  split at e
  · cases e
  · rename_i C β1 q
    cases e
    exact ⟨.error C, _, q, h⟩
  · rename_i ds β1 q
    split at e
    · rename_i os β2 q2
      split at e
      · rename_i hz
        cases e
        refine ⟨.ok ds, β1, q, fun J H1 t hJ D hD => ?_⟩
        have hDA : ¬ F.A D := t.fr.fresh hD
        have nb : ∀ b l, F.bg = some (b, l) → D ≠ b ∧ D ≠ l := fun b l z => ⟨fun w => hDA (w ▸ (fr.bgA b l z).1), fun w => hDA (w ▸ (fr.bgA b l z).2.1)⟩
        have t2 := t.fr.upd (.lst []) hD
        have fr2 : Fr ⟨fun a => F.A a ∨ a = D, F.bg⟩ (upd H1 D (.lst [])) β1 := by
          refine ⟨fun a ha z => ?_, fun b l z => let ⟨x, y, w⟩ := fr.bgA b l z; ⟨.inl x, .inl y, w⟩, t2.fr.bag⟩
          rcases ha with ha | ha
          · exact t2.fr.occ a ha z
          · subst ha; rw [upd_same] at z; cases z
        have tr2 : Tr F H1 ⟨fun a => F.A a ∨ a = D, F.bg⟩ (upd H1 D (.lst [])) := ⟨fun a ha hs z => by
          rcases z with z | z
          · exact ha z
          · subst z; exact hs hD, fun a o ha z => by rw [upd_ne (ne_of_none z hD)]; exact z, rfl⟩
        refine lb_loop (D := D) (as := []) (os := os) hg sg (hb D) fr2 (.inr rfl) nb (cSt_ok (vk.tr ((t.tr fr).trans tr2))) upd_same rfl (hJ.tr tr2) q2 (by simpa using hz) fun σ1 H2 acc1 t3 vk3 hD3 hd3 => ?_
        have tf : To F H1 H2 β' := by
          refine ⟨fun a o z n => t3.kp a o (by rw [upd_ne (ne_of_none z hD)]; exact z) (ne_of_none z hD) n, fun a ha z => t3.fr.occ a (Or.inl ha) z, fr.bgA, t3.fr.bag⟩
        refine h _ H2 (t.trans tf) ⟨D, acc1, rfl, ⟨hDA, .inl hD3⟩, DenL.tr (F := ⟨fun a => F.A a ∨ a = D, F.bg⟩) ⟨fun a ha _ z => ha (Or.inl z), fun a o _ z => z, rfl⟩ _ _ hd3⟩
      · cases e
    · cases e
end
end L2.Pu
namespace L2.Pu
open PySem PySem.Spec PyProof.Rows
inductive Sl where
  | sh (d : D) | own (ds : List D) | grd (rows : List (List D))
noncomputable abbrev Ds := List (Option Sl)
inductive Out where
  | nx (δ : Ds) | rt (d : D) | bk (δ : Ds) | ct (δ : Ds) | ex (C : Addr) (δ : Ds) | rg (rows : List (List D))
noncomputable abbrev G := Ds → Bg → Option (Out × Bg)
noncomputable abbrev Ow := Addr → Option Nat
noncomputable def FxB (B : Ow) (bg : Option (Addr × Addr)) : Fx := ⟨fun a => B a ≠ none, bg⟩
noncomputable def FxA (B : Ow) (bg : Option (Addr × Addr)) : Fx := ⟨fun a => B a = some 0 ∨ B a = some 1, bg⟩
noncomputable def RowL (K : PySem.W.Frag) (F : Fx) (H : Hp) (P : Addr → Prop) : List (List D) → List Addr → Prop
  | [], [] => True
  | ds :: rows, r :: rs => P r ∧ (∃ xs, H r = some (.lst xs) ∧ DenL K F H ds xs) ∧ RowL K F H P rows rs
  | _, _ => False
theorem RowL.tr {K : PySem.W.Frag} {F F2 : Fx} {H H2 : Hp} {P P2 : Addr → Prop} (t : Tr F H F2 H2) : ∀ {rows : List (List D)} {rs : List Addr}, RowL K F H P rows rs → (∀ r xs, r ∈ rs → P r → H r = some (.lst xs) → P2 r ∧ H2 r = some (.lst xs)) → RowL K F2 H2 P2 rows rs
  | [], [], _, _ => trivial
  | ds :: rows, r :: rs, h, f => by
    obtain ⟨h1, ⟨xs, h2, h3⟩, h4⟩ := h
    obtain ⟨p, q⟩ := f r xs List.mem_cons_self h1 h2
    exact ⟨p, ⟨xs, q, DenL.tr t _ _ h3⟩, RowL.tr t h4 fun r' xs' hr => f r' xs' (List.mem_cons_of_mem _ hr)⟩
  | [], _ :: _, h, _ => h.elim
  | _ :: _, [], h, _ => h.elim
theorem RowL.all {K : PySem.W.Frag} {F : Fx} {H : Hp} {P : Addr → Prop} : ∀ {rows : List (List D)} {rs : List Addr}, RowL K F H P rows rs → ∀ r ∈ rs, P r ∧ ∃ xs, H r = some (.lst xs)
  | [], [], _, r, hr => by cases hr
  | ds :: rows, r0 :: rs, h, r, hr => by
    obtain ⟨h1, ⟨xs, h2, h3⟩, h4⟩ := h
    rcases List.mem_cons.mp hr with rfl | hr
    · exact ⟨h1, xs, h2⟩
    · exact RowL.all h4 r hr
  | [], _ :: _, h, _, _ => h.elim
  | _ :: _, [], h, _, _ => h.elim
theorem RowL.den {K : PySem.W.Frag} {F F2 : Fx} {H : Hp} {P : Addr → Prop} (t : Tr F H F2 H) : ∀ {rows : List (List D)} {rs : List Addr}, RowL K F H P rows rs → (∀ r, r ∈ rs → P r → ¬ F2.A r) → DenL K F2 H (rows.map D.lst) (rs.map V.ref)
  | [], [], _, _ => rfl
  | ds :: rows, r :: rs, h, f => by
    obtain ⟨h1, ⟨xs, h2, h3⟩, h4⟩ := h
    exact DenL.cons ⟨r, xs, rfl, ⟨f r List.mem_cons_self h1, .inl h2⟩, DenL.tr t _ _ h3⟩ (RowL.den t h4 fun r' hr => f r' (List.mem_cons_of_mem _ hr))
  | [], _ :: _, h, _ => h.elim
  | _ :: _, [], h, _ => h.elim
theorem RowL.len {K : PySem.W.Frag} {F : Fx} {H : Hp} {P : Addr → Prop} : ∀ {rows : List (List D)} {rs : List Addr}, RowL K F H P rows rs → rows.length = rs.length
  | [], [], _ => rfl
  | ds :: rows, r :: rs, h => by simp [RowL.len h.2.2]
  | [], _ :: _, h => h.elim
  | _ :: _, [], h => h.elim
noncomputable def FreshG (K : PySem.W.Frag) (F : Fx) (H0 H : Hp) (rows : List (List D)) (v : V) : Prop := ∃ a rs, v = .ref a ∧ H0 a = none ∧ H a = some (.lst (rs.map V.ref)) ∧ (a :: rs).Nodup ∧ RowL K F H (fun r => H0 r = none) rows rs
noncomputable def DenS (K : PySem.W.Frag) (B : Ow) (bg : Option (Addr × Addr)) (H : Hp) (i : Nat) : Sl → V → Prop
  | .sh d, v => Den K (FxB B bg) H d v
  | .own ds, v => ∃ a xs, v = .ref a ∧ B a = some (i + 2) ∧ H a = some (.lst xs) ∧ DenL K (FxB B bg) H ds xs
  | .grd rows, v => ∃ a rs, v = .ref a ∧ B a = some (i + 2) ∧ H a = some (.lst (rs.map V.ref)) ∧ (a :: rs).Nodup ∧ RowL K (FxB B bg) H (fun r => B r = some (i + 2)) rows rs
structure SOk (K : PySem.W.Frag) (H₀ : Hp) (B : Ow) (bg : Option (Addr × Addr)) (H : Hp) (δ : Ds) (β : Bg) (σ : St) : Prop where
  fr : Fr (FxB B bg) H β
  bgt : ∀ b l, bg = some (b, l) → B b = some 1 ∧ B l = some 1
  len : δ.length = σ.length
  cov : ∀ a, H₀ a ≠ none → H a ≠ none
  new : ∀ a k, B a = some (k + 2) → H₀ a = none
  lst : ∀ a k, B a = some (k + 2) → ∃ xs, H a = some (.lst xs)
  tell : ∀ (i : Nat) (s : Sl), δ[i]? = some (some s) → ∃ v, σ[i]? = some (some v) ∧ DenS K B bg H i s v
structure Stp (B : Ow) (H : Hp) (B' : Ow) (H' : Hp) : Prop where
  kp : ∀ a o, H a = some o → (B a = none ∨ B a = some 0) → H' a = some o
  tg : ∀ a, B a = some 0 ∨ B a = some 1 → B' a = B a
  nn : ∀ a o, H a = some o → B a = none → B' a = none
  al : ∀ a, H a ≠ none → H' a ≠ none
theorem Stp.refl (B : Ow) (H : Hp) : Stp B H B H := ⟨fun _ _ h _ => h, fun _ _ => rfl, fun _ _ _ h => h, fun _ h => h⟩
theorem Stp.trans {B B1 B2 : Ow} {H H1 H2 : Hp} (a : Stp B H B1 H1) (b : Stp B1 H1 B2 H2) : Stp B H B2 H2 := by
  refine ⟨fun x o h n => b.kp x o (a.kp x o h n) ?_, fun x h => ?_, fun x o h n => b.nn x o (a.kp x o h (.inl n)) (a.nn x o h n), fun x h => b.al x (a.al x h)⟩
  · rcases n with n | n
    · exact .inl (a.nn x o h n)
    · exact .inr ((a.tg x (.inl n)).trans n)
  · have e := a.tg x h
    rw [← e] at h
    exact (b.tg x h).trans e
noncomputable def After (K : PySem.W.Frag) (H₀ : Hp) (bg : Option (Addr × Addr)) (E : St → XK) (Dn : Ends) (B : Ow) (H : Hp) (o : Out) (β' : Bg) : Prop := match o with
  | .nx δ' => ∀ σ' B' H', Stp B H B' H' → SOk K H₀ B' bg H' δ' β' σ' → Dn.nx σ' H'
  | .bk δ' => ∀ σ' B' H', Stp B H B' H' → SOk K H₀ B' bg H' δ' β' σ' → Dn.bk σ' H'
  | .ct δ' => ∀ σ' B' H', Stp B H B' H' → SOk K H₀ B' bg H' δ' β' σ' → Dn.ct σ' H'
  | .rt d => ∀ v B' H', Stp B H B' H' → Fr (FxB B' bg) H' β' → Den K (FxB B' bg) H' d v → Dn.rt v H'
  | .rg rows => ∀ v B' H', Stp B H B' H' → Fr (FxB B' bg) H' β' → FreshG K (FxB B' bg) H₀ H' rows v → Dn.rt v H'
  | .ex C δ' => ∀ σ' B' H', Stp B H B' H' → SOk K H₀ B' bg H' δ' β' σ' → E σ' (.ref C) none H'
theorem After.pre {K : PySem.W.Frag} {H₀ : Hp} {bg : Option (Addr × Addr)} {E : St → XK} {Dn : Ends} {B B1 : Ow} {H H1 : Hp} {o : Out} {β' : Bg} (s : Stp B H B1 H1) (h : After K H₀ bg E Dn B H o β') : After K H₀ bg E Dn B1 H1 o β' := by
  cases o with
  | nx δ => exact fun σ' B' H' t => h σ' B' H' (s.trans t)
  | bk δ => exact fun σ' B' H' t => h σ' B' H' (s.trans t)
  | ct δ => exact fun σ' B' H' t => h σ' B' H' (s.trans t)
  | rt d => exact fun v B' H' t => h v B' H' (s.trans t)
  | rg d => exact fun v B' H' t => h v B' H' (s.trans t)
  | ex C δ => exact fun σ' B' H' t => h σ' B' H' (s.trans t)
noncomputable def tG (K : PySem.W.Frag) (H₀ : Hp) (g : G) (E : St → XK) : TS := fun Dn σ H => ∃ B bg δ β o β', SOk K H₀ B bg H δ β σ ∧ g δ β = some (o, β') ∧ After K H₀ bg E Dn B H o β'
theorem _root_.L2.PS.imp {X : Cx} {e : Stmt} {t t' : TS} (h : PS X e t) (f : ∀ D σ H, t' D σ H → t D σ H) : PS X e t' := fun pins s σ H D I q => h pins s σ H D I (f D σ H q)
theorem _root_.L2.PSs.imp {X : Cx} {e : List Stmt} {t t' : TS} (h : PSs X e t) (f : ∀ D σ H, t' D σ H → t D σ H) : PSs X e t' := fun pins s σ H D I q => h pins s σ H D I (f D σ H q)
noncomputable def vw (δ : Ds) : Dn := δ.map fun s => match s with
  | some (.sh d) => some d
  | _ => none
noncomputable def vwA (δ : Ds) : Dn := δ.map fun s => match s with
  | some (.sh d) => some d
  | some (.own ds) => some (.lst ds)
  | some (.grd rows) => some (.lst (rows.map D.lst))
  | none => none
section
variable {K : PySem.W.Frag} {H₀ : Hp} {B : Ow} {bg : Option (Addr × Addr)} {H H' : Hp} {δ : Ds} {β β' : Bg} {σ : St}
theorem vw_at {i : Nat} {d : D} (e : (vw δ)[i]? = some (some d)) : δ[i]? = some (some (.sh d)) := by
  unfold vw at e
  rw [List.getElem?_map] at e
  cases q : δ[i]? with
  | none => rw [q] at e; cases e
  | some z =>
    rw [q] at e
    cases z with
    | none => cases e
    | some s =>
      cases s with
      | sh c => cases e; rfl
      | own ds => cases e
      | grd rows => cases e
theorem SOk.view (h : SOk K H₀ B bg H δ β σ) : VOk K (FxB B bg) H (vw δ) σ := ⟨by unfold vw; rw [List.length_map, h.len], fun i d e => h.tell i _ (vw_at e)⟩
theorem trA : Tr (FxB B bg) H (FxA B bg) H := ⟨fun a h _ z => by
  have h' : ¬ (B a ≠ none) := h
  rcases z with z | z
  · exact h' (by rw [z]; simp)
  · exact h' (by rw [z]; simp), fun _ _ _ h => h, rfl⟩
theorem SOk.frA (h : SOk K H₀ B bg H δ β σ) : Fr (FxA B bg) H β := ⟨fun a ha => h.fr.occ a (by
  show B a ≠ none
  rcases ha with z | z <;> rw [z] <;> simp), fun b l e => ⟨.inr (h.bgt b l e).1, .inr (h.bgt b l e).2, (h.fr.bgA b l e).2.2⟩, h.fr.bag⟩
theorem SOk.viewA (h : SOk K H₀ B bg H δ β σ) : VOk K (FxA B bg) H (vwA δ) σ := by
  refine ⟨by unfold vwA; rw [List.length_map, h.len], fun i d e => ?_⟩
  unfold vwA at e
  rw [List.getElem?_map] at e
  cases q : δ[i]? with
  | none => rw [q] at e; cases e
  | some z =>
    rw [q] at e
    cases z with
    | none => cases e
    | some s =>
      obtain ⟨v, h1, h2⟩ := h.tell i s q
      cases s with
      | sh c => cases e; exact ⟨v, h1, Den.tr trA _ _ h2⟩
      | own ds =>
        cases e
        obtain ⟨a, xs, e1, e2, e3, e4⟩ := h2
        refine ⟨v, h1, a, xs, e1, ⟨fun z => ?_, .inl e3⟩, DenL.tr trA _ _ e4⟩
        have z' : B a = some 0 ∨ B a = some 1 := z
        rw [e2] at z'
        rcases z' with z' | z' <;> cases z'
      | grd rows =>
        cases e
        obtain ⟨a, rs, e1, e2, e3, e4, e5⟩ := h2
        have na : ∀ c, B c = some (i + 2) → ¬ (FxA B bg).A c := fun c hc z => by
          have z' : B c = some 0 ∨ B c = some 1 := z
          rw [hc] at z'
          rcases z' with z' | z' <;> cases z'
        exact ⟨v, h1, a, _, e1, ⟨na a e2, .inl e3⟩, RowL.den trA e5 fun r _ hr => na r hr⟩
theorem SOk.to {F : Fx} (h : SOk K H₀ B bg H δ β σ) (hF : F.bg = bg) (t : To F H H' β') : SOk K H₀ B bg H' δ β' σ ∧ Stp B H B H' := by
  have nb : ∀ a, B a ≠ some 1 → ∀ b l, F.bg = some (b, l) → a ≠ b ∧ a ≠ l := fun a ha b l e => by
    rw [hF] at e
    exact ⟨fun z => ha (z ▸ (h.bgt b l e).1), fun z => ha (z ▸ (h.bgt b l e).2)⟩
  have kp : ∀ a o, H a = some o → B a ≠ some 1 → H' a = some o := fun a o e n => t.kp a o e (nb a n)
  have fr : Fr (FxB B bg) H' β' := ⟨fun a ha z => (by
    by_cases hb : B a = some 1
    · by_cases hh : ∃ b l, bg = some (b, l) ∧ (a = b ∨ a = l)
      · obtain ⟨b, l, e, q⟩ := hh
        obtain ⟨z1, z2⟩ := t.fr.bag b l (hF.trans e)
        rcases q with rfl | rfl
        · rw [z1] at z; cases z
        · rw [z2] at z; cases z
      · cases q : H a with
        | none => exact h.fr.occ a ha q
        | some o =>
          rw [t.kp a o q fun b l e => ⟨fun w => hh ⟨b, l, hF.symm.trans e, .inl w⟩, fun w => hh ⟨b, l, hF.symm.trans e, .inr w⟩⟩] at z
          cases z
    · cases q : H a with
      | none => exact h.fr.occ a ha q
      | some o => rw [kp a o q hb] at z; cases z), h.fr.bgA, fun b l e => t.fr.bag b l (hF.trans e)⟩
  have tr : Tr (FxB B bg) H (FxB B bg) H' := ⟨fun _ n _ => n, fun a o n e => kp a o e (fun z => n (by show B a ≠ none; rw [z]; simp)), rfl⟩
  have al : ∀ a, H a ≠ none → H' a ≠ none := fun a ha z => by
    by_cases hh : ∃ b l, bg = some (b, l) ∧ (a = b ∨ a = l)
    · obtain ⟨b, l, e, q⟩ := hh
      obtain ⟨z1, z2⟩ := t.fr.bag b l (hF.trans e)
      rcases q with rfl | rfl
      · rw [z1] at z; cases z
      · rw [z2] at z; cases z
    · cases q : H a with
      | none => exact ha q
      | some o =>
        rw [t.kp a o q fun b l e => ⟨fun w => hh ⟨b, l, hF.symm.trans e, .inl w⟩, fun w => hh ⟨b, l, hF.symm.trans e, .inr w⟩⟩] at z
        cases z
  refine ⟨⟨fr, h.bgt, h.len, fun a ha => al a (h.cov a ha), h.new, fun c k hc => (let ⟨xs, z⟩ := h.lst c k hc; ⟨xs, kp c _ z (by rw [hc]; intro z; cases z)⟩), fun i s e => ?_⟩, fun a o e n => kp a o e (by rcases n with n | n <;> rw [n] <;> simp), fun _ _ => rfl, fun _ _ _ n => n, al⟩
  obtain ⟨v, h1, h2⟩ := h.tell i s e
  refine ⟨v, h1, ?_⟩
  cases s with
  | sh c => exact Den.tr tr _ _ h2
  | own ds =>
    obtain ⟨a, xs, e1, e2, e3, e4⟩ := h2
    exact ⟨a, xs, e1, e2, kp a _ e3 (by rw [e2]; intro z; cases z), DenL.tr tr _ _ e4⟩
  | grd rows =>
    obtain ⟨a, rs, e1, e2, e3, e4, e5⟩ := h2
    exact ⟨a, rs, e1, e2, kp a _ e3 (by rw [e2]; intro z; cases z), e4, RowL.tr tr e5 fun r xs _ p q => ⟨p, kp r _ q (by rw [p]; intro z; cases z)⟩⟩
theorem SOk.set {i : Nat} {d : D} {v : V} (h : SOk K H₀ B bg H δ β σ) (hd : Den K (FxB B bg) H d v) : SOk K H₀ B bg H (δ.set i (some (.sh d))) β (σ.set i (some v)) := by
  refine ⟨h.fr, h.bgt, by rw [List.length_set, List.length_set, h.len], h.cov, h.new, h.lst, fun j c e => ?_⟩
  rw [List.getElem?_set] at e
  rw [List.getElem?_set]
  by_cases q : i = j
  · subst q
    rw [if_pos rfl] at e ⊢
    split at e
    · rename_i hl
      cases e
      rw [if_pos (by rw [← h.len]; exact hl)]
      exact ⟨v, rfl, hd⟩
    · cases e
  · rw [if_neg q] at e ⊢
    exact h.tell j c e
end
noncomputable def gNil : G := fun δ β => some (.nx δ, β)
noncomputable def gSeq (g h : G) : G := fun δ β => match g δ β with
  | some (.nx δ1, β1) => h δ1 β1
  | r => r
noncomputable def gSet (i : Nat) (f : Dn → M D) : G := fun δ β => match f (vw δ) β with
  | some (.ok d, β1) => some (.nx (δ.set i (some (.sh d))), β1)
  | some (.error C, β1) => some (.ex C δ, β1)
  | none => none
noncomputable def gSetF (i : Nat) (f : Dn → M D) : G := fun δ β => match f (vwA δ) β with
  | some (.ok d, β1) => if flatD d = true then some (.nx (δ.set i (some (.sh d))), β1) else none
  | some (.error C, β1) => some (.ex C δ, β1)
  | none => none
noncomputable def gExpr (f : Dn → M D) : G := fun δ β => match f (vwA δ) β with
  | some (.ok _, β1) => some (.nx δ, β1)
  | some (.error C, β1) => some (.ex C δ, β1)
  | none => none
noncomputable def gRet (f : Dn → M D) : G := fun δ β => match f (vwA δ) β with
  | some (.ok d, β1) => some (.rt d, β1)
  | some (.error C, β1) => some (.ex C δ, β1)
  | none => none
noncomputable def gIf (t : Dn → M Bool) (g h : G) : G := fun δ β => match t (vwA δ) β with
  | some (.ok true, β1) => g δ β1
  | some (.ok false, β1) => h δ β1
  | some (.error C, β1) => some (.ex C δ, β1)
  | none => none
section
variable {X : Cx} {E : St → XK} {e : Expr} {st : Stmt} {sts : List Stmt} {pos : Pos}
theorem s_nil : PSs X [] (tG X.K X.H₀ gNil E) := pss_nil.imp fun D σ H h_ => by
  obtain ⟨B, bg, δ, β, o, β', ok, e, h⟩ := h_
  cases e
  exact h σ B H (Stp.refl B H) ok
theorem s_cons {g h : G} (h1 : PS X st (tG X.K X.H₀ g E)) (h2 : PSs X sts (tG X.K X.H₀ h E)) : PSs X (st :: sts) (tG X.K X.H₀ (gSeq g h) E) := (pss_cons h1 h2).imp fun D σ H h_ => by
  obtain ⟨B, bg, δ, β, o, β', ok, e, q⟩ := h_
  unfold gSeq at e
  split at e
  · rename_i δ1 β1 e1
    refine ⟨B, bg, δ, β, .nx δ1, β1, ok, e1, fun σ' B' H' s ok' => ⟨B', bg, δ1, β1, o, β', ok', e, After.pre s ?_⟩⟩
    exact q
  · rename_i r hr
    refine ⟨B, bg, δ, β, o, β', ok, e, ?_⟩
    cases o with
    | nx δ1 => exact absurd e (hr δ1 β')
    | _ => exact q
theorem s_one {g : G} (h1 : PS X st (tG X.K X.H₀ g E)) : PSs X [st] (tG X.K X.H₀ g E) := pss_one h1
theorem s_set {i : Nat} {x : Str} {pos' : Pos} {f : Dn → M D} (h : PS X (.Assign [.Name x pos'] e pos) (tAsg (tV X.K f E) (gName i))) : PS X (.Assign [.Name x pos'] e pos) (tG X.K X.H₀ (gSet i f) E) := h.imp fun D σ H h_ => by
  obtain ⟨B, bg, δ, β, o, β', ok, e, q⟩ := h_
  refine ⟨FxB B bg, vw δ, β, ok.fr, ok.view, ?_⟩
  unfold gSet at e
  split at e
  · rename_i d β1 e1
    cases e
    refine ⟨.ok d, _, e1, fun v H' t hd => ?_⟩
    obtain ⟨ok2, s2⟩ := ok.to rfl t
    exact q _ B H' s2 (ok2.set hd)
  · rename_i C β1 e1
    cases e
    refine ⟨.error C, _, e1, fun H' t => ?_⟩
    obtain ⟨ok2, s2⟩ := ok.to rfl t
    exact q _ B H' s2 ok2
  · cases e
theorem flat_den {K : PySem.W.Frag} {F F2 : Fx} {H : Hp} {d : D} {v : V} (hf : flatD d = true) (h : Den K F H d v) : Den K F2 H d v := by
  cases d <;> first | exact h | cases hf
theorem s_setF {i : Nat} {x : Str} {pos' : Pos} {f : Dn → M D} (h : PS X (.Assign [.Name x pos'] e pos) (tAsg (tV X.K f E) (gName i))) : PS X (.Assign [.Name x pos'] e pos) (tG X.K X.H₀ (gSetF i f) E) := h.imp fun D σ H h_ => by
  obtain ⟨B, bg, δ, β, o, β', ok, e, q⟩ := h_
  refine ⟨FxA B bg, vwA δ, β, ok.frA, ok.viewA, ?_⟩
  unfold gSetF at e
  split at e
  · rename_i d β1 e1
    split at e
    · rename_i hf
      cases e
      refine ⟨.ok d, _, e1, fun v H' t hd => ?_⟩
      obtain ⟨ok2, s2⟩ := ok.to rfl t
      exact q _ B H' s2 (ok2.set (flat_den hf hd))
    · cases e
  · rename_i C β1 e1
    cases e
    refine ⟨.error C, _, e1, fun H' t => ?_⟩
    obtain ⟨ok2, s2⟩ := ok.to rfl t
    exact q _ B H' s2 ok2
  · cases e
theorem s_expr {f : Dn → M D} (h : PS X (.Expr e pos) (tDrop (tV X.K f E))) : PS X (.Expr e pos) (tG X.K X.H₀ (gExpr f) E) := h.imp fun D σ H h_ => by
  obtain ⟨B, bg, δ, β, o, β', ok, e, q⟩ := h_
  refine ⟨FxA B bg, vwA δ, β, ok.frA, ok.viewA, ?_⟩
  unfold gExpr at e
  split at e
  · rename_i d β1 e1
    cases e
    refine ⟨.ok d, _, e1, fun v H' t hd => ?_⟩
    obtain ⟨ok2, s2⟩ := ok.to rfl t
    exact q _ B H' s2 ok2
  · rename_i C β1 e1
    cases e
    refine ⟨.error C, _, e1, fun H' t => ?_⟩
    obtain ⟨ok2, s2⟩ := ok.to rfl t
    exact q _ B H' s2 ok2
  · cases e
noncomputable def letB (B : Ow) : Ow := fun a => if B a = some 0 ∨ B a = some 1 then B a else none
theorem letB_A {B : Ow} {bg : Option (Addr × Addr)} {H : Hp} : Tr (FxA B bg) H (FxB (letB B) bg) H := ⟨fun a h _ z => by
  have z' : letB B a ≠ none := z
  unfold letB at z'
  split at z'
  · rename_i q; exact h q
  · exact z' rfl, fun _ _ _ h => h, rfl⟩
theorem letB_stp {B : Ow} {H : Hp} : Stp B H (letB B) H := ⟨fun _ _ h _ => h, fun a h => by unfold letB; rw [if_pos h], fun a o h n => by unfold letB; rw [n]; simp, fun _ h => h⟩
theorem s_ret {f : Dn → M D} (h : PS X (.Return (some e) pos) (tRet (tV X.K f E))) : PS X (.Return (some e) pos) (tG X.K X.H₀ (gRet f) E) := h.imp fun D σ H h_ => by
  obtain ⟨B, bg, δ, β, o, β', ok, e, q⟩ := h_
  refine ⟨FxA B bg, vwA δ, β, ok.frA, ok.viewA, ?_⟩
  unfold gRet at e
  split at e
  · rename_i d β1 e1
    cases e
    refine ⟨.ok d, _, e1, fun v H' t hd => ?_⟩
    obtain ⟨ok2, s2⟩ := ok.to rfl t
    refine q _ (letB B) H' (s2.trans letB_stp) ⟨fun a ha => ok2.fr.occ a ?_, fun b l e => ?_, ok2.fr.bag⟩ (Den.tr letB_A _ _ hd)
    · have ha' : letB B a ≠ none := ha
      show B a ≠ none
      unfold letB at ha'
      split at ha'
      · exact ha'
      · exact absurd rfl ha'
    · refine ⟨?_, ?_, (ok2.fr.bgA b l e).2.2⟩
      · show letB B b ≠ none
        unfold letB
        rw [if_pos (.inr (ok.bgt b l e).1), (ok.bgt b l e).1]; simp
      · show letB B l ≠ none
        unfold letB
        rw [if_pos (.inr (ok.bgt b l e).2), (ok.bgt b l e).2]; simp
  · rename_i C β1 e1
    cases e
    refine ⟨.error C, _, e1, fun H' t => ?_⟩
    obtain ⟨ok2, s2⟩ := ok.to rfl t
    exact q _ B H' s2 ok2
  · cases e
theorem s_if {c : Expr} {a b : List Stmt} {t : Dn → M Bool} {g h : G} (hc : PT X c (tVT X.K t E)) (ha : PSs X a (tG X.K X.H₀ g E)) (hb : PSs X b (tG X.K X.H₀ h E)) : PS X (.If c a b pos) (tG X.K X.H₀ (gIf t g h) E) := (ps_if hc ha hb).imp fun D σ H h_ => by
  obtain ⟨B, bg, δ, β, o, β', ok, e, q⟩ := h_
  refine ⟨FxA B bg, vwA δ, β, ok.frA, ok.viewA, ?_⟩
  unfold gIf at e
  split at e
  · rename_i β1 e1
    refine ⟨.ok true, _, e1, fun v H' t hd => ?_⟩
    subst hd
    obtain ⟨ok2, s2⟩ := ok.to rfl t
    rw [if_pos rfl]
    exact ⟨B, bg, δ, β1, o, β', ok2, e, After.pre s2 q⟩
  · rename_i β1 e1
    refine ⟨.ok false, _, e1, fun v H' t hd => ?_⟩
    subst hd
    obtain ⟨ok2, s2⟩ := ok.to rfl t
    rw [if_neg Bool.false_ne_true]
    exact ⟨B, bg, δ, β1, o, β', ok2, e, After.pre s2 q⟩
  · rename_i C β1 e1
    cases e
    refine ⟨.error C, _, e1, fun H' t => ?_⟩
    obtain ⟨ok2, s2⟩ := ok.to rfl t
    exact q _ B H' s2 ok2
  · cases e
noncomputable abbrev TgS := D → Ds → Option Ds
noncomputable def LiftS (K : PySem.W.Frag) (g : TG) (tg : TgS) : Prop := ∀ (H₀ : Hp) (B : Ow) (bg : Option (Addr × Addr)) (H : Hp) (δ δ1 : Ds) (β : Bg) (σ : St) (d : D) (v : V) (Q : St → Hp → Prop), SOk K H₀ B bg H δ β σ → Den K (FxB B bg) H d v → tg d δ = some δ1 → (∀ σ1, SOk K H₀ B bg H δ1 β σ1 → Q σ1 H) → g v σ H Q
noncomputable def sgN (i : Nat) : TgS := fun d δ => some (δ.set i (some (.sh d)))
variable {K : PySem.W.Frag}
theorem ls_name {i : Nat} : LiftS K (gName i) (sgN i) := fun H₀ B bg H δ δ1 β σ d v Q ok hd e k => by
  cases e
  exact k _ (ok.set hd)
noncomputable def gPar (i j : Nat) (f : Dn → M (List D)) : G := fun δ β => match f (vw δ) β with
  | some (.ok [c, d], β1) => some (.nx ((δ.set i (some (.sh c))).set j (some (.sh d))), β1)
  | some (.error C, β1) => some (.ex C δ, β1)
  | _ => none
theorem s_par {i j : Nat} {f : Dn → M (List D)} (h : PS X st (tPar i j (tVA X.K f E))) : PS X st (tG X.K X.H₀ (gPar i j f) E) := h.imp fun D σ H h_ => by
  obtain ⟨B, bg, δ, β, o, β', ok, e, q⟩ := h_
  refine ⟨FxB B bg, vw δ, β, ok.fr, ok.view, ?_⟩
  unfold gPar at e
  split at e
  · rename_i c d β1 e1
    cases e
    refine ⟨.ok [c, d], _, e1, fun vs H' t hd => ?_⟩
    obtain ⟨ok2, s2⟩ := ok.to rfl t
    obtain ⟨v, w, rfl, h1, h2⟩ := DenL.two hd
    exact ⟨v, w, rfl, q _ B H' s2 ((ok2.set h1).set h2)⟩
  · rename_i C β1 e1
    cases e
    refine ⟨.error C, _, e1, fun H' t => ?_⟩
    obtain ⟨ok2, s2⟩ := ok.to rfl t
    exact q _ B H' s2 ok2
  · cases e
end
end L2.Pu
namespace L2.Pu
open PySem PySem.Spec PyProof.Rows
theorem Stp.tr {B B' : Ow} {H H' : Hp} {bg : Option (Addr × Addr)} (s : Stp B H B' H') : Tr (FxB B bg) H (FxB B' bg) H' :=
  ⟨fun a h hs z => by
    have hn : B a = none := by
      cases q : B a with
      | none => rfl
      | some t => exact absurd (show B a ≠ none by rw [q]; simp) h
    cases q : H a with
    | none => exact hs q
    | some o => exact z (s.nn a o q hn), fun a o h e => s.kp a o e (.inl (by
    cases q : B a with
    | none => rfl
    | some t => exact absurd (show B a ≠ none by rw [q]; simp) h)), rfl⟩
noncomputable def gWhile (t : Dn → M Bool) (g : G) : Nat → G
  | 0, _, _ => none
  | n + 1, δ, β => match t (vwA δ) β with
    | some (.ok true, β1) => match g δ β1 with
      | some (.nx δ1, β2) => gWhile t g n δ1 β2
      | some (.ct δ1, β2) => gWhile t g n δ1 β2
      | some (.bk δ1, β2) => some (.nx δ1, β2)
      | r => r
    | some (.ok false, β1) => some (.nx δ, β1)
    | some (.error C, β1) => some (.ex C δ, β1)
    | none => none
theorem gWhile_up {t : Dn → M Bool} {g : G} : ∀ {n : Nat} {δ : Ds} {β : Bg} {r : Out × Bg}, gWhile t g n δ β = some r → gWhile t g (n + 1) δ β = some r
  | 0, _, _, _, h => by cases h
  | n + 1, δ, β, r, h => by
    have e : ∀ m, gWhile t g (m + 1) δ β = match t (vwA δ) β with
        | some (.ok true, β1) => match g δ β1 with
          | some (.nx δ1, β2) => gWhile t g m δ1 β2
          | some (.ct δ1, β2) => gWhile t g m δ1 β2
          | some (.bk δ1, β2) => some (.nx δ1, β2)
          | r => r
        | some (.ok false, β1) => some (.nx δ, β1)
        | some (.error C, β1) => some (.ex C δ, β1)
        | none => none := fun m => rfl
    rw [e] at h ⊢
    cases q : t (vwA δ) β with
    | none => rw [q] at h; cases h
    | some z =>
      obtain ⟨b, β1⟩ := z
      rw [q] at h
      cases b with
      | error C => exact h
      | ok b =>
        cases b with
        | false => exact h
        | true =>
          dsimp only at h ⊢
          cases q2 : g δ β1 with
          | none => rw [q2] at h; cases h
          | some y =>
            obtain ⟨o, β2⟩ := y
            rw [q2] at h
            cases o with
            | nx δ1 => exact gWhile_up h
            | ct δ1 => exact gWhile_up h
            | bk δ1 => exact h
            | rt d => exact h
            | rg d => exact h
            | ex C δ1 => exact h
theorem gWhile_le {t : Dn → M Bool} {g : G} {n m : Nat} {δ : Ds} {β : Bg} {r : Out × Bg} (h : gWhile t g n δ β = some r) (l : n ≤ m) : gWhile t g m δ β = some r := by
  induction m with
  | zero => obtain rfl : n = 0 := by omega
            exact h
  | succ m ih =>
    by_cases q : n = m + 1
    · subst q; exact h
    · exact gWhile_up (ih (by omega))
open Classical in
noncomputable def gWh (t : Dn → M Bool) (g : G) : G := fun δ β => if h : ∃ r n, gWhile t g n δ β = some r then some h.choose else none
theorem gWh_of {t : Dn → M Bool} {g : G} {n : Nat} {δ : Ds} {β : Bg} {r : Out × Bg} (h : gWhile t g n δ β = some r) : gWh t g δ β = some r := by
  have hx : ∃ r n, gWhile t g n δ β = some r := ⟨r, n, h⟩
  unfold gWh
  rw [dif_pos hx]
  obtain ⟨m, hm⟩ := hx.choose_spec
  have h1 := gWhile_le h (Nat.le_max_left n m)
  have h2 := gWhile_le hm (Nat.le_max_right n m)
  rw [h1] at h2
  rw [← Option.some.inj h2]
theorem gWh_inv {t : Dn → M Bool} {g : G} {δ : Ds} {β : Bg} {r : Out × Bg} (h : gWh t g δ β = some r) : ∃ n, gWhile t g n δ β = some r := by
  unfold gWh at h
  split at h
  · rename_i hx
    obtain ⟨m, hm⟩ := hx.choose_spec
    cases h
    exact ⟨m, hm⟩
  · cases h
section
variable {X : Cx} {E : St → XK} {e : Expr} {st : Stmt} {sts : List Stmt} {pos : Pos} {K : PySem.W.Frag}
theorem s_while {c : Expr} {body : List Stmt} {t : Dn → M Bool} {g : G} (hp : PassesOwn (model X.prog X.w) X.A X.env X.xe) (hc : PT X c (tVT X.K t E)) (hb : PSs X body (tG X.K X.H₀ g E)) : PS X (.While c body [] pos) (tG X.K X.H₀ (gWh t g) E) := (ps_while hp hc hb).imp fun D σ H h_ => by
  obtain ⟨B, bg, δ, β, o, β', ok, e, q⟩ := h_
  obtain ⟨n, e⟩ := gWh_inv e
  refine ⟨fun m σ1 H1 => ∃ B1 δ1 β1, Stp B H B1 H1 ∧ SOk X.K X.H₀ B1 bg H1 δ1 β1 σ1 ∧ gWhile t g m δ1 β1 = some (o, β'), ⟨n, B, δ, β, Stp.refl B H, ok, e⟩, ?_⟩
  rintro m σ1 H1 ⟨B1, δ1, β1, s1, ok1, e1⟩
  refine ⟨FxA B1 bg, vwA δ1, β1, ok1.frA, ok1.viewA, ?_⟩
  cases m with
  | zero => cases e1
  | succ m =>
    unfold gWhile at e1
    split at e1
    · rename_i β2 e2
      refine ⟨.ok true, _, e2, fun v H2 tt hd => ?_⟩
      subst hd
      obtain ⟨ok2, s2⟩ := ok1.to rfl tt
      rw [if_pos rfl]
      refine ⟨fun σ3 H3 => ∃ B3 δ3 β3, Stp B H B3 H3 ∧ SOk X.K X.H₀ B3 bg H3 δ3 β3 σ3 ∧ gWhile t g m δ3 β3 = some (o, β'), fun σ3 H3 ⟨B3, δ3, β3, z⟩ => ⟨m, Nat.lt_succ_self m, B3, δ3, β3, z⟩, ?_⟩
      split at e1
      · rename_i δ3 β3 e3
        exact ⟨B1, bg, δ1, β2, .nx δ3, β3, ok2, e3, fun σ4 B4 H4 s4 ok4 => ⟨B4, δ3, β3, s1.trans (s2.trans s4), ok4, e1⟩⟩
      · rename_i δ3 β3 e3
        exact ⟨B1, bg, δ1, β2, .ct δ3, β3, ok2, e3, fun σ4 B4 H4 s4 ok4 => ⟨B4, δ3, β3, s1.trans (s2.trans s4), ok4, e1⟩⟩
      · rename_i δ3 β3 e3
        cases e1
        exact ⟨B1, bg, δ1, β2, .bk δ3, _, ok2, e3, fun σ4 B4 H4 s4 ok4 => q σ4 B4 H4 (s1.trans (s2.trans s4)) ok4⟩
      · rename_i x h1 h2 h3
        refine ⟨B1, bg, δ1, β2, o, β', ok2, e1, ?_⟩
        have q2 := After.pre (s1.trans s2) q
        cases o with
        | nx δ3 => exact absurd e1 (h1 _ _)
        | ct δ3 => exact absurd e1 (h2 _ _)
        | bk δ3 => exact absurd e1 (h3 _ _)
        | rt d => exact q2
        | rg d => exact q2
        | ex C δ3 => exact q2
    · rename_i β2 e2
      cases e1
      refine ⟨.ok false, _, e2, fun v H2 tt hd => ?_⟩
      subst hd
      obtain ⟨ok2, s2⟩ := ok1.to rfl tt
      rw [if_neg Bool.false_ne_true]
      exact q _ B1 H2 (s1.trans s2) ok2
    · rename_i C β2 e2
      cases e1
      refine ⟨.error C, _, e2, fun H2 tt => ?_⟩
      obtain ⟨ok2, s2⟩ := ok1.to rfl tt
      exact q _ B1 H2 (s1.trans s2) ok2
    · cases e1
noncomputable def gLp (tg : TgS) (g : G) : List D → G
  | [], δ, β => some (.nx δ, β)
  | d :: ds, δ, β => match tg d δ with
    | none => none
    | some δ1 => match g δ1 β with
      | some (.nx δ2, β2) => gLp tg g ds δ2 β2
      | some (.ct δ2, β2) => gLp tg g ds δ2 β2
      | some (.bk δ2, β2) => some (.nx δ2, β2)
      | r => r
noncomputable def gFor (it : Dn → M (List D)) (tg : TgS) (g : G) : G := fun δ β => match it (vw δ) β with
  | some (.ok ds, β1) => gLp tg g ds δ β1
  | some (.error C, β1) => some (.ex C δ, β1)
  | none => none
theorem s_for {tgt iter : Expr} {body : List Stmt} {it : Dn → M (List D)} {tgg : TG} {tg : TgS} {g : G} (l : LiftS X.K tgg tg) (h : PS X (.For tgt iter body [] pos) (tFor (iV X.K it E) tgg (tG X.K X.H₀ g E))) : PS X (.For tgt iter body [] pos) (tG X.K X.H₀ (gFor it tg g) E) := h.imp fun D σ H h_ => by
  obtain ⟨B, bg, δ, β, o, β', ok, e, q⟩ := h_
  refine ⟨FxB B bg, vw δ, β, ok.fr, ok.view, ?_⟩
  unfold gFor at e
  split at e
  · rename_i ds β1 e1
    refine ⟨.ok ds, _, e1, fun J H1 t hJ => ?_⟩
    obtain ⟨ok1, s1⟩ := ok.to rfl t
    refine ⟨fun i m σ2 H2 => m + i = ds.length ∧ ∃ B2 δ2 β2, Stp B H1 B2 H2 ∧ SOk X.K X.H₀ B2 bg H2 δ2 β2 σ2 ∧ gLp tg g (ds.drop i) δ2 β2 = some (o, β'), ⟨ds.length, by omega, B, δ, β1, Stp.refl B H1, ok1, e⟩, ?_⟩
    rintro i m σ2 H2 ⟨hm, B2, δ2, β2, s2, ok2, e2⟩
    obtain ⟨iy, is⟩ := hJ (FxB B2 bg) H2 β2 s2.tr ok2.fr i
    cases hi : ds[i]? with
    | none =>
      have hl : ds.length ≤ i := List.getElem?_eq_none_iff.mp hi
      rw [List.drop_eq_nil_of_le hl] at e2
      cases e2
      exact .inl ⟨is (by omega), q σ2 B2 H2 (s1.trans s2) ok2⟩
    | some d =>
      have hl : i < ds.length := (List.getElem?_eq_some_iff.mp hi).1
      obtain ⟨go, yl⟩ := iy d hi
      have ed : ds.drop i = d :: ds.drop (i + 1) := by
        rw [List.drop_eq_getElem_cons hl]
        congr 1
        exact Option.some.inj ((List.getElem?_eq_getElem hl).symm.trans hi)
      rw [ed] at e2
      unfold gLp at e2
      split at e2
      · cases e2
      · rename_i δ3 e3
        refine .inr ⟨go, fun σ9 H9 => ∃ B9 δ9 β9, Stp B H1 B9 H9 ∧ SOk X.K X.H₀ B9 bg H9 δ9 β9 σ9 ∧ gLp tg g (ds.drop (i + 1)) δ9 β9 = some (o, β'), fun σ9 H9 ⟨B9, δ9, β9, z1, z2, z3⟩ => ⟨m - 1, by omega, by omega, B9, δ9, β9, z1, z2, z3⟩, fun x H3 hy => ?_⟩
        obtain ⟨sm, dx⟩ := yl x H3 hy
        obtain ⟨ok3, s3⟩ := ok2.to rfl (ok2.fr.same sm)
        refine l X.H₀ B2 bg H3 δ2 δ3 β2 σ2 d x _ ok3 dx e3 fun σ4 ok4 => ?_
        have s23 := s2.trans s3
        split at e2
        · rename_i δ5 β5 e5
          exact ⟨B2, bg, δ3, β2, .nx δ5, β5, ok4, e5, fun σ6 B6 H6 s6 ok6 => ⟨B6, δ5, β5, s23.trans s6, ok6, e2⟩⟩
        · rename_i δ5 β5 e5
          exact ⟨B2, bg, δ3, β2, .ct δ5, β5, ok4, e5, fun σ6 B6 H6 s6 ok6 => ⟨B6, δ5, β5, s23.trans s6, ok6, e2⟩⟩
        · rename_i δ5 β5 e5
          cases e2
          exact ⟨B2, bg, δ3, β2, .bk δ5, _, ok4, e5, fun σ6 B6 H6 s6 ok6 => q σ6 B6 H6 (s1.trans (s23.trans s6)) ok6⟩
        · rename_i x h1 h2 h3
          refine ⟨B2, bg, δ3, β2, o, β', ok4, e2, ?_⟩
          have q2 := After.pre (s1.trans s23) q
          cases o with
          | nx δ5 => exact absurd e2 (h1 _ _)
          | ct δ5 => exact absurd e2 (h2 _ _)
          | bk δ5 => exact absurd e2 (h3 _ _)
          | rt d => exact q2
          | rg d => exact q2
          | ex C δ5 => exact q2
  · rename_i C β1 e1
    cases e
    refine ⟨.error C, _, e1, fun H' t => ?_⟩
    obtain ⟨ok2, s2⟩ := ok.to rfl t
    exact q _ B H' s2 ok2
  · cases e
theorem SOk.writeOwn {H₀ : Hp} {B : Ow} {bg : Option (Addr × Addr)} {H : Hp} {δ : Ds} {β : Bg} {σ : St} {i : Nat} {a : Addr} {ds : List D} {xs ys : List V} (ok : SOk K H₀ B bg H δ β σ) (hs : σ[i]? = some (some (.ref a))) (hB : B a = some (i + 2)) (ha : H a = some (.lst ys)) (hd : DenL K (FxB B bg) H ds xs) :
    SOk K H₀ B bg (upd H a (.lst xs)) (δ.set i (some (.own ds))) β σ ∧ Stp B H B (upd H a (.lst xs)) := by
  have stp : Stp B H B (upd H a (.lst xs)) := by
    refine ⟨fun c o h n => ?_, fun _ _ => rfl, fun _ _ _ n => n, fun c hc => ?_⟩
    · rw [upd_ne]
      · exact h
      · intro z; subst z; rw [hB] at n; rcases n with n | n <;> cases n
    · by_cases z : c = a
      · subst z; rw [upd_same]; simp
      · rw [upd_ne z]; exact hc
  have tr : Tr (FxB B bg) H (FxB B bg) (upd H a (.lst xs)) := stp.tr
  refine ⟨⟨⟨fun c hc z => ?_, ok.fr.bgA, fun b l e => ?_⟩, ok.bgt, by rw [List.length_set, ok.len], fun a ha => stp.al a (ok.cov a ha), ok.new, fun c k hc => (by
    by_cases z : c = a
    · subst z; exact ⟨xs, upd_same⟩
    · rw [upd_ne z]; exact ok.lst c k hc), fun j s e => ?_⟩, stp⟩
  · by_cases q : c = a
    · subst q; rw [upd_same] at z; cases z
    · rw [upd_ne q] at z; exact ok.fr.occ c hc z
  · obtain ⟨b1, b2⟩ := ok.bgt b l e
    rw [upd_ne (fun z => by subst z; rw [hB] at b1; cases b1), upd_ne (fun z => by subst z; rw [hB] at b2; cases b2)]
    exact ok.fr.bag b l e
  · rw [List.getElem?_set] at e
    by_cases q : i = j
    · subst q
      rw [if_pos rfl] at e
      split at e
      · cases e
        exact ⟨_, hs, a, xs, rfl, hB, upd_same, DenL.tr tr _ _ hd⟩
      · cases e
    · rw [if_neg q] at e
      obtain ⟨v, h1, h2⟩ := ok.tell j s e
      refine ⟨v, h1, ?_⟩
      cases s with
      | sh d => exact Den.tr tr _ _ h2
      | own cs =>
        obtain ⟨c, zs, e1, e2, e3, e4⟩ := h2
        have na : c ≠ a := fun z => by subst z; rw [hB] at e2; cases e2; exact q rfl
        exact ⟨c, zs, e1, e2, by rw [upd_ne na]; exact e3, DenL.tr tr _ _ e4⟩
      | grd rows =>
        obtain ⟨c, rs, e1, e2, e3, e4, e5⟩ := h2
        have na : ∀ c, B c = some (j + 2) → c ≠ a := fun c e2 z => by subst z; rw [hB] at e2; cases e2; exact q rfl
        exact ⟨c, rs, e1, e2, by rw [upd_ne (na c e2)]; exact e3, e4, RowL.tr tr e5 fun r zs _ p q => ⟨p, by rw [upd_ne (na r p)]; exact q⟩⟩
theorem getD_some {α : Type} {δ : List (Option α)} {i : Nat} {s : α} (h : δ.getD i none = some s) : δ[i]? = some (some s) := by
  rw [List.getD_eq_getElem?_getD] at h
  cases z : δ[i]? with
  | none => rw [z] at h; cases h
  | some w => rw [z] at h; simp at h; rw [h]
noncomputable def stD (n : Nat) (ds : List D) : Ds := ds.map (fun d => some (Sl.sh d)) ++ List.replicate (n - ds.length) none
noncomputable def bodyM (n : Nat) (g : G) : List D → M D := fun ds β => match g (stD n ds) β with
  | some (.rt d, β') => some (.ok d, β')
  | some (.nx _, β') => some (.ok .non, β')
  | some (.ex C _, β') => some (.error C, β')
  | _ => none
theorem stD_ok {F : Fx} {H : Hp} {β : Bg} {ds : List D} {vs : List V} {N : List Str} (fr : Fr F H β) (hd : DenL K F H ds vs) : ∃ B, SOk K H B F.bg H (stD N.length ds) β (start N vs) ∧ (∀ a, F.A a → B a = some 0 ∨ B a = some 1) ∧ (∀ a, B a = some 1 → ∃ b l, F.bg = some (b, l) ∧ (a = b ∨ a = l)) ∧ (∀ a, B a ≠ none → F.A a) := by
  classical
  refine ⟨fun a => if F.A a then (if ∃ b l, F.bg = some (b, l) ∧ (a = b ∨ a = l) then some 1 else some 0) else none, ⟨⟨fun a ha => fr.occ a ?_, fun b l e => ?_, fr.bag⟩, fun b l e => ?_, ?_, fun _ h => h, fun c k hc => (by
    have hc' : (if F.A c then (if ∃ b l, F.bg = some (b, l) ∧ (c = b ∨ c = l) then some 1 else some 0) else none) = some (k + 2) := hc
    split at hc'
    · split at hc' <;> cases hc'
    · cases hc'), fun c k hc => (by
    have hc' : (if F.A c then (if ∃ b l, F.bg = some (b, l) ∧ (c = b ∨ c = l) then some 1 else some 0) else none) = some (k + 2) := hc
    split at hc'
    · split at hc' <;> cases hc'
    · cases hc'), fun i s e => ?_⟩, fun a ha => ?_, fun a ha => ?_, fun a ha => ?_⟩
  · have ha' : (if F.A a then (if ∃ b l, F.bg = some (b, l) ∧ (a = b ∨ a = l) then some 1 else some 0) else none) ≠ (none : Option Nat) := ha
    split at ha'
    · assumption
    · exact absurd rfl ha'
  · obtain ⟨a1, a2, a3⟩ := fr.bgA b l e
    refine ⟨?_, ?_, a3⟩
    · show (if F.A b then (if ∃ b' l, F.bg = some (b', l) ∧ (b = b' ∨ b = l) then some 1 else some 0) else none) ≠ (none : Option Nat)
      rw [if_pos a1]; split <;> simp
    · show (if F.A l then (if ∃ b' l', F.bg = some (b', l') ∧ (l = b' ∨ l = l') then some 1 else some 0) else none) ≠ (none : Option Nat)
      rw [if_pos a2]; split <;> simp
  · obtain ⟨a1, a2, a3⟩ := fr.bgA b l e
    exact ⟨by rw [if_pos a1, if_pos ⟨b, l, e, .inl rfl⟩], by rw [if_pos a2, if_pos ⟨b, l, e, .inr rfl⟩]⟩
  · unfold stD start
    rw [List.length_append, List.length_append, List.length_map, List.length_map, List.length_replicate, List.length_replicate, hd.length]
  · unfold stD at e
    unfold start
    rw [List.getElem?_append, List.length_map] at e
    rw [List.getElem?_append, List.length_map, ← hd.length]
    by_cases hi : i < ds.length
    · rw [if_pos hi, List.getElem?_map] at e
      rw [if_pos hi, List.getElem?_map]
      cases z : ds[i]? with
      | none => rw [z] at e; cases e
      | some d =>
        rw [z] at e
        cases e
        obtain ⟨v, h1, h2⟩ := hd.get z
        refine ⟨v, by rw [h1]; rfl, ?_⟩
        have tr0 : Tr F H (FxB (fun a => if F.A a then (if ∃ b l, F.bg = some (b, l) ∧ (a = b ∨ a = l) then some 1 else some 0) else none) F.bg) H := by
          refine ⟨fun a ha _ z' => ?_, fun _ _ _ h => h, rfl⟩
          have z2 : (if F.A a then (if ∃ b l, F.bg = some (b, l) ∧ (a = b ∨ a = l) then some 1 else some 0) else none) ≠ (none : Option Nat) := z'
          rw [if_neg ha] at z2
          exact z2 rfl
        exact Den.tr tr0 _ _ h2
    · rw [if_neg hi, List.getElem?_replicate] at e
      split at e <;> cases e
  · simp only [if_pos ha]
    split
    · exact .inr rfl
    · exact .inl rfl
  · simp only at ha
    split at ha
    · split at ha
      · assumption
      · cases ha
    · cases ha
  · simp only at ha
    split at ha
    · assumption
    · exact absurd rfl ha
end
section
variable {P : Program} {w : World} {K : PySem.W.Frag} {mg : Str → Option Value} {base : Heap}
theorem fn_pure {x qual : Str} {st : Stmt} {f : Addr} {fd : FuncData} {N ps : List Str} {k : Nat} {g : G} (F : FunD K x qual st f fd) (S : FnScope N ps (defScope st))
    (hbody : ∀ (cdv : Value) (A : Around) (outer : List Env) (s : Shared) (H : Hp) (E : XK), Room k (A.deeper (envOfC qual (defScope st) s.heap.objs.size f cdv)) →
      PSs (cxOf (CXE P w) P w K mg base N qual (defScope st) f cdv A outer s H E) (defBody st) (tG K H g (fun _ => E))) : FnOk P w K mg base (CXE P w) (k + 1) f fd ps (spF K ps.length (bodyM N.length g)) := by
  refine F.okE S (fun vs H Q E h => h.1) fun cdv A outer s H vs Q E hr h => ?_
  obtain ⟨hl, F0, ds, β, fr, hd, r, β', e, h⟩ := h
  refine ⟨_, hbody cdv A outer s H E hr, ?_⟩
  obtain ⟨B, ok, hA, h1, hn⟩ := stD_ok (N := N) fr hd
  have toF : ∀ {B' : Ow} {H' : Hp}, Stp B H B' H' → Fr (FxB B' F0.bg) H' β' → To F0 H H' β' ∧ Tr (FxB B' F0.bg) H' F0 H' := fun {B' H'} s fr' => by
    have hs : ∀ a, F0.A a → B' a ≠ none := fun a ha => by
      rw [s.tg a (hA a ha)]
      rcases hA a ha with z | z <;> rw [z] <;> simp
    refine ⟨⟨fun a o ha n => s.kp a o ha ?_, fun a ha => fr'.occ a (hs a ha), fun b l e => fr.bgA b l e, fr'.bag⟩, fun a ha _ z => ha (hs a z), fun _ _ _ h => h, rfl⟩
    cases q : B a with
    | none => exact .inl rfl
    | some t =>
      have := hA a (hn a (by rw [q]; simp))
      rcases this with z | z
      · rw [q] at z; exact .inr z
      · obtain ⟨b, l, e, w⟩ := h1 a z
        obtain ⟨n1, n2⟩ := n b l e
        rcases w with w | w
        · exact absurd w n1
        · exact absurd w n2
  unfold bodyM at e
  split at e
  · rename_i d β1 e1
    cases e
    refine ⟨B, F0.bg, stD N.length ds, β, .rt d, β', ok, e1, fun v B' H' s fr' hv => ?_⟩
    obtain ⟨t1, t2⟩ := toF s fr'
    exact h v H' t1 (Den.tr t2 _ _ hv)
  · rename_i δ' β1 e1
    cases e
    refine ⟨B, F0.bg, stD N.length ds, β, .nx δ', β', ok, e1, fun σ' B' H' s ok' => ?_⟩
    obtain ⟨t1, t2⟩ := toF s ok'.fr
    exact h _ H' t1 rfl
  · rename_i C δ' β1 e1
    cases e
    refine ⟨B, F0.bg, stD N.length ds, β, .ex C δ', β', ok, e1, fun σ' B' H' s ok' => ?_⟩
    obtain ⟨t1, t2⟩ := toF s ok'.fr
    exact h H' t1
  · cases e
end
end L2.Pu
namespace L2.Pu
open PySem PySem.Spec PyProof.Rows
section
variable {prog : Program} {w : World} {A : Around}
end
end L2.Pu
namespace L2.Pu
open PySem PySem.Spec PyProof.Rows
section
variable {prog : Program} {w : World} {A : Around} {E : Value → Shared → Prop} {s : Shared}
end
end L2.Pu
namespace L2.Pu
open PySem PySem.Spec PyProof.Rows
section
variable {prog : Program} {w : World} {A : Around} {E : Value → Shared → Prop} {s : Shared}
end
section
variable {X : Cx} {pins : List (Addr × Obj)} {σ : St} {H : Hp} {s : Shared}
end
end L2.Pu
namespace L2.Pu
open PySem PySem.Spec PyProof.Rows
section
variable {X : Cx} {pins : List (Addr × Obj)} {σ : St} {H : Hp} {s : Shared}
end
end L2.Pu
namespace L2.Pu
open PySem PySem.Spec PyProof.Rows
section
variable {X : Cx} {E : St → XK} {K : PySem.W.Frag}
end
end L2.Pu
namespace L2.Pu
open PySem PySem.Spec PyProof.Rows
noncomputable def jV (K : PySem.W.Frag) (f : Dn → M Unit) (c : Nat) (E : St → XK) : TJ := fun σ H n Q => n + c ≤ sizeLine ∧ ∃ F δ β, Fr F H β ∧ VOk K F H δ σ ∧ run (fun _ (_ : Unit) (m : Nat) => m ≤ n + c) F E σ (f δ) H Q β
theorem _root_.L2.PJ.imp {X : Cx} {es : List Expr} {t t' : TJ} (h : PJ X es t) (f : ∀ σ H n Q, t' σ H n Q → t σ H n Q) : PJ X es t' := fun pins s σ H acc Q I hz hq => h pins s σ H acc Q I hz (f σ H _ _ hq)
noncomputable def jfNil : Dn → M Unit := fun _ => M.ret ()
noncomputable def jfInt (f : Dn → M D) (g : Dn → M Unit) : Dn → M Unit := fun δ => M.bind (f δ) fun d => match d with
  | .int i => if i.natAbs.log2 < 1920 then g δ else M.fail
  | _ => M.fail
section
variable {X : Cx} {E : St → XK} {es : List Expr} {K : PySem.W.Frag}
theorem j_nil : PJ X [] (jV X.K jfNil 0 E) := pj_nil.imp fun σ H n Q h_ => by obtain ⟨_, F, δ, β, fr, vk, r⟩ := h_; exact run.ret fr r (Nat.le_refl _)
theorem j_str {x : Str} {j : Nat} {p : Pos} {g : Dn → M Unit} {c : Nat} (h : PJ X es (jV X.K g c E)) (he : evalEach (.Constant (.str x) j p :: es) X.env = eval (.Constant (.str x) j p) X.env :: evalEach es X.env := by rfl) : PJ X (.Constant (.str x) j p :: es) (jV X.K g (x.length + c) E) :=
  (pj_str h he).imp fun σ H n Q h_ => by
    obtain ⟨hz, F, δ, β, fr, vk, r, β', e, k⟩ := h_
    exact ⟨by omega, by omega, F, δ, β, fr, vk, r, β', e, by
      cases r with
      | ok u => exact fun m H' t hm => k m H' t (by omega)
      | error C => exact k⟩
theorem j_int {v : Expr} {p : Pos} {f : Dn → M D} {g : Dn → M Unit} {c : Nat} (hv : PE X v (tV X.K f E)) (h : PJ X es (jV X.K g c E)) (he : evalEach (.FormattedValue v (-1) none p :: es) X.env = eval (.FormattedValue v (-1) none p) X.env :: evalEach es X.env := by rfl) : PJ X (.FormattedValue v (-1) none p :: es) (jV X.K (jfInt f g) (1921 + c) E) :=
  (pj_int hv h he).imp fun σ H n Q ⟨hz, F, δ, β, fr, vk, r⟩ => ⟨F, δ, β, fr, vk, (run.bind (R := Den X.K F) r).mono fun v H1 h_ => by
    obtain ⟨d, β1, t, hd, r1⟩ := h_
    cases d with
    | int i =>
      by_cases q : i.natAbs.log2 < 1920
      · simp only [if_pos q] at r1
        refine ⟨i, hd, q, by omega, fun m hm => ⟨by omega, F, δ, β1, t.fr, vk.tr (t.tr fr), ?_⟩⟩
        obtain ⟨rr, β', e, k⟩ := r1
        refine ⟨rr, β', e, ?_⟩
        cases rr with
        | ok u => exact fun m' H' t' hm' => k m' H' t' (by omega)
        | error C => exact k
      · simp only [if_neg q] at r1
        obtain ⟨rr, β', e, k⟩ := r1
        cases e
    | _ => obtain ⟨rr, β', e, k⟩ := r1; cases e⟩
noncomputable def fFstr (f : Dn → M Unit) : Dn → M D := fun δ => M.bind (f δ) fun _ => M.ret .txt
theorem v_fstr {v1 v2 : Expr} {rest : List Expr} {pos : Pos} {f : Dn → M Unit} {c : Nat} (h : PJ X (v1 :: v2 :: rest) (jV X.K f c E)) (hc : c ≤ sizeLine) : PE X (.JoinedStr (v1 :: v2 :: rest) pos) (tV X.K (fFstr f) E) :=
  (pe_fstr h).imp fun σ H Q h_ => ex6 h_ fun F δ β fr vk r => ⟨by omega, F, δ, β, fr, vk, (run.bind (R := fun _ (_ : Unit) (m : Nat) => m ≤ 0 + c) r).mono fun m H1 h_ => ex5 h_ fun d β1 t hd r1 => ⟨by omega, fun z hz => run.ret t.fr r1 ⟨z, rfl⟩⟩⟩
noncomputable def spExc (C : Addr) (n : Nat) : Sp := fun vs H Q _ => ∃ (x : Addr) (rest : List V), vs = .ref x :: rest ∧ rest.length = n ∧ H x = some (excH C x none) ∧
  ∀ (dx : Option Addr) (H' : Hp), H' x = some (excH C x dx) → (∀ b o, H b = some o → b ≠ x → H' b = some o) → Q .non H'
noncomputable def gRaise (C : Addr) (f : Dn → M (List D)) : G := fun δ β => match f (vwA δ) β with
  | some (.ok _, β1) => some (.ex C δ, β1)
  | some (.error C', β1) => some (.ex C' δ, β1)
  | none => none
end
section
variable {P : Program} {w : World} {K : PySem.W.Frag} {mg : Str → Option Value} {base : Heap} {N : List Str} {qual : Str} {scope : Scope} {f : Addr} {cd : Value} {A : Around} {outer : List Env} {s : Shared} {H : Hp} {E : XK}
theorem s_raise {e : Expr} {pos : Pos} {C : Addr} {n : Nat} {g : Dn → M (List D)} {E' : St → XK} (xc : XC K C) (hn : ∀ δ β r β', g δ β = some (.ok r, β') → r.length = n) (hz : n ≤ sizeLine)
    (h : PS (cxOf (CXE P w) P w K mg base N qual scope f cd A outer s H E) (.Raise (some e) none pos) (tRaise H K E (tExc C (spExc C n) [] E' (tVA K g (fun _ => E))))) :
    PS (cxOf (CXE P w) P w K mg base N qual scope f cd A outer s H E) (.Raise (some e) none pos) (tG K H (gRaise C g) (fun _ => E)) := h.imp fun D σ H1 h_ => by
  obtain ⟨B, bg, δ, β, o, β', ok, e, q⟩ := h_
  refine ⟨FxA B bg, vwA δ, β, ok.frA, ok.viewA, ?_⟩
  unfold gRaise at e
  split at e
  · rename_i ds β1 e1
    cases e
    refine ⟨.ok ds, _, e1, fun vs H2 t hd => ?_⟩
    obtain ⟨ok2, s2⟩ := ok.to rfl t
    have hl : vs.length = n := by rw [← hd.length]; exact hn _ _ _ _ e1
    refine ⟨by rw [hl]; exact hz, fun x hx => ⟨x, vs ++ [], rfl, by rw [List.append_nil]; exact hl, upd_same, fun dx H' h1 h2 => ⟨rfl, x, C, dx, rfl, h1, ?_, xc, ?_⟩⟩⟩
    · cases q0 : H x with
      | none => rfl
      | some o => exact absurd hx (ok2.cov x (by rw [q0]; simp))
    · have sm : ∀ b o, H2 b = some o → delH H' x b = some o := fun b o eb => by
        have hb : b ≠ x := ne_of_none eb hx
        rw [delH_ne hb]
        exact h2 b o (by rw [upd_ne hb]; exact eb) hb
      obtain ⟨ok3, s3⟩ := ok2.to rfl (ok2.fr.same sm)
      exact q σ B _ (s2.trans s3) ok3
  · rename_i C' β1 e1
    cases e
    refine ⟨.error C', _, e1, fun H' t => ?_⟩
    obtain ⟨ok2, s2⟩ := ok.to rfl t
    exact q _ B H' s2 ok2
  · cases e
end
section
variable {X : Cx} {E : St → XK} {K : PySem.W.Frag}
noncomputable abbrev Gh := Addr → G
noncomputable def hNo : Gh := fun _ _ _ => none
noncomputable def hOne (K : PySem.W.Frag) (Dc : Addr) (g : G) (r : Gh) : Gh := fun C δ β => match PySem.W.exmOne K (.ref C) (.ref Dc) with
  | some true => g δ β
  | some false => r C δ β
  | none => none
noncomputable def tH (K : PySem.W.Frag) (H₀ : Hp) (g : Gh) (E : St → XK) : Addr → TS := fun C => tG K H₀ (g C) E
theorem _root_.L2.PHd.imp {X : Cx} {hs : List ExceptHandler} {t t' : Addr → TS} (h : PHd X hs t) (f : ∀ C D σ H, t' C D σ H → t C D σ H) : PHd X hs t' := fun pins σ H0 H s0 s E x C D I F q => h pins σ H0 H s0 s E x C D I F (f C D σ H q)
theorem h_nil : PHd X [] (tH X.K X.H₀ hNo E) := phd_nil.imp fun C D σ H h_ => by obtain ⟨B, bg, δ, β, o, β', ok, e, q⟩ := h_; cases e
theorem h_cons {cn : Str} {np pos : Pos} {b0 : Stmt} {suite : List Stmt} {rest : List ExceptHandler} {Dc : Addr} {g : G} {r : Gh} (hg : Gl X cn) (hm : X.mg cn = some (.ref Dc)) (hs : ∀ A, PSs (X.inA A) (b0 :: suite) (tG X.K X.H₀ g E)) (hr : PHd X rest (tH X.K X.H₀ r E)) (hd : (cn == ("__debug__" : Str)) = false := by decide) :
    PHd X (.ExceptHandler (some (.Name cn np)) none (b0 :: suite) pos :: rest) (tH X.K X.H₀ (hOne X.K Dc g r) E) := (phd_cons hg hm hs hr hd).imp fun C D σ H h_ => by
  obtain ⟨B, bg, δ, β, o, β', ok, e, q⟩ := h_
  unfold hOne at e
  split at e
  · rename_i eq
    exact ⟨true, eq, by rw [if_pos rfl]; exact ⟨B, bg, δ, β, o, β', ok, e, q⟩⟩
  · rename_i eq
    exact ⟨false, eq, by rw [if_neg Bool.false_ne_true]; exact ⟨B, bg, δ, β, o, β', ok, e, q⟩⟩
  · cases e
noncomputable def gTry (g : G) (h : Gh) : G := fun δ β => match g δ β with
  | some (.ex C δ1, β1) => h C δ1 β1
  | r => r
theorem s_try {body : List Stmt} {h0 : ExceptHandler} {hs : List ExceptHandler} {pos : Pos} {g : G} {h : Gh} (hst : X.stack = X.env :: X.outer) (hfr : X.env.frame = some X.env.locals)
    (hb : ∀ (E' : St → XK) (pn : List (Addr × Obj)) (xe : Value → Shared → Prop), Passes (CXE X.prog X.w) (X.inTry pn xe) E' → PSs (X.inTry pn xe) body (tG X.K X.H₀ g E')) (hh : PHd X (h0 :: hs) (tH X.K X.H₀ h E)) : PS X (.Try body (h0 :: hs) [] [] pos) (tG X.K X.H₀ (gTry g h) E) := (ps_try hst hfr hb hh).imp fun D σ H h_ => by
  obtain ⟨B, bg, δ, β, o, β', ok, e, q⟩ := h_
  refine ⟨fun σ' v _ H' => ∃ C, v = .ref C ∧ tH X.K X.H₀ h E C D σ' H', fun σ' C dx H' ⟨C', e', z⟩ => by cases e'; exact z, ?_⟩
  unfold gTry at e
  split at e
  · rename_i C δ1 β1 e1
    exact ⟨B, bg, δ, β, .ex C δ1, β1, ok, e1, fun σ' B' H' s ok' => ⟨C, rfl, B', bg, δ1, β1, o, β', ok', e, After.pre s q⟩⟩
  · rename_i r hr
    refine ⟨B, bg, δ, β, o, β', ok, e, ?_⟩
    cases o with
    | ex C δ1 => exact absurd e (hr C δ1 β')
    | _ => exact q
end
end L2.Pu
namespace L2.Pu
open PySem PySem.Spec PyProof.Rows
section
variable {X : Cx} {E : St → XK} {K : PySem.W.Frag} {elt target iter : Expr} {ifs : List Expr} {rest : List Comprehension} {scope : Scope} {pos : Pos} {Nc vars : List Str} {caps : List Nat} {g : TG} {tb : Addr → TB}
theorem f_none : PIfs X [] (tVT X.K (fun _ => M.ret true) E0) := fun pins s σ H Q I h_ => by obtain ⟨F, δ, β, fr, vk, r⟩ := h_; exact pifs_nil pins s σ H Q I (run.ret fr r rfl)
theorem f_one {c : Expr} {t : Dn → M Bool} (hc : PT X c (tVT X.K t E0)) : PIfs X [c] (tVT X.K t E0) := pifs_one hc
theorem v_comp {it : Dn → M (List D)} {tg : TgF} {tt : Dn → M Bool} {b : Dn → M (List D)} (hc : X.calm = true) (S : CmpScope X scope Nc vars caps) (hi : PI X target iter (iV X.K it E))
    (hb : ∀ (cl : List (Str × Addr)) (C : Addr) (fp : List Addr) (s : Shared) (H : Hp), PG (cxComp X Nc scope cl C fp s H) target g ∧ PIfs (cxComp X Nc scope cl C fp s H) ifs (tVT X.K tt E0) ∧ ∀ D, PB (cxComp X Nc scope cl C fp s H) elt (⟨target, iter, ifs, 0⟩ :: rest) scope pos 0 D (tb D))
    (lg : LiftG X.K g tg) (sg : SubG tg) (lb : ∀ D, LiftB X.K D (tb D) b) (hs : ∀ x, foldedSetIterable iter X.env x = pure x := by intro _; rfl) : PE X (.ListComp elt (⟨target, iter, ifs, 0⟩ :: rest) scope pos) (tV X.K (fComp vars.length caps it tg tt b) E) :=
  (pe_comp hc S hi hb hs).imp fun σ H Q h => tComp_of lg sg lb h
noncomputable def negD : D → Option D
  | .int i => some (.int (-i))
  | _ => none
theorem l_neg : Lift1 K (rU fun i => .int (-i)) negD := fun F H β Q d1 d v1 fr h1 e k => by
  cases d1 <;> first | (cases e; exact ⟨_, h1, k _ H (To.refl fr) rfl⟩) | cases e
end
noncomputable def Bg.ok (β : Bg) : Prop := β.cells ≠ [] ∧ β.cells.length ≤ 64 ∧ (∀ c ∈ β.cells, 0 ≤ c) ∧ 0 ≤ β.j
noncomputable def Bg.pos (β : Bg) : Nat := (β.i % (β.cells.length : Int)).toNat
noncomputable def Bg.cell (β : Bg) : Int := β.cells.getD β.pos 0
noncomputable def Bg.nxt (β : Bg) : Int := (β.j + β.cell % 2147483629 + 77) * 48271 % 2147483629
noncomputable def pullR (β : Bg) (lot : Int) : Int := if 10 ^ 18 ≤ β.cell then β.cell % lot else β.nxt / 64 % lot
noncomputable def pullB (β : Bg) (lot : Int) : Bg := if 10 ^ 18 ≤ β.cell then ⟨β.cells.set β.pos (β.cell / lot), β.i, β.j⟩ else ⟨β.cells, β.i + 1, β.nxt⟩
open Classical in
noncomputable def mPull : List D → M D := fun ds β => match ds with
  | [.bag, .int lot] => if β.ok ∧ 0 < lot ∧ lot < 1073741824 then some (Except.ok (D.int (pullR β lot)), pullB β lot) else none
  | _ => none
theorem mPull_eq {β : Bg} {lot : Int} (h : β.ok) (h0 : 0 < lot) (h1 : lot < 1073741824) : mPull [.bag, .int lot] β = some (.ok (.int (pullR β lot)), pullB β lot) := by
  unfold mPull
  exact if_pos ⟨h, h0, h1⟩
theorem mPull_inv {ds : List D} {β : Bg} {r : Except Addr D} {β' : Bg} (h : mPull ds β = some (r, β')) : ∃ lot, ds = [.bag, .int lot] ∧ β.ok ∧ 0 < lot ∧ lot < 1073741824 ∧ r = .ok (.int (pullR β lot)) ∧ β' = pullB β lot := by
  unfold mPull at h
  split at h
  · split at h
    · rename_i lot q
      cases h
      exact ⟨lot, rfl, q.1, q.2.1, q.2.2, rfl, rfl⟩
    · cases h
  · cases h
theorem Bg.ok.at {β : Bg} (h : β.ok) : β.pos < β.cells.length ∧ β.cells[β.pos]? = some β.cell ∧ 0 ≤ β.cell ∧ β.i % (β.cells.length : Int) = (β.pos : Int) := by
  obtain ⟨c1, c2, c3, c4⟩ := id h
  have hp : 0 < β.cells.length := List.length_pos_iff.mpr c1
  have a1 : 0 ≤ β.i % (β.cells.length : Int) := Int.emod_nonneg _ (by omega)
  have a2 : β.i % (β.cells.length : Int) < β.cells.length := Int.emod_lt_of_pos _ (by omega)
  have hk : β.pos < β.cells.length := by unfold Bg.pos; omega
  have e : β.cell = β.cells[β.pos] := by
    unfold Bg.cell
    rw [List.getD_eq_getElem?_getD, List.getElem?_eq_getElem hk]; rfl
  refine ⟨hk, by rw [e]; exact List.getElem?_eq_getElem hk, by rw [e]; exact c3 _ (List.getElem_mem hk), ?_⟩
  unfold Bg.pos; omega
theorem pull_ok {β : Bg} {lot : Int} (h : β.ok) (h0 : 0 < lot) : 0 ≤ pullR β lot ∧ pullR β lot < lot ∧ (pullB β lot).ok := by
  obtain ⟨hk, _, hc, _⟩ := h.at
  obtain ⟨c1, c2, c3, c4⟩ := id h
  unfold pullR pullB
  split
  · refine ⟨Int.emod_nonneg _ (by omega), Int.emod_lt_of_pos _ h0, ?_, by rw [List.length_set]; exact c2, fun c hc' => ?_, c4⟩
    · intro z
      have := congrArg List.length z
      rw [List.length_set] at this
      exact c1 (List.length_eq_zero_iff.mp this)
    · rcases List.mem_or_eq_of_mem_set hc' with hc' | rfl
      · exact c3 c hc'
      · exact Int.ediv_nonneg hc (by omega)
  · exact ⟨Int.emod_nonneg _ (by omega), Int.emod_lt_of_pos _ h0, c1, c2, c3, Int.emod_nonneg _ (by decide)⟩
end L2.Pu
namespace L2
open PySem PySem.Spec PyProof.Rows
end L2
namespace L2.Pu
open PySem PySem.Spec PyProof.Rows
section
variable {X : Cx} {E : St → XK} {K : PySem.W.Frag}
noncomputable def CstOk (K : PySem.W.Frag) (mg : Str → Option Value) (x : Str) (d : D) : Prop := ∃ u v, mg x = some u ∧ RelV v u ∧ ∀ F H, Den K F H d v
theorem v_glob {x : Str} {d : D} {pos : Pos} (c : CstOk X.K X.mg x d) (hg : Gl X x := by rfl) (hd : (x == ("__debug__" : Str)) = false := by decide) : PE X (.Name x pos) (tV X.K (fC d) E) := by
  obtain ⟨u, v, h1, h2, h3⟩ := c
  exact v_c (pe_glob hg h1 h2 hd) h3
theorem v_globD {x : Str} {d : D} {pos : Pos} (c : CstOk X.K X.mg x d) (hg : Gl X x := by rfl) (hd : (x == ("__debug__" : Str)) = false := by decide) : PE X (.Name x pos) (tV X.K (fC d) E) := v_glob c hg hd
mutual
noncomputable def toP : D → Option PyData
  | .non => some .none
  | .bl b => some (.bool b)
  | .int i => some (.int i)
  | .str x => some (.str x)
  | .lst xs => (toPs xs).map PyData.list
  | .tup xs => (toPs xs).map PyData.tuple
  | _ => none
noncomputable def toPs : List D → Option (List PyData)
  | [] => some []
  | x :: xs => match toP x, toPs xs with
    | some p, some ps => some (p :: ps)
    | _, _ => none
end
mutual
theorem reads_D {F : Fx} {pins : List (Addr × Obj)} {σ : St} {H : Hp} {s : Shared} (I : Inv X pins σ H s) : ∀ (d : D) (v : V) (u : Value) (p : PyData), Den X.K F H d v → toP d = some p → RelV v u → ∃ as, Reads s.heap u p as
  | .non, v, u, p, h, e, r => by cases e; cases h.non; cases r; exact ⟨_, .none⟩
  | .bl b, v, u, p, h, e, r => by cases e; cases h.bl; cases r; exact ⟨_, .bool b⟩
  | .int i, v, u, p, h, e, r => by cases e; cases h.int; obtain ⟨t, rfl⟩ := r; exact ⟨_, .int i t⟩
  | .str x, v, u, p, h, e, r => by cases e; cases h.str; obtain ⟨t, rfl⟩ := r; exact ⟨_, .str x t⟩
  | .lst xs, v, u, p, h, e, r => by
    unfold toP at e
    cases q : toPs xs with
    | none => rw [q] at e; cases e
    | some ps =>
      rw [q] at e; cases e
      obtain ⟨a, ys, rfl, sq, dl⟩ := Den.sqL h
      cases r
      obtain ⟨its, rv, pl, _⟩ := I.list sq
      obtain ⟨as, ra⟩ := reads_L I xs ys its ps dl q rv
      obtain ⟨o, ho, hc, n, hd⟩ := pl.isList
      exact ⟨_, .list ho hc hd (by simpa using ra)⟩
  | .tup xs, v, u, p, h, e, r => by
    unfold toP at e
    cases q : toPs xs with
    | none => rw [q] at e; cases e
    | some ps =>
      rw [q] at e; cases e
      obtain ⟨a, ys, rfl, sq, dl⟩ := Den.sqT h
      cases r
      obtain ⟨its, rv, pl, _⟩ := I.tuple sq
      obtain ⟨as, ra⟩ := reads_L I xs ys its ps dl q rv
      obtain ⟨o, ho, hc, n, hd⟩ := pl
      exact ⟨_, .tuple ho hc hd (by simpa using ra)⟩
  | .ty _, _, _, _, _, e, _ => by cases e
  | .txt, _, _, _, _, e, _ => by cases e
  | .scr _, _, _, _, _, e, _ => by cases e
  | .obj _ _ _, _, _, _, _, e, _ => by cases e
  | .bag, _, _, _, _, e, _ => by cases e
  | .adr _, _, _, _, _, e, _ => by cases e
theorem reads_L {F : Fx} {pins : List (Addr × Obj)} {σ : St} {H : Hp} {s : Shared} (I : Inv X pins σ H s) : ∀ (ds : List D) (vs : List V) (us : List Value) (ps : List PyData), DenL X.K F H ds vs → toPs ds = some ps → Vals vs us → ∃ as, ReadsAll s.heap us ps as
  | [], vs, us, ps, h, e, r => by
    have q : vs = [] := h
    subst q
    cases e
    cases r
    exact ⟨_, .nil⟩
  | d :: ds, vs, us, ps, h, e, r => by
    obtain ⟨x, xr, rfl, h1, h2⟩ := h
    unfold toPs at e
    split at e
    · rename_i p pr e1 e2
      cases e
      cases r with
      | cons r1 r2 =>
        obtain ⟨as, z1⟩ := reads_D I d x _ p h1 e1 r1
        obtain ⟨bs, z2⟩ := reads_L I ds xr _ pr h2 e2 r2
        exact ⟨_, .cons z1 z2⟩
    · cases e
end
noncomputable def cmpD (a b : D) : Option Bool := match toP a, toP b with
  | some p, some q => if (SeqAt.shaped p && SeqAt.shaped q) = true then some (PyData.eqv p q) else none
  | _, _ => none
noncomputable def eqAD (a b : D) : Option D := match eqS a b with
  | some c => some (.bl c)
  | none => (cmpD a b).map D.bl
noncomputable def neAD (a b : D) : Option D := match eqS a b with
  | some c => some (.bl (!c))
  | none => (cmpD a b).map fun c => D.bl (!c)
noncomputable def rEqD (X : Cx) (g : Bool → Bool) : R2 := fun x y H Q => ∃ (F : Fx) (a b : D) (c : Bool), Den X.K F H a x ∧ Den X.K F H b y ∧ cmpD a b = some c ∧ Q (.bl (g c)) H
theorem cmpD_some {a b : D} {c : Bool} (h : cmpD a b = some c) : ∃ p q, toP a = some p ∧ toP b = some q ∧ SeqAt.shaped p = true ∧ SeqAt.shaped q = true ∧ c = PyData.eqv p q := by
  unfold cmpD at h
  split at h
  · rename_i p q e1 e2
    split at h
    · rename_i hs
      rw [Bool.and_eq_true] at hs
      cases h
      exact ⟨p, q, e1, e2, hs.1, hs.2, rfl⟩
    · cases h
  · cases h
theorem op_eqD {k : Nat} (hr : Room k X.A) : OpR X (compareOp .Eq) (rEqD X id) := by
  intro pins s σ H x y v u Q I rx ry h
  obtain ⟨F, a, b, c, d1, d2, e, q⟩ := h
  obtain ⟨p, p', e1, e2, s1, s2, rfl⟩ := cmpD_some e
  obtain ⟨as, r1⟩ := reads_D I a x v p d1 e1 rx
  obtain ⟨bs, r2⟩ := reads_D I b y u p' d2 e2 ry
  exact eq_dataH r1 r2 s1 s2 hr.units ⟨.bl _, H, I, rfl, q⟩
theorem op_neD {k : Nat} (hr : Room k X.A) : OpR X (compareOp .NotEq) (rEqD X not) := by
  intro pins s σ H x y v u Q I rx ry h
  obtain ⟨F, a, b, c, d1, d2, e, q⟩ := h
  obtain ⟨p, p', e1, e2, s1, s2, rfl⟩ := cmpD_some e
  obtain ⟨as, r1⟩ := reads_D I a x v p d1 e1 rx
  obtain ⟨bs, r2⟩ := reads_D I b y u p' d2 e2 ry
  exact ne_dataH r1 r2 s1 s2 hr.units ⟨.bl _, H, I, rfl, q⟩
theorem op_eqA {k : Nat} (hr : Room k X.A) : OpR X (compareOp .Eq) (fun x y H Q => rEq x y H Q ∨ rEqD X id x y H Q) := op_eq.or (op_eqD hr)
theorem op_neA {k : Nat} (hr : Room k X.A) : OpR X (compareOp .NotEq) (fun x y H Q => rNe x y H Q ∨ rEqD X not x y H Q) := op_ne.or (op_neD hr)
theorem l_eqA : Lift2 X.K (fun x y H Q => rEq x y H Q ∨ rEqD X id x y H Q) eqAD := fun F H β Q d1 d2 d v1 v2 fr h1 h2 e k => by
  unfold eqAD at e
  split at e
  · rename_i c q
    cases e
    obtain ⟨s1, s2⟩ := eqS_of q h1 h2
    exact .inl ⟨s1, by rw [s2]; exact k _ H (To.refl fr) rfl⟩
  · cases q : cmpD d1 d2 with
    | none => rw [q] at e; cases e
    | some c => rw [q] at e; cases e; exact .inr ⟨F, d1, d2, c, h1, h2, q, k _ H (To.refl fr) rfl⟩
theorem l_neA : Lift2 X.K (fun x y H Q => rNe x y H Q ∨ rEqD X not x y H Q) neAD := fun F H β Q d1 d2 d v1 v2 fr h1 h2 e k => by
  unfold neAD at e
  split at e
  · rename_i c q
    cases e
    obtain ⟨s1, s2⟩ := eqS_of q h1 h2
    exact .inl ⟨s1, by rw [s2]; exact k _ H (To.refl fr) rfl⟩
  · cases q : cmpD d1 d2 with
    | none => rw [q] at e; cases e
    | some c => rw [q] at e; cases e; exact .inr ⟨F, d1, d2, c, h1, h2, q, k _ H (To.refl fr) rfl⟩
theorem e_eqI (i j : Int) : eqAD (.int i) (.int j) = some (.bl (decide (i = j))) := rfl
theorem e_neI (i j : Int) : neAD (.int i) (.int j) = some (.bl (!decide (i = j))) := rfl
noncomputable abbrev sumAD := sumD
theorem call_sumA (hc : X.calm = true) : CallR X (.builtin "sum") (fun xs H Q => ∃ (a : Addr) (ns : List Int), xs = [.ref a] ∧ SqL X.K H a (ns.map V.int) ∧ Q (.int ns.sum) H) := call_sumL hc
theorem l_sumA : LiftA K (fun xs H Q => ∃ (a : Addr) (ns : List Int), xs = [.ref a] ∧ SqL K H a (ns.map V.int) ∧ Q (.int ns.sum) H) sumAD := l_sum
noncomputable def BagAt (H : Hp) (b l : Addr) : Prop := ∃ (cells : List Int) (i j : Int), H b = some (.lst [.ref l, .int i, .int j]) ∧ H l = some (.lst (cells.map V.int)) ∧ cells ≠ [] ∧ cells.length ≤ 64 ∧ (∀ c ∈ cells, 0 ≤ c) ∧ 0 ≤ j
theorem ixN_nat {n k : Nat} (h : k < n) : ixN n (k : Int) = some k := by
  unfold ixN
  rw [if_pos (by omega), if_pos (by omega)]
  simp
theorem cut63 (ns : List Int) : ∃ ms : List Int, cutV (ns.map V.int) none (some 63) = ms.map V.int ∧ ms.length ≤ 63 := by
  refine ⟨(ns.drop (HT.sIx ns.length 0 none)).take (HT.sIx ns.length ns.length (some 63) - HT.sIx ns.length 0 none), ?_, ?_⟩
  · unfold cutV
    rw [List.length_map, List.map_take, List.map_drop]
  · rw [List.length_take]
    have : HT.sIx ns.length ns.length (some 63) ≤ 63 := by
      unfold HT.sIx
      simp
      omega
    omega
noncomputable def spBag (K : PySem.W.Frag) : Sp := fun vs H Q _ => ∃ (a : Addr) (ns : List Int), vs = [.ref a] ∧ SqL K H a (ns.map V.int) ∧ ∀ (b l : Addr) (H' : Hp), H b = none → H l = none → BagAt H' b l → Same H H' → Q (.ref b) H'
noncomputable def spLaw (K : PySem.W.Frag) : Sp := fun vs H Q _ => ∃ (a : Addr) (ns : List Int), vs = [.ref a] ∧ SqL K H a (ns.map V.int) ∧ ns.length ≤ 63 ∧ ∀ H', Q (.bl true) H'
theorem bag_sok {H₀ H : Hp} {b l : Addr} {a : Addr} {n : Nat} (sm : Same H₀ H) (hb : H₀ b = none) (hl : H₀ l = none) (B : BagAt H b l) : ∃ β, β.ok ∧ SOk K H₀ (fun c => if c = b ∨ c = l then some 1 else none) (some (b, l)) H (none :: some (.sh .bag) :: List.replicate n none) β (some (.ref a) :: some (.ref b) :: List.replicate n none) := by
  obtain ⟨cells, i, j, e1, e2, h1, h2, h3, h4⟩ := B
  have nbl : b ≠ l := ne_of e1 e2 (by
    intro z
    cases cells with
    | nil => exact h1 rfl
    | cons c r => simp at z)
  refine ⟨⟨cells, i, j⟩, ⟨h1, h2, h3, h4⟩, ⟨⟨fun c hc => ?_, fun b' l' e => ?_, fun b' l' e => ?_⟩, fun b' l' e => ?_, by simp, fun c hc => ?_, fun c k hc => (by
    have hc' : (if c = b ∨ c = l then some 1 else none) = some (k + 2) := hc
    split at hc' <;> cases hc'), fun c k hc => (by
    have hc' : (if c = b ∨ c = l then some 1 else none) = some (k + 2) := hc
    split at hc' <;> cases hc'), fun k s e => ?_⟩⟩
  · have hc' : (if c = b ∨ c = l then some 1 else none) ≠ (none : Option Nat) := hc
    split at hc'
    · rename_i q
      rcases q with rfl | rfl
      · rw [e1]; simp
      · rw [e2]; simp
    · exact absurd rfl hc'
  · cases e
    refine ⟨?_, ?_, nbl⟩
    · show (if b = b ∨ b = l then some 1 else none) ≠ (none : Option Nat)
      rw [if_pos (.inl rfl)]; simp
    · show (if l = b ∨ l = l then some 1 else none) ≠ (none : Option Nat)
      rw [if_pos (.inr rfl)]; simp
  · cases e
    exact ⟨e1, e2⟩
  · cases e
    exact ⟨if_pos (.inl rfl), if_pos (.inr rfl)⟩
  · cases q : H₀ c with
    | none => exact absurd q hc
    | some o => rw [sm c o q]; simp
  · match k with
    | 0 => simp at e
    | 1 =>
      simp at e
      subst e
      exact ⟨.ref b, rfl, b, l, rfl, rfl⟩
    | k + 2 =>
      simp only [List.getElem?_cons_succ, List.getElem?_replicate] at e
      split at e <;> cases e
end
end L2.Pu
namespace L2.Pu
open PySem PySem.Spec PyProof.Rows
section
variable {P : Program} {w : World} {K : PySem.W.Frag} {mg : Str → Option Value} {base : Heap}
theorem fn_n {x qual : Str} {st : Stmt} {f : Addr} {fd : FuncData} {N ps : List Str} {k : Nat} (n m : Nat) (g : G) (F : FunD K x qual st f fd) (S : FnScope N ps (defScope st)) (hn : ps.length = n) (hm : N.length = m)
    (hbody : ∀ (cdv : Value) (A : Around) (outer : List Env) (s : Shared) (H : Hp) (E : XK), Room k (A.deeper (envOfC qual (defScope st) s.heap.objs.size f cdv)) →
      PSs (cxOf (CXE P w) P w K mg base N qual (defScope st) f cdv A outer s H E) (defBody st) (tG K H g (fun _ => E))) : FnOk P w K mg base (CXE P w) (k + 1) f fd ps (spF K n (bodyM m g)) := by
  subst hn hm
  exact fn_pure F S hbody
end
end L2.Pu
namespace L2
open PySem PySem.Spec PyProof.Rows
theorem CmpScope.ofB {X : Cx} {scope : Scope} {Nc vars : List Str} {caps : List Nat} (k : scope.kind = .function) (nd : (scope.names.map (·.1)).Nodup)
    (fr : (scope.names.all fun y => y.2 != .free || (X.env.scope.names.lookup y.1 == some .cell || X.env.scope.names.lookup y.1 == some .free)) = true) (nm : Nc = vars ++ caps.map (fun j => X.N.getD j Str.empty))
    (cp : (caps.all fun j => decide (j < X.N.length) && scope.names.lookup (X.N.getD j Str.empty) == some .free) = true) : CmpScope X scope Nc vars caps := by
  refine ⟨k, nd, fun y hy e => ?_, nm, fun j hj => ?_⟩
  · have := List.all_eq_true.mp fr y hy
    rw [e] at this
    simp only [bne_self_eq_false, Bool.false_or, Bool.or_eq_true, beq_iff_eq] at this
    exact this
  · have := List.all_eq_true.mp cp j hj
    simp only [Bool.and_eq_true, decide_eq_true_eq, beq_iff_eq] at this
    exact this
end L2
namespace L2.Pu
theorem e_mod (i j : Int) : modD (.int i) (.int j) = if decide (0 < j) = true then some (.int (i % j)) else none := rfl
theorem e_gt (i j : Int) : gtD (.int i) (.int j) = some (.bl (decide (j < i))) := rfl
end L2.Pu
namespace L2.Pu
open PySem PySem.Spec
end L2.Pu
namespace L2.Pu
open PySem PySem.Spec
theorem comp_ok {nv : Nat} {caps : List Nat} {it : Dn → M (List D)} {tg : TgF} {tt : Dn → M Bool} {b : Dn → M (List D)} {δ : Dn} {β β1 β2 : Bg} {ds os : List D} (h1 : it δ β = some (.ok ds, β1)) (h2 : cLp tg tt b ds (cSt nv caps δ) β1 = some (.ok os, β2)) (h3 : os.length ≤ sizeLine) : fComp nv caps it tg tt b δ β = some (.ok (.lst os), β2) := by
  unfold fComp
  simp only [h1, h2, h3, if_true]
end L2.Pu
namespace L2.Pu
open PySem PySem.Spec PyProof.Rows
section
variable {X : Cx} {E : St → XK} {K : PySem.W.Frag} {a b : Expr} {es : List Expr} {pos : Pos}
theorem To.none {F : Fx} {H H1 : Hp} {β1 : Bg} {p : Addr} (t : To F H H1 β1) (h : H1 p = none) : H p = none := by
  cases q : H p with
  | none => rfl
  | some o =>
    have : H1 p = some o := t.kp p o q fun b l e => by
      obtain ⟨z1, z2⟩ := t.fr.bag b l e
      exact ⟨fun w => (by subst w; rw [z1] at h; cases h), fun w => (by subst w; rw [z2] at h; cases h)⟩
    rw [this] at h; cases h
noncomputable def Fx.but (F : Fx) (a : Addr) : Fx := ⟨fun c => F.A c ∨ c = a, F.bg⟩
theorem Fx.tr_but {F : Fx} {H H1 : Hp} {β1 : Bg} {p : Addr} (fr : Fr F H β1) (hp : H p = none) (hs : ∀ c o, H c = some o → H1 c = some o) : Tr F H (F.but p) H1 := ⟨fun c h1 h2 z => by
  rcases z with z | z
  · exact h1 z
  · subst z; exact h2 hp, fun c o _ h => hs c o h, rfl⟩
theorem Fx.tr_of {F : Fx} {H : Hp} {p : Addr} : Tr (F.but p) H F H := ⟨fun c h _ z => h (Or.inl z), fun _ _ _ h => h, rfl⟩
noncomputable def FreshL (K : PySem.W.Frag) (F : Fx) (H0 H : Hp) (ds : List D) (v : V) : Prop := ∃ a xs, v = .ref a ∧ H0 a = none ∧ H a = some (.lst xs) ∧ DenL K (F.but a) H ds xs
noncomputable def tVO (K : PySem.W.Frag) (f : Dn → M (List D)) (E : St → XK) : TE := fun σ H Q => ∃ F δ β, Fr F H β ∧ VOk K F H δ σ ∧ run (FreshL K F H) F E σ (f δ) H Q β
noncomputable def tVG (K : PySem.W.Frag) (f : Dn → M (List (List D))) (E : St → XK) : TE := fun σ H Q => ∃ F δ β, Fr F H β ∧ VOk K F H δ σ ∧ run (FreshG K F H) F E σ (f δ) H Q β
noncomputable def szL (ds : List D) : Option (List D) := if ds.length ≤ sizeLine then some ds else none
theorem FreshL.new {F : Fx} {H H1 : Hp} {β1 : Bg} {p : Addr} {ds : List D} {xs : List V} (t : To F H H1 β1) (hp : H1 p = none) (hd : DenL K F H1 ds xs) : FreshL K F H (upd H1 p (.lst xs)) ds (.ref p) :=
  ⟨p, xs, rfl, t.none hp, upd_same, DenL.tr (Fx.tr_but t.fr hp fun c o h => by rw [upd_ne (ne_of_none h hp)]; exact h) _ _ hd⟩
theorem DenL.rep {F : Fx} {H : Hp} {ds : List D} {xs : List V} (h : DenL K F H ds xs) : ∀ n : Nat, DenL K F H (List.replicate n ds).flatten (List.replicate n xs).flatten
  | 0 => rfl
  | n + 1 => by
    rw [List.replicate_succ, List.flatten_cons, List.replicate_succ, List.flatten_cons]
    exact DenL.append h (DenL.rep h n)
noncomputable def repO (ds : List D) (d : D) : Option (List D) := match d with
  | .int k => if (decide (-(2 ^ 63) ≤ k) && decide (k < 2 ^ 63) && decide (ds.length ≤ sizeLine) && decide (ds.length * k.toNat ≤ sizeLine)) = true then some (List.replicate k.toNat ds).flatten else none
  | _ => none
noncomputable def oRep (g : Dn → M (List D)) (f : Dn → M D) : Dn → M (List D) := fun δ => M.bind (g δ) fun ds => M.bind (M.ofO (szL ds)) fun ds => M.bind (f δ) fun d => M.ofO (repO ds d)
theorem o_rep {g : Dn → M (List D)} {f : Dn → M D} {pos' : Pos} (ha : PA X es (tVA X.K g E)) (hb : PE X b (tV X.K f E)) : PE X (.BinOp (.List es pos') .Mult b pos) (tVO X.K (oRep g f) E) :=
  (pe_op op_rep (pe_lst ha) hb).imp fun σ H Q h_ => ex6 h_ fun F δ β fr vk r => ⟨F, δ, β, fr, vk, (run.bind (R := DenL X.K F) r).mono fun vs H1 h_ => by
    obtain ⟨ds, β1, t, hd, r1⟩ := h_
    obtain ⟨ds', e3, r2⟩ := run.ofO_bind r1
    unfold szL at e3
    split at e3
    · rename_i hz
      cases e3
      refine ⟨by rw [← hd.length]; exact hz, fun p hp => ?_⟩
      have t1 := t.fr.upd (.lst vs) hp
      have hA := t.fr.fresh hp
      refine ⟨F, δ, β1, t1.fr, (vk.tr (t.tr fr)).tr (t1.tr t.fr), ?_⟩
      obtain ⟨rr, β2, e, h⟩ := r2
      have r2' : run (FreshL X.K F H) F E σ (M.bind (f δ) fun d => M.ofO (repO ds d)) (upd H1 p (.lst vs)) Q β1 := by
        refine ⟨rr, β2, e, ?_⟩
        cases rr with
        | ok d => exact fun v H' t2 => h v H' (t1.trans t2)
        | error C => exact fun H' t2 => h H' (t1.trans t2)
      refine (run.bind (R := Den X.K F) r2').mono fun w H2 h_ => ex5 h_ fun d β3 t2 hw r3 => ?_
      obtain ⟨os, e4, k⟩ := run.ofO r3
      unfold repO at e4
      split at e4
      · split at e4
        · rename_i kk hk
          cases e4
          simp only [Bool.and_eq_true, decide_eq_true_eq] at hk
          cases hw
          have hp2 : H2 p = some (.lst vs) := t2.kp p _ upd_same fun b l q => ⟨fun z => hA (z ▸ (fr.bgA b l q).1), fun z => hA (z ▸ (fr.bgA b l q).2.1)⟩
          have tt := t1.trans t2
          exact ⟨p, _, vs, rfl, rfl, hp2, hk.1.1.1, hk.1.1.2, by rw [← hd.length]; exact hk.2, fun q hq => k _ _ (t2.fr.upd _ hq) (FreshL.new (t.trans tt) hq ((DenL.tr (tt.tr t.fr) _ _ hd).rep _))⟩
        · cases e4
      · cases e4
    · cases e3⟩
noncomputable def fCompL (nv : Nat) (caps : List Nat) (it : Dn → M (List Pu.D)) (tg : TgF) (tt : Dn → M Bool) (b : Dn → M (List Pu.D)) : Dn → M (List Pu.D) := fun δ β => match it δ β with
  | none => none
  | some (.error C, β1) => some (.error C, β1)
  | some (.ok ds, β1) => match cLp tg tt b ds (cSt nv caps δ) β1 with
    | some (.ok os, β2) => if os.length ≤ sizeLine then some (.ok os, β2) else none
    | _ => none
theorem tCompL_of {vars : List Str} {caps : List Nat} {it : Dn → M (List Pu.D)} {g : TG} {tg : TgF} {tt : Dn → M Bool} {tb : Addr → TB} {b : Dn → M (List Pu.D)} (hg : LiftG K g tg) (sg : SubG tg) (hb : ∀ D, LiftB K D (tb D) b) {σ : St} {H : Hp} {Q : VK} (h : tVO K (fCompL vars.length caps it tg tt b) E σ H Q) :
    tComp vars caps (iV K it E) (fun D J => cLoop J g (tVT K tt E0) (tb D)) σ H Q := by
  obtain ⟨F, δ, β, fr, vk, r, β', e, h⟩ := h
  unfold fCompL at e
  refine ⟨F, δ, β, fr, vk, ?_⟩
  split at e
  · cases e
  · rename_i C β1 q
    cases e
    exact ⟨.error C, _, q, h⟩
  · rename_i ds β1 q
    split at e
    · rename_i os β2 q2
      split at e
      · rename_i hz
        cases e
        refine ⟨.ok ds, β1, q, fun J H1 t hJ D hD => ?_⟩
        have hDA : ¬ F.A D := t.fr.fresh hD
        have nb : ∀ b l, F.bg = some (b, l) → D ≠ b ∧ D ≠ l := fun b l z => ⟨fun w => hDA (w ▸ (fr.bgA b l z).1), fun w => hDA (w ▸ (fr.bgA b l z).2.1)⟩
        have t2 := t.fr.upd (.lst []) hD
        have fr2 : Fr ⟨fun a => F.A a ∨ a = D, F.bg⟩ (upd H1 D (.lst [])) β1 := by
          refine ⟨fun a ha z => ?_, fun b l z => let ⟨x, y, w⟩ := fr.bgA b l z; ⟨.inl x, .inl y, w⟩, t2.fr.bag⟩
          rcases ha with ha | ha
          · exact t2.fr.occ a ha z
          · subst ha; rw [upd_same] at z; cases z
        have tr2 : Tr F H1 ⟨fun a => F.A a ∨ a = D, F.bg⟩ (upd H1 D (.lst [])) := ⟨fun a ha hs z => by
          rcases z with z | z
          · exact ha z
          · subst z; exact hs hD, fun a o ha z => by rw [upd_ne (ne_of_none z hD)]; exact z, rfl⟩
        refine lb_loop (D := D) (as := []) (os := os) hg sg (hb D) fr2 (.inr rfl) nb (cSt_ok (vk.tr ((t.tr fr).trans tr2))) upd_same rfl (hJ.tr tr2) q2 (by simpa using hz) fun σ1 H2 acc1 t3 vk3 hD3 hd3 => ?_
        have tf : To F H1 H2 β' := by
          refine ⟨fun a o z n => t3.kp a o (by rw [upd_ne (ne_of_none z hD)]; exact z) (ne_of_none z hD) n, fun a ha z => t3.fr.occ a (Or.inl ha) z, fr.bgA, t3.fr.bag⟩
        exact h _ H2 (t.trans tf) ⟨D, acc1, rfl, t.none hD, hD3, hd3⟩
      · cases e
    · cases e
noncomputable def cLpG (tg : TgF) (tt : Dn → M Bool) (b : Dn → M (List (List Pu.D))) : List Pu.D → Dn → M (List (List Pu.D))
  | [], _ => M.ret []
  | d :: ds, δ => match tg d δ with
    | none => M.fail
    | some δ1 => M.bind (tt δ1) fun c => M.bind (if c = true then b δ1 else M.ret []) fun o => M.bind (cLpG tg tt b ds δ) fun os => M.ret (o ++ os)
noncomputable def RwA (K : PySem.W.Frag) (F : Fx) (D : Addr) (H0 H : Hp) (as : List (List Pu.D)) (acc : List V) : Prop := (∀ c, H0 c ≠ none → H c ≠ none) ∧ ∃ rs, acc = rs.map V.ref ∧ (D :: rs).Nodup ∧ RowL K F H (fun r => H0 r = none) as rs
theorem RwA.mono {F : Fx} {D : Addr} {H0 H H1 : Hp} {β β1 : Bg} {as : List (List Pu.D)} {acc : List V} (hA : F.A D) (h0 : ∀ b l, F.bg = some (b, l) → H0 b ≠ none ∧ H0 l ≠ none) (fr : Fr F H β) (t : ToD F D H H1 β1) (h : RwA K F D H0 H as acc) : RwA K F D H0 H1 as acc := by
  obtain ⟨cv, rs, e, nd, rl⟩ := h
  refine ⟨fun c hc z => ?_, rs, e, nd, RowL.tr (t.tr fr hA) rl fun r xs hr p q => ⟨p, t.kp r _ q (fun z => ?_) fun b l w => ⟨fun z => ?_, fun z => ?_⟩⟩⟩
  · cases q : H c with
    | none => exact cv c hc q
    | some o =>
      by_cases hd : c = D
      · subst hd; exact t.fr.occ _ hA z
      · by_cases hb : ∃ b l, F.bg = some (b, l) ∧ (c = b ∨ c = l)
        · obtain ⟨b, l, w, hcb⟩ := hb
          rcases hcb with rfl | rfl
          · exact t.fr.occ _ (fr.bgA _ _ w).1 z
          · exact t.fr.occ _ (fr.bgA _ _ w).2.1 z
        · rw [t.kp c o q hd fun b l w => ⟨fun y => hb ⟨b, l, w, .inl y⟩, fun y => hb ⟨b, l, w, .inr y⟩⟩] at z
          cases z
  · subst z; exact (List.nodup_cons.mp nd).1 hr
  · subst z; exact (h0 _ _ w).1 p
  · subst z; exact (h0 _ _ w).2 p
noncomputable def LiftR (K : PySem.W.Frag) (D : Addr) (tb : TB) (f : Dn → M (List (List Pu.D))) : Prop := ∀ (F : Fx) (H0 H : Hp) (δ : Dn) (β β' : Bg) (σ : St) (acc : List V) (as os : List (List Pu.D)) (Q : St → Hp → Prop), Fr F H β → F.A D → (∀ b l, F.bg = some (b, l) → D ≠ b ∧ D ≠ l) → (∀ b l, F.bg = some (b, l) → H0 b ≠ none ∧ H0 l ≠ none) → VOk K F H δ σ → H D = some (.lst acc) → RwA K F D H0 H as acc →
  f δ β = some (.ok os, β') → as.length + os.length ≤ sizeLine → (∀ σ1 H1 acc1, ToD F D H H1 β' → VOk K F H1 δ σ1 → H1 D = some (.lst acc1) → RwA K F D H0 H1 (as ++ os) acc1 → Q σ1 H1) → tb σ H Q
noncomputable def cEmG (f : Dn → M (List Pu.D)) : Dn → M (List (List Pu.D)) := fun δ => M.bind (f δ) fun d => M.ret [d]
theorem RowL.snoc {F : Fx} {H : Hp} {P : Addr → Prop} {ds : List Pu.D} {r : Addr} {xs : List V} (p : P r) (h1 : H r = some (.lst xs)) (h2 : DenL K F H ds xs) : ∀ {rows : List (List Pu.D)} {rs : List Addr}, RowL K F H P rows rs → RowL K F H P (rows ++ [ds]) (rs ++ [r])
  | [], [], _ => ⟨p, ⟨xs, h1, h2⟩, trivial⟩
  | _ :: _, _ :: _, h => ⟨h.1, h.2.1, RowL.snoc p h1 h2 h.2.2⟩
  | [], _ :: _, h => h.elim
  | _ :: _, [], h => h.elim
theorem lr_emit {D : Addr} {f : Dn → M (List Pu.D)} : LiftR K D (cEmit D (tVO K f E0)) (cEmG f) := fun F H0 H δ β β' σ acc as os Q fr hA hb h0 vk hD hd e hz k => by
  obtain ⟨d, β1, e1, e2⟩ := M.bind_inv e
  cases e2
  refine ⟨F, δ, β, fr, vk, E0.run e1 fun v H1 t hv => ?_⟩
  have hD1 := t.kp D _ hD hb
  have hd1 := hd.mono hA h0 fr (t.toD D)
  obtain ⟨r, xs, rfl, n0, n1, n2⟩ := hv
  obtain ⟨cv, rs, ea, nd, rl⟩ := hd1
  obtain ⟨cv0, rs0, ea0, nd0, rl0⟩ := hd
  have hlen : acc.length = as.length := by rw [ea, List.length_map, rl.len]
  have ers : rs0 = rs := by
    have : rs0.map V.ref = rs.map V.ref := ea0.symm.trans ea
    exact List.map_inj_right (fun a b q => by cases q; rfl) |>.mp this
  subst ers
  have nD : r ≠ D := fun z => by subst z; rw [hD] at n0; cases n0
  have nr : r ∉ rs0 := fun z => by
    obtain ⟨_, ys, q⟩ := rl0.all r z
    rw [q] at n0; cases n0
  have h0r : H0 r = none := by
    cases q : H0 r with
    | none => rfl
    | some o => exact absurd n0 (cv0 r (by rw [q]; simp))
  refine ⟨acc, hD1, by rw [hlen]; simp at hz; omega, ?_⟩
  have tD : ToD F D H1 (upd H1 D (.lst (acc ++ [.ref r]))) β' := by
    refine ⟨fun a o h n _ => by rw [upd_ne n]; exact h, fun a h q => ?_, fr.bgA, fun b l q => ?_⟩
    · by_cases z : a = D
      · subst z; rw [upd_same] at q; cases q
      · rw [upd_ne z] at q; exact t.fr.occ a h q
    · rw [upd_ne (hb b l q).1.symm, upd_ne (hb b l q).2.symm]
      exact t.fr.bag b l q
  have tt := tD.tr t.fr hA
  refine k σ _ _ ((t.toD D).trans tD) (vk.tr ((t.tr fr).trans tt)) upd_same (RwA.mono hA h0 t.fr tD ⟨cv, rs0 ++ [r], by rw [ea, List.map_append]; rfl, ?_, RowL.snoc h0r n1 (DenL.tr Fx.tr_of _ _ n2) rl⟩)
  rw [← List.cons_append, List.nodup_append]
  refine ⟨nd0, by simp, fun x hx y hy => ?_⟩
  obtain rfl : y = r := by simpa using hy
  rcases List.mem_cons.mp hx with rfl | hx
  · exact nD.symm
  · exact fun z => nr (z ▸ hx)
end
end L2.Pu
namespace L2.Pu
open PySem PySem.Spec PyProof.Rows
section
variable {X : Cx} {E : St → XK} {K : PySem.W.Frag}
theorem lr_loop {D : Addr} {J : It} {g : TG} {tg : TgF} {tt : Dn → M Bool} {tb : TB} {b : Dn → M (List (List Pu.D))} (hg : LiftG K g tg) (sg : SubG tg) (hb : LiftR K D tb b) {F : Fx} {H0 H : Hp} {δ : Dn} {β β' : Bg} {σ : St} {acc : List V} {as os : List (List Pu.D)} {ds : List Pu.D} {Q : St → Hp → Prop} (fr : Fr F H β) (hA : F.A D) (hn : ∀ b l, F.bg = some (b, l) → D ≠ b ∧ D ≠ l) (h0 : ∀ b l, F.bg = some (b, l) → H0 b ≠ none ∧ H0 l ≠ none) (vk : VOk K F H δ σ) (hD : H D = some (.lst acc)) (hd : RwA K F D H0 H as acc)
    (it : ItD K J F H ds) (e : cLpG tg tt b ds δ β = some (.ok os, β')) (hz : as.length + os.length ≤ sizeLine) (k : ∀ σ1 H1 acc1, ToD F D H H1 β' → VOk K F H1 δ σ1 → H1 D = some (.lst acc1) → RwA K F D H0 H1 (as ++ os) acc1 → Q σ1 H1) : cLoop J g (tVT K tt E0) tb σ H Q := by
  refine ⟨fun i m σ1 H1 => m + i = ds.length ∧ ∃ β1 acc1 as1 os1, ToD F D H H1 β1 ∧ VOk K F H1 δ σ1 ∧ H1 D = some (.lst acc1) ∧ RwA K F D H0 H1 as1 acc1 ∧ cLpG tg tt b (ds.drop i) δ β1 = some (.ok os1, β') ∧ as1 ++ os1 = as ++ os,
    ⟨ds.length, by omega, β, acc, as, os, ⟨fun _ _ h _ _ => h, fr⟩, vk, hD, hd, e, rfl⟩, ?_⟩
  rintro i m σ1 H1 ⟨hm, β1, acc1, as1, os1, t1, vk1, hD1, hd1, e1, ea⟩
  have tr1 := t1.tr fr hA
  obtain ⟨iy, is⟩ := it F H1 β1 tr1 t1.fr i
  cases hi : ds[i]? with
  | none =>
    have hl : ds.length ≤ i := List.getElem?_eq_none_iff.mp hi
    rw [List.drop_eq_nil_of_le hl] at e1
    cases e1
    refine .inl ⟨is (by omega), k σ1 H1 acc1 t1 vk1 hD1 ?_⟩
    rw [← ea, List.append_nil]
    exact hd1
  | some d =>
    have hl : i < ds.length := (List.getElem?_eq_some_iff.mp hi).1
    obtain ⟨go, yl⟩ := iy d hi
    have ed : ds.drop i = d :: ds.drop (i + 1) := by
      rw [List.drop_eq_getElem_cons hl]
      congr 1
      exact Option.some.inj ((List.getElem?_eq_getElem hl).symm.trans hi)
    rw [ed] at e1
    unfold cLpG at e1
    cases q : tg d δ with
    | none => rw [q] at e1; cases e1
    | some δ1 =>
      rw [q] at e1
      obtain ⟨c, β2, e2, e3⟩ := M.bind_inv e1
      obtain ⟨o, β3, e4, e5⟩ := M.bind_inv e3
      obtain ⟨os2, β4, e6, e7⟩ := M.bind_inv e5
      cases e7
      obtain ⟨s1, s2⟩ := sg _ _ _ q
      refine .inr ⟨go, fun σ9 H9 => ∃ acc9, ToD F D H H9 β3 ∧ VOk K F H9 δ σ9 ∧ H9 D = some (.lst acc9) ∧ RwA K F D H0 H9 (as1 ++ o) acc9, ?_, fun x H2 hy => ?_⟩
      · rintro σ9 H9 ⟨acc9, t9, vk9, hD9, hd9⟩
        exact ⟨m - 1, by omega, by omega, β3, acc9, as1 ++ o, os2, t9, vk9, hD9, hd9, e6, by rw [List.append_assoc]; exact ea⟩
      · obtain ⟨sm, dx⟩ := yl x H2 hy
        have t2 : To F H1 H2 β1 := t1.fr.same sm
        have tr2 := t2.tr t1.fr
        refine hg F H2 δ δ1 σ1 d x _ (vk1.tr tr2) dx q fun σ2 vk2 => ⟨F, δ1, β1, t2.fr, vk2, E0.run e2 fun c' H3 t3 ec => ?_⟩
        subst ec
        have hD2 := sm _ _ hD1
        have hD3 := t3.kp D _ hD2 hn
        have tr3 := t3.tr t2.fr
        have d3 := (hd1.mono hA h0 t1.fr (t2.toD D)).mono hA h0 t2.fr (t3.toD D)
        have tt3 : ToD F D H H3 β2 := t1.trans ((t2.trans t3).toD D)
        have hle : as1.length + (o ++ os2).length ≤ sizeLine := by
          have := congrArg List.length ea
          simp only [List.length_append] at this ⊢
          omega
        cases c' with
        | true =>
          rw [if_pos rfl] at e4 ⊢
          refine hb F H0 H3 δ1 β2 β3 σ2 acc1 as1 o _ t3.fr hA hn h0 (vk2.tr tr3) hD3 d3 e4 (by rw [List.length_append] at hle; omega) fun σ4 H4 acc4 t4 vk4 hD4 hd4 => ?_
          exact ⟨acc4, tt3.trans t4, vk4.sub s1 s2, hD4, hd4⟩
        | false =>
          rw [if_neg Bool.false_ne_true] at e4 ⊢
          cases e4
          exact ⟨acc1, tt3, (vk2.tr tr3).sub s1 s2, hD3, by rw [List.append_nil]; exact d3⟩
noncomputable def fCompG (nv : Nat) (caps : List Nat) (it : Dn → M (List Pu.D)) (tg : TgF) (tt : Dn → M Bool) (b : Dn → M (List (List Pu.D))) : Dn → M (List (List Pu.D)) := fun δ β => match it δ β with
  | none => none
  | some (.error C, β1) => some (.error C, β1)
  | some (.ok ds, β1) => match cLpG tg tt b ds (cSt nv caps δ) β1 with
    | some (.ok os, β2) => if os.length ≤ sizeLine then some (.ok os, β2) else none
    | _ => none
theorem tCompG_of {vars : List Str} {caps : List Nat} {it : Dn → M (List Pu.D)} {g : TG} {tg : TgF} {tt : Dn → M Bool} {tb : Addr → TB} {b : Dn → M (List (List Pu.D))} (hg : LiftG K g tg) (sg : SubG tg) (hb : ∀ D, LiftR K D (tb D) b) {σ : St} {H : Hp} {Q : VK} (h : tVG K (fCompG vars.length caps it tg tt b) E σ H Q) :
    tComp vars caps (iV K it E) (fun D J => cLoop J g (tVT K tt E0) (tb D)) σ H Q := by
  obtain ⟨F, δ, β, fr, vk, r, β', e, h⟩ := h
  unfold fCompG at e
  refine ⟨F, δ, β, fr, vk, ?_⟩
  split at e
  · cases e
  · rename_i C β1 q
    cases e
    exact ⟨.error C, _, q, h⟩
  · rename_i ds β1 q
    split at e
    · rename_i os β2 q2
      split at e
      · rename_i hz
        cases e
        refine ⟨.ok ds, β1, q, fun J H1 t hJ D hD => ?_⟩
        have hDA : ¬ F.A D := t.fr.fresh hD
        have nb : ∀ b l, F.bg = some (b, l) → D ≠ b ∧ D ≠ l := fun b l z => ⟨fun w => hDA (w ▸ (fr.bgA b l z).1), fun w => hDA (w ▸ (fr.bgA b l z).2.1)⟩
        have t2 := t.fr.upd (.lst []) hD
        have fr2 : Fr ⟨fun a => F.A a ∨ a = D, F.bg⟩ (upd H1 D (.lst [])) β1 := by
          refine ⟨fun a ha z => ?_, fun b l z => let ⟨x, y, w⟩ := fr.bgA b l z; ⟨.inl x, .inl y, w⟩, t2.fr.bag⟩
          rcases ha with ha | ha
          · exact t2.fr.occ a ha z
          · subst ha; rw [upd_same] at z; cases z
        have tr2 : Tr F H1 ⟨fun a => F.A a ∨ a = D, F.bg⟩ (upd H1 D (.lst [])) := ⟨fun a ha hs z => by
          rcases z with z | z
          · exact ha z
          · subst z; exact hs hD, fun a o ha z => by rw [upd_ne (ne_of_none z hD)]; exact z, rfl⟩
        have cv : ∀ c, H c ≠ none → upd H1 D (.lst []) c ≠ none := fun c hc z => by
          by_cases w : c = D
          · subst w; rw [upd_same] at z; cases z
          · rw [upd_ne w] at z; exact hc (t.none z)
        refine lr_loop (D := D) (H0 := H) (as := []) (os := os) hg sg (hb D) fr2 (.inr rfl) nb (fun b l z => ⟨fr.occ _ (fr.bgA b l z).1, fr.occ _ (fr.bgA b l z).2.1⟩) (cSt_ok (vk.tr ((t.tr fr).trans tr2))) upd_same ⟨cv, [], rfl, by simp, trivial⟩ (hJ.tr tr2) q2 (by simpa using hz) fun σ1 H2 acc1 t3 vk3 hD3 hd3 => ?_
        have tf : To F H1 H2 β' := by
          refine ⟨fun a o z n => t3.kp a o (by rw [upd_ne (ne_of_none z hD)]; exact z) (ne_of_none z hD) n, fun a ha z => t3.fr.occ a (Or.inl ha) z, fr.bgA, t3.fr.bag⟩
        obtain ⟨_, rs, ea, nd, rl⟩ := hd3
        subst ea
        exact h _ H2 (t.trans tf) ⟨D, rs, rfl, t.none hD, hD3, nd, RowL.tr (F := ⟨fun a => F.A a ∨ a = D, F.bg⟩) ⟨fun a ha _ z => ha (Or.inl z), fun a o _ z => z, rfl⟩ rl fun r xs _ p q => ⟨p, q⟩⟩
      · cases e
    · cases e
section
variable {elt target iter : Expr} {ifs : List Expr} {rest : List Comprehension} {scope : Scope} {pos : Pos} {Nc vars : List Str} {caps : List Nat} {g : TG} {tb : Addr → TB}
end
mutual
noncomputable def noL : D → Bool
  | .int _ => true
  | .bl _ => true
  | .str _ => true
  | .non => true
  | .tup ds => noLs ds
  | _ => false
noncomputable def noLs : List D → Bool
  | [] => true
  | d :: ds => noL d && noLs ds
end
mutual
theorem noL_den {F F2 : Fx} {H : Hp} (hF : ∀ c, F2.A c → F.A c ∨ ∃ xs, H c = some (.lst xs)) : ∀ (d : D) (v : V), noL d = true → Den K F H d v → Den K F2 H d v
  | .int i, v, _, h => h
  | .bl i, v, _, h => h
  | .str i, v, _, h => h
  | .non, v, _, h => h
  | .tup ds, v, n, h => by
    obtain ⟨a, xs, e, h1, h2⟩ := h
    refine ⟨a, xs, e, ?_, noLs_den hF ds xs (by simpa [noL] using n) h2⟩
    rcases h1 with ⟨h1, r⟩ | h1
    · refine .inl ⟨fun z => ?_, r⟩
      rcases hF a z with z | ⟨ys, z⟩
      · exact h1 z
      · rcases r with r | ⟨o, r⟩ <;> rw [z] at r <;> cases r
    · exact .inr h1
  | .lst _, _, n, _ => by simp [noL] at n
  | .scr _, _, n, _ => by simp [noL] at n
  | .ty _, _, n, _ => by simp [noL] at n
  | .txt, _, n, _ => by simp [noL] at n
  | .obj _ _ _, _, n, _ => by simp [noL] at n
  | .bag, _, n, _ => by simp [noL] at n
  | .adr _, _, n, _ => by simp [noL] at n
theorem noLs_den {F F2 : Fx} {H : Hp} (hF : ∀ c, F2.A c → F.A c ∨ ∃ xs, H c = some (.lst xs)) : ∀ (ds : List D) (xs : List V), noLs ds = true → DenL K F H ds xs → DenL K F2 H ds xs
  | [], xs, _, h => h
  | d :: ds, xs, n, h => by
    have n' : noL d = true ∧ noLs ds = true := by simpa [noLs] using n
    obtain ⟨x, xr, e, h1, h2⟩ := h
    exact ⟨x, xr, e, noL_den hF d x n'.1 h1, noLs_den hF ds xr n'.2 h2⟩
end
theorem RowL.noL {F F2 : Fx} {H : Hp} {P P2 : Addr → Prop} (hF : ∀ c, F2.A c → F.A c ∨ ∃ xs, H c = some (.lst xs)) : ∀ {rows : List (List D)} {rs : List Addr}, (∀ ds ∈ rows, noLs ds = true) → RowL K F H P rows rs → (∀ r ∈ rs, P2 r) → RowL K F2 H P2 rows rs
  | [], [], _, _, _ => trivial
  | ds :: rows, r :: rs, n, h, p => by
    obtain ⟨h1, ⟨xs, h2, h3⟩, h4⟩ := h
    exact ⟨p r List.mem_cons_self, ⟨xs, h2, noLs_den hF _ _ (n ds List.mem_cons_self) h3⟩, RowL.noL hF (fun x hx => n x (List.mem_cons_of_mem _ hx)) h4 fun x hx => p x (List.mem_cons_of_mem _ hx)⟩
  | [], _ :: _, _, h, _ => h.elim
  | _ :: _, [], _, h, _ => h.elim
theorem SOk.newGrd {H₀ : Hp} {B : Ow} {bg : Option (Addr × Addr)} {H H' : Hp} {δ : Ds} {β β' : Bg} {σ : St} {i : Nat} {rows : List (List D)} {v : V} (ok : SOk K H₀ B bg H δ β σ) (t : To (FxB B bg) H H' β') (hn : ∀ ds ∈ rows, noLs ds = true) (hv : FreshG K (FxB B bg) H H' rows v) :
    ∃ B', SOk K H₀ B' bg H' (δ.set i (some (.grd rows))) β' (σ.set i (some v)) ∧ Stp B H B' H' := by
  classical
  obtain ⟨a, rs, rfl, n0, n1, nd, rl⟩ := hv
  have hno : ∀ c, c = a ∨ c ∈ rs → H c = none := fun c hc => by
    rcases hc with rfl | hc
    · exact n0
    · exact (rl.all c hc).1
  have hB : ∀ c, c = a ∨ c ∈ rs → B c = none := fun c hc => Classical.byContradiction fun z => ok.fr.occ c z (hno c hc)
  have nb : ∀ b l, bg = some (b, l) → ¬ (b = a ∨ b ∈ rs) ∧ ¬ (l = a ∨ l ∈ rs) := fun b l e => by
    obtain ⟨b1, b2⟩ := ok.bgt b l e
    exact ⟨fun z => (by rw [hB b z] at b1; cases b1), fun z => (by rw [hB l z] at b2; cases b2)⟩
  obtain ⟨ok2, s2⟩ := ok.to rfl t
  have stp : Stp B H (fun c => if c = a ∨ c ∈ rs then some (i + 2) else B c) H' := by
    refine ⟨s2.kp, fun c hc => ?_, fun c o h n => ?_, s2.al⟩
    · have : ¬ (c = a ∨ c ∈ rs) := fun z => by rw [hB c z] at hc; rcases hc with hc | hc <;> cases hc
      simp only [if_neg this]
    · have : ¬ (c = a ∨ c ∈ rs) := fun z => by rw [hno c z] at h; cases h
      simp only [if_neg this]; exact n
  have tr : Tr (FxB B bg) H (FxB (fun c => if c = a ∨ c ∈ rs then some (i + 2) else B c) bg) H' := stp.tr
  refine ⟨fun c => if c = a ∨ c ∈ rs then some (i + 2) else B c, ⟨⟨fun c hc z => ?_, fun b l e => ?_, ok2.fr.bag⟩, fun b l e => ?_, by rw [List.length_set, List.length_set, ok.len], ok2.cov, fun c k hc => (by
    have hc' : (if c = a ∨ c ∈ rs then some (i + 2) else B c) = some (k + 2) := hc
    by_cases z : c = a ∨ c ∈ rs
    · cases w : H₀ c with
      | none => rfl
      | some o => exact absurd (hno c z) (ok.cov c (by rw [w]; simp))
    · rw [if_neg z] at hc'; exact ok.new c k hc'), fun c k hc => (by
    have hc' : (if c = a ∨ c ∈ rs then some (i + 2) else B c) = some (k + 2) := hc
    by_cases z : c = a ∨ c ∈ rs
    · rcases z with rfl | z
      · exact ⟨_, n1⟩
      · exact (rl.all c z).2
    · rw [if_neg z] at hc'; exact ok2.lst c k hc'), fun j s e => ?_⟩, stp⟩
  · by_cases q : c = a ∨ c ∈ rs
    · rcases q with rfl | q
      · rw [n1] at z; cases z
      · obtain ⟨_, xs, w⟩ := rl.all c q
        rw [w] at z; cases z
    · have hc' : (if c = a ∨ c ∈ rs then some (i + 2) else B c) ≠ none := hc
      rw [if_neg q] at hc'
      exact ok2.fr.occ c hc' z
  · obtain ⟨x1, x2⟩ := nb b l e
    obtain ⟨b1, b2⟩ := ok.bgt b l e
    refine ⟨?_, ?_, (ok.fr.bgA b l e).2.2⟩
    · show (if b = a ∨ b ∈ rs then some (i + 2) else B b) ≠ none
      rw [if_neg x1, b1]; simp
    · show (if l = a ∨ l ∈ rs then some (i + 2) else B l) ≠ none
      rw [if_neg x2, b2]; simp
  · obtain ⟨x1, x2⟩ := nb b l e
    simp only [if_neg x1, if_neg x2]
    exact ok.bgt b l e
  · rw [List.getElem?_set] at e
    rw [List.getElem?_set]
    by_cases q : i = j
    · subst q
      rw [if_pos rfl] at e ⊢
      split at e
      · rename_i hl
        cases e
        rw [if_pos (by rw [← ok.len]; exact hl)]
        refine ⟨_, rfl, a, rs, rfl, if_pos (.inl rfl), n1, nd, RowL.noL (F := FxB B bg) (fun c hc => ?_) hn rl fun r hr => if_pos (.inr hr)⟩
        have hc' : (if c = a ∨ c ∈ rs then some (i + 2) else B c) ≠ none := hc
        by_cases w : c = a ∨ c ∈ rs
        · rcases w with rfl | w
          · exact .inr ⟨_, n1⟩
          · exact .inr (rl.all c w).2
        · rw [if_neg w] at hc'
          exact .inl hc'
      · cases e
    · rw [if_neg q] at e ⊢
      obtain ⟨w, h1, h2⟩ := ok.tell j s e
      refine ⟨w, h1, ?_⟩
      cases s with
      | sh d => exact Den.tr tr _ _ h2
      | own cs =>
        obtain ⟨c, ys, e1, e2, e3, e4⟩ := h2
        have na : ¬ (c = a ∨ c ∈ rs) := fun z => by rw [hno c z] at e3; cases e3
        exact ⟨c, ys, e1, by simp only [if_neg na]; exact e2, t.kp c _ e3 (fun b l z => ⟨fun y => (by subst y; rw [(ok.bgt _ _ z).1] at e2; cases e2), fun y => (by subst y; rw [(ok.bgt _ _ z).2] at e2; cases e2)⟩), DenL.tr tr _ _ e4⟩
      | grd rows2 =>
        obtain ⟨c, qs, e1, e2, e3, e4, e5⟩ := h2
        have na : ∀ c, H c ≠ none → ¬ (c = a ∨ c ∈ rs) := fun c hc z => hc (hno c z)
        have kk : ∀ c o, H c = some o → B c = some (j + 2) → H' c = some o := fun c o h1 h2 => t.kp c o h1 (fun b l z => ⟨fun y => (by subst y; rw [(ok.bgt _ _ z).1] at h2; cases h2), fun y => (by subst y; rw [(ok.bgt _ _ z).2] at h2; cases h2)⟩)
        exact ⟨c, qs, e1, by simp only [if_neg (na c (by rw [e3]; simp))]; exact e2, kk c _ e3 e2, e4, RowL.tr tr e5 fun r xs _ p y => ⟨by simp only [if_neg (na r (by rw [y]; simp))]; exact p, kk r _ y p⟩⟩
end
end L2.Pu
namespace L2.Pu
open PySem PySem.Spec PyProof.Rows
section
variable {X : Cx} {E : St → XK} {K : PySem.W.Frag} {st : Stmt} {H₀ : Hp} {B : Ow} {bg : Option (Addr × Addr)} {H H' : Hp} {δ : Ds} {β β' : Bg} {σ : St}
theorem SOk.newOwnE {i : Nat} {ds : List D} {v : V} (ok : SOk K H₀ B bg H δ β σ) (t : To (FxB B bg) H H' β') (hv : FreshL K (FxB B bg) H H' ds v) :
    ∃ B', SOk K H₀ B' bg H' (δ.set i (some (.own ds))) β' (σ.set i (some v)) ∧ Stp B H B' H' := by
  classical
  obtain ⟨a, xs, rfl, n0, n1, dl⟩ := hv
  have hB : B a = none := Classical.byContradiction fun z => ok.fr.occ a z n0
  have nb : ∀ b l, bg = some (b, l) → b ≠ a ∧ l ≠ a := fun b l e => by
    obtain ⟨b1, b2⟩ := ok.bgt b l e
    exact ⟨fun z => (by rw [z, hB] at b1; cases b1), fun z => (by rw [z, hB] at b2; cases b2)⟩
  obtain ⟨ok2, s2⟩ := ok.to rfl t
  have stp : Stp B H (fun c => if c = a then some (i + 2) else B c) H' := by
    refine ⟨s2.kp, fun c hc => ?_, fun c o h n => ?_, s2.al⟩
    · have : c ≠ a := fun z => by rw [z, hB] at hc; rcases hc with hc | hc <;> cases hc
      simp only [if_neg this]
    · have : c ≠ a := fun z => by rw [z, n0] at h; cases h
      simp only [if_neg this]; exact n
  have tr : Tr (FxB B bg) H (FxB (fun c => if c = a then some (i + 2) else B c) bg) H' := stp.tr
  refine ⟨fun c => if c = a then some (i + 2) else B c, ⟨⟨fun c hc z => ?_, fun b l e => ?_, ok2.fr.bag⟩, fun b l e => ?_, by rw [List.length_set, List.length_set, ok.len], ok2.cov, fun c k hc => (by
    have hc' : (if c = a then some (i + 2) else B c) = some (k + 2) := hc
    by_cases z : c = a
    · cases w : H₀ c with
      | none => rfl
      | some o => exact absurd (z ▸ n0) (ok.cov c (by rw [w]; simp))
    · rw [if_neg z] at hc'; exact ok.new c k hc'), fun c k hc => (by
    have hc' : (if c = a then some (i + 2) else B c) = some (k + 2) := hc
    by_cases z : c = a
    · subst z; exact ⟨xs, n1⟩
    · rw [if_neg z] at hc'; exact ok2.lst c k hc'), fun j s e => ?_⟩, stp⟩
  · by_cases q : c = a
    · subst q; rw [n1] at z; cases z
    · have hc' : (if c = a then some (i + 2) else B c) ≠ none := hc
      rw [if_neg q] at hc'
      exact ok2.fr.occ c hc' z
  · obtain ⟨x1, x2⟩ := nb b l e
    obtain ⟨b1, b2⟩ := ok.bgt b l e
    refine ⟨?_, ?_, (ok.fr.bgA b l e).2.2⟩
    · show (if b = a then some (i + 2) else B b) ≠ none
      rw [if_neg x1, b1]; simp
    · show (if l = a then some (i + 2) else B l) ≠ none
      rw [if_neg x2, b2]; simp
  · obtain ⟨x1, x2⟩ := nb b l e
    simp only [if_neg x1, if_neg x2]
    exact ok.bgt b l e
  · rw [List.getElem?_set] at e
    rw [List.getElem?_set]
    by_cases q : i = j
    · subst q
      rw [if_pos rfl] at e ⊢
      split at e
      · rename_i hl
        cases e
        rw [if_pos (by rw [← ok.len]; exact hl)]
        have tr2 : Tr ((FxB B bg).but a) H' (FxB (fun c => if c = a then some (i + 2) else B c) bg) H' := ⟨fun c h _ z => h (by
          have hc' : (if c = a then some (i + 2) else B c) ≠ none := z
          by_cases w : c = a
          · exact .inr w
          · rw [if_neg w] at hc'
            exact .inl hc'), fun _ _ _ h => h, rfl⟩
        exact ⟨_, rfl, a, xs, rfl, if_pos rfl, n1, DenL.tr tr2 _ _ dl⟩
      · cases e
    · rw [if_neg q] at e ⊢
      obtain ⟨w, h1, h2⟩ := ok.tell j s e
      refine ⟨w, h1, ?_⟩
      have na : ∀ c, H c ≠ none → c ≠ a := fun c hc z => hc (z ▸ n0)
      have kk : ∀ c o, H c = some o → B c = some (j + 2) → H' c = some o := fun c o h1 h2 => t.kp c o h1 (fun b l z => ⟨fun y => (by subst y; rw [(ok.bgt _ _ z).1] at h2; cases h2), fun y => (by subst y; rw [(ok.bgt _ _ z).2] at h2; cases h2)⟩)
      cases s with
      | sh d => exact Den.tr tr _ _ h2
      | own cs =>
        obtain ⟨c, ys, e1, e2, e3, e4⟩ := h2
        exact ⟨c, ys, e1, by simp only [if_neg (na c (by rw [e3]; simp))]; exact e2, kk c _ e3 e2, DenL.tr tr _ _ e4⟩
      | grd rows2 =>
        obtain ⟨c, qs, e1, e2, e3, e4, e5⟩ := h2
        exact ⟨c, qs, e1, by simp only [if_neg (na c (by rw [e3]; simp))]; exact e2, kk c _ e3 e2, e4, RowL.tr tr e5 fun r xs _ p y => ⟨by simp only [if_neg (na r (by rw [y]; simp))]; exact p, kk r _ y p⟩⟩
noncomputable def gOwnE (i : Nat) (f : Dn → M (List D)) : G := fun δ β => match f (vw δ) β with
  | some (.ok ds, β1) => some (.nx (δ.set i (some (.own ds))), β1)
  | some (.error C, β1) => some (.ex C δ, β1)
  | none => none
theorem s_ownE {i : Nat} {f : Dn → M (List D)} (h : PS X st (tAsg (tVO X.K f E) (gName i))) : PS X st (tG X.K X.H₀ (gOwnE i f) E) := h.imp fun D σ H h_ => by
  obtain ⟨B, bg, δ, β, o, β', ok, e, q⟩ := h_
  refine ⟨FxB B bg, vw δ, β, ok.fr, ok.view, ?_⟩
  unfold gOwnE at e
  split at e
  · rename_i ds β1 e1
    cases e
    refine ⟨.ok ds, _, e1, fun v H' t hd => ?_⟩
    obtain ⟨B', ok2, s2⟩ := ok.newOwnE (i := i) t hd
    exact q _ _ _ s2 ok2
  · rename_i C β1 e1
    cases e
    refine ⟨.error C, _, e1, fun H' t => ?_⟩
    obtain ⟨ok2, s2⟩ := ok.to rfl t
    exact q _ B H' s2 ok2
  · cases e
noncomputable def gGrd (i : Nat) (f : Dn → M (List (List D))) : G := fun δ β => match f (vw δ) β with
  | some (.ok rows, β1) => if (rows.all noLs) = true then some (.nx (δ.set i (some (.grd rows))), β1) else none
  | some (.error C, β1) => some (.ex C δ, β1)
  | none => none
theorem s_grd {i : Nat} {f : Dn → M (List (List D))} (h : PS X st (tAsg (tVG X.K f E) (gName i))) : PS X st (tG X.K X.H₀ (gGrd i f) E) := h.imp fun D σ H h_ => by
  obtain ⟨B, bg, δ, β, o, β', ok, e, q⟩ := h_
  refine ⟨FxB B bg, vw δ, β, ok.fr, ok.view, ?_⟩
  unfold gGrd at e
  split at e
  · rename_i rows β1 e1
    split at e
    · rename_i hn
      cases e
      refine ⟨.ok rows, _, e1, fun v H' t hd => ?_⟩
      obtain ⟨B', ok2, s2⟩ := ok.newGrd (i := i) t (fun ds hds => List.all_eq_true.mp hn ds hds) hd
      exact q _ _ _ s2 ok2
    · cases e
  · rename_i C β1 e1
    cases e
    refine ⟨.error C, _, e1, fun H' t => ?_⟩
    obtain ⟨ok2, s2⟩ := ok.to rfl t
    exact q _ B H' s2 ok2
  · cases e
theorem RowL.put {F : Fx} {H : Hp} {P : Addr → Prop} {r : Addr} {xs : List V} {ds : List D} (t : Tr F H F (upd H r (.lst xs))) (hd : DenL K F (upd H r (.lst xs)) ds xs) : ∀ {rows : List (List D)} {rs : List Addr} (j : Nat), RowL K F H P rows rs → rs.Nodup → rs[j]? = some r → RowL K F (upd H r (.lst xs)) P (rows.set j ds) rs
  | d0 :: rows, r0 :: rs, 0, h, nd, e => by
    obtain rfl : r0 = r := by simpa using e
    have ne : ∀ r' ∈ rs, r' ≠ r0 := fun r' hr z => (List.nodup_cons.mp nd).1 (z ▸ hr)
    exact ⟨h.1, ⟨xs, upd_same, hd⟩, RowL.tr t h.2.2 fun r' ys hr p q => ⟨p, by rw [upd_ne (ne r' hr)]; exact q⟩⟩
  | d0 :: rows, r0 :: rs, j + 1, h, nd, e => by
    have e' : rs[j]? = some r := by simpa using e
    obtain ⟨h1, ⟨ys, h2, h3⟩, h4⟩ := h
    have ne : r0 ≠ r := fun z => (List.nodup_cons.mp nd).1 (z ▸ List.mem_of_getElem? e')
    exact ⟨h1, ⟨ys, by rw [upd_ne ne]; exact h2, DenL.tr t _ _ h3⟩, RowL.put t hd j h4 (List.nodup_cons.mp nd).2 e'⟩
  | [], [], _, _, _, e => by simp at e
  | [], _ :: _, _, h, _, _ => h.elim
  | _ :: _, [], _, h, _, _ => h.elim
theorem RowL.at {F : Fx} {H : Hp} {P : Addr → Prop} : ∀ {rows : List (List D)} {rs : List Addr} {j : Nat} {ds : List D}, RowL K F H P rows rs → rows[j]? = some ds → ∃ r xs, rs[j]? = some r ∧ P r ∧ H r = some (.lst xs) ∧ DenL K F H ds xs
  | d0 :: rows, r0 :: rs, 0, ds, h, e => by
    obtain rfl : d0 = ds := by simpa using e
    obtain ⟨h1, ⟨ys, h2, h3⟩, h4⟩ := h
    exact ⟨r0, ys, rfl, h1, h2, h3⟩
  | d0 :: rows, r0 :: rs, j + 1, ds, h, e => by
    obtain ⟨r, xs, e1, e2⟩ := RowL.at h.2.2 (j := j) (ds := ds) (by simpa using e)
    exact ⟨r, xs, by simpa using e1, e2⟩
  | [], [], _, _, _, e => by simp at e
  | [], _ :: _, _, _, h, _ => h.elim
  | _ :: _, [], _, _, h, _ => h.elim
theorem SOk.writeRow {i j : Nat} {a r : Addr} {rs : List Addr} {rows : List (List D)} {ds : List D} {xs ys : List V} (ok : SOk K H₀ B bg H δ β σ) (hs : σ[i]? = some (some (.ref a))) (hB : B a = some (i + 2)) (ha : H a = some (.lst (rs.map V.ref))) (nd : (a :: rs).Nodup) (rl : RowL K (FxB B bg) H (fun r => B r = some (i + 2)) rows rs) (hj : rs[j]? = some r) (hr : H r = some (.lst ys)) (hd : DenL K (FxB B bg) H ds xs) :
    SOk K H₀ B bg (upd H r (.lst xs)) (δ.set i (some (.grd (rows.set j ds)))) β σ ∧ Stp B H B (upd H r (.lst xs)) := by
  have hrs : r ∈ rs := List.mem_of_getElem? hj
  have hBr : B r = some (i + 2) := (rl.all r hrs).1
  have stp : Stp B H B (upd H r (.lst xs)) := by
    refine ⟨fun c o h n => ?_, fun _ _ => rfl, fun _ _ _ n => n, fun c hc => ?_⟩
    · rw [upd_ne]
      · exact h
      · intro z; subst z; rw [hBr] at n; rcases n with n | n <;> cases n
    · by_cases z : c = r
      · subst z; rw [upd_same]; simp
      · rw [upd_ne z]; exact hc
  have tr : Tr (FxB B bg) H (FxB B bg) (upd H r (.lst xs)) := stp.tr
  refine ⟨⟨⟨fun c hc z => ?_, ok.fr.bgA, fun b l e => ?_⟩, ok.bgt, by rw [List.length_set, ok.len], fun a ha => stp.al a (ok.cov a ha), ok.new, fun c k hc => (by
    by_cases z : c = r
    · subst z; exact ⟨xs, upd_same⟩
    · rw [upd_ne z]; exact ok.lst c k hc), fun k s e => ?_⟩, stp⟩
  · by_cases q : c = r
    · subst q; rw [upd_same] at z; cases z
    · rw [upd_ne q] at z; exact ok.fr.occ c hc z
  · obtain ⟨b1, b2⟩ := ok.bgt b l e
    rw [upd_ne (fun z => by subst z; rw [hBr] at b1; cases b1), upd_ne (fun z => by subst z; rw [hBr] at b2; cases b2)]
    exact ok.fr.bag b l e
  · rw [List.getElem?_set] at e
    by_cases q : i = k
    · subst q
      rw [if_pos rfl] at e
      split at e
      · cases e
        have nar : a ≠ r := fun z => (List.nodup_cons.mp nd).1 (z ▸ hrs)
        exact ⟨_, hs, a, rs, rfl, hB, by rw [upd_ne nar]; exact ha, nd, RowL.put tr (DenL.tr tr _ _ hd) j rl (List.nodup_cons.mp nd).2 hj⟩
      · cases e
    · rw [if_neg q] at e
      obtain ⟨v, h1, h2⟩ := ok.tell k s e
      refine ⟨v, h1, ?_⟩
      have na : ∀ c, B c = some (k + 2) → c ≠ r := fun c e2 z => by subst z; rw [hBr] at e2; cases e2; exact q rfl
      cases s with
      | sh d => exact Den.tr tr _ _ h2
      | own cs =>
        obtain ⟨c, zs, e1, e2, e3, e4⟩ := h2
        exact ⟨c, zs, e1, e2, by rw [upd_ne (na c e2)]; exact e3, DenL.tr tr _ _ e4⟩
      | grd rows2 =>
        obtain ⟨c, qs, e1, e2, e3, e4, e5⟩ := h2
        exact ⟨c, qs, e1, e2, by rw [upd_ne (na c e2)]; exact e3, e4, RowL.tr tr e5 fun r zs _ p q => ⟨p, by rw [upd_ne (na r p)]; exact q⟩⟩
end
section
variable {P : Program} {w : World} {K : PySem.W.Frag} {mg : Str → Option Value} {base : Heap}
end
section
variable {X : Cx} {E : St → XK} {e : Expr} {es : List Expr} {pos p : Pos} {x : Str} {k n : Nat} {f : Addr} {fd : FuncData} {ps : List Str}
end
end L2.Pu
namespace L2.Pu
open PySem PySem.Spec PyProof.Rows
section
variable {X : Cx} {E : St → XK} {K : PySem.W.Frag} {elt target iter : Expr} {ifs : List Expr} {rest : List Comprehension} {scope : Scope} {pos : Pos} {Nc vars : List Str} {caps : List Nat} {g : TG} {tb : Addr → TB}
theorem s_grdC {it : Dn → M (List D)} {tg : TgF} {tt : Dn → M Bool} {b : Dn → M (List (List D))} {i : Nat} {x : Str} {pos' spos : Pos} (hN : X.N.Nodup) (hi' : X.N[i]? = some x) (hx : Loc X.env.scope x) (hc : X.calm = true) (S : CmpScope X scope Nc vars caps) (hi : PI X target iter (iV X.K it E))
    (hb : ∀ (cl : List (Str × Addr)) (C : Addr) (fp : List Addr) (s : Shared) (H : Hp), PG (cxComp X Nc scope cl C fp s H) target g ∧ PIfs (cxComp X Nc scope cl C fp s H) ifs (tVT X.K tt E0) ∧ ∀ D, PB (cxComp X Nc scope cl C fp s H) elt (⟨target, iter, ifs, 0⟩ :: rest) scope pos 0 D (tb D))
    (lg : LiftG X.K g tg) (sg : SubG tg) (lb : ∀ D, LiftR X.K D (tb D) b)
    (hsw : swapsWith (.ListComp elt (⟨target, iter, ifs, 0⟩ :: rest) scope pos) (some (.Name x pos')) spos.line X.env = pure true := by rfl)
    (hs : ∀ x, foldedSetIterable iter X.env x = pure x := by intro _; rfl) (hf : X.fn x = true ∨ X.env.scope.names.lookup x = some .local := by first | exact .inl rfl | exact .inr rfl | assumption) :
    PS X (.Assign [.Name x pos'] (.ListComp elt (⟨target, iter, ifs, 0⟩ :: rest) scope pos) spos) (tG X.K X.H₀ (gGrd i (fCompG vars.length caps it tg tt b)) E) :=
  s_grd ((ps_setC hN hi' hx hc S hi hb hsw hs hf).imp fun D σ H h => tCompG_of lg sg lb h)
end
end L2.Pu
namespace L2
open PySem PySem.Spec PyProof.Rows
section
variable {X : Cx}
theorem bools_at {bs : List Bool} {its : List Value} (r : Vals (bs.map V.bl) its) {i : Nat} {v : Value} (h : its.toArray[i]? = some v) : v = .bool (bs.getD i false) := by
  have h' : its[i]? = some v := by simpa using h
  have hl := r.length
  rw [List.length_map] at hl
  have hi : i < bs.length := by rw [hl]; exact (List.getElem?_eq_some_iff.mp h').1
  obtain ⟨u, hu, ru⟩ := r.get (i := i) (x := V.bl bs[i]) (by rw [List.getElem?_map, List.getElem?_eq_getElem hi]; rfl)
  rw [h'] at hu
  cases hu
  rw [List.getD_eq_getElem?_getD, List.getElem?_eq_getElem hi]
  exact ru
theorem range_get {α : Type} (f : Bool → Bool) (bs : List Bool) : (List.range bs.length).map (fun i => bs.getD i false) = bs := by
  apply List.ext_getElem?
  intro i
  rw [List.getElem?_map]
  by_cases h : i < bs.length
  · rw [List.getElem?_range h, List.getElem?_eq_getElem h]
    simp [List.getD_eq_getElem?_getD, List.getElem?_eq_getElem h]
  · rw [List.getElem?_eq_none (by simpa using h), List.getElem?_eq_none (by omega)]; rfl
theorem range_any (bs : List Bool) : ((List.range bs.length).any fun i => bs.getD i false) = bs.any id := by
  conv => rhs; rw [← range_get (α := Bool) id bs]
  rw [List.any_map]
  rfl
theorem call_anyL (hc : X.calm = true) : CallR X (.builtin "any") (fun xs H Q => ∃ (a : Addr) (bs : List Bool), xs = [.ref a] ∧ SqL X.K H a (bs.map V.bl) ∧ Q (.bl (bs.any id)) H) := by
  intro pins s σ H xs us Q I r h
  obtain ⟨a, bs, rfl, hq, q⟩ := h
  cases r with
  | cons r1 r2 =>
    cases r1
    cases r2
    obtain ⟨its, rv, p, hz⟩ := I.list hq
    have hl := p.isList
    have hlen : its.toArray.size = bs.length := by rw [List.size_toArray, ← rv.length, List.length_map]
    have hfr : ∀ b o, s.heap.get? b = some o → b ≠ s.heap.objs.size := fun b o e z => by
      rw [z, Heap.get?_none_of_le (Nat.le_refl _)] at e
      cases e
    have hne : a ≠ s.heap.objs.size := by
      obtain ⟨o, e, _⟩ := hl
      exact hfr a o e
    have W := Walks.list (prog := X.prog) (w := X.w) (A := X.A.in1) (show X.A.in1.handled = none from I.ok.hd hc) s.heap.objs.size a hne its.toArray
    refine call_any_walk (wpAny_pyIter_list hl ⟨s.heap.objs.size, [s.heap.objs.size, a], [s.heap.objs.size], its.toArray.size, _, _, fun i => bs.getD i false, rfl, W, ⟨⟨_, Heap.get?_push_size s.heap rfl, rfl, rfl⟩, hl.push _⟩, fun i v s' Q' E' hv q' => ?_, fun h' tk hk => ?_⟩)
    · rw [bools_at rv hv]
      exact wpAny_truthy_bool q'
    · rw [hlen, range_any]
      exact ⟨.bl (bs.any id), H, I.kept fun b o e => hk b o (fun z => hfr b o e (by simpa using z)) (Heap.get?_push_of_some _ e), rfl, q⟩
end
end L2
namespace L2.Pu
open PySem PySem.Spec PyProof.Rows
noncomputable def boolsOf : List D → Option (List Bool)
  | [] => some []
  | .bl b :: r => (boolsOf r).map (b :: ·)
  | _ => none
theorem boolsOf_den {K : PySem.W.Frag} {F : Fx} {H : Hp} : ∀ {ds : List D} {xs : List V} {bs : List Bool}, boolsOf ds = some bs → DenL K F H ds xs → xs = bs.map V.bl
  | [], xs, bs, e, h => by
    cases e
    cases h
    rfl
  | d :: ds, xs, bs, e, h => by
    obtain ⟨x, xr, rfl, h1, h2⟩ := h
    cases d <;> first
      | (rename_i b
         cases q : boolsOf ds with
         | none => simp [boolsOf, q] at e
         | some r =>
           simp [boolsOf, q] at e
           subst e
           cases h1.bl
           rw [boolsOf_den q h2]
           rfl)
      | simp [boolsOf] at e
noncomputable def anyD : List D → Option D
  | [.lst ds] => (boolsOf ds).map fun bs => .bl (bs.any id)
  | _ => none
variable {K : PySem.W.Frag}
theorem l_any : LiftA K (fun xs H Q => ∃ (a : Addr) (bs : List Bool), xs = [.ref a] ∧ SqL K H a (bs.map V.bl) ∧ Q (.bl (bs.any id)) H) anyD := fun F H β Q ds d vs fr h e k => by
  unfold anyD at e
  split at e
  · obtain ⟨v, rfl, g⟩ := DenL.one h
    obtain ⟨a, xs, rfl, r, dl⟩ := Den.sqL g
    obtain ⟨bs, q, e⟩ := Option.map_eq_some_iff.mp e
    subst e
    rw [boolsOf_den q dl] at r
    exact ⟨a, bs, rfl, r, k _ H (To.refl fr) rfl⟩
  · cases e
end L2.Pu
namespace L2
open PySem PySem.Spec PyProof.Rows
section
variable {X : Cx} {a b c d : Expr} {ta tb tc td : TE} {pos : Pos}
end
end L2
namespace L2.Pu
open PySem PySem.Spec PyProof.Rows
section
variable {X : Cx} {E : St → XK} {a b c d : Expr} {pos : Pos} {K : PySem.W.Frag}
end
end L2.Pu
namespace L2.Pu
open PySem PySem.Spec PyProof.Rows
section
variable {X : Cx} {E : St → XK} {K : PySem.W.Frag} {st : Stmt} {H₀ : Hp} {B : Ow} {bg : Option (Addr × Addr)} {H H' : Hp} {δ : Ds} {β β' : Bg} {σ : St}
noncomputable def gItem (i : Nat) (fa fv : Dn → M D) : G := fun δ β => match fv (vw δ) β with
  | some (.ok d, β1) => match fa (vwA δ) β1 with
    | some (.ok (.int ka), β2) => match δ.getD i none with
      | some (.own ds) => match ixN ds.length ka with
        | some ja => some (.nx (δ.set i (some (.own (ds.set ja d)))), β2)
        | none => none
      | _ => none
    | _ => none
  | _ => none
theorem s_item {i : Nat} {fa fv : Dn → M D} (h : PS X st (tAsg (tV X.K fv E) (gSub (tVar i) (tV X.K fa E) rSetL))) : PS X st (tG X.K X.H₀ (gItem i fa fv) E) := h.imp fun D σ H h_ => by
  obtain ⟨B, bg, δ, β, o, β', ok, e, q⟩ := h_
  refine ⟨FxB B bg, vw δ, β, ok.fr, ok.view, ?_⟩
  unfold gItem at e
  split at e
  · rename_i d β1 e1
    refine ⟨.ok d, _, e1, fun v H1 t1 hd => ?_⟩
    obtain ⟨ok1, s1⟩ := ok.to rfl t1
    split at e
    · rename_i ka β2 e2
      split at e
      · rename_i ds ec
        split at e
        · rename_i ja ea
          cases e
          obtain ⟨w, h1, a, xs, rfl, hB, ha, dl⟩ := ok1.tell i _ (getD_some ec)
          refine ⟨_, h1, FxA B bg, vwA δ, β1, ok1.frA, ok1.viewA, .ok (.int ka), _, e2, fun y H2 t2 hy => ?_⟩
          cases hy
          obtain ⟨ok2, s2⟩ := ok1.to (F := FxA B bg) rfl t2
          obtain ⟨w2, h2, a2, xs2, ew, hB2, ha2, dl2⟩ := ok2.tell i _ (getD_some ec)
          rw [h1] at h2
          cases h2
          cases ew
          refine ⟨a, xs2, ka, ja, rfl, rfl, ha2, by rw [← dl2.length]; exact ea, ?_⟩
          obtain ⟨ok3, s3⟩ := ok2.writeOwn (ds := ds.set ja d) (xs := xs2.set ja v) h1 hB2 ha2 (DenL.set ja dl2 (Den.tr s2.tr _ _ hd))
          exact q _ _ _ (s1.trans (s2.trans s3)) ok3
        · cases e
      · cases e
    · cases e
  · cases e
end
end L2.Pu
namespace L2.Pu
open PySem PySem.Spec PyProof.Rows
section
variable {X : Cx} {E : St → XK} {K : PySem.W.Frag} {st : Stmt} {H₀ : Hp} {B : Ow} {bg : Option (Addr × Addr)} {H H' : Hp} {δ : Ds} {β β' : Bg} {σ : St}
theorem SOk.AtoB (ok : SOk K H₀ B bg H δ β σ) : ∀ c, (FxB B bg).A c → (FxA B bg).A c ∨ ∃ xs, H c = some (.lst xs) := fun c hc => by
  have hc' : B c ≠ none := hc
  cases q : B c with
  | none => exact absurd q hc'
  | some k =>
    match k, q with
    | 0, q => exact .inl (.inl q)
    | 1, q => exact .inl (.inr q)
    | k + 2, q => exact .inr (ok.lst c k q)
theorem SOk.noB {d : D} {v : V} (ok : SOk K H₀ B bg H δ β σ) (hn : noL d = true) (h : Den K (FxA B bg) H d v) : Den K (FxB B bg) H d v := noL_den ok.AtoB d v hn h
noncomputable def gIt2A (i : Nat) (fa fb fv : Dn → M D) : G := fun δ β => match fv (vwA δ) β with
  | some (.ok d, β1) => match fa (vwA δ) β1 with
    | some (.ok (.int ka), β2) => match fb (vwA δ) β2 with
      | some (.ok (.int kb), β3) => match δ.getD i none with
        | some (.grd rows) => match ixN rows.length ka with
          | some ja => match rows[ja]? with
            | some ds => match ixN ds.length kb with
              | some jb => if noL d = true then some (.nx (δ.set i (some (.grd (rows.set ja (ds.set jb d))))), β3) else none
              | none => none
            | none => none
          | none => none
        | _ => none
      | _ => none
    | _ => none
  | _ => none
theorem s_it2A {i : Nat} {fa fb fv : Dn → M D} (h : PS X st (tAsg (tV X.K fv E) (gSub (tOp (rIxL X.K) (tVar i) (tV X.K fa E)) (tV X.K fb E) rSetL))) : PS X st (tG X.K X.H₀ (gIt2A i fa fb fv) E) := h.imp fun D σ H h_ => by
  obtain ⟨B, bg, δ, β, o, β', ok, e, q⟩ := h_
  refine ⟨FxA B bg, vwA δ, β, ok.frA, ok.viewA, ?_⟩
  unfold gIt2A at e
  split at e
  · rename_i d β1 e1
    refine ⟨.ok d, _, e1, fun v H1 t1 hd => ?_⟩
    obtain ⟨ok1, s1⟩ := ok.to rfl t1
    split at e
    · rename_i ka β2 e2
      split at e
      · rename_i kb β3 e3
        split at e
        · rename_i rows ec
          split at e
          · rename_i ja ea
            split at e
            · rename_i ds er
              split at e
              · rename_i jb eb
                split at e
                · rename_i hnl
                  cases e
                  have hd := ok1.noB hnl hd
                  obtain ⟨w, h1, a, rs, rfl, hB, ha, nd, rl⟩ := ok1.tell i _ (getD_some ec)
                  refine ⟨_, h1, FxA B bg, vwA δ, β1, ok1.frA, ok1.viewA, .ok (.int ka), β2, e2, fun y H2 t2 hy => ?_⟩
                  cases hy
                  obtain ⟨ok2, s2⟩ := ok1.to (F := FxA B bg) rfl t2
                  obtain ⟨w2, h2, a2, rs2, ew, hB2, ha2, nd2, rl2⟩ := ok2.tell i _ (getD_some ec)
                  rw [h1] at h2
                  cases h2
                  cases ew
                  obtain ⟨r, xs, hr, hp, hx, dl⟩ := rl2.at er
                  refine ⟨a, rs2.map V.ref, ka, .ref r, rfl, rfl, SqL.of ha2, ?_, ?_⟩
                  · unfold atI
                    rw [List.length_map, ← rl2.len, ea]
                    show (rs2.map V.ref)[ja]? = _
                    rw [List.getElem?_map, hr]; rfl
                  · refine ⟨FxA B bg, vwA δ, β2, ok2.frA, ok2.viewA, .ok (.int kb), _, e3, fun z H3 t3 hz => ?_⟩
                    cases hz
                    obtain ⟨ok3, s3⟩ := ok2.to (F := FxA B bg) rfl t3
                    obtain ⟨w3, h3, a3, rs3, ew3, hB3, ha3, nd3, rl3⟩ := ok3.tell i _ (getD_some ec)
                    rw [h1] at h3
                    cases h3
                    cases ew3
                    have ers : rs2 = rs3 := by
                      have k1 : H3 a = some (.lst (rs2.map V.ref)) := t3.kp a _ ha2 (fun b l y => ⟨fun w => (by subst w; rw [(ok.bgt _ _ y).1] at hB2; cases hB2), fun w => (by subst w; rw [(ok.bgt _ _ y).2] at hB2; cases hB2)⟩)
                      rw [ha3] at k1
                      have k2 : rs3.map V.ref = rs2.map V.ref := by injection k1 with k1; injection k1
                      exact (List.map_inj_right (fun a b q => by cases q; rfl) |>.mp k2).symm
                    subst ers
                    obtain ⟨r', xs', hr', hp', hx', dl'⟩ := rl3.at er
                    rw [hr] at hr'
                    cases hr'
                    have hv3 : Den X.K (FxB B bg) H3 d v := Den.tr (s3.tr) _ _ (Den.tr (s2.tr) _ _ hd)
                    refine ⟨r, xs', kb, jb, rfl, rfl, hx', by rw [← dl'.length]; exact eb, ?_⟩
                    obtain ⟨ok4, s4⟩ := ok3.writeRow (ds := ds.set jb d) (xs := xs'.set jb v) h1 hB3 ha3 nd3 rl3 hr hx' (DenL.set jb dl' hv3)
                    exact q _ _ _ (s1.trans (s2.trans (s3.trans s4))) ok4
                · cases e
              · cases e
            · cases e
          · cases e
        · cases e
      · cases e
    · cases e
  · cases e
end
end L2.Pu
namespace L2.Pu
open PySem PySem.Spec PyProof.Rows
section
variable {X : Cx} {E : St → XK} {K : PySem.W.Frag} {a b e : Expr} {es : List Expr} {pos : Pos}
end
end L2.Pu
namespace L2.Pu
open PySem PySem.Spec PyProof.Rows
section
variable {X : Cx} {E : St → XK} {K : PySem.W.Frag}
end
end L2.Pu
namespace L2.Pu
open PySem PySem.Spec PyProof.Rows
inductive Sr (α : Type) where
  | kw (j : Nat) | df (a : α)
noncomputable def Sr.pick {α : Type} (z : α) (ws : List α) : Sr α → α
  | .kw j => ws.getD j z
  | .df a => a
noncomputable def gK {α : Type} (z : α) (n k : Nat) (src : List (Sr α)) (us ws : List α) : List α := if us.length = n ∧ ws.length = k then us ++ src.map (Sr.pick z ws) else []
inductive SrR {α γ : Type} (R : α → γ → Prop) : List (Sr α) → List (Sr γ) → Prop where
  | nil : SrR R [] []
  | kw {j : Nat} {a : List (Sr α)} {c : List (Sr γ)} : SrR R a c → SrR R (.kw j :: a) (.kw j :: c)
  | df {x : α} {y : γ} {a : List (Sr α)} {c : List (Sr γ)} : R x y → SrR R a c → SrR R (.df x :: a) (.df y :: c)
theorem Vals.getD : ∀ {zs : List V} {ws : List Value} (j : Nat), Vals zs ws → RelV (zs.getD j .non) (ws.getD j .none)
  | _, _, _, .nil => rfl
  | _, _, 0, .cons r _ => r
  | _, _, j + 1, .cons _ t => Vals.getD j t
theorem SrR.vals {zs : List V} {ws : List Value} (r : Vals zs ws) : ∀ {a : List (Sr V)} {c : List (Sr Value)}, SrR RelV a c → Vals (a.map (Sr.pick .non zs)) (c.map (Sr.pick .none ws))
  | _, _, .nil => .nil
  | _, _, .kw (j := j) h => .cons (Vals.getD j r) (SrR.vals r h)
  | _, _, .df q h => .cons q (SrR.vals r h)
theorem DenL.getD {K : PySem.W.Frag} {F : Fx} {H : Hp} : ∀ {ds : List D} {zs : List V} (j : Nat), DenL K F H ds zs → Den K F H (ds.getD j .non) (zs.getD j .non)
  | [], zs, j, h => by have q : zs = [] := h; subst q; rfl
  | d :: ds, zs, 0, h => by
    obtain ⟨x, r, e, h1, h2⟩ := h
    subst e; exact h1
  | d :: ds, zs, j + 1, h => by
    obtain ⟨x, r, e, h1, h2⟩ := h
    subst e; exact DenL.getD j h2
theorem SrR.den {K : PySem.W.Frag} {F : Fx} {H : Hp} {ds : List D} {zs : List V} (r : DenL K F H ds zs) : ∀ {a : List (Sr D)} {c : List (Sr V)}, SrR (fun d v => ∀ F H, Den K F H d v) a c → DenL K F H (a.map (Sr.pick .non ds)) (c.map (Sr.pick .non zs))
  | _, _, .nil => DenL.nil
  | _, _, .kw (j := j) h => DenL.cons (DenL.getD j r) (SrR.den r h)
  | _, _, .df q h => DenL.cons (q F H) (SrR.den r h)
theorem SrR.len {α γ : Type} {R : α → γ → Prop} : ∀ {a : List (Sr α)} {c : List (Sr γ)}, SrR R a c → a.length = c.length
  | _, _, .nil => rfl
  | _, _, .kw h => by rw [List.length_cons, List.length_cons, SrR.len h]
  | _, _, .df _ h => by rw [List.length_cons, List.length_cons, SrR.len h]
structure KwOk (K : PySem.W.Frag) (fd : FuncData) (ps ks : List Str) (n : Nat) (src : List (Sr D)) : Prop where
  ex : ∃ (sv : List (Sr Value)) (sx : List (Sr V)), SrR RelV sx sv ∧ SrR (fun d v => ∀ F H, Den K F H d v) src sx ∧ ∀ (s : Shared) (us ws : List Value), K.In s.heap → us.length = n → ws.length = ks.length → BindsTo s fd ⟨us, ks.zip ws⟩ (ps.zip (us ++ sv.map (Sr.pick .none ws)))
  len : ps.length = n + src.length
  pos : 0 < ps.length
theorem KwOk.kb {K : PySem.W.Frag} {fd : FuncData} {ps ks : List Str} {n : Nat} {src : List (Sr D)} (h : KwOk K fd ps ks n src) : ∃ (sv : List (Sr Value)) (sx : List (Sr V)), SrR (fun d v => ∀ F H, Den K F H d v) src sx ∧ KBinds K fd ps ks (gK .none n ks.length sv) (gK .non n ks.length sx) := by
  obtain ⟨sv, sx, r1, r2, b⟩ := h.ex
  refine ⟨sv, sx, r2, fun s us ws KX hl => ?_, fun {vs us zs ws} h1 h2 => ?_⟩
  · unfold gK at hl ⊢
    split at hl
    · rename_i q
      rw [if_pos q]
      exact b s us ws KX q.1 q.2
    · exact absurd hl (by have := h.pos; simp; omega)
  · unfold gK
    by_cases q : vs.length = n ∧ zs.length = ks.length
    · rw [if_pos q, if_pos (by rw [← h1.length, ← h2.length]; exact q)]
      exact h1.append (SrR.vals h2 r1)
    · rw [if_neg q, if_neg (by rw [← h1.length, ← h2.length]; exact q)]
      exact .nil
section
variable {X : Cx} {E : St → XK} {e : Expr} {es : List Expr} {pos p kpos : Pos} {x : Str} {k n : Nat} {f : Addr} {fd : FuncData} {ps ks : List Str} {kws : List Keyword} {nm : Option Str}
theorem vk_nil : PK X [] (tVA X.K aNil E) := fun pos pins s σ H Q I h_ => by obtain ⟨F, δ, β, fr, vk, r⟩ := h_; exact pk_nil pos pins s σ H Q I (run.ret fr r DenL.nil)
theorem vk_cons {f : Dn → M D} {g : Dn → M (List D)} (ha : PE X e (tV X.K f E)) (hr : PK X kws (tVA X.K g E)) : PK X (⟨nm, e, kpos⟩ :: kws) (tVA X.K (aCons f g) E) := fun pos pins s σ H Q I ⟨F, δ, β, fr, vk, r⟩ =>
  pk_cons ha hr pos pins s σ H Q I ⟨F, δ, β, fr, vk, (run.bind (R := Den X.K F) r).mono fun v H1 ⟨d, β1, t, hd, r1⟩ =>
    ⟨F, δ, β1, t.fr, vk.tr (t.tr fr), (run.bind (R := DenL X.K F) r1).mono fun vs H2 h_ => ex5 h_ fun ds β2 t2 hds r2 => run.ret t2.fr r2 (DenL.cons (Den.tr (t2.tr t.fr) _ _ hd) hds)⟩⟩
end
end L2.Pu
namespace L2.Pu
open PySem PySem.Spec PyProof.Rows
section
variable {X : Cx} {E : St → XK} {e : Expr} {es : List Expr} {pos p kpos : Pos} {x : Str} {k n : Nat} {f : Addr} {fd : FuncData} {ps ks : List Str}
end
end L2.Pu
namespace L2.Pu
open PySem PySem.Spec PyProof.Rows
section
variable {X : Cx} {E : St → XK} {K : PySem.W.Frag} {st : Stmt}
end
end L2.Pu
namespace L2.Pu
open PySem PySem.Spec
noncomputable def Gw (g : G) (δ : Ds) (β : Bg) (Q : Out → Bg → Prop) : Prop := ∃ o β', g δ β = some (o, β') ∧ Q o β'
section
variable {g h a b g1 g2 : G} {δ δ1 : Ds} {β β1 β2 β3 : Bg} {Q R : Out → Bg → Prop} {i : Nat} {f fa fb fv : Dn → M D} {fl : Dn → M (List D)} {fg : Dn → M (List (List D))} {d x y z : D} {ds as : List D} {t : Dn → M Bool} {c : Bool} {C : Addr} {K : PySem.W.Frag}
theorem Gw.mono (k : Gw g δ β R) (q : ∀ o β, R o β → Q o β) : Gw g δ β Q := let ⟨o, β', e, r⟩ := k; ⟨o, β', e, q _ _ r⟩
theorem seq_nil : gSeq g gNil = g := by
  funext δ β
  unfold gSeq gNil
  split
  · rename_i δ1 β1 e; exact e.symm
  · rfl
theorem w_last (k : Gw (gSeq g gNil) δ β Q) : Gw g δ β Q := by rw [seq_nil] at k; exact k
theorem w_end (q : Q (.nx δ) β) : Gw gNil δ β Q := ⟨_, _, rfl, q⟩
theorem w_seq (e : g δ β = some (.nx δ1, β1)) (k : Gw h δ1 β1 Q) : Gw (gSeq g h) δ β Q := by
  obtain ⟨o, β', e', q⟩ := k
  exact ⟨o, β', by unfold gSeq; rw [e]; exact e', q⟩
theorem w_assoc (k : Gw (gSeq a (gSeq b h)) δ β Q) : Gw (gSeq (gSeq a b) h) δ β Q := by
  obtain ⟨o, β', e', q⟩ := k
  refine ⟨o, β', ?_, q⟩
  rw [← e']
  unfold gSeq
  split <;> rename_i e <;> (split at e <;> simp_all)
theorem w_nil (k : Gw h δ β Q) : Gw (gSeq gNil h) δ β Q := w_seq rfl k
theorem w_set (e : f (vw δ) β = some (.ok d, β1)) (k : Gw h (δ.set i (some (.sh d))) β1 Q) : Gw (gSeq (gSet i f) h) δ β Q := w_seq (by unfold gSet; rw [e]) k
theorem w_setF (e : f (vwA δ) β = some (.ok d, β1)) (k : Gw h (δ.set i (some (.sh d))) β1 Q) (hf : flatD d = true := by rfl) : Gw (gSeq (gSetF i f) h) δ β Q := w_seq (by unfold gSetF; simp only [e, hf, if_true]) k
theorem w_stop (e : g δ β = some (.ex C δ1, β1)) (q : Q (.ex C δ1) β1) : Gw (gSeq g h) δ β Q := ⟨_, _, by unfold gSeq; rw [e], q⟩
theorem w_expr (e : f (vwA δ) β = some (.ok d, β1)) (k : Gw h δ β1 Q) : Gw (gSeq (gExpr f) h) δ β Q := w_seq (by unfold gExpr; rw [e]) k
theorem w_exprX (e : f (vwA δ) β = some (.error C, β1)) (q : Q (.ex C δ) β1) : Gw (gSeq (gExpr f) h) δ β Q := w_stop (by unfold gExpr; rw [e]) q
theorem w_if (e : t (vwA δ) β = some (.ok c, β1)) (k : Gw (gSeq (if c = true then g1 else g2) h) δ β1 Q) : Gw (gSeq (gIf t g1 g2) h) δ β Q := by
  obtain ⟨o, β', e', q⟩ := k
  refine ⟨o, β', ?_, q⟩
  rw [← e']
  unfold gSeq gIf
  rw [e]
  cases c <;> rfl
theorem w_ifT (e : t (vwA δ) β = some (.ok true, β1)) (k : Gw (gSeq g1 h) δ β1 Q) : Gw (gSeq (gIf t g1 g2) h) δ β Q := w_if e k
theorem w_ifF (e : t (vwA δ) β = some (.ok false, β1)) (k : Gw (gSeq g2 h) δ β1 Q) : Gw (gSeq (gIf t g1 g2) h) δ β Q := w_if e k
theorem w_ret (e : f (vwA δ) β = some (.ok d, β1)) (q : Q (.rt d) β1) : Gw (gSeq (gRet f) h) δ β Q := ⟨_, _, by unfold gSeq gRet; rw [e], q⟩
theorem w_raise (e : fl (vwA δ) β = some (.ok ds, β1)) (q : Q (.ex C δ) β1) : Gw (gSeq (gRaise C fl) h) δ β Q := w_stop (by unfold gRaise; rw [e]) q
theorem w_grd {rows : List (List D)} (e : fg (vw δ) β = some (.ok rows, β1)) (hn : rows.all noLs = true) (k : Gw h (δ.set i (some (.grd rows))) β1 Q) : Gw (gSeq (gGrd i fg) h) δ β Q := w_seq (by unfold gGrd; simp only [e, hn, if_true]) k
theorem w_it2 {rows : List (List D)} {ka kb : Int} {ja jb : Nat} (e1 : fv (vwA δ) β = some (.ok d, β1)) (e2 : fa (vwA δ) β1 = some (.ok (.int ka), β2)) (e3 : fb (vwA δ) β2 = some (.ok (.int kb), β3)) (eg : δ.getD i none = some (.grd rows))
    (h1 : ixN rows.length ka = some ja) (h2 : rows[ja]? = some ds) (h3 : ixN ds.length kb = some jb) (hn : noL d = true) (k : Gw h (δ.set i (some (.grd (rows.set ja (ds.set jb d))))) β3 Q) : Gw (gSeq (gIt2A i fa fb fv) h) δ β Q :=
  w_seq (by unfold gIt2A; simp only [e1, e2, e3, eg, h1, h2, h3, hn, if_true]) k
theorem w_item {cs : List D} {ka : Int} {ja : Nat} (e1 : fv (vw δ) β = some (.ok d, β1)) (e2 : fa (vwA δ) β1 = some (.ok (.int ka), β2)) (eg : δ.getD i none = some (.own cs)) (h1 : ixN cs.length ka = some ja) (k : Gw h (δ.set i (some (.own (cs.set ja d)))) β2 Q) : Gw (gSeq (gItem i fa fv) h) δ β Q :=
  w_seq (by unfold gItem; simp only [e1, e2, eg, h1]) k
theorem w_try {hd : Gh} (k : Gw g δ β (fun o β1 => match o with | .nx δ1 => Gw h δ1 β1 Q | .ex C δ1 => Gw (gSeq (hd C) h) δ1 β1 Q | o => Q o β1)) : Gw (gSeq (gTry g hd) h) δ β Q := by
  obtain ⟨o, β', e', q⟩ := k
  cases o with
  | nx δ1 => exact w_seq (by unfold gTry; rw [e']) q
  | ex C δ1 =>
    obtain ⟨o, β2, e2, q2⟩ := q
    refine ⟨o, β2, ?_, q2⟩
    rw [← e2]
    unfold gSeq gTry
    rw [e']
  | _ => exact ⟨_, β', by unfold gSeq gTry; rw [e'], q⟩
theorem w_hT {Dc : Addr} {r : Gh} (e : PySem.W.exmOne K (.ref C) (.ref Dc) = some true) (k : Gw (gSeq g h) δ β Q) : Gw (gSeq (hOne K Dc g r C) h) δ β Q := by
  obtain ⟨o, β', e', q⟩ := k
  refine ⟨o, β', ?_, q⟩
  rw [← e']
  unfold gSeq hOne
  rw [e]
theorem w_hF {Dc : Addr} {r : Gh} (e : PySem.W.exmOne K (.ref C) (.ref Dc) = some false) (k : Gw (gSeq (r C) h) δ β Q) : Gw (gSeq (hOne K Dc g r C) h) δ β Q := by
  obtain ⟨o, β', e', q⟩ := k
  refine ⟨o, β', ?_, q⟩
  rw [← e']
  unfold gSeq hOne
  rw [e]
noncomputable def Tn (I : Ds → Bg → Prop) (h : G) (Q : Out → Bg → Prop) : Out → Bg → Prop := fun o β => match o with
  | .nx δ => I δ β
  | .ct δ => I δ β
  | .bk δ => Gw h δ β Q
  | o => Q o β
theorem w_for {it : Dn → M (List D)} {tg : TgS} (e : it (vw δ) β = some (.ok ds, β1)) (Iv : Nat → Ds → Bg → Prop) (h0 : Iv 0 δ β1) (step : ∀ i d δ β, ds[i]? = some d → Iv i δ β → ∃ δ1, tg d δ = some δ1 ∧ Gw g δ1 β (Tn (Iv (i + 1)) h Q)) (k : ∀ δ β, Iv ds.length δ β → Gw h δ β Q) :
    Gw (gSeq (gFor it tg g) h) δ β Q := by
  have gen : ∀ (es : List D) (j : Nat) (δ : Ds) (β : Bg), es = ds.drop j → j + es.length = ds.length → Iv j δ β → Gw (gSeq (gLp tg g es) h) δ β Q := by
    intro es
    induction es with
    | nil =>
      intro j δ β _ hl hv
      simp at hl
      exact w_seq (g := gLp tg g []) rfl (k δ β (hl ▸ hv))
    | cons d es ih =>
      intro j δ β he hl hv
      have hj : ds[j]? = some d := by
        have := congrArg (fun l => l[0]?) he
        simpa [List.getElem?_drop] using this.symm
      obtain ⟨δ1, e1, o, β2, e2, q⟩ := step j d δ β hj hv
      have he' : es = ds.drop (j + 1) := by
        have := congrArg List.tail he
        simpa [List.tail_drop] using this
      have go : ∀ δ2, Iv (j + 1) δ2 β2 → Gw (gSeq (gLp tg g es) h) δ2 β2 Q := fun δ2 hv2 => ih (j + 1) δ2 β2 he' (by simp at hl; omega) hv2
      have lift : ∀ {r : G} {δ2 : Ds}, Gw (gSeq r h) δ2 β2 Q → gLp tg g (d :: es) δ β = r δ2 β2 → Gw (gSeq (gLp tg g (d :: es)) h) δ β Q := fun {r δ2} ⟨o', β', e', q'⟩ er => ⟨o', β', by rw [← e']; unfold gSeq; rw [er], q'⟩
      cases o with
      | nx δ2 => exact lift (r := gLp tg g es) (go δ2 q) (by rw [gLp]; simp only [e1, e2])
      | ct δ2 => exact lift (r := gLp tg g es) (go δ2 q) (by rw [gLp]; simp only [e1, e2])
      | bk δ2 => exact lift (r := gNil) (w_nil q) (by rw [gLp]; simp only [e1, e2]; rfl)
      | rt d' => exact ⟨_, β2, by unfold gSeq; rw [gLp]; simp only [e1, e2], q⟩
      | rg d' => exact ⟨_, β2, by unfold gSeq; rw [gLp]; simp only [e1, e2], q⟩
      | ex C δ2 => exact ⟨_, β2, by unfold gSeq; rw [gLp]; simp only [e1, e2], q⟩
  obtain ⟨o, β', e', q⟩ := gen ds 0 δ β1 (by simp) (by simp) h0
  refine ⟨o, β', ?_, q⟩
  rw [← e']
  unfold gSeq gFor
  rw [e]
theorem body_w {n : Nat} {S : Except Addr D → Bg → Prop} (k : Gw g (stD n ds) β (fun o β' => match o with | .rt d => S (.ok d) β' | .nx _ => S (.ok .non) β' | .ex C _ => S (.error C) β' | _ => False)) : ∃ r β', bodyM n g ds β = some (r, β') ∧ S r β' := by
  obtain ⟨o, β', e, q⟩ := k
  cases o with
  | rt d => exact ⟨.ok d, β', by unfold bodyM; rw [e], q⟩
  | nx δ => exact ⟨.ok .non, β', by unfold bodyM; rw [e], q⟩
  | ex C δ => exact ⟨.error C, β', by unfold bodyM; rw [e], q⟩
  | _ => exact q.elim
theorem body_e {n : Nat} {r : Except Addr D} (k : Gw g (stD n ds) β (fun o β' => β' = β ∧ (match o with | .rt d => r = .ok d | .nx _ => r = .ok .non | .ex C _ => r = .error C | _ => False))) : bodyM n g ds β = some (r, β) := by
  obtain ⟨r', β', e, q1, q2⟩ := body_w (S := fun r' β' => β' = β ∧ r = r') (n := n) (ds := ds) (β := β) (k.mono fun o β' h => by
    cases o <;> first | exact h | exact h.2)
  subst q1 q2
  exact e
theorem x_call {m : List D → M D} {r : Except Addr D × Bg} {δ : Dn} (e1 : fl δ β = some (.ok as, β1)) (e2 : m as β1 = some r) : fCall m fl δ β = some r := by unfold fCall M.bind; rw [e1]; exact e2
theorem x_2 {op : D → D → Option D} {δ : Dn} (e1 : fa δ β = some (.ok x, β1)) (e2 : fb δ β1 = some (.ok y, β2)) (e3 : op x y = some z) : f2 op fa fb δ β = some (.ok z, β2) := by unfold f2 M.bind; rw [e1]; simp only [e2, M.ofO, e3]
theorem x_args {op : List D → Option D} {δ : Dn} (e1 : fl δ β = some (.ok as, β1)) (e3 : op as = some z) : fArgs op fl δ β = some (.ok z, β1) := by unfold fArgs M.bind; rw [e1]; simp only [M.ofO, e3]
theorem x_cons {δ : Dn} (e1 : fa δ β = some (.ok x, β1)) (e2 : fl δ β1 = some (.ok as, β2)) : aCons fa fl δ β = some (.ok (x :: as), β2) := by unfold aCons M.bind; rw [e1]; simp only [e2, M.ret]
theorem x_nargs {op : List D → Option (List D)} {δ : Dn} (e1 : fl δ β = some (.ok as, β1)) (e2 : op as = some ds) : nArgs op fl δ β = some (.ok ds, β1) := by unfold nArgs M.bind; rw [e1]; simp only [e2, M.ofO]
theorem x_nseq {δ : Dn} (e1 : fa δ β = some (.ok x, β1)) (e2 : seqOf x = some ds) : nSeq fa δ β = some (.ok ds, β1) := by unfold nSeq M.bind; rw [e1]; simp only [e2, M.ofO]
theorem x_B {δ : Dn} (e1 : fa δ β = some (.ok (.bl c), β1)) : fB fa δ β = some (.ok c, β1) := by unfold fB M.bind; rw [e1]; rfl
theorem x_tru {δ : Dn} (e1 : fa δ β = some (.ok x, β1)) (e2 : truD x = some c) : fTru fa δ β = some (.ok c, β1) := by unfold fTru M.bind; rw [e1]; simp only [M.ofO, e2]
theorem x_not {δ : Dn} (e1 : t δ β = some (.ok c, β1)) : fNotT t δ β = some (.ok (!c), β1) := by unfold fNotT M.bind; rw [e1]; rfl
theorem pull_ex (ok : β.ok) {lot : Int} (h0 : 0 < lot) (h1 : lot < 1073741824) : ∃ v β', mPull [.bag, .int lot] β = some (.ok (.int v), β') ∧ 0 ≤ v ∧ v < lot ∧ β'.ok := by
  obtain ⟨a0, a1, ok1⟩ := pull_ok ok h0
  exact ⟨_, _, mPull_eq ok h0 h1, a0, a1, ok1⟩
theorem ixN_in {n : Nat} {k : Int} (h0 : 0 ≤ k) (h1 : k < n) : ixN n k = some k.toNat := by unfold ixN; rw [if_pos h0, if_pos h1]
theorem ix_lst {xs : List D} {k : Int} {d : D} (h0 : 0 ≤ k) (h : xs[k.toNat]? = some d) : ixD (.lst xs) (.int k) = some d := by
  have hl : k.toNat < xs.length := (List.getElem?_eq_some_iff.mp h).1
  show atI xs k = some d
  unfold atI
  rw [ixN_in h0 (by omega)]
  exact h
theorem ixt0 {x y : D} : ixD (.tup [x, y]) (.int 0) = some x := rfl
theorem ixt1 {x y : D} : ixD (.tup [x, y]) (.int 1) = some y := rfl
end
end L2.Pu
namespace L2.Pu
open PySem PySem.Spec
section
variable {β β1 β2 : Bg} {f g h i : Dn → M D} {t u : Dn → M Bool} {δ : Dn} {c e : Bool} {x y z w : Int} {d : D}
theorem x_orP (e1 : t δ β = some (.ok c, β)) (e2 : u δ β = some (.ok e, β)) : fOrT t u δ β = some (.ok (c || e), β) := by
  unfold fOrT M.bind; rw [e1]; cases c <;> simp [M.ret, e2]
theorem x_andP (e1 : t δ β = some (.ok c, β)) (e2 : u δ β = some (.ok e, β)) : fAndT t u δ β = some (.ok (c && e), β) := by
  unfold fAndT M.bind; rw [e1]; cases c <;> simp [M.ret, e2]
theorem x_vandT (e1 : f δ β = some (.ok (.bl true), β1)) (e2 : g δ β1 = some (.ok d, β2)) : fAnd f g δ β = some (.ok d, β2) := by
  unfold fAnd M.bind; rw [e1]; simp [asB, M.ofO, e2]
theorem x_vandF (e1 : f δ β = some (.ok (.bl false), β1)) : fAnd f g δ β = some (.ok (.bl false), β1) := by
  unfold fAnd M.bind; rw [e1]; simp [asB, M.ofO, M.ret]
theorem x_vandP (e1 : f δ β = some (.ok (.bl c), β)) (e2 : g δ β = some (.ok (.bl e), β)) : fAnd f g δ β = some (.ok (.bl (c && e)), β) := by
  cases c
  · exact x_vandF e1
  · exact x_vandT e1 e2
theorem le_int : leD (.int x) (.int y) = some (.bl (decide (x ≤ y))) := rfl
theorem lt_int : ltD (.int x) (.int y) = some (.bl (decide (x < y))) := rfl
theorem gt_int : gtD (.int x) (.int y) = some (.bl (decide (y < x))) := rfl
theorem ge_int : geD (.int x) (.int y) = some (.bl (decide (y ≤ x))) := rfl
theorem x_chain (e1 : f δ β = some (.ok (.int x), β)) (e2 : g δ β = some (.ok (.int y), β)) (e3 : h δ β = some (.ok (.int z), β)) : fChain leD leD f g h δ β = some (.ok (.bl (decide (x ≤ y) && decide (y ≤ z))), β) := by
  unfold fChain M.bind
  rw [e1]
  simp only [e2, le_int, M.ofO, asB]
  by_cases q : x ≤ y
  · simp only [q, decide_true, if_true, e3, le_int, Bool.true_and]
  · simp only [q, decide_false, Bool.false_eq_true, if_false, M.ret, Bool.false_and]
theorem log_small {x : Int} (h0 : -1000000 ≤ x) (h1 : x ≤ 1000000) : x.natAbs.log2 < 1920 := by
  have h : x.natAbs < 2 ^ 20 := by omega
  by_cases z : x.natAbs = 0
  · rw [z]; decide
  · have := (Nat.log2_lt z).mpr h
    omega
theorem x_jf {j : Dn → M Unit} (e1 : f δ β = some (.ok (.int x), β)) (h0 : -1000000 ≤ x) (h1 : x ≤ 1000000) (e2 : j δ β = some (.ok (), β)) : jfInt f j δ β = some (.ok (), β) := by
  unfold jfInt M.bind
  rw [e1]
  simp only [log_small h0 h1, if_true, e2]
theorem x_fstr {j : Dn → M Unit} (e1 : j δ β = some (.ok (), β)) : fFstr j δ β = some (.ok .txt, β) := by
  unfold fFstr M.bind; rw [e1]; rfl
end
end L2.Pu
namespace L2.Pu
open PySem PySem.Spec
theorem w_mid {g h : G} {δ : Ds} {β : Bg} {Q : Out → Bg → Prop} (P : Ds → Bg → Prop) (k1 : Gw g δ β (fun o β1 => ∃ δ1, o = .nx δ1 ∧ P δ1 β1)) (k2 : ∀ δ1 β1, P δ1 β1 → Gw h δ1 β1 Q) : Gw (gSeq g h) δ β Q := by
  obtain ⟨o, β1, e, δ1, rfl, p⟩ := k1
  exact w_seq e (k2 δ1 β1 p)
theorem w_endM {δ : Ds} {β : Bg} {P : Ds → Bg → Prop} (p : P δ β) : Gw gNil δ β (fun o β1 => ∃ δ1, o = .nx δ1 ∧ P δ1 β1) := w_end ⟨_, rfl, p⟩
end L2.Pu
namespace L2.Pu
open PySem PySem.Spec
noncomputable abbrev gI (rows : List (List Int)) : List (List D) := rows.map fun r => r.map D.int
noncomputable abbrev lG (rows : List (List D)) : D := .lst (rows.map D.lst)
noncomputable abbrev gridD (rows : List (List Int)) : D := lG (gI rows)
noncomputable def pD (p : Int × Int) : D := .tup [.int p.1, .int p.2]
noncomputable def Shp {α : Type} (r c : Nat) (m : List (List α)) : Prop := m.length = r ∧ ∀ row ∈ m, row.length = c
noncomputable def tot (rows : List (List Int)) : Int := (rows.map List.sum).sum
theorem line9 {n : Nat} (h : n ≤ 1000) : n ≤ sizeLine := Nat.le_trans h (by decide)
theorem noLs_ints : ∀ r : List Int, noLs (r.map D.int) = true
  | [] => rfl
  | x :: r => by
    show (noL (.int x) && noLs (r.map D.int)) = true
    rw [noLs_ints r]; rfl
theorem Shp.set {α : Type} {r c i j : Nat} {m : List (List α)} {row : List α} {v : α} (h : Shp r c m) (hr : m[i]? = some row) : Shp r c (m.set i (row.set j v)) := ⟨by rw [List.length_set, h.1], fun x hx => by
  rcases List.mem_or_eq_of_mem_set hx with hx | rfl
  · exact h.2 x hx
  · rw [List.length_set]; exact h.2 row (List.mem_of_getElem? hr)⟩
theorem Shp.at {α : Type} {r c i : Nat} {m : List (List α)} (h : Shp r c m) (hi : i < r) : ∃ row, m[i]? = some row ∧ row.length = c := by
  have hl : i < m.length := by rw [h.1]; exact hi
  exact ⟨m[i], List.getElem?_eq_getElem hl, h.2 _ (List.getElem_mem hl)⟩
theorem at_lt {α : Type} {l : List α} {i : Nat} (h : i < l.length) : ∃ x, l[i]? = some x := ⟨l[i], List.getElem?_eq_getElem h⟩
theorem sum_set : ∀ {xs : List Int} {j : Nat} {x v : Int}, xs[j]? = some x → (xs.set j v).sum = xs.sum - x + v
  | [], j, x, v, h => by simp at h
  | y :: xs, 0, x, v, h => by
    simp at h; subst h
    simp only [List.set_cons_zero, List.sum_cons]; omega
  | y :: xs, j + 1, x, v, h => by
    have h' : xs[j]? = some x := by simpa using h
    simp only [List.set_cons_succ, List.sum_cons, sum_set h']; omega
theorem tot_set {rows : List (List Int)} {i j : Nat} {row : List Int} {x v : Int} (h1 : rows[i]? = some row) (h2 : row[j]? = some x) : tot (rows.set i (row.set j v)) = tot rows - x + v := by
  unfold tot
  rw [List.map_set, sum_set (x := row.sum) (by rw [List.getElem?_map, h1]; rfl), sum_set h2]
  omega
theorem nn_set {rows : List (List Int)} {i j : Nat} {row : List Int} {v : Int} (h : ∀ r ∈ rows, ∀ x ∈ r, 0 ≤ x) (hr : rows[i]? = some row) (hv : 0 ≤ v) : ∀ r ∈ rows.set i (row.set j v), ∀ x ∈ r, 0 ≤ x := fun r hr' x hx => by
  rcases List.mem_or_eq_of_mem_set hr' with hr' | rfl
  · exact h r hr' x hx
  · rcases List.mem_or_eq_of_mem_set hx with hx | rfl
    · exact h row (List.mem_of_getElem? hr) x hx
    · exact hv
structure Tab (r c : Nat) (rows : List (List Int)) : Prop where
  shp : Shp r c rows
  nn : ∀ row ∈ rows, ∀ x ∈ row, 0 ≤ x
  tot : tot rows ≤ 40
  r0 : 1 ≤ r
  r1 : r ≤ 4
  c0 : 1 ≤ c
  c1 : c ≤ 6
theorem sum_int (ns : List Int) : sumAD [.lst (ns.map D.int)] = some (.int ns.sum) := by
  show ((intsOf (ns.map D.int)).map fun l => D.int l.sum) = _
  have : ∀ ns : List Int, intsOf (ns.map D.int) = some ns := fun ns => by
    induction ns with
    | nil => rfl
    | cons n ns ih => simp [intsOf, ih]
  rw [this]; rfl
theorem rg1 {n : Int} (h0 : 0 ≤ n) (h : n ≤ 10 ^ 9) : rng1 [.int n] = some (rangeL 0 n.toNat) := by
  have q : (decide (-(2 ^ 62) ≤ n) && decide (n < 2 ^ 62)) = true := by
    simp only [Bool.and_eq_true, decide_eq_true_eq]
    omega
  show (if (decide (-(2 ^ 62) ≤ n) && decide (n < 2 ^ 62)) = true then some (rangeL 0 n.toNat) else none) = _
  rw [if_pos q]
theorem rg_at {n k : Nat} {d : D} (h : (rangeL 0 n)[k]? = some d) : k < n ∧ d = .int (k : Int) := by
  unfold rangeL at h
  have hk : k < n := by
    have := (List.getElem?_eq_some_iff.mp h).1
    simpa using this
  rw [List.getElem?_map, List.getElem?_range hk] at h
  exact ⟨hk, by cases h; simp⟩
theorem comp_map {α : Type} {nv : Nat} {caps : List Nat} {it : Dn → M (List D)} {tg : TgF} {f : Dn → M D} {δ : Dn} {β : Bg} (xs : List α) (u v : α → D) (h1 : it δ β = some (.ok (xs.map u), β))
    (h2 : ∀ x ∈ xs, ∃ δ1, tg (u x) (cSt nv caps δ) = some δ1 ∧ f δ1 β = some (.ok (v x), β)) (h3 : xs.length ≤ sizeLine) : fComp nv caps it tg (fun _ => M.ret true) (cEm f) δ β = some (.ok (.lst (xs.map v)), β) := by
  refine comp_ok h1 ?_ (by rw [List.length_map]; exact h3)
  have gen : ∀ xs : List α, (∀ x ∈ xs, ∃ δ1, tg (u x) (cSt nv caps δ) = some δ1 ∧ f δ1 β = some (.ok (v x), β)) → cLp tg (fun _ => M.ret true) (cEm f) (xs.map u) (cSt nv caps δ) β = some (.ok (xs.map v), β) := by
    intro xs
    induction xs with
    | nil => intro _; rfl
    | cons x xs ih =>
      intro h
      obtain ⟨δ1, e1, e2⟩ := h x List.mem_cons_self
      have e3 := ih fun y hy => h y (List.mem_cons_of_mem _ hy)
      rw [List.map_cons, cLp]
      simp only [e1, M.bind, M.ret, reduceIte, cEm, e2, e3, List.map_cons, List.cons_append, List.nil_append]
  exact gen xs h2
theorem compG_map {α : Type} {nv : Nat} {caps : List Nat} {it : Dn → M (List D)} {tg : TgF} {f : Dn → M (List D)} {δ : Dn} {β : Bg} (xs : List α) (u : α → D) (v : α → List D) (h1 : it δ β = some (.ok (xs.map u), β))
    (h2 : ∀ x ∈ xs, ∃ δ1, tg (u x) (cSt nv caps δ) = some δ1 ∧ f δ1 β = some (.ok (v x), β)) (h3 : xs.length ≤ sizeLine) : fCompG nv caps it tg (fun _ => M.ret true) (cEmG f) δ β = some (.ok (xs.map v), β) := by
  have gen : ∀ xs : List α, (∀ x ∈ xs, ∃ δ1, tg (u x) (cSt nv caps δ) = some δ1 ∧ f δ1 β = some (.ok (v x), β)) → cLpG tg (fun _ => M.ret true) (cEmG f) (xs.map u) (cSt nv caps δ) β = some (.ok (xs.map v), β) := by
    intro xs
    induction xs with
    | nil => intro _; rfl
    | cons x xs ih =>
      intro h
      obtain ⟨δ1, e1, e2⟩ := h x List.mem_cons_self
      have e3 := ih fun y hy => h y (List.mem_cons_of_mem _ hy)
      rw [List.map_cons, cLpG]
      simp only [e1, M.bind, M.ret, reduceIte, cEmG, e2, e3, List.map_cons, List.cons_append, List.nil_append]
  unfold fCompG
  simp only [h1, gen xs h2, List.length_map, h3, if_true]
theorem rep_ok {ds : List D} {c : Nat} (h1 : ds.length ≤ sizeLine) (h2 : ds.length * c ≤ sizeLine) (hc : c ≤ 1000000) : repO ds (.int (c : Int)) = some (List.replicate c ds).flatten := by
  have q : (decide (-(2 ^ 63) ≤ (c : Int)) && decide ((c : Int) < 2 ^ 63) && decide (ds.length ≤ sizeLine) && decide (ds.length * (c : Int).toNat ≤ sizeLine)) = true := by
    simp only [Bool.and_eq_true, decide_eq_true_eq]
    exact ⟨⟨⟨by omega, by omega⟩, h1⟩, by rw [Int.toNat_natCast]; exact h2⟩
  unfold repO
  simp only [q, if_true]
  rw [Int.toNat_natCast]
theorem flat_rep {α : Type} (x : α) : ∀ c : Nat, (List.replicate c [x]).flatten = List.replicate c x
  | 0 => rfl
  | c + 1 => by rw [List.replicate_succ, List.flatten_cons, flat_rep x c]; rfl
theorem oRep1 {f : Dn → M D} {g : Dn → M D} {x : D} {c : Nat} {δ : Dn} {β : Bg} (e1 : f δ β = some (.ok x, β)) (e2 : g δ β = some (.ok (.int (c : Int)), β)) (hc : c ≤ 1000) : oRep (aCons f aNil) g δ β = some (.ok (List.replicate c x), β) := by
  have l1 : [x].length ≤ sizeLine := by rw [List.length_singleton]; decide
  have l2 : [x].length * c ≤ sizeLine := by rw [List.length_singleton, Nat.one_mul]; exact line9 hc
  have r := rep_ok (ds := [x]) (c := c) l1 l2 (by omega)
  rw [flat_rep] at r
  have s : szL [x] = some [x] := by
    unfold szL
    rw [if_pos l1]
  have e3 : aCons f aNil δ β = some (.ok [x], β) := x_cons e1 rfl
  unfold oRep
  rw [M.bind_ok e3, s, M.bind_some, M.bind_ok e2, r]
  rfl
theorem bools_map (bs : List Bool) : boolsOf (bs.map D.bl) = some bs := by
  induction bs with
  | nil => rfl
  | cons b bs ih => simp [boolsOf, ih]
theorem any_map {α : Type} (xs : List α) (p : α → Bool) : anyD [.lst (xs.map fun x => D.bl (p x))] = some (.bl (xs.any p)) := by
  show (boolsOf _).map _ = _
  rw [show (xs.map fun x => D.bl (p x)) = (xs.map p).map D.bl by rw [List.map_map]; rfl, bools_map]
  simp only [Option.map_some, List.any_map]
  rfl
end L2.Pu
namespace L2.Pu
open PySem PySem.Spec
theorem len_lst {xs : List D} {r : Nat} (h : xs.length = r) : lenD [.lst xs] = some (.int (r : Int)) := by subst h; rfl
theorem ix_lG {rows : List (List D)} {k : Nat} {row : List D} (h : rows[k]? = some row) : ixD (lG rows) (.int (k : Int)) = some (.lst row) := ix_lst (by omega) (by rw [Int.toNat_natCast, List.getElem?_map, h]; rfl)
theorem ix_nat' {xs : List D} {k : Nat} {d : D} (h : xs[k]? = some d) : ixD (.lst xs) (.int (k : Int)) = some d := ix_lst (by omega) (by rw [Int.toNat_natCast]; exact h)
theorem tup2 {x y : D} : opTup [x, y] = some (.tup [x, y]) := by
  unfold opTup
  rw [if_pos (show [x, y].length ≤ sizeLine by rw [List.length_cons, List.length_singleton]; decide)]
theorem eq_int {x y : Int} : eqAD (.int x) (.int y) = some (.bl (decide (x = y))) := by rw [e_eqI]
theorem ne_int {x y : Int} : neAD (.int x) (.int y) = some (.bl (!decide (x = y))) := by rw [e_neI]
theorem map_at {α γ : Type} {f : α → γ} {xs : List α} {i : Nat} {d : γ} (h : (xs.map f)[i]? = some d) : ∃ x, xs[i]? = some x ∧ d = f x := by
  rw [List.getElem?_map] at h
  cases q : xs[i]? with
  | none => rw [q] at h; cases h
  | some x => rw [q] at h; exact ⟨x, rfl, by cases h; rfl⟩
structure PairOk (p : Int × Int) : Prop where
  l : 0 ≤ p.1
  m : p.1 ≤ p.2
  h : p.2 ≤ 40
end L2.Pu
namespace L2.Pu
open PySem PySem.Spec
theorem comp_fm {α : Type} {nv : Nat} {caps : List Nat} {it : Dn → M (List D)} {tg : TgF} {b : Dn → M (List D)} {δ : Dn} {β : Bg} (xs : List α) (u : α → D) (o : α → List D) (h1 : it δ β = some (.ok (xs.map u), β))
    (h2 : ∀ x ∈ xs, ∃ δ1, tg (u x) (cSt nv caps δ) = some δ1 ∧ b δ1 β = some (.ok (o x), β)) (h3 : (xs.flatMap o).length ≤ sizeLine) : fComp nv caps it tg (fun _ => M.ret true) b δ β = some (.ok (.lst (xs.flatMap o)), β) := by
  refine comp_ok h1 ?_ h3
  have gen : ∀ xs : List α, (∀ x ∈ xs, ∃ δ1, tg (u x) (cSt nv caps δ) = some δ1 ∧ b δ1 β = some (.ok (o x), β)) → cLp tg (fun _ => M.ret true) b (xs.map u) (cSt nv caps δ) β = some (.ok (xs.flatMap o), β) := by
    intro xs
    induction xs with
    | nil => intro _; rfl
    | cons x xs ih =>
      intro h
      obtain ⟨δ1, e1, e2⟩ := h x List.mem_cons_self
      have e3 := ih fun y hy => h y (List.mem_cons_of_mem _ hy)
      rw [List.map_cons, cLp]
      simp only [e1, M.bind, M.ret, reduceIte, e2, e3, List.flatMap_cons]
  exact gen xs h2
theorem fm_len {α γ : Type} {f : α → List γ} {n : Nat} : ∀ {l : List α}, (∀ x ∈ l, (f x).length ≤ n) → (l.flatMap f).length ≤ n * l.length
  | [], _ => by simp
  | x :: l, h => by
    have h1 := h x List.mem_cons_self
    have h2 := fm_len (l := l) fun y hy => h y (List.mem_cons_of_mem _ hy)
    rw [List.flatMap_cons, List.length_append, List.length_cons, Nat.mul_add]
    omega
end L2.Pu
namespace L2.Pu
open PySem PySem.Spec
end L2.Pu
namespace L2.Pu
open PySem PySem.Spec
end L2.Pu
namespace L2.Pu
open PySem PySem.Spec
noncomputable def FlatIs : List D → List Value → Prop
  | [], [] => True
  | .int i :: ds, .int j _ :: vs => i = j ∧ FlatIs ds vs
  | .str x :: ds, .str y _ :: vs => x = y ∧ FlatIs ds vs
  | .bl x :: ds, .bool y :: vs => x = y ∧ FlatIs ds vs
  | .non :: ds, .none :: vs => FlatIs ds vs
  | _, _ => False
theorem flat_vals {K : PySem.W.Frag} : ∀ {ds : List D} {vs : List Value}, FlatIs ds vs → ∃ xs, Vals xs vs ∧ ∀ F H, DenL K F H ds xs
  | [], [], _ => ⟨[], .nil, fun _ _ => DenL.nil⟩
  | .int i :: ds, .int j t :: vs, h => by
    obtain ⟨e, h⟩ := h
    subst e
    obtain ⟨xs, h1, h2⟩ := flat_vals (K := K) h
    exact ⟨.int i :: xs, .cons ⟨t, rfl⟩ h1, fun F H => DenL.cons rfl (h2 F H)⟩
  | .str i :: ds, .str j t :: vs, h => by
    obtain ⟨e, h⟩ := h
    subst e
    obtain ⟨xs, h1, h2⟩ := flat_vals (K := K) h
    exact ⟨.str i :: xs, .cons ⟨t, rfl⟩ h1, fun F H => DenL.cons rfl (h2 F H)⟩
  | .bl i :: ds, .bool j :: vs, h => by
    obtain ⟨e, h⟩ := h
    subst e
    obtain ⟨xs, h1, h2⟩ := flat_vals (K := K) h
    exact ⟨.bl i :: xs, .cons rfl h1, fun F H => DenL.cons rfl (h2 F H)⟩
  | .non :: ds, .none :: vs, h => by
    obtain ⟨xs, h1, h2⟩ := flat_vals (K := K) (ds := ds) (vs := vs) h
    exact ⟨.non :: xs, .cons rfl h1, fun F H => DenL.cons rfl (h2 F H)⟩
noncomputable def VIs (K : PySem.W.Frag) (d : D) (u : Value) : Prop := ∃ v, RelV v u ∧ ∀ F H, Den K F H d v
theorem vis_int {K : PySem.W.Frag} {i : Int} {t : Tok} : VIs K (.int i) (.int i t) := ⟨.int i, ⟨t, rfl⟩, fun _ _ => rfl⟩
theorem vis_tup {K : PySem.W.Frag} {p : Addr} {q1 : Value} {q2 : Option Addr} {q3 : Array Value} {q4 : Nat} {q5 : Array (Option Value)} {ds : List D} (hl : K.lookup p = some ⟨q1, q2, .seq q3 q4, q5⟩) (hc : q1 = .type "tuple") (hz : q3.size ≤ sizeLine) (hv : FlatIs ds q3.toList) : VIs K (.tup ds) (.ref p) := by
  obtain ⟨xs, h1, h2⟩ := flat_vals (K := K) hv
  exact ⟨.ref p, rfl, fun F H => ⟨p, xs, rfl, .inr ⟨_, q3, q4, hl, hc, rfl, hz, h1⟩, h2 F H⟩⟩
theorem cst_of {K : PySem.W.Frag} {mg : Str → Option Value} {x : Str} {d : D} {u : Value} (h : mg x = some u) (v : VIs K d u) : CstOk K mg x d := let ⟨w, h1, h2⟩ := v; ⟨u, w, h, h1, h2⟩
inductive KSr (K : PySem.W.Frag) : List (Sr D) → List (Sr Value) → Prop where
  | nil : KSr K [] []
  | kw {j : Nat} {a : List (Sr D)} {c : List (Sr Value)} : KSr K a c → KSr K (.kw j :: a) (.kw j :: c)
  | df {x : D} {y : Value} {a : List (Sr D)} {c : List (Sr Value)} : VIs K x y → KSr K a c → KSr K (.df x :: a) (.df y :: c)
theorem KSr.mid {K : PySem.W.Frag} : ∀ {a : List (Sr D)} {c : List (Sr Value)}, KSr K a c → ∃ b : List (Sr V), SrR RelV b c ∧ SrR (fun d v => ∀ F H, Den K F H d v) a b
  | _, _, .nil => ⟨[], .nil, .nil⟩
  | _, _, .kw (j := j) h => let ⟨b, h1, h2⟩ := KSr.mid h; ⟨.kw j :: b, .kw h1, .kw h2⟩
  | _, _, .df v h => let ⟨b, h1, h2⟩ := KSr.mid h; let ⟨w, g1, g2⟩ := v; ⟨.df w :: b, .df g1 h1, .df g2 h2⟩
theorem kw_of {K : PySem.W.Frag} {fd : FuncData} {ps ks : List Str} {n : Nat} {src : List (Sr D)} {sv : List (Sr Value)} (h : KSr K src sv) (hl : ps.length = n + src.length) (h0 : 0 < ps.length) (b : ∀ (s : Shared) (us ws : List Value), K.In s.heap → us.length = n → ws.length = ks.length → BindsTo s fd ⟨us, ks.zip ws⟩ (ps.zip (us ++ sv.map (Sr.pick .none ws)))) : KwOk K fd ps ks n src :=
  ⟨let ⟨sx, h1, h2⟩ := h.mid; ⟨sv, sx, h1, h2, b⟩, hl, h0⟩
end L2.Pu
namespace L2.Pu
open PySem PySem.Spec PyProof.Rows
section
variable {X : Cx} {E : St → XK} {K : PySem.W.Frag} {st : Stmt}
end
end L2.Pu
namespace L2.Pu
open PySem PySem.Spec
section
variable {h : G} {δ : Ds} {β β1 β2 β3 : Bg} {Q : Out → Bg → Prop} {i : Nat} {fa fb fv : Dn → M D} {fl : Dn → M (List D)} {d d0 d1 : D} {ds : List D} {op : D → D → Option D}
end
end L2.Pu
namespace L2.Pu
open PySem PySem.Spec
theorem x_var {n : Nat} {d : D} {δ : Dn} {β : Bg} (e : δ.getD n none = some d) : fVar n δ β = some (.ok d, β) := by unfold fVar; rw [e]; rfl
end L2.Pu
namespace L2.Pu
open PySem PySem.Spec
section
variable {β β1 β2 : Bg} {f g h : Dn → M D} {δ : Dn} {x y z : Int}
theorem x_chainLt (e1 : f δ β = some (.ok (.int x), β)) (e2 : g δ β = some (.ok (.int y), β)) (e3 : h δ β = some (.ok (.int z), β)) : fChain leD ltD f g h δ β = some (.ok (.bl (decide (x ≤ y) && decide (y < z))), β) := by
  unfold fChain M.bind
  rw [e1]
  simp only [e2, le_int, M.ofO, asB]
  by_cases q : x ≤ y
  · simp only [q, decide_true, if_true, e3, lt_int, Bool.true_and]
  · simp only [q, decide_false, Bool.false_eq_true, if_false, M.ret, Bool.false_and]
end
end L2.Pu
namespace L2.Pu
open PySem PySem.Spec PyProof.Rows
section
variable {X : Cx} {E : St → XK} {o e : Expr} {es : List Expr} {pos p apos kpos : Pos} {x m : Str} {k n : Nat} {f C : Addr} {fd : FuncData} {ps ks : List Str} {kws : List Keyword}
end
end L2.Pu
namespace L2.Pu
open PySem PySem.Spec PyProof.Rows
structure ToX (F : Fx) (x : Addr) (H H' : Hp) (β' : Bg) : Prop where
  kp : ∀ a o, a ≠ x → H a = some o → (∀ b l, F.bg = some (b, l) → a ≠ b ∧ a ≠ l) → H' a = some o
  fr : Fr F H' β'
noncomputable def spI (K : PySem.W.Frag) (C : Addr) (ns : List Str) (n : Nat) (mi : List D → M (List D)) : Sp := fun vs H Q E => ∃ x rest F ds β dx, vs = .ref x :: rest ∧ rest.length = n ∧ Fr F H β ∧ F.A x ∧ (∀ b l, F.bg = some (b, l) → x ≠ b ∧ x ≠ l) ∧ H x = some (.ins C dx []) ∧ DenL K F H ds rest ∧
  ∃ r β', mi ds β = some (r, β') ∧ match r with
    | .ok es => ∀ H' xs, ToX F x H H' β' → H' x = some (.ins C dx (ns.zip xs)) → ns.length = xs.length → DenL K F H' es xs → Q .non H'
    | .error Ce => ∀ H', ToX F x H H' β' → E (.ref Ce) none H'
section
variable {X : Cx} {E : St → XK} {e : Expr} {es : List Expr} {pos p kpos : Pos} {x : Str} {k n : Nat} {f C : Addr} {fd : FuncData} {ps ks ns : List Str} {kws : List Keyword}
theorem make_red {K : PySem.W.Frag} {mi : List D → M (List D)} {F : Fx} {H2 : Hp} {β2 : Bg} {σ : St} {Q : VK} {ds : List D} {vs : List V} (fr : Fr F H2 β2) (hl : vs.length = n) (hd : DenL K F H2 ds vs) (r : run (Den K F) F E σ (M.bind (mi ds) fun fs => M.ret (.obj C ns fs)) H2 Q β2) :
    ∀ x dx, H2 x = none → H2 dx = none → dx ≠ x → spI K C ns n mi (.ref x :: vs) (upd (upd H2 dx (.own x)) x (.ins C dx [])) (fun v H3 => v = .non ∧ Q (.ref x) H3) (E σ) := by
  intro x dx hx hdx ne
  have hA : ¬ F.A x := fr.fresh hx
  have same : Same H2 (upd (upd H2 dx (.own x)) x (.ins C dx [])) := fun a o h => by
    rw [upd_ne (ne_of_none h hx), upd_ne (ne_of_none h hdx)]; exact h
  have t := fr.same same
  have frx : Fr (F.but x) (upd (upd H2 dx (.own x)) x (.ins C dx [])) β2 := ⟨fun a ha z => (by
    rcases ha with ha | ha
    · exact t.fr.occ a ha z
    · subst ha; rw [upd_same] at z; cases z), fun b l q => let ⟨z1, z2, z3⟩ := fr.bgA b l q; ⟨.inl z1, .inl z2, z3⟩, t.fr.bag⟩
  have nb : ∀ b l, F.bg = some (b, l) → x ≠ b ∧ x ≠ l := fun b l q => ⟨fun z => hA (z ▸ (fr.bgA b l q).1), fun z => hA (z ▸ (fr.bgA b l q).2.1)⟩
  have tr1 : Tr F H2 (F.but x) (upd (upd H2 dx (.own x)) x (.ins C dx [])) := ⟨fun a h1 h2 z => by
    rcases z with z | z
    · exact h1 z
    · subst z; exact h2 hx, fun a o _ h => same a o h, rfl⟩
  obtain ⟨rr, β', er, h⟩ := r
  refine ⟨x, vs, F.but x, ds, β2, dx, rfl, hl, frx, .inr rfl, nb, upd_same, DenL.tr tr1 _ _ hd, ?_⟩
  have toF : ∀ {H' : Hp} {β' : Bg}, ToX (F.but x) x (upd (upd H2 dx (.own x)) x (.ins C dx [])) H' β' → To F H2 H' β' := fun {H' β'} tx => ⟨fun a o ha n => tx.kp a o (ne_of_none ha hx) (same a o ha) n, ⟨fun a ha => tx.fr.occ a (.inl ha), fr.bgA, tx.fr.bag⟩⟩
  cases q : mi ds β2 with
  | none => unfold M.bind at er; rw [q] at er; cases er
  | some z =>
    obtain ⟨r1, β1⟩ := z
    refine ⟨r1, β1, rfl, ?_⟩
    cases r1 with
    | error Ce =>
      rw [M.bind_err q] at er
      cases er
      exact fun H' tx => h H' (toF tx)
    | ok fs =>
      rw [M.bind_ok q] at er
      cases er
      refine fun H' xs tx hx' hlen hden => ⟨rfl, h (.ref x) H' (toF tx) ⟨x, dx, xs, rfl, hA, hx', hlen, DenL.tr Fx.tr_of _ _ hden⟩⟩
noncomputable def fMakeK (C : Addr) (ns : List Str) (mi : List D → M (List D)) (g gk : Dn → M (List D)) (src : List (Sr D)) : Dn → M D := fun δ => M.bind (g δ) fun as => M.bind (gk δ) fun ks => M.bind (mi (as ++ src.map (Sr.pick .non ks))) fun fs => M.ret (.obj C ns fs)
noncomputable def tMakeK (C : Addr) (sp : Sp) (gV : List V → List V → List V) (E : St → XK) (t tk : TA) : TE := fun σ H Q => t σ H fun vs H1 => tk σ H1 fun zs H2 => ∀ x dx, H2 x = none → H2 dx = none → dx ≠ x →
  sp (gV (.ref x :: vs) zs) (upd (upd H2 dx (.own x)) x (.ins C dx [])) (fun v H3 => v = .non ∧ Q (.ref x) H3) (E σ)
theorem pe_makeK {CX : CXT} {sp : Sp} {t tk : TA} {g : List Value → List Value → List Value} {gV : List V → List V → List V} (M : Mk X.K C f) (F : FnOk X.prog X.w X.K X.mg X.base CX k f fd ps sp) (hr : Room (k + 1) X.A) (hg : Gl X x) (hm : X.mg x = some (.ref C)) (hb : KBinds X.K fd ps ks g gV) (hx : Passes CX X E)
    (ha : PA X (e :: es) t) (hkw : PK X kws tk) (hall : (backToKw pos (keywordEach kws X.env)).all (·.1.isSome) = true := by rfl) (hks : (backToKw pos (keywordEach kws X.env)).filterMap (·.1) = ks := by rfl)
    (hdb : (x == ("__debug__" : Str)) = false := by decide) (he : starEach (e :: es) X.env = (false, eval e X.env) :: starEach es X.env := by rfl)
    (hpl : ((backTo pos (starEach (e :: es) X.env)).any (·.1) || (backToKw pos (keywordEach kws X.env)).any (·.1.isNone)) = false := by rfl) :
    PE X (.Call (.Name x p) (e :: es) kws pos) (tMakeK C sp gV E t tk) := by
  intro pins s σ H Q I h
  refine wpAny_Call_Name_kw (ld_glob I hg hm ?_ hdb)
  refine PySem.W.callWith_KW (h₀ := X.base) I.ok.mod.kin M.kp hall (thn (ha pos pins s σ H _ I h) fun us s1 ⟨vs, H1, I1, r, q⟩ => ?_) hpl he
  refine thn (hkw pos pins s1 σ H1 _ I1 q) fun ws s2 ⟨zs, H2, I2, rz, q2⟩ => ⟨I2.kIn, ?_⟩
  rw [hks]
  have hq := q2 (s2.heap.objs.size + 1) s2.heap.objs.size (I2.hok.fresh (Nat.le_succ _)) (I2.hok.fresh (Nat.le_refl _)) (Nat.ne_of_lt (Nat.lt_succ_self _))
  have I3 := Inv.made (C := C) I2
  have r2 := hb.rel (.cons (show RelV (V.ref (s2.heap.objs.size + 1)) (Value.ref (s2.heap.objs.size + 1)) from rfl) r) rz
  have hl : (g (Value.ref (s2.heap.objs.size + 1) :: us) ws).length = ps.length := by rw [← r2.length]; exact F.len _ _ _ _ hq
  refine wpAny_call (make_map (f := f) I2.kIn M.makes M.init (beq_iff_eq.mp M.fn) (codeAny_mono (F.run _ X.stack _ _ ⟨Value.ref (s2.heap.objs.size + 1) :: us, ks.zip ws⟩ (g (Value.ref (s2.heap.objs.size + 1) :: us) ws) _ _ (E σ) (hr.make C us (ks.zip ws))
    (I3.env0.make C us (ks.zip ws)) (hb.to _ (Value.ref (s2.heap.objs.size + 1) :: us) ws I3.kIn hl) r2 hq) fun r s' hq' => ?_))
  cases r with
  | error e => exact hx pins σ _ _ e s' I3 hq'
  | ok fl =>
    cases fl with
    | ret u =>
      obtain ⟨v, H', I4, rv, ev, q4⟩ := I3.after hq'
      subst ev
      exact ⟨rv, ⟨V.ref (s2.heap.objs.size + 1), H', I4, rfl, q4⟩⟩
    | next => exact False.elim hq'
    | brk => exact False.elim hq'
    | cont => exact False.elim hq'
theorem v_makeK {mi : List D → M (List D)} {g gk : Dn → M (List D)} {src : List (Sr D)} {n1 : Nat} (Mm : Mk X.K C f) (G : FnOk X.prog X.w X.K X.mg X.base (CXE X.prog X.w) k f fd ps (spI X.K C ns n mi)) (hr : Room (k + 1) X.A) (hg : Gl X x) (hm : X.mg x = some (.ref C)) (hb : KwOk X.K fd ps ks (n1 + 1) src) (hx : Passes (CXE X.prog X.w) X E)
    (ha : PA X (e :: es) (tVA X.K g E)) (hkw : PK X kws (tVA X.K gk E)) (hn : ∀ δ β r β', g δ β = some (.ok r, β') → r.length = n1) (hn2 : ∀ δ β r β', gk δ β = some (.ok r, β') → r.length = ks.length) (h3 : n1 + src.length = n)
    (hall : (backToKw pos (keywordEach kws X.env)).all (·.1.isSome) = true := by rfl) (hks : (backToKw pos (keywordEach kws X.env)).filterMap (·.1) = ks := by rfl)
    (hdb : (x == ("__debug__" : Str)) = false := by decide) (he : starEach (e :: es) X.env = (false, eval e X.env) :: starEach es X.env := by rfl)
    (hpl : ((backTo pos (starEach (e :: es) X.env)).any (·.1) || (backToKw pos (keywordEach kws X.env)).any (·.1.isNone)) = false := by rfl) :
    PE X (.Call (.Name x p) (e :: es) kws pos) (tV X.K (fMakeK C ns mi g gk src) E) := by
  obtain ⟨sv, sx, rd, kb⟩ := hb.kb
  refine (pe_makeK Mm G hr hg hm kb hx ha hkw hall hks hdb he hpl).imp fun σ H Q h_ => ex6 h_ fun F δ β fr vk r => ⟨F, δ, β, fr, vk, ?_⟩
  obtain ⟨r0, β0, e0, h0⟩ := run.bind (R := DenL X.K F) r
  refine ⟨r0, β0, e0, ?_⟩
  cases r0 with
  | error C => exact h0
  | ok as =>
    intro vs H1 t hd
    obtain ⟨d', β1, t1, hd1, r1⟩ := h0 vs H1 t hd
    refine ⟨F, δ, β1, t1.fr, vk.tr (t1.tr fr), ?_⟩
    obtain ⟨q0, β2, e2, h2⟩ := run.bind (R := DenL X.K F) r1
    refine ⟨q0, β2, e2, ?_⟩
    cases q0 with
    | error C => exact h2
    | ok bs =>
      intro zs H2 t2 hz
      obtain ⟨d2, β3, t3, hd2, r3⟩ := h2 zs H2 t2 hz
      have l1 := hn _ _ _ _ e0
      have l2 := hn2 _ _ _ _ e2
      have hda : DenL X.K F H2 d' vs := DenL.tr (t3.tr t1.fr) _ _ hd1
      intro y dx
      have g1 : gK V.non (n1 + 1) ks.length sx (.ref y :: vs) zs = .ref y :: (vs ++ sx.map (Sr.pick .non zs)) := if_pos ⟨by rw [List.length_cons, ← hd.length, l1], by rw [← hz.length, l2]⟩
      rw [g1]
      exact make_red t3.fr (by rw [List.length_append, List.length_map, ← hd.length, l1, ← rd.len, h3]) (DenL.append hda (SrR.den hd2 rd)) r3 y dx
end
end L2.Pu
namespace L2.Pu
open PySem PySem.Spec PyProof.Rows
noncomputable abbrev IP := Ds → List D → Bg → Option (Except Addr (List D) × Bg)
noncomputable def ipEnd : IP := fun _ done β => some (.ok done, β)
noncomputable def ipPre (g : G) (ip : IP) : IP := fun δ done β => match g δ β with
  | some (.nx δ1, β1) => match δ[0]?, δ1[0]? with
    | some (some (Sl.sh (D.adr x))), some (some (Sl.sh (D.adr y))) => if x = y then ip δ1 done β1 else none
    | _, _ => none
  | some (.ex C _, β1) => some (.error C, β1)
  | _ => none
noncomputable def ipFld (f : Dn → M D) (ip : IP) : IP := fun δ done β => match f (vw δ) β with
  | some (.ok d, β1) => ip δ (done ++ [d]) β1
  | some (.error C, β1) => some (.error C, β1)
  | none => none
structure StpX (x : Addr) (B : Ow) (H : Hp) (B' : Ow) (H' : Hp) : Prop where
  kp : ∀ a o, a ≠ x → H a = some o → (B a = none ∨ B a = some 0) → H' a = some o
  tg : ∀ a, B a = some 0 ∨ B a = some 1 → B' a = B a
  nn : ∀ a o, a ≠ x → H a = some o → B a = none → B' a = none
  al : ∀ a, H a ≠ none → H' a ≠ none
theorem Stp.x {x : Addr} {B B' : Ow} {H H' : Hp} (s : Stp B H B' H') : StpX x B H B' H' := ⟨fun a o _ => s.kp a o, s.tg, fun a o _ => s.nn a o, s.al⟩
theorem StpX.trans {x : Addr} {B B1 B2 : Ow} {H H1 H2 : Hp} (a : StpX x B H B1 H1) (b : StpX x B1 H1 B2 H2) : StpX x B H B2 H2 := by
  refine ⟨fun c o ne h n => b.kp c o ne (a.kp c o ne h n) ?_, fun c h => ?_, fun c o ne h n => b.nn c o ne (a.kp c o ne h (.inl n)) (a.nn c o ne h n), fun c h => b.al c (a.al c h)⟩
  · rcases n with n | n
    · exact .inl (a.nn c o ne h n)
    · exact .inr ((a.tg c (.inl n)).trans n)
  · have e := a.tg c h
    rw [← e] at h
    exact (b.tg c h).trans e
noncomputable def AfterI (K : PySem.W.Frag) (bg : Option (Addr × Addr)) (E : St → XK) (Dn : Ends) (B : Ow) (H : Hp) (x C dx : Addr) (all : List Str) (r : Except Addr (List D)) (β' : Bg) : Prop := match r with
  | .ok ds => ∀ σ' B' H' vs, StpX x B H B' H' → Fr (FxB B' bg) H' β' → H' x = some (.ins C dx (all.zip vs)) → all.length = vs.length → DenL K (FxB B' bg) H' ds vs → Dn.nx σ' H'
  | .error Ce => ∀ σ' B' H', StpX x B H B' H' → Fr (FxB B' bg) H' β' → E σ' (.ref Ce) none H'
theorem AfterI.pre {K : PySem.W.Frag} {bg : Option (Addr × Addr)} {E : St → XK} {Dn : Ends} {B B1 : Ow} {H H1 : Hp} {x C dx : Addr} {all : List Str} {r : Except Addr (List D)} {β' : Bg} (s : StpX x B H B1 H1) (h : AfterI K bg E Dn B H x C dx all r β') : AfterI K bg E Dn B1 H1 x C dx all r β' := by
  cases r with
  | ok ds => exact fun σ' B' H' vs t => h σ' B' H' vs (s.trans t)
  | error Ce => exact fun σ' B' H' t => h σ' B' H' (s.trans t)
noncomputable def tI (K : PySem.W.Frag) (H₀ : Hp) (C : Addr) (ns0 names : List Str) (ip : IP) (E : St → XK) : TS := fun Dn σ H => ∃ B bg δ β x dx vs0 ds0 r β', SOk K H₀ B bg H δ β σ ∧ δ[0]? = some (some (.sh (.adr x))) ∧ B x = some 0 ∧ H x = some (.ins C dx (ns0.zip vs0)) ∧ ns0.length = vs0.length ∧ DenL K (FxB B bg) H ds0 vs0 ∧ ip δ ds0 β = some (r, β') ∧ AfterI K bg E Dn B H x C dx (ns0 ++ names) r β'
theorem putF_snoc {f : Str} {y : V} : ∀ {ns : List Str} {vs : List V}, ns.length = vs.length → f ∉ ns → putF f y (ns.zip vs) = (ns ++ [f]).zip (vs ++ [y])
  | [], [], _, _ => rfl
  | n :: ns, v :: vs, h, hf => by
    have h1 : ¬ n = f := fun z => hf (by rw [z]; exact List.mem_cons_self)
    show (if n = f then (n, y) :: ns.zip vs else (n, v) :: putF f y (ns.zip vs)) = _
    rw [if_neg h1, putF_snoc (by simpa using h) fun z => hf (List.mem_cons_of_mem _ z)]
    rfl
  | [], _ :: _, h, _ => by simp at h
  | _ :: _, [], h, _ => by simp at h
theorem SOk.upd0 {K : PySem.W.Frag} {H₀ : Hp} {B : Ow} {bg : Option (Addr × Addr)} {H : Hp} {δ : Ds} {β : Bg} {σ : St} {x : Addr} {o : HO} (ok : SOk K H₀ B bg H δ β σ) (hx : B x = some 0) : SOk K H₀ B bg (upd H x o) δ β σ ∧ StpX x B H B (upd H x o) := by
  have al : ∀ c, H c ≠ none → upd H x o c ≠ none := fun c hc => by
    by_cases z : c = x
    · subst z; rw [upd_same]; simp
    · rw [upd_ne z]; exact hc
  have nb : ∀ b l, bg = some (b, l) → b ≠ x ∧ l ≠ x := fun b l e => by
    obtain ⟨b1, b2⟩ := ok.bgt b l e
    exact ⟨fun z => (by rw [z, hx] at b1; cases b1), fun z => (by rw [z, hx] at b2; cases b2)⟩
  have tr : Tr (FxB B bg) H (FxB B bg) (upd H x o) := ⟨fun _ h _ => h, fun c u hc e => by
    rw [upd_ne]
    · exact e
    · intro z; subst z; exact hc (by show B c ≠ none; rw [hx]; simp), rfl⟩
  refine ⟨⟨⟨fun c hc => al c (ok.fr.occ c hc), ok.fr.bgA, fun b l e => ?_⟩, ok.bgt, ok.len, fun c hc => al c (ok.cov c hc), ok.new, fun c k hc => ?_, fun i s e => ?_⟩, fun c u ne h _ => by rw [upd_ne ne]; exact h, fun _ _ => rfl, fun _ _ _ _ n => n, al⟩
  · obtain ⟨z1, z2⟩ := ok.fr.bag b l e
    obtain ⟨n1, n2⟩ := nb b l e
    exact ⟨by rw [upd_ne n1]; exact z1, by rw [upd_ne n2]; exact z2⟩
  · obtain ⟨xs, h⟩ := ok.lst c k hc
    exact ⟨xs, by rw [upd_ne]; exact h; intro z; subst z; rw [hx] at hc; cases hc⟩
  · obtain ⟨v, h1, h2⟩ := ok.tell i s e
    refine ⟨v, h1, ?_⟩
    cases s with
    | sh d => exact Den.tr tr _ _ h2
    | own ds =>
      obtain ⟨a, xs, rfl, hB, ha, hd⟩ := h2
      exact ⟨a, xs, rfl, hB, (by rw [upd_ne]; exact ha; intro z; subst z; rw [hx] at hB; cases hB), DenL.tr tr _ _ hd⟩
    | grd rows =>
      obtain ⟨a, rs, rfl, hB, ha, nd, rl⟩ := h2
      refine ⟨a, rs, rfl, hB, (by rw [upd_ne]; exact ha; intro z; subst z; rw [hx] at hB; cases hB), nd, RowL.tr tr rl fun r xs _ p q => ⟨p, ?_⟩⟩
      rw [upd_ne]
      · exact q
      · intro z; subst z
        have p' : B r = some (i + 2) := p
        rw [hx] at p'; cases p'
section
variable {X : Cx} {E : St → XK} {st : Stmt} {sts : List Stmt} {C : Addr} {ns0 names : List Str} {ip : IP}
theorem i_end : PSs X [] (tI X.K X.H₀ C ns0 [] ipEnd E) := pss_nil.imp fun Dn σ H h_ => by
  obtain ⟨B, bg, δ, β, x, dx, vs0, ds0, r, β', ok, h0, hx, hH, hl, hd, e, k⟩ := h_
  cases e
  rw [List.append_nil] at k
  exact k σ B H vs0 (Stp.refl B H).x ok.fr hH hl hd
theorem i_pre {g : G} (h1 : PS X st (tG X.K X.H₀ g E)) (h2 : PSs X sts (tI X.K X.H₀ C ns0 names ip E)) : PSs X (st :: sts) (tI X.K X.H₀ C ns0 names (ipPre g ip) E) := (pss_cons h1 h2).imp fun Dn σ H h_ => by
  obtain ⟨B, bg, δ, β, x, dx, vs0, ds0, r, β', ok, h0, hx, hH, hl, hd, e, k⟩ := h_
  unfold ipPre at e
  split at e
  · rename_i δ1 β1 e1
    split at e
    · rename_i x1 y1 q1 q2
      split at e
      · rename_i z
        subst z
        rw [h0] at q1
        cases q1
        refine ⟨B, bg, δ, β, .nx δ1, β1, ok, e1, fun σ' B' H' s ok' => ?_⟩
        exact ⟨B', bg, δ1, β1, x, dx, vs0, ds0, r, β', ok', q2, (s.tg x (.inl hx)).trans hx, s.kp x _ hH (.inr hx), hl, DenL.tr s.tr _ _ hd, e, AfterI.pre s.x k⟩
      · cases e
    · cases e
  · rename_i Ce δ1 β1 e1
    cases e
    exact ⟨B, bg, δ, β, .ex Ce δ1, _, ok, e1, fun σ' B' H' s ok' => k σ' B' H' s.x ok'.fr⟩
  · cases e
theorem i_fld {f : Str} {fv : Dn → M D} (c : Cls X.K C) (n : NoAttr X.K C f) (hf : f ∉ ns0) (hlen : ns0.length < 1000) (h1 : PS X st (sFld X.K (tVar 0) (tV X.K fv E) f)) (h2 : PSs X sts (tI X.K X.H₀ C (ns0 ++ [f]) names ip E)) : PSs X (st :: sts) (tI X.K X.H₀ C ns0 (f :: names) (ipFld fv ip) E) := (pss_cons h1 h2).imp fun Dn σ H h_ => by
  obtain ⟨B, bg, δ, β, x, dx, vs0, ds0, r, β', ok, h0, hx, hH, hl, hd, e, k⟩ := h_
  refine ⟨FxB B bg, vw δ, β, ok.fr, ok.view, ?_⟩
  unfold ipFld at e
  split at e
  · rename_i d β1 e1
    refine ⟨.ok d, β1, e1, fun y H1 t1 hy => ?_⟩
    obtain ⟨ok1, s1⟩ := ok.to rfl t1
    obtain ⟨v, g1, g2⟩ := ok1.tell 0 _ h0
    have hv : v = .ref x := g2
    subst hv
    have hH1 := s1.kp x _ hH (.inr hx)
    refine ⟨_, g1, x, C, dx, _, rfl, hH1, c, n, ?_, ?_⟩
    · rw [List.length_zip]; omega
    obtain ⟨ok2, s2⟩ := ok1.upd0 (o := .ins C dx (putF f y (ns0.zip vs0))) hx
    have trx : Tr (FxB B bg) H1 (FxB B bg) (upd H1 x (.ins C dx (putF f y (ns0.zip vs0)))) := ⟨fun _ h _ => h, fun a u ha e => by
      rw [upd_ne]
      · exact e
      · intro z; subst z; exact ha (by show B a ≠ none; rw [hx]; simp), rfl⟩
    refine ⟨B, bg, δ, β1, x, dx, vs0 ++ [y], ds0 ++ [d], r, β', ok2, h0, hx, by rw [upd_same, putF_snoc hl hf], by simp [hl], DenL.append (DenL.tr trx _ _ (DenL.tr s1.tr _ _ hd)) (DenL.cons (Den.tr trx _ _ hy) DenL.nil), e, ?_⟩
    rw [List.append_assoc]
    exact AfterI.pre (s1.x.trans s2) k
  · rename_i Ce β1 e1
    cases e
    refine ⟨.error Ce, _, e1, fun H1 t1 => ?_⟩
    obtain ⟨ok1, s1⟩ := ok.to rfl t1
    exact k σ B H1 s1.x ok1.fr
  · cases e
end
open Classical in
noncomputable def initM (m : Nat) (ip : IP) : List D → M (List D) := fun ds β => if h : ∃ r, ∀ x, ip (stD m (.adr x :: ds)) [] β = some r then some h.choose else none
theorem initM_of {m : Nat} {ip : IP} {ds : List D} {β : Bg} {r : Except Addr (List D) × Bg} (h : ∀ x, ip (stD m (.adr x :: ds)) [] β = some r) : initM m ip ds β = some r := by
  have hx : ∃ r, ∀ x, ip (stD m (.adr x :: ds)) [] β = some r := ⟨r, h⟩
  unfold initM
  rw [dif_pos hx]
  have := hx.choose_spec 0
  rw [h 0] at this
  exact this.symm
theorem initM_inv {m : Nat} {ip : IP} {ds : List D} {β : Bg} {r : Except Addr (List D) × Bg} (h : initM m ip ds β = some r) : ∀ x, ip (stD m (.adr x :: ds)) [] β = some r := by
  unfold initM at h
  split at h
  · rename_i hx
    have := hx.choose_spec
    cases h
    exact this
  · cases h
section
variable {P : Program} {w : World} {K : PySem.W.Frag} {mg : Str → Option Value} {base : Heap}
theorem fn_init {x qual : Str} {st : Stmt} {f C : Addr} {fd : FuncData} {N ps names : List Str} {k : Nat} (n m : Nat) (ip : IP) (F : FunD K x qual st f fd) (S : FnScope N ps (defScope st)) (hn' : ps.length = n + 1) (hm' : N.length = m)
    (hbody : ∀ (cdv : Value) (A : Around) (outer : List Env) (s : Shared) (H : Hp) (E : XK), Room k (A.deeper (envOfC qual (defScope st) s.heap.objs.size f cdv)) →
      PSs (cxOf (CXE P w) P w K mg base N qual (defScope st) f cdv A outer s H E) (defBody st) (tI K H C [] names ip (fun _ => E))) : FnOk P w K mg base (CXE P w) (k + 1) f fd ps (spI K C names n (initM m ip)) := by
  subst hm'
  refine F.okE S (fun vs H Q E h => ?_) fun cdv A outer s H vs Q E hr h => ?_
  · obtain ⟨y, rest, F0, ds, β, dx, rfl, hl, _⟩ := h
    rw [List.length_cons, hl, hn']
  obtain ⟨y, rest, F0, ds, β, dx, rfl, hl, fr, hA0, nb, hH, hd, r, β', e, h⟩ := h
  refine ⟨_, hbody cdv A outer s H E hr, ?_⟩
  have hd' : DenL K F0 H (.adr y :: ds) (.ref y :: rest) := DenL.cons rfl hd
  obtain ⟨B, ok, hA, h1, hn⟩ := stD_ok (N := N) fr hd'
  have hy : B y = some 0 := by
    rcases hA y hA0 with z | z
    · exact z
    · obtain ⟨b, l, q, w⟩ := h1 y z
      obtain ⟨n1, n2⟩ := nb b l q
      rcases w with w | w
      · exact absurd w n1
      · exact absurd w n2
  have toF : ∀ {B' : Ow} {H' : Hp} {β' : Bg}, StpX y B H B' H' → Fr (FxB B' F0.bg) H' β' → ToX F0 y H H' β' ∧ Tr (FxB B' F0.bg) H' F0 H' := fun {B' H' β'} s fr' => by
    have hs : ∀ a, F0.A a → B' a ≠ none := fun a ha => by
      rw [s.tg a (hA a ha)]
      rcases hA a ha with z | z <;> rw [z] <;> simp
    refine ⟨⟨fun a o ne ha n => s.kp a o ne ha ?_, fun a ha => fr'.occ a (hs a ha), fun b l e => fr.bgA b l e, fr'.bag⟩, fun a ha _ z => ha (hs a z), fun _ _ _ h => h, rfl⟩
    cases q : B a with
    | none => exact .inl rfl
    | some t =>
      have := hA a (hn a (by rw [q]; simp))
      rcases this with z | z
      · rw [q] at z; exact .inr z
      · obtain ⟨b, l, e, w⟩ := h1 a z
        obtain ⟨n1, n2⟩ := n b l e
        rcases w with w | w
        · exact absurd w n1
        · exact absurd w n2
  refine ⟨B, F0.bg, stD N.length (.adr y :: ds), β, y, dx, [], [], r, β', ok, rfl, hy, hH, rfl, DenL.nil, initM_inv e y, ?_⟩
  cases r with
  | ok es =>
    intro σ' B' H' vs s fr' hx' hlen hden
    obtain ⟨t1, t2⟩ := toF s fr'
    exact h H' vs t1 hx' hlen (DenL.tr t2 _ _ hden)
  | error Ce =>
    intro σ' B' H' s fr'
    exact h H' (toF s fr').1
end
end L2.Pu
namespace L2.Pu
open PySem PySem.Spec PyProof.Rows
section
variable {X : Cx} {E : St → XK} {K : PySem.W.Frag} {st : Stmt}
end
section
variable {h : G} {δ : Ds} {β β1 : Bg} {Q : Out → Bg → Prop} {i : Nat} {f : Dn → M D}
end
end L2.Pu
namespace L2.Pu
open PySem PySem.Spec
section
variable {C Ce : Addr} {m : Str} {ns : List Str} {mf : List D → M D} {mi : List D → M (List D)} {fo : Dn → M D} {g gk : Dn → M (List D)} {dd fs as ks : List D} {src : List (Sr D)} {δ : Dn} {β β1 β2 β3 : Bg} {r : Except Addr D × Bg} {d : D} {f : Str} {h : G} {Q : Out → Bg → Prop} {i : Nat} {δs : Ds}
theorem w_ownE {fl : Dn → M (List D)} {ds : List D} (e : fl (vw δs) β = some (.ok ds, β1)) (k : Gw h (δs.set i (some (.own ds))) β1 Q) : Gw (gSeq (gOwnE i fl) h) δs β Q := w_seq (by unfold gOwnE; simp only [e]) k
theorem ip_pre {g : G} {ip : IP} {δ δ1 : Ds} {done : List D} {x : Addr} {r : Except Addr (List D) × Bg} (e : g δ β = some (.nx δ1, β1)) (h0 : δ[0]? = some (some (.sh (.adr x)))) (h1 : δ1[0]? = some (some (.sh (.adr x)))) (k : ip δ1 done β1 = some r) : ipPre g ip δ done β = some r := by
  unfold ipPre
  simp only [e, h0, h1, if_true]
  exact k
theorem ip_preX {g : G} {ip : IP} {δ δ1 : Ds} {done : List D} (e : g δ β = some (.ex Ce δ1, β1)) : ipPre g ip δ done β = some (.error Ce, β1) := by
  unfold ipPre
  simp only [e]
theorem ip_fld {f : Dn → M D} {ip : IP} {δ : Ds} {done : List D} {d : D} {r : Except Addr (List D) × Bg} (e : f (vw δ) β = some (.ok d, β1)) (k : ip δ (done ++ [d]) β1 = some r) : ipFld f ip δ done β = some r := by
  unfold ipFld
  rw [e]
  exact k
end
end L2.Pu
namespace L2.Pu
open PySem PySem.Spec
noncomputable def tpA {α : Type} (d : α) (c : Nat) (rows : List (List α)) : List (List α) := (List.range c).map fun j => rows.map fun row => row.getD j d
noncomputable abbrev tp (c : Nat) (rows : List (List Int)) : List (List Int) := tpA 0 c rows
theorem tpA_shp {α : Type} {d : α} {r c : Nat} {rows : List (List α)} (h : rows.length = r) : Shp c r (tpA d c rows) := ⟨by simp [tpA], fun row hr => by
  obtain ⟨j, _, rfl⟩ := List.mem_map.mp hr
  rw [List.length_map, h]⟩
theorem range_getD {d : Int} : ∀ (row : List Int), (List.range row.length).map (fun j => row.getD j d) = row := fun row => by
  refine List.ext_getElem? fun i => ?_
  rw [List.getElem?_map]
  by_cases h : i < row.length
  · rw [List.getElem?_range h]
    show some (row.getD i d) = _
    rw [List.getD_eq_getElem?_getD, List.getElem?_eq_getElem h]; rfl
  · rw [List.getElem?_eq_none (by simpa using h), List.getElem?_eq_none (by omega)]; rfl
theorem sum_add {α : Type} (f g : α → Int) : ∀ l : List α, (l.map fun x => f x + g x).sum = (l.map f).sum + (l.map g).sum
  | [] => by simp
  | x :: l => by
    simp only [List.map_cons, List.sum_cons, sum_add f g l]; omega
theorem sum_zero {α : Type} : ∀ l : List α, (l.map fun _ => (0 : Int)).sum = 0
  | [] => rfl
  | x :: l => by simp only [List.map_cons, List.sum_cons, sum_zero l]; rfl
theorem tp_tot {c : Nat} : ∀ {rows : List (List Int)}, (∀ row ∈ rows, row.length = c) → tot (tp c rows) = tot rows
  | [], _ => by
    show ((tpA 0 c []).map List.sum).sum = 0
    unfold tpA
    rw [List.map_map]
    exact sum_zero (List.range c)
  | row :: rows, h => by
    have ih := tp_tot (c := c) (rows := rows) fun x hx => h x (List.mem_cons_of_mem _ hx)
    have hl := h row List.mem_cons_self
    unfold tot tp tpA at ih ⊢
    rw [List.map_map] at ih ⊢
    have e : (fun j => (List.sum ((row :: rows).map fun row => row.getD j 0))) = fun j => row.getD j 0 + (rows.map fun row => row.getD j 0).sum := by
      funext j
      rw [List.map_cons, List.sum_cons]
    show ((List.range c).map fun j => (List.sum ((row :: rows).map fun row => row.getD j 0))).sum = _
    rw [e, sum_add, ← hl, range_getD, hl, List.map_cons, List.sum_cons]
    congr 1
theorem tp_nn {c : Nat} {rows : List (List Int)} (h : ∀ row ∈ rows, ∀ x ∈ row, 0 ≤ x) : ∀ row ∈ tp c rows, ∀ x ∈ row, 0 ≤ x := fun row hr x hx => by
  obtain ⟨j, _, rfl⟩ := List.mem_map.mp hr
  obtain ⟨q, hq, rfl⟩ := List.mem_map.mp hx
  rw [List.getD_eq_getElem?_getD]
  cases e : q[j]? with
  | none => exact Int.le_refl 0
  | some y => exact h q hq y (List.mem_of_getElem? e)
structure Gd (r c : Nat) (rows : List (List Int)) : Prop where
  shp : Shp r c rows
  nn : ∀ row ∈ rows, ∀ x ∈ row, 0 ≤ x
  tot : tot rows ≤ 40
theorem Tab.gd {r c : Nat} {rows : List (List Int)} (t : Tab r c rows) : Gd r c rows := ⟨t.shp, t.nn, t.tot⟩
theorem Gd.tp {r c : Nat} {rows : List (List Int)} (t : Gd r c rows) : Gd c r (tp c rows) := ⟨tpA_shp t.shp.1, tp_nn t.nn, by rw [tp_tot t.shp.2]; exact t.tot⟩
end L2.Pu
namespace L2.Pu
open PySem PySem.Spec PyProof PyProof.Rows
noncomputable def lowI (ns : List Int) : Int := ns.foldl min (ns.headD 0)
theorem fold_low : ∀ (ns : List Int) (z : Int), ns.foldl min z ≤ z ∧ (∀ a ∈ ns, ns.foldl min z ≤ a) ∧ (ns.foldl min z = z ∨ ns.foldl min z ∈ ns)
  | [], z => ⟨Int.le_refl _, fun _ h => (by cases h), .inl rfl⟩
  | x :: ns, z => by
    obtain ⟨h1, h2, h3⟩ := fold_low ns (min z x)
    show ns.foldl min (min z x) ≤ z ∧ _ ∧ (ns.foldl min (min z x) = z ∨ _)
    refine ⟨by omega, fun a ha => ?_, ?_⟩
    · rcases List.mem_cons.mp ha with rfl | ha
      · show ns.foldl min (min z a) ≤ a
        omega
      · exact h2 a ha
    · rcases h3 with h3 | h3
      · by_cases q : z ≤ x
        · exact .inl (by rw [h3]; omega)
        · exact .inr (by rw [List.mem_cons]; left; rw [show List.foldl min z (x :: ns) = ns.foldl min (min z x) from rfl, h3]; omega)
      · exact .inr (List.mem_cons_of_mem _ h3)
theorem lowI_mem {ns : List Int} (h : ns ≠ []) : lowI ns ∈ ns := by
  cases ns with
  | nil => exact absurd rfl h
  | cons x ns =>
    rcases (fold_low (x :: ns) x).2.2 with h | h
    · unfold lowI
      show (x :: ns).foldl min x ∈ _
      rw [h]; exact List.mem_cons_self
    · exact h
theorem lowI_le {ns : List Int} {a : Int} (h : a ∈ ns) : lowI ns ≤ a := (fold_low ns _).2.1 a h
theorem low_eq {ns : List Int} {m : Int} (h1 : m ∈ ns) (h2 : ∀ a ∈ ns, m ≤ a) : m = lowI ns := by
  have := h2 _ (lowI_mem (ns := ns) fun z => by rw [z] at h1; cases h1)
  have := lowI_le h1
  omega
section
variable {X : Cx}
theorem best_low {xs : Array (Int × Tok)} {ns : List Int} (hn : 0 < xs.size) (e : xs.toList.map (·.1) = ns) : numAt xs (argBest (fun i j => decide (numAt xs i < numAt xs j)) (xs.size - 1)) = lowI ns := by
  obtain ⟨h1, h2⟩ := argBest_lt (numAt xs) (xs.size - 1)
  refine low_eq ?_ fun a ha => ?_
  · rw [numAt_eq, e]; exact getD_mem (by rw [← e, List.length_map, Array.length_toList]; omega)
  · obtain ⟨j, hj, rfl⟩ := mem_getD ha
    rw [← e, List.length_map, Array.length_toList] at hj
    rw [← e, ← numAt_eq]; exact h2 j (by omega)
end
section
variable {prog : Program} {w : World} {A : Around} {E : Value → Shared → Prop} {s : Shared} {l : Addr} {xs : Array (Int × Tok)}
theorem min_tupG {Q : Value → Shared → Prop} (hh : A.handled = none) (hl : s.heap.IsTuple l (intItems xs)) (hne : 0 < xs.size)
    (h : ∀ v h' tk, (intItems xs)[argBest (fun i j => decide (numAt xs i < numAt xs j)) (xs.size - 1)]? = some v → (∀ b o, s.heap.get? b = some o → h'.get? b = some o) → Q v { s with heap := h', toks := tk }) :
    wpAny (model prog w) A (call (.builtin "min") [.ref l]) Q E s := by
  have hlt : l < s.heap.objs.size := by obtain ⟨_, e, _⟩ := hl; exact Heap.lt_size e
  refine call_min_walk (wpAny_pyIter_tuple hl ⟨_, _, _, _, _, _, _, rfl, Walks.tuple (A := A.in1) hh _ l (Nat.ne_of_lt hlt) (intItems xs), ⟨⟨_, Heap.get?_push_size _ rfl, rfl, rfl⟩, hl.at fun o e => Heap.get?_push_of_some _ e⟩, fun b hb => ?_, by simpa [intItems] using hne, CmpOf.ints_lt (numAt xs) (fun _ _ => intItems_at), fun v h' tk hP hk => ?_⟩)
  · show b < (s.heap.push _).objs.size
    rw [Heap.size_push]
    rcases List.mem_cons.mp hb with rfl | hb
    · exact Nat.lt_succ_self _
    · rcases List.mem_cons.mp hb with rfl | hb
      · exact Nat.lt_succ_of_lt hlt
      · cases hb
  · exact h v h' tk (by simpa [intItems] using hP) fun b o e => hk b o (fun hm => by
      rcases List.mem_cons.mp hm with e1 | hm
      · exact absurd (e1 ▸ Heap.lt_size e) (Nat.lt_irrefl _)
      · cases hm) (Heap.get?_push_of_some _ e)
end
section
variable {X : Cx} {K : PySem.W.Frag}
noncomputable abbrev rMinS (K : PySem.W.Frag) : List V → Hp → VK → Prop := fun xs H Q => ∃ (p : Addr) (ns : List Int), xs = [.ref p] ∧ (SqL K H p (ns.map V.int) ∨ SqT K H p (ns.map V.int)) ∧ ns ≠ [] ∧ Q (.int (lowI ns)) H
theorem call_minS (hc : X.calm = true) : CallR X (.builtin "min") (rMinS X.K) := by
  intro pins s σ H xs us Q I r h
  obtain ⟨p, ns, rfl, hq, hne, q⟩ := h
  obtain ⟨u, rfl, rx⟩ := vals1 r
  cases rx
  have go : ∀ {its : List Value}, Vals (ns.map V.int) its → ∃ xs : Array (Int × Tok), its.toArray = intItems xs ∧ xs.toList.map (·.1) = ns ∧ 0 < xs.size := fun {its} rv => by
    have hi := intsAre_of rv
    obtain ⟨xs, ex⟩ := hi.allInts.items
    have e1 := hi.numsOf
    have e2 : its = (intItems xs).toList := by rw [← ex]
    rw [e2, nums_intItems] at e1
    refine ⟨xs, ex, e1, ?_⟩
    have : (xs.toList.map (·.1)).length = ns.length := by rw [e1]
    rw [List.length_map, Array.length_toList] at this
    cases ns with
    | nil => exact absurd rfl hne
    | cons => rw [this]; exact Nat.succ_pos _
  rcases hq with hq | hq
  · obtain ⟨its, rv, pl, hz⟩ := I.list hq
    obtain ⟨xs, ex, e1, hn⟩ := go rv
    have hl := pl.isList
    rw [ex] at hl
    refine min_intList (I.ok.hd hc) hl hn fun v h' tk hv hk => ?_
    obtain ⟨t, rfl⟩ := intItems_at hv
    rw [best_low hn e1]
    exact ⟨.int (lowI ns), H, I.kept hk, ⟨_, rfl⟩, q⟩
  · obtain ⟨its, rv, pl, hz⟩ := I.tuple hq
    obtain ⟨xs, ex, e1, hn⟩ := go rv
    rw [ex] at pl
    refine min_tupG (I.ok.hd hc) pl hn fun v h' tk hv hk => ?_
    obtain ⟨t, rfl⟩ := intItems_at hv
    rw [best_low hn e1]
    exact ⟨.int (lowI ns), H, I.kept hk, ⟨_, rfl⟩, q⟩
noncomputable def minIs : Option (List Int) → Option D
  | some (n :: ns) => some (.int (lowI (n :: ns)))
  | _ => none
noncomputable def minSD : List D → Option D
  | [.lst xs] => minIs (intsOf xs)
  | [.tup xs] => minIs (intsOf xs)
  | _ => none
theorem minIs_inv {o : Option (List Int)} {d : D} (e : minIs o = some d) : ∃ ns, o = some ns ∧ ns ≠ [] ∧ d = .int (lowI ns) := by
  match o, e with
  | some (n :: ns), e => cases e; exact ⟨_, rfl, (fun z => by cases z), rfl⟩
theorem l_minS : LiftA K (rMinS K) minSD := fun F H β Q ds d vs fr h e k => by
  unfold minSD at e
  split at e
  · rename_i xs
    obtain ⟨ns, q, hne, rfl⟩ := minIs_inv e
    obtain ⟨v, rfl, g⟩ := DenL.one h
    obtain ⟨a, ys, rfl, r, dl⟩ := Den.sqL g
    rw [intsOf_eq q] at dl
    have e2 := DenL.ints ns dl
    subst e2
    exact ⟨a, ns, rfl, .inl r, hne, k _ H (To.refl fr) rfl⟩
  · rename_i xs
    obtain ⟨ns, q, hne, rfl⟩ := minIs_inv e
    obtain ⟨v, rfl, g⟩ := DenL.one h
    obtain ⟨a, ys, rfl, r, dl⟩ := Den.sqT g
    rw [intsOf_eq q] at dl
    have e2 := DenL.ints ns dl
    subst e2
    exact ⟨a, ns, rfl, .inr r, hne, k _ H (To.refl fr) rfl⟩
  · cases e
end
end L2.Pu
namespace L2
open PySem PySem.Spec PyProof.Rows
noncomputable def jTxt (te : TE) (t : TJ) : TJ := fun σ H n Q => te σ H fun v H1 => ∃ x : Str, v = .str x ∧ n + x.length ≤ sizeLine ∧ t σ H1 (n + x.length) Q
theorem pj_txt {X : Cx} {es : List Expr} {t : TJ} {v : Expr} {p : Pos} {te : TE} (hv : PE X v te) (h : PJ X es t) (he : evalEach (.FormattedValue v (-1) none p :: es) X.env = eval (.FormattedValue v (-1) none p) X.env :: evalEach es X.env := by rfl) : PJ X (.FormattedValue v (-1) none p :: es) (jTxt te t) := by
  intro pins s σ H acc Q I hz hq
  rw [he]
  refine joinParts_cons (FormattedValue_plain (thn (hv pins s σ H _ I hq) fun u s1 h_ => ?_))
  obtain ⟨y, H1, I1, r, x, ey, hl, q⟩ := h_
  subst ey
  obtain ⟨tk, rfl⟩ := r
  refine formatField_str (fun t' k => ?_) (by omega)
  have e : (acc ++ x).length = acc.length + x.length := strLen_append acc x
  have hz2 : (acc ++ x).length ≤ sizeLine := by rw [e]; omega
  refine ⟨hz2, h pins _ σ H1 _ Q (I1.tok _) hz2 ?_⟩
  rw [e]
  exact q
end L2
namespace L2.Pu
open PySem PySem.Spec PyProof.Rows
noncomputable def jfStr (f : Dn → M D) (g : Dn → M Unit) : Dn → M Unit := fun δ => M.bind (f δ) fun d => match d with
  | .str x => if x.length ≤ 100 then g δ else M.fail
  | _ => M.fail
theorem j_txt {X : Cx} {E : St → XK} {es : List Expr} {v : Expr} {p : Pos} {f : Dn → M D} {g : Dn → M Unit} {c : Nat} (hv : PE X v (tV X.K f E)) (h : PJ X es (jV X.K g c E)) (he : evalEach (.FormattedValue v (-1) none p :: es) X.env = eval (.FormattedValue v (-1) none p) X.env :: evalEach es X.env := by rfl) : PJ X (.FormattedValue v (-1) none p :: es) (jV X.K (jfStr f g) (100 + c) E) :=
  (pj_txt hv h he).imp fun σ H n Q ⟨hz, F, δ, β, fr, vk, r⟩ => ⟨F, δ, β, fr, vk, (run.bind (R := Den X.K F) r).mono fun v H1 h_ => by
    obtain ⟨d, β1, t, hd, r1⟩ := h_
    cases d with
    | str x =>
      by_cases q : x.length ≤ 100
      · simp only [if_pos q] at r1
        refine ⟨x, hd, by omega, ⟨by omega, F, δ, β1, t.fr, vk.tr (t.tr fr), ?_⟩⟩
        obtain ⟨rr, β', e, k⟩ := r1
        refine ⟨rr, β', e, ?_⟩
        cases rr with
        | ok u => exact fun m' H' t' hm' => k m' H' t' (by omega)
        | error C => exact k
      · simp only [if_neg q] at r1
        obtain ⟨rr, β', e, k⟩ := r1
        cases e
    | _ => obtain ⟨rr, β', e, k⟩ := r1; cases e⟩
theorem x_jfs {j : Dn → M Unit} {f : Dn → M D} {δ : Dn} {β : Bg} {x : Str} (e1 : f δ β = some (.ok (.str x), β)) (h : x.length ≤ 100) (e2 : j δ β = some (.ok (), β)) : jfStr f j δ β = some (.ok (), β) := by
  unfold jfStr
  rw [M.bind_ok e1]
  simp only [if_pos h]
  exact e2
section
variable {X : Cx} {E : St → XK} {K : PySem.W.Frag} {elt target iter : Expr} {ifs : List Expr} {rest : List Comprehension} {scope : Scope} {pos : Pos} {Nc vars : List Str} {caps : List Nat} {g : TG} {tb : Addr → TB}
theorem s_ownC {it : Dn → M (List D)} {tg : TgF} {tt : Dn → M Bool} {b : Dn → M (List D)} {i : Nat} {x : Str} {pos' spos : Pos} (hN : X.N.Nodup) (hi' : X.N[i]? = some x) (hx : Loc X.env.scope x) (hc : X.calm = true) (S : CmpScope X scope Nc vars caps) (hi : PI X target iter (iV X.K it E))
    (hb : ∀ (cl : List (Str × Addr)) (C : Addr) (fp : List Addr) (s : Shared) (H : Hp), PG (cxComp X Nc scope cl C fp s H) target g ∧ PIfs (cxComp X Nc scope cl C fp s H) ifs (tVT X.K tt E0) ∧ ∀ D, PB (cxComp X Nc scope cl C fp s H) elt (⟨target, iter, ifs, 0⟩ :: rest) scope pos 0 D (tb D))
    (lg : LiftG X.K g tg) (sg : SubG tg) (lb : ∀ D, LiftB X.K D (tb D) b)
    (hsw : swapsWith (.ListComp elt (⟨target, iter, ifs, 0⟩ :: rest) scope pos) (some (.Name x pos')) spos.line X.env = pure true := by rfl)
    (hs : ∀ x, foldedSetIterable iter X.env x = pure x := by intro _; rfl) (hf : X.fn x = true ∨ X.env.scope.names.lookup x = some .local := by first | exact .inl rfl | exact .inr rfl | assumption) :
    PS X (.Assign [.Name x pos'] (.ListComp elt (⟨target, iter, ifs, 0⟩ :: rest) scope pos) spos) (tG X.K X.H₀ (gOwnE i (fCompL vars.length caps it tg tt b)) E) :=
  s_ownE ((ps_setC hN hi' hx hc S hi hb hsw hs hf).imp fun D σ H h => tCompL_of lg sg lb h)
end
section
variable {X : Cx} {E : St → XK} {K : PySem.W.Frag} {st : Stmt} {H₀ : Hp} {B : Ow} {bg : Option (Addr × Addr)} {H H' : Hp} {δ : Ds} {β β' : Bg} {σ : St}
theorem flat_den2 {K : PySem.W.Frag} {F F2 : Fx} {H H2 : Hp} {d : D} {v : V} (hf : flatD d = true) (h : Den K F H d v) : Den K F2 H2 d v := by
  cases d <;> first | exact h | cases hf
noncomputable def gItemF (i : Nat) (fa fv : Dn → M D) : G := fun δ β => match fv (vwA δ) β with
  | some (.ok d, β1) => match fa (vwA δ) β1 with
    | some (.ok (.int ka), β2) => match δ.getD i none with
      | some (.own ds) => match ixN ds.length ka with
        | some ja => if flatD d = true then some (.nx (δ.set i (some (.own (ds.set ja d)))), β2) else none
        | none => none
      | _ => none
    | _ => none
  | _ => none
theorem s_itemF {i : Nat} {fa fv : Dn → M D} (h : PS X st (tAsg (tV X.K fv E) (gSub (tVar i) (tV X.K fa E) rSetL))) : PS X st (tG X.K X.H₀ (gItemF i fa fv) E) := h.imp fun D σ H h_ => by
  obtain ⟨B, bg, δ, β, o, β', ok, e, q⟩ := h_
  refine ⟨FxA B bg, vwA δ, β, ok.frA, ok.viewA, ?_⟩
  unfold gItemF at e
  split at e
  · rename_i d β1 e1
    refine ⟨.ok d, _, e1, fun v H1 t1 hd => ?_⟩
    obtain ⟨ok1, s1⟩ := ok.to rfl t1
    split at e
    · rename_i ka β2 e2
      split at e
      · rename_i ds ec
        split at e
        · rename_i ja ea
          split at e
          case isFalse => cases e
          rename_i hf
          cases e
          obtain ⟨w, h1, a, xs, rfl, hB, ha, dl⟩ := ok1.tell i _ (getD_some ec)
          refine ⟨_, h1, FxA B bg, vwA δ, β1, ok1.frA, ok1.viewA, .ok (.int ka), _, e2, fun y H2 t2 hy => ?_⟩
          cases hy
          obtain ⟨ok2, s2⟩ := ok1.to (F := FxA B bg) rfl t2
          obtain ⟨w2, h2, a2, xs2, ew, hB2, ha2, dl2⟩ := ok2.tell i _ (getD_some ec)
          rw [h1] at h2
          cases h2
          cases ew
          refine ⟨a, xs2, ka, ja, rfl, rfl, ha2, by rw [← dl2.length]; exact ea, ?_⟩
          obtain ⟨ok3, s3⟩ := ok2.writeOwn (ds := ds.set ja d) (xs := xs2.set ja v) h1 hB2 ha2 (DenL.set ja dl2 (flat_den2 hf hd))
          exact q _ _ _ (s1.trans (s2.trans s3)) ok3
        · cases e
      · cases e
    · cases e
  · cases e
end
theorem w_itemF {h : G} {i : Nat} {fa fv : Dn → M D} {δ : Ds} {β β1 β2 : Bg} {Q : Out → Bg → Prop} {d : D} {cs : List D} {ka : Int} {ja : Nat} (e1 : fv (vwA δ) β = some (.ok d, β1)) (e2 : fa (vwA δ) β1 = some (.ok (.int ka), β2)) (eg : δ.getD i none = some (.own cs)) (h1 : ixN cs.length ka = some ja) (k : Gw h (δ.set i (some (.own (cs.set ja d)))) β2 Q) (hf : flatD d = true := by rfl) : Gw (gSeq (gItemF i fa fv) h) δ β Q :=
  w_seq (by unfold gItemF; simp only [e1, e2, eg, h1, hf, if_true]) k
theorem lU1 {us : List Value} (h : us.length = 1) : ∃ a0, us = [a0] := List.length_eq_one_iff.mp h
theorem lU2 {us : List Value} (h : us.length = 2) : ∃ a0 a1, us = [a0, a1] := by
  obtain ⟨a, l, rfl⟩ := List.exists_cons_of_length_eq_add_one h
  obtain ⟨b, rfl⟩ := lU1 (us := l) (by simpa using h)
  exact ⟨_, _, rfl⟩
theorem lU3 {us : List Value} (h : us.length = 3) : ∃ a0 a1 a2, us = [a0, a1, a2] := by
  obtain ⟨a, l, rfl⟩ := List.exists_cons_of_length_eq_add_one h
  obtain ⟨b, c, rfl⟩ := lU2 (us := l) (by simpa using h)
  exact ⟨_, _, _, rfl⟩
theorem lU4 {us : List Value} (h : us.length = 4) : ∃ a0 a1 a2 a3, us = [a0, a1, a2, a3] := by
  obtain ⟨a, l, rfl⟩ := List.exists_cons_of_length_eq_add_one h
  obtain ⟨b, c, d, rfl⟩ := lU3 (us := l) (by simpa using h)
  exact ⟨_, _, _, _, rfl⟩
end L2.Pu
set_option maxHeartbeats 8000000
namespace Law
open PySem L2 L2.Pu
noncomputable def top (i : Nat) : Stmt := PySem.Challenge.pw_edgetally_k30_measures_refused.main.body.getD i (.Pass ⟨0, 0, 0, 0⟩)
noncomputable abbrev s_check_sums : Stmt := top 10
noncomputable abbrev s_check_there : Stmt := top 11
noncomputable abbrev s_check_cell : Stmt := top 12
noncomputable abbrev s_common_factor : Stmt := top 18
noncomputable abbrev s_least_common : Stmt := top 24
noncomputable abbrev s_l_bag : Stmt := top 30
noncomputable abbrev s_l_pull : Stmt := top 31
noncomputable abbrev s_l_turned : Stmt := top 32
noncomputable abbrev s_l_rowsums : Stmt := top 33
noncomputable abbrev s_l_columnsums : Stmt := top 34
noncomputable abbrev s_l_kind : Stmt := top 35
noncomputable abbrev s_l_any : Stmt := top 36
noncomputable abbrev s_l_good_sums : Stmt := top 37
noncomputable abbrev s_l_wild_sums : Stmt := top 38
noncomputable abbrev s_Measure___init__ : Stmt := inClass (top 28) 0
noncomputable abbrev s_law : Stmt := top 39
noncomputable abbrev sx_EdgeError : Stmt := inClass (top 1) 0
noncomputable abbrev sx_BadSums : Stmt := inClass (top 2) 0
noncomputable abbrev sx_BadRule : Stmt := inClass (top 3) 0
noncomputable abbrev sx_BadCell : Stmt := inClass (top 4) 0
noncomputable abbrev sx_BadNumber : Stmt := inClass (top 5) 0
set_option genSizeOf false in
set_option genInjectivity false in
structure Ad where
  C_EdgeError : Addr
  x_EdgeError : Addr
  y_EdgeError : FuncData
  C_BadSums : Addr
  x_BadSums : Addr
  y_BadSums : FuncData
  C_BadRule : Addr
  x_BadRule : Addr
  y_BadRule : FuncData
  C_BadCell : Addr
  x_BadCell : Addr
  y_BadCell : FuncData
  C_BadNumber : Addr
  x_BadNumber : Addr
  y_BadNumber : FuncData
  C_Measure : Addr
  f_check_sums : Addr
  d_check_sums : FuncData
  f_check_there : Addr
  d_check_there : FuncData
  f_check_cell : Addr
  d_check_cell : FuncData
  f_common_factor : Addr
  d_common_factor : FuncData
  f_least_common : Addr
  d_least_common : FuncData
  f_l_bag : Addr
  d_l_bag : FuncData
  f_l_pull : Addr
  d_l_pull : FuncData
  f_l_turned : Addr
  d_l_turned : FuncData
  f_l_rowsums : Addr
  d_l_rowsums : FuncData
  f_l_columnsums : Addr
  d_l_columnsums : FuncData
  f_l_kind : Addr
  d_l_kind : FuncData
  f_l_any : Addr
  d_l_any : FuncData
  f_l_good_sums : Addr
  d_l_good_sums : FuncData
  f_l_wild_sums : Addr
  d_l_wild_sums : FuncData
  f_Measure___init__ : Addr
  d_Measure___init__ : FuncData
  f_law : Addr
  d_law : FuncData
structure Fns (K : PySem.W.Frag) (mg : Str → Option Value) (a : Ad) : Prop where
  n_ValueError : mg "ValueError" = none
  n_abs : mg "abs" = none
  n_any : mg "any" = none
  n_isinstance : mg "isinstance" = none
  n_len : mg "len" = none
  n_list : mg "list" = none
  n_min : mg "min" = none
  n_range : mg "range" = none
  n_sum : mg "sum" = none
  g_BY_PLACE : CstOk K mg "BY_PLACE" (.tup [.str (Str.ofString "most"), .str (Str.ofString "least")])
  g_KINDS : CstOk K mg "KINDS" (.tup [.str (Str.ofString "rare"), .str (Str.ofString "square"), .str (Str.ofString "power"), .str (Str.ofString "off"), .str (Str.ofString "most"), .str (Str.ofString "least")])
  g_MOST : CstOk K mg "MOST" (.int 40)
  g_MOST_COLUMNS : CstOk K mg "MOST_COLUMNS" (.int 6)
  g_MOST_ROWS : CstOk K mg "MOST_ROWS" (.int 4)
  F_check_sums : FunD K "check_sums" "check_sums" s_check_sums a.f_check_sums a.d_check_sums
  m_check_sums : mg "check_sums" = some (.ref a.f_check_sums)
  b_check_sums : Binds K a.d_check_sums ["rowsums", "columnsums"] []
  F_check_there : FunD K "check_there" "check_there" s_check_there a.f_check_there a.d_check_there
  m_check_there : mg "check_there" = some (.ref a.f_check_there)
  b_check_there : Binds K a.d_check_there ["place", "many"] []
  F_check_cell : FunD K "check_cell" "check_cell" s_check_cell a.f_check_cell a.d_check_cell
  m_check_cell : mg "check_cell" = some (.ref a.f_check_cell)
  b_check_cell : Binds K a.d_check_cell ["row", "column", "rows", "columns"] []
  F_common_factor : FunD K "common_factor" "common_factor" s_common_factor a.f_common_factor a.d_common_factor
  m_common_factor : mg "common_factor" = some (.ref a.f_common_factor)
  b_common_factor : Binds K a.d_common_factor ["one", "other"] []
  F_least_common : FunD K "least_common" "least_common" s_least_common a.f_least_common a.d_least_common
  m_least_common : mg "least_common" = some (.ref a.f_least_common)
  b_least_common : Binds K a.d_least_common ["numbers"] []
  F_l_bag : FunD K "_law_bag" "_law_bag" s_l_bag a.f_l_bag a.d_l_bag
  m_l_bag : mg "_law_bag" = some (.ref a.f_l_bag)
  b_l_bag : Binds K a.d_l_bag ["_law_script"] []
  F_l_pull : FunD K "_law_pull" "_law_pull" s_l_pull a.f_l_pull a.d_l_pull
  m_l_pull : mg "_law_pull" = some (.ref a.f_l_pull)
  b_l_pull : Binds K a.d_l_pull ["_law_bag_here", "_law_lot"] []
  F_l_turned : FunD K "_law_turned" "_law_turned" s_l_turned a.f_l_turned a.d_l_turned
  m_l_turned : mg "_law_turned" = some (.ref a.f_l_turned)
  b_l_turned : Binds K a.d_l_turned ["_law_block"] []
  F_l_rowsums : FunD K "_law_rowsums" "_law_rowsums" s_l_rowsums a.f_l_rowsums a.d_l_rowsums
  m_l_rowsums : mg "_law_rowsums" = some (.ref a.f_l_rowsums)
  b_l_rowsums : Binds K a.d_l_rowsums ["_law_grid"] []
  F_l_columnsums : FunD K "_law_columnsums" "_law_columnsums" s_l_columnsums a.f_l_columnsums a.d_l_columnsums
  m_l_columnsums : mg "_law_columnsums" = some (.ref a.f_l_columnsums)
  b_l_columnsums : Binds K a.d_l_columnsums ["_law_grid"] []
  F_l_kind : FunD K "_law_kind" "_law_kind" s_l_kind a.f_l_kind a.d_l_kind
  m_l_kind : mg "_law_kind" = some (.ref a.f_l_kind)
  b_l_kind : Binds K a.d_l_kind ["_law_bag_here"] []
  F_l_any : FunD K "_law_any" "_law_any" s_l_any a.f_l_any a.d_l_any
  m_l_any : mg "_law_any" = some (.ref a.f_l_any)
  b_l_any : Binds K a.d_l_any ["_law_bag_here"] []
  F_l_good_sums : FunD K "_law_good_sums" "_law_good_sums" s_l_good_sums a.f_l_good_sums a.d_l_good_sums
  m_l_good_sums : mg "_law_good_sums" = some (.ref a.f_l_good_sums)
  b_l_good_sums : Binds K a.d_l_good_sums ["_law_rowsums_here", "_law_columnsums_here"] []
  F_l_wild_sums : FunD K "_law_wild_sums" "_law_wild_sums" s_l_wild_sums a.f_l_wild_sums a.d_l_wild_sums
  m_l_wild_sums : mg "_law_wild_sums" = some (.ref a.f_l_wild_sums)
  b_l_wild_sums : Binds K a.d_l_wild_sums ["_law_bag_here"] []
  F_Measure___init__ : FunD K "__init__" "Measure.__init__" s_Measure___init__ a.f_Measure___init__ a.d_Measure___init__
  mk_Measure : Mk K a.C_Measure a.f_Measure___init__
  kb_place_Measure___init__ : KwOk K a.d_Measure___init__ ["self", "kind", "rowsums", "columnsums", "place"] ["place"] 4 [.kw 0]
  cl_Measure : Cls K a.C_Measure
  m_Measure : mg "Measure" = some (.ref a.C_Measure)
  na_Measure_column_list : NoAttr K a.C_Measure "column_list"
  na_Measure_even : NoAttr K a.C_Measure "even"
  na_Measure_kind : NoAttr K a.C_Measure "kind"
  na_Measure_place : NoAttr K a.C_Measure "place"
  na_Measure_row_list : NoAttr K a.C_Measure "row_list"
  FX_EdgeError : FunD K "__init__" "EdgeError.__init__" sx_EdgeError a.x_EdgeError a.y_EdgeError
  b_EdgeError : Binds K a.y_EdgeError ["self", "word", "why"] []
  m_EdgeError : mg "EdgeError" = some (.ref a.C_EdgeError)
  FX_BadSums : FunD K "__init__" "BadSums.__init__" sx_BadSums a.x_BadSums a.y_BadSums
  b_BadSums : Binds K a.y_BadSums ["self", "why"] []
  m_BadSums : mg "BadSums" = some (.ref a.C_BadSums)
  xm_BadSums : XMk K a.C_BadSums a.x_BadSums
  w_BadSums : PySem.W.findIn K (.ref a.C_BadSums) "word" = some none
  FX_BadRule : FunD K "__init__" "BadRule.__init__" sx_BadRule a.x_BadRule a.y_BadRule
  b_BadRule : Binds K a.y_BadRule ["self", "why"] []
  m_BadRule : mg "BadRule" = some (.ref a.C_BadRule)
  xm_BadRule : XMk K a.C_BadRule a.x_BadRule
  w_BadRule : PySem.W.findIn K (.ref a.C_BadRule) "word" = some none
  FX_BadCell : FunD K "__init__" "BadCell.__init__" sx_BadCell a.x_BadCell a.y_BadCell
  b_BadCell : Binds K a.y_BadCell ["self", "why"] []
  m_BadCell : mg "BadCell" = some (.ref a.C_BadCell)
  xm_BadCell : XMk K a.C_BadCell a.x_BadCell
  w_BadCell : PySem.W.findIn K (.ref a.C_BadCell) "word" = some none
  FX_BadNumber : FunD K "__init__" "BadNumber.__init__" sx_BadNumber a.x_BadNumber a.y_BadNumber
  b_BadNumber : Binds K a.y_BadNumber ["self", "why"] []
  m_BadNumber : mg "BadNumber" = some (.ref a.C_BadNumber)
  xm_BadNumber : XMk K a.C_BadNumber a.x_BadNumber
  w_BadNumber : PySem.W.findIn K (.ref a.C_BadNumber) "word" = some none
  cE : ClsFn K a.C_EdgeError "__init__" a.x_EdgeError
section
variable {P : Program} {w : World} {K : PySem.W.Frag} {mg : Str → Option Value} {base : Heap} {a : Ad}
noncomputable def spEdge (K : PySem.W.Frag) : Sp := fun vs H Q _ => ∃ (x C : Addr) (wd y : V), vs = [.ref x, wd, y] ∧ H x = some (excH C x none) ∧ XC K C ∧ PySem.W.findIn K (.ref C) "word" = some none ∧ ∀ (d : Addr) (H' : Hp), H' x = some (excH C x (some d)) → (∀ b o, H b = some o → b ≠ x → H' b = some o) → Q .non H'
theorem scx_EdgeError : FnScope ["self", "word", "why"] ["self", "word", "why"] (defScope sx_EdgeError) := ⟨rfl, rfl, rfl, by decide +kernel, rfl, by decide +kernel, by decide +kernel⟩
theorem ok_edge (N : Fns K mg a) : FnOk P w K mg base (CXE P w) 1 a.x_EdgeError a.y_EdgeError ["self", "word", "why"] (spEdge K) := by
  refine N.FX_EdgeError.ok scx_EdgeError (fun vs H Q E h => ?_) (fun cdv A outer s H vs Q E hr h => ?_)
  · obtain ⟨x, C, wd, y, rfl, _⟩ := h
    rfl
  · obtain ⟨x, C, wd, y, rfl, hx, c, hf, k⟩ := h
    refine ⟨_, pss_cons (ps_expr (pe_vinit rfl N.n_ValueError (pa_cons (pv 0) (pa_cons (pv 2) pa_nil)))) (pss_one (ps_fldX0 (pv 0) (pv 1) rfl)), ?_⟩
    refine ⟨_, rfl, _, rfl, x, C, none, _, rfl, (by show 1 ≤ sizeLine; decide), hx, c, ?_⟩
    refine ⟨_, rfl, _, rfl, x, C, rfl, upd_same, c, hf, fun d hd hda => ?_⟩
    refine k d _ upd_same fun b o e hb => ?_
    have hdn : H d = none := by rw [upd_ne hda] at hd; exact hd
    rw [upd_ne hb, upd_ne (ne_of_none e hdn), upd_ne hb]
    exact e
theorem scx_BadSums : FnScope ["self", "why"] ["self", "why"] (defScope sx_BadSums) := ⟨rfl, rfl, rfl, by decide +kernel, rfl, by decide +kernel, by decide +kernel⟩
theorem okx_BadSums (N : Fns K mg a) : FnOk P w K mg base (CXE P w) 2 a.x_BadSums a.y_BadSums ["self", "why"] (spExc a.C_BadSums 1) := by
  have GE := ok_edge (P := P) (w := w) (base := base) N
  refine N.FX_BadSums.ok scx_BadSums (fun vs H Q E h => ?_) (fun cdv A outer s H vs Q E hr h => ?_)
  · obtain ⟨x, rest, rfl, hl, _⟩ := h
    show rest.length + 1 = 2
    rw [hl]
  · obtain ⟨x, rest, rfl, hl, hx, k⟩ := h
    obtain ⟨y, rfl⟩ : ∃ y, rest = [y] := List.length_eq_one_iff.mp hl
    refine ⟨_, pss_one (ps_expr (pe_clsCall N.cE GE hr rfl N.m_EdgeError N.b_EdgeError .nil passN (pa_cons (pv 0) (pa_cons pe_str (pa_cons (pv 1) pa_nil))))), ?_⟩
    exact ⟨_, rfl, _, rfl, x, a.C_BadSums, _, y, rfl, hx, N.xm_BadSums.xc, N.w_BadSums, fun d H' h1 h2 => k _ H' h1 h2⟩
theorem scx_BadRule : FnScope ["self", "why"] ["self", "why"] (defScope sx_BadRule) := ⟨rfl, rfl, rfl, by decide +kernel, rfl, by decide +kernel, by decide +kernel⟩
theorem okx_BadRule (N : Fns K mg a) : FnOk P w K mg base (CXE P w) 2 a.x_BadRule a.y_BadRule ["self", "why"] (spExc a.C_BadRule 1) := by
  have GE := ok_edge (P := P) (w := w) (base := base) N
  refine N.FX_BadRule.ok scx_BadRule (fun vs H Q E h => ?_) (fun cdv A outer s H vs Q E hr h => ?_)
  · obtain ⟨x, rest, rfl, hl, _⟩ := h
    show rest.length + 1 = 2
    rw [hl]
  · obtain ⟨x, rest, rfl, hl, hx, k⟩ := h
    obtain ⟨y, rfl⟩ : ∃ y, rest = [y] := List.length_eq_one_iff.mp hl
    refine ⟨_, pss_one (ps_expr (pe_clsCall N.cE GE hr rfl N.m_EdgeError N.b_EdgeError .nil passN (pa_cons (pv 0) (pa_cons pe_str (pa_cons (pv 1) pa_nil))))), ?_⟩
    exact ⟨_, rfl, _, rfl, x, a.C_BadRule, _, y, rfl, hx, N.xm_BadRule.xc, N.w_BadRule, fun d H' h1 h2 => k _ H' h1 h2⟩
theorem scx_BadCell : FnScope ["self", "why"] ["self", "why"] (defScope sx_BadCell) := ⟨rfl, rfl, rfl, by decide +kernel, rfl, by decide +kernel, by decide +kernel⟩
theorem okx_BadCell (N : Fns K mg a) : FnOk P w K mg base (CXE P w) 2 a.x_BadCell a.y_BadCell ["self", "why"] (spExc a.C_BadCell 1) := by
  have GE := ok_edge (P := P) (w := w) (base := base) N
  refine N.FX_BadCell.ok scx_BadCell (fun vs H Q E h => ?_) (fun cdv A outer s H vs Q E hr h => ?_)
  · obtain ⟨x, rest, rfl, hl, _⟩ := h
    show rest.length + 1 = 2
    rw [hl]
  · obtain ⟨x, rest, rfl, hl, hx, k⟩ := h
    obtain ⟨y, rfl⟩ : ∃ y, rest = [y] := List.length_eq_one_iff.mp hl
    refine ⟨_, pss_one (ps_expr (pe_clsCall N.cE GE hr rfl N.m_EdgeError N.b_EdgeError .nil passN (pa_cons (pv 0) (pa_cons pe_str (pa_cons (pv 1) pa_nil))))), ?_⟩
    exact ⟨_, rfl, _, rfl, x, a.C_BadCell, _, y, rfl, hx, N.xm_BadCell.xc, N.w_BadCell, fun d H' h1 h2 => k _ H' h1 h2⟩
theorem sc_l_pull : FnScope ["_law_bag_here", "_law_lot", "_law_cells", "_law_at", "_law_cell"] ["_law_bag_here", "_law_lot"] (defScope s_l_pull) := ⟨rfl, rfl, rfl, by decide +kernel, rfl, by decide +kernel, by decide +kernel⟩
theorem ok_l_pull (N : Fns K mg a) : FnOk P w K mg base (CXE P w) 2 a.f_l_pull a.d_l_pull ["_law_bag_here", "_law_lot"] (spF K 2 mPull) := by
  refine N.F_l_pull.ok (k := 1) sc_l_pull (fun vs H Q E h => h.1) (fun cdv A outer s H vs Q E hr h => ?_)
  obtain ⟨_, F, ds, β, fr, hd, r, β', e, k⟩ := h
  obtain ⟨lot, rfl, ok, h0, h1, rfl, rfl⟩ := mPull_inv e
  obtain ⟨v, w', rfl, d1, d2⟩ := DenL.two hd
  unfold Den at d1
  obtain ⟨b, l, ebg, rfl⟩ := d1
  cases d2.int
  obtain ⟨hb, hl⟩ := fr.bag b l ebg
  obtain ⟨ab, al, nbl⟩ := fr.bgA b l ebg
  obtain ⟨hk, hck, hc0, ek⟩ := ok.at
  obtain ⟨_, _, hcp, _⟩ := pull_ok ok h0
  have len : ((β.cells.map V.int).length : Int) = (β.cells.length : Int) := by rw [List.length_map]
  have hat : atI (β.cells.map V.int) (β.pos : Int) = some (.int β.cell) := atI_nat (by rw [List.getElem?_map, hck]; rfl)
  refine ⟨_, pss_cons (ps_set (i := 2) sc_l_pull.nd rfl (Or.inl rfl) (pe_ix ix_list (pv 0) pe_int (fun _ _ => rfl)))
    (pss_cons (ps_set (i := 3) sc_l_pull.nd rfl (Or.inl rfl) (pe_op op_mod (pe_ix ix_list (pv 0) pe_int (fun _ _ => rfl)) (pe_callB call_len_seq (by rfl) N.n_len PySem.boot_len (pa_cons (pv 2) pa_nil))))
    (pss_cons (ps_set (i := 4) sc_l_pull.nd rfl (Or.inl rfl) (pe_ix ix_list (pv 2) (pv 3) (fun _ _ => rfl)))
    (pss_cons (ps_if (pt_cmpR op_ge (pv 4) (pe_op op_pow pe_int pe_int) (nomark _))
      (pss_cons (ps_asg (pe_op op_fdiv (pv 4) (pv 1)) (pg_sub (pv 2) (pv 3) set_list)) (pss_one (ps_ret (pe_op op_mod (pv 4) (pv 1))))) pss_nil)
    (pss_cons (ps_asg (pe_op op_add (pe_ix ix_list (pv 0) pe_int (fun _ _ => rfl)) pe_int) (pg_sub (pv 0) pe_int set_list))
    (pss_cons (ps_asg (pe_op op_mod (pe_op op_mul (pe_op op_add (pe_op op_add (pe_ix ix_list (pv 0) pe_int (fun _ _ => rfl)) (pe_op op_mod (pv 4) pe_int)) pe_int) pe_int) pe_int) (pg_sub (pv 0) pe_int set_list))
    (pss_one (ps_ret (pe_op op_mod (pe_op op_fdiv (pe_ix ix_list (pv 0) pe_int (fun _ _ => rfl)) pe_int) (pv 1))))))))), ?_⟩
  refine ⟨_, rfl, b, _, _, _, rfl, rfl, SqL.of hb, rfl, ?_⟩
  refine ⟨_, rfl, b, _, _, _, rfl, rfl, SqL.of hb, rfl, _, rfl, l, _, rfl, .inl (SqL.of hl), _, _, rfl, rfl, ?_, ?_⟩
  · have := hk
    rw [len]
    omega
  refine ⟨_, rfl, _, rfl, l, _, _, _, rfl, rfl, SqL.of hl, by rw [len, ek]; exact hat, ?_⟩
  refine ⟨_, rfl, _, _, rfl, rfl, ⟨by decide, by decide, by decide⟩, _, _, rfl, rfl, _, rfl, ?_⟩
  have occ : ∀ {H' : Hp} {p : Addr} {o : HO}, (∀ c, F.A c → H' c ≠ none) → ∀ c, F.A c → upd H' p o c ≠ none := fun {H' p o} f c hc z => by
    by_cases q : c = p
    · subst q; rw [upd_same] at z; cases z
    · rw [upd_ne q] at z; exact f c hc z
  refine ite2 (fun hbig => ?_) (fun hbig => ?_)
  · have big : (10 : Int) ^ 18 ≤ β.cell := of_decide_eq_true hbig
    refine ⟨_, rfl, _, rfl, _, _, rfl, rfl, ⟨h0, h1⟩, _, rfl, _, rfl, l, _, _, β.pos, rfl, rfl, hl, ?_, ?_⟩
    · rw [len, ek, List.length_map]
      exact ixN_nat hk
    refine ⟨_, rfl, _, rfl, _, _, rfl, rfl, h0, ?_⟩
    have e1 : pullR β lot = β.cell % lot := if_pos big
    have e2 : pullB β lot = ⟨β.cells.set β.pos (β.cell / lot), β.i, β.j⟩ := if_pos big
    rw [e1, e2] at k
    refine k _ _ ⟨fun c o hc n => by rw [upd_ne (n b l ebg).2]; exact hc, occ fr.occ, fr.bgA, fun b' l' e' => ?_⟩ rfl
    rw [ebg] at e'
    cases e'
    exact ⟨by rw [upd_ne nbl]; exact hb, by rw [upd_same, List.map_set]⟩
  · have big : ¬ (10 : Int) ^ 18 ≤ β.cell := fun q => hbig (decide_eq_true q)
    refine ⟨_, rfl, b, _, _, _, rfl, rfl, SqL.of hb, rfl, _, _, rfl, rfl, _, rfl, b, _, _, 1, rfl, rfl, hb, rfl, ?_⟩
    have hb1 : (upd H b (.lst [.ref l, .int (β.i + 1), .int β.j])) b = some (.lst [.ref l, .int (β.i + 1), .int β.j]) := upd_same
    refine ⟨_, rfl, b, _, _, _, rfl, rfl, SqL.of hb1, rfl, _, rfl, _, _, rfl, rfl, (by show (0 : Int) < 2147483629; decide), _, _, rfl, rfl, _, _, rfl, rfl, _, _, rfl, rfl, .inr ⟨by decide, by decide⟩, _, _, rfl, rfl, (by show (0 : Int) < 2147483629; decide), _, rfl, b, _, _, 2, rfl, rfl, hb1, rfl, ?_⟩
    have hb2 : (upd (upd H b (.lst [.ref l, .int (β.i + 1), .int β.j])) b (.lst [.ref l, .int (β.i + 1), .int β.nxt])) b = some (.lst [.ref l, .int (β.i + 1), .int β.nxt]) := upd_same
    refine ⟨_, rfl, b, _, _, _, rfl, rfl, SqL.of hb2, rfl, _, _, rfl, rfl, ⟨by decide, by decide⟩, _, rfl, _, _, rfl, rfl, h0, ?_⟩
    have e1 : pullR β lot = β.nxt / 64 % lot := if_neg big
    have e2 : pullB β lot = ⟨β.cells, β.i + 1, β.nxt⟩ := if_neg big
    rw [e1, e2] at k
    refine k _ _ ⟨fun c o hc n => by rw [upd_ne (n b l ebg).1, upd_ne (n b l ebg).1]; exact hc, occ (occ fr.occ), fr.bgA, fun b' l' e' => ?_⟩ rfl
    rw [ebg] at e'
    cases e'
    exact ⟨hb2, by rw [upd_ne nbl.symm, upd_ne nbl.symm]; exact hl⟩
theorem sc_l_bag : FnScope ["_law_script"] ["_law_script"] (defScope s_l_bag) := ⟨rfl, rfl, rfl, by decide +kernel, rfl, by decide +kernel, by decide +kernel⟩
theorem nd1 : (["_law_cell"] : List Str).Nodup := by decide +kernel
theorem ok_l_bag (N : Fns K mg a) : FnOk P w K mg base (CXE P w) 1 a.f_l_bag a.d_l_bag ["_law_script"] (spBag K) := by
  refine N.F_l_bag.ok sc_l_bag (fun vs H Q E h => ?_) (fun cdv A outer s H vs Q E hr h => ?_)
  · obtain ⟨a, ns, rfl, _⟩ := h
    rfl
  · obtain ⟨a, ns, rfl, hS, k⟩ := h
    refine ⟨_, pss_one (ps_ret (pe_lst (pa_cons (pe_op op_cat (pe_comp rfl (vars := ["_law_cell"]) (CmpScope.plain rfl (by decide +kernel) (by decide +kernel)) (pi_list (pe_slice sl_list (pv 0) po_none (po_some pe_int)))
      (fun cl C fp s H => ⟨pg_name (i := 0) nd1 rfl (Or.inl rfl), pifs_nil, fun D => pb_emit rfl (pe_callB call_abs (by rfl) N.n_abs PyProof.Rows.Boot.«abs» (pa_cons (pv 0) pa_nil)) rfl⟩)) (pe_lst (pa_cons pe_int pa_nil))) (pa_cons pe_int (pa_cons pe_int pa_nil))))), ?_⟩
    obtain ⟨ms, ems, lms⟩ := cut63 ns
    refine ⟨_, rfl, 63, rfl, a, _, rfl, hS, fun p hp => ?_⟩
    rw [ems]
    have s1 : Same H (upd H p (.lst (ms.map V.int))) := Same.upd hp
    refine ⟨p, rfl, ⟨_, SqL.of upd_same⟩, fun D hD => ?_⟩
    have nDp : D ≠ p := fun z => by subst z; rw [upd_same] at hD; cases hD
    refine cloop_list (xs := ms.map V.int) (fun i σ H2 => ∃ cs : List Int, (∃ v, σ = [v]) ∧ cs.length = i ∧ (∀ c ∈ cs, 0 ≤ c) ∧ H2 D = some (.lst (cs.map V.int)) ∧ H2 p = some (.lst (ms.map V.int)) ∧ Same H H2) ⟨[], ⟨_, rfl⟩, rfl, (fun _ h => nomatch h), upd_same, by rw [upd_ne nDp.symm, upd_same], s1.trans (Same.upd hD)⟩
      (fun i σ H2 _ ⟨_, _, _, _, _, e, _⟩ => SqL.of e) ?_ ?_
    · rintro i x σ H2 hi ⟨cs, ⟨v, rfl⟩, hcl, hc0, hDc, hp2, s2⟩
      have hil : i < ms.length := by have := (List.getElem?_eq_some_iff.mp hi).1; rwa [List.length_map] at this
      obtain ⟨z, rfl⟩ : ∃ z, x = V.int z := by
        rw [List.getElem?_map] at hi
        cases e : ms[i]? with
        | none => rw [e] at hi; cases hi
        | some z => rw [e] at hi; exact ⟨z, (Option.some.inj hi).symm⟩
      unfold gName tIf0
      refine iteT ?_
      refine ⟨_, rfl, _, rfl, cs.map V.int, hDc, by rw [List.length_map]; exact small1000 (by omega), cs ++ [if z < 0 then -z else z], ⟨_, rfl⟩, by rw [List.length_append, hcl]; rfl, fun c hc => ?_, by rw [upd_same, List.map_append]; rfl, by rw [upd_ne nDp.symm]; exact hp2, fun b o e => ?_⟩
      · rcases List.mem_append.mp hc with hc | hc
        · exact hc0 c hc
        · obtain rfl : c = _ := by simpa using hc
          split <;> omega
      · rw [upd_ne (ne_of_none e (s1.free hD))]
        exact s2 b o e
    · rintro σ H2 ⟨cs, ⟨v, rfl⟩, hcl, hc0, hDc, hp2, s2⟩
      rw [List.length_map] at hcl
      refine ⟨by decide, fun p2 hp2' => ⟨D, p2, _, _, rfl, rfl, by rw [upd_ne (ne_of_none hDc hp2')]; exact hDc, upd_same, by rw [List.length_map]; exact Nat.le_of_lt (small1000 (by simp; omega)), fun p3 hp3 => ⟨(by show 3 ≤ sizeLine; decide), fun p4 hp4 => ?_⟩⟩⟩
      have s3 : Same H2 (upd H2 p2 (.lst [V.int 1])) := Same.upd hp2'
      have s4 := s3.trans (Same.upd (o := .lst (cs.map V.int ++ [V.int 1])) hp3)
      have n34 : p3 ≠ p4 := fun z => by subst z; rw [upd_same] at hp4; cases hp4
      refine k p4 p3 _ ((s2.trans s4).free hp4) ((s2.trans s3).free hp3) ⟨cs ++ [1], 0, 0, upd_same, by rw [upd_ne n34, upd_same, List.map_append]; rfl, by simp, by rw [List.length_append]; simp; omega, fun c hc => ?_, by decide⟩ ((s2.trans s4).trans (Same.upd hp4))
      rcases List.mem_append.mp hc with hc | hc
      · exact hc0 c hc
      · obtain rfl : c = 1 := by simpa using hc
        decide
theorem sc_check_sums : FnScope ["rowsums", "columnsums"] ["rowsums", "columnsums"] (defScope s_check_sums) := ⟨rfl, rfl, rfl, by decide +kernel, rfl, by decide +kernel, by decide +kernel⟩
noncomputable def g_check_sums (K : PySem.W.Frag) (a : Ad) : G :=
    gSeq (gIf (fNotT (fB (fChain leD leD (fC (.int 1)) (fArgs lenD (aCons (fVar 0) (aNil))) (fC (.int 4))))) (gRaise a.C_BadSums (aCons (fFstr (jfInt (fC (.int 4)) (jfInt (fArgs lenD (aCons (fVar 0) (aNil))) (jfNil)))) (aNil))) (gNil))
    (gSeq (gIf (fNotT (fB (fChain leD leD (fC (.int 1)) (fArgs lenD (aCons (fVar 1) (aNil))) (fC (.int 6))))) (gRaise a.C_BadSums (aCons (fFstr (jfInt (fC (.int 6)) (jfInt (fArgs lenD (aCons (fVar 1) (aNil))) (jfNil)))) (aNil))) (gNil))
    (gSeq (gIf (fOrT (fTru (fArgs anyD (aCons (fComp 1 [] (nSeq (fVar 0)) (tgC 0) (fun _ => M.ret true) (cEm (f2 (ltD) (fVar 0) (fC (.int 0))))) (aNil)))) (fTru (fArgs anyD (aCons (fComp 1 [] (nSeq (fVar 1)) (tgC 0) (fun _ => M.ret true) (cEm (f2 (ltD) (fVar 0) (fC (.int 0))))) (aNil))))) (gRaise a.C_BadSums (aCons (fC (.str (Str.ofString "a sum is below nought"))) (aNil))) (gNil))
    (gSeq (gIf (fB (f2 (neAD) (fArgs sumAD (aCons (fVar 0) (aNil))) (fArgs sumAD (aCons (fVar 1) (aNil))))) (gRaise a.C_BadSums (aCons (fFstr (jfInt (fArgs sumAD (aCons (fVar 0) (aNil))) (jfInt (fArgs sumAD (aCons (fVar 1) (aNil))) (jfNil)))) (aNil))) (gNil))
    (gIf (fB (f2 (gtD) (fArgs sumAD (aCons (fVar 0) (aNil))) (fC (.int 40)))) (gRaise a.C_BadSums (aCons (fFstr (jfInt (fC (.int 40)) (jfNil))) (aNil))) (gNil)))))
noncomputable def m_check_sums (K : PySem.W.Frag) (a : Ad) : List D → M D := bodyM 2 (g_check_sums K a)
theorem ok_check_sums (N : Fns K mg a) : FnOk P w K mg base (CXE P w) 4 a.f_check_sums a.d_check_sums ["rowsums", "columnsums"] (spF K 2 (m_check_sums K a)) := by
  have X_BadSums := okx_BadSums (P := P) (w := w) (base := base) N
  unfold m_check_sums
  exact fn_n (k := 3) 2 2 (g_check_sums K a) N.F_check_sums sc_check_sums rfl rfl fun cdv A outer s H E hr => s_cons (s_if (t_not (t_chain op_le op_le l_le l_le (v_int) (v_callB call_len_seq l_len (by rfl) N.n_len PySem.boot_len (va_cons (v_var 0 (pv 0)) (va_nil))) (v_glob N.g_MOST_ROWS))) (s_one (s_raise N.xm_BadSums.xc (aCons_len (fun _ _ _ _ => aNil_len)) (by decide) (ps_raise hr.hd (pe_exc N.xm_BadSums X_BadSums (hr.mono (show 3 ≤ 3 by decide)) rfl N.m_BadSums N.b_BadSums .nil passN (va_cons (v_fstr (c := ((Str.ofString "there are 1 to ").length + (1921 + ((Str.ofString " row sums, not ").length + (1921 + 0))))) (j_str (j_int (v_glob N.g_MOST_ROWS) (j_str (j_int (v_callB call_len_seq l_len (by rfl) N.n_len PySem.boot_len (va_cons (v_var 0 (pv 0)) (va_nil))) (j_nil))))) (by decide +kernel)) (va_nil)))))) (s_nil))
      (s_cons (s_if (t_not (t_chain op_le op_le l_le l_le (v_int) (v_callB call_len_seq l_len (by rfl) N.n_len PySem.boot_len (va_cons (v_var 1 (pv 1)) (va_nil))) (v_glob N.g_MOST_COLUMNS))) (s_one (s_raise N.xm_BadSums.xc (aCons_len (fun _ _ _ _ => aNil_len)) (by decide) (ps_raise hr.hd (pe_exc N.xm_BadSums X_BadSums (hr.mono (show 3 ≤ 3 by decide)) rfl N.m_BadSums N.b_BadSums .nil passN (va_cons (v_fstr (c := ((Str.ofString "there are 1 to ").length + (1921 + ((Str.ofString " column sums, not ").length + (1921 + 0))))) (j_str (j_int (v_glob N.g_MOST_COLUMNS) (j_str (j_int (v_callB call_len_seq l_len (by rfl) N.n_len PySem.boot_len (va_cons (v_var 1 (pv 1)) (va_nil))) (j_nil))))) (by decide +kernel)) (va_nil)))))) (s_nil))
      (s_cons (s_if (t_bool (w_or (t_val (v_callB (call_anyL rfl) l_any (by rfl) N.n_any PyProof.Rows.Boot.«any» (va_cons (v_comp rfl (CmpScope.ofB (Nc := ["many"]) (vars := ["many"]) (caps := []) rfl (by decide +kernel) (by rfl) (by rfl) (by rfl)) (i_seq (v_var 0 (pv 0))) (fun cl C fp s H => ⟨(pg_name (i := 0) (show (["many"] : List Str).Nodup by decide +kernel) rfl (by first | exact Or.inl rfl | exact Or.inr rfl)), f_none, fun D => pb_emit rfl (v_cmp op_lt l_lt (v_var 0 (pv 0)) (v_int)) rfl⟩) lg_nameC sg_name (fun D => lb_emit)) (va_nil)))) (w_or1 (t_val (v_callB (call_anyL rfl) l_any (by rfl) N.n_any PyProof.Rows.Boot.«any» (va_cons (v_comp rfl (CmpScope.ofB (Nc := ["many"]) (vars := ["many"]) (caps := []) rfl (by decide +kernel) (by rfl) (by rfl) (by rfl)) (i_seq (v_var 1 (pv 1))) (fun cl C fp s H => ⟨(pg_name (i := 0) (show (["many"] : List Str).Nodup by decide +kernel) rfl (by first | exact Or.inl rfl | exact Or.inr rfl)), f_none, fun D => pb_emit rfl (v_cmp op_lt l_lt (v_var 0 (pv 0)) (v_int)) rfl⟩) lg_nameC sg_name (fun D => lb_emit)) (va_nil))))))) (s_one (s_raise N.xm_BadSums.xc (aCons_len (fun _ _ _ _ => aNil_len)) (by decide) (ps_raise hr.hd (pe_exc N.xm_BadSums X_BadSums (hr.mono (show 3 ≤ 3 by decide)) rfl N.m_BadSums N.b_BadSums .nil passN (va_cons (v_str) (va_nil)))))) (s_nil))
      (s_cons (s_if (t_cmp (op_neA hr) l_neA (v_callB (call_sumA rfl) l_sumA (by rfl) N.n_sum PyProof.Rows.Boot.«sum» (va_cons (v_var 0 (pv 0)) (va_nil))) (v_callB (call_sumA rfl) l_sumA (by rfl) N.n_sum PyProof.Rows.Boot.«sum» (va_cons (v_var 1 (pv 1)) (va_nil)))) (s_one (s_raise N.xm_BadSums.xc (aCons_len (fun _ _ _ _ => aNil_len)) (by decide) (ps_raise hr.hd (pe_exc N.xm_BadSums X_BadSums (hr.mono (show 3 ≤ 3 by decide)) rfl N.m_BadSums N.b_BadSums .nil passN (va_cons (v_fstr (c := ((Str.ofString "the rows have ").length + (1921 + ((Str.ofString " things, the columns ").length + (1921 + 0))))) (j_str (j_int (v_callB (call_sumA rfl) l_sumA (by rfl) N.n_sum PyProof.Rows.Boot.«sum» (va_cons (v_var 0 (pv 0)) (va_nil))) (j_str (j_int (v_callB (call_sumA rfl) l_sumA (by rfl) N.n_sum PyProof.Rows.Boot.«sum» (va_cons (v_var 1 (pv 1)) (va_nil))) (j_nil))))) (by decide +kernel)) (va_nil)))))) (s_nil))
      (s_one (s_if (t_cmp op_gt l_gt (v_callB (call_sumA rfl) l_sumA (by rfl) N.n_sum PyProof.Rows.Boot.«sum» (va_cons (v_var 0 (pv 0)) (va_nil))) (v_glob N.g_MOST)) (s_one (s_raise N.xm_BadSums.xc (aCons_len (fun _ _ _ _ => aNil_len)) (by decide) (ps_raise hr.hd (pe_exc N.xm_BadSums X_BadSums (hr.mono (show 3 ≤ 3 by decide)) rfl N.m_BadSums N.b_BadSums .nil passN (va_cons (v_fstr (c := ((Str.ofString "a table has at most ").length + (1921 + ((Str.ofString " things").length + 0)))) (j_str (j_int (v_glob N.g_MOST) (j_str (j_nil)))) (by decide +kernel)) (va_nil)))))) (s_nil))))))
theorem sc_check_there : FnScope ["place", "many"] ["place", "many"] (defScope s_check_there) := ⟨rfl, rfl, rfl, by decide +kernel, rfl, by decide +kernel, by decide +kernel⟩
noncomputable def g_check_there (K : PySem.W.Frag) (a : Ad) : G :=
    gIf (fNotT (fB (fChain leD ltD (fC (.int 0)) (fVar 0) (fVar 1)))) (gRaise a.C_BadCell (aCons (fFstr (jfInt (fVar 0) (jfInt (fVar 1) (jfNil)))) (aNil))) (gNil)
noncomputable def m_check_there (K : PySem.W.Frag) (a : Ad) : List D → M D := bodyM 2 (g_check_there K a)
theorem ok_check_there (N : Fns K mg a) : FnOk P w K mg base (CXE P w) 4 a.f_check_there a.d_check_there ["place", "many"] (spF K 2 (m_check_there K a)) := by
  have X_BadCell := okx_BadCell (P := P) (w := w) (base := base) N
  unfold m_check_there
  exact fn_n (k := 3) 2 2 (g_check_there K a) N.F_check_there sc_check_there rfl rfl fun cdv A outer s H E hr => s_one (s_if (t_not (t_chain op_le op_lt l_le l_lt (v_int) (v_var 0 (pv 0)) (v_var 1 (pv 1)))) (s_one (s_raise N.xm_BadCell.xc (aCons_len (fun _ _ _ _ => aNil_len)) (by decide) (ps_raise hr.hd (pe_exc N.xm_BadCell X_BadCell (hr.mono (show 3 ≤ 3 by decide)) rfl N.m_BadCell N.b_BadCell .nil passN (va_cons (v_fstr (c := ((Str.ofString "there is no number ").length + (1921 + ((Str.ofString " among ").length + (1921 + 0))))) (j_str (j_int (v_var 0 (pv 0)) (j_str (j_int (v_var 1 (pv 1)) (j_nil))))) (by decide +kernel)) (va_nil)))))) (s_nil))
theorem sc_check_cell : FnScope ["row", "column", "rows", "columns"] ["row", "column", "rows", "columns"] (defScope s_check_cell) := ⟨rfl, rfl, rfl, by decide +kernel, rfl, by decide +kernel, by decide +kernel⟩
noncomputable def g_check_cell (K : PySem.W.Frag) (a : Ad) : G :=
    gSeq (gExpr (fCall (m_check_there K a) (aCons (fVar 0) (aCons (fVar 2) (aNil)))))
    (gExpr (fCall (m_check_there K a) (aCons (fVar 1) (aCons (fVar 3) (aNil)))))
noncomputable def m_check_cell (K : PySem.W.Frag) (a : Ad) : List D → M D := bodyM 4 (g_check_cell K a)
theorem ok_check_cell (N : Fns K mg a) : FnOk P w K mg base (CXE P w) 5 a.f_check_cell a.d_check_cell ["row", "column", "rows", "columns"] (spF K 4 (m_check_cell K a)) := by
  have G_check_there := ok_check_there (P := P) (w := w) (base := base) N
  unfold m_check_cell
  exact fn_n (k := 4) 4 4 (g_check_cell K a) N.F_check_cell sc_check_cell rfl rfl fun cdv A outer s H E hr => s_cons (s_expr (ps_expr (v_call G_check_there (hr.mono (show 4 ≤ 4 by decide)) (by rfl) N.m_check_there N.F_check_there.kp N.b_check_there passE (va_cons (v_var 0 (pv 0)) (va_cons (v_var 2 (pv 2)) (va_nil))) (aCons_len (aCons_len (fun _ _ _ _ => aNil_len))))))
      (s_one (s_expr (ps_expr (v_call G_check_there (hr.mono (show 4 ≤ 4 by decide)) (by rfl) N.m_check_there N.F_check_there.kp N.b_check_there passE (va_cons (v_var 1 (pv 1)) (va_cons (v_var 3 (pv 3)) (va_nil))) (aCons_len (aCons_len (fun _ _ _ _ => aNil_len)))))))
theorem sc_common_factor : FnScope ["one", "other"] ["one", "other"] (defScope s_common_factor) := ⟨rfl, rfl, rfl, by decide +kernel, rfl, by decide +kernel, by decide +kernel⟩
noncomputable def g_common_factor (K : PySem.W.Frag) (a : Ad) : G :=
    gSeq (gWh (fB (f2 (gtD) (fVar 1) (fC (.int 0)))) (gPar 0 1 (aCons (fVar 1) (aCons (f2 modD (fVar 0) (fVar 1)) (aNil)))))
    (gRet (fVar 0))
noncomputable def m_common_factor (K : PySem.W.Frag) (a : Ad) : List D → M D := bodyM 2 (g_common_factor K a)
theorem ok_common_factor (N : Fns K mg a) : FnOk P w K mg base (CXE P w) 2 a.f_common_factor a.d_common_factor ["one", "other"] (spF K 2 (m_common_factor K a)) := by
  unfold m_common_factor
  exact fn_n (k := 1) 2 2 (g_common_factor K a) N.F_common_factor sc_common_factor rfl rfl fun cdv A outer s H E hr => s_cons (s_while ownE (t_cmp op_gt l_gt (v_var 1 (pv 1)) (v_int)) (s_one (s_par (ps_par (i := 0) (j := 1) rfl sc_common_factor.nd rfl rfl (by decide) rfl rfl (va_cons (v_var 1 (pv 1)) (va_cons (v_bin op_mod l_mod (v_var 0 (pv 0)) (v_var 1 (pv 1))) (va_nil))) rfl))))
      (s_one (s_ret (ps_ret (v_var 0 (pv 0)))))
theorem sc_least_common : FnScope ["numbers", "told", "number"] ["numbers"] (defScope s_least_common) := ⟨rfl, rfl, rfl, by decide +kernel, rfl, by decide +kernel, by decide +kernel⟩
noncomputable def g_least_common (K : PySem.W.Frag) (a : Ad) : G :=
    gSeq (gSet 1 (fC (.int 1)))
    (gSeq (gFor (nSeq (fVar 0)) (sgN 2) (gSet 1 (f2 fdivD (f2 mulD (fVar 1) (fVar 2)) (fCall (m_common_factor K a) (aCons (fVar 1) (aCons (fVar 2) (aNil)))))))
    (gRet (fVar 1)))
noncomputable def m_least_common (K : PySem.W.Frag) (a : Ad) : List D → M D := bodyM 3 (g_least_common K a)
theorem ok_least_common (N : Fns K mg a) : FnOk P w K mg base (CXE P w) 3 a.f_least_common a.d_least_common ["numbers"] (spF K 1 (m_least_common K a)) := by
  have G_common_factor := ok_common_factor (P := P) (w := w) (base := base) N
  unfold m_least_common
  exact fn_n (k := 2) 1 3 (g_least_common K a) N.F_least_common sc_least_common rfl rfl fun cdv A outer s H E hr => s_cons (s_set (ps_set (i := 1) sc_least_common.nd rfl (by first | exact Or.inl rfl | exact Or.inr rfl) (v_int)))
      (s_cons (s_for ls_name (ps_for ownE rfl (i_seq (v_var 0 (pv 0))) (pg_name (i := 2) sc_least_common.nd rfl (by first | exact Or.inl rfl | exact Or.inr rfl)) (s_one (s_set (ps_set (i := 1) sc_least_common.nd rfl (by first | exact Or.inl rfl | exact Or.inr rfl) (v_bin op_fdivB l_fdiv (v_bin op_mulB l_mul (v_var 1 (pv 1)) (v_var 2 (pv 2))) (v_call G_common_factor (hr.mono (show 2 ≤ 2 by decide)) (by rfl) N.m_common_factor N.F_common_factor.kp N.b_common_factor passE (va_cons (v_var 1 (pv 1)) (va_cons (v_var 2 (pv 2)) (va_nil))) (aCons_len (aCons_len (fun _ _ _ _ => aNil_len))))))))))
      (s_one (s_ret (ps_ret (v_var 1 (pv 1))))))
theorem sc_l_turned : FnScope ["_law_block"] ["_law_block"] (defScope s_l_turned) := ⟨rfl, rfl, rfl, by decide +kernel, rfl, by decide +kernel, by decide +kernel⟩
noncomputable def g_l_turned (K : PySem.W.Frag) (a : Ad) : G :=
    gRet (fComp 1 [0] (nArgs rng1 (aCons (fArgs lenD (aCons (f2 ixD (fVar 0) (fC (.int 0))) (aNil))) (aNil))) (tgC 0) (fun _ => M.ret true) (cEm (fComp 1 [0] (nSeq (fVar 1)) (tgC 0) (fun _ => M.ret true) (cEm (f2 ixD (fVar 0) (fVar 1))))))
noncomputable def m_l_turned (K : PySem.W.Frag) (a : Ad) : List D → M D := bodyM 1 (g_l_turned K a)
theorem ok_l_turned (N : Fns K mg a) : FnOk P w K mg base (CXE P w) 2 a.f_l_turned a.d_l_turned ["_law_block"] (spF K 1 (m_l_turned K a)) := by
  unfold m_l_turned
  exact fn_n (k := 1) 1 1 (g_l_turned K a) N.F_l_turned sc_l_turned rfl rfl fun cdv A outer s H E hr => s_one (s_ret (ps_ret (v_comp rfl (CmpScope.ofB (Nc := ["_law_to", "_law_block"]) (vars := ["_law_to"]) (caps := [0]) rfl (by decide +kernel) (by rfl) (by rfl) (by rfl)) (i_range1 (by rfl) N.n_range (va_cons (v_callB call_len_seq l_len (by rfl) N.n_len PySem.boot_len (va_cons (v_ix ix_both l_ix (v_var 0 (pv 0)) (v_int)) (va_nil))) (va_nil))) (fun cl C fp s H => ⟨(pg_name (i := 0) (show (["_law_to", "_law_block"] : List Str).Nodup by decide +kernel) rfl (by first | exact Or.inl rfl | exact Or.inr rfl)), f_none, fun D => pb_emit rfl (v_comp rfl (CmpScope.ofB (Nc := ["_law_row", "_law_to"]) (vars := ["_law_row"]) (caps := [0]) rfl (by decide +kernel) (by rfl) (by rfl) (by rfl)) (i_seq (v_var 1 (pv 1))) (fun cl C fp s H => ⟨(pg_name (i := 0) (show (["_law_row", "_law_to"] : List Str).Nodup by decide +kernel) rfl (by first | exact Or.inl rfl | exact Or.inr rfl)), f_none, fun D => pb_emit rfl (v_ix ix_both l_ix (v_var 0 (pv 0)) (v_var 1 (pv 1))) rfl⟩) lg_nameC sg_name (fun D => lb_emit)) rfl⟩) lg_nameC sg_name (fun D => lb_emit))))
theorem sc_l_rowsums : FnScope ["_law_grid"] ["_law_grid"] (defScope s_l_rowsums) := ⟨rfl, rfl, rfl, by decide +kernel, rfl, by decide +kernel, by decide +kernel⟩
noncomputable def g_l_rowsums (K : PySem.W.Frag) (a : Ad) : G :=
    gRet (fComp 1 [] (nSeq (fVar 0)) (tgC 0) (fun _ => M.ret true) (cEm (fArgs sumAD (aCons (fVar 0) (aNil)))))
noncomputable def m_l_rowsums (K : PySem.W.Frag) (a : Ad) : List D → M D := bodyM 1 (g_l_rowsums K a)
theorem ok_l_rowsums (N : Fns K mg a) : FnOk P w K mg base (CXE P w) 2 a.f_l_rowsums a.d_l_rowsums ["_law_grid"] (spF K 1 (m_l_rowsums K a)) := by
  unfold m_l_rowsums
  exact fn_n (k := 1) 1 1 (g_l_rowsums K a) N.F_l_rowsums sc_l_rowsums rfl rfl fun cdv A outer s H E hr => s_one (s_ret (ps_ret (v_comp rfl (CmpScope.ofB (Nc := ["_law_row"]) (vars := ["_law_row"]) (caps := []) rfl (by decide +kernel) (by rfl) (by rfl) (by rfl)) (i_seq (v_var 0 (pv 0))) (fun cl C fp s H => ⟨(pg_name (i := 0) (show (["_law_row"] : List Str).Nodup by decide +kernel) rfl (by first | exact Or.inl rfl | exact Or.inr rfl)), f_none, fun D => pb_emit rfl (v_callB (call_sumA rfl) l_sumA (by rfl) N.n_sum PyProof.Rows.Boot.«sum» (va_cons (v_var 0 (pv 0)) (va_nil))) rfl⟩) lg_nameC sg_name (fun D => lb_emit))))
theorem sc_l_columnsums : FnScope ["_law_grid"] ["_law_grid"] (defScope s_l_columnsums) := ⟨rfl, rfl, rfl, by decide +kernel, rfl, by decide +kernel, by decide +kernel⟩
noncomputable def g_l_columnsums (K : PySem.W.Frag) (a : Ad) : G :=
    gRet (fComp 1 [] (nSeq (fCall (m_l_turned K a) (aCons (fVar 0) (aNil)))) (tgC 0) (fun _ => M.ret true) (cEm (fArgs sumAD (aCons (fVar 0) (aNil)))))
noncomputable def m_l_columnsums (K : PySem.W.Frag) (a : Ad) : List D → M D := bodyM 1 (g_l_columnsums K a)
theorem ok_l_columnsums (N : Fns K mg a) : FnOk P w K mg base (CXE P w) 3 a.f_l_columnsums a.d_l_columnsums ["_law_grid"] (spF K 1 (m_l_columnsums K a)) := by
  have G_l_turned := ok_l_turned (P := P) (w := w) (base := base) N
  unfold m_l_columnsums
  exact fn_n (k := 2) 1 1 (g_l_columnsums K a) N.F_l_columnsums sc_l_columnsums rfl rfl fun cdv A outer s H E hr => s_one (s_ret (ps_ret (v_comp rfl (CmpScope.ofB (Nc := ["_law_column"]) (vars := ["_law_column"]) (caps := []) rfl (by decide +kernel) (by rfl) (by rfl) (by rfl)) (i_seq (v_call G_l_turned (hr.mono (show 2 ≤ 2 by decide)) (by rfl) N.m_l_turned N.F_l_turned.kp N.b_l_turned passE (va_cons (v_var 0 (pv 0)) (va_nil)) (aCons_len (fun _ _ _ _ => aNil_len)))) (fun cl C fp s H => ⟨(pg_name (i := 0) (show (["_law_column"] : List Str).Nodup by decide +kernel) rfl (by first | exact Or.inl rfl | exact Or.inr rfl)), f_none, fun D => pb_emit rfl (v_callB (call_sumA rfl) l_sumA (by rfl) N.n_sum PyProof.Rows.Boot.«sum» (va_cons (v_var 0 (pv 0)) (va_nil))) rfl⟩) lg_nameC sg_name (fun D => lb_emit))))
theorem sc_l_kind : FnScope ["_law_bag_here"] ["_law_bag_here"] (defScope s_l_kind) := ⟨rfl, rfl, rfl, by decide +kernel, rfl, by decide +kernel, by decide +kernel⟩
noncomputable def g_l_kind (K : PySem.W.Frag) (a : Ad) : G :=
    gRet (f2 ixD (fArgs opLst (aCons (fC (.str (Str.ofString "rare"))) (aCons (fC (.str (Str.ofString "square"))) (aCons (fC (.str (Str.ofString "power"))) (aCons (fC (.str (Str.ofString "off"))) (aCons (fC (.str (Str.ofString "most"))) (aCons (fC (.str (Str.ofString "least"))) (aNil)))))))) (fCall mPull (aCons (fVar 0) (aCons (fC (.int 6)) (aNil)))))
noncomputable def m_l_kind (K : PySem.W.Frag) (a : Ad) : List D → M D := bodyM 1 (g_l_kind K a)
theorem ok_l_kind (N : Fns K mg a) : FnOk P w K mg base (CXE P w) 3 a.f_l_kind a.d_l_kind ["_law_bag_here"] (spF K 1 (m_l_kind K a)) := by
  have G_l_pull := ok_l_pull (P := P) (w := w) (base := base) N
  unfold m_l_kind
  exact fn_n (k := 2) 1 1 (g_l_kind K a) N.F_l_kind sc_l_kind rfl rfl fun cdv A outer s H E hr => s_one (s_ret (ps_ret (v_ix ix_both l_ix (v_lst (va_cons (v_str) (va_cons (v_str) (va_cons (v_str) (va_cons (v_str) (va_cons (v_str) (va_cons (v_str) (va_nil)))))))) (v_call G_l_pull (hr.mono (show 2 ≤ 2 by decide)) (by rfl) N.m_l_pull N.F_l_pull.kp N.b_l_pull passE (va_cons (v_var 0 (pv 0)) (va_cons (v_int) (va_nil))) (aCons_len (aCons_len (fun _ _ _ _ => aNil_len)))))))
theorem sc_l_any : FnScope ["_law_bag_here", "_law_block", "_law_columns", "_law_left", "_law_utmost", "_law_grid", "_law_at", "_law_to"] ["_law_bag_here"] (defScope s_l_any) := ⟨rfl, rfl, rfl, by decide +kernel, rfl, by decide +kernel, by decide +kernel⟩
noncomputable def g_l_any (K : PySem.W.Frag) (a : Ad) : G :=
    gSeq (gSet 1 (f2 addD (fC (.int 1)) (fCall mPull (aCons (fVar 0) (aCons (fC (.int 4)) (aNil))))))
    (gSeq (gSet 2 (f2 addD (fC (.int 1)) (fCall mPull (aCons (fVar 0) (aCons (fC (.int 6)) (aNil))))))
    (gSeq (gSet 3 (fCall mPull (aCons (fVar 0) (aCons (fC (.int 41)) (aNil)))))
    (gSeq (gSet 4 (f2 ixD (fArgs opLst (aCons (fC (.int 12)) (aCons (fC (.int 12)) (aCons (fC (.int 12)) (aCons (fC (.int 12)) (aCons (fC (.int 12)) (aCons (fC (.int 40)) (aNil)))))))) (fCall mPull (aCons (fVar 0) (aCons (fC (.int 6)) (aNil))))))
    (gSeq (gGrd 5 (fCompG 1 [2] (nArgs rng1 (aCons (fVar 1) (aNil))) (tgC 0) (fun _ => M.ret true) (cEmG (oRep (aCons (fC (.int 0)) (aNil)) (fVar 1)))))
    (gSeq (gFor (nArgs rng1 (aCons (fVar 1) (aNil))) (sgN 6) (gFor (nArgs rng1 (aCons (fVar 2) (aNil))) (sgN 7) (gSeq (gIt2A 5 (fVar 6) (fVar 7) (fCall mPull (aCons (fVar 0) (aCons (f2 addD (fArgs minD (aCons (fVar 3) (aCons (fVar 4) (aNil)))) (fC (.int 1))) (aNil)))))
    (gSetF 3 (f2 subD (fVar 3) (f2 ixD (f2 ixD (fVar 5) (fVar 6)) (fVar 7)))))))
    (gRet (fVar 5)))))))
noncomputable def m_l_any (K : PySem.W.Frag) (a : Ad) : List D → M D := bodyM 8 (g_l_any K a)
theorem ok_l_any (N : Fns K mg a) : FnOk P w K mg base (CXE P w) 3 a.f_l_any a.d_l_any ["_law_bag_here"] (spF K 1 (m_l_any K a)) := by
  have G_l_pull := ok_l_pull (P := P) (w := w) (base := base) N
  unfold m_l_any
  exact fn_n (k := 2) 1 8 (g_l_any K a) N.F_l_any sc_l_any rfl rfl fun cdv A outer s H E hr => s_cons (s_set (ps_set (i := 1) sc_l_any.nd rfl (by first | exact Or.inl rfl | exact Or.inr rfl) (v_bin op_addAll l_add (v_int) (v_call G_l_pull (hr.mono (show 2 ≤ 2 by decide)) (by rfl) N.m_l_pull N.F_l_pull.kp N.b_l_pull passE (va_cons (v_var 0 (pv 0)) (va_cons (v_int) (va_nil))) (aCons_len (aCons_len (fun _ _ _ _ => aNil_len)))))))
      (s_cons (s_set (ps_set (i := 2) sc_l_any.nd rfl (by first | exact Or.inl rfl | exact Or.inr rfl) (v_bin op_addAll l_add (v_int) (v_call G_l_pull (hr.mono (show 2 ≤ 2 by decide)) (by rfl) N.m_l_pull N.F_l_pull.kp N.b_l_pull passE (va_cons (v_var 0 (pv 0)) (va_cons (v_int) (va_nil))) (aCons_len (aCons_len (fun _ _ _ _ => aNil_len)))))))
      (s_cons (s_set (ps_set (i := 3) sc_l_any.nd rfl (by first | exact Or.inl rfl | exact Or.inr rfl) (v_call G_l_pull (hr.mono (show 2 ≤ 2 by decide)) (by rfl) N.m_l_pull N.F_l_pull.kp N.b_l_pull passE (va_cons (v_var 0 (pv 0)) (va_cons (v_int) (va_nil))) (aCons_len (aCons_len (fun _ _ _ _ => aNil_len))))))
      (s_cons (s_set (ps_set (i := 4) sc_l_any.nd rfl (by first | exact Or.inl rfl | exact Or.inr rfl) (v_ix ix_both l_ix (v_lst (va_cons (v_int) (va_cons (v_int) (va_cons (v_int) (va_cons (v_int) (va_cons (v_int) (va_cons (v_int) (va_nil)))))))) (v_call G_l_pull (hr.mono (show 2 ≤ 2 by decide)) (by rfl) N.m_l_pull N.F_l_pull.kp N.b_l_pull passE (va_cons (v_var 0 (pv 0)) (va_cons (v_int) (va_nil))) (aCons_len (aCons_len (fun _ _ _ _ => aNil_len)))))))
      (s_cons (s_grdC (i := 5) sc_l_any.nd rfl (by first | exact Or.inl rfl | exact Or.inr rfl) rfl (CmpScope.ofB (Nc := ["_law_at", "_law_columns"]) (vars := ["_law_at"]) (caps := [2]) rfl (by decide +kernel) (by rfl) (by rfl) (by rfl)) (i_range1 (by rfl) N.n_range (va_cons (v_var 1 (pv 1)) (va_nil))) (fun cl C fp s H => ⟨(pg_name (i := 0) (show (["_law_at", "_law_columns"] : List Str).Nodup by decide +kernel) rfl (by first | exact Or.inl rfl | exact Or.inr rfl)), f_none, fun D => pb_emit rfl (o_rep (va_cons (v_int) (va_nil)) (v_var 1 (pv 1))) rfl⟩) lg_nameC sg_name (fun D => lr_emit))
      (s_cons (s_for ls_name (ps_for ownE rfl (i_range1 (by rfl) N.n_range (va_cons (v_var 1 (pv 1)) (va_nil))) (pg_name (i := 6) sc_l_any.nd rfl (by first | exact Or.inl rfl | exact Or.inr rfl)) (s_one (s_for ls_name (ps_for ownE rfl (i_range1 (by rfl) N.n_range (va_cons (v_var 2 (pv 2)) (va_nil))) (pg_name (i := 7) sc_l_any.nd rfl (by first | exact Or.inl rfl | exact Or.inr rfl)) (s_cons (s_it2A (ps_asg (v_call G_l_pull (hr.mono (show 2 ≤ 2 by decide)) (by rfl) N.m_l_pull N.F_l_pull.kp N.b_l_pull passE (va_cons (v_var 0 (pv 0)) (va_cons (v_bin op_addAll l_add (v_callB (call_min2 rfl) l_min (by rfl) N.n_min PyProof.Rows.Boot.«min» (va_cons (v_var 3 (pv 3)) (va_cons (v_var 4 (pv 4)) (va_nil)))) (v_int)) (va_nil))) (aCons_len (aCons_len (fun _ _ _ _ => aNil_len)))) (pg_sub (pe_ix ix_list (pv 5) (v_var 6 (pv 6)) (fun _ _ => rfl)) (v_var 7 (pv 7)) set_list)))
      (s_one (s_setF (ps_set (i := 3) sc_l_any.nd rfl (by first | exact Or.inl rfl | exact Or.inr rfl) (v_bin op_sub l_sub (v_var 3 (pv 3)) (v_ix ix_both l_ix (v_ix ix_both l_ix (v_var 5 (pv 5)) (v_var 6 (pv 6))) (v_var 7 (pv 7)))))))))))))
      (s_one (s_ret (ps_ret (v_var 5 (pv 5))))))))))
theorem sc_l_good_sums : FnScope ["_law_rowsums_here", "_law_columnsums_here"] ["_law_rowsums_here", "_law_columnsums_here"] (defScope s_l_good_sums) := ⟨rfl, rfl, rfl, by decide +kernel, rfl, by decide +kernel, by decide +kernel⟩
noncomputable def g_l_good_sums (K : PySem.W.Frag) (a : Ad) : G :=
    gSeq (gIf (fOrT (fB (f2 (ltD) (fArgs lenD (aCons (fVar 0) (aNil))) (fC (.int 1)))) (fOrT (fB (f2 (gtD) (fArgs lenD (aCons (fVar 0) (aNil))) (fC (.int 4)))) (fOrT (fB (f2 (ltD) (fArgs lenD (aCons (fVar 1) (aNil))) (fC (.int 1)))) (fB (f2 (gtD) (fArgs lenD (aCons (fVar 1) (aNil))) (fC (.int 6))))))) (gRet (fC (.bl false))) (gNil))
    (gSeq (gIf (fOrT (fB (f2 (ltD) (fArgs minSD (aCons (fVar 0) (aNil))) (fC (.int 0)))) (fB (f2 (ltD) (fArgs minSD (aCons (fVar 1) (aNil))) (fC (.int 0))))) (gRet (fC (.bl false))) (gNil))
    (gRet (fAnd (f2 (eqAD) (fArgs sumAD (aCons (fVar 0) (aNil))) (fArgs sumAD (aCons (fVar 1) (aNil)))) (f2 (leD) (fArgs sumAD (aCons (fVar 0) (aNil))) (fC (.int 40))))))
noncomputable def m_l_good_sums (K : PySem.W.Frag) (a : Ad) : List D → M D := bodyM 2 (g_l_good_sums K a)
theorem ok_l_good_sums (N : Fns K mg a) : FnOk P w K mg base (CXE P w) 2 a.f_l_good_sums a.d_l_good_sums ["_law_rowsums_here", "_law_columnsums_here"] (spF K 2 (m_l_good_sums K a)) := by
  unfold m_l_good_sums
  exact fn_n (k := 1) 2 2 (g_l_good_sums K a) N.F_l_good_sums sc_l_good_sums rfl rfl fun cdv A outer s H E hr => s_cons (s_if (t_bool (w_or (t_cmp op_lt l_lt (v_callB call_len_seq l_len (by rfl) N.n_len PySem.boot_len (va_cons (v_var 0 (pv 0)) (va_nil))) (v_int)) (w_or (t_cmp op_gt l_gt (v_callB call_len_seq l_len (by rfl) N.n_len PySem.boot_len (va_cons (v_var 0 (pv 0)) (va_nil))) (v_int)) (w_or (t_cmp op_lt l_lt (v_callB call_len_seq l_len (by rfl) N.n_len PySem.boot_len (va_cons (v_var 1 (pv 1)) (va_nil))) (v_int)) (w_or1 (t_cmp op_gt l_gt (v_callB call_len_seq l_len (by rfl) N.n_len PySem.boot_len (va_cons (v_var 1 (pv 1)) (va_nil))) (v_int))))))) (s_one (s_ret (ps_ret (v_bl)))) (s_nil))
      (s_cons (s_if (t_bool (w_or (t_cmp op_lt l_lt (v_callB (call_minS rfl) l_minS (by rfl) N.n_min PyProof.Rows.Boot.«min» (va_cons (v_var 0 (pv 0)) (va_nil))) (v_int)) (w_or1 (t_cmp op_lt l_lt (v_callB (call_minS rfl) l_minS (by rfl) N.n_min PyProof.Rows.Boot.«min» (va_cons (v_var 1 (pv 1)) (va_nil))) (v_int))))) (s_one (s_ret (ps_ret (v_bl)))) (s_nil))
      (s_one (s_ret (ps_ret (v_and (v_cmp (op_eqA hr) l_eqA (v_callB (call_sumA rfl) l_sumA (by rfl) N.n_sum PyProof.Rows.Boot.«sum» (va_cons (v_var 0 (pv 0)) (va_nil))) (v_callB (call_sumA rfl) l_sumA (by rfl) N.n_sum PyProof.Rows.Boot.«sum» (va_cons (v_var 1 (pv 1)) (va_nil)))) (v_one (v_cmp op_le l_le (v_callB (call_sumA rfl) l_sumA (by rfl) N.n_sum PyProof.Rows.Boot.«sum» (va_cons (v_var 0 (pv 0)) (va_nil))) (v_int))))))))
theorem sc_l_wild_sums : FnScope ["_law_bag_here", "_law_rowsums_here", "_law_columnsums_here", "_law_way"] ["_law_bag_here"] (defScope s_l_wild_sums) := ⟨rfl, rfl, rfl, by decide +kernel, rfl, by decide +kernel, by decide +kernel⟩
noncomputable def g_l_wild_sums (K : PySem.W.Frag) (a : Ad) : G :=
    gSeq (gOwnE 1 (fCompL 1 [0] (nArgs rng1 (aCons (fCall mPull (aCons (fVar 0) (aCons (fC (.int 6)) (aNil)))) (aNil))) (tgC 0) (fun _ => M.ret true) (cEm (fCall mPull (aCons (fVar 1) (aCons (fC (.int 6)) (aNil)))))))
    (gSeq (gOwnE 2 (fCompL 1 [0] (nArgs rng1 (aCons (fCall mPull (aCons (fVar 0) (aCons (fC (.int 8)) (aNil)))) (aNil))) (tgC 0) (fun _ => M.ret true) (cEm (fCall mPull (aCons (fVar 1) (aCons (fC (.int 5)) (aNil)))))))
    (gSeq (gSet 3 (fCall mPull (aCons (fVar 0) (aCons (fC (.int 8)) (aNil)))))
    (gSeq (gIf (fAndT (fB (f2 (gtD) (fVar 3) (fC (.int 0)))) (fB (f2 (gtD) (fArgs lenD (aCons (fVar 2) (aNil))) (fC (.int 0))))) (gItemF 2 (f1 negD (fC (.int 1))) (f2 subD (f2 addD (f2 ixD (fVar 2) (f1 negD (fC (.int 1)))) (fArgs sumAD (aCons (fVar 1) (aNil)))) (fArgs sumAD (aCons (fVar 2) (aNil))))) (gNil))
    (gSeq (gIf (fAndT (fB (f2 (eqAD) (fVar 3) (fC (.int 1)))) (fAndT (fB (f2 (gtD) (fArgs lenD (aCons (fVar 1) (aNil))) (fC (.int 0)))) (fB (f2 (gtD) (fArgs lenD (aCons (fVar 2) (aNil))) (fC (.int 0)))))) (gSeq (gItemF 1 (fC (.int 0)) (f2 subD (f2 addD (f2 ixD (fVar 1) (fC (.int 0))) (fC (.int 41))) (fArgs sumAD (aCons (fVar 1) (aNil)))))
    (gItemF 2 (f1 negD (fC (.int 1))) (f2 subD (f2 addD (f2 ixD (fVar 2) (f1 negD (fC (.int 1)))) (fC (.int 41))) (fArgs sumAD (aCons (fVar 2) (aNil)))))) (gNil))
    (gSeq (gIf (fAndT (fB (f2 (eqAD) (fVar 3) (fC (.int 2)))) (fB (f2 (gtD) (fArgs lenD (aCons (fVar 1) (aNil))) (fC (.int 1))))) (gSeq (gItemF 1 (fC (.int 0)) (f2 addD (f2 addD (f2 ixD (fVar 1) (fC (.int 0))) (f2 ixD (fVar 1) (fC (.int 1)))) (fC (.int 2))))
    (gItem 1 (fC (.int 1)) (f2 subD (fC (.int 0)) (fC (.int 2))))) (gNil))
    (gRet (fArgs opTup (aCons (fVar 1) (aCons (fVar 2) (aNil))))))))))
noncomputable def m_l_wild_sums (K : PySem.W.Frag) (a : Ad) : List D → M D := bodyM 4 (g_l_wild_sums K a)
theorem ok_l_wild_sums (N : Fns K mg a) : FnOk P w K mg base (CXE P w) 3 a.f_l_wild_sums a.d_l_wild_sums ["_law_bag_here"] (spF K 1 (m_l_wild_sums K a)) := by
  have G_l_pull := ok_l_pull (P := P) (w := w) (base := base) N
  unfold m_l_wild_sums
  exact fn_n (k := 2) 1 4 (g_l_wild_sums K a) N.F_l_wild_sums sc_l_wild_sums rfl rfl fun cdv A outer s H E hr => s_cons (s_ownC (i := 1) sc_l_wild_sums.nd rfl (by first | exact Or.inl rfl | exact Or.inr rfl) rfl (CmpScope.ofB (Nc := ["_law_k", "_law_bag_here"]) (vars := ["_law_k"]) (caps := [0]) rfl (by decide +kernel) (by rfl) (by rfl) (by rfl)) (i_range1 (by rfl) N.n_range (va_cons (v_call G_l_pull (hr.mono (show 2 ≤ 2 by decide)) (by rfl) N.m_l_pull N.F_l_pull.kp N.b_l_pull passE (va_cons (v_var 0 (pv 0)) (va_cons (v_int) (va_nil))) (aCons_len (aCons_len (fun _ _ _ _ => aNil_len)))) (va_nil))) (fun cl C fp s H => ⟨(pg_name (i := 0) (show (["_law_k", "_law_bag_here"] : List Str).Nodup by decide +kernel) rfl (by first | exact Or.inl rfl | exact Or.inr rfl)), f_none, fun D => pb_emit rfl (v_call G_l_pull (hr.mono (show 2 ≤ 2 by decide)) (by rfl) N.m_l_pull N.F_l_pull.kp N.b_l_pull passN (va_cons (v_var 1 (pv 1)) (va_cons (v_int) (va_nil))) (aCons_len (aCons_len (fun _ _ _ _ => aNil_len)))) rfl⟩) lg_nameC sg_name (fun D => lb_emit))
      (s_cons (s_ownC (i := 2) sc_l_wild_sums.nd rfl (by first | exact Or.inl rfl | exact Or.inr rfl) rfl (CmpScope.ofB (Nc := ["_law_k", "_law_bag_here"]) (vars := ["_law_k"]) (caps := [0]) rfl (by decide +kernel) (by rfl) (by rfl) (by rfl)) (i_range1 (by rfl) N.n_range (va_cons (v_call G_l_pull (hr.mono (show 2 ≤ 2 by decide)) (by rfl) N.m_l_pull N.F_l_pull.kp N.b_l_pull passE (va_cons (v_var 0 (pv 0)) (va_cons (v_int) (va_nil))) (aCons_len (aCons_len (fun _ _ _ _ => aNil_len)))) (va_nil))) (fun cl C fp s H => ⟨(pg_name (i := 0) (show (["_law_k", "_law_bag_here"] : List Str).Nodup by decide +kernel) rfl (by first | exact Or.inl rfl | exact Or.inr rfl)), f_none, fun D => pb_emit rfl (v_call G_l_pull (hr.mono (show 2 ≤ 2 by decide)) (by rfl) N.m_l_pull N.F_l_pull.kp N.b_l_pull passN (va_cons (v_var 1 (pv 1)) (va_cons (v_int) (va_nil))) (aCons_len (aCons_len (fun _ _ _ _ => aNil_len)))) rfl⟩) lg_nameC sg_name (fun D => lb_emit))
      (s_cons (s_set (ps_set (i := 3) sc_l_wild_sums.nd rfl (by first | exact Or.inl rfl | exact Or.inr rfl) (v_call G_l_pull (hr.mono (show 2 ≤ 2 by decide)) (by rfl) N.m_l_pull N.F_l_pull.kp N.b_l_pull passE (va_cons (v_var 0 (pv 0)) (va_cons (v_int) (va_nil))) (aCons_len (aCons_len (fun _ _ _ _ => aNil_len))))))
      (s_cons (s_if (t_bool (w_and (t_cmp op_gt l_gt (v_var 3 (pv 3)) (v_int)) (w_and1 (t_cmp op_gt l_gt (v_callB call_len_seq l_len (by rfl) N.n_len PySem.boot_len (va_cons (v_var 2 (pv 2)) (va_nil))) (v_int))))) (s_one (s_itemF (ps_asg (v_bin op_sub l_sub (v_bin op_addAll l_add (v_ix ix_both l_ix (v_var 2 (pv 2)) (v_un un_neg l_neg (v_int))) (v_callB (call_sumA rfl) l_sumA (by rfl) N.n_sum PyProof.Rows.Boot.«sum» (va_cons (v_var 1 (pv 1)) (va_nil)))) (v_callB (call_sumA rfl) l_sumA (by rfl) N.n_sum PyProof.Rows.Boot.«sum» (va_cons (v_var 2 (pv 2)) (va_nil)))) (pg_sub (pv 2) (v_un un_neg l_neg (v_int)) set_list)))) (s_nil))
      (s_cons (s_if (t_bool (w_and (t_cmp (op_eqA hr) l_eqA (v_var 3 (pv 3)) (v_int)) (w_and (t_cmp op_gt l_gt (v_callB call_len_seq l_len (by rfl) N.n_len PySem.boot_len (va_cons (v_var 1 (pv 1)) (va_nil))) (v_int)) (w_and1 (t_cmp op_gt l_gt (v_callB call_len_seq l_len (by rfl) N.n_len PySem.boot_len (va_cons (v_var 2 (pv 2)) (va_nil))) (v_int)))))) (s_cons (s_itemF (ps_asg (v_bin op_sub l_sub (v_bin op_addAll l_add (v_ix ix_both l_ix (v_var 1 (pv 1)) (v_int)) (v_int)) (v_callB (call_sumA rfl) l_sumA (by rfl) N.n_sum PyProof.Rows.Boot.«sum» (va_cons (v_var 1 (pv 1)) (va_nil)))) (pg_sub (pv 1) (v_int) set_list)))
      (s_one (s_itemF (ps_asg (v_bin op_sub l_sub (v_bin op_addAll l_add (v_ix ix_both l_ix (v_var 2 (pv 2)) (v_un un_neg l_neg (v_int))) (v_int)) (v_callB (call_sumA rfl) l_sumA (by rfl) N.n_sum PyProof.Rows.Boot.«sum» (va_cons (v_var 2 (pv 2)) (va_nil)))) (pg_sub (pv 2) (v_un un_neg l_neg (v_int)) set_list))))) (s_nil))
      (s_cons (s_if (t_bool (w_and (t_cmp (op_eqA hr) l_eqA (v_var 3 (pv 3)) (v_int)) (w_and1 (t_cmp op_gt l_gt (v_callB call_len_seq l_len (by rfl) N.n_len PySem.boot_len (va_cons (v_var 1 (pv 1)) (va_nil))) (v_int))))) (s_cons (s_itemF (ps_asg (v_bin op_addAll l_add (v_bin op_addAll l_add (v_ix ix_both l_ix (v_var 1 (pv 1)) (v_int)) (v_ix ix_both l_ix (v_var 1 (pv 1)) (v_int))) (v_int)) (pg_sub (pv 1) (v_int) set_list)))
      (s_one (s_item (ps_asg (v_bin op_sub l_sub (v_int) (v_int)) (pg_sub (pv 1) (v_int) set_list))))) (s_nil))
      (s_one (s_ret (ps_ret (v_tup (va_cons (v_var 1 (pv 1)) (va_cons (v_var 2 (pv 2)) (va_nil))))))))))))
theorem sc_Measure___init__ : FnScope ["self", "kind", "rowsums", "columnsums", "place"] ["self", "kind", "rowsums", "columnsums", "place"] (defScope s_Measure___init__) := ⟨rfl, rfl, rfl, by decide +kernel, rfl, by decide +kernel, by decide +kernel⟩
noncomputable def ip_Measure (K : PySem.W.Frag) (a : Ad) : IP :=
    ipPre (gExpr (fCall (m_check_sums K a) (aCons (fVar 2) (aCons (fVar 3) (aNil)))))
    (ipPre (gIf (fB (f2 (inD true) (fVar 1) (fC (.tup [.str (Str.ofString "rare"), .str (Str.ofString "square"), .str (Str.ofString "power"), .str (Str.ofString "off"), .str (Str.ofString "most"), .str (Str.ofString "least")])))) (gRaise a.C_BadRule (aCons (fFstr (jfStr (fVar 1) (jfNil))) (aNil))) (gNil))
    (ipPre (gIf (fB (f2 (inD false) (fVar 1) (fC (.tup [.str (Str.ofString "most"), .str (Str.ofString "least")])))) (gExpr (fCall (m_check_cell K a) (aCons (f2 ixD (fVar 4) (fC (.int 0))) (aCons (f2 ixD (fVar 4) (fC (.int 1))) (aCons (fArgs lenD (aCons (fVar 2) (aNil))) (aCons (fArgs lenD (aCons (fVar 3) (aNil))) (aNil))))))) (gNil))
    (ipFld (fVar 1)
    (ipFld (fArgs listD (aCons (fVar 2) (aNil)))
    (ipFld (fArgs listD (aCons (fVar 3) (aNil)))
    (ipFld (fVar 4)
    (ipFld (fCall (m_least_common K a) (aCons (fComp 2 [3] (nSeq (fVar 2)) (tgC 0) (fun _ => M.ret true) (cNx (nSeq (fVar 2)) (tgC 1) (fB (f2 (gtD) (f2 mulD (fVar 0) (fVar 1)) (fC (.int 0)))) (cEm (f2 mulD (fVar 0) (fVar 1))))) (aNil)))
    (ipEnd))))))))
noncomputable def mi_Measure (K : PySem.W.Frag) (a : Ad) : List D → M (List D) := initM 5 (ip_Measure K a)
theorem oki_Measure (N : Fns K mg a) : FnOk P w K mg base (CXE P w) 6 a.f_Measure___init__ a.d_Measure___init__ ["self", "kind", "rowsums", "columnsums", "place"] (spI K a.C_Measure ["kind", "row_list", "column_list", "place", "even"] 4 (mi_Measure K a)) := by
  have G_least_common := ok_least_common (P := P) (w := w) (base := base) N
  have G_check_cell := ok_check_cell (P := P) (w := w) (base := base) N
  have G_check_sums := ok_check_sums (P := P) (w := w) (base := base) N
  have X_BadRule := okx_BadRule (P := P) (w := w) (base := base) N
  unfold mi_Measure
  exact fn_init (k := 5) 4 5 (ip_Measure K a) N.F_Measure___init__ sc_Measure___init__ rfl rfl fun cdv A outer s H E hr => i_pre (s_expr (ps_expr (v_call G_check_sums (hr.mono (show 4 ≤ 5 by decide)) (by rfl) N.m_check_sums N.F_check_sums.kp N.b_check_sums passE (va_cons (v_var 2 (pv 2)) (va_cons (v_var 3 (pv 3)) (va_nil))) (aCons_len (aCons_len (fun _ _ _ _ => aNil_len))))))
      (i_pre (s_if (t_cmp op_notIn_seq (l_in (neg := true)) (v_var 1 (pv 1)) (v_globD N.g_KINDS)) (s_one (s_raise N.xm_BadRule.xc (aCons_len (fun _ _ _ _ => aNil_len)) (by decide) (ps_raise hr.hd (pe_exc N.xm_BadRule X_BadRule (hr.mono (show 3 ≤ 5 by decide)) rfl N.m_BadRule N.b_BadRule .nil passN (va_cons (v_fstr (c := ((Str.ofString "there is no measure ").length + (100 + 0))) (j_str (j_txt (v_var 1 (pv 1)) (j_nil))) (by decide +kernel)) (va_nil)))))) (s_nil))
      (i_pre (s_if (t_cmp op_in_seq (l_in (neg := false)) (v_var 1 (pv 1)) (v_globD N.g_BY_PLACE)) (s_one (s_expr (ps_expr (v_call G_check_cell (hr.mono (show 5 ≤ 5 by decide)) (by rfl) N.m_check_cell N.F_check_cell.kp N.b_check_cell passE (va_cons (v_ix ix_both l_ix (v_var 4 (pv 4)) (v_int)) (va_cons (v_ix ix_both l_ix (v_var 4 (pv 4)) (v_int)) (va_cons (v_callB call_len_seq l_len (by rfl) N.n_len PySem.boot_len (va_cons (v_var 2 (pv 2)) (va_nil))) (va_cons (v_callB call_len_seq l_len (by rfl) N.n_len PySem.boot_len (va_cons (v_var 3 (pv 3)) (va_nil))) (va_nil))))) (aCons_len (aCons_len (aCons_len (aCons_len (fun _ _ _ _ => aNil_len))))))))) (s_nil))
      (i_fld N.cl_Measure N.na_Measure_kind (by decide) (by decide) (ps_fld (pv 0) (v_var 1 (pv 1)) rfl)
      (i_fld N.cl_Measure N.na_Measure_row_list (by decide) (by decide) (ps_fld (pv 0) (v_callTy call_list_of l_list (by rfl) N.n_list PyProof.Rows.Boot.«list» (va_cons (v_var 2 (pv 2)) (va_nil))) rfl)
      (i_fld N.cl_Measure N.na_Measure_column_list (by decide) (by decide) (ps_fld (pv 0) (v_callTy call_list_of l_list (by rfl) N.n_list PyProof.Rows.Boot.«list» (va_cons (v_var 3 (pv 3)) (va_nil))) rfl)
      (i_fld N.cl_Measure N.na_Measure_place (by decide) (by decide) (ps_fld (pv 0) (v_var 4 (pv 4)) rfl)
      (i_fld N.cl_Measure N.na_Measure_even (by decide) (by decide) (ps_fld (pv 0) (v_call G_least_common (hr.mono (show 3 ≤ 5 by decide)) (by rfl) N.m_least_common N.F_least_common.kp N.b_least_common passE (va_cons (v_comp rfl (CmpScope.ofB (Nc := ["across", "down", "columnsums"]) (vars := ["across", "down"]) (caps := [3]) rfl (by decide +kernel) (by rfl) (by rfl) (by rfl)) (i_seq (v_var 2 (pv 2))) (fun cl C fp s H => ⟨(pg_name (i := 0) (show (["across", "down", "columnsums"] : List Str).Nodup by decide +kernel) rfl (by first | exact Or.inl rfl | exact Or.inr rfl)), f_none, fun D => pb_next rfl rfl rfl (i_seq (v_var 2 (pv 2))) (pg_name (i := 1) (show (["across", "down", "columnsums"] : List Str).Nodup by decide +kernel) rfl (by first | exact Or.inl rfl | exact Or.inr rfl)) (f_one (t_cmp op_gt l_gt (v_bin op_mulB l_mul (v_var 0 (pv 0)) (v_var 1 (pv 1))) (v_int))) (pb_emit rfl (v_bin op_mulB l_mul (v_var 0 (pv 0)) (v_var 1 (pv 1))) rfl)⟩) lg_nameC sg_name (fun D => lb_next lg_nameC sg_name (lb_emit))) (va_nil)) (aCons_len (fun _ _ _ _ => aNil_len))) rfl)
      (i_end))))))))
theorem sc_law : FnScope ["_law_script", "_law_bag_here", "_law_grid", "_law_sides", "_law_kind_here", "_law_where", "_law_due", "_law_told"] ["_law_script"] (defScope s_law) := ⟨rfl, rfl, rfl, by decide +kernel, rfl, by decide +kernel, by decide +kernel⟩
noncomputable def g_law (K : PySem.W.Frag) (a : Ad) : G :=
    gSeq (gSet 2 (fCall (m_l_any K a) (aCons (fVar 1) (aNil))))
    (gSeq (gSet 3 (fArgs opTup (aCons (fCall (m_l_rowsums K a) (aCons (fVar 2) (aNil))) (aCons (fCall (m_l_columnsums K a) (aCons (fVar 2) (aNil))) (aNil)))))
    (gSeq (gIf (fB (f2 (eqAD) (fCall mPull (aCons (fVar 1) (aCons (fC (.int 4)) (aNil)))) (fC (.int 0)))) (gSet 3 (fCall (m_l_wild_sums K a) (aCons (fVar 1) (aNil)))) (gNil))
    (gSeq (gSet 4 (fCall (m_l_kind K a) (aCons (fVar 1) (aNil))))
    (gSeq (gIf (fB (f2 (eqAD) (fCall mPull (aCons (fVar 1) (aCons (fC (.int 4)) (aNil)))) (fC (.int 0)))) (gSet 4 (f2 ixD (fArgs opLst (aCons (fC (.str (Str.ofString ""))) (aCons (fC (.str (Str.ofString "Rare"))) (aCons (fC (.str (Str.ofString "rare "))) (aCons (fC (.str (Str.ofString "mean"))) (aCons (fC (.str (Str.ofString "mos"))) (aCons (fC (.str (Str.ofString "leastmost"))) (aCons (fC (.str (Str.ofString "beyond"))) (aNil))))))))) (fCall mPull (aCons (fVar 1) (aCons (fC (.int 7)) (aNil)))))) (gNil))
    (gSeq (gSet 5 (fArgs opTup (aCons (f2 subD (fCall mPull (aCons (fVar 1) (aCons (f2 addD (fArgs lenD (aCons (f2 ixD (fVar 3) (fC (.int 0))) (aNil))) (fC (.int 2))) (aNil)))) (fC (.int 1))) (aCons (f2 subD (fCall mPull (aCons (fVar 1) (aCons (f2 addD (fArgs lenD (aCons (f2 ixD (fVar 3) (fC (.int 1))) (aNil))) (fC (.int 2))) (aNil)))) (fC (.int 1))) (aNil)))))
    (gSeq (gSet 6 (fC (.str (Str.ofString "made"))))
    (gSeq (gIf (fNotT (fTru (fCall (m_l_good_sums K a) (aCons (f2 ixD (fVar 3) (fC (.int 0))) (aCons (f2 ixD (fVar 3) (fC (.int 1))) (aNil)))))) (gSet 6 (fC (.str (Str.ofString "sums")))) (gIf (fB (f2 (inD true) (fVar 4) (fArgs opLst (aCons (fC (.str (Str.ofString "rare"))) (aCons (fC (.str (Str.ofString "square"))) (aCons (fC (.str (Str.ofString "power"))) (aCons (fC (.str (Str.ofString "off"))) (aCons (fC (.str (Str.ofString "most"))) (aCons (fC (.str (Str.ofString "least"))) (aNil)))))))))) (gSet 6 (fC (.str (Str.ofString "rule")))) (gIf (fB (f2 (inD false) (fVar 4) (fArgs opTup (aCons (fC (.str (Str.ofString "most"))) (aCons (fC (.str (Str.ofString "least"))) (aNil)))))) (gIf (fOrT (fB (f2 (ltD) (fArgs minSD (aCons (fVar 5) (aNil))) (fC (.int 0)))) (fOrT (fB (f2 (geD) (f2 ixD (fVar 5) (fC (.int 0))) (fArgs lenD (aCons (f2 ixD (fVar 3) (fC (.int 0))) (aNil))))) (fB (f2 (geD) (f2 ixD (fVar 5) (fC (.int 1))) (fArgs lenD (aCons (f2 ixD (fVar 3) (fC (.int 1))) (aNil))))))) (gSet 6 (fC (.str (Str.ofString "cell")))) (gNil)) (gNil))))
    (gSeq (gSet 7 (fC (.str (Str.ofString "made"))))
    (gSeq (gTry (gExpr (fMakeK a.C_Measure ["kind", "row_list", "column_list", "place", "even"] (mi_Measure K a) (aCons (fVar 4) (aCons (fArgs listD (aCons (f2 ixD (fVar 3) (fC (.int 0))) (aNil))) (aCons (fArgs listD (aCons (f2 ixD (fVar 3) (fC (.int 1))) (aNil))) (aNil)))) (aCons (fVar 5) (aNil)) [.kw 0])) (hOne K a.C_BadSums (gSet 7 (fC (.str (Str.ofString "sums")))) (hOne K a.C_BadRule (gSet 7 (fC (.str (Str.ofString "rule")))) (hOne K a.C_BadCell (gSet 7 (fC (.str (Str.ofString "cell")))) (hNo)))))
    (gRet (f2 (eqAD) (fVar 7) (fVar 6))))))))))))
theorem ok_law {f : Addr} {fd : FuncData} (F : FunD K "law" "law" s_law f fd) (N : Fns K mg a) (T : ∀ β : Bg, β.ok → ∃ β', g_law K a [none, some (.sh .bag), none, none, none, none, none, none] β = some (.rt (.bl true), β')) :
    FnOk P w K mg base (CXE P w) 8 f fd ["_law_script"] (spLaw K) := by
  have G_l_bag := ok_l_bag (P := P) (w := w) (base := base) N
  have G_l_any := ok_l_any (P := P) (w := w) (base := base) N
  have G_l_columnsums := ok_l_columnsums (P := P) (w := w) (base := base) N
  have G_l_rowsums := ok_l_rowsums (P := P) (w := w) (base := base) N
  have G_l_pull := ok_l_pull (P := P) (w := w) (base := base) N
  have G_l_wild_sums := ok_l_wild_sums (P := P) (w := w) (base := base) N
  have G_l_kind := ok_l_kind (P := P) (w := w) (base := base) N
  have G_l_good_sums := ok_l_good_sums (P := P) (w := w) (base := base) N
  have GI_Measure := oki_Measure (P := P) (w := w) (base := base) N
  have X_BadCell := okx_BadCell (P := P) (w := w) (base := base) N
  have X_BadRule := okx_BadRule (P := P) (w := w) (base := base) N
  have X_BadSums := okx_BadSums (P := P) (w := w) (base := base) N
  refine F.okE (k := 7) sc_law (fun vs H Q E h => ?_) (fun cdv A outer s H vs Q E hr h => ?_)
  · obtain ⟨a, ns, rfl, _⟩ := h
    rfl
  · obtain ⟨a1, ns, rfl, hS, hlen, k⟩ := h
    have rest : PSs (cxOf (CXE P w) P w K mg base ["_law_script", "_law_bag_here", "_law_grid", "_law_sides", "_law_kind_here", "_law_where", "_law_due", "_law_told"] "law" (defScope s_law) f cdv A outer s H E) (defBody s_law).tail (tG K H (g_law K a) (fun _ => E)) := s_cons (s_set (ps_set (i := 2) sc_law.nd rfl (by first | exact Or.inl rfl | exact Or.inr rfl) (v_call G_l_any (hr.mono (show 3 ≤ 7 by decide)) (by rfl) N.m_l_any N.F_l_any.kp N.b_l_any passE (va_cons (v_var 1 (pv 1)) (va_nil)) (aCons_len (fun _ _ _ _ => aNil_len)))))
      (s_cons (s_set (ps_set (i := 3) sc_law.nd rfl (by first | exact Or.inl rfl | exact Or.inr rfl) (v_tup (va_cons (v_call G_l_rowsums (hr.mono (show 2 ≤ 7 by decide)) (by rfl) N.m_l_rowsums N.F_l_rowsums.kp N.b_l_rowsums passE (va_cons (v_var 2 (pv 2)) (va_nil)) (aCons_len (fun _ _ _ _ => aNil_len))) (va_cons (v_call G_l_columnsums (hr.mono (show 3 ≤ 7 by decide)) (by rfl) N.m_l_columnsums N.F_l_columnsums.kp N.b_l_columnsums passE (va_cons (v_var 2 (pv 2)) (va_nil)) (aCons_len (fun _ _ _ _ => aNil_len))) (va_nil))))))
      (s_cons (s_if (t_cmp (op_eqA hr) l_eqA (v_call G_l_pull (hr.mono (show 2 ≤ 7 by decide)) (by rfl) N.m_l_pull N.F_l_pull.kp N.b_l_pull passE (va_cons (v_var 1 (pv 1)) (va_cons (v_int) (va_nil))) (aCons_len (aCons_len (fun _ _ _ _ => aNil_len)))) (v_int)) (s_one (s_set (ps_set (i := 3) sc_law.nd rfl (by first | exact Or.inl rfl | exact Or.inr rfl) (v_call G_l_wild_sums (hr.mono (show 3 ≤ 7 by decide)) (by rfl) N.m_l_wild_sums N.F_l_wild_sums.kp N.b_l_wild_sums passE (va_cons (v_var 1 (pv 1)) (va_nil)) (aCons_len (fun _ _ _ _ => aNil_len)))))) (s_nil))
      (s_cons (s_set (ps_set (i := 4) sc_law.nd rfl (by first | exact Or.inl rfl | exact Or.inr rfl) (v_call G_l_kind (hr.mono (show 3 ≤ 7 by decide)) (by rfl) N.m_l_kind N.F_l_kind.kp N.b_l_kind passE (va_cons (v_var 1 (pv 1)) (va_nil)) (aCons_len (fun _ _ _ _ => aNil_len)))))
      (s_cons (s_if (t_cmp (op_eqA hr) l_eqA (v_call G_l_pull (hr.mono (show 2 ≤ 7 by decide)) (by rfl) N.m_l_pull N.F_l_pull.kp N.b_l_pull passE (va_cons (v_var 1 (pv 1)) (va_cons (v_int) (va_nil))) (aCons_len (aCons_len (fun _ _ _ _ => aNil_len)))) (v_int)) (s_one (s_set (ps_set (i := 4) sc_law.nd rfl (by first | exact Or.inl rfl | exact Or.inr rfl) (v_ix ix_both l_ix (v_lst (va_cons (v_str) (va_cons (v_str) (va_cons (v_str) (va_cons (v_str) (va_cons (v_str) (va_cons (v_str) (va_cons (v_str) (va_nil))))))))) (v_call G_l_pull (hr.mono (show 2 ≤ 7 by decide)) (by rfl) N.m_l_pull N.F_l_pull.kp N.b_l_pull passE (va_cons (v_var 1 (pv 1)) (va_cons (v_int) (va_nil))) (aCons_len (aCons_len (fun _ _ _ _ => aNil_len)))))))) (s_nil))
      (s_cons (s_set (ps_set (i := 5) sc_law.nd rfl (by first | exact Or.inl rfl | exact Or.inr rfl) (v_tup (va_cons (v_bin op_sub l_sub (v_call G_l_pull (hr.mono (show 2 ≤ 7 by decide)) (by rfl) N.m_l_pull N.F_l_pull.kp N.b_l_pull passE (va_cons (v_var 1 (pv 1)) (va_cons (v_bin op_addAll l_add (v_callB call_len_seq l_len (by rfl) N.n_len PySem.boot_len (va_cons (v_ix ix_both l_ix (v_var 3 (pv 3)) (v_int)) (va_nil))) (v_int)) (va_nil))) (aCons_len (aCons_len (fun _ _ _ _ => aNil_len)))) (v_int)) (va_cons (v_bin op_sub l_sub (v_call G_l_pull (hr.mono (show 2 ≤ 7 by decide)) (by rfl) N.m_l_pull N.F_l_pull.kp N.b_l_pull passE (va_cons (v_var 1 (pv 1)) (va_cons (v_bin op_addAll l_add (v_callB call_len_seq l_len (by rfl) N.n_len PySem.boot_len (va_cons (v_ix ix_both l_ix (v_var 3 (pv 3)) (v_int)) (va_nil))) (v_int)) (va_nil))) (aCons_len (aCons_len (fun _ _ _ _ => aNil_len)))) (v_int)) (va_nil))))))
      (s_cons (s_set (ps_set (i := 6) sc_law.nd rfl (by first | exact Or.inl rfl | exact Or.inr rfl) (v_str)))
      (s_cons (s_if (t_not (t_val (v_call G_l_good_sums (hr.mono (show 2 ≤ 7 by decide)) (by rfl) N.m_l_good_sums N.F_l_good_sums.kp N.b_l_good_sums passE (va_cons (v_ix ix_both l_ix (v_var 3 (pv 3)) (v_int)) (va_cons (v_ix ix_both l_ix (v_var 3 (pv 3)) (v_int)) (va_nil))) (aCons_len (aCons_len (fun _ _ _ _ => aNil_len)))))) (s_one (s_set (ps_set (i := 6) sc_law.nd rfl (by first | exact Or.inl rfl | exact Or.inr rfl) (v_str)))) (s_one (s_if (t_cmp op_notIn_seq (l_in (neg := true)) (v_var 4 (pv 4)) (v_lst (va_cons (v_str) (va_cons (v_str) (va_cons (v_str) (va_cons (v_str) (va_cons (v_str) (va_cons (v_str) (va_nil))))))))) (s_one (s_set (ps_set (i := 6) sc_law.nd rfl (by first | exact Or.inl rfl | exact Or.inr rfl) (v_str)))) (s_one (s_if (t_cmp op_in_seq (l_in (neg := false)) (v_var 4 (pv 4)) (v_tup (va_cons (v_str) (va_cons (v_str) (va_nil))))) (s_one (s_if (t_bool (w_or (t_cmp op_lt l_lt (v_callB (call_minS rfl) l_minS (by rfl) N.n_min PyProof.Rows.Boot.«min» (va_cons (v_var 5 (pv 5)) (va_nil))) (v_int)) (w_or (t_cmp op_ge l_ge (v_ix ix_both l_ix (v_var 5 (pv 5)) (v_int)) (v_callB call_len_seq l_len (by rfl) N.n_len PySem.boot_len (va_cons (v_ix ix_both l_ix (v_var 3 (pv 3)) (v_int)) (va_nil)))) (w_or1 (t_cmp op_ge l_ge (v_ix ix_both l_ix (v_var 5 (pv 5)) (v_int)) (v_callB call_len_seq l_len (by rfl) N.n_len PySem.boot_len (va_cons (v_ix ix_both l_ix (v_var 3 (pv 3)) (v_int)) (va_nil)))))))) (s_one (s_set (ps_set (i := 6) sc_law.nd rfl (by first | exact Or.inl rfl | exact Or.inr rfl) (v_str)))) (s_nil))) (s_nil))))))
      (s_cons (s_set (ps_set (i := 7) sc_law.nd rfl (by first | exact Or.inl rfl | exact Or.inr rfl) (v_str)))
      (s_cons (s_try rfl rfl (fun E pn xe hp => s_one (s_expr (ps_expr (v_makeK N.mk_Measure GI_Measure (hr.mono (show 7 ≤ 7 by decide)) (by rfl) N.m_Measure N.kb_place_Measure___init__ hp (va_cons (v_var 4 (pv 4)) (va_cons (v_callTy call_list_of l_list (by rfl) N.n_list PyProof.Rows.Boot.«list» (va_cons (v_ix ix_both l_ix (v_var 3 (pv 3)) (v_int)) (va_nil))) (va_cons (v_callTy call_list_of l_list (by rfl) N.n_list PyProof.Rows.Boot.«list» (va_cons (v_ix ix_both l_ix (v_var 3 (pv 3)) (v_int)) (va_nil))) (va_nil)))) (vk_cons (v_var 5 (pv 5)) (vk_nil)) (aCons_len (aCons_len (aCons_len (fun _ _ _ _ => aNil_len)))) (aCons_len (fun _ _ _ _ => aNil_len)) rfl)))) (h_cons rfl N.m_BadSums (fun A => s_one (s_set (ps_set (i := 7) sc_law.nd rfl (by first | exact Or.inl rfl | exact Or.inr rfl) (v_str)))) (h_cons rfl N.m_BadRule (fun A => s_one (s_set (ps_set (i := 7) sc_law.nd rfl (by first | exact Or.inl rfl | exact Or.inr rfl) (v_str)))) (h_cons rfl N.m_BadCell (fun A => s_one (s_set (ps_set (i := 7) sc_law.nd rfl (by first | exact Or.inl rfl | exact Or.inr rfl) (v_str)))) (h_nil)))))
      (s_one (s_ret (ps_ret (v_cmp (op_eqA hr) l_eqA (v_var 7 (pv 7)) (v_var 6 (pv 6)))))))))))))))
    refine ⟨_, pss_cons (rest := (defBody s_law).tail) (ps_set (i := 1) sc_law.nd rfl (by first | exact Or.inl rfl | exact Or.inr rfl) (pe_call G_l_bag (hr.mono (show 1 ≤ 7 by decide)) rfl N.m_l_bag N.F_l_bag.kp N.b_l_bag .nil passN (pa_cons (pv 0) pa_nil))) rest, ?_⟩
    refine ⟨_, rfl, a1, ns, rfl, hS, fun b l H1 hb1 hl1 B1 s1 => ?_⟩
    obtain ⟨β, ok, sok⟩ := bag_sok (K := K) (a := a1) (n := ["_law_script", "_law_bag_here", "_law_grid", "_law_sides", "_law_kind_here", "_law_where", "_law_due", "_law_told"].length - 2) s1 hb1 hl1 B1
    obtain ⟨β', e⟩ := T β ok
    exact ⟨_, _, _, β, _, β', sok, e, fun v B' H' s fr hv => by cases hv.bl; exact k H'⟩
end
end Law
set_option maxHeartbeats 4000000
namespace Law
open PySem L2 L2.Pu
section
variable {K : PySem.W.Frag} {a : Ad}
noncomputable abbrev anyT (r c l u : Int) (g : List (List D)) (s6 s7 : Option Sl) : Ds := [some (.sh .bag), some (.sh (.int r)), some (.sh (.int c)), some (.sh (.int l)), some (.sh (.int u)), some (.grd g), s6, s7]
noncomputable def AnyJ (r c : Nat) (u : Int) (s6 : Option Sl) (δ : Ds) (β : Bg) : Prop := β.ok ∧ ∃ (rows : List (List Int)) (l : Int) (s7 : Option Sl), δ = anyT r c l u (gI rows) s6 s7 ∧ Shp r c rows ∧ (∀ row ∈ rows, ∀ x ∈ row, 0 ≤ x) ∧ 0 ≤ l ∧ tot rows + l ≤ 40
theorem anyM_ok {β : Bg} (ok : β.ok) : ∃ (rows : List (List Int)) (r c : Nat) (β' : Bg), m_l_any K a [.bag] β = some (.ok (gridD rows), β') ∧ Tab r c rows ∧ β'.ok := by
  suffices h : ∃ g β', m_l_any K a [.bag] β = some (g, β') ∧ (∃ (rows : List (List Int)) (r c : Nat), g = .ok (gridD rows) ∧ Tab r c rows ∧ β'.ok) by
    obtain ⟨g, β', e, rows, r, c, rfl, h1, h2⟩ := h
    exact ⟨rows, r, c, β', e, h1, h2⟩
  refine body_w ?_
  unfold g_l_any
  obtain ⟨r0, β1, p1, a0, a1, ok1⟩ := pull_ex ok (lot := 4) (by decide) (by decide)
  refine w_set (d := .int (1 + r0)) (β1 := β1) (x_2 rfl (x_call rfl p1) rfl) ?_
  obtain ⟨c0, β2, p2, b0, b1, ok2⟩ := pull_ex ok1 (lot := 6) (by decide) (by decide)
  refine w_set (d := .int (1 + c0)) (β1 := β2) (x_2 rfl (x_call rfl p2) rfl) ?_
  obtain ⟨l0, β3, p3, d0, d1, ok3⟩ := pull_ex ok2 (lot := 41) (by decide) (by decide)
  refine w_set (d := .int l0) (β1 := β3) (x_call rfl p3) ?_
  obtain ⟨u0, β4, p4, e0, e1, ok4⟩ := pull_ex ok3 (lot := 6) (by decide) (by decide)
  have hu : ∃ u : Int, ixD (.lst [.int 12, .int 12, .int 12, .int 12, .int 12, .int 40]) (.int u0) = some (.int u) ∧ 0 ≤ u ∧ u ≤ 40 := by
    obtain rfl | rfl | rfl | rfl | rfl | rfl : u0 = 0 ∨ u0 = 1 ∨ u0 = 2 ∨ u0 = 3 ∨ u0 = 4 ∨ u0 = 5 := by omega
    · exact ⟨12, rfl, by decide, by decide⟩
    · exact ⟨12, rfl, by decide, by decide⟩
    · exact ⟨12, rfl, by decide, by decide⟩
    · exact ⟨12, rfl, by decide, by decide⟩
    · exact ⟨12, rfl, by decide, by decide⟩
    · exact ⟨40, rfl, by decide, by decide⟩
  obtain ⟨u, hu, u0', u1'⟩ := hu
  refine w_set (d := .int u) (β1 := β4) (x_2 (x_args rfl rfl) (x_call rfl p4) hu) ?_
  obtain ⟨r, hr⟩ : ∃ r : Nat, (r : Int) = 1 + r0 := ⟨(1 + r0).toNat, by omega⟩
  obtain ⟨c, hc⟩ : ∃ c : Nat, (c : Int) = 1 + c0 := ⟨(1 + c0).toNat, by omega⟩
  rw [← hr, ← hc]
  refine w_grd (rows := (List.range r).map fun _ => List.replicate c (D.int 0)) (β1 := β4) (compG_map (List.range r) (fun i => D.int (0 + (i : Int))) _ (x_nargs (ds := rangeL 0 r) rfl (rg1 (by omega) (by omega))) (fun x _ => ⟨_, rfl, oRep1 (x := .int 0) (c := c) rfl rfl (by omega)⟩) (line9 (by rw [List.length_range]; omega))) ?_ ?_
  · rw [List.all_eq_true]
    intro x hx
    obtain ⟨_, _, rfl⟩ := List.mem_map.mp hx
    rw [← List.map_replicate (f := D.int)]
    exact noLs_ints _
  have hg : (List.range r).map (fun _ => List.replicate c (D.int 0)) = gI (List.replicate r (List.replicate c 0)) := by
    show _ = List.map _ _
    rw [List.map_replicate, List.map_const', List.map_replicate, List.length_range]
  rw [hg]
  refine w_for (ds := rangeL 0 r) (β1 := β4) (x_nargs rfl (rg1 (by omega) (by omega))) (fun _ δ β => ∃ s6, AnyJ r c u s6 δ β) ⟨none, ok4, List.replicate r (List.replicate c 0), l0, none, rfl, ⟨by simp, fun row h => ?_⟩, fun row h x hx => ?_, d0, ?_⟩ ?_ ?_
  · rw [(List.mem_replicate.mp h).2]; simp
  · rw [(List.mem_replicate.mp h).2] at hx
    rw [(List.mem_replicate.mp hx).2]; exact Int.le_refl _
  · have : tot (List.replicate r (List.replicate c 0)) = 0 := by
      unfold tot
      rw [List.map_replicate]
      have z : ∀ n : Nat, (List.replicate n (0 : Int)).sum = 0 := fun n => by
        induction n with
        | zero => rfl
        | succ n ih => rw [List.replicate_succ, List.sum_cons, ih]; rfl
      rw [z, z]
    omega
  · rintro i d δ β' hd ⟨s6, okA, rows, l, s7, rfl, sh, nn, hl, ht⟩
    obtain ⟨hi, rfl⟩ := rg_at hd
    refine ⟨anyT r c l u (gI rows) (some (.sh (.int i))) s7, rfl, w_last ?_⟩
    refine w_for (ds := rangeL 0 c) (β1 := β') (x_nargs rfl (rg1 (by omega) (by omega))) (fun _ => AnyJ r c u (some (.sh (.int i)))) ⟨okA, rows, l, s7, rfl, sh, nn, hl, ht⟩ ?_ (fun δ β h => w_end ⟨_, h⟩)
    rintro j d δ β2 hd ⟨okB, rows, l, s7, rfl, sh, nn, hl, ht⟩
    obtain ⟨hj, rfl⟩ := rg_at hd
    refine ⟨anyT r c l u (gI rows) (some (.sh (.int i))) (some (.sh (.int j))), rfl, ?_⟩
    obtain ⟨v, β5, p5, v0, v1, ok5⟩ := pull_ex okB (lot := min l u + 1) (by omega) (by omega)
    obtain ⟨row, hrow, lrow⟩ := sh.at hi
    obtain ⟨x, hx⟩ := at_lt (l := row) (i := j) (by omega)
    refine w_it2 (d := .int v) (β1 := β5) (β2 := β5) (β3 := β5) (rows := gI rows) (ds := row.map D.int) (ka := i) (kb := j) (ja := i) (jb := j) (x_call (as := [.bag, .int (min l u + 1)]) (β1 := β2) ?_ p5) rfl rfl rfl ?_ ?_ ?_ rfl ?_
    · refine x_cons rfl (x_cons (x_2 (x := .int (min l u)) (x_args (as := [.int l, .int u]) rfl ?_) rfl rfl) rfl)
      show minD [.int l, .int u] = some (.int (min l u))
      unfold minD
      simp only
      congr 2
      split <;> omega
    · rw [List.length_map, sh.1]; exact ixN_in (by omega) (by omega)
    · rw [List.getElem?_map, hrow]; rfl
    · rw [List.length_map, lrow]; exact ixN_in (by omega) (by omega)
    have hset : (gI rows).set i ((row.map D.int).set j (.int v)) = gI (rows.set i (row.set j v)) := by
      show _ = List.map _ _
      rw [List.map_set, List.map_set]
    rw [hset]
    have hl' : v ≤ l := by omega
    refine w_last (w_setF (d := .int (l - v)) (β1 := β5) ?_ (w_end ⟨ok5, rows.set i (row.set j v), l - v, _, rfl, sh.set hrow, nn_set nn hrow v0, by omega, ?_⟩) rfl)
    · refine x_2 (y := .int v) rfl (x_2 (x := .lst ((row.set j v).map D.int)) (x_2 rfl rfl ?_) rfl ?_) rfl
      · refine ix_lst (by omega) ?_
        rw [List.getElem?_map, List.getElem?_map, Int.toNat_natCast, List.getElem?_set, if_pos rfl, if_pos (by rw [sh.1]; omega)]; rfl
      · refine ix_lst (by omega) ?_
        rw [List.getElem?_map, Int.toNat_natCast, List.getElem?_set, if_pos rfl, if_pos (by rw [lrow]; omega)]; rfl
    · have := tot_set (v := v) hrow hx
      have := nn row (List.mem_of_getElem? hrow) x (List.mem_of_getElem? hx)
      omega
  · rintro δ β' ⟨s6, okA, rows, l, s7, rfl, sh, nn, hl, ht⟩
    exact w_last (w_ret rfl ⟨rows, r, c, rfl, ⟨sh, nn, by omega, by omega, by omega, by omega, by omega⟩, okA⟩)
end
section
variable {K : PySem.W.Frag} {a : Ad} {β : Bg}
theorem tp_e {r c : Nat} {rows : List (List Int)} (sh : Shp r c rows) (r0 : 1 ≤ r) (r1 : r ≤ 30) (c1 : c ≤ 30) {δ : Dn} (hδ : δ.getD 0 none = some (gridD rows)) : fComp 1 [0] (nArgs rng1 (aCons (fArgs lenD (aCons (f2 ixD (fVar 0) (fC (.int 0))) (aNil))) (aNil))) (tgC 0) (fun _ => M.ret true) (cEm (fComp 1 [0] (nSeq (fVar 1)) (tgC 0) (fun _ => M.ret true) (cEm (f2 ixD (fVar 0) (fVar 1))))) δ β = some (.ok (gridD (tp c rows)), β) := by
  obtain ⟨row0, hrow0, lrow0⟩ := sh.at (i := 0) (by omega)
  have hr0 : (gI rows)[0]? = some (row0.map D.int) := by rw [List.getElem?_map, hrow0]; rfl
  have el : fArgs lenD (aCons (f2 ixD (fVar 0) (fC (.int 0))) (aNil)) δ β = some (.ok (.int (c : Int)), β) := x_args (x_cons (x := .lst (row0.map D.int)) (x_2 (x := gridD rows) (x_var hδ) rfl (ix_lG hr0)) rfl) (len_lst (by rw [List.length_map, lrow0]))
  have e := comp_map (nv := 1) (caps := [0]) (it := nArgs rng1 (aCons (fArgs lenD (aCons (f2 ixD (fVar 0) (fC (.int 0))) (aNil))) (aNil))) (tg := tgC 0) (f := fComp 1 [0] (nSeq (fVar 1)) (tgC 0) (fun _ => M.ret true) (cEm (f2 ixD (fVar 0) (fVar 1)))) (δ := δ) (β := β) (List.range c) (fun i => D.int (0 + (i : Int))) (fun j => D.lst (rows.map fun row => D.int (row.getD j 0))) (x_nargs (ds := rangeL 0 c) (x_cons el rfl) (rg1 (by omega) (by omega))) ?_ (line9 (by rw [List.length_range]; omega))
  · rw [e]
    unfold tp tpA
    show _ = some (Except.ok (D.lst (List.map D.lst (List.map _ (List.map _ _)))), β)
    rw [List.map_map, List.map_map]
    congr 4
    refine List.map_congr_left fun j _ => ?_
    show _ = D.lst ((rows.map fun row => row.getD j 0).map D.int)
    rw [List.map_map]; rfl
  · intro j hj
    have hjc := List.mem_range.mp hj
    have hcs : cSt 1 [0] δ = [none, some (gridD rows)] := by
      unfold cSt
      simp only [List.map_cons, List.map_nil, hδ]; rfl
    refine ⟨[some (.int (0 + (j : Int))), some (gridD rows)], by rw [hcs]; rfl, ?_⟩
    have hm : (gI rows).map D.lst = rows.map fun row => D.lst (row.map D.int) := by rw [List.map_map]; rfl
    refine comp_map (nv := 1) (caps := [0]) rows (fun row => D.lst (row.map D.int)) _ (by show some (Except.ok ((gI rows).map D.lst), β) = _; rw [hm]) (fun row hr => ⟨_, rfl, x_2 (x := .lst (row.map D.int)) (y := .int (0 + (j : Int))) rfl rfl ?_⟩) (line9 (by rw [sh.1]; omega))
    have hl := sh.2 row hr
    obtain ⟨x, hx⟩ := at_lt (l := row) (i := j) (by omega)
    rw [Int.zero_add]
    refine ix_nat' ?_
    rw [List.getElem?_map, hx, List.getD_eq_getElem?_getD, hx]; rfl
theorem lturned_ok {r c : Nat} {rows : List (List Int)} (sh : Shp r c rows) (r0 : 1 ≤ r) (r1 : r ≤ 30) (c1 : c ≤ 30) : m_l_turned K a [gridD rows] β = some (.ok (gridD (tp c rows)), β) :=
  body_e (w_last (w_ret (tp_e sh r0 r1 c1 rfl) ⟨rfl, rfl⟩))
end
section
variable {K : PySem.W.Frag} {a : Ad} {β : Bg}
noncomputable abbrev iL (xs : List Int) : D := .lst (xs.map D.int)
theorem sums_e {rows : List (List Int)} (h : rows.length ≤ 1000) {f : Dn → M D} {δ : Dn} (e : f δ β = some (.ok (gridD rows), β)) : fComp 1 [] (nSeq f) (tgC 0) (fun _ => M.ret true) (cEm (fArgs sumAD (aCons (fVar 0) (aNil)))) δ β = some (.ok (iL (rows.map List.sum)), β) := by
  have hm : (gI rows).map D.lst = rows.map fun row => D.lst (row.map D.int) := by rw [List.map_map]; rfl
  have := comp_map (nv := 1) (caps := []) (it := nSeq f) (tg := tgC 0) (f := fArgs sumAD (aCons (fVar 0) (aNil))) (δ := δ) (β := β) rows (fun row => D.lst (row.map D.int)) (fun row => D.int row.sum) (by rw [← hm]; exact x_nseq e rfl) (fun row _ => ⟨_, rfl, x_args rfl (sum_int row)⟩) (line9 h)
  rw [this]
  show _ = some (Except.ok (D.lst ((rows.map List.sum).map D.int)), β)
  rw [List.map_map]; rfl
theorem rowsums_ok {rows : List (List Int)} (h : rows.length ≤ 1000) : m_l_rowsums K a [gridD rows] β = some (.ok (iL (rows.map List.sum)), β) :=
  body_e (w_last (w_ret (sums_e h rfl) ⟨rfl, rfl⟩))
theorem columnsums_ok {r c : Nat} {rows : List (List Int)} (sh : Shp r c rows) (r0 : 1 ≤ r) (r1 : r ≤ 30) (c1 : c ≤ 30) : m_l_columnsums K a [gridD rows] β = some (.ok (iL ((tp c rows).map List.sum)), β) :=
  body_e (w_last (w_ret (sums_e (by rw [(tpA_shp (d := (0 : Int)) (c := c) sh.1).1]; omega) (x_call rfl (lturned_ok sh r0 r1 c1))) ⟨rfl, rfl⟩))
end
section
variable {K : PySem.W.Frag} {a : Ad} {β : Bg}
noncomputable def sumsB (xs ys : List Int) : Bool := (decide (1 ≤ (xs.length : Int)) && decide ((xs.length : Int) ≤ 4)) && (decide (1 ≤ (ys.length : Int)) && decide ((ys.length : Int) ≤ 6)) && !((xs.any fun x => decide (x < 0)) || (ys.any fun x => decide (x < 0))) && decide (xs.sum = ys.sum) && !decide (40 < xs.sum)
noncomputable def Sm (xs : List Int) : Prop := xs.length ≤ 30 ∧ ∀ x ∈ xs, -1000 ≤ x ∧ x ≤ 1000
theorem sum_bd : ∀ {xs : List Int}, (∀ x ∈ xs, -1000 ≤ x ∧ x ≤ 1000) → -1000 * (xs.length : Int) ≤ xs.sum ∧ xs.sum ≤ 1000 * (xs.length : Int)
  | [], _ => by simp
  | x :: xs, h => by
    have h1 := h x List.mem_cons_self
    have h2 := sum_bd (xs := xs) fun y hy => h y (List.mem_cons_of_mem _ hy)
    simp only [List.sum_cons, List.length_cons]
    omega
theorem Sm.bd {xs : List Int} (h : Sm xs) : -30000 ≤ xs.sum ∧ xs.sum ≤ 30000 := by
  have := sum_bd h.2
  have := h.1
  omega
theorem neg_e {xs : List Int} (h : xs.length ≤ 1000) {n : Nat} {δ : Dn} (e : δ.getD n none = some (iL xs)) : fTru (fArgs anyD (aCons (fComp 1 [] (nSeq (fVar n)) (tgC 0) (fun _ => M.ret true) (cEm (f2 (ltD) (fVar 0) (fC (.int 0))))) (aNil))) δ β = some (.ok (xs.any fun x => decide (x < 0)), β) := by
  have e1 := comp_map (nv := 1) (caps := []) (it := nSeq (fVar n)) (tg := tgC 0) (f := f2 (ltD) (fVar 0) (fC (.int 0))) (δ := δ) (β := β) xs D.int (fun x => D.bl (decide (x < 0))) (x_nseq (x_var e) rfl) (fun x _ => ⟨_, rfl, rfl⟩) (line9 h)
  exact x_tru (x_args (x_cons e1 rfl) (any_map _ _)) rfl
theorem csums_ok {xs ys : List Int} (hx : Sm xs) (hy : Sm ys) : m_check_sums K a [iL xs, iL ys] β = some (if sumsB xs ys = true then .ok .non else .error a.C_BadSums, β) := by
  have lx := hx.1
  have ly := hy.1
  have bx := hx.bd
  have by' := hy.bd
  refine body_e ?_
  unfold g_check_sums
  have el : ∀ {n : Nat} {zs : List Int} {δ : Dn}, δ.getD n none = some (iL zs) → fArgs lenD (aCons (fVar n) aNil) δ β = some (.ok (.int (zs.length : Int)), β) := fun {n zs δ} e => x_args (x_cons (x_var e) rfl) (len_lst (by rw [List.length_map]))
  have es : ∀ {n : Nat} {zs : List Int} {δ : Dn}, δ.getD n none = some (iL zs) → fArgs sumAD (aCons (fVar n) aNil) δ β = some (.ok (.int zs.sum), β) := fun {n zs δ} e => x_args (x_cons (x_var e) rfl) (sum_int zs)
  refine w_if (c := !(decide (1 ≤ (xs.length : Int)) && decide ((xs.length : Int) ≤ 4))) (β1 := β) (x_not (x_B (x_chain rfl (el rfl) rfl))) ?_
  unfold sumsB
  cases q1 : (decide (1 ≤ (xs.length : Int)) && decide ((xs.length : Int) ≤ 4)) with
  | false => exact w_raise (x_cons (x_fstr (x_jf rfl (by decide) (by decide) (x_jf (el rfl) (by omega) (by omega) rfl))) rfl) ⟨rfl, rfl⟩
  | true =>
  refine w_nil ?_
  refine w_if (c := !(decide (1 ≤ (ys.length : Int)) && decide ((ys.length : Int) ≤ 6))) (β1 := β) (x_not (x_B (x_chain rfl (el rfl) rfl))) ?_
  cases q2 : (decide (1 ≤ (ys.length : Int)) && decide ((ys.length : Int) ≤ 6)) with
  | false => exact w_raise (x_cons (x_fstr (x_jf rfl (by decide) (by decide) (x_jf (el rfl) (by omega) (by omega) rfl))) rfl) ⟨rfl, rfl⟩
  | true =>
  refine w_nil ?_
  refine w_if (c := (xs.any fun x => decide (x < 0)) || (ys.any fun x => decide (x < 0))) (β1 := β) (x_orP (neg_e (by omega) rfl) (neg_e (by omega) rfl)) ?_
  cases q3 : ((xs.any fun x => decide (x < 0)) || (ys.any fun x => decide (x < 0))) with
  | true =>
    rw [if_pos rfl]
    exact w_raise rfl ⟨rfl, rfl⟩
  | false =>
  refine w_nil ?_
  refine w_if (c := !decide (xs.sum = ys.sum)) (β1 := β) (x_B (x_2 (es rfl) (es rfl) ne_int)) ?_
  cases q4 : decide (xs.sum = ys.sum) with
  | false => exact w_raise (x_cons (x_fstr (x_jf (es rfl) (by omega) (by omega) (x_jf (es rfl) (by omega) (by omega) rfl))) rfl) ⟨rfl, rfl⟩
  | true =>
  refine w_nil (w_last ?_)
  refine w_if (c := decide (40 < xs.sum)) (β1 := β) (x_B (x_2 (es rfl) rfl gt_int)) ?_
  cases q5 : decide (40 < xs.sum) with
  | true =>
    rw [if_pos rfl]
    exact w_raise (x_cons (x_fstr (x_jf rfl (by decide) (by decide) rfl)) rfl) ⟨rfl, rfl⟩
  | false => exact w_nil (w_end ⟨rfl, rfl⟩)
theorem ints_ok : ∀ ns : List Int, intsOf (ns.map D.int) = some ns
  | [] => rfl
  | n :: ns => by simp [intsOf, ints_ok ns]
theorem min_lst {xs : List Int} (h : xs ≠ []) : minSD [iL xs] = some (.int (lowI xs)) := by
  show minIs (intsOf (xs.map D.int)) = _
  rw [ints_ok]
  cases xs with
  | nil => exact absurd rfl h
  | cons => rfl
theorem low_neg {xs : List Int} (h : xs ≠ []) : decide (lowI xs < 0) = xs.any fun x => decide (x < 0) := by
  rw [Bool.eq_iff_iff, List.any_eq_true]
  simp only [decide_eq_true_eq]
  exact ⟨fun z => ⟨_, lowI_mem h, z⟩, fun ⟨x, hx, z⟩ => Int.lt_of_le_of_lt (lowI_le hx) z⟩
theorem good_ok {xs ys : List Int} : m_l_good_sums K a [iL xs, iL ys] β = some (.ok (.bl (sumsB xs ys)), β) := by
  refine body_e ?_
  unfold g_l_good_sums
  have el : ∀ {n : Nat} {zs : List Int} {δ : Dn}, δ.getD n none = some (iL zs) → fArgs lenD (aCons (fVar n) aNil) δ β = some (.ok (.int (zs.length : Int)), β) := fun {n zs δ} e => x_args (x_cons (x_var e) rfl) (len_lst (by rw [List.length_map]))
  have es : ∀ {n : Nat} {zs : List Int} {δ : Dn}, δ.getD n none = some (iL zs) → fArgs sumAD (aCons (fVar n) aNil) δ β = some (.ok (.int zs.sum), β) := fun {n zs δ} e => x_args (x_cons (x_var e) rfl) (sum_int zs)
  refine w_if (c := decide ((xs.length : Int) < 1) || (decide (4 < (xs.length : Int)) || (decide ((ys.length : Int) < 1) || decide (6 < (ys.length : Int))))) (β1 := β) (x_orP (x_B (x_2 (el rfl) rfl lt_int)) (x_orP (x_B (x_2 (el rfl) rfl gt_int)) (x_orP (x_B (x_2 (el rfl) rfl lt_int)) (x_B (x_2 (el rfl) rfl gt_int))))) ?_
  unfold sumsB
  by_cases q1 : (1 ≤ (xs.length : Int) ∧ (xs.length : Int) ≤ 4) ∧ 1 ≤ (ys.length : Int) ∧ (ys.length : Int) ≤ 6
  · have e1 : (decide ((xs.length : Int) < 1) || (decide (4 < (xs.length : Int)) || (decide ((ys.length : Int) < 1) || decide (6 < (ys.length : Int))))) = false := by
      simp only [Bool.or_eq_false_iff, decide_eq_false_iff_not]
      omega
    have e2 : (decide (1 ≤ (xs.length : Int)) && decide ((xs.length : Int) ≤ 4) && (decide (1 ≤ (ys.length : Int)) && decide ((ys.length : Int) ≤ 6))) = true := by
      simp only [Bool.and_eq_true, decide_eq_true_eq]
      exact q1
    have nx : xs ≠ [] := fun z => by rw [z] at q1; simp at q1
    have ny : ys ≠ [] := fun z => by rw [z] at q1; simp at q1
    rw [e1, if_neg Bool.false_ne_true, e2, Bool.true_and]
    refine w_nil ?_
    refine w_if (c := (xs.any fun x => decide (x < 0)) || (ys.any fun x => decide (x < 0))) (β1 := β) (by
      rw [← low_neg nx, ← low_neg ny]
      exact x_orP (x_B (x_2 (x_args rfl (min_lst nx)) rfl lt_int)) (x_B (x_2 (x_args rfl (min_lst ny)) rfl lt_int))) ?_
    cases q3 : ((xs.any fun x => decide (x < 0)) || (ys.any fun x => decide (x < 0))) with
    | true =>
      rw [if_pos rfl]
      exact w_ret rfl ⟨rfl, rfl⟩
    | false =>
    refine w_nil (w_last (w_ret (d := .bl (decide (xs.sum = ys.sum) && decide (xs.sum ≤ 40))) (x_vandP (x_2 (es rfl) (es rfl) eq_int) (x_2 (es rfl) rfl le_int)) ⟨rfl, ?_⟩))
    rw [Bool.not_false, Bool.true_and]
    congr 3
    rw [Bool.eq_iff_iff]
    simp only [Bool.not_eq_true', decide_eq_true_eq, decide_eq_false_iff_not]
    omega
  · have e1 : (decide ((xs.length : Int) < 1) || (decide (4 < (xs.length : Int)) || (decide ((ys.length : Int) < 1) || decide (6 < (ys.length : Int))))) = true := by
      simp only [Bool.or_eq_true, decide_eq_true_eq]
      omega
    have e2 : (decide (1 ≤ (xs.length : Int)) && decide ((xs.length : Int) ≤ 4) && (decide (1 ≤ (ys.length : Int)) && decide ((ys.length : Int) ≤ 6))) = false := by
      rw [Bool.eq_false_iff]
      simp only [ne_eq, Bool.and_eq_true, decide_eq_true_eq]
      exact q1
    rw [e1, if_pos rfl, e2]
    exact w_ret rfl ⟨rfl, rfl⟩
end
end Law
set_option maxHeartbeats 4000000
namespace Law
open PySem L2 L2.Pu
section
variable {K : PySem.W.Frag} {a : Ad}
theorem cf_loop : ∀ (y x : Nat) (β : Bg), gWhile (fB (f2 (gtD) (fVar 1) (fC (.int 0)))) (gPar 0 1 (aCons (fVar 1) (aCons (f2 modD (fVar 0) (fVar 1)) (aNil)))) (y + 1) [some (.sh (.int x)), some (.sh (.int y))] β = some (.nx [some (.sh (.int (Nat.gcd x y : Nat))), some (.sh (.int 0))], β) := by
  intro y
  induction y using Nat.strongRecOn with
  | ind y ih =>
    intro x β
    by_cases hy : y = 0
    · subst hy
      unfold gWhile
      simp only [gSeq, gRet, gPar, fVar, fC, f2, aNil, aCons, fB, M.bind, M.ret, M.ofO, vw, vwA, stD, List.map_cons, List.map_nil, List.set_cons_zero, List.set_cons_succ, List.getD_cons_zero, List.getD_cons_succ, List.length_cons, List.length_nil, List.replicate_zero, List.replicate_succ, List.append_nil, List.cons_append, List.nil_append, Nat.sub_self, Nat.reduceSub, Nat.reduceAdd, Int.reduceLT, e_mod, e_gt, asB, Option.map_some, Option.bind_some, if_true, if_false, reduceIte, decide_true, decide_false, Bool.false_eq_true, Int.natCast_zero, Int.lt_irrefl, Nat.gcd_zero_right]
    · have h0 : (0 : Int) < (y : Int) := by omega
      have hm : (x : Int) % (y : Int) = ((x % y : Nat) : Int) := by simp
      have step := gWhile_le (ih (x % y) (Nat.mod_lt _ (by omega)) y β) (show x % y + 1 ≤ y from Nat.mod_lt _ (by omega))
      have eg : Nat.gcd y (x % y) = Nat.gcd x y := by rw [Nat.gcd_comm x y, Nat.gcd_rec y x, Nat.gcd_comm]
      rw [eg] at step
      unfold gWhile
      simp only [gSeq, gRet, gPar, fVar, fC, f2, aNil, aCons, fB, M.bind, M.ret, M.ofO, vw, vwA, stD, List.map_cons, List.map_nil, List.set_cons_zero, List.set_cons_succ, List.getD_cons_zero, List.getD_cons_succ, List.length_cons, List.length_nil, List.replicate_zero, List.replicate_succ, List.append_nil, List.cons_append, List.nil_append, Nat.sub_self, Nat.reduceSub, Nat.reduceAdd, Int.reduceLT, e_mod, e_gt, asB, Option.map_some, Option.bind_some, if_true, if_false, reduceIte, decide_true, decide_false, Bool.false_eq_true, h0, hm, step]
theorem cf_ok {β : Bg} (x y : Nat) : m_common_factor K a [.int x, .int y] β = some (.ok (.int (Nat.gcd x y : Nat)), β) := by
  have l := gWh_of (cf_loop y x β)
  unfold m_common_factor bodyM g_common_factor
  simp only [gSeq, gRet, gPar, fVar, fC, f2, aNil, aCons, fB, M.bind, M.ret, M.ofO, vw, vwA, stD, List.map_cons, List.map_nil, List.set_cons_zero, List.set_cons_succ, List.getD_cons_zero, List.getD_cons_succ, List.length_cons, List.length_nil, List.replicate_zero, List.replicate_succ, List.append_nil, List.cons_append, List.nil_append, Nat.sub_self, Nat.reduceSub, Nat.reduceAdd, Int.reduceLT, e_mod, e_gt, asB, Option.map_some, Option.bind_some, if_true, if_false, reduceIte, decide_true, decide_false, Bool.false_eq_true, l]
theorem small_nat {t m : Nat} (h : t ≤ m) (hm : m < 2 ^ 1000) : smallI (t : Int) = true := decide_eq_true (by rw [Int.natAbs_natCast]; omega)
theorem pw30 : (2000 ^ 30 : Nat) < 2 ^ 1000 := by decide +kernel
theorem pw_le {i : Nat} (h : i ≤ 30) : (2000 ^ i : Nat) ≤ 2000 ^ 30 := Nat.pow_le_pow_right (by decide) h
theorem mul_nat {t n : Nat} (h1 : t ≤ 2000 ^ 30) (h2 : n ≤ 2000 ^ 30) : mulD (.int (t : Int)) (.int (n : Int)) = some (.int ((t * n : Nat) : Int)) := by
  show (if (smallI (t : Int) && smallI (n : Int)) = true then _ else _) = _
  simp only [small_nat h1 pw30, small_nat h2 pw30, Bool.and_self, if_true]
  rfl
theorem fdiv_nat {t g : Nat} (h0 : 0 < g) (h1 : g ≤ 2000 ^ 30) : fdivD (.int (t : Int)) (.int (g : Int)) = some (.int ((t / g : Nat) : Int)) := by
  have e1 : decide ((0 : Int) < (g : Int)) = true := decide_eq_true (by omega)
  have e2 : decide (((g : Int)).natAbs.log2 < 9000) = true := decide_eq_true (by
    rw [Int.natAbs_natCast]
    have := (Nat.log2_lt (n := g) (k := 1000) (by omega)).mpr (by have := pw30; omega)
    omega)
  show (if (decide ((0 : Int) < (g : Int)) && decide (((g : Int)).natAbs.log2 < 9000)) = true then _ else _) = _
  simp only [e1, e2, Bool.and_self, if_true]
  rfl
theorem lcm_ok {β : Bg} {ns : List Nat} (h : ∀ n ∈ ns, 1 ≤ n ∧ n ≤ 2000) (hl : ns.length ≤ 29) : ∃ t : Nat, m_least_common K a [.lst (ns.map fun (n : Nat) => D.int (n : Int))] β = some (.ok (.int (t : Int)), β) := by
  suffices q : ∃ r β', m_least_common K a [.lst (ns.map fun (n : Nat) => D.int (n : Int))] β = some (r, β') ∧ (β = β' ∧ ∃ t : Nat, r = .ok (.int (t : Int))) by
    obtain ⟨r, _, e, rfl, t, rfl⟩ := q
    exact ⟨t, e⟩
  refine body_w ?_
  unfold g_least_common
  refine w_set (d := .int 1) (β1 := β) rfl ?_
  refine w_for (ds := ns.map fun (n : Nat) => D.int (n : Int)) (β1 := β) rfl (fun i δ β' => β = β' ∧ i ≤ ns.length ∧ ∃ (t : Nat) (s2 : Option Sl), δ = [some (.sh (.lst (ns.map fun (n : Nat) => D.int (n : Int)))), some (.sh (.int (t : Int))), s2] ∧ 1 ≤ t ∧ t ≤ 2000 ^ i) ⟨rfl, by omega, 1, none, rfl, by decide, by decide⟩ ?_ ?_
  · rintro i d δ β' hd ⟨rfl, _, t, s2, rfl, t1, t2⟩
    obtain ⟨n, hn, rfl⟩ := map_at hd
    obtain ⟨n1, n2⟩ := h n (List.mem_of_getElem? hn)
    have hi : i < ns.length := (List.getElem?_eq_some_iff.mp hn).1
    have hp := pw_le (i := i) (by omega)
    have hp1 := pw_le (i := i + 1) (by omega)
    have hg0 : 0 < Nat.gcd t n := Nat.gcd_pos_of_pos_left _ (by omega)
    have hg1 : Nat.gcd t n ≤ t := Nat.gcd_le_left _ (by omega)
    have hg2 : Nat.gcd t n ≤ t * n := Nat.le_trans hg1 (Nat.le_mul_of_pos_right _ n1)
    have hb : t * n ≤ 2000 ^ (i + 1) := by rw [Nat.pow_succ]; exact Nat.mul_le_mul t2 n2
    refine ⟨_, rfl, w_last (w_set (d := .int ((t * n / Nat.gcd t n : Nat) : Int)) (β1 := β) (x_2 (x_2 rfl rfl (mul_nat (by omega) (by omega))) (x_call rfl (cf_ok t n)) (fdiv_nat hg0 (by omega))) (w_end ⟨rfl, by omega, _, _, rfl, Nat.div_pos hg2 hg0, Nat.le_trans (Nat.div_le_self _ _) hb⟩))⟩
  · rintro δ β' ⟨rfl, _, t, s2, rfl, _, _⟩
    exact w_last (w_ret rfl ⟨rfl, t, rfl⟩)
end
end Law
set_option maxHeartbeats 4000000
namespace Law
open PySem L2 L2.Pu
section
variable {K : PySem.W.Frag} {a : Ad} {β : Bg}
theorem nx_filt {α : Type} {it : Dn → M (List D)} {tg : TgF} {tt : Dn → M Bool} {f : Dn → M D} {δ : Dn} (xs : List α) (u v : α → D) (c : α → Bool) (h1 : it δ β = some (.ok (xs.map u), β))
    (h2 : ∀ x ∈ xs, ∃ δ1, tg (u x) δ = some δ1 ∧ tt δ1 β = some (.ok (c x), β) ∧ f δ1 β = some (.ok (v x), β)) : cNx it tg tt (cEm f) δ β = some (.ok ((xs.filter c).map v), β) := by
  have gen : ∀ xs : List α, (∀ x ∈ xs, ∃ δ1, tg (u x) δ = some δ1 ∧ tt δ1 β = some (.ok (c x), β) ∧ f δ1 β = some (.ok (v x), β)) → cLp tg tt (cEm f) (xs.map u) δ β = some (.ok ((xs.filter c).map v), β) := by
    intro xs
    induction xs with
    | nil => intro _; rfl
    | cons x xs ih =>
      intro h
      obtain ⟨δ1, e1, e0, e2⟩ := h x List.mem_cons_self
      have e3 := ih fun y hy => h y (List.mem_cons_of_mem _ hy)
      rw [List.map_cons, cLp]
      cases q : c x with
      | true =>
        rw [q] at e0
        simp only [e1, e0, M.bind, M.ret, reduceIte, cEm, e2, e3, List.filter_cons, q, List.map_cons, List.cons_append, List.nil_append]
      | false =>
        rw [q] at e0
        simp only [e1, e0, M.bind, M.ret, reduceIte, cEm, e2, e3, List.filter_cons, q, Bool.false_eq_true, List.map_cons, List.cons_append, List.nil_append]
  unfold cNx
  rw [M.bind_ok h1]
  exact gen xs h2
theorem le_sum : ∀ {xs : List Int}, (∀ x ∈ xs, 0 ≤ x) → ∀ x ∈ xs, x ≤ xs.sum
  | [], _, _, h => by cases h
  | y :: xs, hn, x, h => by
    have hs : 0 ≤ xs.sum := by
      clear h
      have hn' : ∀ x ∈ xs, 0 ≤ x := fun z hz => hn z (List.mem_cons_of_mem _ hz)
      clear hn
      induction xs with
      | nil => simp
      | cons z xs ih =>
        have := ih fun w hw => hn' w (List.mem_cons_of_mem _ hw)
        have := hn' z List.mem_cons_self
        simp only [List.sum_cons]; omega
    have hy := hn y List.mem_cons_self
    simp only [List.sum_cons]
    rcases List.mem_cons.mp h with rfl | h
    · omega
    · have := le_sum (xs := xs) (fun z hz => hn z (List.mem_cons_of_mem _ hz)) x h
      omega
theorem sums_inv {xs ys : List Int} (h : sumsB xs ys = true) : xs.length ≤ 4 ∧ ys.length ≤ 6 ∧ (∀ x ∈ xs, 0 ≤ x ∧ x ≤ 40) ∧ (∀ x ∈ ys, 0 ≤ x ∧ x ≤ 40) := by
  unfold sumsB at h
  simp only [Bool.and_eq_true, Bool.not_eq_true', Bool.or_eq_false_iff, decide_eq_true_eq, decide_eq_false_iff_not, List.any_eq_false] at h
  obtain ⟨⟨⟨⟨⟨a1, a2⟩, b1, b2⟩, c1, c2⟩, d1⟩, e1⟩ := h
  have nx : ∀ x ∈ xs, 0 ≤ x := fun x hx => by have := c1 x hx; omega
  have ny : ∀ x ∈ ys, 0 ≤ x := fun x hx => by have := c2 x hx; omega
  refine ⟨by omega, by omega, fun x hx => ⟨nx x hx, ?_⟩, fun x hx => ⟨ny x hx, ?_⟩⟩
  · have := le_sum nx x hx; omega
  · have := le_sum ny x hx; omega
noncomputable def prods (xs ys : List Int) : List Int := xs.flatMap fun x => (ys.filter fun y => decide (0 < x * y)).map fun y => x * y
theorem mul_int {x y : Int} (hx : 0 ≤ x ∧ x ≤ 40) (hy : 0 ≤ y ∧ y ≤ 40) : mulD (.int x) (.int y) = some (.int (x * y)) := by
  have h40 : (40 : Nat) ≤ 2000 ^ 30 := by decide +kernel
  have h := mul_nat (t := x.toNat) (n := y.toNat) (by omega) (by omega)
  have e1 : ((x.toNat : Nat) : Int) = x := by omega
  have e2 : ((y.toNat : Nat) : Int) = y := by omega
  rw [e1, e2, Int.natCast_mul, e1, e2] at h
  exact h
theorem prods_in {xs ys : List Int} (hx : ∀ x ∈ xs, 0 ≤ x ∧ x ≤ 40) (hy : ∀ x ∈ ys, 0 ≤ x ∧ x ≤ 40) : ∀ n ∈ prods xs ys, 1 ≤ n ∧ n ≤ 1600 := fun n hn => by
  unfold prods at hn
  rw [List.mem_flatMap] at hn
  obtain ⟨x, h1, h2⟩ := hn
  obtain ⟨y, h3, rfl⟩ := List.mem_map.mp h2
  rw [List.mem_filter] at h3
  obtain ⟨h3, h4⟩ := h3
  rw [decide_eq_true_eq] at h4
  have a1 := hx x h1
  have a2 := hy y h3
  have : x * y ≤ 40 * 40 := Int.mul_le_mul a1.2 a2.2 a2.1 (by decide)
  omega
theorem prods_len {xs ys : List Int} (hx : xs.length ≤ 4) (hy : ys.length ≤ 6) : (prods xs ys).length ≤ 24 := by
  have := fm_len (f := fun x : Int => (ys.filter fun y => decide (0 < x * y)).map fun y => x * y) (n := 6) (l := xs) fun x _ => by
    rw [List.length_map]
    have := List.length_filter_le (fun y => decide (0 < x * y)) ys
    omega
  show (xs.flatMap _).length ≤ 24
  omega
theorem even_e {xs ys : List Int} (hs : sumsB xs ys = true) {δ : Dn} (h2 : δ.getD 2 none = some (iL xs)) (h3 : δ.getD 3 none = some (iL ys)) : ∃ t : Nat, fCall (m_least_common K a) (aCons (fComp 2 [3] (nSeq (fVar 2)) (tgC 0) (fun _ => M.ret true) (cNx (nSeq (fVar 2)) (tgC 1) (fB (f2 (gtD) (f2 mulD (fVar 0) (fVar 1)) (fC (.int 0)))) (cEm (f2 mulD (fVar 0) (fVar 1))))) (aNil)) δ β = some (.ok (.int (t : Int)), β) := by
  obtain ⟨lx, ly, hx, hy⟩ := sums_inv hs
  have hp := prods_in hx hy
  have hl := prods_len lx ly
  have e : fComp 2 [3] (nSeq (fVar 2)) (tgC 0) (fun _ => M.ret true) (cNx (nSeq (fVar 2)) (tgC 1) (fB (f2 (gtD) (f2 mulD (fVar 0) (fVar 1)) (fC (.int 0)))) (cEm (f2 mulD (fVar 0) (fVar 1)))) δ β = some (.ok (.lst (xs.flatMap fun x => (ys.filter fun y => decide (0 < x * y)).map fun y => D.int (x * y))), β) := by
    have hcs : cSt 2 [3] δ = [none, none, some (iL ys)] := by
      unfold cSt
      simp only [List.map_cons, List.map_nil, h3]; rfl
    refine comp_fm (nv := 2) (caps := [3]) xs D.int _ (x_nseq (x_var h2) rfl) (fun x hx' => ⟨[some (.int x), none, some (iL ys)], by rw [hcs]; rfl, nx_filt ys D.int _ _ rfl (fun y hy' => ⟨[some (.int x), some (.int y), some (iL ys)], rfl, ?_, x_2 rfl rfl (mul_int (hx x hx') (hy y hy'))⟩)⟩) (line9 ?_)
    · exact x_B (x_2 (x_2 rfl rfl (mul_int (hx x hx') (hy y hy'))) rfl gt_int)
    · have := fm_len (f := fun x : Int => (ys.filter fun y => decide (0 < x * y)).map fun y => D.int (x * y)) (n := 6) (l := xs) fun x _ => by
        rw [List.length_map]
        have := List.length_filter_le (fun y => decide (0 < x * y)) ys
        omega
      omega
  have e2 : (xs.flatMap fun x => (ys.filter fun y => decide (0 < x * y)).map fun y => D.int (x * y)) = ((prods xs ys).map Int.toNat).map fun (n : Nat) => D.int (n : Int) := by
    rw [List.map_map]
    have e3 : (prods xs ys).map ((fun (n : Nat) => D.int (n : Int)) ∘ Int.toNat) = (prods xs ys).map D.int := List.map_congr_left fun n hn => by
      show D.int ((n.toNat : Nat) : Int) = _
      have := hp n hn
      congr 1; omega
    rw [e3]
    unfold prods
    rw [List.map_flatMap]
    congr 1
    funext x
    rw [List.map_map]; rfl
  rw [e2] at e
  obtain ⟨t, ht⟩ := lcm_ok (K := K) (a := a) (β := β) (ns := (prods xs ys).map Int.toNat) (fun n hn => by
    obtain ⟨m, hm, rfl⟩ := List.mem_map.mp hn
    have := hp m hm
    omega) (by rw [List.length_map]; omega)
  exact ⟨t, x_call (x_cons e rfl) ht⟩
noncomputable def KINDS : List D := [.str (Str.ofString "rare"), .str (Str.ofString "square"), .str (Str.ofString "power"), .str (Str.ofString "off"), .str (Str.ofString "most"), .str (Str.ofString "least")]
noncomputable def PLACES : List D := [.str (Str.ofString "most"), .str (Str.ofString "least")]
noncomputable def cellB (p q : Int) (r c : Nat) : Bool := (decide (0 ≤ p) && decide (p < (r : Int))) && (decide (0 ≤ q) && decide (q < (c : Int)))
theorem there_ok {i n : Int} (h0 : -1000 ≤ i) (h1 : i ≤ 1000) (h2 : -1000 ≤ n) (h3 : n ≤ 1000) : m_check_there K a [.int i, .int n] β = some (if (decide (0 ≤ i) && decide (i < n)) = true then .ok .non else .error a.C_BadCell, β) := by
  refine body_e ?_
  unfold g_check_there
  refine w_last (w_if (c := !(decide (0 ≤ i) && decide (i < n))) (β1 := β) (x_not (x_B (x_chainLt rfl rfl rfl))) ?_)
  cases e : (decide (0 ≤ i) && decide (i < n)) with
  | true => exact w_nil (w_end ⟨rfl, rfl⟩)
  | false =>
    rw [Bool.not_false, if_pos rfl]
    exact w_raise (x_cons (x_fstr (x_jf rfl (by omega) (by omega) (x_jf rfl (by omega) (by omega) rfl))) rfl) ⟨rfl, rfl⟩
theorem cell_ok {p q : Int} {r c : Nat} (h0 : -1000 ≤ p) (h1 : p ≤ 1000) (h2 : -1000 ≤ q) (h3 : q ≤ 1000) (hr : r ≤ 1000) (hc : c ≤ 1000) : m_check_cell K a [.int p, .int q, .int (r : Int), .int (c : Int)] β = some (if cellB p q r c = true then .ok .non else .error a.C_BadCell, β) := by
  refine body_e ?_
  unfold g_check_cell cellB
  cases e1 : (decide (0 ≤ p) && decide (p < (r : Int))) with
  | false => exact w_exprX (β1 := β) (x_call rfl (by rw [there_ok (by omega) (by omega) (by omega) (by omega), e1]; rfl)) ⟨rfl, rfl⟩
  | true =>
    refine w_expr (β1 := β) (d := .non) (x_call rfl (by rw [there_ok (by omega) (by omega) (by omega) (by omega), e1]; rfl)) (w_last ?_)
    cases e2 : (decide (0 ≤ q) && decide (q < (c : Int))) with
    | false => exact w_exprX (β1 := β) (x_call rfl (by rw [there_ok (by omega) (by omega) (by omega) (by omega), e2]; rfl)) ⟨rfl, rfl⟩
    | true => exact w_expr (β1 := β) (d := .non) (x_call rfl (by rw [there_ok (by omega) (by omega) (by omega) (by omega), e2]; rfl)) (w_end ⟨rfl, rfl⟩)
theorem gw_eq {g : G} {δ : Ds} {o : Out} (h : Gw g δ β (fun o' β' => o' = o ∧ β' = β)) : g δ β = some (o, β) := by
  obtain ⟨o', β', e, rfl, rfl⟩ := h
  exact e
noncomputable def madeE (a : Ad) (k : Str) (xs ys : List Int) (p q : Int) : Option Addr := if sumsB xs ys = true then (if inB (.str k) KINDS = true then (if inB (.str k) PLACES = true then (if cellB p q xs.length ys.length = true then none else some a.C_BadCell) else none) else some a.C_BadRule) else some a.C_BadSums
theorem made_ok {k : Str} {xs ys : List Int} {p q : Int} (hk : k.length ≤ 100) (hx : Sm xs) (hy : Sm ys) (h0 : -1000 ≤ p) (h1 : p ≤ 1000) (h2 : -1000 ≤ q) (h3 : q ≤ 1000) : ∃ r, mi_Measure K a [.str k, iL xs, iL ys, pD (p, q)] β = some (r, β) ∧ (match madeE a k xs ys p q with | none => ∃ fs, r = .ok fs | some C => r = .error C) := by
  have lx := hx.1
  have ly := hy.1
  have e1 := csums_ok (K := K) (a := a) (β := β) hx hy
  have ec := cell_ok (K := K) (a := a) (β := β) (r := xs.length) (c := ys.length) h0 h1 h2 h3 (by omega) (by omega)
  unfold madeE
  have el : ∀ {n : Nat} {zs : List Int} {δ : Dn}, δ.getD n none = some (iL zs) → fArgs lenD (aCons (fVar n) aNil) δ β = some (.ok (.int (zs.length : Int)), β) := fun {n zs δ} e => x_args (x_cons (x_var e) rfl) (len_lst (by rw [List.length_map]))
  cases q1 : sumsB xs ys with
  | false =>
    rw [q1, if_neg Bool.false_ne_true] at e1
    refine ⟨_, initM_of fun x => ?_, rfl⟩
    refine ip_preX (δ := [some (.sh (.adr x)), some (.sh (.str k)), some (.sh (iL xs)), some (.sh (iL ys)), some (.sh (pD (p, q)))]) (δ1 := [some (.sh (.adr x)), some (.sh (.str k)), some (.sh (iL xs)), some (.sh (iL ys)), some (.sh (pD (p, q)))]) ?_
    unfold gExpr
    rw [x_call (x_cons rfl (x_cons rfl rfl)) e1]
  | true =>
  rw [q1, if_pos rfl] at e1
  obtain ⟨t, et⟩ : ∃ t : Nat, ∀ x : Addr, fCall (m_least_common K a) (aCons (fComp 2 [3] (nSeq (fVar 2)) (tgC 0) (fun _ => M.ret true) (cNx (nSeq (fVar 2)) (tgC 1) (fB (f2 (gtD) (f2 mulD (fVar 0) (fVar 1)) (fC (.int 0)))) (cEm (f2 mulD (fVar 0) (fVar 1))))) (aNil)) [some (.adr x), some (.str k), some (iL xs), some (iL ys), some (pD (p, q))] β = some (.ok (.int (t : Int)), β) := by
    obtain ⟨t, et⟩ := even_e (K := K) (a := a) (β := β) q1 (δ := [some (.adr 0), some (.str k), some (iL xs), some (iL ys), some (pD (p, q))]) rfl rfl
    refine ⟨t, fun x => ?_⟩
    exact et
  have p1 : ∀ x : Addr, gExpr (fCall (m_check_sums K a) (aCons (fVar 2) (aCons (fVar 3) (aNil)))) [some (.sh (.adr x)), some (.sh (.str k)), some (.sh (iL xs)), some (.sh (iL ys)), some (.sh (pD (p, q)))] β = some (.nx [some (.sh (.adr x)), some (.sh (.str k)), some (.sh (iL xs)), some (.sh (iL ys)), some (.sh (pD (p, q)))], β) := fun x => by
    unfold gExpr
    rw [x_call (x_cons rfl (x_cons rfl rfl)) e1]
  let δ0 : Addr → Ds := fun x => [some (.sh (.adr x)), some (.sh (.str k)), some (.sh (iL xs)), some (.sh (iL ys)), some (.sh (pD (p, q)))]
  have fin : ∀ x : Addr, ipFld (fVar 1) (ipFld (fArgs listD (aCons (fVar 2) (aNil))) (ipFld (fArgs listD (aCons (fVar 3) (aNil))) (ipFld (fVar 4) (ipFld (fCall (m_least_common K a) (aCons (fComp 2 [3] (nSeq (fVar 2)) (tgC 0) (fun _ => M.ret true) (cNx (nSeq (fVar 2)) (tgC 1) (fB (f2 (gtD) (f2 mulD (fVar 0) (fVar 1)) (fC (.int 0)))) (cEm (f2 mulD (fVar 0) (fVar 1))))) (aNil))) ipEnd)))) (δ0 x) [] β = some (.ok [.str k, iL xs, iL ys, pD (p, q), .int (t : Int)], β) := fun x =>
    ip_fld (d := .str k) (β1 := β) rfl (ip_fld (d := iL xs) (β1 := β) rfl (ip_fld (d := iL ys) (β1 := β) rfl (ip_fld (d := pD (p, q)) (β1 := β) rfl (ip_fld (d := .int (t : Int)) (β1 := β) (et x) rfl))))
  cases q2 : inB (.str k) KINDS with
  | false =>
    refine ⟨_, initM_of fun x => ip_pre (x := x) (p1 x) rfl rfl (ip_preX (Ce := a.C_BadRule) (δ1 := δ0 x) (gw_eq (w_last (w_ifT (β1 := β) (x_B (x_2 (z := .bl (!inB (.str k) KINDS)) rfl rfl rfl) |>.trans (by rw [q2]; rfl)) (w_raise (x_cons (x_fstr (x_jfs rfl hk rfl)) rfl) ⟨rfl, rfl⟩))))), rfl⟩
  | true =>
  have p2 : ∀ x : Addr, gIf (fB (f2 (inD true) (fVar 1) (fC (.tup [.str (Str.ofString "rare"), .str (Str.ofString "square"), .str (Str.ofString "power"), .str (Str.ofString "off"), .str (Str.ofString "most"), .str (Str.ofString "least")])))) (gRaise a.C_BadRule (aCons (fFstr (jfStr (fVar 1) (jfNil))) (aNil))) (gNil) (δ0 x) β = some (.nx (δ0 x), β) := fun x => gw_eq (w_last (w_ifF (β1 := β) (x_B (x_2 (z := .bl (!inB (.str k) KINDS)) rfl rfl rfl) |>.trans (by rw [q2]; rfl)) (w_nil (w_end ⟨rfl, rfl⟩))))
  cases q3 : inB (.str k) PLACES with
  | false =>
    refine ⟨_, initM_of fun x => ip_pre (x := x) (p1 x) rfl rfl (ip_pre (x := x) (p2 x) rfl rfl (ip_pre (x := x) (δ1 := δ0 x) (β1 := β) (gw_eq (w_last (w_ifF (β1 := β) (x_B (x_2 (z := .bl (inB (.str k) PLACES)) rfl rfl rfl) |>.trans (by rw [q3])) (w_nil (w_end ⟨rfl, rfl⟩))))) rfl rfl (fin x))), ⟨_, rfl⟩⟩
  | true =>
  have ecx : ∀ x : Addr, fCall (m_check_cell K a) (aCons (f2 ixD (fVar 4) (fC (.int 0))) (aCons (f2 ixD (fVar 4) (fC (.int 1))) (aCons (fArgs lenD (aCons (fVar 2) (aNil))) (aCons (fArgs lenD (aCons (fVar 3) (aNil))) (aNil))))) (vwA (δ0 x)) β = some (if cellB p q xs.length ys.length = true then .ok .non else .error a.C_BadCell, β) := fun x => x_call (x_cons (x_2 rfl rfl ixt0) (x_cons (x_2 rfl rfl ixt1) (x_cons (el rfl) (x_cons (el rfl) rfl)))) ec
  cases q4 : cellB p q xs.length ys.length with
  | false =>
    rw [q4] at ecx
    refine ⟨_, initM_of fun x => ip_pre (x := x) (p1 x) rfl rfl (ip_pre (x := x) (p2 x) rfl rfl (ip_preX (Ce := a.C_BadCell) (δ1 := δ0 x) (gw_eq (w_last (w_ifT (β1 := β) (x_B (x_2 (z := .bl (inB (.str k) PLACES)) rfl rfl rfl) |>.trans (by rw [q3])) (w_exprX (β1 := β) (ecx x) ⟨rfl, rfl⟩)))))), rfl⟩
  | true =>
    rw [q4] at ecx
    refine ⟨_, initM_of fun x => ip_pre (x := x) (p1 x) rfl rfl (ip_pre (x := x) (p2 x) rfl rfl (ip_pre (x := x) (δ1 := δ0 x) (β1 := β) (gw_eq (w_last (w_ifT (β1 := β) (x_B (x_2 (z := .bl (inB (.str k) PLACES)) rfl rfl rfl) |>.trans (by rw [q3])) (w_expr (β1 := β) (d := .non) (ecx x) (w_end ⟨rfl, rfl⟩))))) rfl rfl (fin x))), ⟨_, rfl⟩⟩
end
end Law
set_option maxHeartbeats 4000000
namespace Law
open PySem L2 L2.Pu
section
variable {K : PySem.W.Frag} {a : Ad}
theorem compL_bag {γ : Type} {nv : Nat} {caps : List Nat} {it : Dn → M (List D)} {tg : TgF} {f : Dn → M D} {δ : Dn} {β β0 : Bg} {ds : List D} (enc : γ → D) (P : γ → Prop) (h1 : it δ β = some (.ok ds, β0)) (ok : β0.ok)
    (h2 : ∀ d ∈ ds, ∀ β : Bg, β.ok → ∃ δ1 y β', tg d (cSt nv caps δ) = some δ1 ∧ f δ1 β = some (.ok (enc y), β') ∧ P y ∧ β'.ok) (h3 : ds.length ≤ sizeLine) :
    ∃ (ys : List γ) (β' : Bg), fCompL nv caps it tg (fun _ => M.ret true) (cEm f) δ β = some (.ok (ys.map enc), β') ∧ ys.length = ds.length ∧ (∀ y ∈ ys, P y) ∧ β'.ok := by
  have gen : ∀ (ds : List D) (β : Bg), β.ok → (∀ d ∈ ds, ∀ β : Bg, β.ok → ∃ δ1 y β', tg d (cSt nv caps δ) = some δ1 ∧ f δ1 β = some (.ok (enc y), β') ∧ P y ∧ β'.ok) → ∃ (ys : List γ) (β' : Bg), cLp tg (fun _ => M.ret true) (cEm f) ds (cSt nv caps δ) β = some (.ok (ys.map enc), β') ∧ ys.length = ds.length ∧ (∀ y ∈ ys, P y) ∧ β'.ok := by
    intro ds
    induction ds with
    | nil => intro β ok _; exact ⟨[], β, rfl, rfl, fun _ h => (by cases h), ok⟩
    | cons d ds ih =>
      intro β ok h
      obtain ⟨δ1, y, β1, e1, e2, hp, ok1⟩ := h d List.mem_cons_self β ok
      obtain ⟨ys, β2, e3, l, hp2, ok2⟩ := ih β1 ok1 fun x hx => h x (List.mem_cons_of_mem _ hx)
      refine ⟨y :: ys, β2, ?_, by simp [l], fun z hz => ?_, ok2⟩
      · rw [cLp]
        simp only [e1, M.bind, M.ret, reduceIte, cEm, e2, e3, List.map_cons, List.cons_append, List.nil_append]
      · rcases List.mem_cons.mp hz with rfl | hz
        · exact hp
        · exact hp2 z hz
  obtain ⟨ys, β', e, l, hp, ok'⟩ := gen ds β0 ok h2
  refine ⟨ys, β', ?_, l, hp, ok'⟩
  unfold fCompL
  simp only [h1, e, List.length_map, l, h3, if_true]
noncomputable def Bd (n : Nat) (m : Int) (xs : List Int) : Prop := xs.length ≤ n ∧ ∀ x ∈ xs, -m ≤ x ∧ x ≤ m
theorem Bd.sum {n : Nat} {m : Int} : ∀ {xs : List Int}, (∀ x ∈ xs, -m ≤ x ∧ x ≤ m) → -(m * (xs.length : Int)) ≤ xs.sum ∧ xs.sum ≤ m * (xs.length : Int)
  | [], _ => by simp
  | x :: xs, h => by
    have h1 := h x List.mem_cons_self
    have h2 := Bd.sum (n := n) (xs := xs) fun y hy => h y (List.mem_cons_of_mem _ hy)
    have e : m * (((x :: xs).length : Nat) : Int) = m * (xs.length : Int) + m := by
      rw [List.length_cons, Int.natCast_add, Int.mul_add]; simp
    rw [e, List.sum_cons]
    omega
theorem Bd.set {n : Nat} {m m' : Int} {xs : List Int} {i : Nat} {v : Int} (h : Bd n m xs) (hm : m ≤ m') (h0 : -m' ≤ v) (h1 : v ≤ m') : Bd n m' (xs.set i v) := ⟨by rw [List.length_set]; exact h.1, fun x hx => by
  rcases List.mem_or_eq_of_mem_set hx with hx | rfl
  · have := h.2 x hx; omega
  · exact ⟨h0, h1⟩⟩
theorem Bd.up {n : Nat} {m m' : Int} {xs : List Int} (h : Bd n m xs) (hm : m ≤ m') : Bd n m' xs := ⟨h.1, fun x hx => by have := h.2 x hx; omega⟩
theorem Bd.sm {n : Nat} {m : Int} {xs : List Int} (h : Bd n m xs) (hn : n ≤ 30) (hm : m ≤ 1000) : Sm xs := ⟨by have := h.1; omega, fun x hx => by have := h.2 x hx; omega⟩
noncomputable abbrev wS (xs ys : List Int) (w : Int) : Ds := [some (.sh .bag), some (.own (xs.map D.int)), some (.own (ys.map D.int)), some (.sh (.int w))]
theorem ixN_m1 {n : Nat} (h : 0 < n) : ixN n (-1) = some (n - 1) := by
  unfold ixN
  rw [if_neg (by omega)]
  first
    | (rw [if_pos (by omega)]; congr 1; omega)
    | (simp; omega)
theorem at_m1 {xs : List Int} (h : 0 < xs.length) : ∃ x ∈ xs, ixD (iL xs) (.int (-1)) = some (.int x) := by
  obtain ⟨x, hx⟩ := at_lt (l := xs) (i := xs.length - 1) (by omega)
  refine ⟨x, List.mem_of_getElem? hx, ?_⟩
  show atI (xs.map D.int) (-1) = _
  unfold atI
  rw [List.length_map, ixN_m1 h]
  show (xs.map D.int)[xs.length - 1]? = _
  rw [List.getElem?_map, hx]; rfl
theorem ix_nn {xs : List Int} {i : Nat} (h : i < xs.length) : ∃ x ∈ xs, ixD (iL xs) (.int (i : Int)) = some (.int x) := by
  obtain ⟨x, hx⟩ := at_lt (l := xs) (i := i) h
  exact ⟨x, List.mem_of_getElem? hx, ix_nat' (by rw [List.getElem?_map, hx]; rfl)⟩
noncomputable def WI (mx my w : Int) (δ : Ds) (β : Bg) : Prop := β.ok ∧ ∃ xs ys, δ = wS xs ys w ∧ Bd 5 mx xs ∧ Bd 7 my ys
theorem wild_ok {β : Bg} (ok : β.ok) : ∃ (xs ys : List Int) (β' : Bg), m_l_wild_sums K a [.bag] β = some (.ok (.tup [iL xs, iL ys]), β') ∧ Sm xs ∧ Sm ys ∧ β'.ok := by
  suffices h : ∃ g β', m_l_wild_sums K a [.bag] β = some (g, β') ∧ (∃ xs ys : List Int, g = .ok (.tup [iL xs, iL ys]) ∧ Sm xs ∧ Sm ys ∧ β'.ok) by
    obtain ⟨g, β', e, xs, ys, rfl, h1, h2, h3⟩ := h
    exact ⟨xs, ys, β', e, h1, h2, h3⟩
  refine body_w ?_
  unfold g_l_wild_sums
  have go : ∀ {β : Bg} (lot n : Int), β.ok → 0 < n → n < 100 → 0 < lot → lot < 100 → ∀ δ : Dn, δ.getD 0 none = some .bag → ∃ (xs : List Int) (β' : Bg), fCompL 1 [0] (nArgs rng1 (aCons (fCall mPull (aCons (fVar 0) (aCons (fC (.int n)) (aNil)))) (aNil))) (tgC 0) (fun _ => M.ret true) (cEm (fCall mPull (aCons (fVar 1) (aCons (fC (.int lot)) (aNil))))) δ β = some (.ok (xs.map D.int), β') ∧ (xs.length : Int) < n ∧ (∀ x ∈ xs, 0 ≤ x ∧ x < lot) ∧ β'.ok := by
    intro β lot n ok n0 n1 l0 l1 δ hδ
    obtain ⟨v, β1, p1, v0, v1, ok1⟩ := pull_ex ok (lot := n) n0 (by omega)
    have hcs : cSt 1 [0] δ = [none, some .bag] := by
      unfold cSt
      simp only [List.map_cons, List.map_nil, hδ]; rfl
    obtain ⟨xs, β2, e, l, hp, ok2⟩ := compL_bag (nv := 1) (caps := [0]) (it := nArgs rng1 (aCons (fCall mPull (aCons (fVar 0) (aCons (fC (.int n)) (aNil)))) (aNil))) (tg := tgC 0) (f := fCall mPull (aCons (fVar 1) (aCons (fC (.int lot)) (aNil)))) (δ := δ) (β := β) D.int (fun x => 0 ≤ x ∧ x < lot) (x_nargs (x_cons (x_call (x_cons (x_var hδ) (x_cons rfl rfl)) p1) rfl) (rg1 v0 (by omega))) ok1 (fun d _ β' ok' => by
      obtain ⟨y, β3, p3, y0, y1, ok3⟩ := pull_ex ok' (lot := lot) l0 (by omega)
      exact ⟨[some d, some .bag], y, β3, by rw [hcs]; rfl, x_call rfl p3, ⟨y0, y1⟩, ok3⟩) (line9 (by simp [rangeL]; omega))
    refine ⟨xs, β2, e, ?_, hp, ok2⟩
    rw [l]
    simp [rangeL]; omega
  obtain ⟨xs, β1, e1, lx, hx, ok1⟩ := go 6 6 ok (by decide) (by decide) (by decide) (by decide) [some .bag, none, none, none] rfl
  refine w_ownE (β1 := β1) e1 ?_
  obtain ⟨ys, β2, e2, ly, hy, ok2⟩ := go 5 8 ok1 (by decide) (by decide) (by decide) (by decide) [some .bag, none, none, none] rfl
  refine w_ownE (β1 := β2) e2 ?_
  obtain ⟨w, β3, p3, w0, w1, ok3⟩ := pull_ex ok2 (lot := 8) (by decide) (by decide)
  refine w_set (d := .int w) (β1 := β3) (x_call rfl p3) ?_
  have bx : Bd 5 5 xs := ⟨by omega, fun x h => by have := hx x h; omega⟩
  have by' : Bd 7 5 ys := ⟨by omega, fun x h => by have := hy x h; omega⟩
  clear hx hy lx ly e1 e2 go
  have el : ∀ {n : Nat} {zs : List Int} {δ : Dn} {β : Bg}, δ.getD n none = some (iL zs) → fArgs lenD (aCons (fVar n) aNil) δ β = some (.ok (.int (zs.length : Int)), β) := fun {n zs δ β} e => x_args (x_cons (x_var e) rfl) (len_lst (by rw [List.length_map]))
  have es : ∀ {n : Nat} {zs : List Int} {δ : Dn} {β : Bg}, δ.getD n none = some (iL zs) → fArgs sumAD (aCons (fVar n) aNil) δ β = some (.ok (.int zs.sum), β) := fun {n zs δ β} e => x_args (x_cons (x_var e) rfl) (sum_int zs)
  refine w_mid (WI 5 100 w) ?_ ?_
  · refine w_last (w_if (c := decide (0 < w) && decide (0 < (ys.length : Int))) (β1 := β3) (x_andP (x_B (x_2 rfl rfl gt_int)) (x_B (x_2 (el rfl) rfl gt_int))) ?_)
    by_cases q : 0 < w ∧ 0 < (ys.length : Int)
    · rw [if_pos (by simpa using q)]
      obtain ⟨y, hy, ey⟩ := at_m1 (xs := ys) (by omega)
      have sx := Bd.sum (n := 5) bx.2
      have sy := Bd.sum (n := 7) by'.2
      have hy' := by'.2 y hy
      have lx := bx.1
      have ly := by'.1
      refine w_itemF (d := .int (y + xs.sum - ys.sum)) (β1 := β3) (β2 := β3) (cs := ys.map D.int) (ka := -1) (ja := ys.length - 1) (x_2 (x_2 (x_2 rfl rfl ey) (es rfl) rfl) (es rfl) rfl) rfl rfl (by rw [List.length_map]; exact ixN_m1 (by omega)) ?_
      rw [← List.map_set (f := D.int)]
      exact w_endM ⟨ok3, xs, _, rfl, bx, by'.set (by decide) (by omega) (by omega)⟩
    · rw [if_neg (by simpa using q)]
      exact w_nil (w_endM ⟨ok3, xs, ys, rfl, bx, by'.up (by decide)⟩)
  clear bx by' ok3 p3
  rintro δ β4 ⟨ok4, xs, ys, rfl, bx, by'⟩
  refine w_mid (WI 100 900 w) ?_ ?_
  · refine w_last (w_if (c := decide (w = 1) && (decide (0 < (xs.length : Int)) && decide (0 < (ys.length : Int)))) (β1 := β4) (x_andP (x_B (x_2 rfl rfl eq_int)) (x_andP (x_B (x_2 (el rfl) rfl gt_int)) (x_B (x_2 (el rfl) rfl gt_int)))) ?_)
    by_cases q : w = 1 ∧ 0 < (xs.length : Int) ∧ 0 < (ys.length : Int)
    · rw [if_pos (by simpa using q)]
      obtain ⟨y, hy, ey⟩ := at_m1 (xs := ys) (by omega)
      obtain ⟨x, hx, ex⟩ := ix_nn (xs := xs) (i := 0) (by omega)
      have sx := Bd.sum (n := 5) bx.2
      have sy := Bd.sum (n := 7) by'.2
      have hy' := by'.2 y hy
      have hx' := bx.2 x hx
      have lx := bx.1
      have ly := by'.1
      refine w_assoc (w_itemF (d := .int (x + 41 - xs.sum)) (β1 := β4) (β2 := β4) (cs := xs.map D.int) (ka := 0) (ja := 0) (x_2 (x_2 (x_2 rfl rfl ex) rfl rfl) (es rfl) rfl) rfl rfl (by rw [List.length_map]; exact ixN_in (by decide) (by omega)) ?_)
      rw [← List.map_set (f := D.int)]
      refine w_itemF (d := .int (y + 41 - ys.sum)) (β1 := β4) (β2 := β4) (cs := ys.map D.int) (ka := -1) (ja := ys.length - 1) (x_2 (x_2 (x_2 rfl rfl ey) rfl rfl) (es rfl) rfl) rfl rfl (by rw [List.length_map]; exact ixN_m1 (by omega)) ?_
      rw [← List.map_set (f := D.int)]
      exact w_endM ⟨ok4, _, _, rfl, bx.set (by decide) (by omega) (by omega), by'.set (by decide) (by omega) (by omega)⟩
    · rw [if_neg (by simpa using q)]
      exact w_nil (w_endM ⟨ok4, xs, ys, rfl, bx.up (by decide), by'.up (by decide)⟩)
  clear bx by' ok4
  rintro δ β5 ⟨ok5, xs, ys, rfl, bx, by'⟩
  refine w_mid (WI 300 900 w) ?_ ?_
  · refine w_last (w_if (c := decide (w = 2) && decide (1 < (xs.length : Int))) (β1 := β5) (x_andP (x_B (x_2 rfl rfl eq_int)) (x_B (x_2 (el rfl) rfl gt_int))) ?_)
    by_cases q : w = 2 ∧ 1 < (xs.length : Int)
    · rw [if_pos (by simpa using q)]
      obtain ⟨x, hx, ex⟩ := ix_nn (xs := xs) (i := 0) (by omega)
      obtain ⟨y, hy, ey⟩ := ix_nn (xs := xs) (i := 1) (by omega)
      have hx' := bx.2 x hx
      have hy' := bx.2 y hy
      refine w_assoc (w_itemF (d := .int (x + y + 2)) (β1 := β5) (β2 := β5) (cs := xs.map D.int) (ka := 0) (ja := 0) (x_2 (x_2 (x_2 rfl rfl ex) (x_2 rfl rfl ey) rfl) rfl rfl) rfl rfl (by rw [List.length_map]; exact ixN_in (by decide) (by omega)) ?_)
      rw [← List.map_set (f := D.int)]
      refine w_item (d := .int (0 - 2)) (β1 := β5) (β2 := β5) (cs := (xs.set 0 (x + y + 2)).map D.int) (ka := 1) (ja := 1) rfl rfl rfl (by rw [List.length_map, List.length_set]; exact ixN_in (by decide) (by omega)) ?_
      rw [← List.map_set (f := D.int)]
      exact w_endM ⟨ok5, _, _, rfl, (bx.set (m' := 300) (by decide) (by omega) (by omega)).set (by decide) (by decide) (by decide), by'⟩
    · rw [if_neg (by simpa using q)]
      exact w_nil (w_endM ⟨ok5, xs, ys, rfl, bx.up (by decide), by'⟩)
  clear bx by' ok5
  rintro δ β6 ⟨ok6, xs, ys, rfl, bx, by'⟩
  exact w_last (w_ret (x_args rfl tup2) ⟨xs, ys, rfl, bx.sm (by decide) (by decide), by'.sm (by decide) (by decide), ok6⟩)
end
end Law
set_option maxHeartbeats 4000000
namespace Law
open PySem L2 L2.Pu
section
variable {K : PySem.W.Frag} {a : Ad}
theorem gd_sm {r c : Nat} {rows : List (List Int)} (t : Gd r c rows) (hr : r ≤ 30) : Sm (rows.map List.sum) := by
  have nn : ∀ x ∈ rows.map List.sum, 0 ≤ x := fun x hx => by
    obtain ⟨row, hr', rfl⟩ := List.mem_map.mp hx
    have h := t.nn row hr'
    clear hr' hx
    induction row with
    | nil => simp
    | cons y row ih =>
      have := ih fun z hz => h z (List.mem_cons_of_mem _ hz)
      have := h y List.mem_cons_self
      simp only [List.sum_cons]; omega
  refine ⟨by rw [List.length_map, t.shp.1]; exact hr, fun x hx => ?_⟩
  have h1 := nn x hx
  have h2 := le_sum nn x hx
  have h3 := t.tot
  unfold L2.Pu.tot at h3
  omega
theorem kind_ok {β : Bg} (ok : β.ok) : ∃ (k : Str) (β' : Bg), m_l_kind K a [.bag] β = some (.ok (.str k), β') ∧ k.length ≤ 100 ∧ β'.ok := by
  suffices h : ∃ g β', m_l_kind K a [.bag] β = some (g, β') ∧ (∃ k : Str, g = .ok (.str k) ∧ k.length ≤ 100 ∧ β'.ok) by
    obtain ⟨g, β', e, k, rfl, h1, h2⟩ := h
    exact ⟨k, β', e, h1, h2⟩
  refine body_w ?_
  unfold g_l_kind
  obtain ⟨v, β1, p1, v0, v1, ok1⟩ := pull_ex ok (lot := 6) (by decide) (by decide)
  have hu : ∃ k : Str, ixD (.lst [.str (Str.ofString "rare"), .str (Str.ofString "square"), .str (Str.ofString "power"), .str (Str.ofString "off"), .str (Str.ofString "most"), .str (Str.ofString "least")]) (.int v) = some (.str k) ∧ k.length ≤ 100 := by
    obtain rfl | rfl | rfl | rfl | rfl | rfl : v = 0 ∨ v = 1 ∨ v = 2 ∨ v = 3 ∨ v = 4 ∨ v = 5 := by omega
    all_goals exact ⟨_, rfl, by decide⟩
  obtain ⟨k, hk, lk⟩ := hu
  exact w_last (w_ret (x_2 (x_args rfl rfl) (x_call rfl p1) hk) ⟨k, rfl, lk, ok1⟩)
noncomputable def dueW (k : Str) (xs ys : List Int) (p q : Int) : Str := if sumsB xs ys = true then (if inB (.str k) KINDS = true then (if inB (.str k) PLACES = true then (if cellB p q xs.length ys.length = true then Str.ofString "made" else Str.ofString "cell") else Str.ofString "made") else Str.ofString "rule") else Str.ofString "sums"
theorem eq_str (s : Str) : eqAD (.str s) (.str s) = some (.bl true) := by
  unfold eqAD eqS
  simp only [decide_true]
theorem min_pr {p q : Int} : minSD [pD (p, q)] = some (.int (lowI [p, q])) := rfl
theorem low_pr {p q : Int} : lowI [p, q] = min p q := by
  show min (min p p) q = _
  omega
noncomputable abbrev l30 (d2 : D) (xs ys : List Int) (s4 s5 s6 s7 : Option Sl) : Ds := [none, some (.sh .bag), some (.sh d2), some (.sh (.tup [iL xs, iL ys])), s4, s5, s6, s7]
theorem law_true (hSS : PySem.W.exmOne K (.ref a.C_BadSums) (.ref a.C_BadSums) = some true) (hRS : PySem.W.exmOne K (.ref a.C_BadRule) (.ref a.C_BadSums) = some false) (hRR : PySem.W.exmOne K (.ref a.C_BadRule) (.ref a.C_BadRule) = some true) (hCS : PySem.W.exmOne K (.ref a.C_BadCell) (.ref a.C_BadSums) = some false) (hCR : PySem.W.exmOne K (.ref a.C_BadCell) (.ref a.C_BadRule) = some false) (hCC : PySem.W.exmOne K (.ref a.C_BadCell) (.ref a.C_BadCell) = some true) (β : Bg) (ok : β.ok) :
    ∃ β', g_law K a [none, some (.sh .bag), none, none, none, none, none, none] β = some (.rt (.bl true), β') := by
  suffices h : Gw (g_law K a) [none, some (.sh .bag), none, none, none, none, none, none] β (fun o _ => o = .rt (.bl true)) by
    obtain ⟨o, β', e, rfl⟩ := h
    exact ⟨β', e⟩
  unfold g_law
  obtain ⟨rows, r, c, β1, e1, t, ok1⟩ := anyM_ok (K := K) (a := a) ok
  have r0 := t.r0
  have r1 := t.r1
  have c0 := t.c0
  have c1 := t.c1
  refine w_set (d := gridD rows) (β1 := β1) (x_call rfl e1) ?_
  refine w_set (d := .tup [iL (rows.map List.sum), iL ((tp c rows).map List.sum)]) (β1 := β1) (x_args (x_cons (x_call rfl (rowsums_ok (by rw [t.shp.1]; omega))) (x_cons (x_call rfl (columnsums_ok t.shp (by omega) (by omega) (by omega))) rfl)) tup2) ?_
  refine w_mid (fun δ β => β.ok ∧ ∃ xs ys, δ = l30 (gridD rows) xs ys none none none none ∧ Sm xs ∧ Sm ys) ?_ ?_
  · obtain ⟨v, β2, p2, v0, v1, ok2⟩ := pull_ex ok1 (lot := 4) (by decide) (by decide)
    refine w_last (w_if (c := decide (v = 0)) (β1 := β2) (x_B (x_2 (x_call rfl p2) rfl eq_int)) ?_)
    by_cases q : v = 0
    · rw [if_pos (by simpa using q)]
      obtain ⟨xs, ys, β3, e3, hx, hy, ok3⟩ := wild_ok (K := K) (a := a) ok2
      exact w_set (β1 := β3) (x_call rfl e3) (w_endM ⟨ok3, xs, ys, rfl, hx, hy⟩)
    · rw [if_neg (by simpa using q)]
      exact w_nil (w_endM ⟨ok2, _, _, rfl, gd_sm t.gd (by omega), gd_sm t.gd.tp (by omega)⟩)
  rintro δ β2 ⟨ok2, xs, ys, rfl, hx, hy⟩
  obtain ⟨k0, β3, e3, lk0, ok3⟩ := kind_ok (K := K) (a := a) ok2
  refine w_set (d := .str k0) (β1 := β3) (x_call rfl e3) ?_
  refine w_mid (fun δ β => β.ok ∧ ∃ k : Str, k.length ≤ 100 ∧ δ = l30 (gridD rows) xs ys (some (.sh (.str k))) none none none) ?_ ?_
  · obtain ⟨v, β4, p4, v0, v1, ok4⟩ := pull_ex ok3 (lot := 4) (by decide) (by decide)
    refine w_last (w_if (c := decide (v = 0)) (β1 := β4) (x_B (x_2 (x_call rfl p4) rfl eq_int)) ?_)
    by_cases q : v = 0
    · rw [if_pos (by simpa using q)]
      obtain ⟨u, β5, p5, u0, u1, ok5⟩ := pull_ex ok4 (lot := 7) (by decide) (by decide)
      have hu : ∃ k : Str, ixD (.lst [.str (Str.ofString ""), .str (Str.ofString "Rare"), .str (Str.ofString "rare "), .str (Str.ofString "mean"), .str (Str.ofString "mos"), .str (Str.ofString "leastmost"), .str (Str.ofString "beyond")]) (.int u) = some (.str k) ∧ k.length ≤ 100 := by
        obtain rfl | rfl | rfl | rfl | rfl | rfl | rfl : u = 0 ∨ u = 1 ∨ u = 2 ∨ u = 3 ∨ u = 4 ∨ u = 5 ∨ u = 6 := by omega
        all_goals exact ⟨_, rfl, by decide⟩
      obtain ⟨k, hk, lk⟩ := hu
      exact w_set (β1 := β5) (x_2 (x_args rfl rfl) (x_call rfl p5) hk) (w_endM ⟨ok5, k, lk, rfl⟩)
    · rw [if_neg (by simpa using q)]
      exact w_nil (w_endM ⟨ok4, k0, lk0, rfl⟩)
  rintro δ β4 ⟨ok4, k, lk, rfl⟩
  have el : ∀ {n : Nat} {i : Int} {zs : List Int} {δ : Dn} {β : Bg}, f2 ixD (fVar n) (fC (.int i)) δ β = some (.ok (iL zs), β) → fArgs lenD (aCons (f2 ixD (fVar n) (fC (.int i))) aNil) δ β = some (.ok (.int (zs.length : Int)), β) := fun {n i zs δ β} e => x_args (x_cons e rfl) (len_lst (by rw [List.length_map]))
  have s0 : ∀ {δ : Dn} {β : Bg}, δ.getD 3 none = some (.tup [iL xs, iL ys]) → f2 ixD (fVar 3) (fC (.int 0)) δ β = some (.ok (iL xs), β) := fun {δ β} e => x_2 (x_var e) rfl ixt0
  have s1 : ∀ {δ : Dn} {β : Bg}, δ.getD 3 none = some (.tup [iL xs, iL ys]) → f2 ixD (fVar 3) (fC (.int 1)) δ β = some (.ok (iL ys), β) := fun {δ β} e => x_2 (x_var e) rfl ixt1
  have lx := hx.1
  have ly := hy.1
  obtain ⟨i, β5, p5, i0, i1, ok5⟩ := pull_ex ok4 (lot := (xs.length : Int) + 2) (by omega) (by omega)
  obtain ⟨j, β6, p6, j0, j1, ok6⟩ := pull_ex ok5 (lot := (ys.length : Int) + 2) (by omega) (by omega)
  refine w_set (d := pD (i - 1, j - 1)) (β1 := β6) (x_args (x_cons (x_2 (x_call (x_cons rfl (x_cons (x_2 (el (s0 rfl)) rfl rfl) rfl)) p5) rfl rfl) (x_cons (x_2 (x_call (x_cons rfl (x_cons (x_2 (el (s1 rfl)) rfl rfl) rfl)) p6) rfl rfl) rfl)) tup2) ?_
  obtain ⟨p, hp⟩ : ∃ p, p = i - 1 := ⟨_, rfl⟩
  obtain ⟨q, hq⟩ : ∃ q, q = j - 1 := ⟨_, rfl⟩
  rw [← hp, ← hq]
  refine w_set (d := .str (Str.ofString "made")) (β1 := β6) rfl ?_
  refine w_mid (fun δ β => β6 = β ∧ δ = l30 (gridD rows) xs ys (some (.sh (.str k))) (some (.sh (pD (p, q)))) (some (.sh (.str (dueW k xs ys p q)))) none) ?_ ?_
  · unfold dueW
    refine w_last (w_if (c := !(sumsB xs ys)) (β1 := β6) (x_not (x_tru (x_call (x_cons (s0 rfl) (x_cons (s1 rfl) rfl)) good_ok) rfl)) ?_)
    cases q1 : sumsB xs ys with
    | false =>
      rw [Bool.not_false, if_pos rfl, if_neg Bool.false_ne_true]
      exact w_set (d := .str (Str.ofString "sums")) (β1 := β6) rfl (w_endM ⟨rfl, rfl⟩)
    | true =>
    rw [Bool.not_true, if_neg Bool.false_ne_true, if_pos rfl]
    refine w_if (c := !inB (.str k) KINDS) (β1 := β6) (x_B (x_2 (z := .bl (!inB (.str k) KINDS)) rfl (x_args rfl rfl) rfl)) ?_
    cases q2 : inB (.str k) KINDS with
    | false =>
      rw [Bool.not_false, if_pos rfl, if_neg Bool.false_ne_true]
      exact w_set (d := .str (Str.ofString "rule")) (β1 := β6) rfl (w_endM ⟨rfl, rfl⟩)
    | true =>
    rw [Bool.not_true, if_neg Bool.false_ne_true, if_pos rfl]
    refine w_if (c := inB (.str k) PLACES) (β1 := β6) (x_B (x_2 (z := .bl (inB (.str k) PLACES)) rfl (x_args rfl tup2) rfl)) ?_
    cases q3 : inB (.str k) PLACES with
    | false =>
      rw [if_neg Bool.false_ne_true, if_neg Bool.false_ne_true]
      exact w_nil (w_endM ⟨rfl, rfl⟩)
    | true =>
    rw [if_pos rfl, if_pos rfl]
    refine w_if (c := decide (lowI [p, q] < 0) || (decide ((xs.length : Int) ≤ p) || decide ((ys.length : Int) ≤ q))) (β1 := β6) (x_orP (x_B (x_2 (x_args rfl min_pr) rfl lt_int)) (x_orP (x_B (x_2 (x_2 rfl rfl ixt0) (el (s0 rfl)) ge_int)) (x_B (x_2 (x_2 rfl rfl ixt1) (el (s1 rfl)) ge_int)))) ?_
    have e : (decide (lowI [p, q] < 0) || (decide ((xs.length : Int) ≤ p) || decide ((ys.length : Int) ≤ q))) = !(cellB p q xs.length ys.length) := by
      rw [low_pr]
      unfold cellB
      rw [Bool.eq_iff_iff]
      simp only [Bool.or_eq_true, decide_eq_true_eq, Bool.not_eq_true', Bool.and_eq_false_iff, decide_eq_false_iff_not]
      omega
    rw [e]
    cases q4 : cellB p q xs.length ys.length with
    | false =>
      rw [Bool.not_false, if_pos rfl, if_neg Bool.false_ne_true]
      exact w_set (d := .str (Str.ofString "cell")) (β1 := β6) rfl (w_endM ⟨rfl, rfl⟩)
    | true =>
      rw [Bool.not_true, if_neg Bool.false_ne_true, if_pos rfl]
      exact w_nil (w_endM ⟨rfl, rfl⟩)
  rintro δ _ ⟨rfl, rfl⟩
  refine w_set (d := .str (Str.ofString "made")) (β1 := β6) rfl ?_
  refine w_mid (fun δ _ => δ = l30 (gridD rows) xs ys (some (.sh (.str k))) (some (.sh (pD (p, q)))) (some (.sh (.str (dueW k xs ys p q)))) (some (.sh (.str (dueW k xs ys p q))))) ?_ ?_
  · refine w_last (w_try (w_last ?_))
    obtain ⟨res, em, hm⟩ := made_ok (K := K) (a := a) (β := β6) (p := p) (q := q) lk hx hy (by omega) (by omega) (by omega) (by omega)
    have ea : ∀ {δ : Dn}, δ.getD 3 none = some (.tup [iL xs, iL ys]) → δ.getD 4 none = some (.str k) → aCons (fVar 4) (aCons (fArgs listD (aCons (f2 ixD (fVar 3) (fC (.int 0))) (aNil))) (aCons (fArgs listD (aCons (f2 ixD (fVar 3) (fC (.int 1))) (aNil))) (aNil))) δ β6 = some (.ok [.str k, iL xs, iL ys], β6) := fun {δ} h3 h4 => x_cons (x_var h4) (x_cons (x_args (x_cons (s0 h3) rfl) rfl) (x_cons (x_args (x_cons (s1 h3) rfl) rfl) rfl))
    have bad : ∀ {C : Addr} {δ : Dn}, res = .error C → δ.getD 3 none = some (.tup [iL xs, iL ys]) → δ.getD 4 none = some (.str k) → δ.getD 5 none = some (pD (p, q)) → fMakeK a.C_Measure ["kind", "row_list", "column_list", "place", "even"] (mi_Measure K a) (aCons (fVar 4) (aCons (fArgs listD (aCons (f2 ixD (fVar 3) (fC (.int 0))) (aNil))) (aCons (fArgs listD (aCons (f2 ixD (fVar 3) (fC (.int 1))) (aNil))) (aNil)))) (aCons (fVar 5) (aNil)) [.kw 0] δ β6 = some (.error C, β6) := fun {C δ} hr h3 h4 h5 => by
      unfold fMakeK
      rw [M.bind_ok (ea h3 h4), M.bind_ok (x_cons (x_var h5) rfl)]
      rw [hr] at em
      exact M.bind_err em
    revert hm
    unfold madeE dueW
    cases q1 : sumsB xs ys with
    | false =>
      intro hm
      exact w_exprX (β1 := β6) (bad hm rfl rfl rfl) (w_hT hSS (w_set (d := .str (Str.ofString "sums")) rfl (w_endM rfl)))
    | true =>
    cases q2 : inB (.str k) KINDS with
    | false =>
      intro hm
      exact w_exprX (β1 := β6) (bad hm rfl rfl rfl) (w_hF hRS (w_hT hRR (w_set (d := .str (Str.ofString "rule")) rfl (w_endM rfl))))
    | true =>
    have good : (∃ fs, res = .ok fs) → ∀ {δ : Dn}, δ.getD 3 none = some (.tup [iL xs, iL ys]) → δ.getD 4 none = some (.str k) → δ.getD 5 none = some (pD (p, q)) → ∃ d, fMakeK a.C_Measure ["kind", "row_list", "column_list", "place", "even"] (mi_Measure K a) (aCons (fVar 4) (aCons (fArgs listD (aCons (f2 ixD (fVar 3) (fC (.int 0))) (aNil))) (aCons (fArgs listD (aCons (f2 ixD (fVar 3) (fC (.int 1))) (aNil))) (aNil)))) (aCons (fVar 5) (aNil)) [.kw 0] δ β6 = some (.ok d, β6) := fun ⟨fs, hr⟩ {δ} h3 h4 h5 => by
      refine ⟨.obj a.C_Measure ["kind", "row_list", "column_list", "place", "even"] fs, ?_⟩
      unfold fMakeK
      rw [M.bind_ok (ea h3 h4), M.bind_ok (x_cons (x_var h5) rfl)]
      rw [hr] at em
      exact M.bind_ok em
    cases q3 : inB (.str k) PLACES with
    | false =>
      intro hm
      obtain ⟨d, ed⟩ := good hm (δ := vwA (l30 (gridD rows) xs ys (some (.sh (.str k))) (some (.sh (pD (p, q)))) (some (.sh (.str (Str.ofString "made")))) (some (.sh (.str (Str.ofString "made")))))) rfl rfl rfl
      exact w_expr (β1 := β6) (d := d) ed (w_end (w_endM rfl))
    | true =>
    cases q4 : cellB p q xs.length ys.length with
    | false =>
      intro hm
      exact w_exprX (β1 := β6) (bad hm rfl rfl rfl) (w_hF hCS (w_hF hCR (w_hT hCC (w_set (d := .str (Str.ofString "cell")) rfl (w_endM rfl)))))
    | true =>
      intro hm
      obtain ⟨d, ed⟩ := good hm (δ := vwA (l30 (gridD rows) xs ys (some (.sh (.str k))) (some (.sh (pD (p, q)))) (some (.sh (.str (Str.ofString "made")))) (some (.sh (.str (Str.ofString "made")))))) rfl rfl rfl
      exact w_expr (β1 := β6) (d := d) ed (w_end (w_endM rfl))
  rintro δ β7 rfl
  exact w_last (w_ret (x_2 rfl rfl (eq_str _)) rfl)
end
end Law
namespace Law
open PySem L2 L2.Pu
theorem all_mk {l : PySem.W.OpenLaw} {w : World} {K : PySem.W.Frag} {h : Heap} {mg : Str → Option Value} {fa : Addr} {C_EdgeError C_BadSums C_BadRule C_BadCell C_BadNumber C_Measure NB_BadSums NB_BadRule NB_BadCell NB_BadNumber f_check_sums f_check_there f_check_cell f_common_factor f_least_common f_l_bag f_l_pull f_l_turned f_l_rowsums f_l_columnsums f_l_kind f_l_any f_l_good_sums f_l_wild_sums f_Measure___init__ f_law f_XEdgeError f_XBadSums f_XBadRule f_XBadCell f_XBadNumber : Addr}
    {od_check_sums an_check_sums od_check_there an_check_there od_check_cell an_check_cell od_common_factor an_common_factor od_least_common an_least_common od_l_bag an_l_bag od_l_pull an_l_pull od_l_turned an_l_turned od_l_rowsums an_l_rowsums od_l_columnsums an_l_columnsums od_l_kind an_l_kind od_l_any an_l_any od_l_good_sums an_l_good_sums od_l_wild_sums an_l_wild_sums od_Measure___init__ an_Measure___init__ od_law an_law od_XEdgeError an_XEdgeError od_XBadSums an_XBadSums od_XBadRule an_XBadRule od_XBadCell an_XBadCell od_XBadNumber an_XBadNumber : Option Addr} {sl_check_sums sl_check_there sl_check_cell sl_common_factor sl_least_common sl_l_bag sl_l_pull sl_l_turned sl_l_rowsums sl_l_columnsums sl_l_kind sl_l_any sl_l_good_sums sl_l_wild_sums sl_Measure___init__ sl_law sl_XEdgeError sl_XBadSums sl_XBadRule sl_XBadCell sl_XBadNumber : Array (Option Value)} {oc_check_sums kV_check_sums dc_check_sums pm_check_sums cd_check_sums ct_check_sums oc_check_there kV_check_there dc_check_there pm_check_there cd_check_there ct_check_there oc_check_cell kV_check_cell dc_check_cell pm_check_cell cd_check_cell ct_check_cell oc_common_factor kV_common_factor dc_common_factor pm_common_factor cd_common_factor ct_common_factor oc_least_common kV_least_common dc_least_common pm_least_common cd_least_common ct_least_common oc_l_bag kV_l_bag dc_l_bag pm_l_bag cd_l_bag ct_l_bag oc_l_pull kV_l_pull dc_l_pull pm_l_pull cd_l_pull ct_l_pull oc_l_turned kV_l_turned dc_l_turned pm_l_turned cd_l_turned ct_l_turned oc_l_rowsums kV_l_rowsums dc_l_rowsums pm_l_rowsums cd_l_rowsums ct_l_rowsums oc_l_columnsums kV_l_columnsums dc_l_columnsums pm_l_columnsums cd_l_columnsums ct_l_columnsums oc_l_kind kV_l_kind dc_l_kind pm_l_kind cd_l_kind ct_l_kind oc_l_any kV_l_any dc_l_any pm_l_any cd_l_any ct_l_any oc_l_good_sums kV_l_good_sums dc_l_good_sums pm_l_good_sums cd_l_good_sums ct_l_good_sums oc_l_wild_sums kV_l_wild_sums dc_l_wild_sums pm_l_wild_sums cd_l_wild_sums ct_l_wild_sums oc_Measure___init__ kV_Measure___init__ dc_Measure___init__ pm_Measure___init__ cd_Measure___init__ ct_Measure___init__ oc_law kV_law dc_law pm_law cd_law ct_law oc_XEdgeError kV_XEdgeError dc_XEdgeError pm_XEdgeError cd_XEdgeError ct_XEdgeError oc_XBadSums kV_XBadSums dc_XBadSums pm_XBadSums cd_XBadSums ct_XBadSums oc_XBadRule kV_XBadRule dc_XBadRule pm_XBadRule cd_XBadRule ct_XBadRule oc_XBadCell kV_XBadCell dc_XBadCell pm_XBadCell cd_XBadCell ct_XBadCell oc_XBadNumber kV_XBadNumber dc_XBadNumber pm_XBadNumber cd_XBadNumber ct_XBadNumber : Value}
    {nm_BadSums q_BadSums : Str} {bs_BadSums bm_BadSums : List Value} {hd_BadSums : Bool} {sn_BadSums : List Str} {sb_BadSums : List Value} {ab_BadSums : Bool} {co_BadSums : Option Bool} {dd_BadSums : Option Addr} {k0_BadSums k1_BadSums k2_BadSums k3_BadSums k5_BadSums : Option Value} {cc_BadSums : ClassData} {nm_BadRule q_BadRule : Str} {bs_BadRule bm_BadRule : List Value} {hd_BadRule : Bool} {sn_BadRule : List Str} {sb_BadRule : List Value} {ab_BadRule : Bool} {co_BadRule : Option Bool} {dd_BadRule : Option Addr} {k0_BadRule k1_BadRule k2_BadRule k3_BadRule k5_BadRule : Option Value} {cc_BadRule : ClassData} {nm_BadCell q_BadCell : Str} {bs_BadCell bm_BadCell : List Value} {hd_BadCell : Bool} {sn_BadCell : List Str} {sb_BadCell : List Value} {ab_BadCell : Bool} {co_BadCell : Option Bool} {dd_BadCell : Option Addr} {k0_BadCell k1_BadCell k2_BadCell k3_BadCell k5_BadCell : Option Value} {cc_BadCell : ClassData} {nm_BadNumber q_BadNumber : Str} {bs_BadNumber bm_BadNumber : List Value} {hd_BadNumber : Bool} {sn_BadNumber : List Str} {sb_BadNumber : List Value} {ab_BadNumber : Bool} {co_BadNumber : Option Bool} {dd_BadNumber : Option Addr} {k0_BadNumber k1_BadNumber k2_BadNumber k3_BadNumber k5_BadNumber : Option Value} {cc_BadNumber : ClassData} {T_BadSums : Addr} {tc_BadSums tv_BadSums : Value} {td_BadSums : Option Addr} {tn_BadSums : Nat} {ts_BadSums : Array (Option Value)} {T_BadRule : Addr} {tc_BadRule tv_BadRule : Value} {td_BadRule : Option Addr} {tn_BadRule : Nat} {ts_BadRule : Array (Option Value)} {T_BadCell : Addr} {tc_BadCell tv_BadCell : Value} {td_BadCell : Option Addr} {tn_BadCell : Nat} {ts_BadCell : Array (Option Value)} {T_BadNumber : Addr} {tc_BadNumber tv_BadNumber : Value} {td_BadNumber : Option Addr} {tn_BadNumber : Nat} {ts_BadNumber : Array (Option Value)} {p_BY_PLACE : Addr} {q1_BY_PLACE : Value} {q2_BY_PLACE : Option Addr} {q3_BY_PLACE : Array Value} {q4_BY_PLACE : Nat} {q5_BY_PLACE : Array (Option Value)} {p_KINDS : Addr} {q1_KINDS : Value} {q2_KINDS : Option Addr} {q3_KINDS : Array Value} {q4_KINDS : Nat} {q5_KINDS : Array (Option Value)} {tk_MOST : Tok} {tk_MOST_COLUMNS : Tok} {tk_MOST_ROWS : Tok} (X : K.In h) (G : h.Ns mainGlobals mg) (hfa : mg "law" = some (.ref fa))
    (aC_EdgeError : PySem.W.nsIn K mainGlobals "EdgeError" = some (some (.ref C_EdgeError)))
    (aC_BadSums : PySem.W.nsIn K mainGlobals "BadSums" = some (some (.ref C_BadSums)))
    (aC_BadRule : PySem.W.nsIn K mainGlobals "BadRule" = some (some (.ref C_BadRule)))
    (aC_BadCell : PySem.W.nsIn K mainGlobals "BadCell" = some (some (.ref C_BadCell)))
    (aC_BadNumber : PySem.W.nsIn K mainGlobals "BadNumber" = some (some (.ref C_BadNumber)))
    (aC_Measure : PySem.W.nsIn K mainGlobals "Measure" = some (some (.ref C_Measure)))
    (a_check_sums : PySem.W.nsIn K mainGlobals "check_sums" = some (some (.ref f_check_sums)))
    (o_check_sums : K.lookup f_check_sums = some ⟨oc_check_sums, od_check_sums, .func (PySem.W.fnOf "check_sums" "check_sums" (defArgs s_check_sums) (defBody s_check_sums) (defScope s_check_sums) .none kV_check_sums dc_check_sums pm_check_sums an_check_sums cd_check_sums ct_check_sums), sl_check_sums⟩)
    (c_check_sums : PySem.W.codeIn K cd_check_sums "check_sums" = true)
    (k_check_sums : PySem.W.keepIn K (.ref f_check_sums) = true)
    (a_check_there : PySem.W.nsIn K mainGlobals "check_there" = some (some (.ref f_check_there)))
    (o_check_there : K.lookup f_check_there = some ⟨oc_check_there, od_check_there, .func (PySem.W.fnOf "check_there" "check_there" (defArgs s_check_there) (defBody s_check_there) (defScope s_check_there) .none kV_check_there dc_check_there pm_check_there an_check_there cd_check_there ct_check_there), sl_check_there⟩)
    (c_check_there : PySem.W.codeIn K cd_check_there "check_there" = true)
    (k_check_there : PySem.W.keepIn K (.ref f_check_there) = true)
    (a_check_cell : PySem.W.nsIn K mainGlobals "check_cell" = some (some (.ref f_check_cell)))
    (o_check_cell : K.lookup f_check_cell = some ⟨oc_check_cell, od_check_cell, .func (PySem.W.fnOf "check_cell" "check_cell" (defArgs s_check_cell) (defBody s_check_cell) (defScope s_check_cell) .none kV_check_cell dc_check_cell pm_check_cell an_check_cell cd_check_cell ct_check_cell), sl_check_cell⟩)
    (c_check_cell : PySem.W.codeIn K cd_check_cell "check_cell" = true)
    (k_check_cell : PySem.W.keepIn K (.ref f_check_cell) = true)
    (a_common_factor : PySem.W.nsIn K mainGlobals "common_factor" = some (some (.ref f_common_factor)))
    (o_common_factor : K.lookup f_common_factor = some ⟨oc_common_factor, od_common_factor, .func (PySem.W.fnOf "common_factor" "common_factor" (defArgs s_common_factor) (defBody s_common_factor) (defScope s_common_factor) .none kV_common_factor dc_common_factor pm_common_factor an_common_factor cd_common_factor ct_common_factor), sl_common_factor⟩)
    (c_common_factor : PySem.W.codeIn K cd_common_factor "common_factor" = true)
    (k_common_factor : PySem.W.keepIn K (.ref f_common_factor) = true)
    (a_least_common : PySem.W.nsIn K mainGlobals "least_common" = some (some (.ref f_least_common)))
    (o_least_common : K.lookup f_least_common = some ⟨oc_least_common, od_least_common, .func (PySem.W.fnOf "least_common" "least_common" (defArgs s_least_common) (defBody s_least_common) (defScope s_least_common) .none kV_least_common dc_least_common pm_least_common an_least_common cd_least_common ct_least_common), sl_least_common⟩)
    (c_least_common : PySem.W.codeIn K cd_least_common "least_common" = true)
    (k_least_common : PySem.W.keepIn K (.ref f_least_common) = true)
    (a_l_bag : PySem.W.nsIn K mainGlobals "_law_bag" = some (some (.ref f_l_bag)))
    (o_l_bag : K.lookup f_l_bag = some ⟨oc_l_bag, od_l_bag, .func (PySem.W.fnOf "_law_bag" "_law_bag" (defArgs s_l_bag) (defBody s_l_bag) (defScope s_l_bag) .none kV_l_bag dc_l_bag pm_l_bag an_l_bag cd_l_bag ct_l_bag), sl_l_bag⟩)
    (c_l_bag : PySem.W.codeIn K cd_l_bag "_law_bag" = true)
    (k_l_bag : PySem.W.keepIn K (.ref f_l_bag) = true)
    (a_l_pull : PySem.W.nsIn K mainGlobals "_law_pull" = some (some (.ref f_l_pull)))
    (o_l_pull : K.lookup f_l_pull = some ⟨oc_l_pull, od_l_pull, .func (PySem.W.fnOf "_law_pull" "_law_pull" (defArgs s_l_pull) (defBody s_l_pull) (defScope s_l_pull) .none kV_l_pull dc_l_pull pm_l_pull an_l_pull cd_l_pull ct_l_pull), sl_l_pull⟩)
    (c_l_pull : PySem.W.codeIn K cd_l_pull "_law_pull" = true)
    (k_l_pull : PySem.W.keepIn K (.ref f_l_pull) = true)
    (a_l_turned : PySem.W.nsIn K mainGlobals "_law_turned" = some (some (.ref f_l_turned)))
    (o_l_turned : K.lookup f_l_turned = some ⟨oc_l_turned, od_l_turned, .func (PySem.W.fnOf "_law_turned" "_law_turned" (defArgs s_l_turned) (defBody s_l_turned) (defScope s_l_turned) .none kV_l_turned dc_l_turned pm_l_turned an_l_turned cd_l_turned ct_l_turned), sl_l_turned⟩)
    (c_l_turned : PySem.W.codeIn K cd_l_turned "_law_turned" = true)
    (k_l_turned : PySem.W.keepIn K (.ref f_l_turned) = true)
    (a_l_rowsums : PySem.W.nsIn K mainGlobals "_law_rowsums" = some (some (.ref f_l_rowsums)))
    (o_l_rowsums : K.lookup f_l_rowsums = some ⟨oc_l_rowsums, od_l_rowsums, .func (PySem.W.fnOf "_law_rowsums" "_law_rowsums" (defArgs s_l_rowsums) (defBody s_l_rowsums) (defScope s_l_rowsums) .none kV_l_rowsums dc_l_rowsums pm_l_rowsums an_l_rowsums cd_l_rowsums ct_l_rowsums), sl_l_rowsums⟩)
    (c_l_rowsums : PySem.W.codeIn K cd_l_rowsums "_law_rowsums" = true)
    (k_l_rowsums : PySem.W.keepIn K (.ref f_l_rowsums) = true)
    (a_l_columnsums : PySem.W.nsIn K mainGlobals "_law_columnsums" = some (some (.ref f_l_columnsums)))
    (o_l_columnsums : K.lookup f_l_columnsums = some ⟨oc_l_columnsums, od_l_columnsums, .func (PySem.W.fnOf "_law_columnsums" "_law_columnsums" (defArgs s_l_columnsums) (defBody s_l_columnsums) (defScope s_l_columnsums) .none kV_l_columnsums dc_l_columnsums pm_l_columnsums an_l_columnsums cd_l_columnsums ct_l_columnsums), sl_l_columnsums⟩)
    (c_l_columnsums : PySem.W.codeIn K cd_l_columnsums "_law_columnsums" = true)
    (k_l_columnsums : PySem.W.keepIn K (.ref f_l_columnsums) = true)
    (a_l_kind : PySem.W.nsIn K mainGlobals "_law_kind" = some (some (.ref f_l_kind)))
    (o_l_kind : K.lookup f_l_kind = some ⟨oc_l_kind, od_l_kind, .func (PySem.W.fnOf "_law_kind" "_law_kind" (defArgs s_l_kind) (defBody s_l_kind) (defScope s_l_kind) .none kV_l_kind dc_l_kind pm_l_kind an_l_kind cd_l_kind ct_l_kind), sl_l_kind⟩)
    (c_l_kind : PySem.W.codeIn K cd_l_kind "_law_kind" = true)
    (k_l_kind : PySem.W.keepIn K (.ref f_l_kind) = true)
    (a_l_any : PySem.W.nsIn K mainGlobals "_law_any" = some (some (.ref f_l_any)))
    (o_l_any : K.lookup f_l_any = some ⟨oc_l_any, od_l_any, .func (PySem.W.fnOf "_law_any" "_law_any" (defArgs s_l_any) (defBody s_l_any) (defScope s_l_any) .none kV_l_any dc_l_any pm_l_any an_l_any cd_l_any ct_l_any), sl_l_any⟩)
    (c_l_any : PySem.W.codeIn K cd_l_any "_law_any" = true)
    (k_l_any : PySem.W.keepIn K (.ref f_l_any) = true)
    (a_l_good_sums : PySem.W.nsIn K mainGlobals "_law_good_sums" = some (some (.ref f_l_good_sums)))
    (o_l_good_sums : K.lookup f_l_good_sums = some ⟨oc_l_good_sums, od_l_good_sums, .func (PySem.W.fnOf "_law_good_sums" "_law_good_sums" (defArgs s_l_good_sums) (defBody s_l_good_sums) (defScope s_l_good_sums) .none kV_l_good_sums dc_l_good_sums pm_l_good_sums an_l_good_sums cd_l_good_sums ct_l_good_sums), sl_l_good_sums⟩)
    (c_l_good_sums : PySem.W.codeIn K cd_l_good_sums "_law_good_sums" = true)
    (k_l_good_sums : PySem.W.keepIn K (.ref f_l_good_sums) = true)
    (a_l_wild_sums : PySem.W.nsIn K mainGlobals "_law_wild_sums" = some (some (.ref f_l_wild_sums)))
    (o_l_wild_sums : K.lookup f_l_wild_sums = some ⟨oc_l_wild_sums, od_l_wild_sums, .func (PySem.W.fnOf "_law_wild_sums" "_law_wild_sums" (defArgs s_l_wild_sums) (defBody s_l_wild_sums) (defScope s_l_wild_sums) .none kV_l_wild_sums dc_l_wild_sums pm_l_wild_sums an_l_wild_sums cd_l_wild_sums ct_l_wild_sums), sl_l_wild_sums⟩)
    (c_l_wild_sums : PySem.W.codeIn K cd_l_wild_sums "_law_wild_sums" = true)
    (k_l_wild_sums : PySem.W.keepIn K (.ref f_l_wild_sums) = true)
    (a_Measure___init__ : PySem.W.findIn K (.ref C_Measure) "__init__" = some (some (.ref f_Measure___init__)))
    (i_Measure___init__ : PySem.W.isFn K (.ref f_Measure___init__) = true)
    (o_Measure___init__ : K.lookup f_Measure___init__ = some ⟨oc_Measure___init__, od_Measure___init__, .func (PySem.W.fnOf "__init__" "Measure.__init__" (defArgs s_Measure___init__) (defBody s_Measure___init__) (defScope s_Measure___init__) .none kV_Measure___init__ dc_Measure___init__ pm_Measure___init__ an_Measure___init__ cd_Measure___init__ ct_Measure___init__), sl_Measure___init__⟩)
    (c_Measure___init__ : PySem.W.codeIn K cd_Measure___init__ "Measure.__init__" = true)
    (k_Measure___init__ : PySem.W.keepIn K (.ref f_Measure___init__) = true)
    (a_law : PySem.W.nsIn K mainGlobals "law" = some (some (.ref f_law)))
    (o_law : K.lookup f_law = some ⟨oc_law, od_law, .func (PySem.W.fnOf "law" "law" (defArgs s_law) (defBody s_law) (defScope s_law) .none kV_law dc_law pm_law an_law cd_law ct_law), sl_law⟩)
    (c_law : PySem.W.codeIn K cd_law "law" = true)
    (k_law : PySem.W.keepIn K (.ref f_law) = true)
    (a_XEdgeError : PySem.W.findCls K (.ref C_EdgeError) (.type "type") "__init__" = some (.val (.ref f_XEdgeError)))
    (o_XEdgeError : K.lookup f_XEdgeError = some ⟨oc_XEdgeError, od_XEdgeError, .func (PySem.W.fnOf "__init__" "EdgeError.__init__" (defArgs sx_EdgeError) (defBody sx_EdgeError) (defScope sx_EdgeError) .none kV_XEdgeError dc_XEdgeError pm_XEdgeError an_XEdgeError cd_XEdgeError ct_XEdgeError), sl_XEdgeError⟩)
    (c_XEdgeError : PySem.W.codeIn K cd_XEdgeError "EdgeError.__init__" = true)
    (k_XEdgeError : PySem.W.keepIn K (.ref f_XEdgeError) = true)
    (a_XBadSums : PySem.W.findIn K (.ref C_BadSums) "__init__" = some (some (.ref f_XBadSums)))
    (i_XBadSums : PySem.W.isFn K (.ref f_XBadSums) = true)
    (o_XBadSums : K.lookup f_XBadSums = some ⟨oc_XBadSums, od_XBadSums, .func (PySem.W.fnOf "__init__" "BadSums.__init__" (defArgs sx_BadSums) (defBody sx_BadSums) (defScope sx_BadSums) (.ref T_BadSums) kV_XBadSums dc_XBadSums pm_XBadSums an_XBadSums cd_XBadSums ct_XBadSums), sl_XBadSums⟩)
    (t_XBadSums : K.lookup T_BadSums = some ⟨tc_BadSums, td_BadSums, .seq #[tv_BadSums] tn_BadSums, ts_BadSums⟩)
    (c_XBadSums : PySem.W.codeIn K cd_XBadSums "BadSums.__init__" = true)
    (k_XBadSums : PySem.W.keepIn K (.ref f_XBadSums) = true)
    (a_XBadRule : PySem.W.findIn K (.ref C_BadRule) "__init__" = some (some (.ref f_XBadRule)))
    (i_XBadRule : PySem.W.isFn K (.ref f_XBadRule) = true)
    (o_XBadRule : K.lookup f_XBadRule = some ⟨oc_XBadRule, od_XBadRule, .func (PySem.W.fnOf "__init__" "BadRule.__init__" (defArgs sx_BadRule) (defBody sx_BadRule) (defScope sx_BadRule) (.ref T_BadRule) kV_XBadRule dc_XBadRule pm_XBadRule an_XBadRule cd_XBadRule ct_XBadRule), sl_XBadRule⟩)
    (t_XBadRule : K.lookup T_BadRule = some ⟨tc_BadRule, td_BadRule, .seq #[tv_BadRule] tn_BadRule, ts_BadRule⟩)
    (c_XBadRule : PySem.W.codeIn K cd_XBadRule "BadRule.__init__" = true)
    (k_XBadRule : PySem.W.keepIn K (.ref f_XBadRule) = true)
    (a_XBadCell : PySem.W.findIn K (.ref C_BadCell) "__init__" = some (some (.ref f_XBadCell)))
    (i_XBadCell : PySem.W.isFn K (.ref f_XBadCell) = true)
    (o_XBadCell : K.lookup f_XBadCell = some ⟨oc_XBadCell, od_XBadCell, .func (PySem.W.fnOf "__init__" "BadCell.__init__" (defArgs sx_BadCell) (defBody sx_BadCell) (defScope sx_BadCell) (.ref T_BadCell) kV_XBadCell dc_XBadCell pm_XBadCell an_XBadCell cd_XBadCell ct_XBadCell), sl_XBadCell⟩)
    (t_XBadCell : K.lookup T_BadCell = some ⟨tc_BadCell, td_BadCell, .seq #[tv_BadCell] tn_BadCell, ts_BadCell⟩)
    (c_XBadCell : PySem.W.codeIn K cd_XBadCell "BadCell.__init__" = true)
    (k_XBadCell : PySem.W.keepIn K (.ref f_XBadCell) = true)
    (a_XBadNumber : PySem.W.findIn K (.ref C_BadNumber) "__init__" = some (some (.ref f_XBadNumber)))
    (i_XBadNumber : PySem.W.isFn K (.ref f_XBadNumber) = true)
    (o_XBadNumber : K.lookup f_XBadNumber = some ⟨oc_XBadNumber, od_XBadNumber, .func (PySem.W.fnOf "__init__" "BadNumber.__init__" (defArgs sx_BadNumber) (defBody sx_BadNumber) (defScope sx_BadNumber) (.ref T_BadNumber) kV_XBadNumber dc_XBadNumber pm_XBadNumber an_XBadNumber cd_XBadNumber ct_XBadNumber), sl_XBadNumber⟩)
    (t_XBadNumber : K.lookup T_BadNumber = some ⟨tc_BadNumber, td_BadNumber, .seq #[tv_BadNumber] tn_BadNumber, ts_BadNumber⟩)
    (c_XBadNumber : PySem.W.codeIn K cd_XBadNumber "BadNumber.__init__" = true)
    (k_XBadNumber : PySem.W.keepIn K (.ref f_XBadNumber) = true)
    (pg_Measure : PySem.W.plainGet K C_Measure Str.empty = true)
    (hd_Measure : PySem.W.hasDictIn K C_Measure = true)
    (po_Measure : PySem.W.plainOver K C_Measure = true)
    (sa_Measure : PySem.W.findIn K (.ref C_Measure) "__setattr__" = some (some (.builtin "object.__setattr__")))
    (mkz_Measure : PySem.W.makesIn K C_Measure = true)
    (kc_Measure : PySem.W.keepIn K (.ref C_Measure) = true)
    (na_Measure_column_list : PySem.W.findIn K (.ref C_Measure) "column_list" = some none)
    (na_Measure_even : PySem.W.findIn K (.ref C_Measure) "even" = some none)
    (na_Measure_kind : PySem.W.findIn K (.ref C_Measure) "kind" = some none)
    (na_Measure_place : PySem.W.findIn K (.ref C_Measure) "place" = some none)
    (na_Measure_row_list : PySem.W.findIn K (.ref C_Measure) "row_list" = some none)
    (ga_E : PySem.W.specialIn K (.ref C_EdgeError) "__getattribute__" = some (some (.builtin "type.__getattribute__")))
    (rd_E : PySem.W.readsIn K C_EdgeError (.type "type") = true)
    (lc_BadSums : K.lookup C_BadSums = some (excClassObj nm_BadSums q_BadSums C_BadSums NB_BadSums bs_BadSums bm_BadSums hd_BadSums sn_BadSums sb_BadSums ab_BadSums co_BadSums dd_BadSums k0_BadSums k1_BadSums k2_BadSums k3_BadSums k5_BadSums "ValueError.__new__"))
    (sa_BadSums : PySem.W.findIn K (.ref C_BadSums) "__setattr__" = some (some (.builtin "object.__setattr__")))
    (cc1_BadSums : PySem.W.clsIn K C_BadSums = some cc_BadSums)
    (h1_BadSums : (bm_BadSums.contains (.type "ValueError") && bm_BadSums.contains (.type "BaseException") && !bm_BadSums.contains (.type "AttributeError") && !bm_BadSums.contains (.type "NameError") && cc_BadSums.hasDict && excLine cc_BadSums.mro) = true)
    (kc_BadSums : PySem.W.keepIn K (.ref C_BadSums) = true)
    (wc_BadSums : PySem.W.findIn K (.ref C_BadSums) "word" = some none)
    (lc_BadRule : K.lookup C_BadRule = some (excClassObj nm_BadRule q_BadRule C_BadRule NB_BadRule bs_BadRule bm_BadRule hd_BadRule sn_BadRule sb_BadRule ab_BadRule co_BadRule dd_BadRule k0_BadRule k1_BadRule k2_BadRule k3_BadRule k5_BadRule "ValueError.__new__"))
    (sa_BadRule : PySem.W.findIn K (.ref C_BadRule) "__setattr__" = some (some (.builtin "object.__setattr__")))
    (cc1_BadRule : PySem.W.clsIn K C_BadRule = some cc_BadRule)
    (h1_BadRule : (bm_BadRule.contains (.type "ValueError") && bm_BadRule.contains (.type "BaseException") && !bm_BadRule.contains (.type "AttributeError") && !bm_BadRule.contains (.type "NameError") && cc_BadRule.hasDict && excLine cc_BadRule.mro) = true)
    (kc_BadRule : PySem.W.keepIn K (.ref C_BadRule) = true)
    (wc_BadRule : PySem.W.findIn K (.ref C_BadRule) "word" = some none)
    (lc_BadCell : K.lookup C_BadCell = some (excClassObj nm_BadCell q_BadCell C_BadCell NB_BadCell bs_BadCell bm_BadCell hd_BadCell sn_BadCell sb_BadCell ab_BadCell co_BadCell dd_BadCell k0_BadCell k1_BadCell k2_BadCell k3_BadCell k5_BadCell "ValueError.__new__"))
    (sa_BadCell : PySem.W.findIn K (.ref C_BadCell) "__setattr__" = some (some (.builtin "object.__setattr__")))
    (cc1_BadCell : PySem.W.clsIn K C_BadCell = some cc_BadCell)
    (h1_BadCell : (bm_BadCell.contains (.type "ValueError") && bm_BadCell.contains (.type "BaseException") && !bm_BadCell.contains (.type "AttributeError") && !bm_BadCell.contains (.type "NameError") && cc_BadCell.hasDict && excLine cc_BadCell.mro) = true)
    (kc_BadCell : PySem.W.keepIn K (.ref C_BadCell) = true)
    (wc_BadCell : PySem.W.findIn K (.ref C_BadCell) "word" = some none)
    (lc_BadNumber : K.lookup C_BadNumber = some (excClassObj nm_BadNumber q_BadNumber C_BadNumber NB_BadNumber bs_BadNumber bm_BadNumber hd_BadNumber sn_BadNumber sb_BadNumber ab_BadNumber co_BadNumber dd_BadNumber k0_BadNumber k1_BadNumber k2_BadNumber k3_BadNumber k5_BadNumber "ValueError.__new__"))
    (sa_BadNumber : PySem.W.findIn K (.ref C_BadNumber) "__setattr__" = some (some (.builtin "object.__setattr__")))
    (cc1_BadNumber : PySem.W.clsIn K C_BadNumber = some cc_BadNumber)
    (h1_BadNumber : (bm_BadNumber.contains (.type "ValueError") && bm_BadNumber.contains (.type "BaseException") && !bm_BadNumber.contains (.type "AttributeError") && !bm_BadNumber.contains (.type "NameError") && cc_BadNumber.hasDict && excLine cc_BadNumber.mro) = true)
    (kc_BadNumber : PySem.W.keepIn K (.ref C_BadNumber) = true)
    (wc_BadNumber : PySem.W.findIn K (.ref C_BadNumber) "word" = some none)
    (e_BadSums_BadSums : PySem.W.exmOne K (.ref C_BadSums) (.ref C_BadSums) = some true)
    (e_BadSums_BadRule : PySem.W.exmOne K (.ref C_BadSums) (.ref C_BadRule) = some false)
    (e_BadSums_BadCell : PySem.W.exmOne K (.ref C_BadSums) (.ref C_BadCell) = some false)
    (e_BadSums_BadNumber : PySem.W.exmOne K (.ref C_BadSums) (.ref C_BadNumber) = some false)
    (e_BadRule_BadSums : PySem.W.exmOne K (.ref C_BadRule) (.ref C_BadSums) = some false)
    (e_BadRule_BadRule : PySem.W.exmOne K (.ref C_BadRule) (.ref C_BadRule) = some true)
    (e_BadRule_BadCell : PySem.W.exmOne K (.ref C_BadRule) (.ref C_BadCell) = some false)
    (e_BadRule_BadNumber : PySem.W.exmOne K (.ref C_BadRule) (.ref C_BadNumber) = some false)
    (e_BadCell_BadSums : PySem.W.exmOne K (.ref C_BadCell) (.ref C_BadSums) = some false)
    (e_BadCell_BadRule : PySem.W.exmOne K (.ref C_BadCell) (.ref C_BadRule) = some false)
    (e_BadCell_BadCell : PySem.W.exmOne K (.ref C_BadCell) (.ref C_BadCell) = some true)
    (e_BadCell_BadNumber : PySem.W.exmOne K (.ref C_BadCell) (.ref C_BadNumber) = some false)
    (e_BadNumber_BadSums : PySem.W.exmOne K (.ref C_BadNumber) (.ref C_BadSums) = some false)
    (e_BadNumber_BadRule : PySem.W.exmOne K (.ref C_BadNumber) (.ref C_BadRule) = some false)
    (e_BadNumber_BadCell : PySem.W.exmOne K (.ref C_BadNumber) (.ref C_BadCell) = some false)
    (e_BadNumber_BadNumber : PySem.W.exmOne K (.ref C_BadNumber) (.ref C_BadNumber) = some true)
    (g_BY_PLACE : PySem.W.nsIn K mainGlobals "BY_PLACE" = some (some (.ref p_BY_PLACE)))
    (gl_BY_PLACE : K.lookup p_BY_PLACE = some ⟨q1_BY_PLACE, q2_BY_PLACE, .seq q3_BY_PLACE q4_BY_PLACE, q5_BY_PLACE⟩)
    (gc_BY_PLACE : q1_BY_PLACE = .type "tuple")
    (gz_BY_PLACE : q3_BY_PLACE.size ≤ sizeLine)
    (gv_BY_PLACE : FlatIs [.str (Str.ofString "most"), .str (Str.ofString "least")] q3_BY_PLACE.toList)
    (g_KINDS : PySem.W.nsIn K mainGlobals "KINDS" = some (some (.ref p_KINDS)))
    (gl_KINDS : K.lookup p_KINDS = some ⟨q1_KINDS, q2_KINDS, .seq q3_KINDS q4_KINDS, q5_KINDS⟩)
    (gc_KINDS : q1_KINDS = .type "tuple")
    (gz_KINDS : q3_KINDS.size ≤ sizeLine)
    (gv_KINDS : FlatIs [.str (Str.ofString "rare"), .str (Str.ofString "square"), .str (Str.ofString "power"), .str (Str.ofString "off"), .str (Str.ofString "most"), .str (Str.ofString "least")] q3_KINDS.toList)
    (g_MOST : PySem.W.nsIn K mainGlobals "MOST" = some (some (.int 40 tk_MOST)))
    (g_MOST_COLUMNS : PySem.W.nsIn K mainGlobals "MOST_COLUMNS" = some (some (.int 6 tk_MOST_COLUMNS)))
    (g_MOST_ROWS : PySem.W.nsIn K mainGlobals "MOST_ROWS" = some (some (.int 4 tk_MOST_ROWS)))
    (z0 : PySem.W.nsIn K mainGlobals "ValueError" = some none)
    (z1 : PySem.W.nsIn K mainGlobals "abs" = some none)
    (z2 : PySem.W.nsIn K mainGlobals "any" = some none)
    (z3 : PySem.W.nsIn K mainGlobals "isinstance" = some none)
    (z4 : PySem.W.nsIn K mainGlobals "len" = some none)
    (z5 : PySem.W.nsIn K mainGlobals "list" = some none)
    (z6 : PySem.W.nsIn K mainGlobals "min" = some none)
    (z7 : PySem.W.nsIn K mainGlobals "range" = some none)
    (z8 : PySem.W.nsIn K mainGlobals "sum" = some none) :
    ∃ fd : FuncData, (∀ (s : Shared) (v : Value), BindsTo s fd ⟨[v], []⟩ [("_law_script", v)]) ∧ ∀ base : Heap, K.In base → base.Ns mainGlobals mg → FnOk l.prog w K mg base (CXE l.prog w) 8 fa fd ["_law_script"] (spLaw K) := by
  have e := hfa.symm.trans (PySem.W.mg_of X G a_law)
  cases e
  have F_check_sums := fund_mk (st := s_check_sums) o_check_sums c_check_sums k_check_sums
  have b_check_sums : Binds K (PySem.W.fnOf "check_sums" "check_sums" (defArgs s_check_sums) (defBody s_check_sums) (defScope s_check_sums) .none kV_check_sums dc_check_sums pm_check_sums an_check_sums cd_check_sums ct_check_sums) ["rowsums", "columnsums"] [] := .all fun us hl => by obtain ⟨_, _, rfl⟩ := lU2 hl; rfl
  have F_check_there := fund_mk (st := s_check_there) o_check_there c_check_there k_check_there
  have b_check_there : Binds K (PySem.W.fnOf "check_there" "check_there" (defArgs s_check_there) (defBody s_check_there) (defScope s_check_there) .none kV_check_there dc_check_there pm_check_there an_check_there cd_check_there ct_check_there) ["place", "many"] [] := .all fun us hl => by obtain ⟨_, _, rfl⟩ := lU2 hl; rfl
  have F_check_cell := fund_mk (st := s_check_cell) o_check_cell c_check_cell k_check_cell
  have b_check_cell : Binds K (PySem.W.fnOf "check_cell" "check_cell" (defArgs s_check_cell) (defBody s_check_cell) (defScope s_check_cell) .none kV_check_cell dc_check_cell pm_check_cell an_check_cell cd_check_cell ct_check_cell) ["row", "column", "rows", "columns"] [] := .all fun us hl => by obtain ⟨_, _, _, _, rfl⟩ := lU4 hl; rfl
  have F_common_factor := fund_mk (st := s_common_factor) o_common_factor c_common_factor k_common_factor
  have b_common_factor : Binds K (PySem.W.fnOf "common_factor" "common_factor" (defArgs s_common_factor) (defBody s_common_factor) (defScope s_common_factor) .none kV_common_factor dc_common_factor pm_common_factor an_common_factor cd_common_factor ct_common_factor) ["one", "other"] [] := .all fun us hl => by obtain ⟨_, _, rfl⟩ := lU2 hl; rfl
  have F_least_common := fund_mk (st := s_least_common) o_least_common c_least_common k_least_common
  have b_least_common : Binds K (PySem.W.fnOf "least_common" "least_common" (defArgs s_least_common) (defBody s_least_common) (defScope s_least_common) .none kV_least_common dc_least_common pm_least_common an_least_common cd_least_common ct_least_common) ["numbers"] [] := .all fun us hl => by obtain ⟨_, rfl⟩ := lU1 hl; rfl
  have F_l_bag := fund_mk (st := s_l_bag) o_l_bag c_l_bag k_l_bag
  have b_l_bag : Binds K (PySem.W.fnOf "_law_bag" "_law_bag" (defArgs s_l_bag) (defBody s_l_bag) (defScope s_l_bag) .none kV_l_bag dc_l_bag pm_l_bag an_l_bag cd_l_bag ct_l_bag) ["_law_script"] [] := .all fun us hl => by obtain ⟨_, rfl⟩ := lU1 hl; rfl
  have F_l_pull := fund_mk (st := s_l_pull) o_l_pull c_l_pull k_l_pull
  have b_l_pull : Binds K (PySem.W.fnOf "_law_pull" "_law_pull" (defArgs s_l_pull) (defBody s_l_pull) (defScope s_l_pull) .none kV_l_pull dc_l_pull pm_l_pull an_l_pull cd_l_pull ct_l_pull) ["_law_bag_here", "_law_lot"] [] := .all fun us hl => by obtain ⟨_, _, rfl⟩ := lU2 hl; rfl
  have F_l_turned := fund_mk (st := s_l_turned) o_l_turned c_l_turned k_l_turned
  have b_l_turned : Binds K (PySem.W.fnOf "_law_turned" "_law_turned" (defArgs s_l_turned) (defBody s_l_turned) (defScope s_l_turned) .none kV_l_turned dc_l_turned pm_l_turned an_l_turned cd_l_turned ct_l_turned) ["_law_block"] [] := .all fun us hl => by obtain ⟨_, rfl⟩ := lU1 hl; rfl
  have F_l_rowsums := fund_mk (st := s_l_rowsums) o_l_rowsums c_l_rowsums k_l_rowsums
  have b_l_rowsums : Binds K (PySem.W.fnOf "_law_rowsums" "_law_rowsums" (defArgs s_l_rowsums) (defBody s_l_rowsums) (defScope s_l_rowsums) .none kV_l_rowsums dc_l_rowsums pm_l_rowsums an_l_rowsums cd_l_rowsums ct_l_rowsums) ["_law_grid"] [] := .all fun us hl => by obtain ⟨_, rfl⟩ := lU1 hl; rfl
  have F_l_columnsums := fund_mk (st := s_l_columnsums) o_l_columnsums c_l_columnsums k_l_columnsums
  have b_l_columnsums : Binds K (PySem.W.fnOf "_law_columnsums" "_law_columnsums" (defArgs s_l_columnsums) (defBody s_l_columnsums) (defScope s_l_columnsums) .none kV_l_columnsums dc_l_columnsums pm_l_columnsums an_l_columnsums cd_l_columnsums ct_l_columnsums) ["_law_grid"] [] := .all fun us hl => by obtain ⟨_, rfl⟩ := lU1 hl; rfl
  have F_l_kind := fund_mk (st := s_l_kind) o_l_kind c_l_kind k_l_kind
  have b_l_kind : Binds K (PySem.W.fnOf "_law_kind" "_law_kind" (defArgs s_l_kind) (defBody s_l_kind) (defScope s_l_kind) .none kV_l_kind dc_l_kind pm_l_kind an_l_kind cd_l_kind ct_l_kind) ["_law_bag_here"] [] := .all fun us hl => by obtain ⟨_, rfl⟩ := lU1 hl; rfl
  have F_l_any := fund_mk (st := s_l_any) o_l_any c_l_any k_l_any
  have b_l_any : Binds K (PySem.W.fnOf "_law_any" "_law_any" (defArgs s_l_any) (defBody s_l_any) (defScope s_l_any) .none kV_l_any dc_l_any pm_l_any an_l_any cd_l_any ct_l_any) ["_law_bag_here"] [] := .all fun us hl => by obtain ⟨_, rfl⟩ := lU1 hl; rfl
  have F_l_good_sums := fund_mk (st := s_l_good_sums) o_l_good_sums c_l_good_sums k_l_good_sums
  have b_l_good_sums : Binds K (PySem.W.fnOf "_law_good_sums" "_law_good_sums" (defArgs s_l_good_sums) (defBody s_l_good_sums) (defScope s_l_good_sums) .none kV_l_good_sums dc_l_good_sums pm_l_good_sums an_l_good_sums cd_l_good_sums ct_l_good_sums) ["_law_rowsums_here", "_law_columnsums_here"] [] := .all fun us hl => by obtain ⟨_, _, rfl⟩ := lU2 hl; rfl
  have F_l_wild_sums := fund_mk (st := s_l_wild_sums) o_l_wild_sums c_l_wild_sums k_l_wild_sums
  have b_l_wild_sums : Binds K (PySem.W.fnOf "_law_wild_sums" "_law_wild_sums" (defArgs s_l_wild_sums) (defBody s_l_wild_sums) (defScope s_l_wild_sums) .none kV_l_wild_sums dc_l_wild_sums pm_l_wild_sums an_l_wild_sums cd_l_wild_sums ct_l_wild_sums) ["_law_bag_here"] [] := .all fun us hl => by obtain ⟨_, rfl⟩ := lU1 hl; rfl
  have F_Measure___init__ := fund_mk (st := s_Measure___init__) o_Measure___init__ c_Measure___init__ k_Measure___init__
  have F_law := fund_mk (st := s_law) o_law c_law k_law
  have F_XEdgeError := fund_mk (st := sx_EdgeError) o_XEdgeError c_XEdgeError k_XEdgeError
  have b_XEdgeError : Binds K (PySem.W.fnOf "__init__" "EdgeError.__init__" (defArgs sx_EdgeError) (defBody sx_EdgeError) (defScope sx_EdgeError) .none kV_XEdgeError dc_XEdgeError pm_XEdgeError an_XEdgeError cd_XEdgeError ct_XEdgeError) ["self", "word", "why"] [] := .all fun us hl => by obtain ⟨_, _, _, rfl⟩ := lU3 hl; rfl
  have F_XBadSums := fund_mk (st := sx_BadSums) o_XBadSums c_XBadSums k_XBadSums
  have b_XBadSums : Binds K (PySem.W.fnOf "__init__" "BadSums.__init__" (defArgs sx_BadSums) (defBody sx_BadSums) (defScope sx_BadSums) (.ref T_BadSums) kV_XBadSums dc_XBadSums pm_XBadSums an_XBadSums cd_XBadSums ct_XBadSums) ["self", "why"] [] := fun s us KX hl => by rw [List.append_nil] at hl; obtain ⟨_, _, rfl⟩ := lU2 hl; exact BindsTo.of_defaults rfl (KX _ _ t_XBadSums) rfl rfl rfl
  have F_XBadRule := fund_mk (st := sx_BadRule) o_XBadRule c_XBadRule k_XBadRule
  have b_XBadRule : Binds K (PySem.W.fnOf "__init__" "BadRule.__init__" (defArgs sx_BadRule) (defBody sx_BadRule) (defScope sx_BadRule) (.ref T_BadRule) kV_XBadRule dc_XBadRule pm_XBadRule an_XBadRule cd_XBadRule ct_XBadRule) ["self", "why"] [] := fun s us KX hl => by rw [List.append_nil] at hl; obtain ⟨_, _, rfl⟩ := lU2 hl; exact BindsTo.of_defaults rfl (KX _ _ t_XBadRule) rfl rfl rfl
  have F_XBadCell := fund_mk (st := sx_BadCell) o_XBadCell c_XBadCell k_XBadCell
  have b_XBadCell : Binds K (PySem.W.fnOf "__init__" "BadCell.__init__" (defArgs sx_BadCell) (defBody sx_BadCell) (defScope sx_BadCell) (.ref T_BadCell) kV_XBadCell dc_XBadCell pm_XBadCell an_XBadCell cd_XBadCell ct_XBadCell) ["self", "why"] [] := fun s us KX hl => by rw [List.append_nil] at hl; obtain ⟨_, _, rfl⟩ := lU2 hl; exact BindsTo.of_defaults rfl (KX _ _ t_XBadCell) rfl rfl rfl
  have F_XBadNumber := fund_mk (st := sx_BadNumber) o_XBadNumber c_XBadNumber k_XBadNumber
  have b_XBadNumber : Binds K (PySem.W.fnOf "__init__" "BadNumber.__init__" (defArgs sx_BadNumber) (defBody sx_BadNumber) (defScope sx_BadNumber) (.ref T_BadNumber) kV_XBadNumber dc_XBadNumber pm_XBadNumber an_XBadNumber cd_XBadNumber ct_XBadNumber) ["self", "why"] [] := fun s us KX hl => by rw [List.append_nil] at hl; obtain ⟨_, _, rfl⟩ := lU2 hl; exact BindsTo.of_defaults rfl (KX _ _ t_XBadNumber) rfl rfl rfl
  have kb_place_Measure___init__ : KwOk K (PySem.W.fnOf "__init__" "Measure.__init__" (defArgs s_Measure___init__) (defBody s_Measure___init__) (defScope s_Measure___init__) .none kV_Measure___init__ dc_Measure___init__ pm_Measure___init__ an_Measure___init__ cd_Measure___init__ ct_Measure___init__) ["self", "kind", "rowsums", "columnsums", "place"] ["place"] 4 [.kw 0] := kw_of (sv := [.kw 0]) (.kw .nil) rfl (by decide) fun s us ws KX h1 h2 => by obtain ⟨u0, u1, u2, u3, rfl⟩ := lU4 h1; obtain ⟨w0, rfl⟩ := lU1 h2; exact .of_eq rfl
  let a : Ad := { C_EdgeError := C_EdgeError, x_EdgeError := f_XEdgeError, y_EdgeError := PySem.W.fnOf "__init__" "EdgeError.__init__" (defArgs sx_EdgeError) (defBody sx_EdgeError) (defScope sx_EdgeError) .none kV_XEdgeError dc_XEdgeError pm_XEdgeError an_XEdgeError cd_XEdgeError ct_XEdgeError, C_BadSums := C_BadSums, x_BadSums := f_XBadSums, y_BadSums := PySem.W.fnOf "__init__" "BadSums.__init__" (defArgs sx_BadSums) (defBody sx_BadSums) (defScope sx_BadSums) (.ref T_BadSums) kV_XBadSums dc_XBadSums pm_XBadSums an_XBadSums cd_XBadSums ct_XBadSums, C_BadRule := C_BadRule, x_BadRule := f_XBadRule, y_BadRule := PySem.W.fnOf "__init__" "BadRule.__init__" (defArgs sx_BadRule) (defBody sx_BadRule) (defScope sx_BadRule) (.ref T_BadRule) kV_XBadRule dc_XBadRule pm_XBadRule an_XBadRule cd_XBadRule ct_XBadRule, C_BadCell := C_BadCell, x_BadCell := f_XBadCell, y_BadCell := PySem.W.fnOf "__init__" "BadCell.__init__" (defArgs sx_BadCell) (defBody sx_BadCell) (defScope sx_BadCell) (.ref T_BadCell) kV_XBadCell dc_XBadCell pm_XBadCell an_XBadCell cd_XBadCell ct_XBadCell, C_BadNumber := C_BadNumber, x_BadNumber := f_XBadNumber, y_BadNumber := PySem.W.fnOf "__init__" "BadNumber.__init__" (defArgs sx_BadNumber) (defBody sx_BadNumber) (defScope sx_BadNumber) (.ref T_BadNumber) kV_XBadNumber dc_XBadNumber pm_XBadNumber an_XBadNumber cd_XBadNumber ct_XBadNumber, C_Measure := C_Measure, f_check_sums := f_check_sums, d_check_sums := PySem.W.fnOf "check_sums" "check_sums" (defArgs s_check_sums) (defBody s_check_sums) (defScope s_check_sums) .none kV_check_sums dc_check_sums pm_check_sums an_check_sums cd_check_sums ct_check_sums, f_check_there := f_check_there, d_check_there := PySem.W.fnOf "check_there" "check_there" (defArgs s_check_there) (defBody s_check_there) (defScope s_check_there) .none kV_check_there dc_check_there pm_check_there an_check_there cd_check_there ct_check_there, f_check_cell := f_check_cell, d_check_cell := PySem.W.fnOf "check_cell" "check_cell" (defArgs s_check_cell) (defBody s_check_cell) (defScope s_check_cell) .none kV_check_cell dc_check_cell pm_check_cell an_check_cell cd_check_cell ct_check_cell, f_common_factor := f_common_factor, d_common_factor := PySem.W.fnOf "common_factor" "common_factor" (defArgs s_common_factor) (defBody s_common_factor) (defScope s_common_factor) .none kV_common_factor dc_common_factor pm_common_factor an_common_factor cd_common_factor ct_common_factor, f_least_common := f_least_common, d_least_common := PySem.W.fnOf "least_common" "least_common" (defArgs s_least_common) (defBody s_least_common) (defScope s_least_common) .none kV_least_common dc_least_common pm_least_common an_least_common cd_least_common ct_least_common, f_l_bag := f_l_bag, d_l_bag := PySem.W.fnOf "_law_bag" "_law_bag" (defArgs s_l_bag) (defBody s_l_bag) (defScope s_l_bag) .none kV_l_bag dc_l_bag pm_l_bag an_l_bag cd_l_bag ct_l_bag, f_l_pull := f_l_pull, d_l_pull := PySem.W.fnOf "_law_pull" "_law_pull" (defArgs s_l_pull) (defBody s_l_pull) (defScope s_l_pull) .none kV_l_pull dc_l_pull pm_l_pull an_l_pull cd_l_pull ct_l_pull, f_l_turned := f_l_turned, d_l_turned := PySem.W.fnOf "_law_turned" "_law_turned" (defArgs s_l_turned) (defBody s_l_turned) (defScope s_l_turned) .none kV_l_turned dc_l_turned pm_l_turned an_l_turned cd_l_turned ct_l_turned, f_l_rowsums := f_l_rowsums, d_l_rowsums := PySem.W.fnOf "_law_rowsums" "_law_rowsums" (defArgs s_l_rowsums) (defBody s_l_rowsums) (defScope s_l_rowsums) .none kV_l_rowsums dc_l_rowsums pm_l_rowsums an_l_rowsums cd_l_rowsums ct_l_rowsums, f_l_columnsums := f_l_columnsums, d_l_columnsums := PySem.W.fnOf "_law_columnsums" "_law_columnsums" (defArgs s_l_columnsums) (defBody s_l_columnsums) (defScope s_l_columnsums) .none kV_l_columnsums dc_l_columnsums pm_l_columnsums an_l_columnsums cd_l_columnsums ct_l_columnsums, f_l_kind := f_l_kind, d_l_kind := PySem.W.fnOf "_law_kind" "_law_kind" (defArgs s_l_kind) (defBody s_l_kind) (defScope s_l_kind) .none kV_l_kind dc_l_kind pm_l_kind an_l_kind cd_l_kind ct_l_kind, f_l_any := f_l_any, d_l_any := PySem.W.fnOf "_law_any" "_law_any" (defArgs s_l_any) (defBody s_l_any) (defScope s_l_any) .none kV_l_any dc_l_any pm_l_any an_l_any cd_l_any ct_l_any, f_l_good_sums := f_l_good_sums, d_l_good_sums := PySem.W.fnOf "_law_good_sums" "_law_good_sums" (defArgs s_l_good_sums) (defBody s_l_good_sums) (defScope s_l_good_sums) .none kV_l_good_sums dc_l_good_sums pm_l_good_sums an_l_good_sums cd_l_good_sums ct_l_good_sums, f_l_wild_sums := f_l_wild_sums, d_l_wild_sums := PySem.W.fnOf "_law_wild_sums" "_law_wild_sums" (defArgs s_l_wild_sums) (defBody s_l_wild_sums) (defScope s_l_wild_sums) .none kV_l_wild_sums dc_l_wild_sums pm_l_wild_sums an_l_wild_sums cd_l_wild_sums ct_l_wild_sums, f_Measure___init__ := f_Measure___init__, d_Measure___init__ := PySem.W.fnOf "__init__" "Measure.__init__" (defArgs s_Measure___init__) (defBody s_Measure___init__) (defScope s_Measure___init__) .none kV_Measure___init__ dc_Measure___init__ pm_Measure___init__ an_Measure___init__ cd_Measure___init__ ct_Measure___init__, f_law := fa, d_law := PySem.W.fnOf "law" "law" (defArgs s_law) (defBody s_law) (defScope s_law) .none kV_law dc_law pm_law an_law cd_law ct_law }
  have N : Fns K mg a := { n_ValueError := PySem.W.mg_none_of X G z0, n_abs := PySem.W.mg_none_of X G z1, n_any := PySem.W.mg_none_of X G z2, n_isinstance := PySem.W.mg_none_of X G z3, n_len := PySem.W.mg_none_of X G z4, n_list := PySem.W.mg_none_of X G z5, n_min := PySem.W.mg_none_of X G z6, n_range := PySem.W.mg_none_of X G z7, n_sum := PySem.W.mg_none_of X G z8, g_BY_PLACE := cst_of (PySem.W.mg_of X G g_BY_PLACE) (vis_tup gl_BY_PLACE gc_BY_PLACE gz_BY_PLACE gv_BY_PLACE), g_KINDS := cst_of (PySem.W.mg_of X G g_KINDS) (vis_tup gl_KINDS gc_KINDS gz_KINDS gv_KINDS), g_MOST := cst_of (PySem.W.mg_of X G g_MOST) vis_int, g_MOST_COLUMNS := cst_of (PySem.W.mg_of X G g_MOST_COLUMNS) vis_int, g_MOST_ROWS := cst_of (PySem.W.mg_of X G g_MOST_ROWS) vis_int, F_check_sums := F_check_sums, m_check_sums := PySem.W.mg_of X G a_check_sums, b_check_sums := b_check_sums, F_check_there := F_check_there, m_check_there := PySem.W.mg_of X G a_check_there, b_check_there := b_check_there, F_check_cell := F_check_cell, m_check_cell := PySem.W.mg_of X G a_check_cell, b_check_cell := b_check_cell, F_common_factor := F_common_factor, m_common_factor := PySem.W.mg_of X G a_common_factor, b_common_factor := b_common_factor, F_least_common := F_least_common, m_least_common := PySem.W.mg_of X G a_least_common, b_least_common := b_least_common, F_l_bag := F_l_bag, m_l_bag := PySem.W.mg_of X G a_l_bag, b_l_bag := b_l_bag, F_l_pull := F_l_pull, m_l_pull := PySem.W.mg_of X G a_l_pull, b_l_pull := b_l_pull, F_l_turned := F_l_turned, m_l_turned := PySem.W.mg_of X G a_l_turned, b_l_turned := b_l_turned, F_l_rowsums := F_l_rowsums, m_l_rowsums := PySem.W.mg_of X G a_l_rowsums, b_l_rowsums := b_l_rowsums, F_l_columnsums := F_l_columnsums, m_l_columnsums := PySem.W.mg_of X G a_l_columnsums, b_l_columnsums := b_l_columnsums, F_l_kind := F_l_kind, m_l_kind := PySem.W.mg_of X G a_l_kind, b_l_kind := b_l_kind, F_l_any := F_l_any, m_l_any := PySem.W.mg_of X G a_l_any, b_l_any := b_l_any, F_l_good_sums := F_l_good_sums, m_l_good_sums := PySem.W.mg_of X G a_l_good_sums, b_l_good_sums := b_l_good_sums, F_l_wild_sums := F_l_wild_sums, m_l_wild_sums := PySem.W.mg_of X G a_l_wild_sums, b_l_wild_sums := b_l_wild_sums, F_Measure___init__ := F_Measure___init__, mk_Measure := ⟨mkz_Measure, a_Measure___init__, i_Measure___init__, kc_Measure⟩, kb_place_Measure___init__ := kb_place_Measure___init__, cl_Measure := ⟨pg_Measure, hd_Measure, po_Measure, sa_Measure⟩, m_Measure := PySem.W.mg_of X G aC_Measure, na_Measure_column_list := na_Measure_column_list, na_Measure_even := na_Measure_even, na_Measure_kind := na_Measure_kind, na_Measure_place := na_Measure_place, na_Measure_row_list := na_Measure_row_list, FX_EdgeError := F_XEdgeError, b_EdgeError := b_XEdgeError, m_EdgeError := PySem.W.mg_of X G aC_EdgeError, FX_BadSums := F_XBadSums, b_BadSums := b_XBadSums, m_BadSums := PySem.W.mg_of X G aC_BadSums, xm_BadSums := ⟨xc_mk lc_BadSums sa_BadSums cc1_BadSums h1_BadSums, a_XBadSums, i_XBadSums, kc_BadSums⟩, w_BadSums := wc_BadSums, FX_BadRule := F_XBadRule, b_BadRule := b_XBadRule, m_BadRule := PySem.W.mg_of X G aC_BadRule, xm_BadRule := ⟨xc_mk lc_BadRule sa_BadRule cc1_BadRule h1_BadRule, a_XBadRule, i_XBadRule, kc_BadRule⟩, w_BadRule := wc_BadRule, FX_BadCell := F_XBadCell, b_BadCell := b_XBadCell, m_BadCell := PySem.W.mg_of X G aC_BadCell, xm_BadCell := ⟨xc_mk lc_BadCell sa_BadCell cc1_BadCell h1_BadCell, a_XBadCell, i_XBadCell, kc_BadCell⟩, w_BadCell := wc_BadCell, FX_BadNumber := F_XBadNumber, b_BadNumber := b_XBadNumber, m_BadNumber := PySem.W.mg_of X G aC_BadNumber, xm_BadNumber := ⟨xc_mk lc_BadNumber sa_BadNumber cc1_BadNumber h1_BadNumber, a_XBadNumber, i_XBadNumber, kc_BadNumber⟩, w_BadNumber := wc_BadNumber, cE := ⟨ga_E, rd_E, a_XEdgeError, k_XEdgeError⟩ }
  exact ⟨PySem.W.fnOf "law" "law" (defArgs s_law) (defBody s_law) (defScope s_law) .none kV_law dc_law pm_law an_law cd_law ct_law, fun s v => .of_eq rfl, fun base _ _ => ok_law (a := a) F_law N fun β ok => law_true (K := K) (a := a) e_BadSums_BadSums e_BadRule_BadSums e_BadRule_BadRule e_BadCell_BadSums e_BadCell_BadRule e_BadCell_BadCell β ok⟩
theorem lawWalk {l : PySem.W.OpenLaw} {q : Program} {loose : List Str} {XP : (Str → Option Value) → Heap → Prop} {YP : World → Heap → Prop} {d : DefRec} {K : Params → PySem.W.Frag} (hn : l.most = some 63) (hdf : d.params.defaults = [])
    (hY : ∀ (w : World) (h : Heap), YP w h → (K w.params).In h)
    (F : ∀ (w : World) (mg : Str → Option Value) (fa : Addr) (h : Heap), (K w.params).In h → h.Ns mainGlobals mg → mg d.name = some (.ref fa) →
      ∃ fd : FuncData, (∀ (s : Shared) (u : Value), BindsTo s fd ⟨[u], []⟩ [("_law_script", u)]) ∧ ∀ base : Heap, (K w.params).In base → base.Ns mainGlobals mg → FnOk l.prog w (K w.params) mg base (CXE l.prog w) 8 fa fd ["_law_script"] (spLaw (K w.params))) :
    PySem.W.WalkO q loose XP YP l.row.toRowW d [] (fun f vs => PySem.call f vs) :=
  L2.walk_of (n := 63) (k := 8) (x := "_law_script") (CX := fun w => CXE l.prog w) (sp := fun w => spLaw (K w.params)) hn (by decide) hdf ⟨rfl, by decide, by decide⟩ hY F (fun _ _ a ns hl _ hS => ⟨a, ns, rfl, hS, hl, fun _ => rfl⟩) fun _ _ _ _ _ ⟨x, C, H', _, fl⟩ => fl.wish
end Law
open PySem PySem.W PyProof.Rows
set_option maxRecDepth 100000 in
set_option maxHeartbeats 0 in
theorem PySem.Challenge.cw_edgetally_k30_measures_refused_holds : PySem.Challenge.rw_edgetally_k30_measures_refused.Holds := by
  w_on; o_law; k_head; (case hw => w_witness2)
  k_fill
  refine Law.lawWalk (l := PySem.Challenge.rw_edgetally_k30_measures_refused) rfl rfl (fun w h Y => PySem.W.kIn_of Y) ?F
  case F =>
    intro w mg fa h KX G hmg
    refine' Law.all_mk KX G hmg ?aC_EdgeError ?aC_BadSums ?aC_BadRule ?aC_BadCell ?aC_BadNumber ?aC_Measure ?a_check_sums ?o_check_sums ?c_check_sums ?k_check_sums ?a_check_there ?o_check_there ?c_check_there ?k_check_there ?a_check_cell ?o_check_cell ?c_check_cell ?k_check_cell ?a_common_factor ?o_common_factor ?c_common_factor ?k_common_factor ?a_least_common ?o_least_common ?c_least_common ?k_least_common ?a_l_bag ?o_l_bag ?c_l_bag ?k_l_bag ?a_l_pull ?o_l_pull ?c_l_pull ?k_l_pull ?a_l_turned ?o_l_turned ?c_l_turned ?k_l_turned ?a_l_rowsums ?o_l_rowsums ?c_l_rowsums ?k_l_rowsums ?a_l_columnsums ?o_l_columnsums ?c_l_columnsums ?k_l_columnsums ?a_l_kind ?o_l_kind ?c_l_kind ?k_l_kind ?a_l_any ?o_l_any ?c_l_any ?k_l_any ?a_l_good_sums ?o_l_good_sums ?c_l_good_sums ?k_l_good_sums ?a_l_wild_sums ?o_l_wild_sums ?c_l_wild_sums ?k_l_wild_sums ?a_Measure___init__ ?i_Measure___init__ ?o_Measure___init__ ?c_Measure___init__ ?k_Measure___init__ ?a_law ?o_law ?c_law ?k_law ?a_XEdgeError ?o_XEdgeError ?c_XEdgeError ?k_XEdgeError ?a_XBadSums ?i_XBadSums ?o_XBadSums ?t_XBadSums ?c_XBadSums ?k_XBadSums ?a_XBadRule ?i_XBadRule ?o_XBadRule ?t_XBadRule ?c_XBadRule ?k_XBadRule ?a_XBadCell ?i_XBadCell ?o_XBadCell ?t_XBadCell ?c_XBadCell ?k_XBadCell ?a_XBadNumber ?i_XBadNumber ?o_XBadNumber ?t_XBadNumber ?c_XBadNumber ?k_XBadNumber ?pg_Measure ?hd_Measure ?po_Measure ?sa_Measure ?mkz_Measure ?kc_Measure ?na_Measure_column_list ?na_Measure_even ?na_Measure_kind ?na_Measure_place ?na_Measure_row_list ?ga_E ?rd_E ?lc_BadSums ?sa_BadSums ?cc1_BadSums ?h1_BadSums ?kc_BadSums ?wc_BadSums ?lc_BadRule ?sa_BadRule ?cc1_BadRule ?h1_BadRule ?kc_BadRule ?wc_BadRule ?lc_BadCell ?sa_BadCell ?cc1_BadCell ?h1_BadCell ?kc_BadCell ?wc_BadCell ?lc_BadNumber ?sa_BadNumber ?cc1_BadNumber ?h1_BadNumber ?kc_BadNumber ?wc_BadNumber ?e_BadSums_BadSums ?e_BadSums_BadRule ?e_BadSums_BadCell ?e_BadSums_BadNumber ?e_BadRule_BadSums ?e_BadRule_BadRule ?e_BadRule_BadCell ?e_BadRule_BadNumber ?e_BadCell_BadSums ?e_BadCell_BadRule ?e_BadCell_BadCell ?e_BadCell_BadNumber ?e_BadNumber_BadSums ?e_BadNumber_BadRule ?e_BadNumber_BadCell ?e_BadNumber_BadNumber ?g_BY_PLACE ?gl_BY_PLACE ?gc_BY_PLACE ?gz_BY_PLACE ?gv_BY_PLACE ?g_KINDS ?gl_KINDS ?gc_KINDS ?gz_KINDS ?gv_KINDS ?g_MOST ?g_MOST_COLUMNS ?g_MOST_ROWS ?z0 ?z1 ?z2 ?z3 ?z4 ?z5 ?z6 ?z7 ?z8
    (case aC_EdgeError => k_is)
    (case aC_BadSums => k_is)
    (case aC_BadRule => k_is)
    (case aC_BadCell => k_is)
    (case aC_BadNumber => k_is)
    (case aC_Measure => k_is)
    (case a_check_sums => k_is)
    (case o_check_sums => k_is)
    (case c_check_sums => k_is)
    (case k_check_sums => k_is)
    (case a_check_there => k_is)
    (case o_check_there => k_is)
    (case c_check_there => k_is)
    (case k_check_there => k_is)
    (case a_check_cell => k_is)
    (case o_check_cell => k_is)
    (case c_check_cell => k_is)
    (case k_check_cell => k_is)
    (case a_common_factor => k_is)
    (case o_common_factor => k_is)
    (case c_common_factor => k_is)
    (case k_common_factor => k_is)
    (case a_least_common => k_is)
    (case o_least_common => k_is)
    (case c_least_common => k_is)
    (case k_least_common => k_is)
    (case a_l_bag => k_is)
    (case o_l_bag => k_is)
    (case c_l_bag => k_is)
    (case k_l_bag => k_is)
    (case a_l_pull => k_is)
    (case o_l_pull => k_is)
    (case c_l_pull => k_is)
    (case k_l_pull => k_is)
    (case a_l_turned => k_is)
    (case o_l_turned => k_is)
    (case c_l_turned => k_is)
    (case k_l_turned => k_is)
    (case a_l_rowsums => k_is)
    (case o_l_rowsums => k_is)
    (case c_l_rowsums => k_is)
    (case k_l_rowsums => k_is)
    (case a_l_columnsums => k_is)
    (case o_l_columnsums => k_is)
    (case c_l_columnsums => k_is)
    (case k_l_columnsums => k_is)
    (case a_l_kind => k_is)
    (case o_l_kind => k_is)
    (case c_l_kind => k_is)
    (case k_l_kind => k_is)
    (case a_l_any => k_is)
    (case o_l_any => k_is)
    (case c_l_any => k_is)
    (case k_l_any => k_is)
    (case a_l_good_sums => k_is)
    (case o_l_good_sums => k_is)
    (case c_l_good_sums => k_is)
    (case k_l_good_sums => k_is)
    (case a_l_wild_sums => k_is)
    (case o_l_wild_sums => k_is)
    (case c_l_wild_sums => k_is)
    (case k_l_wild_sums => k_is)
    (case a_Measure___init__ => k_is)
    (case i_Measure___init__ => k_is)
    (case o_Measure___init__ => k_is)
    (case c_Measure___init__ => k_is)
    (case k_Measure___init__ => k_is)
    (case a_law => k_is)
    (case o_law => k_is)
    (case c_law => k_is)
    (case k_law => k_is)
    (case a_XEdgeError => k_is)
    (case o_XEdgeError => k_is)
    (case c_XEdgeError => k_is)
    (case k_XEdgeError => k_is)
    (case a_XBadSums => k_is)
    (case i_XBadSums => k_is)
    (case o_XBadSums => k_is)
    (case t_XBadSums => k_is)
    (case c_XBadSums => k_is)
    (case k_XBadSums => k_is)
    (case a_XBadRule => k_is)
    (case i_XBadRule => k_is)
    (case o_XBadRule => k_is)
    (case t_XBadRule => k_is)
    (case c_XBadRule => k_is)
    (case k_XBadRule => k_is)
    (case a_XBadCell => k_is)
    (case i_XBadCell => k_is)
    (case o_XBadCell => k_is)
    (case t_XBadCell => k_is)
    (case c_XBadCell => k_is)
    (case k_XBadCell => k_is)
    (case a_XBadNumber => k_is)
    (case i_XBadNumber => k_is)
    (case o_XBadNumber => k_is)
    (case t_XBadNumber => k_is)
    (case c_XBadNumber => k_is)
    (case k_XBadNumber => k_is)
    (case pg_Measure => k_is)
    (case hd_Measure => k_is)
    (case po_Measure => k_is)
    (case sa_Measure => k_is)
    (case mkz_Measure => k_is)
    (case kc_Measure => k_is)
    (case na_Measure_column_list => k_is)
    (case na_Measure_even => k_is)
    (case na_Measure_kind => k_is)
    (case na_Measure_place => k_is)
    (case na_Measure_row_list => k_is)
    (case ga_E => k_is)
    (case rd_E => k_is)
    (case lc_BadSums => k_is)
    (case sa_BadSums => k_is)
    (case cc1_BadSums => k_is)
    (case h1_BadSums => rfl)
    (case kc_BadSums => k_is)
    (case wc_BadSums => k_is)
    (case lc_BadRule => k_is)
    (case sa_BadRule => k_is)
    (case cc1_BadRule => k_is)
    (case h1_BadRule => rfl)
    (case kc_BadRule => k_is)
    (case wc_BadRule => k_is)
    (case lc_BadCell => k_is)
    (case sa_BadCell => k_is)
    (case cc1_BadCell => k_is)
    (case h1_BadCell => rfl)
    (case kc_BadCell => k_is)
    (case wc_BadCell => k_is)
    (case lc_BadNumber => k_is)
    (case sa_BadNumber => k_is)
    (case cc1_BadNumber => k_is)
    (case h1_BadNumber => rfl)
    (case kc_BadNumber => k_is)
    (case wc_BadNumber => k_is)
    (case e_BadSums_BadSums => first | kts_exm | (unfold PySem.W.exmOne; rfl) | rfl | decide)
    (case e_BadSums_BadRule => first | kts_exm | (unfold PySem.W.exmOne; rfl) | rfl | decide)
    (case e_BadSums_BadCell => first | kts_exm | (unfold PySem.W.exmOne; rfl) | rfl | decide)
    (case e_BadSums_BadNumber => first | kts_exm | (unfold PySem.W.exmOne; rfl) | rfl | decide)
    (case e_BadRule_BadSums => first | kts_exm | (unfold PySem.W.exmOne; rfl) | rfl | decide)
    (case e_BadRule_BadRule => first | kts_exm | (unfold PySem.W.exmOne; rfl) | rfl | decide)
    (case e_BadRule_BadCell => first | kts_exm | (unfold PySem.W.exmOne; rfl) | rfl | decide)
    (case e_BadRule_BadNumber => first | kts_exm | (unfold PySem.W.exmOne; rfl) | rfl | decide)
    (case e_BadCell_BadSums => first | kts_exm | (unfold PySem.W.exmOne; rfl) | rfl | decide)
    (case e_BadCell_BadRule => first | kts_exm | (unfold PySem.W.exmOne; rfl) | rfl | decide)
    (case e_BadCell_BadCell => first | kts_exm | (unfold PySem.W.exmOne; rfl) | rfl | decide)
    (case e_BadCell_BadNumber => first | kts_exm | (unfold PySem.W.exmOne; rfl) | rfl | decide)
    (case e_BadNumber_BadSums => first | kts_exm | (unfold PySem.W.exmOne; rfl) | rfl | decide)
    (case e_BadNumber_BadRule => first | kts_exm | (unfold PySem.W.exmOne; rfl) | rfl | decide)
    (case e_BadNumber_BadCell => first | kts_exm | (unfold PySem.W.exmOne; rfl) | rfl | decide)
    (case e_BadNumber_BadNumber => first | kts_exm | (unfold PySem.W.exmOne; rfl) | rfl | decide)
    (case g_BY_PLACE => k_is)
    (case gl_BY_PLACE => k_is)
    (case gc_BY_PLACE => rfl)
    (case gz_BY_PLACE => first | decide | (show (_ : Nat) ≤ _; decide))
    (case gv_BY_PLACE => repeat (first | exact trivial | refine ⟨rfl, ?_⟩))
    (case g_KINDS => k_is)
    (case gl_KINDS => k_is)
    (case gc_KINDS => rfl)
    (case gz_KINDS => first | decide | (show (_ : Nat) ≤ _; decide))
    (case gv_KINDS => repeat (first | exact trivial | refine ⟨rfl, ?_⟩))
    (case g_MOST => k_is)
    (case g_MOST_COLUMNS => k_is)
    (case g_MOST_ROWS => k_is)
    (case z0 => k_is)
    (case z1 => k_is)
    (case z2 => k_is)
    (case z3 => k_is)
    (case z4 => k_is)
    (case z5 => k_is)
    (case z6 => k_is)
    (case z7 => k_is)
    (case z8 => k_is)
