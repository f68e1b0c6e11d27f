import PyProof.Rows.All
import Wide.All
import OpenK.AllK
import Wide.FinOn
import Lean
import PyProof.EqAt
import PyProof.EqKinds
import PyProof.TupleCall
import PyProof.NsDelKeeps
import PyProof.ListRange
import PySem.Challenge.RW_edgetally_k28_measures_of_tables
set_option Elab.async false
set_option linter.all false
set_option maxRecDepth 100000
open PySem.W (Frag)
-- CHANGE: your row's module here, as the last of these rows
namespace L2
open PySem PySem.Spec PyProof.Rows
abbrev Key := Sum Int Str
def yb : Key -> Value -> Bool
 | .inl k, v => Value.isInt k v
 | .inr x, v => Value.isStrOf x v
def keyH (w : World) : Key -> Int
 | .inl k => hashInt k
 | .inr x => hashStr w x
theorem keyIs_shape : ∀ {k : Key} {v : Value}, yb k v = true -> (∃ i t, k = Sum.inl i /\ v = Value.int i t) \/ (∃ x t, k = Sum.inr x /\ v = Value.str x t)
 | .inl i, v, h => by
  obtain ⟨t, e⟩ := Value.isInt_shape (k := i) (v := v) h
  exact .inl ⟨i, t, rfl, e⟩
 | .inr x, v, h => by
  obtain ⟨t, e⟩ := Value.isStrOf_shape (x := x) (v := v) h
  exact .inr ⟨x, t, rfl, e⟩
theorem AM (a b : Int) : decide ((Sum.inl a : Key) = Sum.inl b) = (a == b) := by
 by_cases e : a = b
 ·subst e; simp
 ·have h : ¬ (Sum.inl a : Key) = Sum.inl b := fun q => e (Sum.inl.inj q)
  rw [decide_eq_false h]
  exact (beq_eq_false_iff_ne.mpr e).symm
theorem AJ (a b : Str) : decide ((Sum.inr a : Key) = Sum.inr b) = decide (a = b) := by
 by_cases e : a = b
 ·subst e; simp
 ·have h : ¬ (Sum.inr a : Key) = Sum.inr b := fun q => e (Sum.inr.inj q)
  rw [decide_eq_false h, decide_eq_false e]
theorem AL (a : Int) (b : Str) : decide ((Sum.inl a : Key) = Sum.inr b) = false := decide_eq_false (fun q => nomatch q)
theorem AK (a : Str) (b : Int) : decide ((Sum.inr a : Key) = Sum.inl b) = false := decide_eq_false (fun q => nomatch q)
def mo (prog : Program) (w : World) : PySem.KeyKind prog w Key where
 is := yb
 hash := keyH w
 inj := fun v a b ha hb => by
  rcases keyIs_shape ha with ⟨i, t, rfl, rfl⟩ | ⟨x, t, rfl, rfl⟩
  ·rcases keyIs_shape hb with ⟨j, u, rfl, e⟩ | ⟨y, u, rfl, e⟩
   ·injection e with e1 _; rw [e1]
   ·exact nomatch e
  ·rcases keyIs_shape hb with ⟨j, u, rfl, e⟩ | ⟨y, u, rfl, e⟩
   ·exact nomatch e
   ·injection e with e1 _; rw [e1]
 byValue := fun k v h => by
  rcases keyIs_shape h with ⟨i, t, rfl, rfl⟩ | ⟨x, t, rfl, rfl⟩ <;> rfl
 pyHash := fun hv h => by
  rcases keyIs_shape hv with ⟨i, t, rfl, rfl⟩ | ⟨x, t, rfl, rfl⟩
  ·exact wpAny_pyHash_int h
  ·exact wpAny_pyHash_str h
 eqBool := fun hu hv h => by
  rcases keyIs_shape hu with ⟨i, t, rfl, rfl⟩ | ⟨x, t, rfl, rfl⟩
  ·rcases keyIs_shape hv with ⟨j, u, rfl, rfl⟩ | ⟨y, u, rfl, rfl⟩
   ·rw [AM] at h; exact wpAny_eqBool_int h
   ·rw [AL] at h; exact SeqAt.EqAt.int_str i t y u _ _ _ _ h
  ·rcases keyIs_shape hv with ⟨j, u, rfl, rfl⟩ | ⟨y, u, rfl, rfl⟩
   ·rw [AK] at h; exact SeqAt.EqAt.str_int x t j u _ _ _ _ h
   ·rw [AJ] at h; exact wpAny_eqBool_str h
 «strs» := fun k x t v h => by
  rcases keyIs_shape h with ⟨i, u, rfl, e⟩ | ⟨y, u, rfl, e⟩
  ·exact nomatch e
  ·injection e with e1 _
   subst e1
   cases v <;> rfl
inductive V where
 | non | bl (b : Bool) | int (i : Int) | str (x : Str) | byt (b : Array UInt8) | flt (b : UInt64) | ref (a : Addr) | ty (n : String)
 deriving DecidableEq
def aN : V -> Value -> Prop
 | .non, u => u = Value.none
 | .bl b, u => u = Value.bool b
 | .int i, u => ∃ t, u = Value.int i t
 | .str x, u => ∃ t, u = Value.str x t
 | .byt b, u => ∃ t, u = Value.bytes b t
 | .flt b, u => ∃ t, u = Value.float b t
 | .ref a, u => u = Value.ref a
 | .ty n, u => u = Value.type n
abbrev ar : List V -> List Value -> Prop := Paired aN
theorem ar.length {xs : List V} {us : List Value} (r : ar xs us) : xs.length = us.length := Paired.length r
theorem ar.get : ∀ {xs : List V} {us : List Value} {i : Nat} {x : V}, ar xs us -> xs[i]? = some x -> ∃ u, us[i]? = some u /\ aN x u
 | _, _, _, _, .nil, e => by simp at e
 | _, _, 0, _, .cons r _, e => by simp at e; subst e; exact ⟨_, rfl, r⟩
 | _, _, i + 1, x, .cons _ t, e => by
  obtain ⟨u, h1, h2⟩ := ar.get (i := i) (x := x) t (by simpa using e)
  exact ⟨u, by simpa using h1, h2⟩
theorem ar.set {x : V} {u : Value} (r : aN x u) : ∀ {xs : List V} {us : List Value} (i : Nat), ar xs us -> ar (xs.set i x) (us.set i u)
 | _, _, _, .nil => .nil
 | _, _, 0, .cons _ t => .cons r t
 | _, _, i + 1, .cons q t => .cons q (ar.set r i t)
theorem ar.append : ∀ {xs ys : List V} {us ws : List Value}, ar xs us -> ar ys ws -> ar (xs ++ ys) (us ++ ws)
 | _, _, _, _, .nil, s => s
 | _, _, _, _, .cons r t, s => .cons r (ar.append t s)
theorem ar.take : ∀ {xs : List V} {us : List Value} (n : Nat), ar xs us -> ar (xs.take n) (us.take n)
 | _, _, 0, _ => .nil
 | _, _, _ + 1, .nil => .nil
 | _, _, n + 1, .cons r t => .cons r (ar.take n t)
theorem ar.drop : ∀ {xs : List V} {us : List Value} (n : Nat), ar xs us -> ar (xs.drop n) (us.drop n)
 | _, _, 0, r => r
 | _, _, _ + 1, .nil => .nil
 | _, _, n + 1, .cons _ t => ar.drop n t
def g0 : Option V -> Option Value -> Prop
 | some v, some u => aN v u
 | none, none => True
 | _, _ => False
def KV {κ : Type} : List (κ × V) -> List (κ × Value) -> Prop := Paired fun (p : κ × V) (q : κ × Value) => p.1 = q.1 /\ aN p.2 q.2
def kV : Key -> V
 | .inl i => .int i
 | .inr x => .str x
inductive HO where
 /-- a list -/
 | lst (xs : List V)
 /-- a tuple (never changes) -/
 | tup (xs : List V)
 /-- a dict whose keys are ints and texts; one whose keys are tuples of ints and texts (the empty one is both) -/
 | dK (kvs : List (Key × V)) | dT (kvs : List (List Key × V))
 /-- a set of ints: its members, its size -/
 | set (S : Int -> Bool) (n : Nat)
 /-- an instance of the class at C, its dict at dx, its attributes -/
 | ins (C dx : Addr) (fs : List (Str × V))
 /-- the dict of the instance at x -/
 | own (x : Addr)
 /-- the dict of an exception -/
 | xd (fs : List (Str × V))
 /-- a bound method, f of x -/
 | met (f x : Addr)
 /-- a range object lo, lo + 1, .. below hi -/
 | rng (lo hi : Int)
 /-- a thing that is known to the object (the script; a dict while a loop walks it): read, never written while it is so -/
 | frz (o : Obj) (u : HO)
 /-- a code object's table -/
 | tbl (ps : Array Value)
 /-- any other thing, by what is true of its one object (a def of one's own: SetO a S n := HO.ext fun h => ..) -/
 | ext (φ : Heap -> Prop)
abbrev Hp := Addr -> Option HO
def upd (H : Hp) (a : Addr) (o : HO) : Hp := fun b => if b = a then some o else H b
theorem ax {H : Hp} {a : Addr} {o : HO} : upd H a o a = some o := by unfold upd; rw [if_pos rfl]
theorem upd_ne {H : Hp} {a b : Addr} {o : HO} (h : b ≠ a) : upd H a o b = H b := by unfold upd; rw [if_neg h]
theorem CA {H : Hp} {a b : Addr} {o u : HO} (h : H a = some o) (h' : H b = some u) (d : o ≠ u) : a ≠ b := by
 intro e; subst e; rw [h] at h'; exact d (Option.some.inj h')
theorem ne_of_none {H : Hp} {a b : Addr} {o : HO} (h : H a = some o) (h' : H b = none) : a ≠ b := by
 intro e; subst e; rw [h] at h'; cases h'
section
variable (P : Program) (w : World)
def bf (H : Hp) (h : Heap) (a : Addr) : HO -> Prop
 | .lst xs => xs.length <= sizeLine /\ ∃ (its : List Value) (n : Nat), ar xs its /\ h.get? a = some { cls := .type "list", data := .seq its.toArray n }
 | .tup xs => xs.length <= sizeLine /\ ∃ its : List Value, ar xs its /\ IsTup h a its.toArray
 | .dK kvs => kvs.length <= sizeLine /\ (a == sysModules) = false /\ ∃ vs, KV kvs vs /\ h.DictOf (mo P w) a vs
 | .dT kvs => kvs.length <= sizeLine /\ (a == sysModules) = false /\ ∃ xs : List (List Key × Addr × Value),
   Paired (fun (p : List Key × V) (q : List Key × Addr × Value) => p.1 = q.1 /\ H q.2.1 = some (.tup (p.1.map kV)) /\ aN p.2 q.2.2) kvs xs /\
   ∃ o es ep, h.get? a = some o /\ o.ExactDict /\ o.data = .dict es ep /\ es.toList = xs.map (entryOfKey (tupleKind (mo P w))) /\ (xs.map (·.1)).Nodup
 | .set S n => h.SetOf (intKind P w) a S n
 | .ins C dx fs => H dx = some (.own a) /\ fs.length <= 1000 /\ dx ≠ a /\ h.get? a = some (PySem.W.instObj C dx) /\
   ∃ mA, h.Ns1 dx mA /\ (∀ f, g0 (fs.lookup f) (mA f)) /\ PySem.Within mA (fs.map (·.1))
 | .own _ => ∃ o, h.get? a = some o
 | .xd fs => ∃ mA, h.Ns1 a mA /\ ∀ f, g0 (fs.lookup f) (mA f)
 | .rng lo hi => ∃ t u v, h.get? a = some { cls := .type "range", data := .fields #[.int lo t, .int hi u, .int 1 v] }
 | .frz o u => h.get? a = some o /\ bf H h a u
 | .tbl ps => h.get? a = some { cls := .none, data := .fields ps }
 | .met f x => h.get? a = some (PySem.W.methodObj (.ref f) (.ref x))
 | .ext φ => φ h /\ (∃ o, h.get? a = some o) /\ ∀ h1 h2 : Heap, φ h1 -> (∀ o, h1.get? a = some o -> h2.get? a = some o) -> φ h2
def HOk (H : Hp) (h : Heap) : Prop := ∀ a o, H a = some o -> bf P w H h a o
end
section
variable {P : Program} {w : World} {H H' : Hp} {h h' : Heap} {a : Addr} {o : HO}
theorem bf.lt (x : bf P w H h a o) : a < h.objs.size := by
 cases o with
 | lst xs => obtain ⟨_, _, _, _, e⟩ := x; exact Heap.lt_size e
 | tup xs => obtain ⟨_, _, _, p⟩ := x; exact p.lt
 | dK kvs => obtain ⟨_, _, _, _, o, _, _, e, _⟩ := x; exact Heap.lt_size e
 | dT kvs => obtain ⟨_, _, _, _, o, _, _, e, _⟩ := x; exact Heap.lt_size e
 | set S n => obtain ⟨o, _, _, _, e, _⟩ := x; exact Heap.lt_size e
 | ins C dx fs => obtain ⟨_, _, _, e, _⟩ := x; exact Heap.lt_size e
 | own y => obtain ⟨_, e⟩ := x; exact Heap.lt_size e
 | xd fs => obtain ⟨_, ⟨_, _, _, e, _⟩, _⟩ := x; exact Heap.lt_size e
 | rng lo hi => obtain ⟨_, _, _, e⟩ := x; exact Heap.lt_size e
 | frz ob u => obtain ⟨e, _⟩ := x; exact Heap.lt_size e
 | tbl ps => exact Heap.lt_size (show h.get? a = some _ from x)
 | met f y => exact Heap.lt_size (show h.get? a = some _ from x)
 | ext φ => obtain ⟨_, ⟨_, e⟩, _⟩ := x; exact Heap.lt_size e
theorem Paired.mapP {α β : Type} {F G : α -> β -> Prop} : ∀ {l₁ : List α} {l₂ : List β}, Paired F l₁ l₂ -> (∀ a b, F a b -> G a b) -> Paired G l₁ l₂
 | _, _, .nil, _ => .nil
 | _, _, .cons r t, f => .cons (f _ _ r) (Paired.mapP t f)
theorem bf.stay (x : bf P w H h a o) (k : ∀ b u, (b = a \/ H b = some (.own a)) -> h.get? b = some u -> h'.get? b = some u)
  (ho : ∀ b, H b = some (.own a) -> H' b = some (.own a)) (ht : ∀ b xs, H b = some (.tup xs) -> H' b = some (.tup xs)) : bf P w H' h' a o := by
 induction o with
 | lst xs => obtain ⟨z, its, n, r, e⟩ := x; exact ⟨z, its, n, r, k _ _ (.inl rfl) e⟩
 | tup xs => obtain ⟨z, its, r, ob, e, c⟩ := x; exact ⟨z, its, r, ob, k _ _ (.inl rfl) e, c⟩
 | dK kvs => obtain ⟨z, y, vs, r, ob, es, ep, e, c⟩ := x; exact ⟨z, y, vs, r, ob, es, ep, k _ _ (.inl rfl) e, c⟩
 | dT kvs =>
  obtain ⟨z, y, xs, r, ob, es, ep, e, c⟩ := x
  exact ⟨z, y, xs, Paired.mapP r fun p q z => ⟨z.1, ht _ _ z.2.1, z.2.2⟩, ob, es, ep, k _ _ (.inl rfl) e, c⟩
 | set S n => obtain ⟨ob, es, ep, t, e, c⟩ := x; exact ⟨ob, es, ep, t, k _ _ (.inl rfl) e, c⟩
 | ins C dx fs =>
  obtain ⟨d, z, ne, e, mA, ⟨od, es, ep, e2, c⟩, r⟩ := x
  exact ⟨ho _ d, z, ne, k _ _ (.inl rfl) e, mA, ⟨od, es, ep, k _ _ (.inr d) e2, c⟩, r⟩
 | own y => obtain ⟨ob, e⟩ := x; exact ⟨ob, k _ _ (.inl rfl) e⟩
 | xd fs => obtain ⟨mA, ⟨od, es, ep, e, c⟩, r⟩ := x; exact ⟨mA, ⟨od, es, ep, k _ _ (.inl rfl) e, c⟩, r⟩
 | rng lo hi => obtain ⟨t, u, v, e⟩ := x; exact ⟨t, u, v, k _ _ (.inl rfl) e⟩
 | frz ob u ih => obtain ⟨e, q⟩ := x; exact ⟨k _ _ (.inl rfl) e, ih q⟩
 | tbl ps =>
  have e : h.get? a = some { cls := .none, data := .fields ps } := x
  show h'.get? a = some { cls := .none, data := .fields ps }
  exact k a _ (.inl rfl) e
 | met f y =>
  have e : h.get? a = some (PySem.W.methodObj (.ref f) (.ref y)) := x
  show h'.get? a = some (PySem.W.methodObj (.ref f) (.ref y))
  exact k a _ (.inl rfl) e
 | ext φ => obtain ⟨p, ⟨o, e⟩, st⟩ := x; exact ⟨st _ _ p fun o q => k _ _ (.inl rfl) q, ⟨o, k _ _ (.inl rfl) e⟩, st⟩
theorem HOk.lt (x : HOk P w H h) (e : H a = some o) : a < h.objs.size := (x a o e).lt
theorem HOk.fresh (x : HOk P w H h) (e : h.objs.size <= a) : H a = none := by
 cases q : H a with
 | none => rfl
 | some u => exact absurd (Nat.lt_of_lt_of_le (x.lt q) e) (Nat.lt_irrefl _)
theorem HOk.kept (x : HOk P w H h) (k : ∀ b u, h.get? b = some u -> h'.get? b = some u) : HOk P w H h' := fun a o e =>
 (x a o e).stay (fun b u _ q => k b u q) (fun _ q => q) fun _ _ q => q
theorem HOk.laid (x : HOk P w H h) (k : ∀ b u, h.get? b = some u -> h'.get? b = some u) (hp : h.objs.size <= a) (new : bf P w (upd H a o) h' a o) : HOk P w (upd H a o) h' := fun b u e => by
 have hn := x.fresh hp
 by_cases hb : b = a
 ·subst hb; rw [ax] at e; cases e; exact new
 ·rw [upd_ne hb] at e
  exact (x b u e).stay (fun c v _ q => k c v q) (fun c q => by rw [upd_ne (ne_of_none q hn)]; exact q) fun c xs q => by rw [upd_ne (ne_of_none q hn)]; exact q
end
def Rd (H : Hp) (a : Addr) (u : HO) : Prop := H a = some u \/ ∃ o, H a = some (.frz o u)
theorem Rd.ok {P : Program} {w : World} {H : Hp} {h : Heap} {a : Addr} {u : HO} (r : Rd H a u) (x : HOk P w H h) : bf P w H h a u := by
 rcases r with r | ⟨o, r⟩
 ·exact x a u r
 ·obtain ⟨_, q⟩ := x a _ r
  exact q
def Mut : Option HO -> Prop
 | some (.lst _) => True
 | some (.dK _) => True
 | some (.dT _) => True
 | some (.set _ _) => True
 | some (.ins _ _ _) => True
 | some (.ext _) => True
 | _ => False
section
variable {P : Program} {w : World} {H : Hp} {h h' : Heap} {x e : Addr} {o' : HO}
theorem HOk.write (ok : HOk P w H h) (mu : Mut (H x)) (he : e = x \/ H e = some (.own x)) (k : ∀ b u, b ≠ e -> h.get? b = some u -> h'.get? b = some u) (heo : ∃ u, h'.get? e = some u)
  (new : bf P w (upd H x o') h' x o') : HOk P w (upd H x o') h' := fun b u q => by
 have nown : ∀ c y, H c = some (.own y) -> c ≠ x := fun c y r z => by subst z; rw [r] at mu; exact mu
 have ntup : ∀ c xs, H c = some (.tup xs) -> c ≠ x := fun c xs r z => by subst z; rw [r] at mu; exact mu
 by_cases hb : b = x
 ·subst hb; rw [ax] at q; cases q; exact new
 ·rw [upd_ne hb] at q
  by_cases hbe : b = e
  ·have q' : H b = some (.own x) := by
    rcases he with z | z
    ·exact absurd (hbe.trans z) hb
    ·rw [hbe]; exact z
   rw [q] at q'; cases q'
   obtain ⟨v, hv⟩ := heo
   exact ⟨v, by rw [hbe]; exact hv⟩
  ·refine (ok b u q).stay (fun c v hc r => k c v ?_ r) (fun c r => by rw [upd_ne (nown c b r)]; exact r) fun c xs r => by rw [upd_ne (ntup c xs r)]; exact r
   rcases hc with rfl | hc
   ·exact hbe
   ·rintro rfl
    rcases he with z | z
    ·exact nown c b hc z
    ·rw [hc] at z; cases z; exact hb rfl
end
structure Un (fs ex : List Addr) (H H' : Hp) (h h' : Heap) : Prop where
 keep : ∀ b o, h.get? b = some o -> H b = none -> b ∉ fs -> b ∉ ex -> h'.get? b = some o
 slot : ∀ b o, h.get? b = some o -> H b = none -> b ∈ fs -> b ∉ ex -> ∃ sl, h'.get? b = some { o with slots := sl }
 free : ∀ b o, h.get? b = some o -> H b = none -> b ∉ ex -> H' b = none
 there : ∀ b o, h.get? b = some o -> b ∉ ex -> ∃ o', h'.get? b = some o'
 tups : ∀ b xs, H b = some (.tup xs) -> H' b = some (.tup xs)
 frzs : ∀ b o u, H b = some (.frz o u) -> H' b = some (.frz o u)
 tbls : ∀ b ps, H b = some (.tbl ps) -> ∃ more, H' b = some (.tbl (ps ++ more))
section
variable {fs fs' ex ex' : List Addr} {H H1 H2 : Hp} {h h1 h2 h' : Heap} {a x e : Addr} {o : HO}
theorem Un.any (u : Un fs ex H H1 h h1) {b : Addr} {ob : Obj} (q : h.get? b = some ob) (n : H b = none) (hx : b ∉ ex) : ∃ sl, h1.get? b = some { ob with slots := sl } := by
 by_cases hb : b ∈ fs
 ·exact u.slot b ob q n hb hx
 ·exact ⟨ob.slots, u.keep b ob q n hb hx⟩
theorem Un.trans (a : Un fs ex H H1 h h1) (b : Un fs ex H1 H2 h1 h2) : Un fs ex H H2 h h2 where
 keep := fun c ob q n hc hx => b.keep c ob (a.keep c ob q n hc hx) (a.free c ob q n hx) hc hx
 slot := fun c ob q n hc hx => by
  obtain ⟨sl, e1⟩ := a.slot c ob q n hc hx
  obtain ⟨sl', e2⟩ := b.slot c _ e1 (a.free c ob q n hx) hc hx
  exact ⟨sl', e2⟩
 free := fun c ob q n hx => by
  obtain ⟨o', e1⟩ := a.there c ob q hx
  exact b.free c o' e1 (a.free c ob q n hx) hx
 there := fun c ob q hx => by
  obtain ⟨o', e1⟩ := a.there c ob q hx
  exact b.there c o' e1 hx
 tups := fun c xs q => b.tups c xs (a.tups c xs q)
 frzs := fun c ob xs q => b.frzs c ob xs (a.frzs c ob xs q)
 tbls := fun c ps q => by
  obtain ⟨m1, e1⟩ := a.tbls c ps q
  obtain ⟨m2, e2⟩ := b.tbls c _ e1
  exact ⟨m1 ++ m2, by rw [e2, Array.append_assoc]⟩
theorem Un.kept (k : ∀ b u, h.get? b = some u -> h'.get? b = some u) : Un fs ex H H h h' :=
 ⟨fun b ob q _ _ _ => k b ob q, fun b ob q _ _ _ => ⟨ob.slots, k b ob q⟩, fun _ _ _ n _ => n, fun b ob q _ => ⟨ob, k b ob q⟩, fun _ _ q => q, fun _ _ _ q => q, fun _ ps q => ⟨#[], by rw [q]; simp⟩⟩
theorem Un.refl : Un fs ex H H h h := Un.kept fun _ _ q => q
theorem Un.laid (k : ∀ b u, h.get? b = some u -> h'.get? b = some u) (hp : h.objs.size <= a) (hn : H a = none) : Un fs ex H (upd H a o) h h' where
 keep := fun b u q _ _ _ => k b u q
 slot := fun b u q _ _ _ => ⟨u.slots, k b u q⟩
 free := fun b u q n _ => by rw [upd_ne (Nat.ne_of_lt (Nat.lt_of_lt_of_le (Heap.lt_size q) hp))]; exact n
 there := fun b u q _ => ⟨u, k b u q⟩
 tups := fun b xs q => by rw [upd_ne (ne_of_none q hn)]; exact q
 frzs := fun b u xs q => by rw [upd_ne (ne_of_none q hn)]; exact q
 tbls := fun b ps q => ⟨#[], by rw [upd_ne (ne_of_none q hn), q]; simp⟩
theorem Un.write (mu : Mut (H x)) (he : e = x \/ H e = some (.own x)) (k : ∀ b u, b ≠ e -> h.get? b = some u -> h'.get? b = some u) (heo : ∃ u, h'.get? e = some u) : Un fs ex H (upd H x o) h h' := by
 have hx : ∀ b, H b = none -> b ≠ x := fun b n z => by subst z; rw [n] at mu; exact mu
 have hb : ∀ b, H b = none -> b ≠ e := fun b n z => by
  subst z
  rcases he with r | r
  ·exact hx b n r
  ·rw [n] at r; cases r
 have hm : ∀ b u, H b = some u -> ¬ Mut (some u) -> b ≠ x := fun b u q nm z => by subst z; rw [q] at mu; exact nm mu
 refine ⟨fun b u q n _ _ => k b u (hb b n) q, fun b u q n _ _ => ⟨u.slots, k b u (hb b n) q⟩, fun b u q n _ => by rw [upd_ne (hx b n)]; exact n, fun b u q _ => ?_,
  fun b xs q => by rw [upd_ne (hm b _ q fun z => z)]; exact q, fun b u xs q => by rw [upd_ne (hm b _ q fun z => z)]; exact q, fun b ps q => ⟨#[], by rw [upd_ne (hm b _ q fun z => z), q]; simp⟩⟩
 by_cases hbe : b = e
 ·subst hbe; exact heo
 ·exact ⟨u, k b u hbe q⟩
theorem Un.mono (u : Un fs ex H H1 h h1) (hs : ∀ b ∈ fs, b ∈ fs') (hx : ∀ b ∈ ex, b ∈ ex') : Un fs' ex' H H1 h h1 :=
 ⟨fun b ob q n hb he => u.keep b ob q n (fun z => hb (hs b z)) fun z => he (hx b z), fun _ _ q n _ he => u.any q n fun z => he (hx _ z), fun b ob q n he => u.free b ob q n fun z => he (hx b z), fun b ob q he => u.there b ob q fun z => he (hx b z), u.tups, u.frzs, u.tbls⟩
end
def trk (h : Heap) (H : Hp) : List Addr := (List.range h.objs.size).filter fun a => (H a).isSome
def iK (h : Heap) (H : Hp) : Heap := PySem.W.hideAll h (trk h H)
theorem uo (h : Heap) (H : Hp) : (iK h H).objs.size = h.objs.size := PySem.W.hideAll_size _ _
theorem vG {h : Heap} {H : Hp} {b : Addr} {o : Obj} (e : h.get? b = some o) (n : H b = none) : (iK h H).get? b = some o :=
 PySem.W.hideAll_get _ e fun hm => by
  have q : (H b).isSome = true := (List.mem_filter.mp hm).2
  rw [n] at q; simp at q
theorem yZ {h : Heap} {H : Hp} {b : Addr} {o : Obj} (e : (iK h H).get? b = some o) : h.get? b = some o /\ H b = none := by
 have e' : h.get? b = some o := PySem.W.of_hideAll (trk h H) e
 refine ⟨e', ?_⟩
 cases q : H b with
 | none => rfl
 | some x =>
  have hm : b ∈ trk h H := List.mem_filter.mpr ⟨List.mem_range.mpr (Heap.lt_size e'), by simp [q]⟩
  have z : (iK h H).get? b = none := PySem.W.hideAll_none (trk h H) hm
  rw [z] at e; cases e
structure Mod (K : Frag) (mg : Str -> Option Value) (base : Heap) : Prop where
 kin : K.In base
 glob : base.Ns mainGlobals mg
 blt : ∃ mb, base.Ns builtinsNs mb /\ ∀ x : Str, x ≠ "__name__" -> mb x = bootBuiltins x
 nolimit : base.NoLimit
/-- the context: a def's body (or a comprehension's block) running. base: fixed through the whole law; s₀, H₀: the entry; outer: the frames whose slots others may change (a def's callers); stack: all frames that run;
  ex: iterators that were made ahead of the entry and are walked here (a comprehension's); fn: the names whose cells were made at the entry (a def: all; a comprehension's block: its own); calm: not within an except suite; pn: pins that every state bears; xe: what is wanted of an exception that leaves the code -/
structure Cx where
 prog : Program
 w : World
 K : Frag
 mg : Str -> Option Value
 base : Heap
 A : Around
 N : List Str
 s₀ : Shared
 H₀ : Hp
 env : Env
 outer : List Env
 stack : List Env
 ex : List Addr
 fn : Str -> Bool
 calm : Bool
 pn : List (Addr × Obj)
 xe : Value -> Shared -> Prop
def frs (l : List Env) : List Addr := l.filterMap (·.frame)
abbrev Cx.fs (X : Cx) : List Addr := frs X.outer
def Vis (sc : Scope) (x : Str) : Prop := sc.names.lookup x = some .local \/ sc.names.lookup x = some .cell \/ sc.names.lookup x = some .free
def Loc (sc : Scope) (x : Str) : Prop := sc.names.lookup x = some .local \/ sc.names.lookup x = some .cell
def Look (env : Env) (h : Heap) (m : Str -> Option Value) (x : Str) (u : Value) : Prop :=
 (env.kindOf x = some .local /\ m x = some u) \/ ((env.kindOf x = some .cell \/ env.kindOf x = some .free) /\ ∃ c, env.cells.lookup x = some c /\ h.IsCell c (some u))
structure Cx.Ok (X : Cx) : Prop where
 mod : Mod X.K X.mg X.base
 kind : X.env.scope.kind = .function
 glob : X.env.globals = mainGlobals
 blt : X.env.builtins = builtinsNs
 above : X.s₀.heap.objs.size <= X.env.locals
 inj : ∀ x y c, X.env.cells.lookup x = some c -> X.env.cells.lookup y = some c -> x = y
 has : ∀ x, (X.env.kindOf x = some .cell \/ X.env.kindOf x = some .free) -> ∃ c, X.env.cells.lookup x = some c
 cab : ∀ x c, X.fn x = true -> X.env.cells.lookup x = some c -> X.s₀.heap.objs.size <= c
 hd : X.calm = true -> X.A.handled = none
 frames : X.A.frames = some X.stack
 stk : X.stack = X.outer \/ (X.stack = X.env :: X.outer /\ X.env.frame = some X.env.locals)
 exf : ∀ b ∈ X.ex, b ≠ X.env.locals /\ ∀ x c, X.env.cells.lookup x = some c -> c ≠ b
 bs : ∀ b o, X.base.get? b = some o -> X.s₀.heap.get? b = some o /\ X.H₀ b = none
 bsz : X.base.objs.size <= X.s₀.heap.objs.size
 noex : ∀ b o, X.base.get? b = some o -> b ∉ X.ex
 exfs : ∀ b ∈ X.ex, b ∉ X.fs
 funs : X.s₀.heap.FunFrames X.base X.outer
 frf : ∀ b ∈ X.fs, X.H₀ b = none
structure Inv (X : Cx) (pins : List (Addr × Obj)) (σ : List (Option V)) (H : Hp) (s : Shared) : Prop where
 ok : X.Ok
 os : s.os = X.s₀.os
 bare : AllBare s.gens
 base : Un X.fs X.ex X.H₀ H X.s₀.heap s.heap
 loc : ∃ m, s.heap.Ns X.env.locals m /\ ∀ (i : Nat) (x : Str) (v : V), X.N[i]? = some x -> σ[i]? = some (some v) -> Vis X.env.scope x -> ∃ u, aN v u /\ Look X.env s.heap m x u
 cell : ∀ x c, X.env.cells.lookup x = some c -> ∃ v, s.heap.IsCell c v
 free : H X.env.locals = none
 freeC : ∀ x c, X.env.cells.lookup x = some c -> H c = none
 pin : ∀ p ∈ X.pn ++ pins, s.heap.get? p.1 = some p.2 /\ H p.1 = none /\ p.1 ≠ X.env.locals /\ p.1 ∉ X.fs /\ ∀ v, p.2.data ≠ .cell v
 hok : HOk X.prog X.w H s.heap
 len : σ.length = X.N.length
section
variable {X : Cx} {pins : List (Addr × Obj)} {σ : List (Option V)} {H H' : Hp} {s : Shared} {h' : Heap}
theorem Cx.Ok.nofr (ok : X.Ok) {b : Addr} {o : Obj} (e : X.base.get? b = some o) : b ∉ X.fs := fun hb => by
 have := (ok.funs.mem hb).1
 rw [e] at this; cases this
theorem Inv.bs (I : Inv X pins σ H s) : ∀ b o, X.base.get? b = some o -> s.heap.get? b = some o /\ H b = none := fun b o e =>
 ⟨I.base.keep b o (I.ok.bs b o e).1 (I.ok.bs b o e).2 (I.ok.nofr e) (I.ok.noex b o e), I.base.free b o (I.ok.bs b o e).1 (I.ok.bs b o e).2 (I.ok.noex b o e)⟩
theorem Inv.bk (I : Inv X pins σ H s) : ∀ b o, X.base.get? b = some o -> s.heap.get? b = some o := fun b o e => (I.bs b o e).1
theorem Inv.mod (I : Inv X pins σ H s) : Mod X.K X.mg X.base := I.ok.mod
theorem Inv.kIn (I : Inv X pins σ H s) : X.K.In s.heap := I.ok.mod.kin.keeps I.bk
theorem Inv.fr (I : Inv X pins σ H s) : ∃ m, Fr X.base X.env.locals s.heap m :=
 let ⟨m, hn, _⟩ := I.loc
 ⟨m, hn, I.bk, Nat.le_trans I.ok.bsz I.ok.above⟩
theorem Inv.lt (I : Inv X pins σ H s) : X.env.locals < s.heap.objs.size := let ⟨_, hn, _⟩ := I.loc; hn.lt
theorem Inv.sz (I : Inv X pins σ H s) : X.s₀.heap.objs.size <= s.heap.objs.size := Nat.le_trans I.ok.above (Nat.le_of_lt I.lt)
theorem Inv.nofs (I : Inv X pins σ H s) {a : Addr} (h : s.heap.objs.size <= a) : a ∉ X.fs := fun hb => by
 obtain ⟨_, o, ho, _⟩ := I.ok.funs.mem hb
 exact absurd (Nat.lt_of_lt_of_le (Heap.lt_size ho) (Nat.le_trans I.sz h)) (Nat.lt_irrefl _)
theorem Inv.cne (I : Inv X pins σ H s) : ∀ x c, X.env.cells.lookup x = some c -> c ≠ X.env.locals := fun x c e z => by
 obtain ⟨v, o, ho, hd⟩ := I.cell x c e
 obtain ⟨m, ⟨o', es, ep, ho', hd', _⟩, _⟩ := I.loc
 rw [z, ho'] at ho; cases ho; rw [hd'] at hd; cases hd
theorem Inv.funs (I : Inv X pins σ H s) : s.heap.FunFrames X.base X.outer := by
 have all : ∀ (l : List Env), (∀ b ∈ frs l, b ∈ X.fs) -> X.s₀.heap.FunFrames X.base l -> s.heap.FunFrames X.base l := by
  intro l
  induction l with
  | nil => intro _ _; trivial
  | cons env r ih =>
   intro hs hl
   obtain ⟨hk, ⟨L, o, hf, hn, ho, hd⟩, hr⟩ := hl
   have hL : L ∈ X.fs := hs L (by unfold frs; rw [List.filterMap_cons, hf]; exact List.mem_cons_self)
   obtain ⟨sl, e⟩ := I.base.slot L o ho (I.ok.frf L hL) hL fun z => I.ok.exfs L z hL
   exact ⟨hk, ⟨L, _, hf, hn, e, hd⟩, ih (fun b hb => hs b (by unfold frs; rw [List.filterMap_cons, hf]; exact List.mem_cons_of_mem _ hb)) hr⟩
 exact all X.outer (fun _ hb => hb) I.ok.funs
theorem Inv.stack (I : Inv X pins σ H s) : s.heap.FunFrames X.base X.stack := by
 rcases I.ok.stk with e | ⟨e, hf⟩
 ·rw [e]; exact I.funs
 ·rw [e]
  obtain ⟨m, hn, _⟩ := I.loc
  refine .cons (by rw [I.ok.kind]; decide) hf hn ?_ I.funs
  exact Heap.get?_none_of_le (Nat.le_trans I.ok.bsz I.ok.above)
theorem Inv.stkSub (I : Inv X pins σ H s) : ∀ b ∈ frs X.stack, b ∈ X.env.locals :: X.fs := fun b hb => by
 rcases I.ok.stk with e | ⟨e, hf⟩
 ·rw [e] at hb; exact List.mem_cons_of_mem _ hb
 ·rw [e] at hb
  unfold frs at hb
  rw [List.filterMap_cons, hf] at hb
  exact hb
theorem Inv.stkFree (I : Inv X pins σ H s) : ∀ b ∈ frs X.stack, H b = none := fun b hb => by
 rcases List.mem_cons.mp (I.stkSub b hb) with e | hb
 ·rw [e]; exact I.free
 ·obtain ⟨_, o, ho, _⟩ := I.ok.funs.mem hb
  exact I.base.free b o ho (I.ok.frf b hb) fun z => I.ok.exfs b z hb
theorem Inv.step {g' : Array GenState} {t' : Nat} {d' : Drawn} {ch : List Addr} (I : Inv X pins σ H s)
  (hch : ∀ b ∈ ch, (b ∈ X.ex \/ X.s₀.heap.objs.size <= b) /\ b ≠ X.env.locals /\ (∀ x c, X.env.cells.lookup x = some c -> c ≠ b) /\ ∀ p ∈ X.pn ++ pins, p.1 ≠ b)
  (keep : ∀ b o, b ≠ X.env.locals -> b ∉ X.fs -> b ∉ ch -> s.heap.get? b = some o -> H b = none -> h'.get? b = some o)
  (slot : ∀ b o, b ≠ X.env.locals -> b ∈ X.fs -> b ∉ ch -> s.heap.get? b = some o -> H b = none -> ∃ sl, h'.get? b = some { o with slots := sl }) (free : ∀ b o, b ∉ ch -> s.heap.get? b = some o -> H b = none -> H' b = none)
  (there : ∀ b o, b ∉ ch -> s.heap.get? b = some o -> ∃ o', h'.get? b = some o')
  (tups : ∀ b xs, H b = some (.tup xs) -> H' b = some (.tup xs)) (frzs : ∀ b o u, H b = some (.frz o u) -> H' b = some (.frz o u)) (tbls : ∀ b ps, H b = some (.tbl ps) -> ∃ more, H' b = some (.tbl (ps ++ more)))
  (ns : ∀ m, s.heap.Ns X.env.locals m -> h'.Ns X.env.locals m) (hok : HOk X.prog X.w H' h') (hg : AllBare g') :
  Inv X pins σ H' { s with heap := h', gens := g', drawn := d', toks := t' } := by
 have neL : ∀ b o, X.s₀.heap.get? b = some o -> b ≠ X.env.locals := fun b o e => Nat.ne_of_lt (Nat.lt_of_lt_of_le (Heap.lt_size e) I.ok.above)
 have neC : ∀ b o, X.s₀.heap.get? b = some o -> b ∉ X.ex -> b ∉ ch := fun b o e hx hb => by
  rcases (hch b hb).1 with z | z
  ·exact hx z
  ·exact absurd (Nat.lt_of_lt_of_le (Heap.lt_size e) z) (Nat.lt_irrefl _)
 have cellK : ∀ x c, X.env.cells.lookup x = some c -> ∀ v, s.heap.IsCell c v -> h'.IsCell c v := fun x c e v ⟨o, ho, hd⟩ => by
  have nch : c ∉ ch := fun z => (hch c z).2.2.1 x c e rfl
  by_cases hc : c ∈ X.fs
  ·obtain ⟨sl, q⟩ := slot c o (I.cne x c e) hc nch ho (I.freeC x c e)
   exact ⟨_, q, hd⟩
  ·exact ⟨o, keep c o (I.cne x c e) hc nch ho (I.freeC x c e), hd⟩
 refine ⟨I.ok, I.os, hg, ⟨fun b o e n hb hx => ?_, fun b o e n hb hx => ?_, fun b o e n hx => ?_, fun b o e hx => ?_, fun b xs e => tups b xs (I.base.tups b xs e), fun b o xs e => frzs b o xs (I.base.frzs b o xs e), fun b ps e => ?_⟩, ?_, fun x c e => ?_, ?_, fun x c e => ?_, fun p hp => ?_, hok, I.len⟩
 ·exact keep b o (neL b o e) hb (neC b o e hx) (I.base.keep b o e n hb hx) (I.base.free b o e n hx)
 ·obtain ⟨sl, e1⟩ := I.base.slot b o e n hb hx
  obtain ⟨sl', e2⟩ := slot b _ (neL b o e) hb (neC b o e hx) e1 (I.base.free b o e n hx)
  exact ⟨sl', e2⟩
 ·obtain ⟨o', e1⟩ := I.base.there b o e hx
  exact free b o' (neC b o e hx) e1 (I.base.free b o e n hx)
 ·obtain ⟨o', e1⟩ := I.base.there b o e hx
  exact there b o' (neC b o e hx) e1
 ·obtain ⟨m1, e1⟩ := I.base.tbls b ps e
  obtain ⟨m2, e2⟩ := tbls b _ e1
  exact ⟨m1 ++ m2, by rw [e2, Array.append_assoc]⟩
 ·obtain ⟨m, hn, hl⟩ := I.loc
  refine ⟨m, ns m hn, fun i x v e1 e2 e3 => ?_⟩
  obtain ⟨u, r, l⟩ := hl i x v e1 e2 e3
  refine ⟨u, r, ?_⟩
  rcases l with l | ⟨k, c, e, z⟩
  ·exact .inl l
  ·exact .inr ⟨k, c, e, cellK x c e _ z⟩
 ·obtain ⟨v, z⟩ := I.cell x c e
  exact ⟨v, cellK x c e v z⟩
 ·obtain ⟨m, ⟨o, _, _, ho, _⟩, _⟩ := I.loc
  exact free _ o (fun z => (hch _ z).2.1 rfl) ho I.free
 ·obtain ⟨v, o, ho, hd⟩ := I.cell x c e
  exact free c o (fun z => (hch c z).2.2.1 x c e rfl) ho (I.freeC x c e)
 ·obtain ⟨e, n, ne, nf, d⟩ := I.pin p hp
  have nch : p.1 ∉ ch := fun z => (hch p.1 z).2.2.2 p hp rfl
  exact ⟨keep p.1 p.2 ne nf nch e n, free p.1 p.2 nch e n, ne, nf, d⟩
theorem Inv.un {t' : Nat} (I : Inv X pins σ H s) (u : Un X.fs [] H H' s.heap h') (hok : HOk X.prog X.w H' h') : Inv X pins σ H' { s with heap := h', toks := t' } := by
 obtain ⟨m, ⟨o, es, ep, ho, r⟩, _⟩ := id I.loc
 obtain ⟨sl, hL⟩ := u.any ho I.free (by simp)
 exact I.step (g' := s.gens) (d' := s.drawn) (ch := []) (fun _ z => nomatch z) (fun b o _ hb _ e n => u.keep b o e n hb (by simp)) (fun b o _ hb _ e n => u.slot b o e n hb (by simp)) (fun b o _ e n => u.free b o e n (by simp)) (fun b o _ e => u.there b o e (by simp)) u.tups u.frzs u.tbls (fun m' hm => by
  obtain ⟨o', es', ep', ho', r'⟩ := hm
  rw [ho] at ho'; cases ho'
  exact ⟨_, es', ep', hL, r'⟩) hok I.bare
theorem Inv.call {g' : Array GenState} {t' : Nat} {d' : Drawn} {ch : List Addr} (I : Inv X pins σ H s) (u : Un (frs X.stack) ch H H' s.heap h') (hok : HOk X.prog X.w H' h') (hg : AllBare g')
  (hch : ∀ b ∈ ch, (b ∈ X.ex \/ X.s₀.heap.objs.size <= b) /\ b ≠ X.env.locals /\ (∀ x c, X.env.cells.lookup x = some c -> c ≠ b) /\ ∀ p ∈ X.pn ++ pins, p.1 ≠ b) :
  Inv X pins σ H' { s with heap := h', gens := g', drawn := d', toks := t' } := by
 obtain ⟨m, ⟨o, es, ep, ho, r⟩, _⟩ := id I.loc
 obtain ⟨sl, hL⟩ := u.any ho I.free fun z => (hch _ z).2.1 rfl
 exact I.step (ch := ch) hch (fun b o hL hb hc e n => u.keep b o e n (fun z => (List.mem_cons.mp (I.stkSub b z)).elim hL hb) hc) (fun b o _ _ hc e n => u.any e n hc) (fun b o hc e n => u.free b o e n hc) (fun b o hc e => u.there b o e hc) u.tups u.frzs u.tbls (fun m' hm => by
  obtain ⟨o', es', ep', ho', r'⟩ := hm
  rw [ho] at ho'; cases ho'
  exact ⟨_, es', ep', hL, r'⟩) hok hg
theorem Inv.turned {t' : Nat} {it : Addr} (I : Inv X pins σ H s) (k : ∀ b o, b ≠ it -> s.heap.get? b = some o -> h'.get? b = some o) (hn : H it = none) (hL : it ≠ X.env.locals)
  (h1 : it ∈ X.ex \/ X.s₀.heap.objs.size <= it) (h2 : ∀ x c, X.env.cells.lookup x = some c -> c ≠ it) (h3 : ∀ p ∈ X.pn ++ pins, p.1 ≠ it) : Inv X pins σ H { s with heap := h', toks := t' } := by
 have nit : ∀ b u, H b = some u -> b ≠ it := fun b u e z => by rw [z, hn] at e; cases e
 refine I.step (g' := s.gens) (d' := s.drawn) (ch := [it]) (fun b hb => ?_) (fun b o _ _ hc e _ => k b o (fun z => hc (by simp [z])) e) (fun b o _ _ hc e _ => ⟨o.slots, k b o (fun z => hc (by simp [z])) e⟩) (fun _ _ _ _ n => n)
  (fun b o hc e => ⟨o, k b o (fun z => hc (by simp [z])) e⟩) (fun _ _ e => e) (fun _ _ _ e => e) (fun b ps e => ⟨#[], by rw [e]; simp⟩) (fun m hm => ?_) (fun b u e => ?_) I.bare
 ·have e : b = it := by simpa using hb
  subst e
  exact ⟨h1, hL, h2, h3⟩
 ·obtain ⟨o, es, ep, ho, r⟩ := hm
  exact ⟨o, es, ep, k _ o (Ne.symm hL) ho, r⟩
 ·refine (I.hok b u e).stay (fun c v hc q => k c v ?_ q) (fun _ q => q) fun _ _ q => q
  rcases hc with z | z
  ·rw [z]; exact nit b u e
  ·exact nit c _ z
theorem Inv.tok (I : Inv X pins σ H s) (t : Nat) : Inv X pins σ H { s with toks := t } := I.un (h' := s.heap) (t' := t) Un.refl I.hok
theorem Inv.kept {t' : Nat} (I : Inv X pins σ H s) (k : ∀ b u, s.heap.get? b = some u -> h'.get? b = some u) : Inv X pins σ H { s with heap := h', toks := t' } := I.un (Un.kept k) (I.hok.kept k)
theorem Inv.laid {a : Addr} {o : HO} {t' : Nat} (I : Inv X pins σ H s) (k : ∀ b u, s.heap.get? b = some u -> h'.get? b = some u) (hp : s.heap.objs.size <= a) (new : bf X.prog X.w (upd H a o) h' a o) :
  Inv X pins σ (upd H a o) { s with heap := h', toks := t' } := I.un (Un.laid k hp (I.hok.fresh hp)) (I.hok.laid k hp new)
theorem Inv.write {x e : Addr} {o : HO} {t' : Nat} (I : Inv X pins σ H s) (mu : Mut (H x)) (he : e = x \/ H e = some (.own x)) (k : ∀ b u, b ≠ e -> s.heap.get? b = some u -> h'.get? b = some u) (heo : ∃ u, h'.get? e = some u)
  (new : bf X.prog X.w (upd H x o) h' x o) : Inv X pins σ (upd H x o) { s with heap := h', toks := t' } := I.un (Un.write mu he k heo) (I.hok.write mu he k heo new)
theorem Inv.pins_of {pins' : List (Addr × Obj)} (I : Inv X pins σ H s) (h : ∀ p ∈ pins', s.heap.get? p.1 = some p.2 /\ H p.1 = none /\ p.1 ≠ X.env.locals /\ p.1 ∉ X.fs /\ ∀ v, p.2.data ≠ .cell v) : Inv X pins' σ H s :=
 ⟨I.ok, I.os, I.bare, I.base, I.loc, I.cell, I.free, I.freeC, fun p hp => (List.mem_append.mp hp).elim (fun z => I.pin p (List.mem_append_left _ z)) (h p), I.hok, I.len⟩
theorem o9 {N : List Str} (hN : N.Nodup) {i j : Nat} {x : Str} (a : N[i]? = some x) (b : N[j]? = some x) : i = j := by
 obtain ⟨h1, e1⟩ := List.getElem?_eq_some_iff.mp a
 obtain ⟨h2, e2⟩ := List.getElem?_eq_some_iff.mp b
 exact (List.getElem_inj hN).mp (e1.trans e2.symm)
theorem mX {M : Model} {A : Around} {E : Value -> Shared -> Prop} {i : Nat} {x : Str} {v : V} {u : Value} {Q : Unit -> Shared -> Prop} (I : Inv X pins σ H s) (hN : X.N.Nodup) (hi : X.N[i]? = some x) (hx : Loc X.env.scope x) (r : aN v u)
  (h : ∀ s', Inv X pins (σ.set i (some v)) H s' -> (∃ a, Heap.SameBut a s.heap s'.heap /\ (a = X.env.locals \/ X.env.cells.lookup x = some a)) -> Q () s') (hf : X.fn x = true \/ X.env.scope.names.lookup x = some .local := by first | exact .inl rfl | exact .inr rfl | assumption) : wpAny M A (storeName X.env x u) Q E s := by
 obtain ⟨m, hn, hl⟩ := id I.loc
 have hcls : (X.env.scope.kind == .class || (X.env.scope.kind == .module && X.env.locals != X.env.globals)) = false := by rw [I.ok.kind]; rfl
 have hiσ : i < σ.length := by rw [I.len]; exact (List.getElem?_eq_some_iff.mp hi).1
 have cne := I.cne
 have tracked : ∀ {a : Addr} {h' : Heap}, (∃ o, s.heap.get? a = some o /\ H a = none) -> Heap.SameBut a s.heap h' -> HOk X.prog X.w H h' := fun {a h'} ha hs b ob e => by
  obtain ⟨_, _, hfree⟩ := ha
  refine (I.hok b ob e).stay (fun c w' hc q => (hs.2 c ?_).trans q) (fun _ q => q) fun _ _ q => q
  rintro rfl
  rcases hc with rfl | hc
  ·rw [hfree] at e; cases e
  ·rw [hfree] at hc; cases hc
 rcases hx with hk | hk
 ·refine wpAny_storeName_local hk hn (fun h' hn' hs => ?_) hcls
  obtain ⟨oL, _, _, hoL, _⟩ := id hn
  refine h _ ⟨I.ok, I.os, I.bare, ⟨fun b o e n hb hx => ?_, fun b o e n hb hx => ?_, I.base.free, fun b o e hx => ?_, I.base.tups, I.base.frzs, I.base.tbls⟩, ⟨_, hn', fun j y v' e1 e2 e3 => ?_⟩, fun y c e => ?_, I.free, I.freeC, fun p hp => ?_, tracked ⟨oL, hoL, I.free⟩ hs, by simpa using I.len⟩ ⟨_, hs, .inl rfl⟩
  ·exact (hs.2 b (Nat.ne_of_lt (Nat.lt_of_lt_of_le (Heap.lt_size e) I.ok.above))).trans (I.base.keep b o e n hb hx)
  ·obtain ⟨sl, e1⟩ := I.base.slot b o e n hb hx
   exact ⟨sl, (hs.2 b (Nat.ne_of_lt (Nat.lt_of_lt_of_le (Heap.lt_size e) I.ok.above))).trans e1⟩
  ·obtain ⟨o', e1⟩ := I.base.there b o e hx
   exact ⟨o', (hs.2 b (Nat.ne_of_lt (Nat.lt_of_lt_of_le (Heap.lt_size e) I.ok.above))).trans e1⟩
  ·by_cases hj : j = i
   ·subst hj
    rw [hi] at e1; cases e1
    rw [List.getElem?_set_self hiσ] at e2
    cases e2
    exact ⟨u, r, .inl ⟨hk, by simp⟩⟩
   ·rw [List.getElem?_set_ne (Ne.symm hj)] at e2
    obtain ⟨u', r', q⟩ := hl j y v' e1 e2 e3
    refine ⟨u', r', ?_⟩
    rcases q with ⟨k, e⟩ | ⟨k, c, e, z⟩
    ·refine .inl ⟨k, ?_⟩
     have : y ≠ x := fun e => hj (o9 hN e1 (e ▸ hi))
     simp [this, e]
    ·exact .inr ⟨k, c, e, z.sameBut hs (cne y c e)⟩
  ·obtain ⟨w', z⟩ := I.cell y c e
   exact ⟨w', z.sameBut hs (cne y c e)⟩
  ·obtain ⟨e, n, ne, nf, d⟩ := I.pin p hp
   exact ⟨(hs.2 p.1 ne).trans e, n, ne, nf, d⟩
 ·have hfn : X.fn x = true := by
   rcases hf with z | z
   ·exact z
   ·rw [z] at hk; cases hk
  obtain ⟨c, hc⟩ := I.ok.has x (.inl hk)
  obtain ⟨w', z⟩ := I.cell x c hc
  refine wpAny_storeName_cell I.ok.kind hk hc z (fun h' hc' hs => ?_)
  obtain ⟨oc, hoc, hocd⟩ := id z
  refine h { s with heap := h' } ⟨I.ok, I.os, I.bare, ⟨fun b o e n hb hx => ?_, fun b o e n hb hx => ?_, I.base.free, fun b o e hx => ?_, I.base.tups, I.base.frzs, I.base.tbls⟩, ⟨m, hn.sameBut hs (Ne.symm (cne x c hc)), fun j y v' e1 e2 e3 => ?_⟩, fun y c' e => ?_, I.free, I.freeC, fun p hp => ?_, tracked ⟨oc, hoc, I.freeC x c hc⟩ hs, by simpa using I.len⟩ ⟨c, hs, .inr hc⟩
  ·exact (hs.2 b (Nat.ne_of_lt (Nat.lt_of_lt_of_le (Heap.lt_size e) (I.ok.cab x c hfn hc)))).trans (I.base.keep b o e n hb hx)
  ·obtain ⟨sl, e1⟩ := I.base.slot b o e n hb hx
   exact ⟨sl, (hs.2 b (Nat.ne_of_lt (Nat.lt_of_lt_of_le (Heap.lt_size e) (I.ok.cab x c hfn hc)))).trans e1⟩
  ·obtain ⟨o', e1⟩ := I.base.there b o e hx
   exact ⟨o', (hs.2 b (Nat.ne_of_lt (Nat.lt_of_lt_of_le (Heap.lt_size e) (I.ok.cab x c hfn hc)))).trans e1⟩
  ·by_cases hj : j = i
   ·subst hj
    rw [hi] at e1; cases e1
    rw [List.getElem?_set_self hiσ] at e2
    cases e2
    exact ⟨u, r, .inr ⟨.inl hk, c, hc, hc'⟩⟩
   ·rw [List.getElem?_set_ne (Ne.symm hj)] at e2
    obtain ⟨u', r', q⟩ := hl j y v' e1 e2 e3
    refine ⟨u', r', ?_⟩
    rcases q with q | ⟨k, c', e, z'⟩
    ·exact .inl q
    ·refine .inr ⟨k, c', e, z'.sameBut hs ?_⟩
     rintro rfl
     exact hj (o9 hN e1 (I.ok.inj _ _ _ e hc ▸ hi))
  ·by_cases hcc : c' = c
   ·subst hcc; exact ⟨_, hc'⟩
   ·obtain ⟨w2, z2⟩ := I.cell y c' e
    exact ⟨w2, z2.sameBut hs hcc⟩
  ·obtain ⟨e, n, ne, nf, d⟩ := I.pin p hp
   refine ⟨(hs.2 p.1 ?_).trans e, n, ne, nf, d⟩
   intro q
   rw [q, hoc] at e
   have q' : oc = p.2 := Option.some.inj e
   exact d w' (by rw [← q']; exact hocd)
theorem gu {M : Model} {A : Around} {E : Value -> Shared -> Prop} {i : Nat} {x : Str} {v : V} {u : Value} {Q : Unit -> Shared -> Prop} (I : Inv X pins σ H s) (hN : X.N.Nodup) (hi : X.N[i]? = some x) (hx : Loc X.env.scope x) (r : aN v u)
  (h : ∀ s', Inv X pins (σ.set i (some v)) H s' -> Q () s') (hf : X.fn x = true \/ X.env.scope.names.lookup x = some .local := by first | exact .inl rfl | exact .inr rfl | assumption) : wpAny M A (storeName X.env x u) Q E s :=
 mX I hN hi hx r (fun s' I' _ => h s' I') hf
theorem Inv.call' {s' : Shared} {ch : List Addr} (I : Inv X pins σ H s) (ho : s'.os = s.os) (u : Un (frs X.stack) ch H H' s.heap s'.heap) (hok : HOk X.prog X.w H' s'.heap) (hg : AllBare s'.gens)
  (hch : ∀ b ∈ ch, (b ∈ X.ex \/ X.s₀.heap.objs.size <= b) /\ b ≠ X.env.locals /\ (∀ x c, X.env.cells.lookup x = some c -> c ≠ b) /\ ∀ p ∈ X.pn ++ pins, p.1 ≠ b) : Inv X pins σ H' s' := by
 obtain ⟨h', g', d', t', o'⟩ := s'
 have e : o' = s.os := ho
 subst e
 exact I.call (g' := g') (t' := t') (d' := d') u hok hg hch
end
abbrev XK := Value -> Option Addr -> Hp -> Prop
abbrev St := List (Option V)
abbrev VK := V -> Hp -> Prop
abbrev TE := St -> Hp -> VK -> Prop
abbrev TT := St -> Hp -> (Bool -> Hp -> Prop) -> Prop
abbrev TA := St -> Hp -> (List V -> Hp -> Prop) -> Prop
structure Ends where
 nx : St -> Hp -> Prop
 rt : VK
 bk : St -> Hp -> Prop := fun _ _ => False
 ct : St -> Hp -> Prop := fun _ _ => False
abbrev TS := Ends -> St -> Hp -> Prop
def EP (X : Cx) (pins : List (Addr × Obj)) (σ : St) (Q : VK) (u : Value) (s' : Shared) : Prop := ∃ v H', Inv X pins σ H' s' /\ aN v u /\ Q v H'
def TP (X : Cx) (pins : List (Addr × Obj)) (σ : St) (Q : Bool -> Hp -> Prop) (b : Bool) (s' : Shared) : Prop := ∃ H', Inv X pins σ H' s' /\ Q b H'
def AP (X : Cx) (pins : List (Addr × Obj)) (σ : St) (Q : List V -> Hp -> Prop) (us : List Value) (s' : Shared) : Prop := ∃ vs H', Inv X pins σ H' s' /\ ar vs us /\ Q vs H'
def SP (X : Cx) (pins : List (Addr × Obj)) (D : Ends) (f : Flow) (s' : Shared) : Prop :=
 match f with
 | .next => ∃ σ' H', Inv X pins σ' H' s' /\ D.nx σ' H'
 | .brk => ∃ σ' H', Inv X pins σ' H' s' /\ D.bk σ' H'
 | .cont => ∃ σ' H', Inv X pins σ' H' s' /\ D.ct σ' H'
 | .ret u => ∃ v σ' H', Inv X pins σ' H' s' /\ aN v u /\ D.rt v H'
def PE (X : Cx) (e : Expr) (t : TE) : Prop :=
 ∀ (pins : List (Addr × Obj)) (s : Shared) (σ : St) (H : Hp) (Q : VK), Inv X pins σ H s -> t σ H Q -> wpAny (model X.prog X.w) X.A (eval e X.env) (EP X pins σ Q) X.xe s
def PT (X : Cx) (e : Expr) (t : TT) : Prop :=
 ∀ (pins : List (Addr × Obj)) (s : Shared) (σ : St) (H : Hp) (Q : Bool -> Hp -> Prop), Inv X pins σ H s -> t σ H Q -> wpAny (model X.prog X.w) X.A (isTrue e X.env (eval e X.env)) (TP X pins σ Q) X.xe s
def PW (X : Cx) (e : Expr) (t : TT) : Prop :=
 ∀ (whole : Sem Value) (pins : List (Addr × Obj)) (s : Shared) (σ : St) (H : Hp) (Q : Bool -> Hp -> Prop), Inv X pins σ H s -> t σ H Q -> wpAny (model X.prog X.w) X.A (isTrue e X.env whole) (TP X pins σ Q) X.xe s
theorem PW.pt {X : Cx} {e : Expr} {t : TT} (h : PW X e t) : PT X e t := h _
def PA (X : Cx) (es : List Expr) (t : TA) : Prop :=
 ∀ (pos : Pos) (pins : List (Addr × Obj)) (s : Shared) (σ : St) (H : Hp) (Q : List V -> Hp -> Prop), Inv X pins σ H s -> t σ H Q -> wpAny (model X.prog X.w) X.A (spliced (backTo pos (starEach es X.env))) (AP X pins σ Q) X.xe s
def PS (X : Cx) (st : Stmt) (t : TS) : Prop :=
 ∀ (pins : List (Addr × Obj)) (s : Shared) (σ : St) (H : Hp) (D : Ends), Inv X pins σ H s -> t D σ H -> wpAny (model X.prog X.w) X.A (exec st X.env) (SP X pins D) X.xe s
def PSs (X : Cx) (st : List Stmt) (t : TS) : Prop :=
 ∀ (pins : List (Addr × Obj)) (s : Shared) (σ : St) (H : Hp) (D : Ends), Inv X pins σ H s -> t D σ H -> wpAny (model X.prog X.w) X.A (execs st X.env) (SP X pins D) X.xe s
theorem thn {α : Type} {t : Sem α} {Q Q' : α -> Shared -> Prop} {M : Model} {A : Around} {E : Value -> Shared -> Prop} {s : Shared} (h : wpAny M A t Q E s) (hQ : ∀ a s, Q a s -> Q' a s) : wpAny M A t Q' E s := wpAny_mono h hQ fun _ _ x => x
section
variable {X : Cx}
def oG (i : Nat) : TE := fun σ H Q => ∃ v, σ[i]? = some (some v) /\ Q v H
def tC (v : V) : TE := fun _ H Q => Q v H
theorem An {i : Nat} {x : Str} {pos : Pos} (hN : X.N[i]? = some x) (hv : Vis X.env.scope x) (hd : (x == ("__debug__" : Str)) = false := by decide) (hcd : (x == ("__classdict__" : Str)) = false := by decide) : PE X (.Name x pos) (oG i) := by
 intro pins s σ H Q I h
 obtain ⟨v, e, h⟩ := h
 obtain ⟨m, hn, hl⟩ := I.loc
 obtain ⟨u, r, l⟩ := hl i x v hN e hv
 have fin : EP X pins σ Q u s := ⟨v, H, I, r, h⟩
 rcases l with ⟨hk, hm⟩ | ⟨hk, c, hc, hcell⟩
 ·exact wpAny_Name (wpAny_loadName_local I.ok.kind hk hn hm fin) hd
 ·rcases hk with hk | hk
  ·exact wpAny_Name (wpAny_loadName_cell I.ok.kind hk hc hcell fin) hd
  ·exact wpAny_Name (wpAny_loadName_free I.ok.kind hk hc hcell fin hcd) hd
theorem bB {i j pos} : PE X (.Constant (.int i) j pos) (tC (.int i)) := fun _ _ _ H _ I h => wpAny_Constant_int ⟨.int i, H, I.tok _, ⟨_, rfl⟩, h⟩
theorem Ct {b j pos} : PE X (.Constant (.bool b) j pos) (tC (.bl b)) := fun _ _ _ H _ I h => Constant_bool ⟨.bl b, H, I, rfl, h⟩
theorem Ar {j pos} : PE X (.Constant .none j pos) (tC .non) := fun _ _ _ H _ I h => Constant_none ⟨.non, H, I, rfl, h⟩
theorem jo {x j pos} : PE X (.Constant (.str x) j pos) (tC (.str x)) := fun _ _ _ H _ I h => Calls.Constant_str ⟨.str x, H, I.tok _, ⟨_, rfl⟩, h⟩
def Gl (X : Cx) (x : Str) : Prop := X.env.kindOf x = some .globalImplicit
theorem gj {E : Value -> Shared -> Prop} {pins : List (Addr × Obj)} {s : Shared} {σ : St} {H : Hp} {x : Str} {u : Value} {pos : Pos} {Q : Value -> Shared -> Prop} (I : Inv X pins σ H s) (hg : Gl X x) (hm : X.mg x = some u) (h : Q u s)
  (hd : (x == ("__debug__" : Str)) = false := by decide) : wpAny (model X.prog X.w) X.A (eval (.Name x pos) X.env) Q E s :=
 Calls.Name_function_global I.ok.kind hg (Calls.loadGlobal_global (by rw [I.ok.glob]; exact I.mod.glob.keeps I.bk) hm h) hd
theorem fP {E : Value -> Shared -> Prop} {pins : List (Addr × Obj)} {s : Shared} {σ : St} {H : Hp} {x : Str} {u : Value} {pos : Pos} {Q : Value -> Shared -> Prop} (I : Inv X pins σ H s) (hg : Gl X x) (hm : X.mg x = none) (hv : bootBuiltins x = some u) (h : Q u s)
  (hn : x ≠ "__name__" := by decide) (hd : (x == ("__debug__" : Str)) = false := by decide) : wpAny (model X.prog X.w) X.A (eval (.Name x pos) X.env) Q E s := by
 obtain ⟨mb, h1, h2⟩ := I.mod.blt
 exact Calls.Name_function_global I.ok.kind hg (Calls.loadGlobal_builtin (by rw [I.ok.glob]; exact I.mod.glob.keeps I.bk) hm (by rw [I.ok.blt]; exact h1.keeps I.bk) ((h2 x hn).trans hv) h) hd
theorem yN {x : Str} {v : V} {u : Value} {pos : Pos} (hg : Gl X x) (hm : X.mg x = some u) (r : aN v u) (hd : (x == ("__debug__" : Str)) = false := by decide) : PE X (.Name x pos) (tC v) :=
 fun _ _ _ H _ I h => gj I hg hm ⟨v, H, I, r, h⟩ hd
theorem cr {x : Str} {v : V} {u : Value} {pos : Pos} (hg : Gl X x) (hm : X.mg x = none) (hv : bootBuiltins x = some u) (r : aN v u) (hn : x ≠ "__name__" := by decide) (hd : (x == ("__debug__" : Str)) = false := by decide) : PE X (.Name x pos) (tC v) :=
 fun _ _ _ H _ I h => fP I hg hm hv ⟨v, H, I, r, h⟩ hn hd
variable {a b : Expr} {ta tb : TE} {pos : Pos}
variable {tA tB' : TT} {rest : List Expr}
def tOr (t u : TT) : TT := fun σ H Q => t σ H fun c H1 => if c = true then Q true H1 else u σ H1 Q
def tNot (t : TT) : TT := fun σ H Q => t σ H fun c H1 => Q (!c) H1
theorem Ab (ha : PT X a tA) : PW X (.BoolOp .Or [a] pos) tA := by
 intro wh pins s σ H Q I h
 refine isTrue_or (thn (ha pins s σ H Q I h) fun c s1 e => ?_)
 cases c with
 | false => exact isTrue_or_nil e
 | true => exact e
theorem Cr (ha : PT X a tA) (hb : PW X (.BoolOp .Or (b :: rest) pos) tB') : PW X (.BoolOp .Or (a :: b :: rest) pos) (tOr tA tB') := by
 intro wh pins s σ H Q I h
 refine isTrue_or (thn (ha pins s σ H _ I h) fun c s1 ⟨H1, I1, q1⟩ => ?_)
 cases c with
 | true => exact ⟨H1, I1, q1⟩
 | false => exact hb wh pins s1 σ H1 Q I1 q1
theorem Ac (ha : PT X a tA) : PT X (.UnaryOp .Not a pos) (tNot tA) := by
 intro pins s σ H Q I h
 exact isTrue_not (ha pins s σ H (fun c H1 => Q (!c) H1) I h)
def Co (ta tb : TE) : TE := fun σ H Q => ta σ H fun x H1 => ∃ c, x = .bl c /\ if c = true then tb σ H1 Q else Q (.bl false) H1
theorem Aq {op} {t : TE} (h : PE X a t) : PE X (.BoolOp op [a] pos) t := fun pins s σ H Q I hw => BoolOp_one (h pins s σ H Q I hw)
theorem At (ha : PE X a ta) (hb : PE X (.BoolOp .And (b :: rest) pos) tb) : PE X (.BoolOp .And (a :: b :: rest) pos) (Co ta tb) := by
 intro pins s σ H Q I h
 refine BoolOp_and (thn (ha pins s σ H _ I h) fun v s1 ⟨x, H1, I1, r1, q1⟩ => ?_)
 obtain ⟨c, rfl, q1⟩ := q1
 cases r1
 refine wpAny_truthy_bool ?_
 cases c with
 | true => exact hb pins s1 σ H1 Q I1 q1
 | false => exact ⟨.bl false, H1, I1, rfl, q1⟩
def tIf (t : TT) (ta tb : TE) : TE := fun σ H Q => t σ H fun c H1 => if c = true then ta σ H1 Q else tb σ H1 Q
theorem ve {c : Expr} (hc : PT X c tA) (ha : PE X a ta) (hb : PE X b tb) : PE X (.IfExp c a b pos) (tIf tA ta tb) := by
 intro pins s σ H Q I h
 refine wpAny_IfExp (thn (hc pins s σ H _ I h) fun d s1 ⟨H1, I1, q1⟩ => ?_)
 cases d with
 | true => exact ha pins s1 σ H1 Q I1 q1
 | false => exact hb pins s1 σ H1 Q I1 q1
end
def SqL (K : Frag) (H : Hp) (a : Addr) (xs : List V) : Prop :=
 Rd H a (.lst xs) \/
  ∃ (o : Obj) (its : Array Value) (n : Nat), K.lookup a = some o /\ o.cls = .type "list" /\ o.dict = none /\ o.data = .seq its n /\ its.size <= sizeLine /\ ar xs its.toList
def SqT (K : Frag) (H : Hp) (a : Addr) (xs : List V) : Prop :=
 Rd H a (.tup xs) \/
  ∃ (o : Obj) (its : Array Value) (n : Nat), K.lookup a = some o /\ o.cls = .type "tuple" /\ o.data = .seq its n /\ its.size <= sizeLine /\ ar xs its.toList
def absV : Value -> Option V
 | .none => some .non
 | .bool b => some (.bl b)
 | .int i _ => some (.int i)
 | .str x _ => some (.str x)
 | .bytes b _ => some (.byt b)
 | .float b _ => some (.flt b)
 | .ref a => some (.ref a)
 | .type n => some (.ty n)
 | _ => none
theorem aN.abs {x : V} {u : Value} (r : aN x u) : absV u = some x := by
 cases x with
 | non => cases r; rfl
 | bl _ => cases r; rfl
 | int _ => obtain ⟨t, rfl⟩ := r; rfl
 | str _ => obtain ⟨t, rfl⟩ := r; rfl
 | byt _ => obtain ⟨t, rfl⟩ := r; rfl
 | flt _ => obtain ⟨t, rfl⟩ := r; rfl
 | ref _ => cases r; rfl
 | ty _ => cases r; rfl
theorem aN.inj {x y : V} {u : Value} (r : aN x u) (q : aN y u) : x = y := Option.some.inj (r.abs.symm.trans q.abs)
theorem ar.inj : ∀ {xs ys : List V} {us : List Value}, ar xs us -> ar ys us -> xs = ys
 | _, _, _, .nil, .nil => rfl
 | _, _, _, .cons r t, .cons r' t' => by rw [r.inj r', ar.inj t t']
section
variable {X : Cx} {pins : List (Addr × Obj)} {σ : St} {H : Hp} {s : Shared} {a : Addr} {xs ys : List V}
theorem SqL.of {K : Frag} (h : H a = some (.lst xs)) : SqL K H a xs := .inl (.inl h)
theorem Inv.list (I : Inv X pins σ H s) (h : SqL X.K H a xs) : ∃ its : List Value, ar xs its /\ PlainL s.heap a its.toArray /\ xs.length <= sizeLine := by
 rcases h with h | ⟨o, its, n, hk, hc, hd, hs, hz, r⟩
 ·obtain ⟨z, its, n, r, e⟩ := h.ok I.hok
  exact ⟨its, r, ⟨_, n, e, rfl, rfl, rfl⟩, z⟩
 ·refine ⟨its.toList, r, ⟨o, n, I.kIn a o hk, hc, hd, by simpa using hs⟩, ?_⟩
  have e := r.length
  simp only [Array.length_toList] at e
  omega
theorem Inv.tuple (I : Inv X pins σ H s) (h : SqT X.K H a xs) : ∃ its : List Value, ar xs its /\ IsTup s.heap a its.toArray /\ xs.length <= sizeLine := by
 rcases h with h | ⟨o, its, n, hk, hc, hs, hz, r⟩
 ·obtain ⟨z, its, r, p⟩ := h.ok I.hok
  exact ⟨its, r, p, z⟩
 ·refine ⟨its.toList, r, ⟨o, I.kIn a o hk, hc, n, by simpa using hs⟩, ?_⟩
  have e := r.length
  simp only [Array.length_toList] at e
  omega
theorem Inv.list_inj (I : Inv X pins σ H s) (h : SqL X.K H a xs) (h' : SqL X.K H a ys) : xs = ys := by
 obtain ⟨its, r, ⟨o, n, e, _, _, d⟩, _⟩ := I.list h
 obtain ⟨its', r', ⟨o', n', e', _, _, d'⟩, _⟩ := I.list h'
 rw [e] at e'; cases e'
 rw [d] at d'
 injection d' with d1 _
 have : its = its' := by simpa using congrArg Array.toList d1
 subst this
 exact r.inj r'
theorem Inv.tuple_inj (I : Inv X pins σ H s) (h : SqT X.K H a xs) (h' : SqT X.K H a ys) : xs = ys := by
 obtain ⟨its, r, ⟨o, e, _, n, d⟩, _⟩ := I.tuple h
 obtain ⟨its', r', ⟨o', e', _, n', d'⟩, _⟩ := I.tuple h'
 rw [e] at e'; cases e'
 rw [d] at d'
 injection d' with d1 _
 have : its = its' := by simpa using congrArg Array.toList d1
 subst this
 exact r.inj r'
end
abbrev Cx.wish (X : Cx) (E : Value -> Shared -> Prop) : Cx := { X with xe := E }
abbrev Cx.nox (X : Cx) : Cx := X.wish fun _ _ => False
theorem Cx.Ok.wish {X : Cx} (ok : X.Ok) (E : Value -> Shared -> Prop) : (X.wish E).Ok :=
 ⟨ok.mod, ok.kind, ok.glob, ok.blt, ok.above, ok.inj, ok.has, ok.cab, ok.hd, ok.frames, ok.stk, ok.exf, ok.bs, ok.bsz, ok.noex, ok.exfs, ok.funs, ok.frf⟩
theorem Cx.Ok.unwish {X : Cx} {E : Value -> Shared -> Prop} (ok : (X.wish E).Ok) : X.Ok :=
 ⟨ok.mod, ok.kind, ok.glob, ok.blt, ok.above, ok.inj, ok.has, ok.cab, ok.hd, ok.frames, ok.stk, ok.exf, ok.bs, ok.bsz, ok.noex, ok.exfs, ok.funs, ok.frf⟩
section
variable {X : Cx} {pins : List (Addr × Obj)} {σ : St} {H : Hp} {s : Shared} {E : Value -> Shared -> Prop}
theorem Inv.wish (I : Inv X pins σ H s) (E : Value -> Shared -> Prop) : Inv (X.wish E) pins σ H s := ⟨I.ok.wish E, I.os, I.bare, I.base, I.loc, I.cell, I.free, I.freeC, I.pin, I.hok, I.len⟩
theorem Inv.unwish (I : Inv (X.wish E) pins σ H s) : Inv X pins σ H s := ⟨I.ok.unwish, I.os, I.bare, I.base, I.loc, I.cell, I.free, I.freeC, I.pin, I.hok, I.len⟩
theorem SP.unwish {D : Ends} {f : Flow} {s' : Shared} (h : SP (X.wish E) pins D f s') : SP X pins D f s' := by
 cases f with
 | next => obtain ⟨σ', H', I, q⟩ := h; exact ⟨σ', H', I.unwish, q⟩
 | brk => obtain ⟨σ', H', I, q⟩ := h; exact ⟨σ', H', I.unwish, q⟩
 | cont => obtain ⟨σ', H', I, q⟩ := h; exact ⟨σ', H', I.unwish, q⟩
 | ret u => obtain ⟨v, σ', H', I, r, q⟩ := h; exact ⟨v, σ', H', I.unwish, r, q⟩
theorem PSs.nox {st : List Stmt} {t : TS} (h : PSs X.nox st t) : PSs X st t := fun pins s σ H D I hw =>
 wpAny_mono (h pins s σ H D (I.wish _) hw) (fun _ _ q => q.unwish) fun _ _ z => False.elim z
end
section
variable {X : Cx} {st : Stmt} {rest : List Stmt} {t u : TS} {e : Expr} {te : TE} {pos : Pos}
def Cl : TS := fun D σ H => D.nx σ H
def tSeq (t u : TS) : TS := fun D σ H => t { D with nx := u D } σ H
theorem l9 : PSs X [] Cl := fun _ _ σ H _ I h => wpAny_execs_nil ⟨σ, H, I, h⟩
theorem bV (h1 : PS X st t) (h2 : PSs X rest u) : PSs X (st :: rest) (tSeq t u) := by
 intro pins s σ H D I h
 refine wpAny_execs_cons (thn (h1 pins s σ H { D with nx := u D } I h) fun f s1 q => ?_)
 cases f with
 | next =>
  obtain ⟨σ', H', I', q⟩ := q
  exact h2 pins s1 σ' H' D I' q
 | ret v => exact q
 | brk => exact q
 | cont => exact q
theorem dG (h1 : PS X st t) : PSs X [st] t := by
 intro pins s σ H D I h
 refine wpAny_execs_cons (thn (h1 pins s σ H D I h) fun f s1 q => ?_)
 cases f with
 | next => exact wpAny_execs_nil q
 | ret v => exact q
 | brk => exact q
 | cont => exact q
theorem Inv.quiet {pins : List (Addr × Obj)} {σ : St} {H : Hp} {s : Shared} (I : Inv X pins σ H s) : interactive X.env = false := by simp [interactive, I.ok.kind]
def xJ (te : TE) : TS := fun D σ H => te σ H fun _ H1 => D.nx σ H1
theorem dH (he : PE X e te) (hs : swapsWith e none pos.line X.env = pure false := by rfl) : PS X (.Expr e pos) (xJ te) := by
 intro pins s σ H D I h
 exact wpAny_Expr_any (thn (he pins s σ H _ I h) fun v s1 ⟨x, H1, I1, r1, q1⟩ => ⟨σ, H1, I1, q1⟩) I.quiet hs
def zM (te : TE) : TS := fun D σ H => te σ H D.rt
theorem az (he : PE X e te) : PS X (.Return (some e) pos) (zM te) := by
 intro pins s σ H D I h
 exact wpAny_Return_some (thn (he pins s σ H _ I h) fun v s1 ⟨x, H1, I1, r1, q1⟩ => ⟨x, σ, H1, I1, r1, q1⟩)
def tIfS (c : TT) (t u : TS) : TS := fun D σ H => c σ H fun b H1 => if b = true then t D σ H1 else u D σ H1
theorem xS {c : Expr} {a b : List Stmt} {tc : TT} (hc : PT X c tc) (ha : PSs X a t) (hb : PSs X b u) : PS X (.If c a b pos) (tIfS tc t u) := by
 intro pins s σ H D I h
 refine wpAny_If (thn (hc pins s σ H _ I h) fun d s1 ⟨H1, I1, q1⟩ => ?_)
 cases d with
 | true => exact ha pins s1 σ H1 D I1 q1
 | false => exact hb pins s1 σ H1 D I1 q1
end
abbrev TG := V -> St -> Hp -> (St -> Hp -> Prop) -> Prop
abbrev TGs := List V -> St -> Hp -> (St -> Hp -> Prop) -> Prop
def PG (X : Cx) (target : Expr) (t : TG) : Prop :=
 ∀ (pins : List (Addr × Obj)) (s : Shared) (σ : St) (H : Hp) (v : V) (u : Value) (Q : St -> Hp -> Prop), Inv X pins σ H s -> aN v u -> t v σ H Q ->
  wpAny (model X.prog X.w) X.A (assign target X.env u) (fun _ s' => ∃ σ' H', Inv X pins σ' H' s' /\ Q σ' H') X.xe s
def PGs (X : Cx) (ts : List Expr) (t : TGs) : Prop :=
 ∀ (pins : List (Addr × Obj)) (s : Shared) (σ : St) (H : Hp) (vs : List V) (us : List Value) (Q : St -> Hp -> Prop), Inv X pins σ H s -> ar vs us -> t vs σ H Q ->
  wpAny (model X.prog X.w) X.A (assignInOrder ((assignEach ts X.env).map (·.2)) us) (fun _ s' => ∃ σ' H', Inv X pins σ' H' s' /\ Q σ' H') X.xe s
abbrev xz := V -> V -> V -> Hp -> (Hp -> Prop) -> Prop
def B7 (X : Cx) (t : xz) : Prop :=
 ∀ (pins : List (Addr × Obj)) (s : Shared) (σ : St) (H : Hp) (o i v : V) (ov iv u : Value) (Q : Hp -> Prop), Inv X pins σ H s -> aN o ov -> aN i iv -> aN v u -> t o i v H Q ->
  wpAny (model X.prog X.w) X.A (setItem ov iv u) (fun _ s' => ∃ H', Inv X pins σ H' s' /\ Q H') X.xe s
abbrev TIp := V -> V -> Hp -> VK -> Prop
def PIp (X : Cx) (op : Operator) (t : TIp) : Prop :=
 ∀ (pins : List (Addr × Obj)) (s : Shared) (σ : St) (H : Hp) (x y : V) (v u : Value) (Q : VK), Inv X pins σ H s -> aN x v -> aN y u -> t x y H Q ->
  wpAny (model X.prog X.w) X.A (inplaceOp op v u) (EP X pins σ Q) X.xe s
section
variable {X : Cx} {pos : Pos}
def dZ (i : Nat) : TG := fun v σ H Q => Q (σ.set i (some v)) H
theorem qp {i : Nat} {x : Str} (hN : X.N.Nodup) (hi : X.N[i]? = some x) (hx : Loc X.env.scope x) (hf : X.fn x = true \/ X.env.scope.names.lookup x = some .local := by first | exact .inl rfl | exact .inr rfl | assumption) : PG X (.Name x pos) (dZ i) := by
 intro pins s σ H v u Q I r h
 exact wpAny_assign_Name (gu I hN hi hx r (fun s' I' => ⟨_, H, I', h⟩) hf)
def gNil : TGs := fun vs σ H Q => vs = [] /\ Q σ H
def rP (t : TG) (u : TGs) : TGs := fun vs σ H Q => ∃ v r, vs = v :: r /\ t v σ H fun σ' H' => u r σ' H' Q
theorem em : PGs X [] gNil := by
 intro pins s σ H vs us Q I r h
 obtain ⟨e, h⟩ := h
 subst e
 cases r
 exact assignInOrder_nil ⟨σ, H, I, h⟩
theorem bt {e : Expr} {es : List Expr} {t : TG} {u : TGs} (h1 : PG X e t) (h2 : PGs X es u)
  (hs : (assignEach (e :: es) X.env).map (·.2) = assign e X.env :: (assignEach es X.env).map (·.2) := by rfl) : PGs X (e :: es) (rP t u) := by
 intro pins s σ H vs us Q I r h
 obtain ⟨v, vr, e1, h⟩ := h
 subst e1
 cases r with
 | cons r rr =>
  rw [hs]
  refine assignInOrder_cons (thn (h1 pins s σ H _ _ _ I r h) fun _ s1 ⟨σ1, H1, I1, q1⟩ => ?_)
  exact h2 pins s1 σ1 H1 _ _ Q I1 rr q1
def vK (K : Frag) (n : Nat) (t : TGs) : TG := fun v σ H Q => ∃ a xs, v = .ref a /\ SqT K H a xs /\ xs.length = n /\ t xs σ H Q
theorem fJ {es : List Expr} {k : Nat} {t : TGs} {n : Nat} (hc : X.calm = true) (h : PGs X es t)
  (hn : (assignEach es X.env).length = n := by rfl) (hst : (assignEach es X.env).findIdx? (·.1) = none := by rfl) : PG X (.Tuple es k pos) (vK X.K n t) := by
 intro pins s σ H v u Q I r hw
 obtain ⟨a, xs, e1, hq, hl, hw⟩ := hw
 subst e1
 cases r
 obtain ⟨its, rv, ht, hz⟩ := I.tuple hq
 refine assign_Tuple_tuple (I.ok.hd hc) ht (by simp [hn, ← hl, rv.length]) hst fun h' hx => ?_
 have I1 : Inv X pins σ H { s with heap := h' } := I.kept (t' := s.toks) fun b o e => hx b o (Nat.ne_of_lt (Heap.lt_size e)) e
 exact h pins _ σ H xs _ Q I1 (by simpa using rv) hw
def AR (to ti : TE) (t : xz) : TG := fun v σ H Q => to σ H fun o H1 => ti σ H1 fun i H2 => t o i v H2 fun H3 => Q σ H3
theorem ic {o i : Expr} {to ti : TE} {t : xz} (ho : PE X o to) (hi : PE X i ti) (hs : B7 X t)
  (ha : ∀ v, assign (.Subscript o i pos) X.env v = (do
   let ov ← holding [v] (eval o X.env)
   let iv ← holding [v, ov] (eval i X.env)
   standAt pos
   holding [v, ov, iv] (setItem ov iv v)
   release [v, ov, iv] []) := by intro _; rfl) : PG X (.Subscript o i pos) (AR to ti t) := by
 intro pins s σ H v u Q I r h
 rw [ha]
 refine wpAny_bind (wpAny_holding (thn (ho pins s σ H _ I h) fun ov s1 ⟨x, H1, I1, r1, q1⟩ => ?_))
 refine wpAny_bind (wpAny_holding (thn (hi pins s1 σ H1 _ I1 q1) fun iv s2 ⟨y, H2, I2, r2, q2⟩ => ?_))
 refine wpAny_bind (wpAny_standAt (wpAny_bind (wpAny_holding (thn (hs pins s2 σ H2 x y v ov iv u _ I2 r1 r2 r q2) fun _ s3 ⟨H3, I3, q3⟩ => ?_))))
 exact wpAny_release ⟨σ, H3, I3, q3⟩
def iz (te : TE) (g : TG) : TS := fun D σ H => te σ H fun x H1 => g x σ H1 D.nx
theorem ib {tg e : Expr} {te : TE} {g : TG} (he : PE X e te) (hg : PG X tg g) (hs : swapsWithSole [tg] e pos.line X.env = pure false := by rfl) (hw : swappedStores [tg] e X.env = pure none := by rfl)
  (h1 : (assignEach [tg] X.env).map (·.2) = [assign tg X.env] := by rfl) : PS X (.Assign [tg] e pos) (iz te g) := by
 intro pins s σ H D I h
 refine wpAny_Assign_stores (thn (he pins s σ H _ I h) fun v s1 ⟨x, H1, I1, r1, q1⟩ => ?_) hs hw
 rw [h1]
 exact thn (hg pins s1 σ H1 x v _ I1 r1 q1) fun _ s2 q => q
theorem li {i : Nat} {x : Str} {e : Expr} {te : TE} {pos' : Pos} (hN : X.N.Nodup) (hi : X.N[i]? = some x) (hx : Loc X.env.scope x) (he : PE X e te) (hs : swapsWith e (some (.Name x pos')) pos.line X.env = pure false := by rfl) (hf : X.fn x = true \/ X.env.scope.names.lookup x = some .local := by first | exact .inl rfl | exact .inr rfl | assumption) :
  PS X (.Assign [.Name x pos'] e pos) (iz te (dZ i)) := by
 intro pins s σ H D I h
 refine wpAny_Assign_Name (thn (he pins s σ H _ I h) fun v s1 ⟨y, H1, I1, r1, q1⟩ => ?_) hs
 exact gu I1 hN hi hx r1 (fun s2 I2 => ⟨_, H1, I2, q1⟩) hf
def zN (i j : Nat) (ta : TA) : TS := fun D σ H => ta σ H fun vs H1 => ∃ v w, vs = [v, w] /\ D.nx ((σ.set i (some v)).set j (some w)) H1
theorem Ae {i j : Nat} {x y : Str} {a b : Expr} {ta : TA} {px py pt : Pos} {kt k2 pt2} (hc : X.calm = true) (hN : X.N.Nodup) (hi : X.N[i]? = some x) (hj : X.N[j]? = some y) (hij : i ≠ j)
  (hx : X.env.scope.names.lookup x = some .local) (hy : X.env.scope.names.lookup y = some .local) (ha : PA X [a, b] ta)
  (hw : swappedStores [.Tuple [.Name x px, .Name y py] kt pt] (.Tuple [a, b] k2 pt2) X.env = pure (some [x, y]))
  (hs : swapsWithSole [.Tuple [.Name x px, .Name y py] kt pt] (.Tuple [a, b] k2 pt2) pos.line X.env = pure false := by rfl) :
  PS X (.Assign [.Tuple [.Name x px, .Name y py] kt pt] (.Tuple [a, b] k2 pt2) pos) (zN i j ta) := by
 intro pins s σ H D I h
 rw [exec_Assign_arm]
 refine wpAny_bind (wpAny_standAt ?_)
 rw [hs]
 refine wpAny_bind (wpAny_pure ?_)
 rw [if_neg (by decide)]
 refine wpAny_bind (Tuple_ (thn (ha _ pins s σ H _ I h) fun us s1 ⟨vs, H1, I1, r1, q1⟩ => ?_))
 obtain ⟨v, w, e1, q1⟩ := q1
 subst e1
 obtain ⟨u1, u2, rfl, rv, rw'⟩ : ∃ u1 u2, us = [u1, u2] /\ aN v u1 /\ aN w u2 := by
  cases r1 with
  | cons p q =>
   cases q with
   | cons p' q' =>
    cases q'
    exact ⟨_, _, rfl, p, p'⟩
 refine wpAny_newObj_type ?_ (by show 2 <= sizeLine; decide)
 have I2 : Inv X pins σ H1 { s1 with heap := s1.heap.push { cls := .type "tuple", data := .seq [u1, u2].toArray } } := I1.kept (t' := s1.toks) fun b o e => Heap.get?_push_of_some _ e
 rw [hw]
 refine wpAny_bind (wpAny_pure ?_)
 show wpAny (model X.prog X.w) X.A (do rule "assign.swapped-stores"; let items ← unpackItems (.ref s1.heap.objs.size) 2 none; assignInOrder [fun v => bindName X.env y v, fun v => bindName X.env x v] items.reverse; pure Flow.next) _ _ _
 refine wpAny_bind (wpAny_rule (wpAny_bind (unpackItems_tuple (items := #[u1, u2]) (I.ok.hd hc) (IsTup.new s1.heap _) fun h' hx' => ?_)))
 have I3 := I2.kept (h' := h') (t' := s1.toks) fun b o e => hx' b o (Nat.ne_of_lt (Heap.lt_size e)) e
 show wpAny _ _ (assignInOrder [fun v => bindName X.env y v, fun v => bindName X.env x v] [u2, u1] >>= fun _ => pure Flow.next) _ _ _
 refine wpAny_bind (assignInOrder_cons (wpAny_bindName (gu I3 hN hj (.inl hy) rw' (fun s2 I4 => ?_) (.inr hy))))
 refine assignInOrder_cons (wpAny_bindName (gu I4 hN hi (.inl hx) rv (fun s3 I5 => assignInOrder_nil (wpAny_pure ?_)) (.inr hx)))
 rw [List.set_comm _ _ (Ne.symm hij)] at I5
 exact ⟨_, H1, I5, q1⟩
def zU (i : Nat) (te : TE) (ti : TIp) : TS := fun D σ H => ∃ x, σ[i]? = some (some x) /\ te σ H fun y H1 => ti x y H1 fun z H2 => D.nx (σ.set i (some z)) H2
theorem lj {i : Nat} {x : Str} {e : Expr} {te : TE} {op : Operator} {ti : TIp} {pos' : Pos} (hN : X.N.Nodup) (hi : X.N[i]? = some x) (hx : Loc X.env.scope x) (he : PE X e te) (ho : PIp X op ti) (hf : X.fn x = true \/ X.env.scope.names.lookup x = some .local := by first | exact .inl rfl | exact .inr rfl | assumption) :
  PS X (.AugAssign (.Name x pos') op e pos) (zU i te ti) := by
 intro pins s σ H D I h
 obtain ⟨v, e1, h⟩ := h
 obtain ⟨m, hn, hl⟩ := I.loc
 have vis : Vis X.env.scope x := by rcases hx with k | k; exact .inl k; exact .inr (.inl k)
 obtain ⟨u, r, l⟩ := hl i x v hi e1 vis
 refine wpAny_AugAssign_Name ?_
 have go : wpAny (model X.prog X.w) X.A (eval e X.env) (fun w s₂ => wpAny (model X.prog X.w) X.A (inplaceOp op u w) (fun r s₃ => wpAny (model X.prog X.w) X.A (storeName X.env x r) (fun _ => SP X pins D .next) X.xe s₃) X.xe s₂) X.xe s := by
  refine thn (he pins s σ H _ I h) fun w s1 ⟨y, H1, I1, r1, q1⟩ => ?_
  refine thn (ho pins s1 σ H1 v y u w _ I1 r r1 q1) fun z s2 ⟨zv, H2, I2, r2, q2⟩ => ?_
  exact gu I2 hN hi hx r2 (fun s3 I3 => ⟨_, H2, I3, q2⟩) hf
 rcases l with ⟨hk, hm⟩ | ⟨hk, c, hc, hcell⟩
 ·exact wpAny_loadName_local I.ok.kind hk hn hm go
 ·rcases hk with hk | hk
  ·exact wpAny_loadName_cell I.ok.kind hk hc hcell go
  ·rcases hx with k | k
   ·have : X.env.scope.names.lookup x = some .free := hk
    rw [k] at this; cases this
   ·have : X.env.scope.names.lookup x = some .free := hk
    rw [k] at this; cases this
end
section
variable {X : Cx} {pos : Pos}
def zL (c : TT) (tb : TS) : TS := fun D σ H => ∃ W : Nat -> St -> Hp -> Prop, (∃ m, W m σ H) /\ ∀ m σ H, W m σ H ->
 c σ H fun b H1 => if b = true then ∃ N : St -> Hp -> Prop, (∀ σ' H', N σ' H' -> ∃ m', m' < m /\ W m' σ' H') /\ tb { D with nx := N, ct := N, bk := D.nx } σ H1 else D.nx σ H1
theorem uZ {c : Expr} {body : List Stmt} {tc : TT} {tb : TS} (hp : PassesOwn (model X.prog X.w) X.A X.env X.xe) (hc : PT X c tc) (hb : PSs X body tb) : PS X (.While c body [] pos) (zL tc tb) := by
 intro pins s σ H D I h
 obtain ⟨W, ⟨m0, w0⟩, turn⟩ := h
 refine wpAny_While (codeAny_whileLoop (fun n s' => ∃ σ' H', Inv X pins σ' H' s' /\ W n σ' H') ?_ m0 ⟨σ, H, I, w0⟩)
 rintro n s1 ⟨σ1, H1, I1, w1⟩
 refine wpAny_passesOwn hp (thn (hc pins s1 σ1 H1 _ I1 (turn n σ1 H1 w1)) fun b s2 ⟨H2, I2, q2⟩ => ?_)
 cases b with
 | true =>
  obtain ⟨N, hN, q2⟩ := q2
  rw [if_pos rfl]
  refine wpAny_passesOwn hp (thn (hb pins s2 σ1 H2 _ I2 q2) fun f s3 q3 => ?_)
  cases f with
  | next =>
   obtain ⟨σ3, H3, I3, n3⟩ := q3
   obtain ⟨m', hm, w3⟩ := hN σ3 H3 n3
   exact ⟨m', hm, σ3, H3, I3, w3⟩
  | cont =>
   obtain ⟨σ3, H3, I3, n3⟩ := q3
   obtain ⟨m', hm, w3⟩ := hN σ3 H3 n3
   exact ⟨m', hm, σ3, H3, I3, w3⟩
  | brk => exact q3
  | ret v => exact q3
 | false =>
  rw [if_neg Bool.false_ne_true]
  exact wpAny_execs_nil ⟨σ1, H2, I2, q2⟩
end
structure It where
 go : Nat -> Hp -> Prop
 yld : Nat -> Hp -> V -> Hp -> Prop
 stop : Nat -> Hp -> Prop
def dP (X : Cx) (pins : List (Addr × Obj)) (H : Hp) (b : Addr) : Prop :=
 H b = none /\ b ≠ X.env.locals /\ b ∉ X.fs /\ (b ∈ X.ex \/ X.s₀.heap.objs.size <= b) /\ (∀ x c, X.env.cells.lookup x = some c -> c ≠ b) /\ ∀ p ∈ X.pn ++ pins, p.1 ≠ b
theorem Inv.fpOk {X : Cx} {pins : List (Addr × Obj)} {σ : St} {H H' : Hp} {s : Shared} {b : Addr} (I : Inv X pins σ H s) (hb : s.heap.objs.size <= b) (hn : H' b = none) : dP X pins H' b := by
 refine ⟨hn, Nat.ne_of_gt (Nat.lt_of_lt_of_le I.lt hb), I.nofs hb, .inr (Nat.le_trans I.sz hb), fun x c e z => ?_, fun p hp z => ?_⟩
 ·obtain ⟨v, q⟩ := I.cell x c e
  exact absurd (Nat.lt_of_lt_of_le q.lt (by rw [z]; exact hb)) (Nat.lt_irrefl _)
 ·exact absurd (Nat.lt_of_lt_of_le (Heap.lt_size (I.pin p hp).1) (by rw [z]; exact hb)) (Nat.lt_irrefl _)
structure Turn (P : Program) (w : World) (K : Frag) (tg : Expr) (J : It) (fp : List Addr) (it : Addr) (tn : Nat -> Heap -> Prop) : Prop where
 mem : it ∈ fp
 obj : ∀ i h, tn i h -> ∀ b ∈ fp, ∃ o, h.get? b = some o /\ ∀ v, o.data ≠ .cell v
 keep : ∀ i h h', tn i h -> (∀ b ∈ fp, ∀ o, h.get? b = some o -> h'.get? b = some o) -> tn i h'
 item : ∀ (X : Cx), X.prog = P -> X.w = w -> X.K = K -> X.calm = true -> ∀ (i : Nat) (pins : List (Addr × Obj)) (s : Shared) (σ : St) (H : Hp) (E : Value -> Shared -> Prop), Inv X pins σ H s -> (∀ b ∈ fp, dP X pins H b) -> tn i s.heap -> J.go i H ->
  wpAny (model P w) X.A (pyNext (.ref it)) (fun r s1 => ∃ u, r = some u /\
   wpAny (model P w) X.A (letOwnedTupleGo tg (.ref it) u) (fun _ s2 => ∃ x H', Inv X pins σ H' s2 /\ aN x u /\ J.yld i H x H' /\ tn (i + 1) s2.heap /\ ∀ b ∈ fp, H' b = none) E s1) E s
 done : ∀ (X : Cx), X.prog = P -> X.w = w -> X.K = K -> X.calm = true -> ∀ (i : Nat) (pins : List (Addr × Obj)) (s : Shared) (σ : St) (H : Hp) (E : Value -> Shared -> Prop), Inv X pins σ H s -> (∀ b ∈ fp, dP X pins H b) -> tn i s.heap -> J.stop i H ->
  wpAny (model P w) X.A (pyNext (.ref it)) (fun r s1 => r = none /\ Inv X pins σ H s1) E s
 self : ∀ (A : Around) (i : Nat) (s : Shared) (Q : Value -> Shared -> Prop) (E : Value -> Shared -> Prop), tn i s.heap -> Q (.ref it) s -> wpAny (model P w) A (pyIter (.ref it)) Q E s
abbrev TI := St -> Hp -> (It -> Hp -> Prop) -> Prop
def PIE (X : Cx) (pins : List (Addr × Obj)) (σ : St) (tg : Expr) (R : It -> Hp -> Prop) (itv : Value) (s2 : Shared) : Prop :=
 ∃ (it : Addr) (fp : List Addr) (tn : Nat -> Heap -> Prop) (J : It) (H' : Hp), itv = .ref it /\ Inv X pins σ H' s2 /\ Turn X.prog X.w X.K tg J fp it tn /\ tn 0 s2.heap /\ (∀ b ∈ fp, dP X pins H' b) /\ R J H'
def PI (X : Cx) (tg iter : Expr) (wi : TI) : Prop :=
 ∀ (pins : List (Addr × Obj)) (s : Shared) (σ : St) (H : Hp) (R : It -> Hp -> Prop), Inv X pins σ H s -> wi σ H R ->
  wpAny (model X.prog X.w) X.A (eval iter X.env) (fun v s1 => wpAny (model X.prog X.w) X.A (pyIter v) (PIE X pins σ tg R) X.xe s1) X.xe s
theorem rM {M : Model} {A : Around} {E : Value -> Shared -> Prop} {s : Shared} {tg : Expr} {it : Addr} {u : Value} {o : Obj} {n : String} {vs : Array Value} {Q : Unit -> Shared -> Prop} (ho : s.heap.get? it = some o) (hc : o.cls = .type n) (hd : o.data = .fields vs)
  (hn : ["enumerate", "zip", "dict_itemiterator", "dict_reverseitemiterator", "odict_iterator", "itertools.zip_longest", "itertools.pairwise"].contains n = false) (hQ : Q () s) : wpAny M A (letOwnedTupleGo tg (.ref it) u) Q E s := by
 unfold letOwnedTupleGo
 cases tg <;> first
  | exact wpAny_pure hQ
  | (cases u <;> first
    | exact wpAny_pure hQ
    | (refine wpAny_bind (wpAny_load ho ?_)
       rw [hc, hd]
       show wpAny M A (if (["enumerate", "zip", "dict_itemiterator", "dict_reverseitemiterator", "odict_iterator", "itertools.zip_longest", "itertools.pairwise"].contains n && vs[0]? == some (rawInt _)) = true then _ else _) Q E s
       rw [if_neg (by intro h; rw [hn, Bool.false_and] at h; cases h)]
       exact wpAny_pure hQ))
def Itl (K : Frag) (a : Addr) : It :=
 ⟨fun i H => ∃ xs x, SqL K H a xs /\ xs[i]? = some x, fun i H x H' => H' = H /\ ∀ xs, SqL K H a xs -> xs[i]? = some x, fun i H => ∃ xs, SqL K H a xs /\ xs.length <= i⟩
def Itt (K : Frag) (a : Addr) : It :=
 ⟨fun i H => ∃ xs x, SqT K H a xs /\ xs[i]? = some x, fun i H x H' => H' = H /\ ∀ xs, SqT K H a xs -> xs[i]? = some x, fun i H => ∃ xs, SqT K H a xs /\ xs.length <= i⟩
def Itr (lo : Int) (n : Nat) : It := ⟨fun i _ => i < n, fun i H x H' => H' = H /\ x = .int (lo + i), fun i _ => n <= i⟩
theorem mV {P : Program} {w : World} {K : Frag} {tg : Expr} (a it : Addr) : Turn P w K tg (Itl K a) [it] it (fun i h => h.IsListIter it a i) where
 mem := by simp
 obj := fun i h st b hb => by
  have e : b = it := by simpa using hb
  subst e
  obtain ⟨o, e, c, d⟩ := st
  exact ⟨o, e, fun v z => by rw [d] at z; cases z⟩
 keep := fun i h h' st k => st.at fun o e => k it (by simp) o e
 item := by
  intro X hP hw hK hc i pins s σ H E I hf st hg
  subst hP hw hK
  obtain ⟨xs, x, hq, hx⟩ := hg
  obtain ⟨its, rv, p, hz⟩ := I.list hq
  obtain ⟨u, hu, ru⟩ := rv.get hx
  obtain ⟨f0, f1, f2, f3, f4, f5⟩ := hf it (by simp)
  refine wpAny_pyNext_list_item st p.isList (x := u) (by simpa using hu) fun h' st' sb => ?_
  have I1 : Inv X pins σ H { s with heap := h' } := I.turned (t' := s.toks) (fun b o hb e => (sb.2 b hb).trans e) f0 f1 f3 f4 f5
  obtain ⟨o, e, c, d⟩ := id st'
  exact ⟨u, rfl, rM (s := { s with heap := h' }) e c d (by decide) ⟨x, H, I1, ru, ⟨rfl, fun ys hy => by rw [I.list_inj hy hq]; exact hx⟩, st', fun b hb => (hf b hb).1⟩⟩
 done := by
  intro X hP hw hK hc i pins s σ H E I hf st hg
  subst hP hw hK
  obtain ⟨xs, hq, hx⟩ := hg
  obtain ⟨its, rv, p, hz⟩ := I.list hq
  obtain ⟨f0, f1, f2, f3, f4, f5⟩ := hf it (by simp)
  have hl := rv.length
  exact wpAny_pyNext_list_end (I.ok.hd hc) st p.isList (by simp; omega) fun h' eb => ⟨rfl, I.turned (t' := s.toks) (fun b o hb e => eb b o hb e) f0 f1 f3 f4 f5⟩
 self := fun _ _ _ _ _ st h => wpAny_pyIter_listiter st h
theorem qX {P : Program} {w : World} {K : Frag} {tg : Expr} (a it : Addr) : Turn P w K tg (Itt K a) [it] it (fun i h => h.IsTupleIter it a i) where
 mem := by simp
 obj := fun i h st b hb => by
  have e : b = it := by simpa using hb
  subst e
  obtain ⟨o, e, c, d⟩ := st
  exact ⟨o, e, fun v z => by rw [d] at z; cases z⟩
 keep := fun i h h' st k => st.at fun o e => k it (by simp) o e
 item := by
  intro X hP hw hK hc i pins s σ H E I hf st hg
  subst hP hw hK
  obtain ⟨xs, x, hq, hx⟩ := hg
  obtain ⟨its, rv, p, hz⟩ := I.tuple hq
  obtain ⟨u, hu, ru⟩ := rv.get hx
  obtain ⟨f0, f1, f2, f3, f4, f5⟩ := hf it (by simp)
  refine wpAny_pyNext_tuple_item st (show s.heap.IsTuple a its.toArray from p) (x := u) (by simpa using hu) fun h' st' sb => ?_
  have I1 : Inv X pins σ H { s with heap := h' } := I.turned (t' := s.toks) (fun b o hb e => (sb.2 b hb).trans e) f0 f1 f3 f4 f5
  obtain ⟨o, e, c, d⟩ := id st'
  exact ⟨u, rfl, rM (s := { s with heap := h' }) e c d (by decide) ⟨x, H, I1, ru, ⟨rfl, fun ys hy => by rw [I.tuple_inj hy hq]; exact hx⟩, st', fun b hb => (hf b hb).1⟩⟩
 done := by
  intro X hP hw hK hc i pins s σ H E I hf st hg
  subst hP hw hK
  obtain ⟨xs, hq, hx⟩ := hg
  obtain ⟨its, rv, p, hz⟩ := I.tuple hq
  obtain ⟨f0, f1, f2, f3, f4, f5⟩ := hf it (by simp)
  have hl := rv.length
  exact wpAny_pyNext_tuple_end (I.ok.hd hc) st (show s.heap.IsTuple a its.toArray from p) (by simp; omega) fun h' eb => ⟨rfl, I.turned (t' := s.toks) (fun b o hb e => eb b o hb e) f0 f1 f3 f4 f5⟩
 self := fun _ _ _ _ _ st h => wpAny_pyIter_tupleiter st h
theorem qY {P : Program} {w : World} {K : Frag} {tg : Expr} (it : Addr) (lo : Int) (n : Nat) : Turn P w K tg (Itr lo n) [it] it (fun i h => IsRangeIter h it (lo + (i : Nat) * 1) ((n : Int) - (i : Nat)) 1) where
 mem := by simp
 obj := fun i h st b hb => by
  have e : b = it := by simpa using hb
  subst e
  exact ⟨_, st, fun v z => by
   have z' : Data.fields _ = Data.cell v := z
   cases z'⟩
 keep := fun i h h' st k => k it (by simp) _ st
 item := by
  intro X hP hw hK hc i pins s σ H E I hf st hg
  subst hP hw hK
  obtain ⟨f0, f1, f2, f3, f4, f5⟩ := hf it (by simp)
  have W := Walks.range (prog := X.prog) (w := X.w) (I.ok.hd hc) it lo 1 n
  refine W.item i s _ _ hg st fun v h' tk hv st' kk => ?_
  obtain ⟨t, rfl⟩ := hv
  have I1 : Inv X pins σ H { s with heap := h', toks := tk } := I.turned (fun b o hb e => kk b o (by simpa using hb) e) f0 f1 f3 f4 f5
  refine ⟨_, rfl, rM (s := { s with heap := h', toks := tk }) (n := "range_iterator") st' rfl rfl (by decide) ⟨.int (lo + i), H, I1, ⟨t, ?_⟩, ⟨rfl, rfl⟩, st', fun b hb => (hf b hb).1⟩⟩
  rw [Int.mul_one]
 done := by
  intro X hP hw hK hc i pins s σ H E I hf st hg
  subst hP hw hK
  obtain ⟨f0, f1, f2, f3, f4, f5⟩ := hf it (by simp)
  exact wpAny_pyNext_range_end (I.ok.hd hc) st (by have : n <= i := hg; omega) fun h' eb => ⟨rfl, I.turned (t' := s.toks) (fun b o hb e => eb b o hb e) f0 f1 f3 f4 f5⟩
 self := fun _ _ _ _ _ st h => wpAny_pyIter_rangeiter st h
section
variable {X : Cx} {tg : Expr}
def CM (K : Frag) (tl : TE) : TI := fun σ H R => tl σ H fun x H1 => ∃ a, x = .ref a /\ (∃ xs, SqL K H1 a xs) /\ R (Itl K a) H1
theorem yJ {l : Expr} {tl : TE} (hl : PE X l tl) : PI X tg l (CM X.K tl) := by
 intro pins s σ H R I h
 refine thn (hl pins s σ H _ I h) fun v s1 ⟨x, H1, I1, r1, q1⟩ => ?_
 obtain ⟨a, e, ⟨xs, hq⟩, q⟩ := q1
 subst e
 cases r1
 obtain ⟨its, rv, p, hz⟩ := I1.list hq
 refine wpAny_pyIter_list p.isList ?_
 refine ⟨s1.heap.objs.size, [s1.heap.objs.size], _, _, H1, rfl, I1.kept (t' := s1.toks) fun b o e => Heap.get?_push_of_some _ e, mV a _, ⟨_, Heap.get?_push_size _ rfl, rfl, rfl⟩, fun b hb => ?_, q⟩
 have e : b = s1.heap.objs.size := by simpa using hb
 subst e
 exact I1.fpOk (Nat.le_refl _) (I1.hok.fresh (Nat.le_refl _))
theorem o0 {pins : List (Addr × Obj)} {σ : St} {H : Hp} {s : Shared} {R : It -> Hp -> Prop} {E : Value -> Shared -> Prop} {lo hi : Int} {t u v : Tok} {tk : Nat} (I : Inv X pins σ H s) (h1 : -(2 ^ 62) <= lo) (h2 : lo < 2 ^ 62) (h3 : -(2 ^ 62) <= hi) (h4 : hi < 2 ^ 62)
  (q : R (Itr lo (hi - lo).toNat) H) : wpAny (model X.prog X.w) X.A (pyIter (.ref s.heap.objs.size)) (PIE X pins σ tg R) E { s with heap := s.heap.push { cls := .type "range", data := .fields #[.int lo t, .int hi u, .int 1 v] }, toks := tk } := by
 refine wpAny_pyIter_range (IsRange.new ..) (small_one h1 h2 h3 h4) ?_
 have I1 : Inv X pins σ H { s with heap := s.heap.push { cls := .type "range", data := .fields #[.int lo t, .int hi u, .int 1 v] }, toks := tk } := I.kept fun b o e => Heap.get?_push_of_some _ e
 refine ⟨(s.heap.push { cls := .type "range", data := .fields #[.int lo t, .int hi u, .int 1 v] }).objs.size, [(s.heap.push { cls := .type "range", data := .fields #[.int lo t, .int hi u, .int 1 v] }).objs.size], _, _, H, rfl,
  I1.kept (t' := tk) fun b o e => Heap.get?_push_of_some _ e, qY _ lo (hi - lo).toNat, ?_, fun b hb => ?_, q⟩
 ·have e1 : lo + ((0 : Nat) : Int) * 1 = lo := by simp
  have e2 : (((hi - lo).toNat : Nat) : Int) - ((0 : Nat) : Int) = Builtin.Range.rangeSize lo hi 1 := by rw [rangeSize_one]; split <;> omega
  show IsRangeIter _ _ (lo + ((0 : Nat) : Int) * 1) ((((hi - lo).toNat : Nat) : Int) - ((0 : Nat) : Int)) 1
  rw [e1, e2]
  exact Heap.get?_push_size _ rfl
 ·have e : b = (s.heap.push { cls := .type "range", data := .fields #[.int lo t, .int hi u, .int 1 v] }).objs.size := by simpa using hb
  subst e
  exact I1.fpOk (Nat.le_refl _) (I1.hok.fresh (Nat.le_refl _))
def CL (ta : TA) : TI := fun σ H R => ta σ H fun vs H1 => ∃ j : Int, vs = [.int j] /\ -(2 ^ 62) <= j /\ j < 2 ^ 62 /\ R (Itr 0 j.toNat) H1
def CK (ta : TA) : TI := fun σ H R => ta σ H fun vs H1 => ∃ i j : Int, vs = [.int i, .int j] /\ (-(2 ^ 62) <= i /\ i < 2 ^ 62 /\ -(2 ^ 62) <= j /\ j < 2 ^ 62) /\ R (Itr i (j - i).toNat) H1
theorem tY {a : Expr} {ta : TA} {p pos : Pos} (hg : Gl X "range") (hm : X.mg "range" = none) (ha : PA X [a] ta) (hs : starEach [a] X.env = [(false, eval a X.env)] := by rfl) : PI X tg (.Call (.Name "range" p) [a] [] pos) (CL ta) := by
 intro pins s σ H R I h
 refine Call_ (fP I hg hm boot_range (PyProof.Rows.callWith_type1 (thn (ha pos pins s σ H _ I h) fun us s1 ⟨vs, H1, I1, r1, q1⟩ => ?_) hs rfl))
 obtain ⟨j, e, q1, q2, q⟩ := q1
 subst e
 cases r1 with
 | cons r rr =>
  cases rr
  obtain ⟨t, rfl⟩ := r
  exact call_range_1 (o0 I1 (by omega) (by omega) q1 q2 (by simpa using q))
theorem tX {a b : Expr} {ta : TA} {p pos : Pos} (hg : Gl X "range") (hm : X.mg "range" = none) (ha : PA X [a, b] ta) (hs : starEach [a, b] X.env = [(false, eval a X.env), (false, eval b X.env)] := by rfl) (hs2 : starEach [b] X.env = [(false, eval b X.env)] := by rfl) :
  PI X tg (.Call (.Name "range" p) [a, b] [] pos) (CK ta) := by
 intro pins s σ H R I h
 refine Call_ (fP I hg hm boot_range (PyProof.Rows.callWith_type1 (thn (ha pos pins s σ H _ I h) fun us s1 ⟨vs, H1, I1, r1, q1⟩ => ?_) (by rw [hs, hs2]) (by rw [hs2]; rfl)))
 obtain ⟨i, j, e, ⟨q1, q2, q3, q4⟩, q⟩ := q1
 subst e
 cases r1 with
 | cons r rr =>
  cases rr with
  | cons r' rr =>
   cases rr
   obtain ⟨t, rfl⟩ := r
   obtain ⟨t', rfl⟩ := r'
   exact call_range_2 (o0 I1 q1 q2 q3 q4 q)
def zR (wi : TI) (g : TG) (tb : TS) : TS := fun D σ H => wi σ H fun J H1 => ∃ W : Nat -> Nat -> St -> Hp -> Prop, (∃ m, W 0 m σ H1) /\ ∀ i m σ H, W i m σ H ->
 (J.stop i H /\ D.nx σ H) \/ (J.go i H /\ ∃ N : St -> Hp -> Prop, (∀ σ' H', N σ' H' -> ∃ m', m' < m /\ W (i + 1) m' σ' H') /\ ∀ x H', J.yld i H x H' -> g x σ H' fun σ2 H2 => tb { D with nx := N, ct := N, bk := D.nx } σ2 H2)
def jn (fp : List Addr) (h : Heap) : List (Addr × Obj) := fp.filterMap fun b => (h.get? b).map fun o => (b, o)
theorem f8 {fp : List Addr} {h : Heap} {b : Addr} {o : Obj} (hb : b ∈ fp) (e : h.get? b = some o) : (b, o) ∈ jn fp h := List.mem_filterMap.mpr ⟨b, hb, by rw [e]; rfl⟩
theorem ub {fp : List Addr} {h : Heap} {p : Addr × Obj} (hp : p ∈ jn fp h) : p.1 ∈ fp /\ h.get? p.1 = some p.2 := by
 obtain ⟨b, hb, e⟩ := List.mem_filterMap.mp hp
 cases q : h.get? b with
 | none => rw [q] at e; cases e
 | some o =>
  rw [q] at e
  have e' : (b, o) = p := Option.some.inj e
  subst e'
  exact ⟨hb, q⟩
theorem Inv.pinned {pins : List (Addr × Obj)} {σ : St} {H : Hp} {s : Shared} {fp : List Addr} (I : Inv X pins σ H s) (hf : ∀ b ∈ fp, dP X pins H b) (ho : ∀ b ∈ fp, ∃ o, s.heap.get? b = some o /\ ∀ v, o.data ≠ .cell v) : Inv X (pins ++ jn fp s.heap) σ H s :=
 I.pins_of fun p hp => (List.mem_append.mp hp).elim (fun z => I.pin p (List.mem_append_right _ z)) fun z => by
  obtain ⟨hb, e⟩ := ub z
  obtain ⟨f0, f1, f2, _⟩ := hf p.1 hb
  obtain ⟨o, e', d⟩ := ho p.1 hb
  rw [e] at e'; cases e'
  exact ⟨e, f0, f1, f2, d⟩
theorem Inv.unpinned {pins pl : List (Addr × Obj)} {σ : St} {H : Hp} {s : Shared} (I : Inv X (pins ++ pl) σ H s) : Inv X pins σ H s := I.pins_of fun p hp => I.pin p (List.mem_append_right _ (List.mem_append_left _ hp))
theorem bv {iter : Expr} {body : List Stmt} {wi : TI} {g : TG} {tb : TS} {pos : Pos} (hp : PassesOwn (model X.prog X.w) X.A X.env X.xe) (hc : X.calm = true) (hi : PI X tg iter wi) (hg : PG X tg g) (hb : PSs X body tb)
  (hs : ∀ x, foldedSetIterable iter X.env x = pure x := by intro _; rfl) : PS X (.For tg iter body [] pos) (zR wi g tb) := by
 intro pins s σ H D I h
 refine wpAny_For (thn (hi pins s σ H _ I h) fun v s1 h1 => thn h1 fun itv s2 h2 => ?_) hs
 obtain ⟨it, fp, tn, J, H2, e, I2, T, st2, f2, W, ⟨m0, w0⟩, turn⟩ := h2
 subst e
 -- what stays true of the iterator's objects through the loop
 have stat : ∀ {H' : Hp}, (∀ b ∈ fp, H' b = none) -> ∀ b ∈ fp, dP X pins H' b := fun hn b hb => ⟨hn b hb, (f2 b hb).2⟩
 refine codeAny_forLoop_any (fun n s' => ∃ i σ' H', Inv X pins σ' H' s' /\ tn i s'.heap /\ (∀ b ∈ fp, H' b = none) /\ W i n σ' H') ?_ m0 ⟨0, σ, H2, I2, st2, fun b hb => (f2 b hb).1, w0⟩
 rintro n s3 ⟨i, σ3, H3, I3, st3, fr3, w3⟩
 rcases turn i n σ3 H3 w3 with ⟨stop, qn⟩ | ⟨go, N, hN, step⟩
 ·refine wpAny_passesOwn hp (thn (T.done X rfl rfl rfl hc i pins s3 σ3 H3 X.xe I3 (stat fr3) st3 stop) fun r s4 ⟨hr, I4⟩ => ?_)
  subst hr
  exact wpAny_execs_nil ⟨σ3, H3, I4, qn⟩
 ·refine wpAny_passesOwn hp (thn (T.item X rfl rfl rfl hc i pins s3 σ3 H3 X.xe I3 (stat fr3) st3 go) fun r s4 ⟨u, hr, h4⟩ => ?_)
  subst hr
  refine wpAny_passesOwn hp (thn h4 fun _ s5 ⟨x, H5, I5, r5, y5, st5, fr5⟩ => ?_)
  have I5' := I5.pinned (stat fr5) (T.obj _ _ st5)
  refine wpAny_passesOwn hp (thn (hg _ s5 σ3 H5 x u _ I5' r5 (step x H5 y5)) fun _ s6 ⟨σ6, H6, I6, q6⟩ => ?_)
  refine wpAny_passesOwn hp (thn (hb _ s6 σ6 H6 _ I6 q6) fun f s7 q7 => ?_)
  have again : ∀ {σ7 : St} {H7 : Hp}, Inv X (pins ++ jn fp s5.heap) σ7 H7 s7 -> N σ7 H7 -> ∃ m, m < n /\ ∃ i σ' H', Inv X pins σ' H' s7 /\ tn i s7.heap /\ (∀ b ∈ fp, H' b = none) /\ W i m σ' H' := fun {σ7 H7} I7 n7 => by
   obtain ⟨m', hm, w7⟩ := hN σ7 H7 n7
   refine ⟨m', hm, i + 1, σ7, H7, I7.unpinned, T.keep _ _ _ st5 fun b hb o e => (I7.pin (b, o) (List.mem_append_right _ (List.mem_append_right _ (f8 hb e)))).1, fun b hb => ?_, w7⟩
   obtain ⟨o, e, d⟩ := T.obj _ _ st5 b hb
   exact (I7.pin (b, o) (List.mem_append_right _ (List.mem_append_right _ (f8 hb e)))).2.1
  cases f with
  | next => obtain ⟨σ7, H7, I7, n7⟩ := q7; exact again I7 n7
  | cont => obtain ⟨σ7, H7, I7, n7⟩ := q7; exact again I7 n7
  | brk => obtain ⟨σ7, H7, I7, q7⟩ := q7; exact ⟨σ7, H7, I7.unpinned, q7⟩
  | ret v => obtain ⟨x7, σ7, H7, I7, r7, q7⟩ := q7; exact ⟨x7, σ7, H7, I7.unpinned, r7, q7⟩
end
abbrev R2 := V -> V -> Hp -> VK -> Prop
def OpR (X : Cx) (f : Value -> Value -> Sem Value) (r : R2) : Prop :=
 ∀ (pins : List (Addr × Obj)) (s : Shared) (σ : St) (H : Hp) (x y : V) (v u : Value) (Q : VK), Inv X pins σ H s -> aN x v -> aN y u -> r x y H Q ->
  wpAny (model X.prog X.w) X.A (f v u) (EP X pins σ Q) X.xe s
def cZ (X : Cx) (f : Value) (r : List V -> Hp -> VK -> Prop) : Prop :=
 ∀ (pins : List (Addr × Obj)) (s : Shared) (σ : St) (H : Hp) (xs : List V) (us : List Value) (Q : VK), Inv X pins σ H s -> ar xs us -> r xs H Q ->
  wpAny (model X.prog X.w) X.A (call f us) (EP X pins σ Q) X.xe s
def TruR (X : Cx) (r : V -> Hp -> (Bool -> Hp -> Prop) -> Prop) : Prop :=
 ∀ (pins : List (Addr × Obj)) (s : Shared) (σ : St) (H : Hp) (x : V) (v : Value) (Q : Bool -> Hp -> Prop), Inv X pins σ H s -> aN x v -> r x H Q ->
  wpAny (model X.prog X.w) X.A (truthy v) (TP X pins σ Q) X.xe s
def tOp (r : R2) (ta tb : TE) : TE := fun σ H Q => ta σ H fun x H1 => tb σ H1 fun y H2 => r x y H2 Q
def rI (C : Int -> Int -> Prop) (g : Int -> Int -> V) : R2 := fun x y H Q => ∃ i j, x = .int i /\ y = .int j /\ C i j /\ Q (g i j) H
def rI0 (g : Int -> Int -> V) : R2 := fun x y H Q => ∃ i j, x = .int i /\ y = .int j /\ Q (g i j) H
section
variable {X : Cx} {a b c : Expr} {ta tb tc : TE} {pos : Pos}
theorem vW (ha : PE X a ta) (hb : PE X b tb) {pins : List (Addr × Obj)} {s : Shared} {σ : St} {H : Hp} {R : V -> V -> Hp -> Prop} (I : Inv X pins σ H s)
  (h : ta σ H fun x H1 => tb σ H1 fun y H2 => R x y H2) {Q : Value -> Shared -> Prop} {f : Value -> Value -> Sem Value}
  (hf : ∀ v u s2 x y H2, Inv X pins σ H2 s2 -> aN x v -> aN y u -> R x y H2 -> wpAny (model X.prog X.w) X.A (f v u) Q X.xe s2) :
  wpAny (model X.prog X.w) X.A (eval a X.env) (fun v s₁ => wpAny (model X.prog X.w) X.A (eval b X.env) (fun u s₂ => wpAny (model X.prog X.w) X.A (f v u) Q X.xe s₂) X.xe s₁) X.xe s := by
 refine thn (ha pins s σ H _ I h) fun v s1 ⟨x, H1, I1, r1, q1⟩ => ?_
 refine thn (hb pins s1 σ H1 _ I1 q1) fun u s2 ⟨y, H2, I2, r2, q2⟩ => ?_
 exact hf v u s2 x y H2 I2 r1 r2 q2
theorem cT {op : Operator} {r : R2} (ho : OpR X (binaryOp op) r) (ha : PE X a ta) (hb : PE X b tb) : PE X (.BinOp a op b pos) (tOp r ta tb) := by
 intro pins s σ H Q I h
 exact wpAny_BinOp (vW ha hb I h fun v u s2 x y H2 I2 rx ry q => ho pins s2 σ H2 x y v u Q I2 rx ry q)
theorem opI {f : Value -> Value -> Sem Value} {C : Int -> Int -> Prop} {g : Int -> Int -> Int}
  (rule : ∀ (i j : Int) (t u : Tok) (s : Shared) (Q : Value -> Shared -> Prop) (E : Value -> Shared -> Prop), C i j -> Q (.int (g i j) s.toks) { s with toks := s.toks + 1 } -> wpAny (model X.prog X.w) X.A (f (.int i t) (.int j u)) Q E s) :
  OpR X f (rI C fun i j => .int (g i j)) := by
 intro pins s σ H x y v u Q I rx ry h
 obtain ⟨i, j, rfl, rfl, hc, q⟩ := h
 obtain ⟨t, rfl⟩ := rx
 obtain ⟨t', rfl⟩ := ry
 exact rule i j t t' s _ _ hc ⟨.int (g i j), H, I.tok _, ⟨_, rfl⟩, q⟩
theorem AA {f : Value -> Value -> Sem Value} {g : Int -> Int -> Int}
  (rule : ∀ (i j : Int) (t u : Tok) (s : Shared) (Q : Value -> Shared -> Prop) (E : Value -> Shared -> Prop), Q (.int (g i j) s.toks) { s with toks := s.toks + 1 } -> wpAny (model X.prog X.w) X.A (f (.int i t) (.int j u)) Q E s) :
  OpR X f (rI0 fun i j => .int (g i j)) := by
 intro pins s σ H x y v u Q I rx ry h
 obtain ⟨i, j, rfl, rfl, q⟩ := h
 obtain ⟨t, rfl⟩ := rx
 obtain ⟨t', rfl⟩ := ry
 exact rule i j t t' s _ _ ⟨.int (g i j), H, I.tok _, ⟨_, rfl⟩, q⟩
theorem rk {f : Value -> Value -> Sem Value} {g : Int -> Int -> Bool}
  (rule : ∀ (i j : Int) (t u : Tok) (s : Shared) (Q : Value -> Shared -> Prop) (E : Value -> Shared -> Prop), Q (.bool (g i j)) s -> wpAny (model X.prog X.w) X.A (f (.int i t) (.int j u)) Q E s) :
  OpR X f (rI0 fun i j => .bl (g i j)) := by
 intro pins s σ H x y v u Q I rx ry h
 obtain ⟨i, j, rfl, rfl, q⟩ := h
 obtain ⟨t, rfl⟩ := rx
 obtain ⟨t', rfl⟩ := ry
 exact rule i j t t' s _ _ ⟨.bl (g i j), H, I, rfl, q⟩
def CDiv (i j : Int) : Prop := 0 < j /\ j < 1073741824
def CPow (i j : Int) : Prop := 0 <= j /\ j <= 1000000 /\ i.natAbs < 2 ^ 64
def xB (i j : Int) : Prop := (-(2 ^ 64) < i /\ i < 2 ^ 64) \/ (-(2 ^ 64) < j /\ j < 2 ^ 64)
theorem xB.ok {i j : Int} (h : xB i j) : IntMulOk i j := by
 rcases h with ⟨h1, h2⟩ | ⟨h1, h2⟩
 ·exact .of_left (intBits_le_64 h1 h2)
 ·exact .of_right (intBits_le_64 h1 h2)
theorem ln : OpR X (binaryOp .Add) (rI0 fun i j => .int (i + j)) := AA fun _ _ _ _ _ _ _ q => add_int q
theorem o5 : OpR X (binaryOp .Sub) (rI0 fun i j => .int (i - j)) := AA fun _ _ _ _ _ _ _ q => sub_int q
theorem Ax : OpR X (binaryOp .Mult) (rI xB fun i j => .int (i * j)) := opI fun _ _ _ _ _ _ _ hc q => mul_int q hc.ok
theorem qt : OpR X (binaryOp .FloorDiv) (rI CDiv fun i j => .int (i / j)) := opI fun i j _ _ _ _ _ hc q => by
 have h1 : (0 : Int) < j := hc.1
 have h2 : j < 1073741824 := hc.2
 exact floordiv_int (by omega) (by rw [Int.fdiv_eq_ediv_of_nonneg i (by omega)]; exact q) (.inl (PyProof.noPylong_small (by omega)))
theorem gx : OpR X (binaryOp .Mod) (rI (fun _ j => 0 < j) fun i j => .int (i % j)) := opI fun i j _ _ _ _ _ hc q => by
 have h1 : (0 : Int) < j := hc
 exact mod_int' (by omega) (by rw [Int.fmod_eq_emod_of_nonneg i (by omega)]; exact q)
theorem Av : OpR X (binaryOp .Pow) (rI CPow fun i j => .int (i ^ j.toNat)) := opI fun _ _ _ _ _ _ _ hc q => pow_int_small hc.1 hc.2.1 hc.2.2 q
end
def uT : V -> V -> Bool
 | .non, .non => true | .non, .int _ => true | .int _, .non => true | .non, .bl _ => true | .bl _, .non => true | .non, .str _ => true | .str _, .non => true
 | .int _, .int _ => true | .bl _, .bl _ => true | .str _, .str _ => true | .byt _, .byt _ => true
 | .int _, .str _ => true | .str _, .int _ => true | .bl _, .str _ => true | .str _, .bl _ => true
 | _, _ => false
def rEq : R2 := fun x y H Q => uT x y = true /\ Q (.bl (decide (x = y))) H
def rNe : R2 := fun x y H Q => uT x y = true /\ Q (.bl (!decide (x = y))) H
theorem qK {i j : Int} : decide (V.int i = V.int j) = (i == j) := by
 rw [Bool.eq_iff_iff]
 simp
theorem dec_bl {i j : Bool} : decide (V.bl i = V.bl j) = (i == j) := by
 rw [Bool.eq_iff_iff]
 simp
theorem qJ {i j : Str} : decide (V.str i = V.str j) = (i == j) := by
 rw [Bool.eq_iff_iff]
 simp
theorem qL {i j : Array UInt8} : decide (V.byt i = V.byt j) = (i.toList == j.toList) := by
 rw [Bool.eq_iff_iff]
 cases i
 cases j
 simp
section
variable {X : Cx} {a b c : Expr} {ta tb tc : TE} {pos : Pos}
theorem fin_bl {pins : List (Addr × Obj)} {σ : St} {H : Hp} {s : Shared} {Q : VK} {k k' : Bool} (I : Inv X pins σ H s) (q : Q (.bl k) H) (e : k = k') : EP X pins σ Q (.bool k') s := by
 subst e
 exact ⟨.bl k, H, I, rfl, q⟩
theorem Cw : OpR X (compareOp .Eq) rEq := by
 intro pins s σ H x y v u Q I rx ry h
 obtain ⟨hs, q⟩ := h
 cases x with
 | non =>
  cases rx
  cases y with
  | non => cases ry; exact PySem.EqNone.eq_none_none (fin_bl I q (by simp))
  | bl j => cases ry; exact PySem.EqNone.eq_none_bool (fin_bl I q (by simp))
  | int j => obtain ⟨t', rfl⟩ := ry; exact PySem.EqNone.eq_none_int (fin_bl I q (by simp))
  | str j => obtain ⟨t', rfl⟩ := ry; exact PySem.EqNone.eq_none_str (fin_bl I q (by simp))
  | _ => exact absurd (show false = true from hs) Bool.false_ne_true
 | bl i =>
  cases rx
  cases y with
  | non => cases ry; exact PySem.EqNone.eq_bool_none (fin_bl I q (by simp))
  | bl j => cases ry; exact eq_bool (fin_bl I q dec_bl)
  | str j => obtain ⟨t', rfl⟩ := ry; exact PySem.EqMixed.eq_bool_str (fin_bl I q (by simp))
  | _ => exact absurd (show false = true from hs) Bool.false_ne_true
 | int i =>
  obtain ⟨t, rfl⟩ := rx
  cases y with
  | non => cases ry; exact PySem.EqNone.eq_int_none (fin_bl I q (by simp))
  | int j => obtain ⟨t', rfl⟩ := ry; exact eq_int (fin_bl I q qK)
  | str j => obtain ⟨t', rfl⟩ := ry; exact PySem.EqMixed.eq_int_str (fin_bl I q (by simp))
  | _ => exact absurd (show false = true from hs) Bool.false_ne_true
 | str i =>
  obtain ⟨t, rfl⟩ := rx
  cases y with
  | non => cases ry; exact PySem.EqNone.eq_str_none (fin_bl I q (by simp))
  | bl j => cases ry; exact PySem.EqMixed.eq_str_bool (fin_bl I q (by simp))
  | int j => obtain ⟨t', rfl⟩ := ry; exact PySem.EqMixed.eq_str_int (fin_bl I q (by simp))
  | str j => obtain ⟨t', rfl⟩ := ry; exact eq_str (fin_bl I q qJ)
  | _ => exact absurd (show false = true from hs) Bool.false_ne_true
 | byt i =>
  obtain ⟨t, rfl⟩ := rx
  cases y with
  | byt j => obtain ⟨t', rfl⟩ := ry; exact PySem.W.eq_bytes (fin_bl I q qL)
  | _ => exact absurd (show false = true from hs) Bool.false_ne_true
 | _ => cases y <;> exact absurd (show false = true from hs) Bool.false_ne_true
theorem Cu : OpR X (compareOp .NotEq) rNe := by
 intro pins s σ H x y v u Q I rx ry h
 obtain ⟨hs, q⟩ := h
 cases x with
 | non =>
  cases rx
  cases y with
  | non => cases ry; exact PySem.EqNone.ne_none_none (fin_bl I q (by simp))
  | bl j => cases ry; exact PySem.EqNone.ne_none_bool (fin_bl I q (by simp))
  | int j => obtain ⟨t', rfl⟩ := ry; exact PySem.EqNone.ne_none_int (fin_bl I q (by simp))
  | str j => obtain ⟨t', rfl⟩ := ry; exact PySem.EqNone.ne_none_str (fin_bl I q (by simp))
  | _ => exact absurd (show false = true from hs) Bool.false_ne_true
 | bl i =>
  cases rx
  cases y with
  | non => cases ry; exact PySem.EqNone.ne_bool_none (fin_bl I q (by simp))
  | bl j => cases ry; exact ne_bool (fin_bl I q (congrArg not dec_bl))
  | str j => obtain ⟨t', rfl⟩ := ry; exact PySem.EqMixed.ne_bool_str (fin_bl I q (by simp))
  | _ => exact absurd (show false = true from hs) Bool.false_ne_true
 | int i =>
  obtain ⟨t, rfl⟩ := rx
  cases y with
  | non => cases ry; exact PySem.EqNone.ne_int_none (fin_bl I q (by simp))
  | int j => obtain ⟨t', rfl⟩ := ry; exact ne_int (fin_bl I q (congrArg not qK))
  | str j => obtain ⟨t', rfl⟩ := ry; exact PySem.EqMixed.ne_int_str (fin_bl I q (by simp))
  | _ => exact absurd (show false = true from hs) Bool.false_ne_true
 | str i =>
  obtain ⟨t, rfl⟩ := rx
  cases y with
  | non => cases ry; exact PySem.EqNone.ne_str_none (fin_bl I q (by simp))
  | bl j => cases ry; exact PySem.EqMixed.ne_str_bool (fin_bl I q (by simp))
  | int j => obtain ⟨t', rfl⟩ := ry; exact PySem.EqMixed.ne_str_int (fin_bl I q (by simp))
  | str j => obtain ⟨t', rfl⟩ := ry; exact ne_str (fin_bl I q (congrArg not qJ))
  | _ => exact absurd (show false = true from hs) Bool.false_ne_true
 | byt i =>
  obtain ⟨t, rfl⟩ := rx
  cases y with
  | byt j => obtain ⟨t', rfl⟩ := ry; exact PySem.W.ne_bytes (fin_bl I q (congrArg not qL))
  | _ => exact absurd (show false = true from hs) Bool.false_ne_true
 | _ => cases y <;> exact absurd (show false = true from hs) Bool.false_ne_true
theorem oa : OpR X (compareOp .Lt) (rI0 fun i j => .bl (decide (i < j))) := rk fun _ _ _ _ _ _ _ q => lt_int q
theorem lm : OpR X (compareOp .LtE) (rI0 fun i j => .bl (decide (i <= j))) := rk fun _ _ _ _ _ _ _ q => le_int q
theorem iE : OpR X (compareOp .Gt) (rI0 fun i j => .bl (decide (j < i))) := rk fun _ _ _ _ _ _ _ q => gt_int q
theorem Cv : OpR X (compareOp .GtE) (rI0 fun i j => .bl (decide (j <= i))) := rk fun _ _ _ _ _ _ _ q => ge_int q
theorem tZ : OpR X (compareOp .Is) (fun x y H Q => y = .non /\ Q (.bl (decide (x = .non))) H) := by
 intro pins s σ H x y v u Q I rx ry h
 obtain ⟨rfl, q⟩ := h
 cases ry
 refine is_none_gen (fin_bl I q ?_)
 cases x <;> first
  | (cases rx; rfl)
  | (obtain ⟨t, rfl⟩ := rx; rfl)
theorem OpR.or {f : Value -> Value -> Sem Value} {r r' : R2} (h : OpR X f r) (h' : OpR X f r') : OpR X f (fun x y H Q => r x y H Q \/ r' x y H Q) := by
 intro pins s σ H x y v u Q I rx ry q
 rcases q with q | q
 ·exact h pins s σ H x y v u Q I rx ry q
 ·exact h' pins s σ H x y v u Q I rx ry q
theorem o8 (b : Expr) {op : CmpOp} (h : op ≠ .In := by decide) (h2 : op ≠ .NotIn := by decide) : behindInMarks op b = false := by
 have e1 : (op == CmpOp.In) = false := by cases op <;> first | rfl | exact absurd rfl h
 have e2 : (op == CmpOp.NotIn) = false := by cases op <;> first | rfl | exact absurd rfl h2
 cases b <;> simp [behindInMarks, e1, e2]
theorem yP {op : CmpOp} {r : R2} (ho : OpR X (compareOp op) r) (ha : PE X a ta) (hb : PE X b tb) (hm : behindInMarks op b = false) : PE X (.Compare a [op] [b] pos) (tOp r ta tb) := by
 intro pins s σ H Q I h
 exact wpAny_Compare1 (vW ha hb I h fun v u s2 x y H2 I2 rx ry q => ho pins s2 σ H2 x y v u Q I2 rx ry q) hm
def xI (t : TE) : TT := fun σ H Q => t σ H fun x H' => ∃ k, x = .bl k /\ Q k H'
theorem qm {op : CmpOp} {r : R2} (ho : OpR X (compareOp op) r) (ha : PE X a ta) (hb : PE X b tb) (hm : behindInMarks op b = false) : PT X (.Compare a [op] [b] pos) (xI (tOp r ta tb)) := by
 intro pins s σ H Q I h
 refine wpAny_isTrue_Compare1 (thn (ha pins s σ H _ I h) fun v s1 ⟨x, H1, I1, r1, q1⟩ => thn (hb pins s1 σ H1 _ I1 q1) fun u s2 ⟨y, H2, I2, r2, q2⟩ =>
  thn (ho pins s2 σ H2 x y v u _ I2 r1 r2 q2) fun c s3 ⟨z, H3, I3, r3, k, e, q3⟩ => ?_) hm
 subst e
 cases r3
 exact wpAny_truthy_bool ⟨H3, I3, q3⟩
def tw (r r' : R2) (ta tb tc : TE) : TE := fun σ H Q => ta σ H fun x H1 => tb σ H1 fun y H2 => r x y H2 fun z H3 => ∃ k, z = .bl k /\
 (if k = true then tc σ H3 fun w' H4 => r' y w' H4 Q else Q (.bl false) H3)
theorem uY {op op' : CmpOp} {r r' : R2} (ho : OpR X (compareOp op) r) (ho' : OpR X (compareOp op') r') (ha : PE X a ta) (hb : PE X b tb) (hc : PE X c tc)
  (hm : lastMarks [op, op'] [b, c] = false := by with_unfolding_all rfl) : PT X (.Compare a [op, op'] [b, c] pos) (xI (tw r r' ta tb tc)) := by
 intro pins s σ H Q I h
 refine isTrue_chain (thn (ha pins s σ H _ I h) fun v s1 ⟨x, H1, I1, r1, q1⟩ => test_link (thn (hb pins s1 σ H1 _ I1 q1) fun u s2 ⟨y, H2, I2, r2, q2⟩ =>
  thn (ho pins s2 σ H2 x y v u _ I2 r1 r2 q2) fun d s3 ⟨z, H3, I3, r3, k, e, q3⟩ => ?_)) hm
 subst e
 cases r3
 refine wpAny_truthy_bool ?_
 cases k with
 | false =>
  obtain ⟨k', e', q'⟩ := q3
  cases e'
  exact ite_ff ⟨H3, I3, q'⟩
 | true =>
  refine ite_tt (test_last (thn (hc pins s3 σ H3 _ I3 q3) fun w' s4 ⟨z', H4, I4, r4, q4⟩ => thn (ho' pins s4 σ H4 y z' u w' _ I4 r2 r4 q4) fun d' s5 ⟨z2, H5, I5, r5, k2, e2, q5⟩ => ?_))
  subst e2
  cases r5
  exact wpAny_truthy_bool ⟨H5, I5, q5⟩
def xy (K : Frag) (x : V) (H : Hp) (k : Bool) : Prop :=
 match x with
 | .non => k = false
 | .bl b => k = b
 | .int i => k = (i != 0)
 | .str y => y.length <= sizeLine /\ k = ((y.length : Int) != 0)
 | .byt y => y.size <= sizeLine /\ k = ((y.size : Int) != 0)
 | .ref p => (∃ xs, SqL K H p xs /\ k = !xs.isEmpty) \/ (∃ xs, SqT K H p xs /\ k = !xs.isEmpty) \/ ∃ kvs, H p = some (.dK kvs) /\ k = !kvs.isEmpty
 | _ => False
theorem rK {κ : Type} {kvs : List (κ × V)} {vs : List (κ × Value)} (r : KV kvs vs) : (!vs.isEmpty) = !kvs.isEmpty := by
 cases r <;> rfl
theorem lE {xs : List V} {its : List Value} (r : ar xs its) : (!its.toArray.isEmpty) = !xs.isEmpty := by
 cases r <;> simp
theorem jv : (sizeLine : Nat) < 2 ^ 63 := by rw [sizeLine_eq]; decide
theorem zH : TruR X (fun x H Q => ∃ k, xy X.K x H k /\ Q k H) := by
 intro pins s σ H x v Q I rx h
 obtain ⟨k, e, q⟩ := h
 have hl := jv
 have hs : sizeLine = 16777216 := sizeLine_eq
 cases x with
 | non =>
  cases rx
  have e' : k = false := e
  subst e'
  exact truthy_none ⟨H, I, q⟩
 | bl b =>
  cases rx
  have e' : k = b := e
  subst e'
  exact wpAny_truthy_bool ⟨H, I, q⟩
 | int i =>
  obtain ⟨t, rfl⟩ := rx
  have e' : k = (i != 0) := e
  subst e'
  exact PySem.P.truthy_int ⟨H, I, q⟩
 | str y =>
  obtain ⟨t, rfl⟩ := rx
  obtain ⟨hy, e'⟩ : y.length <= sizeLine /\ k = ((y.length : Int) != 0) := e
  subst e'
  exact PySem.P.truthy_str (by omega) ⟨H, I.tok _, q⟩
 | byt y =>
  obtain ⟨t, rfl⟩ := rx
  obtain ⟨hy, e'⟩ : y.size <= sizeLine /\ k = ((y.size : Int) != 0) := e
  subst e'
  exact PySem.W.truthy_bytes (by omega) ⟨H, I.tok _, q⟩
 | ref p =>
  cases rx
  have e' : (∃ xs, SqL X.K H p xs /\ k = !xs.isEmpty) \/ (∃ xs, SqT X.K H p xs /\ k = !xs.isEmpty) \/ ∃ kvs, H p = some (.dK kvs) /\ k = !kvs.isEmpty := e
  rcases e' with ⟨xs, hx, e'⟩ | ⟨xs, hx, e'⟩ | ⟨kvs, hx, e'⟩
  ·subst e'
   obtain ⟨its, r, pl, hz⟩ := I.list hx
   have hlen := r.length
   exact wpAny_truthy_list pl.isList (by simp only [List.size_toArray]; omega) ⟨H, I.tok _, by rw [lE r]; exact q⟩
  ·subst e'
   obtain ⟨its, r, pl, hz⟩ := I.tuple hx
   have hlen := r.length
   exact truthy_tuple pl (by simp only [List.size_toArray]; omega) ⟨H, I.tok _, by rw [lE r]; exact q⟩
  ·subst e'
   obtain ⟨hz, hS, vs, r, m⟩ : kvs.length <= sizeLine /\ (p == sysModules) = false /\ ∃ vs, KV kvs vs /\ s.heap.DictOf (mo X.prog X.w) p vs := I.hok p _ hx
   have hlen : kvs.length = vs.length := Paired.length r
   exact wpAny_truthy_dict hS m (by omega) ⟨H, I.tok _, by rw [rK r]; exact q⟩
 | _ => exact (show False from e).elim
theorem uX (ha : PE X a ta) (he : ∀ whole, isTrue a X.env whole = (do let v ← whole; standAt a.pos; holding [v] (truthy v))) :
  PT X a (fun σ H Q => ta σ H fun x H' => ∃ k, xy X.K x H' k /\ Q k H') := by
 intro pins s σ H Q I h
 exact isTrue_plain (thn (ha pins s σ H _ I h) fun v s1 ⟨x, H1, I1, r1, q1⟩ => zH pins s1 σ H1 x v Q I1 r1 q1) (he _)
theorem nX {x : V} {us : List Value} (r : ar [x] us) : ∃ u, us = [u] /\ aN x u := by
 cases r with
 | cons r1 r2 => cases r2; exact ⟨_, rfl, r1⟩
theorem Cg {x y : V} {us : List Value} (r : ar [x, y] us) : ∃ u w', us = [u, w'] /\ aN x u /\ aN y w' := by
 cases r with
 | cons r1 r2 =>
  cases r2 with
  | cons r3 r4 => cases r4; exact ⟨_, _, rfl, r1, r3⟩
theorem kE : cZ X (.builtin "abs") (fun xs H Q => ∃ i, xs = [.int i] /\ Q (.int (if i < 0 then -i else i)) H) := by
 intro pins s σ H xs us Q I r h
 obtain ⟨i, rfl, q⟩ := h
 obtain ⟨u, rfl, t, rfl⟩ := nX r
 exact call_abs_int fun u tk => ⟨.int (if i < 0 then -i else i), H, I.tok _, ⟨_, rfl⟩, q⟩
theorem uG (hc : X.calm = true) : cZ X (.builtin "min") (fun xs H Q => ∃ i j, xs = [.int i, .int j] /\ Q (.int (if j < i then j else i)) H) := by
 intro pins s σ H xs us Q I r h
 obtain ⟨i, j, rfl, q⟩ := h
 obtain ⟨u, w', rfl, ⟨t, rfl⟩, ⟨t', rfl⟩⟩ := Cg r
 refine min_two_ints (I.ok.hd hc) fun h' tk k => ⟨_, H, I.kept k, ?_, q⟩
 by_cases hj : j < i
 ·rw [if_pos hj, if_pos hj]; exact ⟨_, rfl⟩
 ·rw [if_neg hj, if_neg hj]; exact ⟨_, rfl⟩
end
structure ObjM (h : Heap) (x dx C : Addr) (mA : Str -> Option Value) : Prop where
 obj : h.get? x = some (PySem.W.instObj C dx)
 ns : h.Ns1 dx mA
 ne : dx ≠ x
theorem ud {h : Heap} {dx : Addr} {mA : Str -> Option Value} (n : h.Ns1 dx mA) : ∃ od, h.get? dx = some od /\ ∀ name, PySem.W.lookIn name od = some (mA name) := by
 obtain ⟨o, es, ep, ho, hd, hk, _, hm⟩ := n
 refine ⟨o, ho, fun name => ?_⟩
 have e := hm name
 unfold nsFind findBy at e
 rw [← Array.find?_toList] at e
 unfold PySem.W.lookIn
 rw [hd]
 dsimp only
 split
 ·rename_i y q
  rw [q] at e
  exact congrArg some e
 ·rename_i q
  rw [q] at e
  have a : es.toList.any (·.refKey) = false := by
   rw [List.any_eq_false]
   intro y hy
   obtain ⟨z, t, hkey⟩ := hk y (Array.mem_toList_iff.mp hy)
   simp [DictEntry.refKey, hkey]
  have a' : ¬ es.toList.any (·.refKey) = true := by rw [a]; exact Bool.false_ne_true
  rw [if_neg a']
  exact congrArg some e
theorem ObjM.look {h : Heap} {x dx C : Addr} {mA : Str -> Option Value} (I : ObjM h x dx C mA) : ∃ od, PySem.W.InstAt h x (PySem.W.instObj C dx) C (some od) /\ ∀ name, PySem.W.lookIn name od = some (mA name) :=
 let ⟨od, ho, hl⟩ := ud I.ns
 ⟨od, ⟨I.obj, rfl, rfl, ho⟩, hl⟩
section
variable {prog : Program} {w : World} {A : Around} {E : Value -> Shared -> Prop} {s : Shared} {K : Frag} {x dx C f : Addr} {mA : Str -> Option Value} {name : Str} {v : Value}
theorem zm {expr : Bool} {Q : Value -> Shared -> Prop} (X : K.In s.heap) (I : ObjM s.heap x dx C mA) (hg : PySem.W.plainGet K C name = true) (hh : PySem.W.hasDictIn K C = true)
  (ha : PySem.W.findIn K (.ref C) name = some none) (hv : mA name = some v) (hv' : PySem.W.handedIn v = true) (h : Q v { s with toks := s.toks + 1 }) :
  wpAny (model prog w) A (getAttr (.ref x) name expr) Q E s := by
 obtain ⟨od, J, hl⟩ := I.look
 exact PySem.W.get_value X J (PySem.W.plainGet_of hg).1 (PySem.W.findObj_own hh ha rfl (by rw [hl, hv])) hv' h
theorem vI {pl : Sem Bool} {Q : Value × List Value -> Shared -> Prop} (X : K.In s.heap) (I : ObjM s.heap x dx C mA) (hg : PySem.W.plainGet K C name = true)
  (hf : PySem.W.findIn K (.ref C) name = some (some (.ref f))) (ht : PySem.W.isFn K (.ref f) = true) (hv : mA name = none) (h : Q (.ref f, [.ref x]) s) :
  wpAny (model prog w) A (getMethod (.ref x) name pl) Q E s := by
 obtain ⟨od, J, hl⟩ := I.look
 exact PySem.W.method_fn X J (PySem.W.plainGet_of hg).1 (PySem.W.plainGet_of hg).2 hf (beq_iff_eq.mp ht) (by show (PySem.W.lookIn name od).map (·.isSome) = some false; rw [hl, hv]; rfl) h
theorem yB {ns : List Str} {Q : Unit -> Shared -> Prop} (X : K.In s.heap) (I : ObjM s.heap x dx C mA)
  (hs : PySem.W.findIn K (.ref C) "__setattr__" = some (some (.builtin "object.__setattr__"))) (hp : PySem.W.plainOver K C = true) (ht : PySem.W.takerIn K C name = some none) (hh : PySem.W.hasDictIn K C = true)
  (hw : PySem.Within mA ns) (hsz : ns.length <= sizeLine)
  (h : ∀ h', ObjM h' x dx C (fun y => if y = name then some v else mA y) -> Heap.SameBut dx s.heap h' -> Q () { s with heap := h', toks := s.toks + 2 }) :
  wpAny (model prog w) A (setAttr (.ref x) name v) Q E s := by
 obtain ⟨od, J, hl⟩ := I.look
 refine PySem.W.set_plain X J hs (PySem.W.osa_open (s := { s with toks := s.toks + 1 }) (r := none) X J hp ht fun b => ?_)
 obtain ⟨cd, hc, hd'⟩ := PySem.W.any_some hh
 have hx : s.heap.get? x = some ⟨.ref C, some dx, .plain, #[]⟩ := I.obj
 refine wpAny_bind (wpAny_pure (wpAny_bind (wpAny_bind (wpAny_loadPart hx (wpAny_bind (PySem.W.Looks.here (s := { s with toks := s.toks + 1 }) (PySem.W.looks_clsIn X hc) ?_))))))
 rw [hd']
 refine wpAny_pure (a := some dx) (wpAny_bind (wpAny_pure (wpAny_bind ?_)))
 refine wpAny_nsSet1 (s := { s with toks := s.toks + 1 }) I.ns fun h' hn2 hs2 => ?_
 obtain ⟨oD, esD, epD, hoD, hdD, hcD⟩ := hn2.count (PySem.Within.cons name v hw)
 refine wpAny_bind (wpAny_lookBehind hoD (by rw [hdD]; exact pastItsLine_dict (Nat.le_trans hcD (by rw [List.length_cons]; omega))) ?_)
 exact wpAny_pure (h _ ⟨(hs2.2 _ (Ne.symm I.ne)).trans I.obj, hn2, I.ne⟩ hs2)
theorem ph {R : Result -> Shared -> Prop} {vs : List Value} {kw : List (Str × Value)} (X : K.In s.heap) (hm : PySem.W.makesIn K C = true)
  (hi : PySem.W.findIn K (.ref C) "__init__" = some (some (.ref f))) (hf : PySem.W.typeIn K (.ref f) = some (.type "function"))
  (h : codeAny (model prog w) (A.under (.builtin "type.__call__" ⟨.ref C :: vs, kw⟩)) (.call (.ref f) ⟨.ref (s.heap.objs.size + 1) :: vs, kw⟩) (PySem.W.InitBack (s.heap.objs.size + 1) R)
   { s with heap := (s.heap.push PySem.W.emptyDict).push (PySem.W.instObj C s.heap.objs.size) }) :
  codeAny (model prog w) A (.call (.ref C) ⟨vs, kw⟩) R s := by
 obtain ⟨hh, g, d, t, os⟩ := s
 exact PySem.W.make_core (PySem.W.makes_of X hm) (PySem.W.looks_findIn X hi) (fun self => PySem.W.bind_fn X self hf) (.inl rfl) h
end
def cA (f : Str) (v : V) : List (Str × V) -> List (Str × V)
 | [] => [(f, v)]
 | (g, x) :: r => if g = f then (g, v) :: r else (g, x) :: cA f v r
theorem kf (f g : Str) (v : V) : ∀ fs : List (Str × V), (cA f v fs).lookup g = if g = f then some v else fs.lookup g
 | [] => by
  show List.lookup g [(f, v)] = _
  by_cases h : g = f
  ·have hb : (g == f) = true := beq_iff_eq.mpr h
   simp only [List.lookup, hb, if_pos h]
  ·have hb : (g == f) = false := beq_eq_false_iff_ne.mpr h
   simp only [List.lookup, hb, if_neg h]
 | (k, x) :: r => by
  have ih := kf f g v r
  rw [show cA f v ((k, x) :: r) = (if k = f then (k, v) :: r else (k, x) :: cA f v r) from rfl]
  by_cases hk : k = f
  ·rw [if_pos hk]
   by_cases h : g = k
   ·have hb : (g == k) = true := beq_iff_eq.mpr h
    simp only [List.lookup, hb, if_pos (h.trans hk)]
   ·have hb : (g == k) = false := beq_eq_false_iff_ne.mpr h
    simp only [List.lookup, hb, if_neg (fun e : g = f => h (e.trans hk.symm))]
  ·rw [if_neg hk]
   by_cases h : g = k
   ·have hb : (g == k) = true := beq_iff_eq.mpr h
    simp only [List.lookup, hb, if_neg (fun e : g = f => hk (h.symm.trans e))]
   ·have hb : (g == k) = false := beq_eq_false_iff_ne.mpr h
    simp only [List.lookup, hb]
    exact ih
theorem jy (f : Str) (v : V) : ∀ fs : List (Str × V), f ∈ (cA f v fs).map (·.1) /\ ∀ g, g ∈ fs.map (·.1) -> g ∈ (cA f v fs).map (·.1)
 | [] => ⟨by simp [cA], fun g h => by simp at h⟩
 | (k, x) :: r => by
  obtain ⟨i1, i2⟩ := jy f v r
  rw [show cA f v ((k, x) :: r) = (if k = f then (k, v) :: r else (k, x) :: cA f v r) from rfl]
  by_cases hk : k = f
  ·rw [if_pos hk]
   subst hk
   exact ⟨by simp, fun g h => by simpa using h⟩
  ·rw [if_neg hk]
   refine ⟨?_, fun g h => ?_⟩
   ·rw [List.map_cons]
    exact List.mem_cons_of_mem _ i1
   ·rw [List.map_cons] at h ⊢
    rcases List.mem_cons.mp h with e | e
    ·exact List.mem_cons.mpr (.inl e)
    ·exact List.mem_cons_of_mem _ (i2 g e)
theorem kg (f : Str) (v : V) : ∀ fs : List (Str × V), (cA f v fs).length <= fs.length + 1
 | [] => by simp [cA]
 | (k, x) :: r => by
  have ih := kg f v r
  rw [show cA f v ((k, x) :: r) = (if k = f then (k, v) :: r else (k, x) :: cA f v r) from rfl]
  by_cases hk : k = f
  ·rw [if_pos hk, List.length_cons, List.length_cons]; omega
  ·rw [if_neg hk, List.length_cons, List.length_cons]; omega
theorem g0.some_of {v : V} {o : Option Value} (r : g0 (some v) o) : ∃ u, o = some u /\ aN v u := by
 cases o with
 | none => exact (show False from r).elim
 | some u => exact ⟨u, rfl, r⟩
theorem g0.none_of {o : Option Value} (r : g0 none o) : o = none := by
 cases o with
 | none => rfl
 | some u => exact (show False from r).elim
theorem uq {v : V} {u : Value} (r : aN v u) : PySem.W.handedIn u = true := by
 cases v with
 | non => cases (show u = Value.none from r); rfl
 | bl b => cases (show u = Value.bool b from r); rfl
 | int i => obtain ⟨t, e⟩ := (show ∃ t, u = Value.int i t from r); cases e; rfl
 | str x => obtain ⟨t, e⟩ := (show ∃ t, u = Value.str x t from r); cases e; rfl
 | byt b => obtain ⟨t, e⟩ := (show ∃ t, u = Value.bytes b t from r); cases e; rfl
 | flt b => obtain ⟨t, e⟩ := (show ∃ t, u = Value.float b t from r); cases e; rfl
 | ref a => cases (show u = Value.ref a from r); rfl
 | ty n => cases (show u = Value.type n from r); rfl
section
variable {P : Program} {w : World} {H H' : Hp} {h h' : Heap} {a C dx : Addr} {fs fs' : List (Str × V)}
theorem ii (hok : HOk P w H h) (e : H a = some (.ins C dx fs)) : ∃ mA, ObjM h a dx C mA /\ (∀ f, g0 (fs.lookup f) (mA f)) /\ PySem.Within mA (fs.map (·.1)) /\ fs.length <= 1000 /\ H dx = some (.own a) := by
 obtain ⟨d, z, ne, ob, mA, n, r, q⟩ := (show bf P w H h a (.ins C dx fs) from hok a _ e)
 exact ⟨mA, ⟨ob, n, ne⟩, r, q, z, d⟩
end
structure Cls (K : Frag) (C : Addr) : Prop where
 pg : PySem.W.plainGet K C Str.empty = true
 hd : PySem.W.hasDictIn K C = true
 po : PySem.W.plainOver K C = true
 sa : PySem.W.findIn K (.ref C) "__setattr__" = some (some (.builtin "object.__setattr__"))
theorem Cls.get {K : Frag} {C : Addr} (c : Cls K C) (f : Str) : PySem.W.plainGet K C f = true := c.pg
def cP (K : Frag) (C : Addr) (f : Str) : Prop := PySem.W.findIn K (.ref C) f = some none
theorem cP.taker {K : Frag} {C : Addr} {f : Str} (n : cP K C f) : PySem.W.takerIn K C f = some none := by
 unfold PySem.W.takerIn
 rw [show PySem.W.findIn K (.ref C) f = some none from n]
 rfl
structure Meth (K : Frag) (C : Addr) (m : Str) (f : Addr) : Prop where
 at_ : PySem.W.findIn K (.ref C) m = some (some (.ref f))
 fn : PySem.W.isFn K (.ref f) = true
 kp : PySem.W.keepIn K (.ref f) = true
section
variable {X : Cx} {pins : List (Addr × Obj)} {σ : St} {H : Hp} {s : Shared} {a C dx : Addr} {fs : List (Str × V)} {f : Str} {v : V} {A : Around} {E : Value -> Shared -> Prop}
theorem rN {b : Bool} {Q : Value -> Shared -> Prop} (I : Inv X pins σ H s) (e : H a = some (.ins C dx fs)) (c : Cls X.K C) (n : cP X.K C f) (l : fs.lookup f = some v)
  (h : ∀ u s', Inv X pins σ H s' -> aN v u -> Q u s') : wpAny (model X.prog X.w) A (getAttr (.ref a) f b) Q E s := by
 obtain ⟨mA, O, r, _, _, _⟩ := ii I.hok e
 obtain ⟨u, hu, ru⟩ := g0.some_of (v := v) (o := mA f) (by rw [← l]; exact r f)
 exact zm I.kIn O (c.get f) c.hd n hu (uq ru) (h u _ (I.tok _) ru)
theorem lJ {m : Str} {g : Addr} {pl : Sem Bool} {Q : Value × List Value -> Shared -> Prop} (I : Inv X pins σ H s) (e : H a = some (.ins C dx fs)) (c : Cls X.K C) (k : Meth X.K C m g) (l : fs.lookup m = none)
  (h : Q (.ref g, [.ref a]) s) : wpAny (model X.prog X.w) A (getMethod (.ref a) m pl) Q E s := by
 obtain ⟨mA, O, r, _, _, _⟩ := ii I.hok e
 have hn : mA m = none := g0.none_of (by rw [← l]; exact r m)
 exact vI I.kIn O (c.get m) k.at_ k.fn hn h
theorem q9 {y : V} {u : Value} {Q : Unit -> Shared -> Prop} (I : Inv X pins σ H s) (e : H a = some (.ins C dx fs)) (c : Cls X.K C) (n : cP X.K C f) (hl : fs.length < 1000) (ry : aN y u)
  (h : ∀ s', Inv X pins σ (upd H a (.ins C dx (cA f y fs))) s' -> Q () s') : wpAny (model X.prog X.w) A (setAttr (.ref a) f u) Q E s := by
 obtain ⟨mA, O, r, wi, _, ho⟩ := ii I.hok e
 have hz : (fs.map (·.1)).length <= sizeLine := by rw [List.length_map, sizeLine_eq]; omega
 refine yB I.kIn O c.sa c.po n.taker c.hd wi hz fun h' O' sb => h _ ?_
 have hd : ∃ o, h'.get? dx = some o := let ⟨o, _, _, e', _⟩ := O'.ns; ⟨o, e'⟩
 refine I.write (x := a) (e := dx) (by rw [e]; exact True.intro) (.inr ho) (fun b q hb z => (sb.2 b hb).trans z) hd ?_
 refine ⟨by rw [upd_ne O.ne]; exact ho, ?_, O.ne, O'.obj, _, O'.ns, fun g => ?_, fun g hg => ?_⟩
 ·have := kg f y fs; omega
 ·show g0 ((cA f y fs).lookup g) (if g = f then some u else mA g)
  rw [kf]
  by_cases q : g = f
  ·rw [if_pos q, if_pos q]; exact ry
  ·rw [if_neg q, if_neg q]; exact r g
 ·by_cases q : g = f
  ·rw [q]; exact (jy f y fs).1
  ·refine (jy f y fs).2 g (wi g fun z => hg ?_)
   show (if g = f then some u else mA g) = none
   rw [if_neg q]; exact z
theorem Inv.made (I : Inv X pins σ H s) : Inv X pins σ (upd (upd H s.heap.objs.size (.own (s.heap.objs.size + 1))) (s.heap.objs.size + 1) (.ins C s.heap.objs.size []))
  { s with heap := (s.heap.push PySem.W.emptyDict).push (PySem.W.instObj C s.heap.objs.size) } := by
 have e1 : (s.heap.push PySem.W.emptyDict).get? s.heap.objs.size = some PySem.W.emptyDict := Heap.get?_push_size s.heap rfl
 have e2 : ((s.heap.push PySem.W.emptyDict).push (PySem.W.instObj C s.heap.objs.size)).get? (s.heap.objs.size + 1) = some (PySem.W.instObj C s.heap.objs.size) := by
  have := Heap.get?_push_size (s.heap.push PySem.W.emptyDict) (o := PySem.W.instObj C s.heap.objs.size) rfl
  rwa [Heap.size_push] at this
 have e3 : (s.heap.push PySem.W.emptyDict).Ns s.heap.objs.size (fun _ => none) := ⟨PySem.W.emptyDict, #[], _, e1, rfl, (fun e he => absurd he (by simp)), fun _ => rfl⟩
 have I1 := I.laid (a := s.heap.objs.size) (o := .own (s.heap.objs.size + 1)) (h' := s.heap.push PySem.W.emptyDict) (t' := s.toks) (fun b u q => Heap.get?_push_of_some _ q) (Nat.le_refl _) ⟨_, e1⟩
 refine I1.laid (a := s.heap.objs.size + 1) (o := .ins C s.heap.objs.size []) (t' := s.toks) (fun b u q => Heap.get?_push_of_some _ q) (Nat.le_of_eq (Heap.size_push _ _)) ?_
 have ne : s.heap.objs.size ≠ s.heap.objs.size + 1 := Nat.ne_of_lt (Nat.lt_succ_self _)
 refine ⟨by rw [upd_ne ne, ax], Nat.zero_le _, ne, e2, fun _ => none, (Heap.Ns1.of_empty e3).at fun o q => Heap.get?_push_of_some _ q, fun _ => True.intro, fun y hy => absurd rfl hy⟩
theorem zz {prog : Program} {w : World} {env : Env} {e : Expr} {f : Str} {pos : Pos} {s : Shared} {Q : Value -> Shared -> Prop} (hb : attributeBase e f env (eval e env) = eval e env)
  (h : wpAny (model prog w) A (eval e env) (fun o s₁ => wpAny (model prog w) A (getAttr o f true) Q E s₁) E s) : wpAny (model prog w) A (eval (.Attribute e f pos) env) Q E s :=
 Attribute_any_ h (by rw [arm_eval_Attribute, hb])
end
def tFld (K : Frag) (ta : TE) (f : Str) : TE := fun σ H Q => ta σ H fun x H1 => ∃ a C dx fs v, x = .ref a /\ H1 a = some (.ins C dx fs) /\ Cls K C /\ cP K C f /\ fs.lookup f = some v /\ Q v H1
def z7 (K : Frag) (ta tv : TE) (f : Str) : TS := fun D σ H => tv σ H fun y H1 => ta σ H1 fun x H2 => ∃ a C dx fs, x = .ref a /\ H2 a = some (.ins C dx fs) /\ Cls K C /\ cP K C f /\ fs.length < 1000 /\
 D.nx σ (upd H2 a (.ins C dx (cA f y fs)))
section
variable {X : Cx} {o e value : Expr} {f : Str} {pos pos' tpos : Pos} {ta tv : TE}
theorem As (he : PE X e ta) (hb : attributeBase e f X.env (eval e X.env) = eval e X.env) : PE X (.Attribute e f pos) (tFld X.K ta f) := by
 intro pins s σ H Q I h
 refine zz hb (thn (he pins s σ H _ I h) fun u s1 ⟨x, H1, I1, rx, a, C, dx, fs, v, ex, ea, c, n, l, q⟩ => ?_)
 subst ex
 obtain rfl : u = Value.ref a := rx
 exact rN I1 ea c n l fun u' s2 I2 ru => ⟨v, H1, I2, ru, q⟩
theorem jm (ha : PE X o ta) (hv : PE X value tv) (hs : swapsWith value (some (.Attribute o f pos')) pos.line X.env = pure false) : PS X (.Assign [.Attribute o f pos'] value pos) (z7 X.K ta tv f) := by
 intro pins s σ H D I h
 refine plainObj_wpAny_Assign_Attribute (thn (hv pins s σ H _ I h) fun u s1 ⟨y, H1, I1, ry, q⟩ => thn (ha pins s1 σ H1 _ I1 q) fun ov s2 ⟨x, H2, I2, rx, a, C, dx, fs, ex, ea, c, n, l, q2⟩ => ?_) hs
 subst ex
 obtain rfl : ov = Value.ref a := rx
 exact q9 I2 ea c n l ry fun s3 I3 => ⟨σ, _, I3, q2⟩
end
section
variable {X : Cx} {pins : List (Addr × Obj)} {σ : St} {H : Hp} {s : Shared} {A : Around} {E : Value -> Shared -> Prop} {Q : Value -> Shared -> Prop} {c : Value} {b : Bool}
inductive TyOf (K : Frag) (H : Hp) : V -> Value -> Prop where
 | non : TyOf K H .non (.type "NoneType")
 | bl (x : Bool) : TyOf K H (.bl x) (.type "bool")
 | int (i : Int) : TyOf K H (.int i) (.type "int")
 | str (x : Str) : TyOf K H (.str x) (.type "str")
 | flt (x : UInt64) : TyOf K H (.flt x) (.type "float")
 | lst {a : Addr} {xs : List V} (e : H a = some (.lst xs)) : TyOf K H (.ref a) (.type "list")
 | frz {a : Addr} {o : Obj} {xs : List V} (e : H a = some (.frz o (.lst xs))) : TyOf K H (.ref a) (.type "list")
 | tup {a : Addr} {xs : List V} (e : H a = some (.tup xs)) : TyOf K H (.ref a) (.type "tuple")
 | dK {a : Addr} {kvs : List (Key × V)} (e : H a = some (.dK kvs)) : TyOf K H (.ref a) (.type "dict")
 | dT {a : Addr} {kvs : List (List Key × V)} (e : H a = some (.dT kvs)) : TyOf K H (.ref a) (.type "dict")
 | ins {a C dx : Addr} {fs : List (Str × V)} (e : H a = some (.ins C dx fs)) (cl : Cls K C) (ha : PySem.W.findIn K (.ref C) "__class__" = some (some (.builtin "object.__class__")))
   (hn : PySem.W.specialIn K (.builtin "object.__class__") "__get__" = some (some (.builtin "getset_descriptor.__get__"))) (htk : PySem.W.takesIn K (.builtin "object.__class__") = some true)
   (hm : PySem.W.mroIn K C (.type "object") = some true) : TyOf K H (.ref a) (.ref C)
theorem uk {x : V} {u t : Value} (I : Inv X pins σ H s) (rx : aN x u) (ty : TyOf X.K H x t) (e : PySem.W.kitOne X.K t c = some b) (h : ∀ tk, Q (.bool b) { s with toks := tk }) :
  wpAny (model X.prog X.w) A (call (.builtin "isinstance") [u, c]) Q E s := by
 cases ty with
 | non => cases (show u = Value.none from rx); exact PySem.W.kia_one PySem.W.kitx_none I.kIn True.intro e (fun z => nomatch z) h
 | bl y => cases (show u = Value.bool y from rx); exact PySem.W.kia_one PySem.W.kitx_bool I.kIn True.intro e (fun z => nomatch z) h
 | int i => obtain ⟨t, q⟩ := (show ∃ t, u = Value.int i t from rx); cases q; exact PySem.W.kia_one PySem.W.kitx_int I.kIn True.intro e (fun z => nomatch z) h
 | str y => obtain ⟨t, q⟩ := (show ∃ t, u = Value.str y t from rx); cases q; exact PySem.W.kia_one PySem.W.kitx_str I.kIn True.intro e (fun z => nomatch z) h
 | flt y => obtain ⟨t, q⟩ := (show ∃ t, u = Value.float y t from rx); cases q; exact PySem.W.kia_one PySem.W.kitx_float I.kIn True.intro e (fun z => nomatch z) h
 | @lst a xs ea =>
  cases (show u = Value.ref a from rx)
  obtain ⟨_, _, n, _, h1⟩ := (show bf X.prog X.w H s.heap a (.lst xs) from I.hok a _ ea)
  exact PySem.W.kia_one PySem.W.kitx_list I.kIn ⟨_, h1, rfl⟩ e (fun z => nomatch z) h
 | @frz a ob xs ea =>
  cases (show u = Value.ref a from rx)
  obtain ⟨_, _, _, n, _, h1⟩ := (show bf X.prog X.w H s.heap a (.frz ob (.lst xs)) from I.hok a _ ea)
  exact PySem.W.kia_one PySem.W.kitx_list I.kIn ⟨_, h1, rfl⟩ e (fun z => nomatch z) h
 | @tup a xs ea =>
  cases (show u = Value.ref a from rx)
  obtain ⟨_, _, _, p⟩ := (show bf X.prog X.w H s.heap a (.tup xs) from I.hok a _ ea)
  obtain ⟨o, h1, h2, _⟩ := p
  exact PySem.W.kia_one PySem.W.kitx_tuple I.kIn ⟨o, h1, h2⟩ e (fun z => nomatch z) h
 | @dK a kvs ea =>
  cases (show u = Value.ref a from rx)
  obtain ⟨_, _, vs, _, p⟩ := (show bf X.prog X.w H s.heap a (.dK kvs) from I.hok a _ ea)
  obtain ⟨o, es, ep, h1, h2, _⟩ := p
  exact PySem.W.kia_one PySem.W.kitx_dict I.kIn ⟨o, h1, h2.1⟩ e (fun z => nomatch z) h
 | @dT a kvs ea =>
  cases (show u = Value.ref a from rx)
  obtain ⟨_, _, xs, _, o, es, ep, h1, h2, _⟩ := (show bf X.prog X.w H s.heap a (.dT kvs) from I.hok a _ ea)
  exact PySem.W.kia_one PySem.W.kitx_dict I.kIn ⟨o, h1, h2.1⟩ e (fun z => nomatch z) h
 | @ins a C dx fs ea cl ha hn htk hm =>
  cases (show u = Value.ref a from rx)
  obtain ⟨mA, O, _⟩ := ii I.hok ea
  obtain ⟨od, J, _⟩ := O.look
  exact PySem.W.kia_one (PySem.W.kitx_own (cl.get _) cl.hd ha hn htk hm) I.kIn J e (fun z => nomatch z) h
end
structure Room (k : Nat) (A : Around) : Prop where
 hd : A.handled = none
 dp : A.depth + 3 * k + 5 < recursionLimit
 un : A.units + 16 * k + 200 < cLine
theorem Room.mono {j k : Nat} {A : Around} (r : Room k A) (h : j <= k) : Room j A := ⟨r.hd, by have := r.dp; omega, by have := r.un; omega⟩
theorem Room.deeper {k : Nat} {A : Around} (r : Room (k + 1) A) (env : Env) : Room k (A.deeper env) :=
 ⟨r.hd, by have := r.dp; show A.depth + 1 + 3 * k + 5 < _; omega, by have := r.un; show A.units + 3 + 16 * k + 200 < _; omega⟩
theorem rC {A : Around} {C : Addr} {us : List Value} {kw : List (Str × Value)} : (A.under (.builtin "type.__call__" ⟨.ref C :: us, kw⟩)).depth = A.depth + 1 := by
 first | rfl | simp [Around.under, Code.weight, Code.isCreation, Code.isGuard, Code.isCaller, Code.frames, Code.isFrame, guardIds]
theorem rB {A : Around} {C : Addr} {us : List Value} {kw : List (Str × Value)} : (A.under (.builtin "type.__call__" ⟨.ref C :: us, kw⟩)).units = A.units + 1 := by
 first | rfl | simp [Around.under, Code.cUnits, Code.frames, Code.isFrame]
theorem Room.make {k : Nat} {A : Around} (r : Room (k + 1) A) (C : Addr) (us : List Value) (kw : List (Str × Value)) : Room k (A.under (.builtin "type.__call__" ⟨.ref C :: us, kw⟩)) :=
 ⟨r.hd, by have := r.dp; rw [rC]; omega, by have := r.un; rw [rB]; omega⟩
theorem Room.depth {k : Nat} {A : Around} (r : Room k A) : A.depth < recursionLimit := by have := r.dp; omega
theorem Room.units {k : Nat} {A : Around} (r : Room k A) : A.units + 64 < cLine := by have := r.un; omega
def uP : TA := fun _ H Q => Q [] H
def xK (ta : TE) (tr : TA) : TA := fun σ H Q => ta σ H fun x H1 => tr σ H1 fun xs H2 => Q (x :: xs) H2
section
variable {X : Cx} {e : Expr} {es : List Expr} {te : TE} {t : TA} {pos : Pos}
theorem c6 : PA X [] uP := fun _ _ _ _ H Q I h => Calls.spliced_nil ⟨[], H, I, .nil, h⟩
theorem aT (ha : PE X e te) (hr : PA X es t) (hs : starEach (e :: es) X.env = (false, eval e X.env) :: starEach es X.env := by rfl) : PA X (e :: es) (xK te t) := by
 intro pos pins s σ H Q I h
 rw [hs]
 show wpAny _ _ (spliced ((false, eval e X.env) :: backTo pos (starEach es X.env))) _ _ s
 refine Calls.spliced_cons (thn (ha pins s σ H _ I h) fun u s1 ⟨x, H1, I1, r1, q1⟩ => ?_)
 exact thn (hr pos pins s1 σ H1 _ I1 q1) fun us s2 ⟨xs, H2, I2, r2, q2⟩ => ⟨x :: xs, H2, I2, .cons r1 r2, q2⟩
def tTup (t : TA) : TE := fun σ H Q => t σ H fun xs H1 => xs.length <= sizeLine /\ ∀ p, H1 p = none -> Q (.ref p) (upd H1 p (.tup xs))
def tLst (t : TA) : TE := fun σ H Q => t σ H fun xs H1 => xs.length <= sizeLine /\ ∀ p, H1 p = none -> Q (.ref p) (upd H1 p (.lst xs))
theorem Ao {x1} (h : PA X es t) : PE X (.Tuple es x1 pos) (tTup t) := by
 intro pins s σ H Q I hq
 refine wpAny_Tuple_spliced (thn (h pos pins s σ H _ I hq) fun us s1 ⟨xs, H1, I1, r, z, q⟩ => ⟨by rw [← r.length]; exact z, ?_⟩)
 have hf : H1 s1.heap.objs.size = none := I1.hok.fresh (Nat.le_refl _)
 refine ⟨.ref s1.heap.objs.size, upd H1 s1.heap.objs.size (.tup xs), I1.laid (t' := s1.toks) (fun b u e => Heap.get?_push_of_some _ e) (Nat.le_refl _) ?_, rfl, q _ hf⟩
 exact ⟨z, us, r, ⟨_, Heap.get?_push_size _ rfl, rfl, _, rfl⟩⟩
theorem jp (h : PA X es t) : PE X (.List es pos) (tLst t) := by
 intro pins s σ H Q I hq
 refine wpAny_List_spliced (thn (h pos pins s σ H _ I hq) fun us s1 ⟨xs, H1, I1, r, z, q⟩ => ⟨by rw [← r.length]; exact z, ?_⟩)
 have hf : H1 s1.heap.objs.size = none := I1.hok.fresh (Nat.le_refl _)
 refine ⟨.ref s1.heap.objs.size, upd H1 s1.heap.objs.size (.lst xs), I1.laid (t' := s1.toks) (fun b u e => Heap.get?_push_of_some _ e) (Nat.le_refl _) ?_, rfl, q _ hf⟩
 exact ⟨z, us, 0, r, Heap.get?_push_size _ rfl⟩
end
abbrev Sp := List V -> Hp -> VK -> XK -> Prop
abbrev CXT := List Env -> Hp -> Shared -> XK -> Value -> Shared -> Prop
structure Env0 (P : Program) (w : World) (K : Frag) (mg : Str -> Option Value) (base : Heap) (A : Around) (outer : List Env) (s : Shared) (H : Hp) : Prop where
 frames : A.frames = some outer
 mod : Mod K mg base
 bs : ∀ b o, base.get? b = some o -> s.heap.get? b = some o /\ H b = none
 bsz : base.objs.size <= s.heap.objs.size
 funs : s.heap.FunFrames base outer
 frf : ∀ b ∈ frs outer, H b = none
 hok : HOk P w H s.heap
 bare : AllBare s.gens
def CE (outer : List Env) (P : Program) (w : World) (H : Hp) (s : Shared) (Q : VK) (u : Value) (s' : Shared) : Prop :=
 ∃ v H', s'.os = s.os /\ AllBare s'.gens /\ Un (frs outer) [] H H' s.heap s'.heap /\ HOk P w H' s'.heap /\ aN v u /\ Q v H'
def CR (CX : CXT) (outer : List Env) (P : Program) (w : World) (H : Hp) (s : Shared) (Q : VK) (E : XK) (r : Result) (s' : Shared) : Prop :=
 match r with
 | .ok (.ret u) => CE outer P w H s Q u s'
 | .ok _ => False
 | .error e => CX outer H s E e s'
structure FnOk (P : Program) (w : World) (K : Frag) (mg : Str -> Option Value) (base : Heap) (CX : CXT) (k : Nat) (f : Addr) (fd : FuncData) (ps : List Str) (sp : Sp) : Prop where
 len : ∀ vs H Q E, sp vs H Q E -> vs.length = ps.length
 run : ∀ (A : Around) (outer : List Env) (s : Shared) (H : Hp) (args : Args) (us : List Value) (vs : List V) (Q : VK) (E : XK), Room k A -> Env0 P w K mg base A outer s H -> BindsTo s fd args (ps.zip us) -> ar vs us -> sp vs H Q E ->
  codeAny (model P w) A (.call (.ref f) args) (CR CX outer P w H s Q E) s
theorem FnOk.mono {P : Program} {w : World} {K : Frag} {mg : Str -> Option Value} {base : Heap} {CX : CXT} {j k : Nat} {f : Addr} {fd : FuncData} {ps : List Str} {sp : Sp} (F : FnOk P w K mg base CX j f fd ps sp) (h : j <= k) :
  FnOk P w K mg base CX k f fd ps sp := ⟨F.len, fun A outer s H args us vs Q E hr => F.run A outer s H args us vs Q E (hr.mono h)⟩
theorem Env0.make {P : Program} {w : World} {K : Frag} {mg : Str -> Option Value} {base : Heap} {A : Around} {outer : List Env} {s : Shared} {H : Hp} (e : Env0 P w K mg base A outer s H) (C : Addr) (us : List Value) (kw : List (Str × Value)) :
  Env0 P w K mg base (A.under (.builtin "type.__call__" ⟨.ref C :: us, kw⟩)) outer s H := ⟨by first | exact e.frames | (simpa [Around.under, Code.envs, Code.isFrame, pushEnvs] using e.frames), e.mod, e.bs, e.bsz, e.funs, e.frf, e.hok, e.bare⟩
section
variable {X : Cx} {pins : List (Addr × Obj)} {σ : St} {H : Hp} {s s' : Shared}
theorem Inv.env0 (I : Inv X pins σ H s) : Env0 X.prog X.w X.K X.mg X.base X.A X.stack s H :=
 ⟨I.ok.frames, I.ok.mod, I.bs, Nat.le_trans I.ok.bsz I.sz, I.stack, I.stkFree, I.hok, I.bare⟩
theorem Inv.after {Q : VK} {u : Value} (I : Inv X pins σ H s) (h : CE X.stack X.prog X.w H s Q u s') : EP X pins σ Q u s' := by
 obtain ⟨v, H', os, bare, un, hok, r, q⟩ := h
 obtain ⟨hh, g, d, t, os'⟩ := s'
 obtain rfl : os' = s.os := os
 exact ⟨v, H', I.call (h' := hh) (g' := g) (d' := d) (t' := t) (ch := []) un hok bare (fun b z => absurd z (by simp)), r, q⟩
end
def xL (sp : Sp) (dvs : List V) (E : St -> XK) (t : TA) : TE := fun σ H Q => t σ H fun vs H1 => sp (vs ++ dvs) H1 Q (E σ)
def qZ (C : Addr) (m : Str) (sp : Sp) (dvs : List V) (E : St -> XK) (ta : TE) (t : TA) : TE := fun σ H Q => ta σ H fun x H1 => ∃ a dx fs, x = .ref a /\ H1 a = some (.ins C dx fs) /\ fs.lookup m = none /\
 t σ H1 fun vs H2 => sp (x :: (vs ++ dvs)) H2 Q (E σ)
def Cm (C : Addr) (sp : Sp) (dvs : List V) (E : St -> XK) (t : TA) : TE := fun σ H Q => t σ H fun vs H1 => ∀ x dx, H1 x = none -> H1 dx = none -> dx ≠ x ->
 sp (.ref x :: (vs ++ dvs)) (upd (upd H1 dx (.own x)) x (.ins C dx [])) (fun v H2 => v = .non /\ Q (.ref x) H2) (E σ)
def aG (K : Frag) (fd : FuncData) (ps : List Str) (ds : List Value) : Prop :=
 ∀ (s : Shared) (us : List Value), K.In s.heap -> (us ++ ds).length = ps.length -> BindsTo s fd ⟨us, []⟩ (ps.zip (us ++ ds))
theorem aG.all {K : Frag} {fd : FuncData} {ps : List Str} (h : ∀ us : List Value, us.length = ps.length -> bindArgs fd ⟨us, []⟩ = pure (ps.zip us)) : aG K fd ps [] := fun s us _ hl => by
 rw [List.append_nil] at hl ⊢
 exact .of_eq (h us hl)
def bQ (CX : CXT) (X : Cx) (E : St -> XK) : Prop := ∀ (pins : List (Addr × Obj)) (σ : St) (H : Hp) (s : Shared) (e : Value) (s' : Shared), Inv X pins σ H s -> CX X.stack H s (E σ) e s' -> X.xe e s'
section
variable {X : Cx} {CX : CXT} {k : Nat} {f C : Addr} {fd : FuncData} {ps : List Str} {sp : Sp} {dvs : List V} {ds : List Value} {E : St -> XK} {x m : Str} {p pos apos : Pos} {e o : Expr} {es : List Expr} {ta : TE} {t : TA}
theorem k9 {pins : List (Addr × Obj)} {σ : St} {H : Hp} {s : Shared} {Q : VK} {us : List Value} {vs : List V} (F : FnOk X.prog X.w X.K X.mg X.base CX k f fd ps sp) (hr : Room k X.A) (hb : aG X.K fd ps ds) (hd : ar dvs ds) (hx : bQ CX X E)
  (I : Inv X pins σ H s) (r : ar vs us) (h : sp (vs ++ dvs) H Q (E σ)) : wpAny (model X.prog X.w) X.A (call (.ref f) us) (EP X pins σ Q) X.xe s := by
 have r2 : ar (vs ++ dvs) (us ++ ds) := r.append hd
 have hl : (us ++ ds).length = ps.length := by rw [← r2.length]; exact F.len _ _ _ _ h
 refine wpAny_call (codeAny_mono (F.run X.A X.stack s H ⟨us, []⟩ (us ++ ds) (vs ++ dvs) Q (E σ) hr I.env0 (hb s us I.kIn hl) r2 h) fun r s' hq => ?_)
 cases r with
 | error e => exact hx pins σ H s e s' I hq
 | ok fl =>
  cases fl with
  | ret u => exact I.after hq
  | next => exact False.elim hq
  | brk => exact False.elim hq
  | cont => exact False.elim hq
theorem qr (F : FnOk X.prog X.w X.K X.mg X.base CX k f fd ps sp) (hr : Room k X.A) (hg : Gl X x) (hm : X.mg x = some (.ref f)) (hk : PySem.W.keepIn X.K (.ref f) = true) (hb : aG X.K fd ps ds) (hd : ar dvs ds) (hx : bQ CX X E)
  (ha : PA X (e :: es) t) (hdb : (x == ("__debug__" : Str)) = false := by decide) (he : starEach (e :: es) X.env = (false, eval e X.env) :: starEach es X.env := by rfl) (hpl : (backTo pos (starEach es X.env)).any (·.1) = false := by rfl) :
  PE X (.Call (.Name x p) (e :: es) [] pos) (xL sp dvs E t) := by
 intro pins s σ H Q I h
 refine wpAny_Call_Name_kw (gj I hg hm ?_ hdb)
 refine PySem.W.callWith_K (h₀ := X.base) I.ok.mod.kin hk (thn (ha pos pins s σ H _ I h) fun us s1 ⟨vs, H1, I1, r, q⟩ => ⟨I1.kIn, ?_⟩) he hpl
 exact k9 F hr hb hd hx I1 r q
theorem yL {pl : Sem Bool} (he : PE X o ta) (c : Cls X.K C) (hm : Meth X.K C m f) (F : FnOk X.prog X.w X.K X.mg X.base CX k f fd ps sp) (hr : Room k X.A) (hb : aG X.K fd ps ds) (hd : ar dvs ds) (hx : bQ CX X E) (ha : PA X (e :: es) t)
  (hst : starEach (e :: es) X.env = (false, eval e X.env) :: starEach es X.env := by rfl) (hpl : (backTo pos (starEach es X.env)).any (·.1) = false := by rfl)
  (ht : eval (.Call (.Attribute o m apos) (e :: es) [] pos) X.env = (do
   let ov ← eval o X.env
   standAt apos.atName
   let (f, first) ← holding [ov] (getMethod ov m pl)
   callWith pos f first (backTo pos (starEach (e :: es) X.env)) (backToKw pos (keywordEach [] X.env))) := by rfl) :
  PE X (.Call (.Attribute o m apos) (e :: es) [] pos) (qZ C m sp dvs E ta t) := by
 intro pins s σ H Q I h
 refine PySem.W.methodCall_KW (pl := pl) (thn (he pins s σ H _ I h) fun u s1 ⟨x, H1, I1, rx, a, dx, fs, ex, ea, l, q⟩ => ?_) ht
 subst ex
 obtain rfl : u = Value.ref a := rx
 refine lJ I1 ea c hm l ?_
 refine PySem.W.callWith_K (first := [.ref a]) (h₀ := X.base) I.ok.mod.kin hm.kp (thn (ha pos pins s1 σ H1 _ I1 q) fun us s2 ⟨vs, H2, I2, r, q2⟩ => ⟨I2.kIn, ?_⟩) hst hpl
 exact k9 (us := .ref a :: us) (vs := .ref a :: vs) F hr hb hd hx I2 (.cons rfl r) q2
theorem vc {pl : Sem Bool} (he : PE X o ta) (c : Cls X.K C) (hm : Meth X.K C m f) (F : FnOk X.prog X.w X.K X.mg X.base CX k f fd ps sp) (hr : Room k X.A) (hb : aG X.K fd ps ds) (hd : ar dvs ds) (hx : bQ CX X E)
  (ht : eval (.Call (.Attribute o m apos) [] [] pos) X.env = (do
   let ov ← eval o X.env
   standAt apos.atName
   let (f, first) ← holding [ov] (getMethod ov m pl)
   callWith pos f first (backTo pos (starEach [] X.env)) (backToKw pos (keywordEach [] X.env))) := by rfl) :
  PE X (.Call (.Attribute o m apos) [] [] pos) (qZ C m sp dvs E ta uP) := by
 intro pins s σ H Q I h
 refine PySem.W.methodCall_KW (pl := pl) (thn (he pins s σ H _ I h) fun u s1 ⟨x, H1, I1, rx, a, dx, fs, ex, ea, l, q⟩ => ?_) ht
 subst ex
 obtain rfl : u = Value.ref a := rx
 refine lJ I1 ea c hm l ?_
 exact PySem.W.callWith_K0 (first := [.ref a]) I1.kIn hm.kp (k9 (us := [.ref a]) (vs := [.ref a]) F hr hb hd hx I1 (.cons rfl .nil) q)
structure Mk (K : Frag) (C f : Addr) : Prop where
 makes : PySem.W.makesIn K C = true
 init : PySem.W.findIn K (.ref C) "__init__" = some (some (.ref f))
 fn : PySem.W.isFn K (.ref f) = true
 kp : PySem.W.keepIn K (.ref C) = true
theorem uV {pins : List (Addr × Obj)} {σ : St} {H : Hp} {s : Shared} {Q : VK} {us : List Value} {vs : List V} (M : Mk X.K C f) (F : FnOk X.prog X.w X.K X.mg X.base CX k f fd ps sp) (hr : Room (k + 1) X.A) (hb : aG X.K fd ps ds) (hd : ar dvs ds)
  (hx : bQ CX X E) (I : Inv X pins σ H s) (r : ar vs us)
  (h : ∀ x dx, H x = none -> H dx = none -> dx ≠ x -> sp (.ref x :: (vs ++ dvs)) (upd (upd H dx (.own x)) x (.ins C dx [])) (fun v H2 => v = .non /\ Q (.ref x) H2) (E σ)) :
  wpAny (model X.prog X.w) X.A (call (.ref C) us) (EP X pins σ Q) X.xe s := by
 have hq := h (s.heap.objs.size + 1) s.heap.objs.size (I.hok.fresh (Nat.le_succ _)) (I.hok.fresh (Nat.le_refl _)) (Nat.ne_of_lt (Nat.lt_succ_self _))
 have I2 := Inv.made (C := C) I
 have r2 : ar (V.ref (s.heap.objs.size + 1) :: (vs ++ dvs)) (Value.ref (s.heap.objs.size + 1) :: (us ++ ds)) := .cons rfl (r.append hd)
 have hl : (Value.ref (s.heap.objs.size + 1) :: us ++ ds).length = ps.length := by
  have e := r2.length
  rw [F.len _ _ _ _ hq] at e
  exact e.symm
 refine wpAny_call (ph (f := f) I.kIn M.makes M.init (beq_iff_eq.mp M.fn) (codeAny_mono (F.run _ X.stack _ _ ⟨Value.ref (s.heap.objs.size + 1) :: us, []⟩ (Value.ref (s.heap.objs.size + 1) :: (us ++ ds)) _ _ (E σ) (hr.make C us [])
  (I2.env0.make C us []) (hb _ (Value.ref (s.heap.objs.size + 1) :: us) I2.kIn hl) r2 hq) fun r s' hq' => ?_))
 cases r with
 | error e => exact hx pins σ _ _ e s' I2 hq'
 | ok fl =>
  cases fl with
  | ret u =>
   obtain ⟨v, H', I3, rv, ev, q3⟩ := I2.after hq'
   subst ev
   exact ⟨rv, ⟨V.ref (s.heap.objs.size + 1), H', I3, rfl, q3⟩⟩
  | next => exact False.elim hq'
  | brk => exact False.elim hq'
  | cont => exact False.elim hq'
theorem yM (M : Mk X.K C f) (F : FnOk X.prog X.w X.K X.mg X.base CX k f fd ps sp) (hr : Room (k + 1) X.A) (hg : Gl X x) (hm : X.mg x = some (.ref C)) (hb : aG X.K fd ps ds) (hd : ar dvs ds) (hx : bQ CX X E)
  (ha : PA X (e :: es) t) (hdb : (x == ("__debug__" : Str)) = false := by decide) (he : starEach (e :: es) X.env = (false, eval e X.env) :: starEach es X.env := by rfl) (hpl : (backTo pos (starEach es X.env)).any (·.1) = false := by rfl) :
  PE X (.Call (.Name x p) (e :: es) [] pos) (Cm C sp dvs E t) := by
 intro pins s σ H Q I h
 refine wpAny_Call_Name_kw (gj I hg hm ?_ hdb)
 refine PySem.W.callWith_K (h₀ := X.base) I.ok.mod.kin M.kp (thn (ha pos pins s σ H _ I h) fun us s1 ⟨vs, H1, I1, r, q⟩ => ⟨I1.kIn, ?_⟩) he hpl
 exact uV M F hr hb hd hx I1 r q
end
def PK (X : Cx) (kws : List Keyword) (t : TA) : Prop :=
 ∀ (pos : Pos) (pins : List (Addr × Obj)) (s : Shared) (σ : St) (H : Hp) (Q : List V -> Hp -> Prop), Inv X pins σ H s -> t σ H Q -> wpAny (model X.prog X.w) X.A (evalAll ((backToKw pos (keywordEach kws X.env)).map (·.2))) (AP X pins σ Q) X.xe s
section
variable {X : Cx} {CX : CXT} {k : Nat} {f C : Addr} {fd : FuncData} {ps ks : List Str} {sp : Sp} {E : St -> XK} {x m : Str} {p pos apos kpos : Pos} {e o : Expr} {es : List Expr} {kws : List Keyword} {te ta : TE} {t tk : TA} {nm : Option Str}
theorem Ag : PK X [] uP := fun _ _ _ _ H Q I h => wpAny_evalAll_nil ⟨[], H, I, .nil, h⟩
theorem yI (ha : PE X e te) (hr : PK X kws t) : PK X (⟨nm, e, kpos⟩ :: kws) (xK te t) := by
 intro pos pins s σ H Q I h
 show wpAny _ _ (evalAll ((do let v ← eval e X.env; standAt pos; pure v) :: (backToKw pos (keywordEach kws X.env)).map (·.2))) _ _ s
 refine wpAny_evalAll_cons (wpAny_bind (thn (ha pins s σ H _ I h) fun u s1 ⟨x, H1, I1, r1, q1⟩ => wpAny_bind (wpAny_standAt (wpAny_pure ?_))))
 exact thn (hr pos pins s1 σ H1 _ I1 q1) fun us s2 ⟨xs, H2, I2, r2, q2⟩ => ⟨x :: xs, H2, I2, .cons r1 r2, q2⟩
structure KBinds (K : Frag) (fd : FuncData) (ps ks : List Str) (g : List Value -> List Value -> List Value) (gV : List V -> List V -> List V) : Prop where
 to : ∀ (s : Shared) (us ws : List Value), K.In s.heap -> (g us ws).length = ps.length -> BindsTo s fd ⟨us, ks.zip ws⟩ (ps.zip (g us ws))
 rel : ∀ {vs : List V} {us : List Value} {zs : List V} {ws : List Value}, ar vs us -> ar zs ws -> ar (gV vs zs) (g us ws)
variable {g : List Value -> List Value -> List Value} {gV : List V -> List V -> List V}
end
structure FnScope (N P : List Str) (sc : Scope) : Prop where
 kind : sc.kind = .function
 co : sc.isCoroutine = false
 gen : sc.isGenerator = false
 nd : N.Nodup
 pre : N.take P.length = P
 par : ∀ x ∈ P, sc.names.lookup x = some .local \/ sc.names.lookup x = some .cell
 nofree : ∀ y ∈ sc.names, y.2 ≠ .free
theorem nw {kindOf : Str -> Option NameKind} {x : Str} : ∀ {binds : List (Str × Value)} {m : Str -> Option Value}, (∀ v, (x, v) ∉ binds) -> bindL kindOf binds m x = m x
 | [], _, _ => rfl
 | (n, v) :: r, m, h => by
  unfold bindL
  rw [nw fun w hw => h w (List.mem_cons_of_mem _ hw)]
  split
  ·have : x ≠ n := by rintro rfl; exact h v List.mem_cons_self
   simp [this]
  ·rfl
theorem nz {kindOf : Str -> Option NameKind} {x : Str} : ∀ {binds : List (Str × Value)} {m : Str -> Option Value}, (∀ v, (x, v) ∉ binds) -> bindC kindOf binds m x = m x
 | [], _, _ => rfl
 | (n, v) :: r, m, h => by
  unfold bindC
  rw [nz fun w hw => h w (List.mem_cons_of_mem _ hw)]
  split
  ·rfl
  ·have : x ≠ n := by rintro rfl; exact h v List.mem_cons_self
   simp [this]
theorem ny {kindOf : Str -> Option NameKind} {x : Str} {v : Value} : ∀ {P : List Str} {vs : List Value} {i : Nat} {m : Str -> Option Value}, P.Nodup -> P[i]? = some x -> vs[i]? = some v -> kindOf x = some .local ->
  bindL kindOf (P.zip vs) m x = some v
 | [], _, _, _, _, h, _, _ => by simp at h
 | _ :: _, [], _, _, _, _, h, _ => by simp at h
 | p :: P, w :: vs, 0, m, nd, h1, h2, hk => by
  simp at h1 h2; subst h1; subst h2
  show bindL kindOf ((p, w) :: P.zip vs) m p = _
  unfold bindL
  rw [nw fun v hv => (List.nodup_cons.mp nd).1 (List.of_mem_zip hv).1, if_pos hk]
  simp
 | p :: P, w :: vs, i + 1, m, nd, h1, h2, hk => by
  show bindL kindOf ((p, w) :: P.zip vs) m x = _
  unfold bindL
  exact ny (i := i) (List.nodup_cons.mp nd).2 (by simpa using h1) (by simpa using h2) hk
theorem nB {kindOf : Str -> Option NameKind} {x : Str} {v : Value} : ∀ {P : List Str} {vs : List Value} {i : Nat} {m : Str -> Option Value}, P.Nodup -> P[i]? = some x -> vs[i]? = some v -> kindOf x ≠ some .local ->
  bindC kindOf (P.zip vs) m x = some v
 | [], _, _, _, _, h, _, _ => by simp at h
 | _ :: _, [], _, _, _, _, h, _ => by simp at h
 | p :: P, w :: vs, 0, m, nd, h1, h2, hk => by
  simp at h1 h2; subst h1; subst h2
  show bindC kindOf ((p, w) :: P.zip vs) m p = _
  unfold bindC
  rw [nz fun v hv => (List.nodup_cons.mp nd).1 (List.of_mem_zip hv).1, if_neg hk]
  simp
 | p :: P, w :: vs, i + 1, m, nd, h1, h2, hk => by
  show bindC kindOf ((p, w) :: P.zip vs) m x = _
  unfold bindC
  exact nB (i := i) (List.nodup_cons.mp nd).2 (by simpa using h1) (by simpa using h2) hk
def dR (N : List Str) (vs : List V) : St := vs.map some ++ List.replicate (N.length - vs.length) none
def cN (CX : CXT) (P : Program) (w : World) (K : Frag) (mg : Str -> Option Value) (base : Heap) (N : List Str) (qual : Str) (scope : Scope) (f : Addr) (cd : Value) (A : Around) (outer : List Env) (s : Shared) (H : Hp) (E : XK) : Cx where
 prog := P
 w := w
 K := K
 mg := mg
 base := base
 A := A.deeper (envOfC qual scope s.heap.objs.size f cd)
 N := N
 s₀ := s
 H₀ := H
 env := envOfC qual scope s.heap.objs.size f cd
 outer := outer
 stack := envOfC qual scope s.heap.objs.size f cd :: outer
 ex := []
 calm := true
 fn := fun _ => true
 pn := []
 xe := fun e s' => wpAny (model P w) (A.deeper (envOfC qual scope s.heap.objs.size f cd)) (leaving (envOfC qual scope s.heap.objs.size f cd) e) (fun _ s'' => CX outer H s E e s'') (fun e' s'' => CX outer H s E e' s'') s'
theorem pK {sc : Scope} {n : Nat} {x : Str} (h : sc.names.lookup x = some .cell) : ∃ c, (cellsFrom n sc.names []).lookup x = some c := by
 have q := PySem.W.cellsFrom_some sc.names n [] (.inl h)
 exact Option.isSome_iff_exists.mp q
theorem ul {CX : CXT} {P : Program} {w : World} {K : Frag} {mg : Str -> Option Value} {base : Heap} {N ps : List Str} {qual : Str} {scope : Scope} {f : Addr} {cd : Value} {A : Around} {outer : List Env} {s s1 : Shared} {H : Hp} {E : XK} {us : List Value} {vs : List V}
  (S : FnScope N ps scope) (hd : A.handled = none) (e0 : Env0 P w K mg base A outer s H) (hl : vs.length = ps.length) (r : ar vs us)
  (x : InCallC s s.heap.objs.size (bindL (envOfC qual scope s.heap.objs.size f cd).kindOf (ps.zip us) fun _ => none) (cellsFrom (s.heap.objs.size + 1) scope.names []) (bindC (envOfC qual scope s.heap.objs.size f cd).kindOf (ps.zip us) fun _ => none) s1) :
  Inv (cN CX P w K mg base N qual scope f cd A outer s H E) [] (dR N vs) H s1 := by
 have hpl : ps.length <= N.length := by have := congrArg List.length S.pre; rw [List.length_take] at this; omega
 obtain ⟨h1, tk, rfl, hk⟩ := x.done
 have noA : ∀ b : Addr, b ∉ (cN CX P w K mg base N qual scope f cd A outer s H E).ex := fun b z => absurd (show b ∈ ([] : List Addr) from z) (by simp)
 refine ⟨⟨e0.mod, S.kind, rfl, rfl, Nat.le_refl _, fun y z c h1 h2 => ?_, fun y hy => ?_, fun y c _ h => ?_, fun _ => hd, Around.frames_deeper e0.frames, .inr ⟨rfl, rfl⟩, fun b z => absurd z (noA b), e0.bs, e0.bsz, fun b _ _ => noA b, fun b z => absurd z (noA b), e0.funs, e0.frf⟩,
  rfl, e0.bare, Un.kept hk, ⟨_, x.toInCall.ns, fun i y v h1 h2 h3 => ?_⟩, fun y c h => ⟨_, x.cell y c h⟩, e0.hok.fresh (Nat.le_refl _), fun y c h => ?_, fun p hp => absurd (show p ∈ ([] : List (Addr × Obj)) from hp) (by simp), e0.hok.kept hk, ?_⟩
 ·exact name_of_addr x.apart (PySem.mem_of_lookup h1) (PySem.mem_of_lookup h2)
 ·have hy : scope.names.lookup y = some .cell \/ scope.names.lookup y = some .free := hy
  rcases hy with hy | hy
  ·exact pK hy
  ·exact absurd rfl (S.nofree _ (PySem.mem_of_lookup hy))
 ·exact Nat.le_of_lt (x.above y c (PySem.mem_of_lookup h))
 ·have hi : i < vs.length := by
   unfold dR at h2
   by_cases hi : i < vs.length
   ·exact hi
   ·rw [List.getElem?_append_right (by simpa using hi)] at h2
    rw [List.getElem?_replicate] at h2
    split at h2 <;> cases h2
  have ha : vs[i]? = some v := by
   unfold dR at h2
   rw [List.getElem?_append_left (by simpa using hi), List.getElem?_map] at h2
   cases e : vs[i]? with
   | none => rw [e] at h2; cases h2
   | some a => rw [e] at h2; cases h2; rfl
  obtain ⟨u, hu, rv⟩ := r.get ha
  have hp : ps[i]? = some y := by
   rw [← S.pre, List.getElem?_take_of_lt (by omega)]; exact h1
  have ndP : ps.Nodup := by rw [← S.pre]; exact S.nd.sublist (List.take_sublist _ _)
  refine ⟨u, rv, ?_⟩
  rcases S.par y (List.mem_of_getElem? hp) with k | k
  ·exact .inl ⟨k, ny ndP hp hu k⟩
  ·obtain ⟨c, e⟩ := pK (n := s.heap.objs.size + 1) k
   refine .inr ⟨.inl k, c, e, ?_⟩
   have q := x.cell y c e
   rw [nB ndP hp hu (by show scope.names.lookup y ≠ _; rw [k]; decide)] at q
   exact q
 ·exact e0.hok.fresh (Nat.le_of_lt (x.above y c (PySem.mem_of_lookup h)))
 ·unfold dR
  show _ = N.length
  rw [List.length_append, List.length_map, List.length_replicate]
  omega
theorem yg {CX : CXT} {P : Program} {w : World} {K : Frag} {mg : Str -> Option Value} {base : Heap} {k : Nat} {f : Addr} {name qual : Str} {params : Arguments} {body : List Stmt} {scope : Scope} {dV kV doc pm cdv ct oc : Value} {an od : Option Addr}
  {osl : Array (Option Value)} {N ps : List Str} {sp : Sp} (lk : K.lookup f = some ⟨oc, od, .func (PySem.W.fnOf name qual params body scope dV kV doc pm an cdv ct), osl⟩) (hcd : PySem.W.codeIn K cdv qual = true) (S : FnScope N ps scope)
  (len : ∀ vs H Q E, sp vs H Q E -> vs.length = ps.length)
  (hbody : ∀ (A : Around) (outer : List Env) (s : Shared) (H : Hp) (vs : List V) (Q : VK) (E : XK), Room k (A.deeper (envOfC qual scope s.heap.objs.size f cdv)) -> sp vs H Q E ->
   ∃ t, PSs (cN CX P w K mg base N qual scope f cdv A outer s H E) body t /\ t { nx := fun _ H' => Q .non H', rt := Q } (dR N vs) H) :
  FnOk P w K mg base CX (k + 1) f (PySem.W.fnOf name qual params body scope dV kV doc pm an cdv ct) ps sp := by
 refine ⟨len, fun A outer s H args us vs Q E hr e0 hb r hsp => ?_⟩
 have hl := len _ _ _ _ hsp
 have KX : K.In s.heap := e0.mod.kin.keeps fun b o e => (e0.bs b o e).1
 have lim : s.heap.NoLimit := e0.mod.nolimit.keeps fun b o e => (e0.bs b o e).1
 have hkind : ∀ y ∈ ps.zip us, scope.names.lookup y.1 = some .local \/ (scope.names.lookup y.1 = some .cell /\ ((cellsFrom (s.heap.objs.size + 1) scope.names []).lookup y.1).isSome = true) := fun ⟨n, v⟩ hy => by
  rcases S.par n (List.of_mem_zip hy).1 with q | q
  ·exact .inl q
  ·exact .inr ⟨q, PySem.W.cellsFrom_some _ _ _ (.inl q)⟩
 refine codeAny_call_function hr.depth (KX _ _ lk) rfl S.co S.gen rfl (PySem.W.codeRec_of KX hcd) (hb _ _ _ _ ?_)
 refine wpAny_newFunctionEnv_cells S.kind hkind fun env he s1 x => ?_
 subst he
 refine ⟨lim.keeps x.toInCall.keep, codeAny_func ?_⟩
 obtain ⟨t, ht, hq⟩ := hbody A outer s H vs Q E (hr.deeper _) hsp
 have I : Inv (cN CX P w K mg base N qual scope f cdv A outer s H E) [] (dR N vs) H s1 := ul S hr.hd e0 hl r x
 refine wpAny_mono (ht [] s1 (dR N vs) H _ I hq) (fun fl s' hs => ?_) fun e s' hs => hs
 have fin : ∀ {σ' : St} {H' : Hp} {v : V} {u : Value}, Inv (cN CX P w K mg base N qual scope f cdv A outer s H E) [] σ' H' s' -> aN v u -> Q v H' -> CE outer P w H s Q u s' :=
  fun {σ' H' v u} J rv q => ⟨v, H', J.os, J.bare, J.base, J.hok, rv, q⟩
 cases fl with
 | ret u =>
  obtain ⟨v, σ', H', J, rv, q⟩ := hs
  exact fin J rv q
 | next =>
  obtain ⟨σ', H', J, q⟩ := hs
  exact fin (v := V.non) (u := Value.none) J rfl q
 | brk =>
  obtain ⟨_, _, _, q⟩ := hs
  exact False.elim q
 | cont =>
  obtain ⟨_, _, _, q⟩ := hs
  exact False.elim q
section
variable {X : Cx} {x : Str} {p pos : Pos} {e : Expr} {es : List Expr} {t : TA} {id T : String} {r : List V -> Hp -> VK -> Prop}
def tCB (r : List V -> Hp -> VK -> Prop) (t : TA) : TE := fun σ H Q => t σ H fun vs H1 => r vs H1 Q
theorem kn (hc : cZ X (.builtin id) r) (hg : Gl X x) (hm : X.mg x = none) (hv : bootBuiltins x = some (.builtin id)) (ha : PA X (e :: es) t) (hn : x ≠ "__name__" := by decide) (hdb : (x == ("__debug__" : Str)) = false := by decide)
  (he : starEach (e :: es) X.env = (false, eval e X.env) :: starEach es X.env := by rfl) (hpl : (backTo pos (starEach es X.env)).any (·.1) = false := by rfl) : PE X (.Call (.Name x p) (e :: es) [] pos) (tCB r t) := by
 intro pins s σ H Q I h
 refine wpAny_Call_Name_kw (fP I hg hm hv ?_ hn hdb)
 exact PyProof.Rows.callWith_builtin1 (thn (ha pos pins s σ H _ I h) fun us s1 ⟨vs, H1, I1, r1, q1⟩ => hc pins s1 σ H1 vs us Q I1 r1 q1) he hpl
theorem m6 (hc : cZ X (.type T) r) (hg : Gl X x) (hm : X.mg x = none) (hv : bootBuiltins x = some (.type T)) (ha : PA X (e :: es) t) (hn : x ≠ "__name__" := by decide) (hdb : (x == ("__debug__" : Str)) = false := by decide)
  (he : starEach (e :: es) X.env = (false, eval e X.env) :: starEach es X.env := by rfl) (hpl : (backTo pos (starEach es X.env)).any (·.1) = false := by rfl) : PE X (.Call (.Name x p) (e :: es) [] pos) (tCB r t) := by
 intro pins s σ H Q I h
 refine wpAny_Call_Name_kw (fP I hg hm hv ?_ hn hdb)
 exact PyProof.Rows.callWith_type1 (thn (ha pos pins s σ H _ I h) fun us s1 ⟨vs, H1, I1, r1, q1⟩ => hc pins s1 σ H1 vs us Q I1 r1 q1) he hpl
end
end L2
namespace HT
open PySem PyProof.Rows
section
open PySem.SeqAt
open PySem.AutoSeq1 (wpAny_loadPart')
open PySem.MeetsSeq PySem.MeetsSeq2 PySem.MeetsSeq3
end
section
variable {prog : Program} {w : World} {A : Around} {E : Value -> Shared -> Prop} {s : Shared}
theorem cat_tup {t b : Addr} {vs ws : List Value} {Q : Value -> Shared -> Prop} (ht : IsTup s.heap t vs.toArray) (hb : IsTup s.heap b ws.toArray) (hv : vs ≠ [])
  (h1 : ws = [] -> Q (.ref t) s) (h2 : ws ≠ [] -> Q (.ref s.heap.objs.size) { s with heap := s.heap.push { cls := .type "tuple", data := .seq (vs ++ ws).toArray } })
  (hsz : vs.length + ws.length <= sizeLine) : wpAny (model prog w) A (binaryOp .Add (.ref t) (.ref b)) Q E s := by
 obtain ⟨⟨cls, dd, data, sl⟩, ho, hc, n, hd⟩ := id ht
 obtain ⟨⟨cls2, dd2, data2, sl2⟩, ho2, hc2, n2, hd2⟩ := id hb
 simp only at hc hd hc2 hd2
 subst hc hd hc2 hd2
 have e : vs.toArray ++ ws.toArray = (vs ++ ws).toArray := by simp
 by_cases hw : ws = []
 ·exact concat_meets ⟨_, ho, rfl⟩ ⟨_, ho2, rfl⟩ noFill_tuple_add seq_tuple_add PySem.F.slot_tuple_add PySem.F.entry_tuple_add (PySem.F.args_tuple_add_2 _ _)
   (tuple_addW1 t b vs.toArray ws.toArray n n2 dd dd2 sl sl2 (by simpa using hv) (by simp [hw])) ⟨ho, ho2, h1 hw⟩
 ·refine concat_meets ⟨_, ho, rfl⟩ ⟨_, ho2, rfl⟩ noFill_tuple_add seq_tuple_add PySem.F.slot_tuple_add PySem.F.entry_tuple_add (PySem.F.args_tuple_add_2 _ _)
   (tuple_addW2 t b vs.toArray ws.toArray n n2 dd dd2 sl sl2 (by simpa using hv) (by simpa using hw) (by rw [List.size_toArray, List.size_toArray]; exact hsz)) ⟨ho, ho2, ?_⟩
  rw [e]
  exact h2 hw
def sIx (n d : Nat) : Option Int -> Nat
 | none => d
 | some v => if v < 0 then (v + (n : Int)).toNat else min v.toNat n
end
end HT
namespace L2
open PySem PySem.Spec PyProof.Rows
abbrev TO := St -> Hp -> (Option Int -> Hp -> Prop) -> Prop
def PO (X : Cx) (e : Option Expr) (t : TO) : Prop :=
 ∀ (pins : List (Addr × Obj)) (s : Shared) (σ : St) (H : Hp) (Q : Option Int -> Hp -> Prop), Inv X pins σ H s -> t σ H Q ->
  wpAny (model X.prog X.w) X.A (evalPart e X.env) (fun u s' => ∃ o H', Inv X pins σ H' s' /\ IsPart u o /\ Q o H') X.xe s
def yz : TO := fun _ H Q => Q none H
def Ck (t : TE) : TO := fun σ H Q => t σ H fun x H1 => ∃ i, x = .int i /\ Q (some i) H1
theorem lI {ns : List Int} : ∀ {us : List Value}, ar (ns.map V.int) us -> IntsAre us ns := by
 induction ns with
 | nil => intro us r; rw [List.map_nil] at r; cases r; exact .nil
 | cons n ns ih =>
  intro us r
  rw [List.map_cons] at r
  cases r with
  | cons r1 r2 =>
   obtain ⟨t, e⟩ := r1
   subst e
   exact .cons n t (ih r2)
section
variable {X : Cx} {e : Expr} {te : TE} {lo hi : Option Expr} {tl th : TO} {pos p2 : Pos}
theorem yG : PO X none yz := by
 intro pins s σ H Q I h
 rw [evalPart_none]
 exact wpAny_pure ⟨none, H, I, .none, h⟩
theorem yF (h : PE X e te) : PO X (some e) (Ck te) := by
 intro pins s σ H Q I hw
 rw [evalPart_some]
 refine thn (h pins s σ H _ I hw) fun u s1 ⟨x, H1, I1, r1, q1⟩ => ?_
 obtain ⟨i, rfl, q⟩ := q1
 obtain ⟨t, rfl⟩ := r1
 exact ⟨some i, H1, I1, .int i t, q⟩
def SlR (X : Cx) (r : V -> Option Int -> Option Int -> Hp -> VK -> Prop) : Prop :=
 ∀ (pins : List (Addr × Obj)) (s : Shared) (σ : St) (H : Hp) (x : V) (v vl vu : Value) (lo hi : Option Int) (sl : Addr) (Q : VK), Inv X pins σ H s -> aN x v -> s.heap.IsSliceOf sl vl vu .none -> IsPart vl lo -> IsPart vu hi -> r x lo hi H Q ->
  ∃ T id, typeLookup (.type T) "__getitem__" = pure (some (.builtin id)) /\ s.TypeIs v T /\ wpAny (model X.prog X.w) X.A (getItem v (.ref sl)) (EP X pins σ Q) X.xe s
def tSl (r : V -> Option Int -> Option Int -> Hp -> VK -> Prop) (te : TE) (tl th : TO) : TE := fun σ H Q => te σ H fun x H1 => tl σ H1 fun l H2 => th σ H2 fun u H3 => r x l u H3 Q
theorem vb {r : V -> Option Int -> Option Int -> Hp -> VK -> Prop} (hr : SlR X r) (he : PE X e te) (hl : PO X lo tl) (hu : PO X hi th) : PE X (.Subscript e (.Slice lo hi none p2) pos) (tSl r te tl th) := by
 intro pins s σ H Q I h
 refine Subscript_ (thn (he pins s σ H _ I h) fun v s1 ⟨x, H1, I1, r1, q1⟩ => ?_)
 refine wpAny_Slice (thn (hl pins s1 σ H1 _ I1 q1) fun vl s2 ⟨l, H2, I2, pl, q2⟩ => thn (hu pins s2 σ H2 _ I2 q2) fun vu s3 ⟨u, H3, I3, pu, q3⟩ => ?_)
 rw [evalPart_none]
 refine wpAny_pure ?_
 have I4 : Inv X pins σ H3 { s3 with heap := s3.heap.push { cls := .type "slice", data := .fields #[vl, vu, .none] } } := I3.kept (t' := s3.toks) fun b ob q => Heap.get?_push_of_some _ q
 obtain ⟨T, id, hT, ht, hg⟩ := hr pins { s3 with heap := s3.heap.push { cls := .type "slice", data := .fields #[vl, vu, .none] } } σ H3 x v vl vu l u s3.heap.objs.size Q I4 r1 (Heap.IsSliceOf.new ..) pl pu q3
 show wpAny (model X.prog X.w) X.A (subscriptTail e (.Slice lo hi none p2) v (.ref s3.heap.objs.size)) (EP X pins σ Q) X.xe { s3 with heap := s3.heap.push { cls := .type "slice", data := .fields #[vl, vu, .none] } }
 exact tail_any (ops := [.ref s3.heap.objs.size, v]) ht hT hg (by with_unfolding_all rfl)
def mP (xs : List V) (lo hi : Option Int) : List V := (xs.drop (HT.sIx xs.length 0 lo)).take (HT.sIx xs.length xs.length hi - HT.sIx xs.length 0 lo)
theorem qa (xs : List V) (lo hi : Option Int) : (mP xs lo hi).length <= xs.length := by
 unfold mP
 rw [List.length_take, List.length_drop]
 omega
def rf (K : Frag) : R2 := fun x y H Q => ∃ a b xs ys, x = .ref a /\ y = .ref b /\ SqT K H a xs /\ SqT K H b ys /\ xs ≠ [] /\ xs.length + ys.length <= sizeLine /\
 (ys = [] -> Q (.ref a) H) /\ (ys ≠ [] -> ∀ p, H p = none -> Q (.ref p) (upd H p (.tup (xs ++ ys))))
theorem ar.nil_iff {xs : List V} {us : List Value} (r : ar xs us) : us = [] ↔ xs = [] := by
 cases r with
 | nil => simp
 | cons _ _ => simp
theorem yU : OpR X (binaryOp .Add) (rf X.K) := by
 intro pins s σ H x y v u Q I rx ry h
 obtain ⟨a, b, xs, ys, rfl, rfl, ha, hb, hx, hz, q1, q2⟩ := h
 cases rx
 cases ry
 obtain ⟨its, r1, p1, _⟩ := I.tuple ha
 obtain ⟨its2, r2, p2, _⟩ := I.tuple hb
 refine HT.cat_tup p1 p2 (fun z => hx (r1.nil_iff.mp z)) (fun z => ⟨.ref a, H, I, rfl, q1 (r2.nil_iff.mp z)⟩) (fun z => ?_) (by rw [← r1.length, ← r2.length]; exact hz)
 refine ⟨.ref s.heap.objs.size, _, I.laid (t' := s.toks) (o := .tup (xs ++ ys)) (fun b ob q => Heap.get?_push_of_some _ q) (Nat.le_refl _) ?_, rfl, q2 (fun w => z (r2.nil_iff.mpr w)) _ (I.hok.fresh (Nat.le_refl _))⟩
 exact ⟨by rw [List.length_append]; exact hz, _, r1.append r2, IsTup.new _ _⟩
end
def ixN (n : Nat) (i : Int) : Option Nat := if 0 <= i then (if i < n then some i.toNat else none) else if -(n : Int) <= i then some (i + n).toNat else none
def atI {α : Type} (xs : List α) (i : Int) : Option α := (ixN xs.length i).bind fun j => xs[j]?
theorem qA {n : Nat} {i : Int} {j : Nat} (h : ixN n i = some j) : seqIndex? i n = some j /\ j < n /\ -(n : Int) <= i /\ i < n := by
 unfold ixN at h
 by_cases h0 : 0 <= i
 ·rw [if_pos h0] at h
  by_cases h1 : i < n
  ·rw [if_pos h1] at h
   have e : i.toNat = j := Option.some.inj h
   exact ⟨by rw [seqIndex_of h0 h1, e], by omega, by omega, h1⟩
  ·rw [if_neg h1] at h; cases h
 ·rw [if_neg h0] at h
  by_cases h1 : -(n : Int) <= i
  ·rw [if_pos h1] at h
   have e : (i + n).toNat = j := Option.some.inj h
   exact ⟨by rw [seqIndex_neg (by omega) h1, e], by omega, h1, by omega⟩
  ·rw [if_neg h1] at h; cases h
theorem qM {α : Type} {xs : List α} {i : Int} {v : α} (h : atI xs i = some v) : ∃ j, seqIndex? i xs.length = some j /\ xs[j]? = some v /\ j < xs.length /\ -(xs.length : Int) <= i /\ i < xs.length := by
 unfold atI at h
 cases e : ixN xs.length i with
 | none => rw [e] at h; cases h
 | some j =>
  rw [e] at h
  obtain ⟨h1, h2, h3, h4⟩ := qA e
  exact ⟨j, h1, h, h2, h3, h4⟩
theorem zA {α : Type} {xs : List α} {j : Nat} {v : α} (h : xs[j]? = some v) : atI xs (j : Int) = some v := by
 have hj : j < xs.length := (List.getElem?_eq_some_iff.mp h).1
 have e : ixN xs.length (j : Int) = some j := by
  unfold ixN
  rw [if_pos (by omega), if_pos (by omega)]; simp
 unfold atI; rw [e]; exact h
def qO (b : Expr) : Prop := ∀ o i, subscripted b false o i = operate [o, i] (getItem o i)
def IxR (X : Cx) (r : R2) : Prop :=
 ∀ (value slice : Expr) (pins : List (Addr × Obj)) (s : Shared) (σ : St) (H : Hp) (x y : V) (v u : Value) (Q : VK), Inv X pins σ H s -> aN x v -> aN y u -> r x y H Q ->
  subscripted slice false v u = operate [v, u] (getItem v u) -> wpAny (model X.prog X.w) X.A (subscriptTail value slice v u) (EP X pins σ Q) X.xe s
section
variable {X : Cx} {a b : Expr} {ta tb : TE} {pos : Pos}
theorem IxR.or {r r' : R2} (h : IxR X r) (h' : IxR X r') : IxR X (fun x y H Q => r x y H Q \/ r' x y H Q) := by
 intro value slice pins s σ H x y v u Q I rx ry q hs
 rcases q with q | q
 ·exact h value slice pins s σ H x y v u Q I rx ry q hs
 ·exact h' value slice pins s σ H x y v u Q I rx ry q hs
theorem fu {r : R2} (hr : IxR X r) (ha : PE X a ta) (hb : PE X b tb) (hs : qO b) : PE X (.Subscript a b pos) (tOp r ta tb) := by
 intro pins s σ H Q I h
 exact Subscript_ (vW ha hb I h fun v u s2 x y H2 I2 rx ry q => hr a b pins s2 σ H2 x y v u Q I2 rx ry q (hs _ _))
def re (K : Frag) : R2 := fun x y H Q => ∃ p xs i v, x = .ref p /\ y = .int i /\ SqL K H p xs /\ atI xs i = some v /\ Q v H
def uW (K : Frag) : R2 := fun x y H Q => ∃ p xs i v, x = .ref p /\ y = .int i /\ SqT K H p xs /\ atI xs i = some v /\ Q v H
theorem c8 : IxR X (re X.K) := by
 intro value slice pins s σ H x y v u Q I rx ry h hs
 obtain ⟨p, xs, i, z, rfl, rfl, hq, he, q⟩ := h
 cases rx
 obtain ⟨t, rfl⟩ := ry
 obtain ⟨its, r, pl, hz⟩ := I.list hq
 obtain ⟨j, h1, h2, h3, h4, h5⟩ := qM he
 obtain ⟨w, ew, rw'⟩ := r.get h2
 have hl := r.length
 have hn := jv
 have fin : EP X pins σ Q w s := ⟨z, H, I, rw', q⟩
 by_cases h0 : 0 <= i
 ·have hj : i.toNat = j := by
   rw [seqIndex_of h0 h5] at h1
   exact Option.some.inj h1
  exact item_listR pl.isList h0 (by omega) (by rw [hj]; simpa using ew) fin hs
 ·have hj : (i + (its.toArray.size : Int)).toNat = j := by
   rw [seqIndex_neg (by omega) h4] at h1
   rw [List.size_toArray, ← hl]
   exact Option.some.inj h1
  exact subscriptTail_builtinR (x := w) pl.isList.typeIs slot_list_getitem.lookup
   (wpAny_getItem_list_neg (Q := fun r s' => r = w /\ EP X pins σ Q r s') pl.isList (by omega) (by rw [List.size_toArray] <;> omega) (by omega) (by rw [hj]; simpa using ew) ⟨rfl, fin⟩) hs
theorem AN : IxR X (uW X.K) := by
 intro value slice pins s σ H x y v u Q I rx ry h hs
 obtain ⟨p, xs, i, z, rfl, rfl, hq, he, q⟩ := h
 cases rx
 obtain ⟨t, rfl⟩ := ry
 obtain ⟨its, r, pl, hz⟩ := I.tuple hq
 obtain ⟨j, h1, h2, h3, h4, h5⟩ := qM he
 obtain ⟨w, ew, rw'⟩ := r.get h2
 have hl := r.length
 have hn := jv
 have fin : EP X pins σ Q w s := ⟨z, H, I, rw', q⟩
 exact subscriptTail_builtinR (x := w) pl.typeIs slot_tuple_getitem.lookup
  (getItem_tuple (j := j) (Q := fun r s' => r = w /\ EP X pins σ Q r s') pl (by omega) (by omega) (by rw [List.size_toArray, ← hl]; exact h1) (by simpa using ew) ⟨rfl, fin⟩) hs
theorem rA (its : List Value) (n j : Nat) (u : Value) : Obj.mapSeq (·.setIfInBounds j u) { cls := .type "list", data := .seq its.toArray n } = { cls := .type "list", data := .seq (its.set j u).toArray n } := by
 simp [Obj.mapSeq]
theorem Inv.lst {pins : List (Addr × Obj)} {σ : St} {H : Hp} {s : Shared} {p : Addr} {xs : List V} (I : Inv X pins σ H s) (h : H p = some (.lst xs)) :
  ∃ (its : List Value) (n : Nat), ar xs its /\ s.heap.get? p = some { cls := .type "list", data := .seq its.toArray n } /\ xs.length <= sizeLine := by
 obtain ⟨z, its, n, r, e⟩ := I.hok p _ h
 exact ⟨its, n, r, e, z⟩
theorem Inv.lstUpd {pins : List (Addr × Obj)} {σ : St} {H : Hp} {s : Shared} {p : Addr} {xs ys : List V} {its its' : List Value} {n n' : Nat} {f : Obj -> Obj} (I : Inv X pins σ H s) (h : H p = some (.lst xs))
  (ho : s.heap.get? p = some { cls := .type "list", data := .seq its.toArray n }) (hf : f { cls := .type "list", data := .seq its.toArray n } = { cls := .type "list", data := .seq its'.toArray n' }) (r : ar ys its') (hz : ys.length <= sizeLine) (t : Nat) :
  Inv X pins σ (upd H p (.lst ys)) { s with heap := s.heap.update p f, toks := t } := by
 have e : (s.heap.update p f).get? p = some { cls := .type "list", data := .seq its'.toArray n' } := by
  rw [Heap.get?_update_self f ho (by rw [hf] <;> rfl), hf]
 refine I.write (x := p) (e := p) (by rw [h]; trivial) (.inl rfl) (fun b u hb q => (Heap.get?_update_other _ _ (Ne.symm hb)).trans q) ⟨_, e⟩ ?_
 exact ⟨hz, its', n', r, e⟩
def xP : V -> V -> V -> Hp -> (Hp -> Prop) -> Prop := fun o i v H Q => ∃ p xs k j, o = .ref p /\ i = .int k /\ H p = some (.lst xs) /\ ixN xs.length k = some j /\ Q (upd H p (.lst (xs.set j v)))
theorem e8 : B7 X xP := by
 intro pins s σ H o i v ov iv u Q I ro ri rv h
 obtain ⟨p, xs, k, j, rfl, rfl, hp, hj, q⟩ := h
 cases ro
 obtain ⟨t, rfl⟩ := ri
 obtain ⟨its, n, r, ho, hz⟩ := I.lst hp
 obtain ⟨h1, h2, h3, h4⟩ := qA hj
 have hl := r.length
 have hn := jv
 have I' : Inv X pins σ (upd H p (.lst (xs.set j v))) { s with heap := s.heap.update p (Obj.mapSeq (·.setIfInBounds j u)) } :=
  I.lstUpd hp ho (rA its n j u) (r.set rv j) (by rw [List.length_set]; exact hz) s.toks
 by_cases h0 : 0 <= k
 ·have hk : k.toNat = j := by
   rw [seqIndex_of h0 h4] at h1
   exact Option.some.inj h1
  exact PySem.W.ki_setAt ho h0 (by omega) (by rw [List.size_toArray, ← hl]; exact h4) (by rw [hk]; exact ⟨_, I', q⟩)
 ·have hk : (k + (its.toArray.size : Int)).toNat = j := by
   rw [seqIndex_neg (by omega) h3] at h1
   rw [List.size_toArray, ← hl]
   exact Option.some.inj h1
  exact PySem.W.ki_setBack ho (by omega) (by rw [List.size_toArray, ← hl]; exact h3) (by omega) (by rw [hk]; exact ⟨_, I', q⟩)
theorem oN (lo hi : Option Int) (n : Nat) : (sliceBounds lo hi none n).1 = ((HT.sIx n 0 lo : Nat) : Int) /\ (sliceBounds lo hi none n).2.1 = ((HT.sIx n n hi : Nat) : Int) /\ (sliceBounds lo hi none n).2.2 = 1 := by
 refine ⟨?_, ?_, rfl⟩
 ·cases lo with
  | none => simp [sliceBounds, HT.sIx]
  | some i =>
   simp only [sliceBounds, HT.sIx, Option.getD_none, show (1 : Int) > 0 by decide, if_true]
   by_cases h : i < 0
   ·simp only [h, if_true] <;> omega
   ·simp only [h, if_false] <;> omega
 ·cases hi with
  | none => simp [sliceBounds, HT.sIx]
  | some i =>
   simp only [sliceBounds, HT.sIx, Option.getD_none, show (1 : Int) > 0 by decide, if_true]
   by_cases h : i < 0
   ·simp only [h, if_true] <;> omega
   ·simp only [h, if_false] <;> omega
theorem nC (its : List Value) (lo hi : Option Int) : slicePick its.toArray lo hi none = ((its.drop (HT.sIx its.length 0 lo)).take (HT.sIx its.length its.length hi - HT.sIx its.length 0 lo)).toArray := by
 obtain ⟨h1, h2, h3⟩ := oN lo hi its.toArray.size
 unfold slicePick
 rw [h1, h2, h3]
 simp only [sliceRange_one, pick_run, List.size_toArray] <;> rfl
def rSlL (K : Frag) : V -> Option Int -> Option Int -> Hp -> VK -> Prop := fun x lo hi H Q => ∃ a xs, x = .ref a /\ SqL K H a xs /\ ∀ p, H p = none -> Q (.ref p) (upd H p (.lst (mP xs lo hi)))
theorem yA : SlR X (rSlL X.K) := by
 intro pins s σ H x v vl vu lo hi sl Q I rx hs pl pu h
 obtain ⟨a, xs, rfl, hx, q⟩ := h
 cases rx
 obtain ⟨its, r, ht, hz⟩ := I.list hx
 have hlen := r.length
 refine ⟨"list", _, slot_list_getitem.lookup, ht.isList.typeIs, ?_⟩
 refine wpAny_getItem_list_slice ht.isList hs pl pu .none (by simp) ?_ (by rw [List.size_toArray] <;> omega)
 rw [nC, ← hlen]
 refine ⟨.ref s.heap.objs.size, _, I.laid (t' := s.toks) (o := .lst (mP xs lo hi)) (fun b ob q => Heap.get?_push_of_some _ q) (Nat.le_refl _) ?_, rfl, q _ (I.hok.fresh (Nat.le_refl _))⟩
 exact ⟨Nat.le_trans (qa xs lo hi) hz, _, 0, (r.drop (HT.sIx xs.length 0 lo)).take (HT.sIx xs.length xs.length hi - HT.sIx xs.length 0 lo), Heap.get?_push_size _ rfl⟩
def fD : V -> Bool
 | .non => true
 | .bl _ => true
 | .int _ => true
 | .str _ => true
 | _ => false
def eqV : V -> V -> Bool
 | .non, .non => true
 | .bl a, .bl b => a == b
 | .bl a, .int b => (if a then 1 else 0) == b
 | .int a, .bl b => a == (if b then 1 else 0)
 | .int a, .int b => a == b
 | .str a, .str b => a == b
 | _, _ => false
theorem AU {A : Around} {s : Shared} {y x : V} {u v : Value} (ry : aN y u) (rx : aN x v) (fy : fD y = true) (fx : fD x = true) : SeqAt.EqAt A s u v (eqV y x) := by
 cases y with
 | non =>
  cases ry
  cases x with
  | non => cases rx; exact SeqAt.EqAt.same _
  | bl b => cases rx; exact SeqAt.EqAt.none_bool b
  | int b => obtain ⟨t, rfl⟩ := rx; exact SeqAt.EqAt.none_int b t
  | str b => obtain ⟨t, rfl⟩ := rx; exact SeqAt.EqAt.none_str b t
  | _ => exact absurd (show false = true from fx) Bool.false_ne_true
 | bl a =>
  cases ry
  cases x with
  | non => cases rx; exact SeqAt.EqAt.bool_none a
  | bl b => cases rx; exact SeqAt.EqAt.bool_bool a b
  | int b => obtain ⟨t, rfl⟩ := rx; exact SeqAt.EqAt.bool_int a b t
  | str b => obtain ⟨t, rfl⟩ := rx; exact SeqAt.EqAt.bool_str a b t
  | _ => exact absurd (show false = true from fx) Bool.false_ne_true
 | int a =>
  obtain ⟨t', rfl⟩ := ry
  cases x with
  | non => cases rx; exact SeqAt.EqAt.int_none a t'
  | bl b => cases rx; exact SeqAt.EqAt.int_bool a t' b
  | int b => obtain ⟨t, rfl⟩ := rx; exact SeqAt.EqAt.int_int a t' b t
  | str b => obtain ⟨t, rfl⟩ := rx; exact SeqAt.EqAt.int_str a t' b t
  | _ => exact absurd (show false = true from fx) Bool.false_ne_true
 | str a =>
  obtain ⟨t', rfl⟩ := ry
  cases x with
  | non => cases rx; exact SeqAt.EqAt.str_none a t'
  | bl b => cases rx; exact SeqAt.EqAt.str_bool a t' b
  | int b => obtain ⟨t, rfl⟩ := rx; exact SeqAt.EqAt.str_int a t' b t
  | str b => obtain ⟨t, rfl⟩ := rx; exact SeqAt.EqAt.str_str a t' b t
  | _ => exact absurd (show false = true from fx) Bool.false_ne_true
 | _ => exact absurd (show false = true from fy) Bool.false_ne_true
def eqU (x : V) (u : Value) : Bool := match u with
 | .none => eqV .non x
 | .bool b => eqV (.bl b) x
 | .int i _ => eqV (.int i) x
 | .str z _ => eqV (.str z) x
 | _ => false
theorem ux {x y : V} {u : Value} (r : aN y u) (f : fD y = true) : eqU x u = eqV y x := by
 cases y with
 | non => cases r; rfl
 | bl b => cases r; rfl
 | int i => obtain ⟨t, rfl⟩ := r; rfl
 | str z => obtain ⟨t, rfl⟩ := r; rfl
 | _ => exact absurd (show false = true from f) Bool.false_ne_true
theorem ir {x : V} : ∀ {xs : List V} {us : List Value}, ar xs us -> xs.all fD = true -> us.any (eqU x) = xs.any fun y => eqV y x
 | _, _, .nil, _ => rfl
 | y :: xs, u :: us, .cons r t, f => by
  rw [List.all_cons, Bool.and_eq_true] at f
  rw [List.any_cons, List.any_cons, ux r f.1, ir t f.2]
theorem gz {A : Around} {s : Shared} {x : V} {v : Value} (rx : aN x v) (fx : fD x = true) : ∀ {xs : List V} {us : List Value}, ar xs us -> xs.all fD = true -> ∀ u ∈ us, SeqAt.EqAt A s u v (eqU x u)
 | _, _, .nil, _ => fun u hu => by cases hu
 | y :: xs, u :: us, .cons r t, f => fun u' hu => by
  rw [List.all_cons, Bool.and_eq_true] at f
  rcases List.mem_cons.mp hu with rfl | hu
  ·rw [ux r f.1]; exact AU r rx f.1 fx
  ·exact gz rx fx t f.2 u' hu
def inV (x : V) (xs : List V) : Bool := xs.any fun y => eqV y x
def rIn (K : Frag) (neg : Bool) : R2 := fun x y H Q => ∃ p xs, y = .ref p /\ (SqL K H p xs \/ SqT K H p xs) /\ fD x = true /\ xs.all fD = true /\ Q (.bl (if neg then !inV x xs else inV x xs)) H
theorem gP : OpR X (compareOp .In) (rIn X.K false) := by
 intro pins s σ H x y v u Q I rx ry h
 obtain ⟨p, xs, rfl, hq, fx, fs, q⟩ := h
 cases ry
 rcases hq with hq | hq
 ·obtain ⟨its, r, pl, hz⟩ := I.list hq
  refine SeqAt.in_listAt (eqU x) pl.isList (fun w hw => gz rx fx r fs w (by simpa using hw)) ⟨.bl _, H, I, rfl, ?_⟩
  rw [show its.toArray.any (eqU x) = its.any (eqU x) by simp, ir r fs]
  exact q
 ·obtain ⟨its, r, pl, hz⟩ := I.tuple hq
  refine SeqAt.in_tupleAt (eqU x) pl (fun w hw => gz rx fx r fs w (by simpa using hw)) ⟨.bl _, H, I, rfl, ?_⟩
  rw [show its.toArray.any (eqU x) = its.any (eqU x) by simp, ir r fs]
  exact q
theorem jq : OpR X (compareOp .NotIn) (rIn X.K true) := by
 intro pins s σ H x y v u Q I rx ry h
 obtain ⟨p, xs, rfl, hq, fx, fs, q⟩ := h
 cases ry
 rcases hq with hq | hq
 ·obtain ⟨its, r, pl, hz⟩ := I.list hq
  refine SeqAt.notIn_listAt (eqU x) pl.isList (fun w hw => gz rx fx r fs w (by simpa using hw)) ⟨.bl _, H, I, rfl, ?_⟩
  rw [show its.toArray.any (eqU x) = its.any (eqU x) by simp, ir r fs]
  exact q
 ·obtain ⟨its, r, pl, hz⟩ := I.tuple hq
  refine SeqAt.notIn_tupleAt (eqU x) pl (fun w hw => gz rx fx r fs w (by simpa using hw)) ⟨.bl _, H, I, rfl, ?_⟩
  rw [show its.toArray.any (eqU x) = its.any (eqU x) by simp, ir r fs]
  exact q
theorem aW : cZ X (.builtin "len") (fun xs H Q => ∃ p ys, xs = [.ref p] /\ (SqL X.K H p ys \/ SqT X.K H p ys) /\ Q (.int ys.length) H) := by
 intro pins s σ H xs us Q I r h
 obtain ⟨p, ys, rfl, hq, q⟩ := h
 obtain ⟨u, rfl, rx⟩ := nX r
 cases rx
 have hn := jv
 rcases hq with hq | hq
 ·obtain ⟨its, r', pl, hz⟩ := I.list hq
  have hlen := r'.length
  exact Calls.call_len_list pl.isList (by simp only [List.size_toArray] <;> omega) ⟨.int ys.length, H, I.tok _, ⟨s.toks + 1, by rw [List.size_toArray, hlen]⟩, q⟩
 ·obtain ⟨its, r', pl, hz⟩ := I.tuple hq
  have hlen := r'.length
  exact len_tuple pl (by simp only [List.size_toArray] <;> omega) ⟨.int ys.length, H, I.tok _, ⟨s.toks + 1, by rw [List.size_toArray, hlen]⟩, q⟩
theorem dD : cZ X (.type "list") (fun xs H Q => ∃ p ys, xs = [.ref p] /\ (SqL X.K H p ys \/ SqT X.K H p ys) /\ ∀ l, H l = none -> Q (.ref l) (upd H l (.lst ys))) := by
 intro pins s σ H xs us Q I r h
 obtain ⟨p, ys, rfl, hq, q⟩ := h
 obtain ⟨u, rfl, rx⟩ := nX r
 cases rx
 have fin : ∀ (its : List Value), ar ys its -> ys.length <= sizeLine -> ∀ (h' : Heap) (c' : Nat), (∀ b o', s.heap.get? b = some o' -> h'.get? b = some o') ->
   h'.get? s.heap.objs.size = some { cls := .type "list", dict := none, data := .seq its.toArray c', slots := #[] } -> EP X pins σ Q (.ref s.heap.objs.size) { s with heap := h' } := fun its r' hz h' c' kp e =>
  ⟨.ref s.heap.objs.size, _, I.laid (t' := s.toks) kp (Nat.le_refl _) (show bf X.prog X.w _ h' _ (.lst ys) from ⟨hz, its, c', r', e⟩), rfl, q _ (I.hok.fresh (Nat.le_refl _))⟩
 rcases hq with hq | hq
 ·obtain ⟨its, r', pl, hz⟩ := I.list hq
  have hlen := r'.length
  obtain ⟨o, ho, hc, n, hd⟩ := pl.isList
  exact call_list_seq p (.inl rfl) ho hc hd (fun h' c' kp e => fin its r' hz h' c' kp e) (by simp only [List.size_toArray] <;> omega)
 ·obtain ⟨its, r', pl, hz⟩ := I.tuple hq
  have hlen := r'.length
  obtain ⟨o, ho, hc, n, hd⟩ := pl
  exact call_list_seq p (.inr rfl) ho hc hd (fun h' c' kp e => fin its r' hz h' c' kp e) (by simp only [List.size_toArray] <;> omega)
variable {o e : Expr} {es : List Expr} {to : TE} {t : TA} {name : Str} {apos cpos : Pos} {T id : String} {r : V -> List V -> Hp -> VK -> Prop}
/- xs.append(e), list.index on a module's tuple .. are MtR facts of 06m -/
end
theorem ar.rep {xs : List V} {us : List Value} (h : ar xs us) : ∀ k : Nat, ar (List.replicate k xs).flatten (List.replicate k us).flatten
 | 0 => .nil
 | k + 1 => by
  rw [List.replicate_succ, List.replicate_succ, List.flatten_cons, List.flatten_cons]
  exact ar.append h (ar.rep h k)
theorem nh (its : List Value) : ∀ (k : Nat) (acc : List Value),
  List.foldl (fun x1 x2 => x1 ++ x2) acc.toArray (List.replicate k its.toArray) = (acc ++ (List.replicate k its).flatten).toArray
 | 0, acc => by simp
 | k + 1, acc => by
  have e : acc.toArray ++ its.toArray = (acc ++ its).toArray := by simp
  have e2 : (acc ++ its) ++ (List.replicate k its).flatten = acc ++ (List.replicate (k + 1) its).flatten := by
   rw [List.replicate_succ, List.flatten_cons, List.append_assoc]
  rw [← e2, ← nh its k (acc ++ its), ← e, List.replicate_succ, List.foldl_cons]
section
variable {X : Cx} {pins : List (Addr × Obj)} {σ : St} {H : Hp} {s : Shared} {l b : Addr} {xs ys zs : List V}
theorem Inv.lset {its its' : List Value} {n : Nat} {f : Array Value -> Array Value} {t' : Nat} (I : Inv X pins σ H s) (hH : H l = some (.lst xs))
  (e : s.heap.get? l = some { cls := .type "list", data := .seq its.toArray n }) (hf : f its.toArray = its'.toArray) (hv : ar ys its') (hz : ys.length <= sizeLine) :
  Inv X pins σ (upd H l (.lst ys)) { s with heap := s.heap.update l (Obj.mapSeq f), toks := t' } := by
 have q := PySem.IsL.update e f
 rw [hf] at q
 refine I.write (x := l) (e := l) (by rw [hH]; exact trivial) (.inl rfl) (fun b' u hb hu => (Heap.get?_update_other s.heap (Obj.mapSeq f) (Ne.symm hb)).trans hu) ⟨_, q⟩ ?_
 exact ⟨hz, its', _, hv, q⟩
theorem Inv.lnew {its : List Value} {t' : Nat} (I : Inv X pins σ H s) (hv : ar ys its) (hz : ys.length <= sizeLine) :
  Inv X pins σ (upd H s.heap.objs.size (.lst ys)) { s with heap := s.heap.push { cls := .type "list", data := .seq its.toArray }, toks := t' } :=
 I.laid (fun _ _ q => Heap.get?_push_of_some _ q) (Nat.le_refl _) ⟨hz, its, 0, hv, Heap.get?_push_size _ rfl⟩
theorem Inv.fresh (I : Inv X pins σ H s) : H s.heap.objs.size = none := I.hok.fresh (Nat.le_refl _)
theorem Inv.lstM (I : Inv X pins σ H s) (hH : H l = some (.lst xs)) : xs.length <= sizeLine /\ ∃ (its : List Value) (n : Nat), ar xs its /\ xs.length = its.length /\ s.heap.get? l = some { cls := .type "list", data := .seq its.toArray n } := by
 obtain ⟨z, its, n, r, e⟩ := I.hok l _ hH
 exact ⟨z, its, n, r, r.length, e⟩
theorem vn {n : Nat} (h : n <= sizeLine) : Builtin.List.listTooLong n = false := by
 unfold Builtin.List.listTooLong
 exact decide_eq_false (by omega)
end
section
variable {X : Cx}
def rCat : R2 := fun x y H Q => ∃ l b xs zs, x = .ref l /\ y = .ref b /\ H l = some (.lst xs) /\ H b = some (.lst zs) /\ xs.length + zs.length <= sizeLine /\ ∀ p, H p = none -> Q (.ref p) (upd H p (.lst (xs ++ zs)))
theorem Az : OpR X (binaryOp .Add) rCat := by
 intro pins s σ H x y v u Q I rx ry h
 obtain ⟨l, b, xs, zs, rfl, rfl, hH, hB, hz, q⟩ := h
 cases rx
 cases ry
 obtain ⟨z, its, n, r, hl, e⟩ := I.lstM hH
 obtain ⟨z2, its2, n2, r2, hl2, e2⟩ := I.lstM hB
 refine PySem.P.add_list e e2 ?_ (by rw [List.size_toArray, List.size_toArray]; omega)
 have ea : its.toArray ++ its2.toArray = (its ++ its2).toArray := by simp
 rw [ea]
 exact ⟨.ref _, _, I.lnew (t' := s.toks) (r.append r2) (by rw [List.length_append]; omega), rfl, q _ I.fresh⟩
def rRep : R2 := fun x y H Q => ∃ l k xs, x = .ref l /\ y = .int k /\ H l = some (.lst xs) /\ -(2 ^ 63) <= k /\ k < 2 ^ 63 /\ xs.length * k.toNat <= sizeLine /\
 ∀ p, H p = none -> Q (.ref p) (upd H p (.lst (List.replicate k.toNat xs).flatten))
theorem zd {α : Type} (xs : List α) (k : Nat) : (List.replicate k xs).flatten.length = k * xs.length := by
 induction k with
 | zero => simp
 | succ k ih => rw [List.replicate_succ, List.flatten_cons, List.length_append, ih, Nat.succ_mul, Nat.add_comm]
theorem Au : OpR X (binaryOp .Mult) rRep := by
 intro pins s σ H x y v u Q I rx ry h
 obtain ⟨l, k, xs, rfl, rfl, hH, h1, h2, hz, q⟩ := h
 cases rx
 obtain ⟨t, rfl⟩ := ry
 obtain ⟨z, its, n, r, hl, e⟩ := I.lstM hH
 have hlen : its.toArray.size * k.toNat <= sizeLine := by rw [List.size_toArray, ← hl]; exact hz
 have hcap : ¬ its.toArray.size * k.toNat > (2 ^ 63 - 1) / 8 := by
  have : (sizeLine : Nat) <= (2 ^ 63 - 1) / 8 := by decide
  omega
 have hfit : ¬ (!Builtin.List.listFitsIndex k) = true := by
  rw [fitsIndex_both h1 h2]
  exact Bool.false_ne_true
 have hlong : ¬ Builtin.List.listTooLong (its.toArray.size * k.toNat) = true := by
  rw [vn hlen]
  exact Bool.false_ne_true
 have hnew : List.foldl (fun x1 x2 => x1 ++ x2) #[] (List.replicate (if its.toArray.isEmpty = true then 0 else k.toNat) its.toArray) = (List.replicate k.toNat its).flatten.toArray := by
  have f0 : ∀ m : Nat, List.foldl (fun x1 x2 => x1 ++ x2) #[] (List.replicate m its.toArray) = (List.replicate m its).flatten.toArray := fun m => by
   have := nh its m []
   rw [List.nil_append] at this
   exact this
  rw [f0]
  cases its with
  | nil => simp
  | cons a r' => rw [if_neg (by simp)]
 refine wpAny_binaryOp_repeat_ref (T := "list") (U := "int") (by decide) ⟨_, e, rfl⟩ (fun s' => typeIs_int s' k t) noFill_list_mul F.fills_int_mul F.slot_int_rmul repeat_list F.slot_int_index.lookup
  (call_meets F.slot_int_rmul (typeIs_int s k t) F.entry_int_rmul (F.args_int_rmul_2 _ _) (int___rmul___int_list k t l its.toArray n)
   ⟨e, rfl, ⟨_, e, rfl⟩, call_meets F.slot_list_mul ⟨_, e, rfl⟩ F.entry_list_mul (F.args_list_mul_2 _ _) (AutoListH.list___mul___list_int_3 l its.toArray n k t hfit hcap hlong) ⟨e, ?_⟩⟩)
 rw [hnew]
 exact ⟨.ref _, _, I.lnew (t' := s.toks) (r.rep k.toNat) (by rw [zd, Nat.mul_comm]; exact hz), rfl, q _ I.fresh⟩
end
section
variable {prog : Program} {w : World} {A : Around} {E : Value -> Shared -> Prop} {s : Shared}
end
section
variable {X : Cx}
end
end L2
namespace Att
open PySem PySem.W PySem.Calls PyProof.Rows
theorem lH {P : Params} {h : Heap} : ∀ (ns : List Int) (vs : List Value), WellAll P h vs (ns.map WData.int) -> IntsAre vs ns := by
 intro ns
 induction ns with
 | nil =>
  intro vs w
  rw [List.map_nil] at w
  cases w
  exact .nil
 | cons n ns ih =>
  intro vs w
  rw [List.map_cons] at w
  cases w with
  | cons a b =>
   cases a
   exact .cons _ _ (ih _ b)
theorem tJ {l : OpenLaw} {n : Nat} (hn : l.most = some n) {P : Params} {h : Heap} {args : List WData} {vals : List Value}
  (hpre : l.row.toRowW.claim.pre args = true) (hwl : WellAll P h vals args) :
  ∃ a vs ns, vals = [Value.ref a] /\ args = [WData.list (ns.map WData.int)] /\ h.get? a = some { cls := .type "list", data := .seq vs.toArray } /\ IntsAre vs ns /\ ns.length <= n := by
 have hsh : WShape.hasAll [] args [.list .int] = true := (pre_splitW hpre).1
 have hc : l.pre.holds [] { args := args } = true := (pre_splitW hpre).2
 obtain ⟨d, r, rfl, h1, h2⟩ := hasAllW_cons hsh
 obtain rfl := hasAllW_nil h2
 obtain ⟨xs, rfl, h3⟩ := hasW_list h1
 obtain ⟨ns, rfl⟩ := items_int h3
 have hlen : ns.length <= n := by
  unfold OpenLaw.pre at hc
  have h4 : (WTm.not (.lt (.lit (.int (n : Int))) (.len (.arg 0)))).holds [] { args := [.list (ns.map .int)] } = true := by
   have h4 := (holds_andW hc).1
   rw [hn] at h4
   exact h4
  have h5 := condW_of h4 (w_not (w_lt w_lit (w_len_list (w_arg rfl))))
  rw [List.length_map] at h5
  refine Nat.le_of_not_lt fun q => ?_
  have q' : (n : Int) < ((ns.length : Nat) : Int) := by omega
  first
   | (rw [decide_eq_true q'] at h5; exact absurd h5 (by decide))
   | (simp at h5; omega)
 cases hwl with
 | cons w1 w2 =>
  cases w2
  cases w1 with
  | list ho hall => exact ⟨_, _, ns, rfl, rfl, ho, lH ns _ hall, hlen⟩
theorem tW (l : OpenLaw) (args : List WData) : l.row.toRowW.claim.post args (.bool true) args = true :=
 postW_of (r := l.row.toRowW) (X := (true == true))
  (show WShape.has [] (.bool true) .bool = true by first | rfl | decide | simp [WShape.has, WShape.arms, WShape.armsAll])
  (show (WTm.eq .res (.lit (.bool true))).value [] { args := args, res := some (.bool true), after := args } = some (.bool (true == true)) from w_eq_bool (w_res rfl) w_lit) rfl
theorem attach_call {l : OpenLaw} {n : Nat} {q : Program} {loose : List Str} {XP : (Str -> Option Value) -> Heap -> Prop} {YP : World -> Heap -> Prop} {d : DefRec}
  (hn : l.most = some n) (hdf : d.params.defaults = [])
  (call : ∀ (w : World) (s₀ s₁ : Shared) (mg mb : Str -> Option Value) (fa : Addr) (o : Obj) (pm cd doc : Value) (a : Addr) (vs : List Value) (ns : List Int),
   Ground q loose [] XP w s₀ mg mb s₁.heap -> YP w s₁.heap ->
   s₁.heap.get? fa = some o -> o.data = .func (docDef d.name d.params d.body d.scope pm cd doc) -> s₁.heap.CodeRec cd d.name -> mg d.name = some (.ref fa) ->
   s₁.heap.get? a = some { cls := .type "list", data := .seq vs.toArray } -> IntsAre vs ns -> ns.length <= n -> s₁.gens = #[] ->
   codeAny (model l.prog w) callerA (.call (.ref fa) ⟨[.ref a], []⟩) (fun r s' => r = .ok (.ret (.bool true)) /\ OldK s₁.heap s'.heap /\ s'.os = s₁.os /\ AllBare s'.gens) s₁) :
  WalkO q loose XP YP l.row.toRowW d [] (fun f vs => PySem.call f vs) := by
 intro w s₀ s₁ mg mb G Y fa o pm cd doc dV kV ho hd hcd hD hmg hg args vals as hpre hlay hrd hwl hlo
 obtain rfl : dV = .none := Dflts.none hD hdf
 obtain rfl : kV = .none := Dflts.noKw hD
 obtain ⟨a, vs, ns, rfl, rfl, hobj, hints, hlen⟩ := tJ hn hpre hwl
 refine enter_call (codeAny_mono (call w s₀ s₁ mg mb fa o pm cd doc a vs ns G Y ho (fd_plain hd) hcd hmg hobj hints hlen hg) fun r s' hq => ?_)
 obtain ⟨rfl, h2, h3, h4⟩ := hq
 exact ⟨.inl ⟨.bool true, .bool true, [], rfl, fun _ => rfl, .bool true, tW l _, fun _ => ⟨List.Pairwise.nil, fun _ hm => (nomatch hm)⟩⟩, h2, h3, h4⟩
section
variable {prog : Program} {w : World} {A : Around} {E : Value -> Shared -> Prop} {s : Shared} {K : Frag}
end
end Att
namespace L2
open PySem PySem.Spec PyProof.Rows
theorem mU : ∀ {vs : List Value} {ns : List Int}, IntsAre vs ns -> ar (ns.map V.int) vs
 | _, _, .nil => .nil
 | _, _, .cons n t h => .cons ⟨t, rfl⟩ (mU h)
def xA (H : Hp) : Prop := ∀ b, H b = none \/ ∃ o xs, H b = some (.frz o (.lst xs))
theorem vA {P : Program} {w : World} {K : Frag} {mg mb : Str -> Option Value} {CX : CXT} {k : Nat} {fa a : Addr} {fd : FuncData} {x : Str} {sp : Sp} {s₁ : Shared} {vs : List Value} {ns : List Int}
  (KX : K.In s₁.heap) (hns : s₁.heap.Ns mainGlobals mg) (hb : s₁.heap.Ns builtinsNs mb) (hbb : ∀ x : Str, x ≠ "__name__" -> mb x = bootBuiltins x) (hlim : s₁.heap.NoLimit) (hg : s₁.gens = #[])
  (ha : s₁.heap.get? a = some { cls := .type "list", data := .seq vs.toArray }) (hi : IntsAre vs ns) (hl : ns.length <= sizeLine) (hr : Room k callerA)
  (F : ∀ base : Heap, K.In base -> base.Ns mainGlobals mg -> FnOk P w K mg base CX k fa fd [x] sp) (hbind : ∀ (s : Shared) (u : Value), BindsTo s fd ⟨[u], []⟩ [(x, u)])
  (hsp : ∀ H : Hp, xA H -> SqL K H a (ns.map V.int) -> sp [.ref a] H (fun v _ => v = .bl true) fun _ _ _ => False)
  (hCX : ∀ H e s', CX [] H s₁ (fun _ _ _ => False) e s' -> False) :
  codeAny (model P w) callerA (.call (.ref fa) ⟨[.ref a], []⟩) (fun r s' => r = .ok (.ret (.bool true)) /\ OldK s₁.heap s'.heap /\ s'.os = s₁.os /\ AllBare s'.gens) s₁ := by
 have rv := mU hi
 have lenV := hi.length
 -- from an abstract heap in which nothing but the script may be tracked
 have core : ∀ H : Hp, xA H -> SqL K H a (ns.map V.int) -> HOk P w H s₁.heap -> (∀ b, H b ≠ none -> b = a) -> (H a ≠ none -> K.lookup a = none) ->
   codeAny (model P w) callerA (.call (.ref fa) ⟨[.ref a], []⟩) (fun r s' => r = .ok (.ret (.bool true)) /\ OldK s₁.heap s'.heap /\ s'.os = s₁.os /\ AllBare s'.gens) s₁ := by
  intro H hO hS hok hA hK
  have base_of : ∀ {b : Addr} {o : Obj}, s₁.heap.get? b = some o -> H b = none -> (iK s₁.heap H).get? b = some o := fun e n => vG e n
  have noA : ∀ {b : Addr} {o : Obj} {es : Array DictEntry} {ep : Nat}, s₁.heap.get? b = some o -> o.data = .dict es ep -> H b = none := fun {b o es ep} e d => by
   cases q : H b with
   | none => rfl
   | some u =>
    have e' : b = a := hA b (by rw [q]; simp)
    subst e'
    rw [ha] at e; cases e
    have d' : Data.seq vs.toArray _ = Data.dict es ep := d
    cases d'
  have nsK : ∀ {b : Addr} {m : Str -> Option Value}, s₁.heap.Ns b m -> (iK s₁.heap H).Ns b m := fun {b m} ⟨o, es, ep, e, d, r⟩ => ⟨o, es, ep, base_of e (noA e d), d, r⟩
  have hKb : K.In (iK s₁.heap H) := fun b o e => base_of (KX b o e) (by
   cases q : H b with
   | none => rfl
   | some u =>
    have e' : b = a := hA b (by rw [q]; simp)
    subst e'
    rw [hK (by rw [q]; simp)] at e; cases e)
  have hM : Mod K mg (iK s₁.heap H) := ⟨hKb, nsK hns, ⟨mb, nsK hb, hbb⟩, let ⟨mc, h1, h2⟩ := hlim; ⟨mc, nsK h1, h2⟩⟩
  have e0 : Env0 P w K mg (iK s₁.heap H) callerA [] s₁ H := ⟨rfl, hM, fun b o e => yZ e, Nat.le_of_eq (uo _ _), trivial, fun b hb => absurd (show b ∈ ([] : List Addr) from hb) (by simp), hok, .of_eq hg⟩
  refine codeAny_mono ((F _ hKb (nsK hns)).run callerA [] s₁ H ⟨[.ref a], []⟩ [.ref a] [.ref a] _ _ hr e0 (hbind s₁ (.ref a)) (.cons rfl .nil) (hsp H hO hS)) fun r s' h => ?_
  cases r with
  | error e => exact (hCX H e s' h).elim
  | ok fl =>
   cases fl with
   | next => exact False.elim h
   | brk => exact False.elim h
   | cont => exact False.elim h
   | ret u =>
    obtain ⟨v, H', os, bare, un, hok', r', q⟩ := h
    have q' : v = .bl true := q
    subst q'
    obtain rfl : u = Value.bool true := r'
    refine ⟨rfl, OldK.of_keep fun b o e => ?_, os, bare⟩
    cases q : H b with
    | none => exact un.keep b o e q (by intro z; exact absurd (show b ∈ ([] : List Addr) from z) (by simp)) (by simp)
    | some u =>
     rcases hO b with z | ⟨ob, xs, z⟩
     ·rw [q] at z; cases z
     ·have z2 := un.frzs b ob _ z
      obtain ⟨e1, _⟩ := hok b _ z
      obtain ⟨e2, _⟩ := hok' b _ z2
      rw [e] at e1; cases e1
      exact e2
 cases hk : K.lookup a with
 | some o =>
  -- the script is one of the module's own objects
  have e := KX a o hk
  rw [ha] at e
  cases e
  refine core (fun _ => none) (fun _ => .inl rfl) (.inr ⟨_, vs.toArray, _, hk, rfl, rfl, rfl, by rw [List.size_toArray, lenV]; exact hl, by simpa using rv⟩) (fun b u z => by have z' : (none : Option HO) = some u := z; cases z') (fun b z => absurd rfl z) fun z => absurd rfl z
 | none =>
  refine core (fun b => if b = a then some (.frz { cls := .type "list", data := .seq vs.toArray } (.lst (ns.map V.int))) else none) (fun b => ?_) (.inl (.inr ⟨{ cls := .type "list", data := .seq vs.toArray }, if_pos rfl⟩)) (fun b u z => ?_) (fun b z => ?_) fun _ => hk
  ·by_cases hb : b = a
   ·exact .inr ⟨_, _, if_pos hb⟩
   ·exact .inl (if_neg hb)
  ·by_cases hb : b = a
   ·have z' := (if_pos hb).symm.trans z
    cases z'
    subst hb
    exact ⟨ha, by rw [List.length_map]; exact hl, vs, _, rv, ha⟩
   ·have z' := (if_neg hb).symm.trans z
    cases z'
  ·by_cases hb : b = a
   ·exact hb
   ·exact absurd (if_neg hb) z
theorem walk_of {l : PySem.W.OpenLaw} {n k : Nat} {q : Program} {loose : List Str} {XP : (Str -> Option Value) -> Heap -> Prop} {YP : World -> Heap -> Prop} {d : DefRec} {K : Params -> Frag} {CX : World -> CXT} {sp : World -> Sp} {x : Str}
  (hn : l.most = some n) (hn2 : n <= sizeLine) (hdf : d.params.defaults = []) (hr : Room k callerA)
  (hY : ∀ (w : World) (h : Heap), YP w h -> (K w.params).In h)
  (F : ∀ (w : World) (mg : Str -> Option Value) (fa : Addr) (h : Heap), (K w.params).In h -> h.Ns mainGlobals mg -> mg d.name = some (.ref fa) ->
   ∃ fd : FuncData, (∀ (s : Shared) (u : Value), BindsTo s fd ⟨[u], []⟩ [(x, u)]) /\
    ∀ base : Heap, (K w.params).In base -> base.Ns mainGlobals mg -> FnOk l.prog w (K w.params) mg base (CX w) k fa fd [x] (sp w))
  (hsp : ∀ (w : World) (H : Hp) (a : Addr) (ns : List Int), ns.length <= n -> xA H -> SqL (K w.params) H a (ns.map V.int) -> sp w [.ref a] H (fun v _ => v = .bl true) fun _ _ _ => False)
  (hCX : ∀ (w : World) (H : Hp) (s : Shared) (e : Value) (s' : Shared), CX w [] H s (fun _ _ _ => False) e s' -> False) :
  PySem.W.WalkO q loose XP YP l.row.toRowW d [] (fun f vs => PySem.call f vs) := by
 refine Att.attach_call hn hdf fun w s₀ s₁ mg mb fa o pm cd doc a vs ns G Y ho hd hcd hmg hobj hints hlen hg => ?_
 have KX := hY w _ Y
 obtain ⟨fd, hb, hF⟩ := F w mg fa _ KX G.T.g hmg
 exact vA KX G.T.g G.T.b G.T.builtins G.T.nolimit hg hobj hints (Nat.le_trans hlen hn2) hr hF hb (fun H hO hS => hsp w H a ns hlen hO hS) fun H e s' => hCX w H s₁ e s'
end L2
/- THE LAST THEOREM (shape; LID, My.* are yours):
  My.Adr: a structure of the addresses that your layer names (classes, functions); My.Txt K t: a structure (Prop) of the equations over K;
  My.txt_mk : {K} {implicit addresses ..} (e1 : nsIn K mainGlobals "law" = some (some (.ref f))) (e2 : K.lookup f = some ⟨oc, od, .func (fnOf "law" "law" params body scope dV kV doc pm an cdv ct), sl⟩) (e3 : codeIn K cdv "law" = true) .. : ∃ t, My.Txt K t
set_option maxRecDepth 100000 in
set_option maxHeartbeats 0 in
theorem PySem.Challenge.cw_LID_holds : PySem.Challenge.rw_LID.Holds := by
 w_on; o_law; k_head; (case hw => w_witness2)
 k_fill
 refine L2.walk_of (l := PySem.Challenge.rw_LID) (n := 63) (k := 40) (x := "script") (CX := fun w => ..) (sp := fun _ => My.sp_law) rfl (by decide) rfl ⟨rfl, by decide, by decide⟩ (fun w h Y => PySem.W.kIn_of Y) ?F ?S ?C
 case F =>
  intro w mg fa h KX G hmg
  have T : ∃ t, My.Txt (L2.KOf KX) t := by
   dsimp only [L2.KOf]                          -- K must stand as «<heap const> w.params» for k_is
   refine' My.txt_mk ?e1 ?e2 ?e3 ..
   (case e1 => PySem.W.k_is)                    -- in the order: a name -> its address -> its object -> its parts
   (case e2 => PySem.W.k_is)
   ..
  obtain ⟨t, T⟩ := T
  have e0 := hmg.symm.trans (PySem.W.mg_of KX G T.law)
  cases e0                                       -- fa is the law's own address
  exact ⟨_, fun s u => .of_eq rfl, fun base kb nb => My.law_fn T kb nb⟩     -- if «.of_eq rfl» comes too early: refine' ⟨_, ?b, fun base kb nb => My.law_fn T kb nb⟩; exact fun s u => .of_eq rfl
 case S => exact fun w H a ns hl hO hS => ..
 case C => exact ..
(the tactic k_is has no namespace: write k_is) -/
namespace L2
open PySem PySem.Spec PyProof.Rows
def ay (s : Stmt) (j : Nat) : Stmt := match s with
 | .ClassDef _ _ _ body _ _ _ _ _ _ _ => body.getD j (.Pass ⟨0, 0, 0, 0⟩)
 | _ => .Pass ⟨0, 0, 0, 0⟩
def gm (s : Stmt) : Arguments := match s with
 | .FunctionDef _ a _ _ _ _ _ _ _ _ => a
 | _ => { posonlyargs := [], args := [], vararg := none, kwonlyargs := [], kw_defaults := [], kwarg := none, defaults := [] }
def cg (s : Stmt) : List Stmt := match s with
 | .FunctionDef _ _ b _ _ _ _ _ _ _ => b
 | _ => []
def aj (s : Stmt) : Scope := match s with
 | .FunctionDef _ _ _ _ _ _ sc _ _ _ => sc
 | _ => { kind := .function, names := [], isGenerator := false, isCoroutine := false }
abbrev E0 : St -> XK := fun _ _ _ _ => False
structure Fun (K : Frag) (x qual : Str) (st : Stmt) (f : Addr) (fd : FuncData) : Prop where
 ex : ∃ (oc : Value) (od : Option Addr) (kV doc pm : Value) (an : Option Addr) (cdv ct : Value) (osl : Array (Option Value)),
  fd = PySem.W.fnOf x qual (gm st) (cg st) (aj st) .none kV doc pm an cdv ct /\ K.lookup f = some ⟨oc, od, .func fd, osl⟩ /\ PySem.W.codeIn K cdv qual = true
 kp : PySem.W.keepIn K (.ref f) = true
section
variable {P : Program} {w : World} {K : Frag} {mg : Str -> Option Value} {base : Heap}
end
theorem mY {n : Nat} (h : n <= 1000) : n < sizeLine := Nat.lt_of_le_of_lt h (by decide)
section
variable {X : Cx}
theorem pv (i : Nat) {x : Str} {pos : Pos} (hN : X.N[i]? = some x := by rfl) (hv : Vis X.env.scope x := by first | exact Or.inl rfl | exact Or.inr (Or.inl rfl) | exact Or.inr (Or.inr rfl)) (hd : (x == ("__debug__" : Str)) = false := by decide)
  (hcd : (x == ("__classdict__" : Str)) = false := by decide) : PE X (.Name x pos) (oG i) := An hN hv hd hcd
end
theorem iteT {A B : Prop} (h : A) : if true = true then A else B := by
 rw [if_pos rfl]
 exact h
theorem ite2 {c A B : Prop} [Decidable c] (h1 : c -> A) (h2 : ¬ c -> B) : if c then A else B := by
 by_cases h : c
 ·rw [if_pos h]
  exact h1 h
 ·rw [if_neg h]
  exact h2 h
def bF (H H' : Hp) : Prop := ∀ b o, H b = some o -> H' b = some o
theorem bF.refl (H : Hp) : bF H H := fun _ _ h => h
theorem bF.trans {H H1 H2 : Hp} (a : bF H H1) (b : bF H1 H2) : bF H H2 := fun c o h => b c o (a c o h)
theorem bF.free {H H' : Hp} (e : bF H H') {l : Addr} (h : H' l = Option.none) : H l = Option.none := by
 cases q : H l with
 | none => rfl
 | some o =>
  rw [e l o q] at h
  cases h
theorem cu : ∀ (names : List (Str × NameKind)) (n : Nat) (acc : List (Str × Addr)), cellsFrom n names acc = cellsFrom n names [] ++ acc
 | [], _, _ => rfl
 | (x, k) :: r, n, acc => by
  unfold cellsFrom
  split
  ·rw [cu r (n + 1) ((x, n) :: acc), cu r (n + 1) [(x, n)], List.append_assoc]
   rfl
  ·exact cu r n acc
theorem fS : ∀ {names : List (Str × NameKind)} {n : Nat} {x : Str} {c : Addr}, (x, c) ∈ cellsFrom n names [] -> (x, NameKind.cell) ∈ names
 | [], _, _, _, h => by cases h
 | (y, k) :: r, n, x, c, h => by
  unfold cellsFrom at h
  split at h
  ·rename_i hk
   rw [cu] at h
   rcases List.mem_append.mp h with h | h
   ·exact List.mem_cons_of_mem _ (fS h)
   ·obtain ⟨rfl, _⟩ : x = y /\ c = n := by simpa using h
    obtain rfl : k = .cell := by simpa using hk
    exact List.mem_cons_self
  ·exact List.mem_cons_of_mem _ (fS h)
def cq (cells : List (Str × Addr)) : List (Str × NameKind) -> List (Str × Addr) -> List (Str × Addr)
 | [], acc => acc
 | (x, k) :: r, acc => if k == .free then cq cells r ((x, (cells.lookup x).getD 0) :: acc) else cq cells r acc
theorem mem_cloF {cells : List (Str × Addr)} : ∀ {names : List (Str × NameKind)} {acc : List (Str × Addr)} {x : Str} {c : Addr}, (x, c) ∈ cq cells names acc -> (x, c) ∈ acc \/ ((x, NameKind.free) ∈ names /\ c = (cells.lookup x).getD 0)
 | [], _, _, _, h => .inl h
 | (y, k) :: r, acc, x, c, h => by
  unfold cq at h
  split at h
  ·rename_i hk
   obtain rfl : k = .free := by simpa using hk
   rcases mem_cloF h with h | ⟨h, e⟩
   ·rcases List.mem_cons.mp h with h | h
    ·cases h
     exact .inr ⟨List.mem_cons_self, rfl⟩
    ·exact .inl h
   ·exact .inr ⟨List.mem_cons_of_mem _ h, e⟩
  ·rcases mem_cloF h with h | ⟨h, e⟩
   ·exact .inl h
   ·exact .inr ⟨List.mem_cons_of_mem _ h, e⟩
theorem kD {cells : List (Str × Addr)} : ∀ {names : List (Str × NameKind)} {acc : List (Str × Addr)} {p : Str × Addr}, p ∈ acc -> p ∈ cq cells names acc
 | [], _, _, h => h
 | (y, k) :: r, acc, p, h => by
  unfold cq
  split
  ·exact kD (List.mem_cons_of_mem _ h)
  ·exact kD h
theorem kC {cells : List (Str × Addr)} : ∀ {names : List (Str × NameKind)} {acc : List (Str × Addr)} {x : Str}, (x, NameKind.free) ∈ names -> (x, (cells.lookup x).getD 0) ∈ cq cells names acc
 | [], _, _, h => by cases h
 | (y, k) :: r, acc, x, h => by
  unfold cq
  rcases List.mem_cons.mp h with h | h
  ·cases h
   rw [if_pos (by decide)]
   exact kD List.mem_cons_self
  ·split
   ·exact kC h
   ·exact kC h
theorem i6 {α : Type} : ∀ {l : List (Str × α)} {x : Str} {c : α}, (x, c) ∈ l -> ∃ d, l.lookup x = some d
 | [], _, _, h => by cases h
 | (y, d) :: r, x, c, h => by
  rw [List.lookup_cons]
  cases hb : x == y with
  | true => exact ⟨d, rfl⟩
  | false =>
   rcases List.mem_cons.mp h with h | h
   ·cases h
    simp at hb
   ·exact i6 h
theorem cj {α : Type} : ∀ {l : List (Str × α)} {x : Str} {c : α}, (l.map (·.1)).Nodup -> (x, c) ∈ l -> l.lookup x = some c
 | [], _, _, _, h => by cases h
 | (y, d) :: r, x, c, nd, h => by
  rw [List.map_cons] at nd
  obtain ⟨n1, n2⟩ := List.nodup_cons.mp nd
  rw [List.lookup_cons]
  rcases List.mem_cons.mp h with h | h
  ·cases h
   simp
  ·have : x ≠ y := fun e => n1 (e ▸ List.mem_map_of_mem (f := (·.1)) h)
   rw [beq_eq_false_iff_ne.mpr this]
   exact cj n2 h
theorem mR {env : Env} (f : Str × NameKind -> List (Str × Addr) -> Sem (ForInStep (List (Str × Addr))))
  (hf : ∀ name kind cs, f (name, kind) cs = if kind == .free then (do let a ← cellOf env name; pure (.yield ((name, a) :: cs))) else pure (.yield cs)) :
  ∀ (names : List (Str × NameKind)) (acc : List (Str × Addr)), (∀ y ∈ names, y.2 = .free -> ∃ c, env.cells.lookup y.1 = some c) -> forIn names acc f = pure (cq env.cells names acc)
 | [], _, _ => by rw [List.forIn_nil]; rfl
 | (x, k) :: r, acc, h => by
  rw [List.forIn_cons, hf]
  unfold cq
  have hr : ∀ y ∈ r, y.2 = .free -> ∃ c, env.cells.lookup y.1 = some c := fun y hy => h y (List.mem_cons_of_mem _ hy)
  by_cases hk : (k == NameKind.free) = true
  ·rw [if_pos hk, if_pos hk]
   obtain ⟨c, hc⟩ := h (x, k) List.mem_cons_self (by simpa using hk)
   have hc' : env.cells.lookup x = some c := hc
   have e : cellOf env x = pure c := by unfold cellOf; rw [hc']
   rw [e, hc']
   simp only [pure_bind]
   exact mR f hf r _ hr
  ·rw [if_neg hk, if_neg hk]
   simp only [pure_bind]
   exact mR f hf r _ hr
theorem rR {scope : Scope} {env : Env} (h : ∀ y ∈ scope.names, y.2 = .free -> ∃ c, env.cells.lookup y.1 = some c) : closureFor scope env = pure (cq env.cells scope.names []) := by
 simp only [closureFor]
 rw [mR (env := env) _ (fun name kind cs => by cases hk : kind == NameKind.free <;> simp [hk]) scope.names [] h]
 rfl
theorem vS {M : Model} {A : Around} {E : Value -> Shared -> Prop} {s : Shared} {scope : Scope} {globals : Addr} {cl : List (Str × Addr)} {qual : Str} {env : Env} {Q : Env -> Shared -> Prop}
  (hQ : ∀ h' : Heap, h'.Ns s.heap.objs.size (fun _ => none) -> (∀ b o, s.heap.get? b = some o -> h'.get? b = some o) ->
   (∀ n c, (n, c) ∈ cellsFrom (s.heap.objs.size + 1) scope.names [] -> h'.IsCell c none /\ s.heap.objs.size + 1 <= c) ->
   ((cellsFrom (s.heap.objs.size + 1) scope.names []).Pairwise fun x y => x.2 ≠ y.2) ->
   Q (newEnv scope s.heap.objs.size globals (cellsFrom (s.heap.objs.size + 1) scope.names cl) qual none .none (some env) builtinsNs) { s with heap := h' }) :
  wpAny M A (newFunctionEnv scope globals cl [] qual none .none (some env)) Q E s := by
 simp only [newFunctionEnv, Option.isSome_some, if_true]
 refine wpAny_bind (wpAny_alloc ?_)
 refine wpAny_bind (wpAny_layCells _ (fun name kind cells => by cases hkc : kind == NameKind.cell <;> simp [hkc]) _ _ _ _ ?_)
 have ok := cellsFrom_ok scope.names (s.heap.push { cls := .type "dict", data := .dict #[] }) (s.heap.objs.size + 1) [] ⟨fun _ _ hm => (nomatch hm), List.Pairwise.nil⟩ (by rw [Heap.size_push]; exact Nat.le_refl _)
 rw [Heap.size_push] at ok
 rw [show ({ s with heap := s.heap.push { cls := .type "dict", data := .dict #[] } } : Shared).heap.objs.size = s.heap.objs.size + 1 from Heap.size_push ..]
 have fin := hQ (pushCells (s.heap.push { cls := .type "dict", data := .dict #[] }) scope.names) ((Heap.Ns.new s.heap (.type "dict")).keeps (pushCells_keeps _ _)) (fun b o e => pushCells_keeps _ _ b o (Heap.get?_push_of_some _ e)) ok.empty ok.apart
 exact wpAny_bind (wpAny_pure (wpAny_pure fin))
abbrev bw (X : Cx) (Nc : List Str) (scope : Scope) (cl : List (Str × Addr)) (C : Addr) (fp : List Addr) (s : Shared) (H : Hp) : Cx :=
 { X with N := Nc, s₀ := s, H₀ := H, env := compEnvC scope cl C X.env, outer := X.stack, stack := X.stack, ex := fp, fn := fun x => scope.names.lookup x != some .free, pn := [], xe := fun _ _ => False }
theorem mem_relabel {scope : Scope} {env : Env} {y : Str × NameKind} (h : y ∈ (relabel scope env).names) : y ∈ scope.names \/ (y.2 = .cell /\ (y.1, NameKind.free) ∈ scope.names) := by
 obtain ⟨⟨n, k⟩, hm, e⟩ := List.mem_map.mp h
 dsimp only at e
 split at e
 ·rename_i hk
  cases e
  simp only [Bool.and_eq_true, beq_iff_eq] at hk
  obtain ⟨⟨hk, _⟩, _⟩ := hk
  subst hk
  exact .inr ⟨rfl, hm⟩
 ·cases e
  exact .inl hm
theorem vE {X : Cx} {pins : List (Addr × Obj)} {σ : St} {H : Hp} {s : Shared} {Nc vars : List Str} {caps : List Nat} {scope : Scope} {fp : List Addr} {h' : Heap} (I : Inv X pins σ H s)
  (hk : scope.kind = .function) (hnd : (scope.names.map (·.1)).Nodup) (hfree : ∀ y ∈ scope.names, y.2 = .free -> X.env.kindOf y.1 = some .cell \/ X.env.kindOf y.1 = some .free)
  (hNc : Nc = vars ++ caps.map (fun j => X.N.getD j Str.empty)) (hcap : ∀ j ∈ caps, j < X.N.length /\ scope.names.lookup (X.N.getD j Str.empty) = some .free)
  (hfp : ∀ b ∈ fp, dP X pins H b) (hfo : ∀ b ∈ fp, ∃ o, s.heap.get? b = some o) (ns : h'.Ns s.heap.objs.size fun _ => none) (keep : ∀ b o, s.heap.get? b = some o -> h'.get? b = some o)
  (ce : ∀ n c, (n, c) ∈ cellsFrom (s.heap.objs.size + 1) scope.names [] -> h'.IsCell c none /\ s.heap.objs.size + 1 <= c) (ca : (cellsFrom (s.heap.objs.size + 1) scope.names []).Pairwise fun x y => x.2 ≠ y.2) :
  Inv (bw X Nc scope (cellsFrom (s.heap.objs.size + 1) scope.names (cq X.env.cells scope.names [])) s.heap.objs.size fp s H) [] (List.replicate vars.length none ++ caps.map (fun j => σ.getD j none)) H { s with heap := h' } := by
 -- the cells
 have old : ∀ {x : Str} {c : Addr}, (x, c) ∈ cq X.env.cells scope.names [] -> X.env.cells.lookup x = some c /\ (x, NameKind.free) ∈ scope.names := fun {x c} h => by
  rcases mem_cloF h with h | ⟨hm, e⟩
  ·cases h
  ·obtain ⟨d, hd⟩ := I.ok.has x (hfree _ hm rfl)
   rw [hd] at e
   exact ⟨by rw [hd, e]; rfl, hm⟩
 have cases2 : ∀ {x : Str} {c : Addr}, (cellsFrom (s.heap.objs.size + 1) scope.names (cq X.env.cells scope.names [])).lookup x = some c ->
   (x, c) ∈ cellsFrom (s.heap.objs.size + 1) scope.names [] \/ (X.env.cells.lookup x = some c /\ (x, NameKind.free) ∈ scope.names) := fun {x c} h => by
  have h := PySem.mem_of_lookup h
  rw [cu] at h
  rcases List.mem_append.mp h with h | h
  ·exact .inl h
  ·exact .inr (old h)
 have freeC : ∀ {x : Str}, (x, NameKind.free) ∈ scope.names -> ∃ c, X.env.cells.lookup x = some c /\ (cellsFrom (s.heap.objs.size + 1) scope.names (cq X.env.cells scope.names [])).lookup x = some c := fun {x} hm => by
  obtain ⟨d, hd⟩ := I.ok.has x (hfree _ hm rfl)
  have e := kC (cells := X.env.cells) (acc := []) hm
  obtain ⟨c, hc⟩ := i6 (l := cellsFrom (s.heap.objs.size + 1) scope.names (cq X.env.cells scope.names [])) (x := x) (c := (X.env.cells.lookup x).getD 0) (by rw [cu]; exact List.mem_append_right _ e)
  rcases cases2 hc with z | ⟨z, _⟩
  ·have z1 := cj hnd (fS z)
   rw [cj hnd hm] at z1
   cases z1
  ·exact ⟨c, z, hc⟩
 have oldlt : ∀ {x : Str} {c : Addr}, X.env.cells.lookup x = some c -> c < s.heap.objs.size := fun {x c} h => let ⟨v, q⟩ := I.cell x c h; q.lt
 have nofr : H s.heap.objs.size = none := I.hok.fresh (Nat.le_refl _)
 have fsub : ∀ b ∈ frs X.stack, b ∈ X.env.locals :: X.fs := I.stkSub
 refine ⟨⟨I.ok.mod, hk, I.ok.glob, I.ok.blt, Nat.le_refl _, fun x y c h1 h2 => ?_, fun x hx => ?_, fun x c hf h => ?_, I.ok.hd, I.ok.frames, .inl rfl, fun b hb => ⟨?_, fun x c h e => ?_⟩, I.bs, Nat.le_trans I.ok.bsz I.sz, fun b o e hb => ?_, fun b hb hf => ?_, I.stack, I.stkFree⟩,
  rfl, I.bare, Un.kept keep, ⟨_, ns, fun i x v e1 e2 e3 => ?_⟩, fun x c h => ?_, nofr, fun x c h => ?_, fun p hp => absurd hp (by simp), I.hok.kept keep, ?_⟩
 ·rcases cases2 h1 with z1 | ⟨z1, _⟩ <;> rcases cases2 h2 with z2 | ⟨z2, _⟩
  ·exact name_of_addr ca z1 z2
  ·exact absurd (Nat.lt_of_lt_of_le (oldlt z2) (Nat.le_trans (Nat.le_succ _) (ce _ _ z1).2)) (Nat.lt_irrefl _)
  ·exact absurd (Nat.lt_of_lt_of_le (oldlt z1) (Nat.le_trans (Nat.le_succ _) (ce _ _ z2).2)) (Nat.lt_irrefl _)
  ·exact I.ok.inj _ _ _ z1 z2
 ·-- has
  have hx : (relabel scope X.env).names.lookup x = some .cell \/ (relabel scope X.env).names.lookup x = some .free := hx
  have hm : (x, NameKind.cell) ∈ scope.names \/ (x, NameKind.free) ∈ scope.names := by
   rcases hx with hx | hx
   ·rcases mem_relabel (PySem.mem_of_lookup hx) with z | ⟨_, z⟩
    ·exact .inl z
    ·exact .inr z
   ·rcases mem_relabel (PySem.mem_of_lookup hx) with z | ⟨_, z⟩
    ·exact .inr z
    ·exact .inr z
  rcases hm with hm | hm
  ·have q := PySem.W.cellsFrom_some scope.names (s.heap.objs.size + 1) (cq X.env.cells scope.names []) (x := x) (.inl (cj hnd hm))
   exact Option.isSome_iff_exists.mp q
  ·obtain ⟨c, _, hc⟩ := freeC hm
   exact ⟨c, hc⟩
 ·-- cab
  rcases cases2 h with z | ⟨_, z⟩
  ·exact Nat.le_trans (Nat.le_succ _) (ce _ _ z).2
  ·have z' : (scope.names.lookup x != some .free) = true := hf
   rw [cj hnd z] at z'
   exact absurd z' (by decide)
 ·obtain ⟨o, e⟩ := hfo b hb
  exact Nat.ne_of_lt (Heap.lt_size e)
 ·rcases cases2 h with z | ⟨z, _⟩
  ·obtain ⟨o, e'⟩ := hfo b hb
   subst e
   exact absurd (Nat.lt_of_lt_of_le (Heap.lt_size e') (Nat.le_trans (Nat.le_succ _) (ce _ _ z).2)) (Nat.lt_irrefl _)
  ·exact (hfp b hb).2.2.2.2.1 x c z e
 ·obtain ⟨_, _, _, h4, _⟩ := hfp b hb
  rcases h4 with z | z
  ·exact I.ok.noex b o e z
  ·exact absurd (Nat.lt_of_lt_of_le (Heap.lt_size (I.ok.bs b o e).1) z) (Nat.lt_irrefl _)
 ·obtain ⟨_, h2, h3, _⟩ := hfp b hb
  rcases List.mem_cons.mp (fsub b hf) with z | z
  ·exact h2 z
  ·exact h3 z
 ·-- the names' values
  have hi : ¬ i < vars.length := fun hi => by
   rw [List.getElem?_append_left (by simpa using hi), List.getElem?_replicate] at e2
   split at e2 <;> cases e2
  have e1' : (vars ++ caps.map (fun j => X.N.getD j Str.empty))[i]? = some x := by rw [← hNc]; exact e1
  rw [List.getElem?_append_right (by omega)] at e1'
  rw [List.getElem?_append_right (by simpa using hi)] at e2
  rw [List.length_replicate] at e2
  cases q : caps[i - vars.length]? with
  | none => rw [List.getElem?_map, q] at e2; cases e2
  | some j =>
   rw [List.getElem?_map, q] at e1' e2
   have e1'' : X.N.getD j Str.empty = x := Option.some.inj e1'
   have e2' : σ.getD j none = some v := Option.some.inj e2
   obtain ⟨hj, hfr⟩ := hcap j (List.mem_of_getElem? q)
   rw [e1''] at hfr
   obtain ⟨c, hc, hc'⟩ := freeC (PySem.mem_of_lookup hfr)
   have hNj : X.N[j]? = some x := by
    rw [← e1'', List.getD_eq_getElem?_getD, List.getElem?_eq_getElem hj]; rfl
   have hσj : σ[j]? = some (some v) := by
    have hl : j < σ.length := by rw [I.len]; exact hj
    rw [List.getD_eq_getElem?_getD, List.getElem?_eq_getElem hl] at e2'
    rw [List.getElem?_eq_getElem hl]
    exact congrArg some e2'
   have hkx := hfree _ (PySem.mem_of_lookup hfr) rfl
   obtain ⟨m, hn, hl⟩ := I.loc
   obtain ⟨u, r, l⟩ := hl j x v hNj hσj (hkx.elim (fun z => .inr (.inl z)) fun z => .inr (.inr z))
   refine ⟨u, r, .inr ⟨?_, c, hc', ?_⟩⟩
   ·rcases e3 with z | z | z
    ·exfalso
     rcases mem_relabel (PySem.mem_of_lookup z) with y | ⟨y, _⟩
     ·rw [cj hnd y] at hfr; cases hfr
     ·cases y
    ·exact .inl z
    ·exact .inr z
   ·rcases l with ⟨l, _⟩ | ⟨_, c', e, z⟩
    ·exfalso
     rcases hkx with y | y
     ·have y' : X.env.kindOf x = some .cell := y
      rw [l] at y'; cases y'
     ·have y' : X.env.kindOf x = some .free := y
      rw [l] at y'; cases y'
    ·rw [hc] at e
     cases e
     exact z.keeps keep
 ·rcases cases2 h with z | ⟨z, _⟩
  ·exact ⟨none, (ce _ _ z).1⟩
  ·obtain ⟨v, q⟩ := I.cell x c z
   exact ⟨v, q.keeps keep⟩
 ·rcases cases2 h with z | ⟨z, _⟩
  ·exact I.hok.fresh (Nat.le_trans (Nat.le_succ _) (ce _ _ z).2)
  ·exact I.freeC x c z
 ·show _ = Nc.length
  rw [hNc, List.length_append, List.length_append, List.length_replicate, List.length_map, List.length_map]
abbrev TB := St -> Hp -> (St -> Hp -> Prop) -> Prop
def iq (elt : Expr) (gens : List Comprehension) (scope : Scope) (pos : Pos) (d : Nat) (acc : Value) (env : Env) (k : Sem PySem.Fin) : Sem PySem.Fin :=
 match gens[d + 1]? with
 | some g' => do
  let x ← eval g'.iter env
  standAt g'.iter.pos
  let x ← if g'.is_async != 0 then foldedIterable g'.iter x else foldedSetIterable g'.iter env x
  let _ ← runOwn (.compStart (.ListComp elt gens scope pos) (d + 1) (← holding [x] (if g'.is_async != 0 then asyncIter x else pyIter x)) acc env) env
  k
 | none => do
  (do let _ ← call (.builtin "list.append") [acc, ← eval elt env])
  k
theorem pI {elt target iter : Expr} {ifs : List Expr} {gens : List Comprehension} {scope : Scope} {pos : Pos} {d : Nat} {it acc : Value} {env : Env} (hg : gens[d]? = some ⟨target, iter, ifs, 0⟩) :
  compTurn (.ListComp elt gens scope pos) d it acc env = (do
   standAt iter.pos
   match ← pyNext it with
   | none => pure (.done .next)
   | some v =>
    letOwnedTupleGo target it v
    assign target env v
    let mut ok := true
    for c in ifs do
     if ok then ok ← isTrue c env (eval c env)
    if ok then iq elt gens scope pos d acc env (again (.compLoop (.ListComp elt gens scope pos) d it acc env))
    else again (.compLoop (.ListComp elt gens scope pos) d it acc env)) := by
 unfold compTurn iq
 dsimp only
 rw [hg]
 dsimp only
 cases gens[d + 1]? <;> rfl
section
variable {prog : Program} {w : World} {A : Around} {R : Result -> Shared -> Prop} {s : Shared}
theorem vt {elt target iter : Expr} {ifs : List Expr} {gens : List Comprehension} {scope : Scope} {pos : Pos} {d : Nat} {it acc : Value} {env : Env} (hg : gens[d]? = some ⟨target, iter, ifs, 0⟩) (I : Nat -> Shared -> Prop)
  (turn : ∀ n s, I n s -> wpAny (model prog w) A (pyNext it) (fun r s₁ => match r with
   | none => R (.ok .next) s₁
   | some v => wpAny (model prog w) A (letOwnedTupleGo target it v) (fun _ s₁' => wpAny (model prog w) A (assign target env v) (fun _ s₂ =>
     wpAny (model prog w) A (forIn ifs true fun c r => if r = true then do let ok ← isTrue c env (eval c env); pure (ForInStep.yield ok) else pure (ForInStep.yield r)) (fun ok s₃ =>
      if ok = true then ∀ (k : Sem PySem.Fin) (Q' : PySem.Fin -> Shared -> Prop) (E' : Value -> Shared -> Prop), (∀ s₄ m, m < n -> I m s₄ -> wpAny (model prog w) A k Q' E' s₄) -> wpAny (model prog w) A (iq elt gens scope pos d acc env k) Q' E' s₃
      else ∃ m, m < n /\ I m s₃) (fun _ _ => False) s₂) (fun _ _ => False) s₁') (fun _ _ => False) s₁) (fun _ _ => False) s)
  (n : Nat) (h : I n s) :
  codeAny (model prog w) A (.compLoop (.ListComp elt gens scope pos) d it acc env) R s := by
 refine codeAny_loop rfl I (fun n s hI => ?_) n h
 show wpAny _ A ((compTurn (.ListComp elt gens scope pos) d it acc env).onRaise (fun x => do noteFrame x env; theTreesLotGoes x)) _ _ s
 refine wpAny_noted ?_
 rw [pI hg]
 refine wpAny_bind (wpAny_standAt (wpAny_bind (wpAny_mono (turn n s hI) (fun r s₁ h₁ => ?_) fun _ _ h' => h'.elim)))
 cases r with
 | none => exact wpAny_pure h₁
 | some v =>
  refine wpAny_bind (wpAny_mono h₁ (fun _ s₁' h₁' => ?_) fun _ _ h' => h'.elim)
  refine wpAny_bind (wpAny_mono h₁' (fun _ s₂ h₂ => wpAny_bind (wpAny_mono h₂ (fun ok s₃ h₃ => ?_) fun _ _ h' => h'.elim)) fun _ _ h' => h'.elim)
  cases ok with
  | false => exact wpAny_pure ⟨rfl, h₃⟩
  | true => exact h₃ _ _ _ fun s₄ m hm hI => wpAny_pure ⟨rfl, m, hm, hI⟩
theorem tF {elt target iter : Expr} {ifs : List Expr} {gens : List Comprehension} {scope : Scope} {pos : Pos} {d : Nat} {it acc : Value} {env : Env} (hg : gens[d]? = some ⟨target, iter, ifs, 0⟩)
  (h0 : codeAny (model prog w) A (.compLoop (.ListComp elt gens scope pos) d it acc env) R s)
  (h : wpAny (model prog w) A (pyIter it) (fun it' s' => codeAny (model prog w) A (.compLoop (.ListComp elt gens scope pos) d it' acc env) R s') (fun _ _ => False) s) :
  codeAny (model prog w) A (.compStart (.ListComp elt gens scope pos) d it acc env) R s := by
 refine codeAny_of_tree ?_
 show wpAny _ _ ((compStart (.ListComp elt gens scope pos) d it acc env).onRaise (fun x => do noteFrame x env; standAt theWindowsPlace)) _ _ s
 refine wpAny_notedAt ?_
 unfold compStart
 have hg' : (clausesOf (.ListComp elt gens scope pos))[d]? = some ⟨target, iter, ifs, 0⟩ := hg
 generalize (clausesOf (.ListComp elt gens scope pos))[d]? = og at hg' ⊢
 subst hg'
 show wpAny _ _ (ask >>= _) _ _ s
 refine wpAny_bind (wpAny_askSetting (wpAny_ite ?_))
 split
 ·first
   | exact wpAny_bind (wpAny_pure (wpAny_pure (And.intro rfl h0)))
   | exact wpAny_pure (And.intro rfl h0)
 ·first
   | exact wpAny_bind (wpAny_rule (wpAny_bind (wpAny_standAt (wpAny_bind (wpAny_mono h (fun it' s' h' => wpAny_pure (And.intro rfl h')) fun _ _ x => x.elim)))))
   | (refine wpAny_bind (wpAny_rule ?_); show wpAny _ _ (standAt iter.pos >>= _) _ _ s; exact wpAny_bind (wpAny_standAt (wpAny_bind (wpAny_mono h (fun it' s' h' => wpAny_pure (And.intro rfl h')) fun _ _ x => x.elim))))
end
def fZ (X : Cx) (ifs : List Expr) (t : TT) : Prop :=
 ∀ (pins : List (Addr × Obj)) (s : Shared) (σ : St) (H : Hp) (Q : Bool -> Hp -> Prop), Inv X pins σ H s -> t σ H Q ->
  wpAny (model X.prog X.w) X.A (forIn ifs true fun c r => if r = true then do let ok ← isTrue c X.env (eval c X.env); pure (ForInStep.yield ok) else pure (ForInStep.yield r)) (TP X pins σ Q) X.xe s
def zQ : TT := fun _ H Q => Q true H
theorem o4 {X : Cx} : fZ X [] zQ := fun _ _ _ H _ I h => wpAny_pure ⟨H, I, h⟩
theorem u9 {X : Cx} {c : Expr} {t : TT} (hc : PT X c t) : fZ X [c] t := fun pins s σ H Q I h => by
 simp only [List.forIn_cons, List.forIn_nil, if_true]
 exact wpAny_bind (wpAny_bind (wpAny_mono (hc pins s σ H Q I h) (fun b s' hb => wpAny_pure (wpAny_pure hb)) fun _ _ x => x))
def PB (X : Cx) (elt : Expr) (gens : List Comprehension) (scope : Scope) (pos : Pos) (d : Nat) (D : Addr) (t : TB) : Prop :=
 ∀ (pins : List (Addr × Obj)) (s : Shared) (σ : St) (H : Hp) (Q : St -> Hp -> Prop), Inv X pins σ H s -> t σ H Q ->
  ∀ (k : Sem PySem.Fin) (Q' : PySem.Fin -> Shared -> Prop) (E' : Value -> Shared -> Prop), (∀ s' σ' H', Inv X pins σ' H' s' -> Q σ' H' -> wpAny (model X.prog X.w) X.A k Q' E' s') -> wpAny (model X.prog X.w) X.A (iq elt gens scope pos d (.ref D) X.env k) Q' E' s
def eP (J : It) (g : TG) (tt : TT) (tb : TB) : TB := fun σ H Q => ∃ W : Nat -> Nat -> St -> Hp -> Prop, (∃ m, W 0 m σ H) /\ ∀ i m σ H, W i m σ H ->
 (J.stop i H /\ Q σ H) \/ (J.go i H /\ ∃ N : St -> Hp -> Prop, (∀ σ' H', N σ' H' -> ∃ m', m' < m /\ W (i + 1) m' σ' H') /\ ∀ x H', J.yld i H x H' -> g x σ H' fun σ2 H2 => tt σ2 H2 fun b H3 => if b = true then tb σ2 H3 N else N σ2 H3)
def rU (D : Addr) (te : TE) : TB := fun σ H Q => te σ H fun v H1 => ∃ xs, H1 D = some (.lst xs) /\ xs.length < sizeLine /\ Q σ (upd H1 D (.lst (xs ++ [v])))
def yj (wi : TI) (lp : It -> TB) : TB := fun σ H Q => wi σ H fun J H1 => lp J σ H1 Q
section
variable {X : Cx} {elt target iter : Expr} {ifs : List Expr} {gens : List Comprehension} {scope : Scope} {pos : Pos} {d : Nat} {D : Addr}
theorem nj {g : TG} {tt : TT} {tb : TB} (hg : gens[d]? = some ⟨target, iter, ifs, 0⟩) (hc : X.calm = true) (hxe : X.xe = fun _ _ => False) (hgt : PG X target g) (hts : fZ X ifs tt) (hb : PB X elt gens scope pos d D tb)
  {it : Addr} {fp : List Addr} {tn : Nat -> Heap -> Prop} {J : It} {pins : List (Addr × Obj)} {s : Shared} {σ : St} {H : Hp} {Q : St -> Hp -> Prop}
  (I : Inv X pins σ H s) (T : Turn X.prog X.w X.K target J fp it tn) (st : tn 0 s.heap) (hf : ∀ b ∈ fp, dP X pins H b) (h : eP J g tt tb σ H Q) :
  codeAny (model X.prog X.w) X.A (.compStart (.ListComp elt gens scope pos) d (.ref it) (.ref D) X.env) (fun r s' => r = .ok .next /\ ∃ σ' H', Inv X pins σ' H' s' /\ Q σ' H') s := by
 obtain ⟨W, ⟨m0, w0⟩, turn⟩ := h
 have stat : ∀ {H' : Hp}, (∀ b ∈ fp, H' b = none) -> ∀ b ∈ fp, dP X pins H' b := fun hn b hb => ⟨hn b hb, (hf b hb).2⟩
 have loop : codeAny (model X.prog X.w) X.A (.compLoop (.ListComp elt gens scope pos) d (.ref it) (.ref D) X.env) (fun r s' => r = .ok .next /\ ∃ σ' H', Inv X pins σ' H' s' /\ Q σ' H') s := by
  refine vt hg (fun n s' => ∃ i σ' H', Inv X pins σ' H' s' /\ tn i s'.heap /\ (∀ b ∈ fp, H' b = none) /\ W i n σ' H') ?_ m0 ⟨0, σ, H, I, st, fun b hb => (hf b hb).1, w0⟩
  rintro n s3 ⟨i, σ3, H3, I3, st3, fr3, w3⟩
  rcases turn i n σ3 H3 w3 with ⟨stop, qn⟩ | ⟨go, N, hN, step⟩
  ·refine thn (T.done X rfl rfl rfl hc i pins s3 σ3 H3 _ I3 (stat fr3) st3 stop) fun r s4 ⟨hr, I4⟩ => ?_
   subst hr
   exact ⟨rfl, σ3, H3, I4, qn⟩
  ·refine thn (T.item X rfl rfl rfl hc i pins s3 σ3 H3 _ I3 (stat fr3) st3 go) fun r s4 ⟨u, hr, h4⟩ => ?_
   subst hr
   refine thn h4 fun _ s5 ⟨x, H5, I5, r5, y5, st5, fr5⟩ => ?_
   have I5' := I5.pinned (stat fr5) (T.obj _ _ st5)
   have again : ∀ {σ7 : St} {H7 : Hp} {s7 : Shared}, Inv X (pins ++ jn fp s5.heap) σ7 H7 s7 -> N σ7 H7 -> ∃ m, m < n /\ ∃ i σ' H', Inv X pins σ' H' s7 /\ tn i s7.heap /\ (∀ b ∈ fp, H' b = none) /\ W i m σ' H' := fun {σ7 H7 s7} I7 n7 => by
    obtain ⟨m', hm, w7⟩ := hN σ7 H7 n7
    refine ⟨m', hm, i + 1, σ7, H7, I7.unpinned, T.keep _ _ _ st5 fun b hb o e => (I7.pin (b, o) (List.mem_append_right _ (List.mem_append_right _ (f8 hb e)))).1, fun b hb => ?_, w7⟩
    obtain ⟨o, e, d⟩ := T.obj _ _ st5 b hb
    exact (I7.pin (b, o) (List.mem_append_right _ (List.mem_append_right _ (f8 hb e)))).2.1
   have h6 := hgt _ s5 σ3 H5 x u _ I5' r5 (step x H5 y5)
   rw [hxe] at h6
   refine thn h6 fun _ s6 ⟨σ6, H6, I6, q6⟩ => ?_
   have h7 := hts _ s6 σ6 H6 _ I6 q6
   rw [hxe] at h7
   refine thn h7 fun b s7 ⟨H7, I7, q7⟩ => ?_
   cases b with
   | true =>
    rw [if_pos rfl] at q7 ⊢
    intro k Q' E' hk
    refine hb _ s7 σ6 H7 N I7 q7 k Q' E' fun s8 σ8 H8 I8 n8 => ?_
    obtain ⟨m, hm, z⟩ := again I8 n8
    exact hk s8 m hm z
   | false =>
    rw [if_neg Bool.false_ne_true] at q7 ⊢
    exact again I7 q7
 exact tF hg loop (T.self X.A 0 s _ _ st loop)
theorem bG {te : TE} (hg : gens[d + 1]? = none) (he : PE X elt te) (hxe : X.xe = fun _ _ => False) : PB X elt gens scope pos d D (rU D te) := by
 intro pins s σ H Q I h k Q' E' hk
 unfold iq
 rw [hg]
 have h1 := he pins s σ H _ I h
 rw [hxe] at h1
 refine wpAny_bind (wpAny_bind (wpAny_mono h1 (fun u s1 ⟨v, H1, I1, r, xs, hD, hz, q⟩ => ?_) fun _ _ f => f.elim))
 obtain ⟨z, its, n, rv, hl, e⟩ := I1.lstM hD
 refine wpAny_bind (call_meets F.slot_list_append ⟨_, e, rfl⟩ F.entry_list_append (F.args_list_append_2 _ _) (PySem.list_append D its.toArray n u (by rw [List.size_toArray]; omega)) ⟨e, ?_⟩)
 refine wpAny_pure (hk _ σ _ (I1.lset (its' := its ++ [u]) hD e (by simp) (rv.append (.cons r .nil)) ?_) q)
 rw [List.length_append, List.length_singleton]
 omega
theorem yQ {target' iter' : Expr} {ifs' : List Expr} {g : TG} {tt : TT} {tb : TB} {wi : TI} (hg : gens[d + 1]? = some ⟨target', iter', ifs', 0⟩) (hc : X.calm = true) (hxe : X.xe = fun _ _ => False) (hi : PI X target' iter' wi)
  (hgt : PG X target' g) (hts : fZ X ifs' tt) (hb : PB X elt gens scope pos (d + 1) D tb) (hs : ∀ x, foldedSetIterable iter' X.env x = pure x := by intro _; rfl) : PB X elt gens scope pos d D (yj wi fun J => eP J g tt tb) := by
 intro pins s σ H Q I h k Q' E' hk
 unfold iq
 rw [hg]
 have h1 := hi pins s σ H _ I h
 rw [hxe] at h1
 refine wpAny_bind (wpAny_mono h1 (fun v s1 h1 => wpAny_bind (wpAny_standAt ?_)) fun _ _ f => f.elim)
 show wpAny _ _ (foldedSetIterable iter' X.env v >>= _) _ _ _
 refine wpAny_bind (wpAny_of_eq (hs v) ?_)
 show wpAny _ _ (holding [v] (pyIter v) >>= _) _ _ _
 refine wpAny_bind (wpAny_holding (wpAny_mono h1 (fun itv s2 h2 => ?_) fun _ _ f => f.elim))
 obtain ⟨it, fp, tn, J, H2, e, I2, T, st2, f2, q⟩ := h2
 subst e
 refine wpAny_bind (wpAny_runOwn (codeAny_mono (nj hg hc hxe hgt hts hb I2 T st2 f2 q) fun r s' ⟨hr, z⟩ => ?_))
 subst hr
 obtain ⟨σ', H', I', q'⟩ := z
 exact hk s' σ' H' I' q'
end
def jI (vars : List Str) (caps : List Nat) (σ : St) : St := List.replicate vars.length none ++ caps.map (fun j => σ.getD j none)
def nY (vars : List Str) (caps : List Nat) (wi : TI) (lp : Addr -> It -> TB) : TE := fun σ H Q => wi σ H fun J H1 => ∀ D, H1 D = none -> lp D J (jI vars caps σ) (upd H1 D (.lst [])) fun _ H' => Q (.ref D) H'
structure CmpScope (X : Cx) (scope : Scope) (Nc vars : List Str) (caps : List Nat) : Prop where
 kind : scope.kind = .function
 nd : (scope.names.map (·.1)).Nodup
 free : ∀ y ∈ scope.names, y.2 = .free -> X.env.kindOf y.1 = some .cell \/ X.env.kindOf y.1 = some .free
 names : Nc = vars ++ caps.map (fun j => X.N.getD j Str.empty)
 cap : ∀ j ∈ caps, j < X.N.length /\ scope.names.lookup (X.N.getD j Str.empty) = some .free
section
variable {X : Cx} {elt target iter : Expr} {ifs : List Expr} {rest : List Comprehension} {scope : Scope} {pos : Pos} {Nc vars : List Str} {caps : List Nat} {g : TG} {tt : TT} {tb : Addr -> TB} {wi : TI}
def B8 (X : Cx) (pins : List (Addr × Obj)) (H : Hp) (C : Addr) : Prop := H C = none /\ C ≠ X.env.locals /\ X.s₀.heap.objs.size <= C /\ (∀ x c, X.env.cells.lookup x = some c -> c ≠ C) /\ ∀ p ∈ X.pn ++ pins, p.1 ≠ C
theorem nk {pins : List (Addr × Obj)} {σ : St} {H : Hp} {s : Shared} {it : Addr} {fp : List Addr} {tn : Nat -> Heap -> Prop} {J : It} {E : Value -> Shared -> Prop} {QQ : Addr -> Hp -> Prop} {RR : Value -> Addr -> Result -> Shared -> Prop}
  (hc : X.calm = true) (S : CmpScope X scope Nc vars caps)
  (hb : ∀ (cl : List (Str × Addr)) (C : Addr) (fp : List Addr) (s : Shared) (H : Hp), PG (bw X Nc scope cl C fp s H) target g /\ fZ (bw X Nc scope cl C fp s H) ifs tt /\ ∀ D, PB (bw X Nc scope cl C fp s H) elt (⟨target, iter, ifs, 0⟩ :: rest) scope pos 0 D (tb D))
  (I : Inv X pins σ H s) (T : Turn X.prog X.w X.K target J fp it tn) (st : tn 0 s.heap) (hf : ∀ b ∈ fp, dP X pins H b)
  (q : ∀ D, H D = none -> eP J g tt (tb D) (jI vars caps σ) (upd H D (.lst [])) fun _ H' => QQ D H')
  (hRR : ∀ (D C : Addr) (s' : Shared) (H' : Hp) (m : Str -> Option Value), Inv X pins σ H' s' -> s'.heap.Ns C m -> B8 X pins H' C -> QQ D H' -> RR (.ref D) C (.ok .next) s') :
  wpAny (model X.prog X.w) X.A (newList []) (fun acc s₃ => wpAny (model X.prog X.w) X.A (newFunctionEnv scope X.env.globals (cq X.env.cells scope.names []) [] X.env.qual none .none (some X.env)) (fun cenv s₄ =>
   codeAny (model X.prog X.w) X.A (.compStart (.ListComp elt (⟨target, iter, ifs, 0⟩ :: rest) scope pos) 0 (.ref it) acc { cenv with scope := relabel scope X.env }) (RR acc cenv.locals) s₄) E s₃) E s := by
 refine wpAny_newObj_type ?_
 have hD : H s.heap.objs.size = none := I.fresh
 have I3 : Inv X pins σ (upd H s.heap.objs.size (.lst [])) { s with heap := s.heap.push { cls := .type "list", data := .seq ([] : List Value).toArray } } := I.lnew (t' := s.toks) .nil (Nat.zero_le _)
 generalize hs3 : ({ s with heap := s.heap.push { cls := .type "list", data := .seq ([] : List Value).toArray } } : Shared) = s3 at I3
 have q3 := q s.heap.objs.size hD
 have kp3 : ∀ b o, s.heap.get? b = some o -> s3.heap.get? b = some o := fun b o e => by rw [← hs3]; exact Heap.get?_push_of_some _ e
 have fo3 : ∀ b ∈ fp, ∃ o, s3.heap.get? b = some o := fun b hb => let ⟨o, e, _⟩ := T.obj _ _ st b hb; ⟨o, kp3 b o e⟩
 have f3 : ∀ b ∈ fp, dP X pins (upd H s.heap.objs.size (.lst [])) b := fun b hb' => ⟨by
  rw [upd_ne]
  ·exact (hf b hb').1
  ·obtain ⟨o, e, _⟩ := T.obj _ _ st b hb'
   exact Nat.ne_of_lt (Heap.lt_size e), (hf b hb').2⟩
 generalize hH3 : upd H s.heap.objs.size (.lst []) = H3 at I3 q3 f3
 generalize s.heap.objs.size = D at hD hH3 q3 ⊢
 refine vS fun h' ns keep ce ca => ?_
 have Ic := vE I3 S.kind S.nd S.free S.names S.cap f3 fo3 ns keep ce ca
 obtain ⟨b1, b2, b3⟩ := hb (cellsFrom (s3.heap.objs.size + 1) scope.names (cq X.env.cells scope.names [])) s3.heap.objs.size fp s3 H3
 have st4 : tn 0 h' := T.keep _ _ _ st fun b hb o e => keep b o (kp3 b o e)
 have f4 : ∀ b ∈ fp, dP (bw X Nc scope (cellsFrom (s3.heap.objs.size + 1) scope.names (cq X.env.cells scope.names [])) s3.heap.objs.size fp s3 H3) [] H3 b := fun b hb' =>
  ⟨(f3 b hb').1, (Ic.ok.exf b hb').1, Ic.ok.exfs b hb', .inl hb', (Ic.ok.exf b hb').2, fun p hp => absurd hp (by simp)⟩
 refine codeAny_mono (nj (X := bw X Nc scope (cellsFrom (s3.heap.objs.size + 1) scope.names (cq X.env.cells scope.names [])) s3.heap.objs.size fp s3 H3) (gens := ⟨target, iter, ifs, 0⟩ :: rest) (d := 0) rfl hc rfl b1 b2 (b3 D) Ic T st4 f4 q3) fun r s' ⟨hr, σ', H', I', q'⟩ => ?_
 subst hr
 obtain ⟨m, hm, _⟩ := I'.loc
 have C1 : X.env.locals < s3.heap.objs.size := I3.lt
 refine hRR D _ s' H' m (I3.call' (ch := fp) I'.os I'.base I'.hok I'.bare fun b hb' => ?_) hm ⟨I'.free, Nat.ne_of_gt C1, I3.sz, fun x c e z => ?_, fun p hp z => ?_⟩ q'
 ·obtain ⟨_, h2, h3, h4, h5, h6⟩ := hf b hb'
  exact ⟨h4, h2, h5, h6⟩
 ·obtain ⟨v, e'⟩ := I3.cell x c e
  exact absurd (z ▸ e'.lt) (Nat.lt_irrefl _)
 ·have := Heap.lt_size (I3.pin p hp).1
  rw [z] at this
  exact absurd this (Nat.lt_irrefl _)
theorem Inv.letgo {pins : List (Addr × Obj)} {σ : St} {H : Hp} {s : Shared} {C : Addr} {h' : Heap} (I : Inv X pins σ H s) (o : B8 X pins H C) (hs : Heap.SameBut C s.heap h') : Inv X pins σ H { s with heap := h' } :=
 I.turned (t' := s.toks) (fun b ob hb e => (hs.2 b hb).trans e) o.1 (Ne.symm (Ne.symm o.2.1)) (.inr o.2.2.1) o.2.2.2.1 o.2.2.2.2
theorem CmpScope.clo (S : CmpScope X scope Nc vars caps) (ok : X.Ok) : closureFor scope X.env = pure (cq X.env.cells scope.names []) := rR fun y hy hk => ok.has y.1 (S.free y hy hk)
theorem CmpScope.loc (S : CmpScope X scope Nc vars caps) : ∀ x ∈ scope.names, x.2 = .local -> scope.names.lookup x.1 = some .local := fun x hx hk => cj S.nd (by rw [← hk]; exact hx)
theorem qq (hc : X.calm = true) (S : CmpScope X scope Nc vars caps) (hi : PI X target iter wi)
  (hb : ∀ (cl : List (Str × Addr)) (C : Addr) (fp : List Addr) (s : Shared) (H : Hp), PG (bw X Nc scope cl C fp s H) target g /\ fZ (bw X Nc scope cl C fp s H) ifs tt /\ ∀ D, PB (bw X Nc scope cl C fp s H) elt (⟨target, iter, ifs, 0⟩ :: rest) scope pos 0 D (tb D))
  (hs : ∀ x, foldedSetIterable iter X.env x = pure x := by intro _; rfl) : PE X (.ListComp elt (⟨target, iter, ifs, 0⟩ :: rest) scope pos) (nY vars caps wi fun D J => eP J g tt (tb D)) := by
 intro pins s σ H Q I h
 rw [eval_ListComp]
 refine wpAny_comprehension_free (use := none) rfl hs (S.clo I.ok) S.kind S.loc (wpAny_mono (hi pins s σ H _ I h) (fun v s1 h1 => wpAny_mono h1 (fun itv s2 h2 => ?_) fun _ _ x => x) fun _ _ x => x)
 obtain ⟨it, fp, tn, J, H2, e, I2, T, st2, f2, q⟩ := h2
 subst e
 refine nk (RR := fun acc C => compPost (model X.prog X.w) X.A X.xe none _ acc C) hc S hb I2 T st2 f2 q fun D C s' H' m I' ns oc q' => ?_
 exact ⟨m, ns, fun h' hs' => ⟨.ref D, H', I'.letgo oc hs', rfl, q'⟩⟩
theorem qo {i : Nat} {x : Str} {pos' spos : Pos} (hN : X.N.Nodup) (hi' : X.N[i]? = some x) (hx : Loc X.env.scope x) (hc : X.calm = true) (S : CmpScope X scope Nc vars caps) (hi : PI X target iter wi)
  (hb : ∀ (cl : List (Str × Addr)) (C : Addr) (fp : List Addr) (s : Shared) (H : Hp), PG (bw X Nc scope cl C fp s H) target g /\ fZ (bw X Nc scope cl C fp s H) ifs tt /\ ∀ D, PB (bw X Nc scope cl C fp s H) elt (⟨target, iter, ifs, 0⟩ :: rest) scope pos 0 D (tb D))
  (hsw : swapsWith (.ListComp elt (⟨target, iter, ifs, 0⟩ :: rest) scope pos) (some (.Name x pos')) spos.line X.env = pure true := by rfl)
  (hs : ∀ x, foldedSetIterable iter X.env x = pure x := by intro _; rfl) (hf : X.fn x = true \/ X.env.scope.names.lookup x = some .local := by first | exact .inl rfl | exact .inr rfl | assumption) :
  PS X (.Assign [.Name x pos'] (.ListComp elt (⟨target, iter, ifs, 0⟩ :: rest) scope pos) spos) (iz (nY vars caps wi fun D J => eP J g tt (tb D)) (dZ i)) := by
 intro pins s σ H D I h
 rw [exec_Assign_Name_used _ _ _ _ hsw]
 refine wpAny_bind (wpAny_standAt (wpAny_bind ?_))
 show wpAny _ X.A (do let _ ← comprehension (.ListComp elt (⟨target, iter, ifs, 0⟩ :: rest) scope pos) scope X.env _ (newList []) false (eval iter X.env) (some (assign (.Name x pos') X.env))) _ _ s
 refine wpAny_bind (wpAny_mono (wpAny_comprehension_free (use := some (assign (.Name x pos') X.env)) (Q := fun _ s' => SP X pins D .next s') rfl hs (S.clo I.ok) S.kind S.loc
  (wpAny_mono (hi pins s σ H _ I h) (fun v s1 h1 => wpAny_mono h1 (fun itv s2 h2 => ?_) fun _ _ e => e) fun _ _ e => e)) (fun _ s' hq => wpAny_pure (wpAny_pure hq)) fun _ _ e => e)
 obtain ⟨it, fp, tn, J, H2, e, I2, T, st2, f2, q⟩ := h2
 subst e
 refine nk (RR := fun acc C => compPost (model X.prog X.w) X.A X.xe (some (assign (.Name x pos') X.env)) _ acc C) hc S hb I2 T st2 f2 q fun A C s' H' m I' ns oc q' => ?_
 show wpAny _ X.A (assign (.Name x pos') X.env (.ref A)) _ _ s'
 refine wpAny_assign_Name (mX I' hN hi' hx (v := .ref A) rfl (fun s2 I2 ⟨a, sb, ha⟩ => ?_) hf)
 have hCa : C ≠ a := by
  rcases ha with rfl | ha
  ·exact oc.2.1
  ·exact fun z => oc.2.2.2.1 x a ha z.symm
 exact ⟨m, ns.sameBut sb hCa, fun h' hs' => ⟨_, H', I2.letgo oc hs', q'⟩⟩
end
end L2
namespace L2
open PySem PySem.Spec
open Sem (wp)
open Builtin Builtin.ObjectAttr
abbrev cm (C : Addr) (dx : Option Addr) (t : Addr) : Obj := { cls := .ref C, dict := dx, data := .fields #[.ref t, .none, .none, .none, .bool false, .none] }
structure XShape (h : Heap) (C : Addr) (bm : List Value) : Prop where
 at_ : ∃ (nm q : Str) (N : Addr) (bs : List Value) (hdct : Bool) (sn : List Str) (sub : List Value) (ab : Bool) (col : Option Bool) (dd : Option Addr) (k0 k1 k2 k3 k5 : Option Value),
  h.get? C = some (excClassObj nm q C N bs bm hdct sn sub ab col dd k0 k1 k2 k3 k5 "ValueError.__new__")
 val : bm.contains (.type "ValueError") = true
 bas : bm.contains (.type "BaseException") = true
 att : bm.contains (.type "AttributeError") = false
 nam : bm.contains (.type "NameError") = false
section
variable {prog : Program} {w : World} {A : Around} {E : Value -> Shared -> Prop} {h : Heap} {g : Array GenState} {d : Drawn} {t : Nat} {os : OsState} {C : Addr} {bm rest : List Value}
theorem zq {R : Result -> Shared -> Prop} (S : XShape h C bm)
  (hq : R (.ok (.ret (.ref (h.objs.size + 1)))) ⟨(h.push { cls := .type "tuple", data := .seq rest.toArray }).push (cm C none h.objs.size), g, d, t, os⟩) (hrest : rest.length <= sizeLine) :
  codeAny (model prog w) A (.builtin "ValueError.__new__" ⟨.ref C :: rest, []⟩) R ⟨h, g, d, t, os⟩ := by
 obtain ⟨⟨nm, q, N, bs, hdct, sn, sub, ab, col, dd, k0, k1, k2, k3, k5, hC⟩, hV, hB, hA, hN⟩ := S
 have Fv := PySem.F.excBase_ValueError
 have hends := Fv.ends
 have hcB : (Value.ref C :: bm).contains (.type "ValueError") = true := by rw [List.contains_cons, hV, Bool.or_true]
 have hcA : (Value.ref C :: bm).contains (.type "AttributeError") = false := by rw [List.contains_cons, hA]; rfl
 have hcN : (Value.ref C :: bm).contains (.type "NameError") = false := by rw [List.contains_cons, hN]; rfl
 refine codeAny_builtinAt Fv.entry ?_
 unfold Builtin.«BaseException.__new__»
 refine wpAt_bind ?_
 show wpAt _ _ _ (stack >>= _) _ _ _
 refine wpAt_bind (wpAt_stack fun p below => wpAt_of_wpAny ?_)
 wp_walk
 refine wpAt_of_wpAny ?_
 rw [Fv.owner]
 repeat (first | with_reducible refine wpAny_madeHere_exc Fv.canon hC ?_ | with_reducible refine wpAny_loadPart_at hC ?_ | (with_reducible refine wpAny_isSubtype_exc hC ?_; first | rw [hcB] | rw [hcA] | rw [hcN]) | wp_step)
 show R _ _
 rw [Heap.size_push]
 exact hq
theorem nR {K : Frag} {fI : Addr} {Q : PySem.Fin -> Shared -> Prop} (X : K.In h) (S : XShape h C bm) (hi : PySem.W.findIn K (.ref C) "__init__" = some (some (.ref fI))) (hf : PySem.W.isFn K (.ref fI) = true) (hrest : rest.length <= sizeLine)
  (hq : wpAny (model prog w) A (call (.ref fI) (.ref (h.objs.size + 1) :: rest)) (fun r s' => r = .none /\ Q (.done (.ret (.ref (h.objs.size + 1)))) s') E
   ⟨(h.push { cls := .type "tuple", data := .seq rest.toArray }).push { cls := .ref C, data := .fields #[.ref h.objs.size, .none, .none, .none, .bool false, .none] }, g, d, t, os⟩) :
  wpAny (model prog w) A (Builtin.«type.__call__» ⟨.ref C :: rest, []⟩) Q E ⟨h, g, d, t, os⟩ := by
 have S' := S
 obtain ⟨⟨nm, q, N, bs, hdct, sn, sub, ab, col, dd, k0, k1, k2, k3, k5, hC⟩, hV, hB, hA, hN⟩ := S
 have Fv := PySem.F.excBase_ValueError
 repeat (first | with_reducible refine wpAny_loadPart_at hC ?_ | with_reducible refine wpAny_madeBy_exc hC ?_ | wp_step)
 refine codeAny_call_builtin_code (Code.quiet_builtin _ Fv.quiet) (wpAny_check_new_subU Fv hV (OwnTail.base (bmB := bm)) hC ?_)
 refine zq S' ?_ hrest
 show wpAny _ _ _ _ _ _
 have keep : ∀ b o, h.get? b = some o -> ((h.push { cls := .type "tuple", data := .seq rest.toArray }).push { cls := .ref C, data := .fields #[.ref h.objs.size, .none, .none, .none, .bool false, .none] }).get? b = some o := fun b o e => Heap.get?_push_of_some _ (Heap.get?_push_of_some _ e)
 have hC1 := keep _ _ hC
 have X1 := X.keeps keep
 have hget : ((h.push { cls := .type "tuple", data := .seq rest.toArray }).push { cls := .ref C, data := .fields #[.ref h.objs.size, .none, .none, .none, .bool false, .none] }).get? (h.objs.size + 1) = some { cls := .ref C, data := .fields #[.ref h.objs.size, .none, .none, .none, .bool false, .none] } := by heap_get
 have hcC : (Value.ref C :: bm).contains (.ref C) = true := by simp
 unfold isInstance
 repeat (first | with_reducible refine wpAny_loadPart_at hget ?_ | (with_reducible refine wpAny_isSubtype_exc hC1 ?_; rw [hcC]) | wp_step)
 show wpAny _ _ (typeLookup (.ref C) _) _ _ _
 refine (PySem.W.looks_findIn X1 hi).here ?_
 refine wpAny_holding (wpAny_bind ((PySem.W.bind_fn X1 (.ref (h.objs.size + 1)) (beq_iff_eq.mp hf)).here ?_))
 refine wpAny_bind (wpAny_mono hq (fun r s' hr => ?_) fun _ _ x => x)
 obtain ⟨rfl, hQ⟩ := hr
 wp_walk
 exact hQ
theorem vQ {K : Frag} {fI : Addr} {Q : Value -> Shared -> Prop} (X : K.In h) (S : XShape h C bm) (hi : PySem.W.findIn K (.ref C) "__init__" = some (some (.ref fI))) (hf : PySem.W.isFn K (.ref fI) = true) (hrest : rest.length <= sizeLine)
  (hq : wpAny (model prog w) (A.under (.builtin "type.__call__" ⟨.ref C :: rest, []⟩)) (call (.ref fI) (.ref (h.objs.size + 1) :: rest)) (fun r s' => r = .none /\ Q (.ref (h.objs.size + 1)) s') E
   ⟨(h.push { cls := .type "tuple", data := .seq rest.toArray }).push { cls := .ref C, data := .fields #[.ref h.objs.size, .none, .none, .none, .bool false, .none] }, g, d, t, os⟩) :
  wpAny (model prog w) A (call (.ref C) rest) Q E ⟨h, g, d, t, os⟩ := by
 have S' := S
 obtain ⟨⟨nm, q, N, bs, hdct, sn, sub, ab, col, dd, k0, k1, k2, k3, k5, hC⟩, hV, hB, hA, hN⟩ := S
 have f1 := tc_lookup
 have f2 := tc_bind (.ref C)
 have hT : (⟨h, g, d, t, os⟩ : Shared).TypeIs (.ref C) "type" := ⟨_, hC, rfl⟩
 refine wpAny_call (codeAny_of_tree ?_)
 show wpAny _ _ (callAny (.ref C) _) _ _ _
 repeat (any_goals (first | assumption | with_reducible refine wpAny_loadPart_at hC ?_ | wp_step))
 refine ⟨rfl, ?_⟩
 exact codeAny_call_builtin_at (Code.quiet_builtin _ (by decide +kernel)) entry_typeCall (wpAny_check_type_call_sub hC (nR X S' hi hf hrest hq))
theorem mI {oe : Obj} {M : Model} {e : Addr} {Q : Unit -> Shared -> Prop} (S : XShape h C bm) (he : h.get? e = some oe) (hcls : oe.cls = .ref C) (hq : Q () ⟨h, g, d, t, os⟩) :
  wpAny M A (checkBuiltinCall "ValueError.__init__" ⟨.ref e :: rest, []⟩) Q E ⟨h, g, d, t, os⟩ := by
 obtain ⟨⟨nm, q, N, bs, hdct, sn, sub, ab, col, dd, k0, k1, k2, k3, k5, hC⟩, hV, hB, hA, hN⟩ := S
 have Fv := PySem.F.excBase_ValueError
 have hcB : (Value.ref C :: bm).contains (.type "ValueError") = true := by rw [List.contains_cons, hV, Bool.or_true]
 have hshort := Fv.noStar
 simp only [checkBuiltinCall, Fv.initKind, Fv.initSplit, Fv.initRow]
 repeat (first | (with_reducible refine wpAny_loadPart_at he ?_; rw [hcls]) | with_reducible refine wpAny_loadPart_at hC ?_ | (with_reducible refine wpAny_isSubtype_exc hC ?_; rw [hcB]) | wp_step)
 refine wpAny_onRaise ?_
 have star : ∀ (a b : String) (n : Nat), Bind.check ⟨.positional, "*", "ValueError", .self, [⟨"args", .varPos, false⟩]⟩ a b n (List.map (fun x => x.fst) ({ pos := Value.ref e :: rest } : Args).kw) = pure () := fun a b n => check_star_args _ _ _ _ _ _
 rw [star]
 exact wpAny_pure hq
theorem uu {dx : Option Addr} {t0 e : Addr} {Q : Value -> Shared -> Prop} (S : XShape h C bm) (he : h.get? e = some (cm C dx t0)) (hrest : rest.length <= sizeLine)
  (hq : ∀ h' : Heap, h'.get? e = some (cm C dx h.objs.size) -> (∀ b o, b ≠ e -> h.get? b = some o -> h'.get? b = some o) -> Q .none ⟨h', g, d, t, os⟩) :
  wpAny (model prog w) A (call (.builtin "ValueError.__init__") (.ref e :: rest)) Q E ⟨h, g, d, t, os⟩ := by
 have Fv := PySem.F.excBase_ValueError
 refine wpAny_call (codeAny_call_builtin Fv.init.plain Fv.initEntry (mI S he rfl ?_))
 have he2 := Heap.get?_push_of_some { cls := .type "tuple", data := .seq rest.toArray } he
 unfold Builtin.«BaseException.__init__»
 dsimp only
 refine wpAny_bind ?_
 refine wpAny_newTuple ?_ hrest
 unfold Builtin.BaseException.bexcPut
 refine wpAny_bind (wpAny_bind (wpAny_field he2 rfl (x := .ref t0) rfl ?_))
 refine wpAny_bind (wpAny_setField he2 rfl (by simp) ?_)
 dsimp only
 refine wpAny_letGo (wpAny_pure ?_)
 refine hq _ ?_ fun b o hb e1 => ?_
 ·rw [Heap.get?_update_self _ he2 rfl]
  rfl
 ·rw [Heap.get?_update_other _ _ (Ne.symm hb)]
  exact Heap.get?_push_of_some _ e1
end
def dM : List Value -> Bool
 | [.type a, .type b, .type c, .type d] => a == "ValueError" && b == "Exception" && c == "BaseException" && d == "object"
 | .ref _ :: r => dM r
 | _ => false
theorem oZ (self : Value) : refuseLoop self "__setattr__" [.type "ValueError", .type "Exception", .type "BaseException", .type "object"] = pure () := by kernel_rfl
theorem lf (self : Value) : ∀ {l : List Value}, dM l = true -> refuseLoop self "__setattr__" l = pure ()
 | [.type a, .type b, .type c, .type d], e => by
  simp only [dM, Bool.and_eq_true, beq_iff_eq] at e
  obtain ⟨⟨⟨rfl, rfl⟩, rfl⟩, rfl⟩ := e
  exact oZ self
 | .ref c :: r, e => by rw [refuseLoop_ref]; exact lf self (by cases r <;> exact e)
theorem qG : ∀ {l : List Value}, dM l = true -> l.contains (.type "object") = true
 | [.type a, .type b, .type c, .type d], e => by
  simp only [dM, Bool.and_eq_true, beq_iff_eq] at e
  obtain ⟨⟨⟨rfl, rfl⟩, rfl⟩, rfl⟩ := e
  decide
 | .ref c :: r, e => by rw [List.contains_cons, qG (l := r) (by cases r <;> exact e), Bool.or_true]
section
variable {prog : Program} {w : World} {A : Around} {E : Value -> Shared -> Prop} {s : Shared} {C e : Addr} {K : Frag} {cd : ClassData} {name : Str} {v : Value}
theorem vP {R : Result -> Shared -> Prop} {tk : Tok} {oe : Obj} (X : K.In s.heap) (he : s.heap.get? e = some oe) (hcls : oe.cls = .ref C) (hc : PySem.W.clsIn K C = some cd) (hl : dM cd.mro = true) (ht : PySem.W.findIn K (.ref C) name = some none)
  (h : ∀ b, wpAny (model prog w) A.in1 (storeInOwnDict (.ref e) (.ref C) (.str name tk) name v b)
   (fun fin s' => match fin with | .done f => R (.ok f) s' | .again c' => c'.quiet = true /\ codeAny (model prog w) A c' R s') (fun x s' => R (.error x) s') s) :
  codeAny (model prog w) A (.call (.builtin "object.__setattr__") ⟨[.ref e, .str name tk, v], []⟩) R s := by
 have SF := PySem.F.store_object
 have tp : PySem.W.Looks (model prog w) s.heap (typeOf (.ref e)) (.ref C) := by
  have := (PySem.W.Looks.ld (M := model prog w) (part := some headPart) he)
  exact this.andThen (by rw [hcls]; exact .now)
 have ne : cd.mro.isEmpty = false := by cases q : cd.mro with | nil => rw [q] at hl; cases hl | cons _ _ => rfl
 have sub : PySem.W.Looks (model prog w) s.heap (isInstance (.ref e) (.type "object")) true := tp.andThen (PySem.W.looks_mroIn X (by unfold PySem.W.mroIn; rw [hc, Option.bind_some, if_neg (by rw [ne]; decide), qG hl]))
 refine codeAny_call_builtin SF.slot.plain SF.entry (@PySem.W.check_slot (model prog w) _ _ s "object.__setattr__" "object" "__setattr__" (.ref e) [.str name tk, v] [] _ SF.kind SF.split sub (SF.args (.ref e) (.str name tk) v) ?_)
 have hm : PySem.W.Looks (model prog w) s.heap (mroOf (.ref C)) cd.mro := (PySem.W.looks_clsIn X hc).andThen .now
 rw [PySem.W.osa_eq, refuse_eq]
 refine wpAny_bind (wpAny_bind (tp.here (wpAny_bind (hm.here ?_))))
 rw [lf _ hl]
 refine wpAny_pure (wpAny_bind (tp.here (wpAny_bind ((PySem.W.looks_findIn X ht).here (wpAny_bind (wpAny_pure ?_))))))
 exact h _
theorem uw {oe : Obj} {Q : Unit -> Shared -> Prop} (X : K.In s.heap) (he : s.heap.get? e = some oe) (hcls : oe.cls = .ref C) (hs : PySem.W.findIn K (.ref C) "__setattr__" = some (some (.builtin "object.__setattr__")))
  (h : codeAny (model prog w) A (.call (.builtin "object.__setattr__") ⟨[.ref e, .str name s.toks, v], []⟩) (fun r s' => match r with | .ok (.ret _) => Q () s' | .ok _ => False | .error x => E x s') { s with toks := s.toks + 1 }) :
  wpAny (model prog w) A (setAttr (.ref e) name v) Q E s := by
 have tp : PySem.W.Looks (model prog w) s.heap (typeOf (.ref e)) (.ref C) := by
  have := (PySem.W.Looks.ld (M := model prog w) (part := some headPart) he)
  exact this.andThen (by rw [hcls]; exact .now)
 refine wpAny_bind (wpAny_mkText (wpAny_bind (wpAny_bind (wpAny_bind (tp _ _ _ _ (fun _ _ e => e) (PySem.W.looks_findIn X hs _ _ _ _ (fun _ _ e => e) (wpAny_holding ?_)))))))
 rw [PySem.F.store_object.slot.bind]
 refine wpAny_bind (wpAny_pure (wpAny_bind (wpAny_call (codeAny_mono h fun r s' z => ?_))))
 rcases r with x | (v | _ | _ | _) <;> first | exact z | exact wpAny_pure (wpAny_pure z)
theorem vO {t0 : Addr} {Q : Unit -> Shared -> Prop} (X : K.In s.heap) (he : s.heap.get? e = some (cm C none t0))
  (hs : PySem.W.findIn K (.ref C) "__setattr__" = some (some (.builtin "object.__setattr__"))) (hc : PySem.W.clsIn K C = some cd) (hd : cd.hasDict = true) (hl : dM cd.mro = true) (ht : PySem.W.findIn K (.ref C) name = some none)
  (hq : ∀ h' : Heap, h'.get? e = some (cm C (some s.heap.objs.size) t0) -> h'.Ns1 s.heap.objs.size (fun y => if y = name then some v else none) ->
   (∀ b o, b ≠ e -> s.heap.get? b = some o -> h'.get? b = some o) -> Q () { s with heap := h', toks := s.toks + 2 }) :
  wpAny (model prog w) A (setAttr (.ref e) name v) Q E s := by
 refine uw X he rfl hs (vP (s := { s with toks := s.toks + 1 }) X he rfl hc hl ht fun b => ?_)
 refine wpAny_bind (wpAny_pure (wpAny_bind (wpAny_bind (wpAny_loadPart he (wpAny_bind (PySem.W.Looks.here (s := { s with toks := s.toks + 1 }) (PySem.W.looks_clsIn X hc) ?_))))))
 rw [hd]
 refine wpAny_bind (wpAny_alloc ?_)
 have he2 := Heap.get?_push_of_some { cls := .type "dict", data := .dict #[] } he
 refine wpAny_bind (wpAny_update he2 (wpAny_pure ?_))
 have hu : ((s.heap.push { cls := .type "dict", data := .dict #[] }).update e fun o => { o with dict := some s.heap.objs.size }).get? e = some (cm C (some s.heap.objs.size) t0) := Heap.get?_update_self _ he2 rfl
 have hne : s.heap.objs.size ≠ e := Nat.ne_of_gt (Heap.lt_size he)
 have hn : ((s.heap.push { cls := .type "dict", data := .dict #[] }).update e fun o => { o with dict := some s.heap.objs.size }).Ns1 s.heap.objs.size fun _ => none := by
  refine Heap.Ns1.of_empty ((Heap.Ns.new s.heap (.type "dict")).sameBut (Heap.SameBut.update ..) hne)
 refine wpAny_bind (wpAny_pure (wpAny_bind ?_))
 refine wpAny_nsSet1 hn fun h' hn2 hs2 => ?_
 obtain ⟨oD, esD, epD, hoD, hdD, hcD⟩ := hn2.count (PySem.Within.cons name v PySem.Within.nil)
 refine wpAny_bind (wpAny_lookBehind hoD (by rw [hdD]; exact pastItsLine_dict (Nat.le_trans hcD (by show 1 <= sizeLine + 1; decide))) ?_)
 refine wpAny_pure (hq h' ((hs2.2 _ (Ne.symm hne)).trans hu) hn2 fun b o hb e1 => ?_)
 have hbs : b ≠ s.heap.objs.size := Nat.ne_of_lt (Heap.lt_size e1)
 refine (hs2.2 _ hbs).trans ?_
 rw [Heap.get?_update_other _ _ (Ne.symm hb)]
 exact Heap.get?_push_of_some _ e1
theorem uv {bm : List Value} {dx : Option Addr} {t0 : Addr} {env : Env} {M : Model} {x : Sem Value} {Q : Flow -> Shared -> Prop} (hh : A.handled = none)
  (h : wpAny M A x (fun v s₁ => ∃ e t0 dx C bm, v = .ref e /\ XShape s₁.heap C bm /\ s₁.heap.get? e = some (cm C dx t0) /\ E (.ref e) s₁) E s) : wpAny M A (raiseStmt env (some x) none) Q E s := by
 unfold raiseStmt
 refine wpAny_bind (wpAny_mono h (fun v s₁ h₁ => ?_) fun _ _ x => x)
 obtain ⟨e, t0, dx, C, bm, rfl, S, he, hE⟩ := h₁
 obtain ⟨⟨nm, q, N, bs, hdct, sn, sub, ab, col, dd, k0, k1, k2, k3, k5, hC⟩, hV, hB, hA, hN⟩ := S
 have hcB : (Value.ref C :: bm).contains (.type "BaseException") = true := by rw [List.contains_cons, hB, Bool.or_true]
 have he' : s₁.heap.get? e = some { cls := .ref C, dict := dx, data := .fields #[.ref t0, .none, .none, .none, .bool false, .none] } := he
 obtain ⟨hp, g, d, tk, os⟩ := s₁
 repeat (first | with_reducible refine wpAny_loadPart_at he' ?_ | with_reducible refine wpAny_loadPart_at hC ?_ | (with_reducible refine wpAny_isSubtype_exc hC ?_; rw [hcB]) | wp_step)
 exact wpAny_raiseNew_none hh hE
end
end L2
namespace L2
open PySem PySem.Spec PyProof.Rows
def cY (C x : Addr) (dx : Option Addr) : HO := .ext fun h => ∃ t, h.get? x = some (cm C dx t)
theorem bf.there {P : Program} {w : World} {H : Hp} {h : Heap} {a : Addr} {o : HO} (x : bf P w H h a o) : ∃ ob, h.get? a = some ob := by
 cases o with
 | lst xs => obtain ⟨_, _, _, _, e⟩ := x; exact ⟨_, e⟩
 | tup xs => obtain ⟨_, _, _, _, e, _⟩ := x; exact ⟨_, e⟩
 | dK kvs => obtain ⟨_, _, _, _, o, _, _, e, _⟩ := x; exact ⟨_, e⟩
 | dT kvs => obtain ⟨_, _, _, _, o, _, _, e, _⟩ := x; exact ⟨_, e⟩
 | set S n => obtain ⟨o, _, _, _, e, _⟩ := x; exact ⟨_, e⟩
 | ins C dx fs => obtain ⟨_, _, _, e, _⟩ := x; exact ⟨_, e⟩
 | own y => exact x
 | xd fs => obtain ⟨_, ⟨_, _, _, e, _⟩, _⟩ := x; exact ⟨_, e⟩
 | rng lo hi => obtain ⟨_, _, _, e⟩ := x; exact ⟨_, e⟩
 | frz ob u => obtain ⟨e, _⟩ := x; exact ⟨_, e⟩
 | tbl ps => exact ⟨_, (show h.get? a = some _ from x)⟩
 | met f y => exact ⟨_, (show h.get? a = some _ from x)⟩
 | ext φ => obtain ⟨_, e, _⟩ := x; exact e
theorem mJ {P : Program} {w : World} {H : Hp} {h : Heap} {C x t : Addr} {dx : Option Addr} (e : h.get? x = some (cm C dx t)) : bf P w H h x (cY C x dx) :=
 ⟨⟨t, e⟩, ⟨_, e⟩, fun _ _ ⟨t, e1⟩ k => ⟨t, k _ e1⟩⟩
theorem iS {P : Program} {w : World} {H : Hp} {h : Heap} {C x : Addr} {dx : Option Addr} (q : bf P w H h x (cY C x dx)) : ∃ t, h.get? x = some (cm C dx t) := q.1
def d7 (H : Hp) (x : Addr) : Hp := fun b => if b = x then none else H b
theorem uA {H : Hp} {x : Addr} : d7 H x x = none := by unfold d7; rw [if_pos rfl]
theorem gl {H : Hp} {x b : Addr} (h : b ≠ x) : d7 H x b = H b := by unfold d7; rw [if_neg h]
theorem uz {H : Hp} {x b : Addr} {o : HO} (h : d7 H x b = some o) : b ≠ x /\ H b = some o := by
 unfold d7 at h
 split at h
 ·cases h
 ·exact ⟨by assumption, h⟩
structure Flown (P : Program) (w : World) (outer : List Env) (H : Hp) (s : Shared) (E : XK) (x C : Addr) (H' : Hp) (s' : Shared) : Prop where
 os : s'.os = s.os
 bare : AllBare s'.gens
 un : Un (frs outer) [] H H' s.heap s'.heap
 hok : HOk P w H' s'.heap
 tr : ∃ (oe : Obj) (vs : Array Value) (T : Addr) (oT : Obj) (ts : Array Value) (a0 : Value), s'.heap.get? x = some oe /\ (oe.cls = .ref C /\ vs[0]? = some a0) /\ oe.data = .fields vs /\ vs[1]? = some (.ref T) /\ T ≠ x /\ s'.heap.get? T = some oT /\ oT.data = .fields ts /\ ts[3]? = some .none /\ H' T = none /\ s.heap.get? T = none
 xn : H' x = none
 xs : s.heap.get? x = none
 wish : E (.ref C) none H'
def CXE (P : Program) (w : World) : CXT := fun outer H s E e s' => ∃ x C H', e = .ref x /\ Flown P w outer H s E x C H' s'
theorem m9 {X : Cx} {pins : List (Addr × Obj)} {σ : St} {H H' : Hp} {s s' : Shared} {h' : Heap} {ext : List Addr} {x C : Addr} {a0 : Value} {E : XK} (I : Inv X pins σ H s) (hst : X.stack = X.env :: X.outer) (hfr : X.env.frame = some X.env.locals) (hex : X.ex = [])
  (os : s'.os = X.s₀.os) (bare : AllBare s'.gens) (U0 : Un (frs X.stack) [] X.H₀ H' X.s₀.heap s'.heap) (hok : HOk X.prog X.w H' s'.heap) (hfn : ∀ b ∈ frs X.stack, H' b = none)
  (hext : ∀ b ∈ ext, X.s₀.heap.get? b = none /\ H' b = none) (hx : x ∈ ext) (wish : E (.ref C) none H')
  (L : Heap.LeftW (PySem.W.hideAll s'.heap (ext ++ frs X.stack)) (X.env :: X.outer) x (.ref C) a0 s'.heap h') : Flown X.prog X.w X.outer X.H₀ X.s₀ E x C H' { s' with heap := h' } := by
 obtain ⟨L1, L2, L3, L4⟩ := L
 have fsub : ∀ b ∈ frs X.outer, b ∈ frs X.stack := fun b hb => by
  rw [hst]; unfold frs; rw [List.filterMap_cons, hfr]; exact List.mem_cons_of_mem _ hb
 have fcase : ∀ b ∈ frs X.stack, b = X.env.locals \/ b ∈ frs X.outer := fun b hb => by
  rw [hst] at hb; unfold frs at hb; rw [List.filterMap_cons, hfr] at hb
  exact List.mem_cons.mp hb
 have nel : ∀ b o, X.s₀.heap.get? b = some o -> b ≠ X.env.locals := fun b o e => Nat.ne_of_lt (Nat.lt_of_lt_of_le (Heap.lt_size e) I.ok.above)
 have stay : ∀ b o, s'.heap.get? b = some o -> b ∉ ext -> b ∉ frs X.stack -> h'.get? b = some o := fun b o e h1 h2 =>
  L1 b o (PySem.W.hideAll_get _ e fun hm => (List.mem_append.mp hm).elim h1 h2)
 have nex : ∀ b o, X.s₀.heap.get? b = some o -> b ∉ ext := fun b o e hb => by rw [(hext b hb).1] at e; cases e
 have mem2 : ∀ b ∈ frs X.stack, ∃ o, h'.get? b = some o /\ ∀ vs, o.data ≠ .fields vs := fun b hb => (L2.mem (by rw [← hst]; exact hb)).2
 obtain ⟨oe, vs, T, oT, ts, he, hc, hd, h1, hnT, hTe, hT, hdT, h3⟩ := L3
 have hTT : H' T = none /\ X.s₀.heap.get? T = none := by
  by_cases hm : T ∈ ext ++ frs X.stack
  ·rcases List.mem_append.mp hm with hm | hm
   ·exact ⟨(hext T hm).2, (hext T hm).1⟩
   ·obtain ⟨o, e, nf⟩ := mem2 T hm
    rw [hT] at e; cases e
    exact absurd hdT (nf ts)
  ·have hs : s'.heap.get? T = none := by
    cases q : s'.heap.get? T with
    | none => rfl
    | some o => rw [PySem.W.hideAll_get _ q hm] at hnT; cases hnT
   constructor
   ·cases q : H' T with
    | none => rfl
    | some o => obtain ⟨ob, e⟩ := (hok T o q).there; rw [hs] at e; cases e
   ·cases q : X.s₀.heap.get? T with
    | none => rfl
    | some o => obtain ⟨ob, e⟩ := U0.there T o q (by simp); rw [hs] at e; cases e
 refine ⟨os, bare, ⟨fun b o e n hb _ => ?_, fun b o e n hb _ => ?_, fun b o e n hb => U0.free b o e n hb, fun b o e _ => ?_, U0.tups, U0.frzs, U0.tbls⟩, fun a o e => ?_, ⟨oe, vs, T, oT, ts, a0, he, hc, hd, h1, hTe, hT, hdT, h3, hTT.1, hTT.2⟩, (hext x hx).2, (hext x hx).1, wish⟩
 ·have nf : b ∉ frs X.stack := fun z => (fcase b z).elim (nel b o e) hb
  exact stay b o (U0.keep b o e n nf (by simp)) (nex b o e) nf
 ·obtain ⟨sl, e1⟩ := U0.slot b o e n (fsub b hb) (by simp)
  obtain ⟨_, o', e2, nf⟩ := I.ok.funs.mem hb
  rw [e] at e2; cases e2
  obtain ⟨sl', e3⟩ := L4 b _ e1 nf
  exact ⟨sl', e3⟩
 ·obtain ⟨o', e1⟩ := U0.there b o e (by simp)
  by_cases hb : b ∈ frs X.stack
  ·obtain ⟨o2, e2, _⟩ := mem2 b hb
   exact ⟨o2, e2⟩
  ·exact ⟨o', stay b o' e1 (nex b o e) hb⟩
 ·refine (hok a o e).stay (fun b u hb e1 => ?_) (fun _ q => q) fun _ _ q => q
  have hb' : H' b ≠ none := by
   rcases hb with rfl | hb
   ·rw [e]; simp
   ·rw [hb]; simp
  exact stay b u e1 (fun z => hb' (hext b z).2) fun z => hb' (hfn b z)
theorem ng {h base : Heap} {as : List Addr} {l : List Env} (hl : h.FunFrames base l) (hin : ∀ b ∈ frs l, b ∈ as) : h.FunFrames (PySem.W.hideAll h as) l :=
 PySem.W.funFrames_hide hl fun env he a ha => hin a (by unfold frs; exact List.mem_filterMap.mpr ⟨env, he, ha⟩)
theorem yR {X : Cx} {E E' : XK} (hst : X.stack = X.env :: X.outer) (hfr : X.env.frame = some X.env.locals) (hex : X.ex = []) (hE : ∀ cls dx H, E' cls dx H -> E cls dx H)
  {pins : List (Addr × Obj)} {σ : St} {H : Hp} {s s' : Shared} {e : Value} (I : Inv X pins σ H s) (h : CXE X.prog X.w X.stack H s E' e s') {E1 : Value -> Shared -> Prop} :
  wpAny (model X.prog X.w) X.A (leaving X.env e) (fun _ s'' => CXE X.prog X.w X.outer X.H₀ X.s₀ E e s'') E1 s' := by
 obtain ⟨x, C, H', rfl, os, bare, un, hok, ⟨oe, vs, T, oT, ts, a0, he, hc, hd, h1, hTe, hT, hdT, h3, hTn, hTs⟩, xn, xs, wish⟩ := h
 have nofs : ∀ b ∈ X.fs, b ∈ frs X.stack := fun b hb => by
  rw [hst]; unfold frs; rw [List.filterMap_cons, hfr]; exact List.mem_cons_of_mem _ hb
 have hU : Un (frs X.stack) [] X.H₀ H X.s₀.heap s.heap := by
  have b := I.base
  rw [hex] at b
  exact b.mono nofs fun _ z => z
 have U0 := hU.trans un
 have old : ∀ b, s.heap.get? b = none -> X.s₀.heap.get? b = none := fun b e => by
  cases q : X.s₀.heap.get? b with
  | none => rfl
  | some o => obtain ⟨o', e'⟩ := hU.there b o q (by simp); rw [e] at e'; cases e'
 have hstk := I.stack
 have hfun : s'.heap.FunFrames X.base X.stack := by
  have all : ∀ (l : List Env), (∀ b ∈ frs l, b ∈ frs X.stack) -> s.heap.FunFrames X.base l -> s'.heap.FunFrames X.base l := by
   intro l
   induction l with
   | nil => intro _ _; trivial
   | cons env r ih =>
    intro hs hl
    obtain ⟨hk, ⟨L, o, hf, hn, ho, hdd⟩, hr⟩ := hl
    have hL : L ∈ frs X.stack := hs L (by unfold frs; rw [List.filterMap_cons, hf]; exact List.mem_cons_self)
    obtain ⟨sl, e⟩ := un.slot L o ho (I.stkFree L hL) hL (by simp)
    exact ⟨hk, ⟨L, _, hf, hn, e, hdd⟩, ih (fun b hb => hs b (by unfold frs; rw [List.filterMap_cons, hf]; exact List.mem_cons_of_mem _ hb)) hr⟩
  exact all X.stack (fun _ hb => hb) hstk
 have hfn : ∀ b ∈ frs X.stack, H' b = none := fun b hb => by
  obtain ⟨_, o, ho, _⟩ := hstk.mem hb
  exact un.free b o ho (I.stkFree b hb) (by simp)
 have hin : ∀ b ∈ frs X.stack, b ∈ [x, T] ++ frs X.stack := fun b hb => List.mem_append_right _ hb
 have hF : s'.heap.FunFrames (PySem.W.hideAll s'.heap ([x, T] ++ frs X.stack)) (X.env :: X.outer) := by
  have z := ng hfun hin
  rw [hst] at z ⊢
  exact z
 refine wpAny_leaving_nextW (base := PySem.W.hideAll s'.heap ([x, T] ++ frs X.stack)) (by rw [← hst]; exact I.ok.frames) hF hfr ⟨oe, vs, T, oT, ts, he, hc, hd, h1, PySem.W.hideAll_none _ (by simp), hTe, hT, hdT, h3⟩ (fun b o q => PySem.W.of_hideAll _ q) (PySem.W.hideAll_none _ (by simp)) fun h' L => ?_
 refine ⟨x, C, H', rfl, m9 I hst hfr hex (os.trans I.os) bare U0 hok hfn (fun b hb => ?_) (by simp) (hE _ _ _ wish) L⟩
 rcases List.mem_cons.mp hb with rfl | hb
 ·exact ⟨old _ xs, xn⟩
 ·obtain rfl : b = T := by simpa using hb
  exact ⟨old _ hTs, hTn⟩
theorem vf {X : Cx} {E : XK} (hst : X.stack = X.env :: X.outer) (hfr : X.env.frame = some X.env.locals) (hex : X.ex = [])
  {pins : List (Addr × Obj)} {σ : St} {H : Hp} {s : Shared} {x C : Addr} {dx : Option Addr} (I : Inv X pins σ H s) (hH : H x = some (cY C x dx)) (h0 : X.H₀ x = none) (wish : E (.ref C) none (d7 H x)) {E1 : Value -> Shared -> Prop} :
  wpAny (model X.prog X.w) X.A (leaving X.env (.ref x)) (fun _ s'' => CXE X.prog X.w X.outer X.H₀ X.s₀ E (.ref x) s'') E1 s := by
 obtain ⟨t, he⟩ := iS (I.hok x _ hH)
 have nofs : ∀ b ∈ X.fs, b ∈ frs X.stack := fun b hb => by
  rw [hst]; unfold frs; rw [List.filterMap_cons, hfr]; exact List.mem_cons_of_mem _ hb
 have hU : Un (frs X.stack) [] X.H₀ H X.s₀.heap s.heap := by
  have b := I.base
  rw [hex] at b
  exact b.mono nofs fun _ z => z
 have xs : X.s₀.heap.get? x = none := by
  cases q : X.s₀.heap.get? x with
  | none => rfl
  | some o => have := hU.free x o q h0 (by simp); rw [hH] at this; cases this
 have ne : ∀ b o, H b = some o -> (∀ φ, o ≠ .ext φ) -> b ≠ x := fun b o e hn z => by subst z; rw [hH] at e; cases e; exact hn _ rfl
 have U0 : Un (frs X.stack) [] X.H₀ (d7 H x) X.s₀.heap s.heap := by
  refine ⟨hU.keep, hU.slot, fun b o e n hb => ?_, hU.there, fun b ys q => ?_, fun b o u q => ?_, fun b ps q => ?_⟩
  ·unfold d7; split
   ·rfl
   ·exact hU.free b o e n hb
  ·have := hU.tups b ys q
   rw [gl (ne b _ this fun _ z => by cases z)]; exact this
  ·have := hU.frzs b o u q
   rw [gl (ne b _ this fun _ z => by cases z)]; exact this
  ·obtain ⟨more, this⟩ := hU.tbls b ps q
   exact ⟨more, by rw [gl (ne b _ this fun _ z => by cases z)]; exact this⟩
 have hok : HOk X.prog X.w (d7 H x) s.heap := fun a o e => by
  obtain ⟨na, e'⟩ := uz e
  refine (I.hok a o e').stay (fun _ _ _ q => q) (fun b q => ?_) fun b ys q => ?_
  ·rw [gl (ne b _ q fun _ z => by cases z)]; exact q
  ·rw [gl (ne b _ q fun _ z => by cases z)]; exact q
 have hstk := I.stack
 have hfn : ∀ b ∈ frs X.stack, d7 H x b = none := fun b hb => by
  unfold d7; split
  ·rfl
  ·exact I.stkFree b hb
 have hF : s.heap.FunFrames (PySem.W.hideAll s.heap ([x] ++ frs X.stack)) (X.env :: X.outer) := by
  have z := ng hstk (as := [x] ++ frs X.stack) fun b hb => List.mem_append_right _ hb
  rw [hst] at z ⊢
  exact z
 refine wpAny_leaving_firstW (base := PySem.W.hideAll s.heap ([x] ++ frs X.stack)) (a0 := .ref t) (by rw [← hst]; exact I.ok.frames) hF hfr he (fun b o q => PySem.W.of_hideAll _ q) (PySem.W.hideAll_none _ (by simp)) rfl rfl rfl fun h' L => ?_
 refine ⟨x, C, d7 H x, rfl, m9 (ext := [x]) I hst hfr hex I.os I.bare U0 hok hfn (fun b hb => ?_) (by simp) wish L⟩
 obtain rfl : b = x := by simpa using hb
 exact ⟨xs, uA⟩
section
variable {X : Cx} {pins : List (Addr × Obj)} {σ : St} {H H' : Hp} {s s' : Shared} {E : XK} {x C : Addr}
end
section
variable {X : Cx}
end
section
variable {X : Cx}
end
structure XC (K : Frag) (C : Addr) : Prop where
 sh : ∃ bm, ∀ h : Heap, K.In h -> XShape h C bm
 sa : PySem.W.findIn K (.ref C) "__setattr__" = some (some (.builtin "object.__setattr__"))
 cd : ∃ cd, PySem.W.clsIn K C = some cd /\ cd.hasDict = true /\ dM cd.mro = true
theorem nT {K : Frag} {C N : Addr} {nm q : Str} {bs bm : List Value} {hdct : Bool} {sn : List Str} {sub : List Value} {ab : Bool} {col : Option Bool} {dd : Option Addr} {k0 k1 k2 k3 k5 : Option Value} {cd : ClassData}
  (l : K.lookup C = some (excClassObj nm q C N bs bm hdct sn sub ab col dd k0 k1 k2 k3 k5 "ValueError.__new__")) (sa : PySem.W.findIn K (.ref C) "__setattr__" = some (some (.builtin "object.__setattr__"))) (c : PySem.W.clsIn K C = some cd)
  (h1 : (bm.contains (.type "ValueError") && bm.contains (.type "BaseException") && !bm.contains (.type "AttributeError") && !bm.contains (.type "NameError") && cd.hasDict && dM cd.mro) = true) : XC K C := by
 simp only [Bool.and_eq_true, Bool.not_eq_true'] at h1
 obtain ⟨⟨⟨⟨⟨a, b⟩, c'⟩, d⟩, e⟩, f⟩ := h1
 exact ⟨⟨bm, fun h X => ⟨⟨nm, q, N, bs, hdct, sn, sub, ab, col, dd, k0, k1, k2, k3, k5, X _ _ l⟩, a, b, c', d⟩⟩, sa, cd, c, e, f⟩
structure XMk (K : Frag) (C f : Addr) : Prop where
 xc : XC K C
 init : PySem.W.findIn K (.ref C) "__init__" = some (some (.ref f))
 fn : PySem.W.isFn K (.ref f) = true
 kp : PySem.W.keepIn K (.ref C) = true
section
variable {X : Cx} {CX : CXT} {k : Nat} {f C : Addr} {fd : FuncData} {ps : List Str} {sp : Sp} {dvs : List V} {ds : List Value} {E : St -> XK} {x m : Str} {p pos apos : Pos} {e o : Expr} {es : List Expr} {ta : TE} {t : TA}
def zS (C : Addr) (sp : Sp) (dvs : List V) (E : St -> XK) (t : TA) : TE := fun σ H Q => t σ H fun vs H1 => vs.length <= sizeLine /\ ∀ x, H1 x = none ->
 sp (.ref x :: (vs ++ dvs)) (upd H1 x (cY C x none)) (fun v H2 => v = .non /\ Q (.ref x) H2) (E σ)
theorem yE {pins : List (Addr × Obj)} {σ : St} {H : Hp} {s : Shared} {Q : VK} {us : List Value} {vs : List V} (M : XMk X.K C f) (F : FnOk X.prog X.w X.K X.mg X.base CX k f fd ps sp) (hr : Room (k + 1) X.A) (hb : aG X.K fd ps ds) (hd : ar dvs ds)
  (hx : bQ CX X E) (I : Inv X pins σ H s) (r : ar vs us) (hz : vs.length <= sizeLine)
  (h : ∀ x, H x = none -> sp (.ref x :: (vs ++ dvs)) (upd H x (cY C x none)) (fun v H2 => v = .non /\ Q (.ref x) H2) (E σ)) :
  wpAny (model X.prog X.w) X.A (call (.ref C) us) (EP X pins σ Q) X.xe s := by
 have hq := h (s.heap.objs.size + 1) (I.hok.fresh (Nat.le_succ _))
 obtain ⟨bm, sh⟩ := M.xc.sh
 have I1 : Inv X pins σ H { s with heap := s.heap.push { cls := .type "tuple", data := .seq us.toArray } } := I.kept (t' := s.toks) fun b o q => Heap.get?_push_of_some _ q
 have eX : ((s.heap.push { cls := .type "tuple", data := .seq us.toArray }).push (cm C none s.heap.objs.size)).get? (s.heap.objs.size + 1) = some (cm C none s.heap.objs.size) := by
  have := Heap.get?_push_size (s.heap.push { cls := .type "tuple", data := .seq us.toArray }) (o := cm C none s.heap.objs.size) rfl
  rwa [Heap.size_push] at this
 have I2 : Inv X pins σ (upd H (s.heap.objs.size + 1) (cY C (s.heap.objs.size + 1) none)) { s with heap := (s.heap.push { cls := .type "tuple", data := .seq us.toArray }).push (cm C none s.heap.objs.size) } :=
  I1.laid (a := s.heap.objs.size + 1) (o := cY C (s.heap.objs.size + 1) none) (t' := s.toks) (fun b u q => Heap.get?_push_of_some _ q) (Nat.le_of_eq (Heap.size_push _ _)) (mJ eX)
 have r2 : ar (V.ref (s.heap.objs.size + 1) :: (vs ++ dvs)) (Value.ref (s.heap.objs.size + 1) :: (us ++ ds)) := .cons rfl (r.append hd)
 have hl : (Value.ref (s.heap.objs.size + 1) :: us ++ ds).length = ps.length := by
  have e := r2.length
  rw [F.len _ _ _ _ hq] at e
  exact e.symm
 have hcall : wpAny (model X.prog X.w) (X.A.under (.builtin "type.__call__" ⟨.ref C :: us, []⟩)) (call (.ref f) (.ref (s.heap.objs.size + 1) :: us)) (fun r s' => r = .none /\ EP X pins σ Q (.ref (s.heap.objs.size + 1)) s') X.xe
   { s with heap := (s.heap.push { cls := .type "tuple", data := .seq us.toArray }).push (cm C none s.heap.objs.size) } := by
  refine wpAny_call (codeAny_mono (F.run _ X.stack _ _ ⟨Value.ref (s.heap.objs.size + 1) :: us, []⟩ (Value.ref (s.heap.objs.size + 1) :: (us ++ ds)) _ _ (E σ) (hr.make C us [])
   (I2.env0.make C us []) (hb _ (Value.ref (s.heap.objs.size + 1) :: us) I2.kIn hl) r2 hq) fun r s' hq' => ?_)
  cases r with
  | error e => exact hx pins σ _ _ e s' I2 hq'
  | ok fl =>
   cases fl with
   | ret u =>
    obtain ⟨v, H', I3, rv, ev, q3⟩ := I2.after hq'
    subst ev
    exact ⟨rv, ⟨V.ref (s.heap.objs.size + 1), H', I3, rfl, q3⟩⟩
   | next => exact False.elim hq'
   | brk => exact False.elim hq'
   | cont => exact False.elim hq'
 obtain ⟨hh, g, d, tk, os⟩ := s
 exact vQ I.kIn (sh _ I.kIn) M.init M.fn (by rw [← r.length]; exact hz) hcall
theorem fK (M : XMk X.K C f) (F : FnOk X.prog X.w X.K X.mg X.base CX k f fd ps sp) (hr : Room (k + 1) X.A) (hg : Gl X x) (hm : X.mg x = some (.ref C)) (hb : aG X.K fd ps ds) (hd : ar dvs ds) (hx : bQ CX X E)
  (ha : PA X (e :: es) t) (hdb : (x == ("__debug__" : Str)) = false := by decide) (he : starEach (e :: es) X.env = (false, eval e X.env) :: starEach es X.env := by rfl) (hpl : (backTo pos (starEach es X.env)).any (·.1) = false := by rfl) :
  PE X (.Call (.Name x p) (e :: es) [] pos) (zS C sp dvs E t) := by
 intro pins s σ H Q I h
 refine wpAny_Call_Name_kw (gj I hg hm ?_ hdb)
 refine PySem.W.callWith_K (h₀ := X.base) I.ok.mod.kin M.kp (thn (ha pos pins s σ H _ I h) fun us s1 ⟨vs, H1, I1, r, hz, q⟩ => ⟨I1.kIn, ?_⟩) he hpl
 exact yE M F hr hb hd hx I1 r hz q
structure ClsFn (K : Frag) (D : Addr) (m : Str) (f : Addr) : Prop where
 ga : PySem.W.specialIn K (.ref D) "__getattribute__" = some (some (.builtin "type.__getattribute__"))
 rd : PySem.W.readsIn K D (.type "type") = true
 fnd : PySem.W.findCls K (.ref D) (.type "type") m = some (.val (.ref f))
 kp : PySem.W.keepIn K (.ref f) = true
theorem f6 {D : Addr} {pl : Sem Bool} (c : ClsFn X.K D m f) (F : FnOk X.prog X.w X.K X.mg X.base CX k f fd ps sp) (hr : Room k X.A) (hg : Gl X x) (hm : X.mg x = some (.ref D)) (hb : aG X.K fd ps ds) (hd : ar dvs ds) (hx : bQ CX X E)
  (ha : PA X (e :: es) t) (hdb : (x == ("__debug__" : Str)) = false := by decide) (hst : starEach (e :: es) X.env = (false, eval e X.env) :: starEach es X.env := by rfl) (hpl : (backTo pos (starEach es X.env)).any (·.1) = false := by rfl)
  (ht : eval (.Call (.Attribute (.Name x p) m apos) (e :: es) [] pos) X.env = (do
   let ov ← eval (.Name x p) X.env
   standAt apos.atName
   let (f, first) ← holding [ov] (getMethod ov m pl)
   callWith pos f first (backTo pos (starEach (e :: es) X.env)) (backToKw pos (keywordEach [] X.env))) := by rfl) :
  PE X (.Call (.Attribute (.Name x p) m apos) (e :: es) [] pos) (xL sp dvs E t) := by
 intro pins s σ H Q I h
 refine PySem.W.methodCall_KW (pl := pl) (gj I hg hm ?_ hdb) ht
 refine PySem.W.method_cls I.kIn c.ga (PySem.W.cls_value I.kIn c.rd c.fnd rfl ?_)
 have I1 := I.tok (s.toks + 1)
 refine PySem.W.callWith_K (first := []) (h₀ := X.base) I.ok.mod.kin c.kp (thn (ha pos pins _ σ H _ I1 h) fun us s2 ⟨vs, H2, I2, r, q2⟩ => ⟨I2.kIn, ?_⟩) hst hpl
 exact k9 F hr hb hd hx I2 r q2
def tVin (K : Frag) (t : TA) : TE := fun σ H Q => t σ H fun vs H1 => ∃ x C dx rest, vs = .ref x :: rest /\ rest.length <= sizeLine /\ H1 x = some (cY C x dx) /\ XC K C /\ Q .non (upd H1 x (cY C x dx))
theorem rT {pins : List (Addr × Obj)} {σ : St} {H : Hp} {s : Shared} {Q : VK} {us : List Value} {vs : List V} (I : Inv X pins σ H s) (r : ar vs us)
  (h : ∃ x C dx rest, vs = .ref x :: rest /\ rest.length <= sizeLine /\ H x = some (cY C x dx) /\ XC X.K C /\ Q .non (upd H x (cY C x dx))) : wpAny (model X.prog X.w) X.A (call (.builtin "ValueError.__init__") us) (EP X pins σ Q) X.xe s := by
 obtain ⟨x, C, dx, rest, rfl, hz, hx, c, q⟩ := h
 cases r with
 | cons r1 r2 =>
  cases r1
  obtain ⟨t0, he⟩ := iS (I.hok x _ hx)
  obtain ⟨bm, sh⟩ := c.sh
  obtain ⟨hh, g, d, tk, os⟩ := s
  refine uu (sh _ I.kIn) he (by rw [← r2.length]; exact hz) fun h' e1 keep => ?_
  have I2 : Inv X pins σ (upd H x (cY C x dx)) ⟨h', g, d, tk, os⟩ := I.write (t' := tk) (x := x) (e := x) (by rw [hx]; exact True.intro) (.inl rfl) (fun b u hb q => keep b u hb q) ⟨_, e1⟩ (mJ e1)
  exact ⟨.non, _, I2, rfl, q⟩
theorem yr : typeOf (.type "ValueError") = pure (.type "type") := by kernel_rfl
theorem yt : Manifest.isStub "ValueError" = false := by decide +kernel
theorem yu {K : Frag} : PySem.W.findCls K (.type "ValueError") (.type "type") "__init__" = some (.val (.builtin "ValueError.__init__")) := by kernel_rfl
set_option maxHeartbeats 4000000 in
theorem va {pl : Sem Bool} (hg : Gl X "ValueError") (hm : X.mg "ValueError" = none) (ha : PA X (e :: es) t) (hst : starEach (e :: es) X.env = (false, eval e X.env) :: starEach es X.env := by rfl) (hpl : (backTo pos (starEach es X.env)).any (·.1) = false := by rfl)
  (ht : eval (.Call (.Attribute (.Name "ValueError" p) "__init__" apos) (e :: es) [] pos) X.env = (do
   let ov ← eval (.Name "ValueError" p) X.env
   standAt apos.atName
   let (f, first) ← holding [ov] (getMethod ov "__init__" pl)
   callWith pos f first (backTo pos (starEach (e :: es) X.env)) (backToKw pos (keywordEach [] X.env))) := by rfl) :
  PE X (.Call (.Attribute (.Name "ValueError" p) "__init__" apos) (e :: es) [] pos) (tVin X.K t) := by
 intro pins s σ H Q I h
 obtain ⟨m, F⟩ := I.fr
 refine PySem.W.methodCall_KW (pl := pl) (fP I hg hm PyProof.Rows.Boot.«ValueError» ?_) ht
 refine PySem.W.method_type (v := .builtin "ValueError.__init__") F I.mod.kin yr yt yu rfl ?_
 have I1 := I.tok (s.toks + 1)
 exact PyProof.Rows.callWith_builtin1 (thn (ha pos pins _ σ H _ I1 h) fun us s1 ⟨vs, H1, I2, r1, q1⟩ => rT I2 r1 q1) hst hpl
def z6 (K : Frag) (ta tv : TE) (f : Str) : TS := fun D σ H => tv σ H fun y H1 => ta σ H1 fun x H2 => ∃ a C, x = .ref a /\ H2 a = some (cY C a none) /\ XC K C /\ PySem.W.findIn K (.ref C) f = some none /\
 ∀ d, H2 d = none -> d ≠ a -> D.nx σ (upd (upd H2 d (.xd [(f, y)])) a (cY C a (some d)))
theorem u4 {o value : Expr} {f : Str} {pos' : Pos} {tv : TE} (ha : PE X o ta) (hv : PE X value tv) (hs : swapsWith value (some (.Attribute o f pos')) pos.line X.env = pure false) : PS X (.Assign [.Attribute o f pos'] value pos) (z6 X.K ta tv f) := by
 intro pins s σ H D I h
 refine plainObj_wpAny_Assign_Attribute (thn (hv pins s σ H _ I h) fun u s1 h1_ => ?_) hs
 obtain ⟨y, H1, I1, ry, q⟩ := h1_
 refine thn (ha pins s1 σ H1 _ I1 q) fun ov s2 h_ => ?_
 obtain ⟨x, H2, I2, rx, a, C, ex, ea, c, n, q2⟩ := h_
 subst ex
 obtain rfl : ov = Value.ref a := rx
 obtain ⟨t0, he⟩ := iS (I2.hok a _ ea)
 obtain ⟨cd, c1, c2, c3⟩ := c.cd
 refine vO I2.kIn he c.sa c1 c2 c3 n fun h' e1 n1 keep => ?_
 have hd : H2 s2.heap.objs.size = none := I2.fresh
 have hda : s2.heap.objs.size ≠ a := Nat.ne_of_gt (Heap.lt_size he)
 have od : ∃ o, h'.get? s2.heap.objs.size = some o := let ⟨o, _, _, e, _⟩ := n1; ⟨o, e⟩
 have ne2 : ∀ b o, H2 b = some o -> (∀ φ, o ≠ .ext φ) -> b ≠ a := fun b o e hn z => by subst z; rw [ea] at e; cases e; exact hn _ rfl
 refine ⟨σ, _, I2.un (h' := h') (t' := s2.toks + 2) ⟨fun b o e nb _ _ => keep b o (fun z => by subst z; rw [ea] at nb; cases nb) e, fun b o e nb _ _ => ⟨o.slots, keep b o (fun z => by subst z; rw [ea] at nb; cases nb) e⟩, fun b o e nb _ => ?_, fun b o e _ => ?_, fun b ys e => ?_, fun b o ys e => ?_, fun b ys e => ?_⟩ fun b o e => ?_, q2 _ hd hda⟩
 ·rw [upd_ne (fun z => by subst z; rw [ea] at nb; cases nb), upd_ne (Nat.ne_of_lt (Heap.lt_size e))]; exact nb
 ·by_cases z : b = a
  ·subst z; exact ⟨_, e1⟩
  ·exact ⟨o, keep b o z e⟩
 ·rw [upd_ne (ne2 b _ e fun _ z => by cases z), upd_ne (ne_of_none e hd)]; exact e
 ·rw [upd_ne (ne2 b _ e fun _ z => by cases z), upd_ne (ne_of_none e hd)]; exact e
 ·exact ⟨#[], by rw [upd_ne (ne2 b _ e fun _ z => by cases z), upd_ne (ne_of_none e hd), e]; simp⟩
 ·by_cases z : b = a
  ·subst z
   rw [ax] at e; cases e
   exact mJ e1
  ·rw [upd_ne z] at e
   by_cases z2 : b = s2.heap.objs.size
   ·subst z2
    rw [ax] at e; cases e
    refine ⟨_, n1, fun g => ?_⟩
    by_cases q : g = f
    ·subst q
     simp only [List.lookup_cons, beq_self_eq_true, if_true]
     exact ry
    ·have hb : (g == f) = false := beq_eq_false_iff_ne.mpr q
     simp only [List.lookup_cons, hb, List.lookup_nil, if_neg q]
     trivial
   ·rw [upd_ne z2] at e
    refine (I2.hok b o e).stay (fun c v hc q => keep c v ?_ q) (fun c q => ?_) fun c ys q => ?_
    ·rcases hc with rfl | hc
     ·exact z
     ·exact ne2 c _ hc fun _ z => by cases z
    ·rw [upd_ne (ne2 c _ q fun _ z => by cases z), upd_ne (ne_of_none q hd)]; exact q
    ·rw [upd_ne (ne2 c _ q fun _ z => by cases z), upd_ne (ne_of_none q hd)]; exact q
end
def tm (H₀ : Hp) (K : Frag) (E : XK) (te : TE) : TS := fun _ σ H => te σ H fun v H1 => ∃ x C dx, v = .ref x /\ H1 x = some (cY C x dx) /\ H₀ x = none /\ XC K C /\ E (.ref C) none (d7 H1 x)
section
variable {P : Program} {w : World} {K : Frag} {mg : Str -> Option Value} {base : Heap} {N : List Str} {qual : Str} {scope : Scope} {f : Addr} {cd : Value} {A : Around} {outer : List Env} {s : Shared} {H : Hp} {E : XK}
theorem aF : bQ (CXE P w) (cN (CXE P w) P w K mg base N qual scope f cd A outer s H E) (fun _ => E) := fun pins σ H1 s1 e s' I h => yR (X := cN (CXE P w) P w K mg base N qual scope f cd A outer s H E) rfl rfl rfl (fun _ _ _ z => z) I h
theorem di {X : Cx} : bQ (CXE P w) X E0 := fun _ _ _ _ _ _ _ h => by
 obtain ⟨_, _, _, _, F⟩ := h
 exact F.wish.elim
theorem ci : PassesOwn (model P w) (A.deeper (envOfC qual scope s.heap.objs.size f cd)) (envOfC qual scope s.heap.objs.size f cd) (cN (CXE P w) P w K mg base N qual scope f cd A outer s H E).xe := PassesOwn.leaving
theorem dr {e : Expr} {pos : Pos} {te : TE} (hd : A.handled = none) (he : PE (cN (CXE P w) P w K mg base N qual scope f cd A outer s H E) e te) : PS (cN (CXE P w) P w K mg base N qual scope f cd A outer s H E) (.Raise (some e) none pos) (tm H K E te) := by
 intro pins s1 σ H1 D I h
 rw [arm_exec_Raise]
 refine wpAny_bind (wpAny_standAt ?_)
 refine uv (env := (cN (CXE P w) P w K mg base N qual scope f cd A outer s H E).env) (bm := []) (dx := none) (t0 := 0) hd ?_
 refine wpAny_bind (thn (he pins s1 σ H1 _ I h) fun u s2 h_ => ?_)
 obtain ⟨v, H2, I2, r, x, C, dx, ev, ex, h0, c, q⟩ := h_
 refine wpAny_bind (wpAny_standAt (wpAny_pure ?_))
 subst ev
 obtain rfl : u = Value.ref x := r
 obtain ⟨t0, hex⟩ := iS (I2.hok x _ ex)
 obtain ⟨bm, sh⟩ := c.sh
 exact ⟨x, t0, dx, C, bm, rfl, sh _ I2.kIn, hex, vf (X := cN (CXE P w) P w K mg base N qual scope f cd A outer s H E) rfl rfl rfl I2 ex h0 q⟩
end
structure FunD (K : Frag) (x qual : Str) (st : Stmt) (f : Addr) (fd : FuncData) : Prop where
 ex : ∃ (oc : Value) (od : Option Addr) (dV kV doc pm : Value) (an : Option Addr) (cdv ct : Value) (osl : Array (Option Value)),
  fd = PySem.W.fnOf x qual (gm st) (cg st) (aj st) dV kV doc pm an cdv ct /\ K.lookup f = some ⟨oc, od, .func fd, osl⟩ /\ PySem.W.codeIn K cdv qual = true
 kp : PySem.W.keepIn K (.ref f) = true
theorem zo {K : Frag} {x qual : Str} {st : Stmt} {f : Addr} {oc dV : Value} {od an : Option Addr} {osl : Array (Option Value)} {kV doc pm cdv ct : Value} (l : K.lookup f = some ⟨oc, od, .func (PySem.W.fnOf x qual (gm st) (cg st) (aj st) dV kV doc pm an cdv ct), osl⟩)
  (c : PySem.W.codeIn K cdv qual = true) (k : PySem.W.keepIn K (.ref f) = true) : FunD K x qual st f (PySem.W.fnOf x qual (gm st) (cg st) (aj st) dV kV doc pm an cdv ct) := ⟨⟨oc, od, dV, kV, doc, pm, an, cdv, ct, osl, rfl, l, c⟩, k⟩
section
variable {P : Program} {w : World} {K : Frag} {mg : Str -> Option Value} {base : Heap}
theorem FunD.okE {x qual : Str} {st : Stmt} {f : Addr} {fd : FuncData} {N ps : List Str} {k : Nat} {sp : Sp} (F : FunD K x qual st f fd) (S : FnScope N ps (aj st)) (len : ∀ vs H Q E, sp vs H Q E -> vs.length = ps.length)
  (hbody : ∀ (cdv : Value) (A : Around) (outer : List Env) (s : Shared) (H : Hp) (vs : List V) (Q : VK) (E : XK), Room k (A.deeper (envOfC qual (aj st) s.heap.objs.size f cdv)) -> sp vs H Q E ->
   ∃ t, PSs (cN (CXE P w) P w K mg base N qual (aj st) f cdv A outer s H E) (cg st) t /\ t { nx := fun _ H' => Q .non H', rt := Q } (dR N vs) H) : FnOk P w K mg base (CXE P w) (k + 1) f fd ps sp := by
 obtain ⟨oc, od, dV, kV, doc, pm, an, cdv, ct, osl, rfl, lk, hcd⟩ := F.ex
 exact yg lk hcd S len fun A outer s H vs Q E hr hsp => hbody cdv A outer s H vs Q E hr hsp
theorem FunD.ok {x qual : Str} {st : Stmt} {f : Addr} {fd : FuncData} {N ps : List Str} {k : Nat} {sp : Sp} (F : FunD K x qual st f fd) (S : FnScope N ps (aj st)) (len : ∀ vs H Q E, sp vs H Q E -> vs.length = ps.length)
  (hbody : ∀ (cdv : Value) (A : Around) (outer : List Env) (s : Shared) (H : Hp) (vs : List V) (Q : VK) (E : XK), Room k (A.deeper (envOfC qual (aj st) s.heap.objs.size f cdv)) -> sp vs H Q E ->
   ∃ t, PSs (cN (CXE P w) P w K mg base N qual (aj st) f cdv A outer s H E).nox (cg st) t /\ t { nx := fun _ H' => Q .non H', rt := Q } (dR N vs) H) : FnOk P w K mg base (CXE P w) (k + 1) f fd ps sp := by
 obtain ⟨oc, od, dV, kV, doc, pm, an, cdv, ct, osl, rfl, lk, hcd⟩ := F.ex
 refine yg lk hcd S len fun A outer s H vs Q E hr hsp => ?_
 obtain ⟨t, h, q⟩ := hbody cdv A outer s H vs Q E hr hsp
 exact ⟨t, h.nox, q⟩
end
abbrev TJ := St -> Hp -> Nat -> (Nat -> Hp -> Prop) -> Prop
def PJ (X : Cx) (es : List Expr) (t : TJ) : Prop :=
 ∀ (pins : List (Addr × Obj)) (s : Shared) (σ : St) (H : Hp) (acc : Str) (Q : VK) , Inv X pins σ H s -> acc.length <= sizeLine -> (t σ H acc.length fun n H' => n <= sizeLine /\ ∀ z : Str, z.length <= n -> Q (.str z) H') ->
  wpAny (model X.prog X.w) X.A (joinParts acc (evalEach es X.env)) (EP X pins σ Q) X.xe s
def jNil : TJ := fun _ H n Q => Q n H
def jStr (m : Nat) (t : TJ) : TJ := fun σ H n Q => n + m <= sizeLine /\ t σ H (n + m) Q
def jInt (te : TE) (t : TJ) : TJ := fun σ H n Q => te σ H fun v H1 => ∃ i, v = .int i /\ i.natAbs.log2 < 1920 /\ n + 1921 <= sizeLine /\ ∀ m, m <= n + 1921 -> t σ H1 m Q
def Cn (t : TJ) : TE := fun σ H Q => t σ H 0 fun n H' => n <= sizeLine /\ ∀ z : Str, z.length <= n -> Q (.str z) H'
section
variable {X : Cx} {es : List Expr} {t : TJ} {pos : Pos}
theorem Aj : PJ X [] jNil := fun pins s σ H acc Q I hz h => joinParts_nil ⟨.str acc, H, I.tok _, ⟨_, rfl⟩, h.2 acc (Nat.le_refl _)⟩ hz
theorem Ai {x : Str} {j : Nat} {p : Pos} (h : PJ X es t) (he : evalEach (.Constant (.str x) j p :: es) X.env = eval (.Constant (.str x) j p) X.env :: evalEach es X.env := by rfl) : PJ X (.Constant (.str x) j p :: es) (jStr x.length t) := by
 intro pins s σ H acc Q I hz hq
 rw [he]
 obtain ⟨h1, h2⟩ := hq
 refine joinParts_cons (Calls.Constant_str ?_)
 have e : (acc ++ x).length = acc.length + x.length := strLen_append acc x
 exact ⟨by rw [e]; exact h1, h pins _ σ H (acc ++ x) Q (I.tok _) (by rw [e]; exact h1) (by rw [e]; exact h2)⟩
theorem Ak {v : Expr} {p : Pos} {te : TE} (hv : PE X v te) (h : PJ X es t) (he : evalEach (.FormattedValue v (-1) none p :: es) X.env = eval (.FormattedValue v (-1) none p) X.env :: evalEach es X.env := by rfl) : PJ X (.FormattedValue v (-1) none p :: es) (jInt te t) := by
 intro pins s σ H acc Q I hz hq
 rw [he]
 refine joinParts_cons (FormattedValue_plain (thn (hv pins s σ H _ I hq) fun u s1 ⟨y, H1, I1, r, i, ey, hi, hl, q⟩ => ?_))
 subst ey
 obtain ⟨tk, rfl⟩ := r
 refine wpAny_formatField_int hi ?_
 have e : (acc ++ Str.ofString (toString i)).length = acc.length + (Str.ofString (toString i)).length := strLen_append acc _
 have hb := int_text_len_1921 hi
 have hz2 : (acc ++ Str.ofString (toString i)).length <= sizeLine := by rw [e]; omega
 refine ⟨hz2, h pins _ σ H1 _ Q (I1.tok _) hz2 ?_⟩
 rw [e]
 exact q _ (by omega)
theorem yO {v1 v2 : Expr} {rest : List Expr} (h : PJ X (v1 :: v2 :: rest) t) : PE X (.JoinedStr (v1 :: v2 :: rest) pos) (Cn t) := fun pins s σ H Q I hq =>
 JoinedStr_many (h pins s σ H Str.empty Q I (by decide) hq)
end
section
variable {X : Cx}
theorem nq (hc : X.calm = true) : cZ X (.builtin "sum") (fun xs H Q => ∃ (a : Addr) (ns : List Int), xs = [.ref a] /\ SqL X.K H a (ns.map V.int) /\ Q (.int ns.sum) H) := by
 intro pins s σ H xs us Q I r h
 obtain ⟨a, ns, rfl, hq, q⟩ := h
 cases r with
 | cons r1 r2 =>
  cases r1
  cases r2
  obtain ⟨its, rv, p, hz⟩ := I.list hq
  have hi := lI rv
  obtain ⟨xs, ex⟩ := hi.allInts.items
  have hl := p.isList
  rw [ex] at hl
  refine sum_intListG (I.ok.hd hc) hl fun h' tk t' hk => ?_
  have e : preSum (numAt xs) xs.size = ns.sum := by
   have e1 := hi.numsOf
   have e2 : its = (intItems xs).toList := by rw [← ex]
   rw [e2, nums_intItems] at e1
   rw [preSum_eq, List.take_of_length_le (by simp), e1]
  rw [e]
  exact ⟨.int ns.sum, H, I.kept hk, ⟨_, rfl⟩, q⟩
def ox (i j : Int) : Prop := 0 < j /\ j.natAbs.log2 < 9000
theorem gy : OpR X (binaryOp .FloorDiv) (rI ox fun i j => .int (i / j)) := opI fun i j _ _ _ _ _ hc q => by
 have h1 : (0 : Int) < j := hc.1
 refine floordiv_int (by omega) ?_ (.inl (PyProof.noPylong_of_log2 hc.2))
 rw [Int.fdiv_eq_ediv_of_nonneg _ (by omega)]
 exact q
def ipC (C : Int -> Int -> Prop) (f : Int -> Int -> Int) : TIp := fun x y H Q => ∃ i j, x = .int i /\ y = .int j /\ C i j /\ Q (.int (f i j)) H
theorem zk : PIp X .FloorDiv (ipC ox fun i j => i / j) := by
 intro pins s σ H x y v u Q I r1 r2 h
 obtain ⟨i, j, rfl, rfl, c, q⟩ := h
 obtain ⟨t, rfl⟩ := r1
 obtain ⟨t', rfl⟩ := r2
 have h1 : (0 : Int) < j := c.1
 refine ifloordiv_int (by omega) ?_ (.inl (PyProof.noPylong_of_log2 c.2))
 rw [Int.fdiv_eq_ediv_of_nonneg _ (by omega)]
 exact ⟨.int _, H, I.tok _, ⟨_, rfl⟩, q⟩
theorem sX : ∀ {cs : List String} {us : List Value}, ar (cs.map V.ty) us -> us = cs.map Value.type
 | [], _, r => by cases r; rfl
 | c :: cs, _, r => by
  cases r with
  | cons r1 r2 =>
   cases r1
   rw [sX r2]
   rfl
end
section
variable {K : Frag}
end
theorem rS {K : Frag} {a : Addr} {xs : List V} {g : TG} {tt : TT} {tb : TB} {σ : St} {H : Hp} {Q : St -> Hp -> Prop} (Pv : Nat -> St -> Hp -> Prop) (h0 : Pv 0 σ H) (hl : ∀ i σ H, i <= xs.length -> Pv i σ H -> SqL K H a xs)
  (turn : ∀ i x σ H, xs[i]? = some x -> Pv i σ H -> g x σ H fun σ2 H2 => tt σ2 H2 fun b H3 => if b = true then tb σ2 H3 (Pv (i + 1)) else Pv (i + 1) σ2 H3) (fin : ∀ σ H, Pv xs.length σ H -> Q σ H) : eP (Itl K a) g tt tb σ H Q := by
 refine ⟨fun i m σ H => i <= xs.length /\ m + i = xs.length /\ Pv i σ H, ⟨xs.length, Nat.zero_le _, by omega, h0⟩, fun i m σ H ⟨hi, hm, hp⟩ => ?_⟩
 by_cases hlt : i < xs.length
 ·refine .inr ⟨⟨xs, xs[i], hl i σ H hi hp, List.getElem?_eq_getElem hlt⟩, Pv (i + 1), fun σ' H' q => ⟨m - 1, by omega, by omega, by omega, q⟩, fun x H' ⟨e, hx⟩ => ?_⟩
  subst e
  exact turn i x σ H' (hx xs (hl i σ H' hi hp)) hp
 ·obtain rfl : i = xs.length := by omega
  exact .inl ⟨⟨xs, hl _ σ H hi hp, Nat.le_refl _⟩, fin σ H hp⟩
theorem CmpScope.plain {X : Cx} {scope : Scope} {vars : List Str} (k : scope.kind = .function) (nd : (scope.names.map (·.1)).Nodup) (f : ∀ y ∈ scope.names, y.2 ≠ .free) : CmpScope X scope vars vars [] :=
 ⟨k, nd, fun y hy e => absurd e (f y hy), by simp, fun j hj => absurd hj (by simp)⟩
def ow (i j : Int) : Prop := i.natAbs < 2 ^ 1000 /\ j.natAbs < 2 ^ 1000
theorem gU {k : Int} (h : k.natAbs < 2 ^ 1000) : Builtin.Int.intBits k <= 2 ^ 20 := by
 unfold Builtin.Int.intBits
 split
 ·exact Nat.zero_le _
 ·rename_i hk
  have h0 : k.natAbs ≠ 0 := by
   intro z
   have : k = 0 := Int.natAbs_eq_zero.mp z
   subst this
   simp at hk
  have := (Nat.log2_lt h0).mpr h
  have e : (2 : Nat) ^ 20 = 1048576 := by decide
  omega
theorem bi {X : Cx} : OpR X (binaryOp .Mult) (rI ow fun i j => .int (i * j)) := opI fun _ _ _ _ _ _ _ hc q => mul_int q (IntMulOk.of_bits (gU hc.1) (gU hc.2))
theorem bF.upd {H : Hp} {a : Addr} {o : HO} (h : H a = none) : bF H (upd H a o) := fun b u e => by rw [upd_ne (ne_of_none e h)]; exact e
end L2
namespace L2.Pu
open PySem PySem.Spec PyProof.Rows
theorem ex6 {α γ ε : Sort _} {P Q R : α -> γ -> ε -> Prop} {C : Prop} (h : ∃ a b c, P a b c /\ Q a b c /\ R a b c) (k : ∀ a b c, P a b c -> Q a b c -> R a b c -> C) : C := by
 obtain ⟨a, b, c, x, y, z⟩ := h
 exact k a b c x y z
theorem ex5 {α γ : Sort _} {P Q R : α -> γ -> Prop} {C : Prop} (h : ∃ a b, P a b /\ Q a b /\ R a b) (k : ∀ a b, P a b -> Q a b -> R a b -> C) : C := by
 obtain ⟨a, b, x, y, z⟩ := h
 exact k a b x y z
inductive D where
 | non | bl (b : Bool) | int (i : Int) | str (x : Str) | ty (n : String) | txt
 | lst (xs : List D) | tup (xs : List D) | scr (xs : List Int) | obj (C : Addr) (ns : List Str) (xs : List D) | bag | adr (a : Addr)
structure Bg where
 cells : List Int
 i : Int
 j : Int
structure Fx where
 A : Addr -> Prop
 bg : Option (Addr × Addr)
def KL (K : Frag) (a : Addr) (xs : List V) : Prop :=
 ∃ (o : Obj) (its : Array Value) (n : Nat), K.lookup a = some o /\ o.cls = .type "list" /\ o.dict = none /\ o.data = .seq its n /\ its.size <= sizeLine /\ ar xs its.toList
def KT (K : Frag) (a : Addr) (xs : List V) : Prop :=
 ∃ (o : Obj) (its : Array Value) (n : Nat), K.lookup a = some o /\ o.cls = .type "tuple" /\ o.data = .seq its n /\ its.size <= sizeLine /\ ar xs its.toList
mutual
def Den (K : Frag) (F : Fx) (H : Hp) : D -> V -> Prop
 | .non, v => v = .non
 | .bl b, v => v = .bl b
 | .int i, v => v = .int i
 | .str x, v => v = .str x
 | .ty n, v => v = .ty n
 | .txt, v => ∃ z, v = .str z
 | .lst ds, v => ∃ a xs, v = .ref a /\ (¬ F.A a /\ Rd H a (.lst xs)) /\ DenL K F H ds xs
 | .scr ns, v => ∃ a, v = .ref a /\ ((¬ F.A a /\ Rd H a (.lst (ns.map V.int))) \/ KL K a (ns.map V.int))
 | .tup ds, v => ∃ a xs, v = .ref a /\ ((¬ F.A a /\ Rd H a (.tup xs)) \/ KT K a xs) /\ DenL K F H ds xs
 | .obj C ns ds, v => ∃ a dx xs, v = .ref a /\ ¬ F.A a /\ H a = some (.ins C dx (ns.zip xs)) /\ ns.length = xs.length /\ DenL K F H ds xs
 | .bag, v => ∃ b l, F.bg = some (b, l) /\ v = .ref b
 | .adr a, v => v = .ref a
def DenL (K : Frag) (F : Fx) (H : Hp) : List D -> List V -> Prop
 | [], xs => xs = []
 | d :: ds, xs => ∃ x r, xs = x :: r /\ Den K F H d x /\ DenL K F H ds r
end
structure Tr (F : Fx) (H : Hp) (F2 : Fx) (H2 : Hp) : Prop where
 av : ∀ a, ¬ F.A a -> H a ≠ none -> ¬ F2.A a
 kp : ∀ a o, ¬ F.A a -> H a = some o -> H2 a = some o
 bg : F2.bg = F.bg
theorem Tr.refl (F : Fx) (H : Hp) : Tr F H F H := ⟨fun _ h _ => h, fun _ _ _ h => h, rfl⟩
theorem Tr.trans {F F1 F2 : Fx} {H H1 H2 : Hp} (a : Tr F H F1 H1) (b : Tr F1 H1 F2 H2) : Tr F H F2 H2 :=
 ⟨fun x h1 h2 => b.av x (a.av x h1 h2) (by
   cases q : H x with
   | none => exact absurd q h2
   | some o => rw [a.kp x o h1 q]; simp),
  fun x o h1 h2 => b.kp x o (a.av x h1 (by rw [h2]; simp)) (a.kp x o h1 h2), b.bg.trans a.bg⟩
theorem Rd.tr {F F2 : Fx} {H H2 : Hp} {a : Addr} {u : HO} (t : Tr F H F2 H2) (h : ¬ F.A a) (r : Rd H a u) : ¬ F2.A a /\ Rd H2 a u := by
 rcases r with r | ⟨o, r⟩
 ·exact ⟨t.av a h (by rw [r]; simp), .inl (t.kp a _ h r)⟩
 ·exact ⟨t.av a h (by rw [r]; simp), .inr ⟨o, t.kp a _ h r⟩⟩
mutual
theorem Den.tr {K : Frag} {F F2 : Fx} {H H2 : Hp} (t : Tr F H F2 H2) : ∀ (d : D) (v : V), Den K F H d v -> Den K F2 H2 d v
 | .non, v, h => h
 | .bl b, v, h => h
 | .int i, v, h => h
 | .str x, v, h => h
 | .ty n, v, h => h
 | .txt, v, h => h
 | .lst ds, v, h => by
  unfold Den at h ⊢
  obtain ⟨a, xs, e, h1, h2⟩ := h
  exact ⟨a, xs, e, Rd.tr t h1.1 h1.2, DenL.tr t ds xs h2⟩
 | .scr ns, v, h => by
  unfold Den at h ⊢
  obtain ⟨a, e, h1⟩ := h
  exact ⟨a, e, h1.imp (fun ⟨p, q⟩ => Rd.tr t p q) id⟩
 | .tup ds, v, h => by
  unfold Den at h ⊢
  obtain ⟨a, xs, e, h1, h2⟩ := h
  exact ⟨a, xs, e, h1.imp (fun ⟨p, q⟩ => Rd.tr t p q) id, DenL.tr t ds xs h2⟩
 | .obj C ns ds, v, h => by
  unfold Den at h ⊢
  obtain ⟨a, dx, xs, e, h1, h2, h3, h4⟩ := h
  exact ⟨a, dx, xs, e, t.av a h1 (by rw [h2]; simp), t.kp a _ h1 h2, h3, DenL.tr t ds xs h4⟩
 | .bag, v, h => by
  unfold Den at h ⊢
  rw [t.bg]; exact h
 | .adr a, v, h => by
  unfold Den at h ⊢
  exact h
theorem DenL.tr {K : Frag} {F F2 : Fx} {H H2 : Hp} (t : Tr F H F2 H2) : ∀ (ds : List D) (xs : List V), DenL K F H ds xs -> DenL K F2 H2 ds xs
 | [], xs, h => h
 | d :: ds, xs, h => by
  unfold DenL at h ⊢
  obtain ⟨x, r, e, h1, h2⟩ := h
  exact ⟨x, r, e, Den.tr t d x h1, DenL.tr t ds r h2⟩
end
section
variable {K : Frag} {F : Fx} {H : Hp}
theorem DenL.nil : DenL K F H [] [] := rfl
theorem DenL.cons {d : D} {ds : List D} {x : V} {xs : List V} (h : Den K F H d x) (t : DenL K F H ds xs) : DenL K F H (d :: ds) (x :: xs) := ⟨x, xs, rfl, h, t⟩
theorem DenL.length : ∀ {ds : List D} {xs : List V}, DenL K F H ds xs -> ds.length = xs.length
 | [], xs, h => by have e : xs = [] := h; subst e; rfl
 | d :: ds, xs, h => by
  obtain ⟨x, r, e, _, h2⟩ := h
  subst e
  rw [List.length_cons, List.length_cons, DenL.length h2]
theorem DenL.get : ∀ {ds : List D} {xs : List V} {i : Nat} {d : D}, DenL K F H ds xs -> ds[i]? = some d -> ∃ x, xs[i]? = some x /\ Den K F H d x
 | [], _, _, _, _, e => by simp at e
 | c :: ds, xs, 0, d, h, e => by
  obtain ⟨x, r, q, h1, h2⟩ := h
  subst q
  simp at e
  subst e
  exact ⟨x, rfl, h1⟩
 | c :: ds, xs, i + 1, d, h, e => by
  obtain ⟨x, r, q, h1, h2⟩ := h
  subst q
  obtain ⟨y, h3, h4⟩ := DenL.get (i := i) (d := d) h2 (by simpa using e)
  exact ⟨y, by simpa using h3, h4⟩
theorem DenL.getV : ∀ {ds : List D} {xs : List V} {i : Nat} {x : V}, DenL K F H ds xs -> xs[i]? = some x -> ∃ d, ds[i]? = some d /\ Den K F H d x
 | [], xs, _, _, h, e => by have q : xs = [] := h; subst q; simp at e
 | c :: ds, xs, 0, d, h, e => by
  obtain ⟨x, r, q, h1, h2⟩ := h
  subst q
  simp at e
  subst e
  exact ⟨c, rfl, h1⟩
 | c :: ds, xs, i + 1, d, h, e => by
  obtain ⟨x, r, q, h1, h2⟩ := h
  subst q
  obtain ⟨y, h3, h4⟩ := DenL.getV (i := i) (x := d) h2 (by simpa using e)
  exact ⟨y, by simpa using h3, h4⟩
theorem DenL.append : ∀ {ds es : List D} {xs ys : List V}, DenL K F H ds xs -> DenL K F H es ys -> DenL K F H (ds ++ es) (xs ++ ys)
 | [], _, xs, _, h, h' => by have q : xs = [] := h; subst q; exact h'
 | c :: ds, es, xs, ys, h, h' => by
  obtain ⟨x, r, q, h1, h2⟩ := h
  subst q
  exact ⟨x, r ++ ys, rfl, h1, DenL.append h2 h'⟩
theorem DenL.set : ∀ {ds : List D} {xs : List V} (i : Nat) {d : D} {x : V}, DenL K F H ds xs -> Den K F H d x -> DenL K F H (ds.set i d) (xs.set i x)
 | [], xs, i, _, _, h, _ => by have q : xs = [] := h; subst q; simp; rfl
 | c :: ds, xs, 0, d, x, h, hd => by
  obtain ⟨y, r, q, h1, h2⟩ := h
  subst q
  exact ⟨x, r, rfl, hd, h2⟩
 | c :: ds, xs, i + 1, d, x, h, hd => by
  obtain ⟨y, r, q, h1, h2⟩ := h
  subst q
  exact ⟨y, r.set i x, rfl, h1, DenL.set i h2 hd⟩
theorem Den.sqL {ds : List D} {v : V} (h : Den K F H (.lst ds) v) : ∃ a xs, v = .ref a /\ SqL K H a xs /\ DenL K F H ds xs := by
 unfold Den at h
 obtain ⟨a, xs, e, h1, h2⟩ := h
 exact ⟨a, xs, e, .inl h1.2, h2⟩
theorem Den.rdL {ds : List D} {v : V} (h : Den K F H (.lst ds) v) : ∃ a xs, v = .ref a /\ Rd H a (.lst xs) /\ DenL K F H ds xs := by
 unfold Den at h
 obtain ⟨a, xs, e, h1, h2⟩ := h
 exact ⟨a, xs, e, h1.2, h2⟩
theorem Den.scr {ns : List Int} {v : V} (h : Den K F H (.scr ns) v) : ∃ a, v = .ref a /\ SqL K H a (ns.map V.int) := by
 unfold Den at h
 obtain ⟨a, e, h1⟩ := h
 exact ⟨a, e, h1.imp (fun p => p.2) id⟩
theorem Den.sqT {ds : List D} {v : V} (h : Den K F H (.tup ds) v) : ∃ a xs, v = .ref a /\ SqT K H a xs /\ DenL K F H ds xs := by
 unfold Den at h
 obtain ⟨a, xs, e, h1, h2⟩ := h
 exact ⟨a, xs, e, h1.imp (fun p => p.2) id, h2⟩
theorem Den.int {i : Int} {v : V} (h : Den K F H (.int i) v) : v = .int i := h
theorem Den.bl {i : Bool} {v : V} (h : Den K F H (.bl i) v) : v = .bl i := h
theorem Den.str {i : Str} {v : V} (h : Den K F H (.str i) v) : v = .str i := h
theorem Den.non {v : V} (h : Den K F H .non v) : v = .non := h
theorem Den.ty {n : String} {v : V} (h : Den K F H (.ty n) v) : v = .ty n := h
theorem DenL.ints : ∀ (ns : List Int) {xs : List V}, DenL K F H (ns.map D.int) xs -> xs = ns.map V.int
 | [], xs, h => h
 | n :: ns, xs, h => by
  obtain ⟨x, r, e, h1, h2⟩ := h
  rw [e, DenL.ints ns h2]
  have q : x = .int n := h1
  rw [q]; rfl
end
structure Fr (F : Fx) (H : Hp) (β : Bg) : Prop where
 occ : ∀ a, F.A a -> H a ≠ none
 bgA : ∀ b l, F.bg = some (b, l) -> F.A b /\ F.A l /\ b ≠ l
 bag : ∀ b l, F.bg = some (b, l) -> H b = some (.lst [.ref l, .int β.i, .int β.j]) /\ H l = some (.lst (β.cells.map V.int))
structure To (F : Fx) (H H' : Hp) (β' : Bg) : Prop where
 kp : ∀ a o, H a = some o -> (∀ b l, F.bg = some (b, l) -> a ≠ b /\ a ≠ l) -> H' a = some o
 fr : Fr F H' β'
theorem To.refl {F : Fx} {H : Hp} {β : Bg} (fr : Fr F H β) : To F H H β := ⟨fun _ _ h _ => h, fr⟩
theorem To.trans {F : Fx} {H H1 H2 : Hp} {β1 β2 : Bg} (a : To F H H1 β1) (b : To F H1 H2 β2) : To F H H2 β2 := ⟨fun x o h n => b.kp x o (a.kp x o h n) n, b.fr⟩
theorem Fr.same {F : Fx} {H H' : Hp} {β : Bg} (fr : Fr F H β) (s : bF H H') : To F H H' β :=
 ⟨fun a o h _ => s a o h, ⟨fun a h q => (by
  cases e : H a with
  | none => exact fr.occ a h e
  | some o => exact absurd ((s a o e).symm.trans q) (by simp)), fr.bgA, fun b l e => ⟨s _ _ (fr.bag b l e).1, s _ _ (fr.bag b l e).2⟩⟩⟩
theorem Fr.upd {F : Fx} {H : Hp} {β : Bg} (fr : Fr F H β) {p : Addr} (o : HO) (h : H p = none) : To F H (upd H p o) β := fr.same (bF.upd h)
theorem Fr.fresh {F : Fx} {H : Hp} {β : Bg} (fr : Fr F H β) {p : Addr} (h : H p = none) : ¬ F.A p := fun q => fr.occ p q h
theorem To.tr {F : Fx} {H H' : Hp} {β β' : Bg} (fr : Fr F H β) (t : To F H H' β') : Tr F H F H' :=
 ⟨fun _ h _ => h, fun a o h e => t.kp a o e fun b l q => ⟨fun z => h (z ▸ (fr.bgA b l q).1), fun z => h (z ▸ (fr.bgA b l q).2.1)⟩, rfl⟩
abbrev Dn := List (Option D)
structure VOk (K : Frag) (F : Fx) (H : Hp) (δ : Dn) (σ : St) : Prop where
 len : δ.length = σ.length
 tell : ∀ (i : Nat) (d : D), δ[i]? = some (some d) -> ∃ v, σ[i]? = some (some v) /\ Den K F H d v
theorem VOk.tr {K : Frag} {F F2 : Fx} {H H2 : Hp} {δ : Dn} {σ : St} (t : Tr F H F2 H2) (h : VOk K F H δ σ) : VOk K F2 H2 δ σ := ⟨h.len, fun i d e => let ⟨v, h1, h2⟩ := h.tell i d e; ⟨v, h1, Den.tr t d v h2⟩⟩
theorem VOk.set {K : Frag} {F : Fx} {H : Hp} {δ : Dn} {σ : St} {i : Nat} {d : D} {v : V} (h : VOk K F H δ σ) (hd : Den K F H d v) : VOk K F H (δ.set i (some d)) (σ.set i (some v)) := by
 refine ⟨by rw [List.length_set, List.length_set, h.len], fun j c e => ?_⟩
 rw [List.getElem?_set] at e
 rw [List.getElem?_set]
 by_cases q : i = j
 ·subst q
  rw [if_pos rfl] at e ⊢
  split at e
  ·rename_i hl
   cases e
   rw [if_pos (by rw [← h.len]; exact hl)]
   exact ⟨v, rfl, hd⟩
  ·cases e
 ·rw [if_neg q] at e ⊢
  exact h.tell j c e
def Sub (δ δ1 : Dn) : Prop := ∀ (i : Nat) (d : D), δ[i]? = some (some d) -> δ1[i]? = some (some d)
theorem VOk.sub {K : Frag} {F : Fx} {H : Hp} {δ δ1 : Dn} {σ : St} (h : VOk K F H δ1 σ) (s : Sub δ δ1) (l : δ.length = δ1.length) : VOk K F H δ σ := ⟨l.trans h.len, fun i d e => h.tell i d (s i d e)⟩
abbrev M (α : Type) := Bg -> Option (Except Addr α × Bg)
def M.ret {α : Type} (a : α) : M α := fun β => some (.ok a, β)
def M.bind {α γ : Type} (m : M α) (k : α -> M γ) : M γ := fun β => match m β with
 | none => none
 | some (.error C, β1) => some (.error C, β1)
 | some (.ok a, β1) => k a β1
def M.ofO {α : Type} (o : Option α) : M α := fun β => match o with
 | some a => some (.ok a, β)
 | none => none
def M.fail {α : Type} : M α := fun _ => none
theorem M.bind_some {α γ : Type} (a : α) (k : α -> M γ) : M.bind (M.ofO (some a)) k = k a := rfl
theorem M.bind_ok {α γ : Type} {m : M α} {k : α -> M γ} {β β1 : Bg} {a : α} (h : m β = some (.ok a, β1)) : M.bind m k β = k a β1 := by unfold M.bind; rw [h]
theorem M.bind_err {α γ : Type} {m : M α} {k : α -> M γ} {β β1 : Bg} {C : Addr} (h : m β = some (.error C, β1)) : M.bind m k β = some (.error C, β1) := by unfold M.bind; rw [h]
def run {α γ : Type} (R : Hp -> α -> γ -> Prop) (F : Fx) (E : St -> XK) (σ : St) (m : M α) (H : Hp) (Q : γ -> Hp -> Prop) (β : Bg) : Prop :=
 ∃ r β', m β = some (r, β') /\ match r with
  | .ok d => ∀ v H', To F H H' β' -> R H' d v -> Q v H'
  | .error C => ∀ H', To F H H' β' -> E σ (.ref C) none H'
theorem run.mono {α γ : Type} {R : Hp -> α -> γ -> Prop} {F : Fx} {E : St -> XK} {σ : St} {m : M α} {H : Hp} {Q Q' : γ -> Hp -> Prop} {β : Bg} (h : run R F E σ m H Q β) (f : ∀ v H', Q v H' -> Q' v H') : run R F E σ m H Q' β := by
 obtain ⟨r, β', e, h⟩ := h
 refine ⟨r, β', e, ?_⟩
 cases r with
 | ok d => exact fun v H' t q => f v H' (h v H' t q)
 | error C => exact h
theorem run.bind {α γ ε ζ : Type} {R : Hp -> α -> γ -> Prop} {R2 : Hp -> ε -> ζ -> Prop} {F : Fx} {E : St -> XK} {σ : St} {m : M α} {k : α -> M ε} {H : Hp} {Q : ζ -> Hp -> Prop} {β : Bg} (h : run R2 F E σ (M.bind m k) H Q β) :
  run R F E σ m H (fun v H1 => ∃ d β1, To F H H1 β1 /\ R H1 d v /\ run R2 F E σ (k d) H1 Q β1) β := by
 obtain ⟨r, β', e, h⟩ := h
 cases q : m β with
 | none => unfold M.bind at e; rw [q] at e; cases e
 | some z =>
  obtain ⟨r1, β1⟩ := z
  refine ⟨r1, β1, q, ?_⟩
  cases r1 with
  | error C =>
   rw [M.bind_err q] at e
   cases e
   exact h
  | ok d =>
   rw [M.bind_ok q] at e
   intro v H1 t hd
   refine ⟨d, β1, t, hd, r, β', e, ?_⟩
   cases r with
   | ok d2 => exact fun v2 H2 t2 h2 => h v2 H2 (t.trans t2) h2
   | error C => exact fun H2 t2 => h H2 (t.trans t2)
theorem run.ret {α γ : Type} {R : Hp -> α -> γ -> Prop} {F : Fx} {E : St -> XK} {σ : St} {a : α} {v : γ} {H : Hp} {Q : γ -> Hp -> Prop} {β : Bg} (fr : Fr F H β) (h : run R F E σ (M.ret a) H Q β) (r : R H a v) : Q v H := by
 obtain ⟨_, _, e, h⟩ := h
 cases e
 exact h v H (To.refl fr) r
theorem run.ofO {α γ : Type} {R : Hp -> α -> γ -> Prop} {F : Fx} {E : St -> XK} {σ : St} {o : Option α} {H : Hp} {Q : γ -> Hp -> Prop} {β : Bg} (h : run R F E σ (M.ofO o) H Q β) : ∃ a, o = some a /\ ∀ v H', To F H H' β -> R H' a v -> Q v H' := by
 obtain ⟨_, _, e, h⟩ := h
 cases o with
 | none => cases e
 | some a => cases e; exact ⟨a, rfl, h⟩
def tV (K : Frag) (f : Dn -> M D) (E : St -> XK) : TE := fun σ H Q => ∃ F δ β, Fr F H β /\ VOk K F H δ σ /\ run (Den K F) F E σ (f δ) H Q β
def tVA (K : Frag) (f : Dn -> M (List D)) (E : St -> XK) : TA := fun σ H Q => ∃ F δ β, Fr F H β /\ VOk K F H δ σ /\ run (DenL K F) F E σ (f δ) H Q β
def tVT (K : Frag) (f : Dn -> M Bool) (E : St -> XK) : TT := fun σ H Q => ∃ F δ β, Fr F H β /\ VOk K F H δ σ /\ run (fun _ (a b : Bool) => b = a) F E σ (f δ) H Q β
theorem _root_.L2.PE.imp {X : Cx} {e : Expr} {t t' : TE} (h : PE X e t) (f : ∀ σ H Q, t' σ H Q -> t σ H Q) : PE X e t' := fun pins s σ H Q I q => h pins s σ H Q I (f σ H Q q)
theorem _root_.L2.PT.imp {X : Cx} {e : Expr} {t t' : TT} (h : PT X e t) (f : ∀ σ H Q, t' σ H Q -> t σ H Q) : PT X e t' := fun pins s σ H Q I q => h pins s σ H Q I (f σ H Q q)
theorem _root_.L2.PW.imp {X : Cx} {e : Expr} {t t' : TT} (h : PW X e t) (f : ∀ σ H Q, t' σ H Q -> t σ H Q) : PW X e t' := fun wh pins s σ H Q I q => h wh pins s σ H Q I (f σ H Q q)
theorem _root_.L2.PA.imp {X : Cx} {e : List Expr} {t t' : TA} (h : PA X e t) (f : ∀ σ H Q, t' σ H Q -> t σ H Q) : PA X e t' := fun pos pins s σ H Q I q => h pos pins s σ H Q I (f σ H Q q)
def aa (i : Nat) : Dn -> M D := fun δ => M.ofO (δ.getD i none)
def fC (d : D) : Dn -> M D := fun _ => M.ret d
def f1 (op : D -> Option D) (f : Dn -> M D) : Dn -> M D := fun δ => M.bind (f δ) fun a => M.ofO (op a)
def f2 (op : D -> D -> Option D) (f g : Dn -> M D) : Dn -> M D := fun δ => M.bind (f δ) fun a => M.bind (g δ) fun b => M.ofO (op a b)
def ah : Dn -> M (List D) := fun _ => M.ret []
def ad (f : Dn -> M D) (g : Dn -> M (List D)) : Dn -> M (List D) := fun δ => M.bind (f δ) fun a => M.bind (g δ) fun as => M.ret (a :: as)
def ao (op : List D -> Option D) (g : Dn -> M (List D)) : Dn -> M D := fun δ => M.bind (g δ) fun as => M.ofO (op as)
def aA (m : List D -> M D) (g : Dn -> M (List D)) : Dn -> M D := fun δ => M.bind (g δ) fun as => m as
section
variable {X : Cx} {E : St -> XK} {e a b : Expr} {es : List Expr} {pos : Pos}
theorem ae (i : Nat) {x : Str} (h : PE X (.Name x pos) (oG i)) : PE X (.Name x pos) (tV X.K (aa i) E) := h.imp fun σ H Q h_ => by
 obtain ⟨F, δ, β, fr, vk, r⟩ := h_
 obtain ⟨d, e, r⟩ := run.ofO r
 have e2 : δ[i]? = some (some d) := by
  rw [List.getD_eq_getElem?_getD] at e
  cases q : δ[i]? with
  | none => rw [q] at e; cases e
  | some z => rw [q] at e; simp at e; rw [e]
 obtain ⟨v, h1, h2⟩ := vk.tell i d e2
 exact ⟨v, h1, r v H (To.refl fr) h2⟩
theorem v_c {d : D} {v : V} (h : PE X e (tC v)) (hd : ∀ F H, Den X.K F H d v) : PE X e (tV X.K (fC d) E) := h.imp fun σ H Q h_ => by obtain ⟨F, δ, β, fr, vk, r⟩ := h_; exact run.ret fr r (hd F H)
theorem aw {i j pos} : PE X (.Constant (.int i) j pos) (tV X.K (fC (.int i)) E) := v_c bB fun _ _ => rfl
theorem jf {i j pos} : PE X (.Constant (.bool i) j pos) (tV X.K (fC (.bl i)) E) := v_c Ct fun _ _ => rfl
theorem xG {j pos} : PE X (.Constant .none j pos) (tV X.K (fC .non) E) := v_c Ar fun _ _ => rfl
theorem bR {i j pos} : PE X (.Constant (.str i) j pos) (tV X.K (fC (.str i)) E) := v_c jo fun _ _ => rfl
theorem ag : PA X [] (tVA X.K ah E) := c6.imp fun σ H Q h_ => by obtain ⟨F, δ, β, fr, vk, r⟩ := h_; exact run.ret fr r DenL.nil
theorem ac {f : Dn -> M D} {g : Dn -> M (List D)} (ha : PE X e (tV X.K f E)) (hr : PA X es (tVA X.K g E)) (hs : starEach (e :: es) X.env = (false, eval e X.env) :: starEach es X.env := by rfl) : PA X (e :: es) (tVA X.K (ad f g) E) :=
 (aT ha hr hs).imp fun σ H Q h_ => ex6 h_ fun F δ β fr vk r => ⟨F, δ, β, fr, vk, (run.bind (R := Den X.K F) r).mono fun v H1 ⟨d, β1, t, hd, r1⟩ =>
  ⟨F, δ, β1, t.fr, vk.tr (t.tr fr), (run.bind (R := DenL X.K F) r1).mono fun vs H2 h_ => ex5 h_ fun ds β2 t2 hds r2 => run.ret t2.fr r2 (DenL.cons (Den.tr (t2.tr t.fr) _ _ hd) hds)⟩⟩
def bh (K : Frag) (r : R2) (op : D -> D -> Option D) : Prop := ∀ (F : Fx) (H : Hp) (β : Bg) (Q : VK) (d1 d2 d : D) (v1 v2 : V), Fr F H β -> Den K F H d1 v1 -> Den K F H d2 v2 -> op d1 d2 = some d ->
 (∀ v H', To F H H' β -> Den K F H' d v -> Q v H') -> r v1 v2 H Q
def dN (K : Frag) (r : List V -> Hp -> VK -> Prop) (op : List D -> Option D) : Prop := ∀ (F : Fx) (H : Hp) (β : Bg) (Q : VK) (ds : List D) (d : D) (vs : List V), Fr F H β -> DenL K F H ds vs -> op ds = some d ->
 (∀ v H', To F H H' β -> Den K F H' d v -> Q v H') -> r vs H Q
theorem kN {r : R2} {op : D -> D -> Option D} {f g : Dn -> M D} {K : Frag} (l : bh K r op) {σ : St} {H : Hp} {Q : VK} (h : tV K (f2 op f g) E σ H Q) : tOp r (tV K f E) (tV K g E) σ H Q := by
 obtain ⟨F, δ, β, fr, vk, h⟩ := h
 refine ⟨F, δ, β, fr, vk, (run.bind (R := Den K F) h).mono fun v H1 h_ => ex5 h_ fun d β1 t hd r1 => ⟨F, δ, β1, t.fr, vk.tr (t.tr fr), (run.bind (R := Den K F) r1).mono fun v2 H2 h_ => ex5 h_ fun d2 β2 t2 hd2 r2 => ?_⟩⟩
 obtain ⟨d3, e3, k⟩ := run.ofO r2
 exact l F H2 β2 Q d d2 d3 v v2 t2.fr (Den.tr (t2.tr t.fr) _ _ hd) hd2 e3 k
theorem aR {op : Operator} {r : R2} {o : D -> D -> Option D} {f g : Dn -> M D} (ho : OpR X (binaryOp op) r) (l : bh X.K r o) (ha : PE X a (tV X.K f E)) (hb : PE X b (tV X.K g E)) : PE X (.BinOp a op b pos) (tV X.K (f2 o f g) E) :=
 (cT ho ha hb).imp fun _ _ _ => kN l
theorem kK {op : CmpOp} {r : R2} {o : D -> D -> Option D} {f g : Dn -> M D} (ho : OpR X (compareOp op) r) (l : bh X.K r o) (ha : PE X a (tV X.K f E)) (hb : PE X b (tV X.K g E)) (hm : behindInMarks op b = false := by first | exact o8 _ | rfl) : PE X (.Compare a [op] [b] pos) (tV X.K (f2 o f g) E) :=
 (yP ho ha hb hm).imp fun _ _ _ => kN l
theorem bz {r : R2} {o : D -> D -> Option D} {f g : Dn -> M D} (hr : IxR X r) (l : bh X.K r o) (ha : PE X a (tV X.K f E)) (hb : PE X b (tV X.K g E)) (hs : qO b := by exact fun _ _ => rfl) : PE X (.Subscript a b pos) (tV X.K (f2 o f g) E) :=
 (fu hr ha hb hs).imp fun _ _ _ => kN l
theorem tz {K : Frag} {r : List V -> Hp -> VK -> Prop} {op : List D -> Option D} {g : Dn -> M (List D)} (l : dN K r op) {σ : St} {H : Hp} {Q : VK} (h : tV K (ao op g) E σ H Q) : tCB r (tVA K g E) σ H Q := by
 obtain ⟨F, δ, β, fr, vk, h⟩ := h
 refine ⟨F, δ, β, fr, vk, (run.bind (R := DenL K F) h).mono fun v H1 h_ => ex5 h_ fun d β1 t hd r1 => ?_⟩
 obtain ⟨d3, e3, k⟩ := run.ofO r1
 exact l F H1 β1 Q d d3 v t.fr hd e3 k
theorem aC {x : Str} {p : Pos} {id : String} {r : List V -> Hp -> VK -> Prop} {op : List D -> Option D} {g : Dn -> M (List D)} (hc : cZ X (.builtin id) r) (l : dN X.K r op) (hg : Gl X x) (hm : X.mg x = none) (hv : bootBuiltins x = some (.builtin id)) (ha : PA X (e :: es) (tVA X.K g E)) (hn : x ≠ "__name__" := by decide) (hdb : (x == ("__debug__" : Str)) = false := by decide)
  (he : starEach (e :: es) X.env = (false, eval e X.env) :: starEach es X.env := by rfl) (hpl : (backTo pos (starEach es X.env)).any (·.1) = false := by rfl) : PE X (.Call (.Name x p) (e :: es) [] pos) (tV X.K (ao op g) E) :=
 (kn hc hg hm hv ha hn hdb he hpl).imp fun _ _ _ => tz l
theorem uN {x : Str} {p : Pos} {T : String} {r : List V -> Hp -> VK -> Prop} {op : List D -> Option D} {g : Dn -> M (List D)} (hc : cZ X (.type T) r) (l : dN X.K r op) (hg : Gl X x) (hm : X.mg x = none) (hv : bootBuiltins x = some (.type T)) (ha : PA X (e :: es) (tVA X.K g E)) (hn : x ≠ "__name__" := by decide) (hdb : (x == ("__debug__" : Str)) = false := by decide)
  (he : starEach (e :: es) X.env = (false, eval e X.env) :: starEach es X.env := by rfl) (hpl : (backTo pos (starEach es X.env)).any (·.1) = false := by rfl) : PE X (.Call (.Name x p) (e :: es) [] pos) (tV X.K (ao op g) E) :=
 (m6 hc hg hm hv ha hn hdb he hpl).imp fun _ _ _ => tz l
def bX (ds : List D) : Option D := if ds.length <= sizeLine then some (.tup ds) else none
def cU (ds : List D) : Option D := if ds.length <= sizeLine then some (.lst ds) else none
theorem Den.newT {K : Frag} {F : Fx} {H : Hp} {β : Bg} {p : Addr} {ds : List D} {xs : List V} (fr : Fr F H β) (h : H p = none) (hd : DenL K F H ds xs) : Den K F (upd H p (.tup xs)) (.tup ds) (.ref p) :=
 ⟨p, xs, rfl, .inl ⟨fr.fresh h, .inl ax⟩, DenL.tr ((fr.upd _ h).tr fr) _ _ hd⟩
theorem Den.newL {K : Frag} {F : Fx} {H : Hp} {β : Bg} {p : Addr} {ds : List D} {xs : List V} (fr : Fr F H β) (h : H p = none) (hd : DenL K F H ds xs) : Den K F (upd H p (.lst xs)) (.lst ds) (.ref p) :=
 ⟨p, xs, rfl, ⟨fr.fresh h, .inl ax⟩, DenL.tr ((fr.upd _ h).tr fr) _ _ hd⟩
theorem kJ {x1} {g : Dn -> M (List D)} (h : PA X es (tVA X.K g E)) : PE X (.Tuple es x1 pos) (tV X.K (ao bX g) E) :=
 (Ao h).imp fun σ H Q h_ => ex6 h_ fun F δ β fr vk r => ⟨F, δ, β, fr, vk, (run.bind (R := DenL X.K F) r).mono fun vs H1 h_ => by
  obtain ⟨ds, β1, t, hd, r1⟩ := h_
  obtain ⟨d3, e3, k⟩ := run.ofO r1
  unfold bX at e3
  split at e3
  ·cases e3
   exact ⟨by rw [← hd.length]; assumption, fun p hp => k _ _ (t.fr.upd _ hp) (Den.newT t.fr hp hd)⟩
  ·cases e3⟩
theorem qW {g : Dn -> M (List D)} (h : PA X es (tVA X.K g E)) : PE X (.List es pos) (tV X.K (ao cU g) E) :=
 (jp h).imp fun σ H Q h_ => ex6 h_ fun F δ β fr vk r => ⟨F, δ, β, fr, vk, (run.bind (R := DenL X.K F) r).mono fun vs H1 h_ => by
  obtain ⟨ds, β1, t, hd, r1⟩ := h_
  obtain ⟨d3, e3, k⟩ := run.ofO r1
  unfold cU at e3
  split at e3
  ·cases e3
   exact ⟨by rw [← hd.length]; assumption, fun p hp => k _ _ (t.fr.upd _ hp) (Den.newL t.fr hp hd)⟩
  ·cases e3⟩
end
def spF (K : Frag) (n : Nat) (m : List D -> M D) : Sp := fun vs H Q E => vs.length = n /\ ∃ F ds β, Fr F H β /\ DenL K F H ds vs /\ run (Den K F) F (fun _ => E) [] (m ds) H Q β
section
variable {X : Cx} {E : St -> XK} {e : Expr} {es : List Expr} {pos p : Pos} {x : Str} {k n : Nat} {f : Addr} {fd : FuncData} {ps : List Str}
theorem run.toE {α γ : Type} {R : Hp -> α -> γ -> Prop} {F : Fx} {E : St -> XK} {σ : St} {m : M α} {H : Hp} {Q : γ -> Hp -> Prop} {β : Bg} (h : run R F E σ m H Q β) : run R F (fun _ => E σ) [] m H Q β := h
theorem aB {m : List D -> M D} {g : Dn -> M (List D)} (G : FnOk X.prog X.w X.K X.mg X.base (CXE X.prog X.w) k f fd ps (spF X.K n m)) (hr : Room k X.A) (hg : Gl X x) (hm : X.mg x = some (.ref f)) (hk : PySem.W.keepIn X.K (.ref f) = true) (hb : aG X.K fd ps []) (hx : bQ (CXE X.prog X.w) X E)
  (ha : PA X (e :: es) (tVA X.K g E)) (hn : ∀ δ β r β', g δ β = some (.ok r, β') -> r.length = n) (hdb : (x == ("__debug__" : Str)) = false := by decide) (he : starEach (e :: es) X.env = (false, eval e X.env) :: starEach es X.env := by rfl) (hpl : (backTo pos (starEach es X.env)).any (·.1) = false := by rfl) :
  PE X (.Call (.Name x p) (e :: es) [] pos) (tV X.K (aA m g) E) :=
 (qr G hr hg hm hk hb .nil hx ha hdb he hpl).imp fun σ H Q h_ => ex6 h_ fun F δ β fr vk r => ⟨F, δ, β, fr, vk, by
  obtain ⟨r0, β0, e0, h0⟩ := run.bind (R := DenL X.K F) r
  refine ⟨r0, β0, e0, ?_⟩
  cases r0 with
  | error C => exact h0
  | ok ds =>
   intro vs H1 t hd
   obtain ⟨d', β1, t1, hd1, r1⟩ := h0 vs H1 t hd
   have hl := hn _ _ _ _ e0
   refine ⟨by rw [List.append_nil, ← hd.length, hl], F, d', β1, t1.fr, by rw [List.append_nil]; exact hd1, run.toE r1⟩⟩
end
theorem xx {δ : Dn} {β β' : Bg} {r : List D} (h : ah δ β = some (.ok r, β')) : r.length = 0 := by cases h; rfl
theorem af {f : Dn -> M D} {g : Dn -> M (List D)} {n : Nat} (hg : ∀ δ β r β', g δ β = some (.ok r, β') -> r.length = n) : ∀ δ β r β', ad f g δ β = some (.ok r, β') -> r.length = n + 1 := by
 intro δ β r β' h
 unfold ad M.bind at h
 split at h
 ·cases h
 ·cases h
 ·dsimp only at h
  split at h
  ·cases h
  ·cases h
  ·rename_i as _ hq
   cases h
   rw [List.length_cons, hg _ _ _ _ hq]
section
variable {X : Cx} {K : Frag}
def opI (g : Int -> Int -> Option D) : D -> D -> Option D
 | .int i, .int j => g i j
 | _, _ => none
theorem iF {g : Int -> Int -> Option D} {a b d : D} (h : opI g a b = some d) : ∃ i j, a = .int i /\ b = .int j /\ g i j = some d := by
 cases a <;> cases b <;> first | (exact ⟨_, _, rfl, rfl, h⟩) | (cases h)
theorem ug {g : Int -> Int -> Int} : bh K (rI0 fun i j => .int (g i j)) (opI fun i j => some (.int (g i j))) := fun F H β Q d1 d2 d v1 v2 fr h1 h2 e k => by
 obtain ⟨i, j, rfl, rfl, e⟩ := iF e
 cases e
 exact ⟨i, j, h1, h2, k _ H (To.refl fr) rfl⟩
theorem iH {g : Int -> Int -> Bool} : bh K (rI0 fun i j => .bl (g i j)) (opI fun i j => some (.bl (g i j))) := fun F H β Q d1 d2 d v1 v2 fr h1 h2 e k => by
 obtain ⟨i, j, rfl, rfl, e⟩ := iF e
 cases e
 exact ⟨i, j, h1, h2, k _ H (To.refl fr) rfl⟩
theorem jw {C : Int -> Int -> Prop} {c : Int -> Int -> Bool} {g : Int -> Int -> Int} (hc : ∀ i j, c i j = true -> C i j) : bh K (rI C fun i j => .int (g i j)) (opI fun i j => if c i j = true then some (.int (g i j)) else none) := fun F H β Q d1 d2 d v1 v2 fr h1 h2 e k => by
 obtain ⟨i, j, rfl, rfl, e2⟩ := iF e
 split at e2
 ·cases e2
  exact ⟨i, j, h1, h2, hc _ _ (by assumption), k _ H (To.refl fr) rfl⟩
 ·cases e2
def fE (i : Int) : Bool := decide (i.natAbs < 2 ^ 1000)
def kl : D -> D -> Option D := opI fun i j => some (.int (i - j))
def eM : D -> D -> Option D := opI fun i j => if (decide (0 < j) && decide (j.natAbs.log2 < 9000)) = true then some (.int (i / j)) else none
def ku : D -> D -> Option D := opI fun i j => if decide (0 < j) = true then some (.int (i % j)) else none
def ltD : D -> D -> Option D := opI fun i j => some (.bl (decide (i < j)))
def leD : D -> D -> Option D := opI fun i j => some (.bl (decide (i <= j)))
def gtD : D -> D -> Option D := opI fun i j => some (.bl (decide (j < i)))
def geD : D -> D -> Option D := opI fun i j => some (.bl (decide (j <= i)))
theorem rG : bh K (rI0 fun i j => .int (i - j)) kl := ug
theorem rH : bh K (rI0 fun i j => .bl (decide (i < j))) ltD := iH
theorem pk : bh K (rI0 fun i j => .bl (decide (i <= j))) leD := iH
theorem kv : bh K (rI0 fun i j => .bl (decide (j < i))) gtD := iH
theorem jx : bh K (rI ox fun i j => .int (i / j)) eM := jw fun i j h => by
 simp only [Bool.and_eq_true, decide_eq_true_eq] at h
 exact h
theorem xY : bh K (rI (fun _ j => 0 < j) fun i j => .int (i % j)) ku := jw fun i j h => of_decide_eq_true h
def rh : R2 := fun x y H Q => ∃ l b xs zs, x = .ref l /\ y = .ref b /\ Rd H l (.lst xs) /\ Rd H b (.lst zs) /\ xs.length + zs.length <= sizeLine /\ ∀ p, H p = none -> Q (.ref p) (upd H p (.lst (xs ++ zs)))
theorem yV : OpR X (binaryOp .Add) rh := by
 intro pins s σ H x y v u Q I rx ry h
 obtain ⟨l, b, xs, zs, rfl, rfl, hH, hB, hz, q⟩ := h
 cases rx
 cases ry
 obtain ⟨z, its, n, r, e⟩ := hH.ok I.hok
 obtain ⟨z2, its2, n2, r2, e2⟩ := hB.ok I.hok
 have l1 := r.length
 have l2 := r2.length
 refine PySem.P.add_list e e2 ?_ (by simp only [List.size_toArray]; omega)
 rw [show its.toArray ++ its2.toArray = (its ++ its2).toArray by simp]
 exact ⟨.ref _, _, I.lnew (t' := s.toks) (r.append r2) (by rw [List.length_append]; omega), rfl, q _ I.fresh⟩
def rj (K : Frag) : R2 := fun x y H Q => ∃ a b ys, x = .ref a /\ y = .ref b /\ SqT K H a [] /\ SqT K H b ys /\ Q (.ref b) H
theorem yW : OpR X (binaryOp .Add) (rj X.K) := by
 intro pins s σ H x y v u Q I rx ry h
 obtain ⟨a, b, ys, rfl, rfl, ha, hb, q⟩ := h
 cases rx
 cases ry
 obtain ⟨its, r1, p1, _⟩ := I.tuple ha
 obtain ⟨its2, r2, p2, _⟩ := I.tuple hb
 cases r1
 obtain ⟨⟨c1, d1, dt1, sl1⟩, ho, hc, n, hd⟩ := p1
 obtain ⟨⟨c2, d2, dt2, sl2⟩, ho2, hc2, n2, hd2⟩ := p2
 simp only at hc hd hc2 hd2
 subst hc hd hc2 hd2
 exact PySem.concat_meets ⟨_, ho, rfl⟩ ⟨_, ho2, rfl⟩ noFill_tuple_add seq_tuple_add PySem.F.slot_tuple_add PySem.F.entry_tuple_add (PySem.F.args_tuple_add_2 _ _) (tuple_addW0 a b _ _ n n2 d1 d2 sl1 sl2 (by simp)) ⟨ho, ho2, ⟨.ref b, H, I, rfl, q⟩⟩
def eR : D -> D -> Option D
 | .int i, .int j => some (.int (i + j))
 | .tup [], .tup b => some (.tup b)
 | .lst a, .lst b => if a.length + b.length <= sizeLine then some (.lst (a ++ b)) else none
 | .tup (c :: a), .tup b => if (c :: a).length + b.length <= sizeLine then some (.tup (c :: a ++ b)) else none
 | _, _ => none
theorem fw : bh K (fun x y H Q => (rI0 fun i j => .int (i + j)) x y H Q \/ rh x y H Q \/ rf K x y H Q \/ rj K x y H Q) eR := fun F H β Q d1 d2 d v1 v2 fr h1 h2 e k => by
 unfold eR at e
 split at e
 ·cases e
  exact .inl ⟨_, _, h1, h2, k _ H (To.refl fr) rfl⟩
 ·cases e
  obtain ⟨a, xs, rfl, r1, dl1⟩ := Den.sqT h1
  obtain ⟨b, ys, rfl, r2, dl2⟩ := Den.sqT h2
  have q : xs = [] := dl1
  subst q
  exact .inr (.inr (.inr ⟨a, b, ys, rfl, rfl, r1, r2, k _ H (To.refl fr) h2⟩))
 ·split at e
  ·cases e
   obtain ⟨a, xs, rfl, r1, dl1⟩ := Den.rdL h1
   obtain ⟨b, ys, rfl, r2, dl2⟩ := Den.rdL h2
   exact .inr (.inl ⟨a, b, xs, ys, rfl, rfl, r1, r2, by rw [← dl1.length, ← dl2.length]; assumption, fun p hp => k _ _ (fr.upd _ hp) (Den.newL fr hp (dl1.append dl2))⟩)
  ·cases e
 ·split at e
  ·cases e
   obtain ⟨a, xs, rfl, r1, dl1⟩ := Den.sqT h1
   obtain ⟨b, ys, rfl, r2, dl2⟩ := Den.sqT h2
   have n1 := dl1.length
   have n2 := dl2.length
   refine .inr (.inr (.inl ⟨a, b, xs, ys, rfl, rfl, r1, r2, (fun z => by subst z; cases n1), by rw [← n1, ← n2]; assumption, fun z => ?_, fun _ p hp => k _ _ (fr.upd _ hp) (Den.newT fr hp (dl1.append dl2))⟩))
   subst z
   have z2 := List.length_eq_zero_iff.mp n2
   subst z2
   rw [List.append_nil] at k
   exact k _ H (To.refl fr) h1
  ·cases e
 ·cases e
theorem cc : OpR X (binaryOp .Add) (fun x y H Q => (rI0 fun i j => .int (i + j)) x y H Q \/ rh x y H Q \/ rf X.K x y H Q \/ rj X.K x y H Q) := ln.or (yV.or (yU.or yW))
def bb : D -> D -> Option D := opI fun i j => if (fE i && fE j) = true then some (.int (i * j)) else none
theorem bT : bh K (rI ow fun i j => .int (i * j)) bb := jw fun i j h => by
 simp only [Bool.and_eq_true, fE, decide_eq_true_eq] at h
 exact h
def eqS : D -> D -> Option Bool
 | .non, .non => some true
 | .int i, .int j => some (decide (i = j))
 | .bl i, .bl j => some (decide (i = j))
 | .str i, .str j => some (decide (i = j))
 | .int _, .str _ => some false
 | .str _, .int _ => some false
 | .bl _, .str _ => some false
 | .str _, .bl _ => some false
 | .non, .int _ => some false
 | .int _, .non => some false
 | .non, .str _ => some false
 | .str _, .non => some false
 | _, _ => none
theorem uy {F : Fx} {H : Hp} {a b : D} {v w : V} {c : Bool} (h : eqS a b = some c) (h1 : Den K F H a v) (h2 : Den K F H b w) : uT v w = true /\ decide (v = w) = c := by
 unfold eqS at h
 split at h <;> first
  | (cases h; cases h1.int; cases h2.int; exact ⟨rfl, by simp⟩)
  | (cases h; cases h1.bl; cases h2.bl; exact ⟨rfl, by simp⟩)
  | (cases h; cases h1.str; cases h2.str; exact ⟨rfl, by simp⟩)
  | (cases h; cases h1.non; cases h2.non; exact ⟨rfl, by simp⟩)
  | (cases h; cases h1.int; cases h2.str; exact ⟨rfl, rfl⟩)
  | (cases h; cases h1.str; cases h2.int; exact ⟨rfl, rfl⟩)
  | (cases h; cases h1.bl; cases h2.str; exact ⟨rfl, rfl⟩)
  | (cases h; cases h1.str; cases h2.bl; exact ⟨rfl, rfl⟩)
  | (cases h; cases h1.non; cases h2.int; exact ⟨rfl, rfl⟩)
  | (cases h; cases h1.int; cases h2.non; exact ⟨rfl, rfl⟩)
  | (cases h; cases h1.non; cases h2.str; exact ⟨rfl, rfl⟩)
  | (cases h; cases h1.str; cases h2.non; exact ⟨rfl, rfl⟩)
  | cases h
def isN : D -> Bool
 | .non => true
 | _ => false
theorem AO {F : Fx} {H : Hp} {d : D} {v : V} (h : Den K F H d v) : decide (v = .non) = isN d := by
 cases d with
 | non => cases h.non; rfl
 | bl b => cases h.bl; rfl
 | int b => cases h.int; rfl
 | str b => cases h.str; rfl
 | ty b => cases h.ty; rfl
 | txt => unfold Den at h; obtain ⟨z, rfl⟩ := h; rfl
 | lst ds => obtain ⟨a, xs, rfl, _⟩ := Den.sqL h; rfl
 | tup ds => obtain ⟨a, xs, rfl, _⟩ := Den.sqT h; rfl
 | scr ds => obtain ⟨a, rfl, _⟩ := Den.scr h; rfl
 | obj C ns ds =>
  unfold Den at h
  obtain ⟨a, _, _, rfl, _⟩ := h; rfl
 | bag =>
  unfold Den at h
  obtain ⟨a, _, _, rfl⟩ := h; rfl
 | adr a =>
  unfold Den at h
  obtain rfl := h; rfl
def fU : D -> D -> Option D
 | a, .non => some (.bl (isN a))
 | _, _ => none
def jT : D -> D -> Option D
 | a, .non => some (.bl (!isN a))
 | _, _ => none
theorem xZ : bh K (fun x y H Q => y = .non /\ Q (.bl (decide (x = .non))) H) fU := fun F H β Q d1 d2 d v1 v2 fr h1 h2 e k => by
 unfold fU at e
 split at e
 ·cases e
  exact ⟨h2, by rw [AO h1]; exact k _ H (To.refl fr) rfl⟩
 ·cases e
def dL : D -> Bool
 | .int _ => true | .bl _ => true | .str _ => true | .non => true | _ => false
def eqF : D -> D -> Bool
 | .non, .non => true
 | .bl a, .bl b => a == b
 | .bl a, .int b => (if a then 1 else 0) == b
 | .int a, .bl b => a == (if b then 1 else 0)
 | .int a, .int b => a == b
 | .str a, .str b => a == b
 | _, _ => false
def dS : D -> Option (List D)
 | .lst a => some a
 | .tup a => some a
 | _ => none
def inB (x : D) (ys : List D) : Bool := ys.any fun y => eqF y x
def inD (neg : Bool) (x y : D) : Option D := (dS y).bind fun ys => if (dL x && ys.all dL) = true then some (.bl (if neg then !inB x ys else inB x ys)) else none
theorem mF {F : Fx} {H : Hp} {d : D} {v : V} (f : dL d = true) (h : Den K F H d v) : fD v = true := by
 cases d <;> first | (cases h.int; rfl) | (cases h.bl; rfl) | (cases h.str; rfl) | (cases h.non; rfl) | cases f
theorem AT {F : Fx} {H : Hp} {a b : D} {v w : V} (fa : dL a = true) (fb : dL b = true) (h1 : Den K F H a v) (h2 : Den K F H b w) : eqV v w = eqF a b := by
 cases a <;> cases b <;> first
  | (cases h1.int; cases h2.int; rfl) | (cases h1.int; cases h2.bl; rfl) | (cases h1.int; cases h2.str; rfl) | (cases h1.int; cases h2.non; rfl)
  | (cases h1.bl; cases h2.int; rfl) | (cases h1.bl; cases h2.bl; rfl) | (cases h1.bl; cases h2.str; rfl) | (cases h1.bl; cases h2.non; rfl)
  | (cases h1.str; cases h2.int; rfl) | (cases h1.str; cases h2.bl; rfl) | (cases h1.str; cases h2.str; rfl) | (cases h1.str; cases h2.non; rfl)
  | (cases h1.non; cases h2.int; rfl) | (cases h1.non; cases h2.bl; rfl) | (cases h1.non; cases h2.str; rfl) | (cases h1.non; cases h2.non; rfl)
  | (exfalso; exact Bool.false_ne_true fa) | (exfalso; exact Bool.false_ne_true fb)
theorem pz {F : Fx} {H : Hp} {x : D} {v : V} (fx : dL x = true) (hx : Den K F H x v) : ∀ {ds : List D} {vs : List V}, ds.all dL = true -> DenL K F H ds vs -> vs.all fD = true /\ inV v vs = inB x ds
 | [], vs, _, h => by have q : vs = [] := h; subst q; exact ⟨rfl, rfl⟩
 | d :: ds, vs, f, h => by
  obtain ⟨y, r, q, h1, h2⟩ := h
  subst q
  rw [List.all_cons, Bool.and_eq_true] at f
  obtain ⟨i1, i2⟩ := pz fx hx f.2 h2
  refine ⟨by rw [List.all_cons, mF f.1 h1, i1]; rfl, ?_⟩
  unfold inV inB at i2 ⊢
  rw [List.any_cons, List.any_cons, i2, AT f.1 fx h1 hx]
theorem mt {neg : Bool} : bh K (rIn K neg) (inD neg) := fun F H β Q d1 d2 d v1 v2 fr h1 h2 e k => by
 unfold inD at e
 cases q : dS d2 with
 | none => rw [q] at e; cases e
 | some ys =>
  rw [q] at e
  simp only [Option.bind_some] at e
  split at e
  ·rename_i hf
   rw [Bool.and_eq_true] at hf
   cases e
   cases d2 <;> first | (cases q; obtain ⟨a, xs, rfl, r1, dl⟩ := Den.sqL h2; obtain ⟨i1, i2⟩ := pz hf.1 h1 hf.2 dl; exact ⟨a, xs, rfl, .inl r1, mF hf.1 h1, i1, by rw [i2]; exact k _ H (To.refl fr) rfl⟩) | (cases q; obtain ⟨a, xs, rfl, r1, dl⟩ := Den.sqT h2; obtain ⟨i1, i2⟩ := pz hf.1 h1 hf.2 dl; exact ⟨a, xs, rfl, .inr r1, mF hf.1 h1, i1, by rw [i2]; exact k _ H (To.refl fr) rfl⟩) | cases q
  ·cases e
def ixD : D -> D -> Option D
 | .lst xs, .int i => atI xs i
 | .tup xs, .int i => atI xs i
 | _, _ => none
theorem uJ {F : Fx} {H : Hp} {ds : List D} {vs : List V} {i : Int} {d : D} (h : DenL K F H ds vs) (e : atI ds i = some d) : ∃ v, atI vs i = some v /\ Den K F H d v := by
 unfold atI at e ⊢
 rw [← h.length]
 cases q : ixN ds.length i with
 | none => rw [q] at e; cases e
 | some j =>
  rw [q] at e
  exact h.get e
theorem bA : bh K (fun x y H Q => re K x y H Q \/ uW K x y H Q) ixD := fun F H β Q d1 d2 d v1 v2 fr h1 h2 e k => by
 unfold ixD at e
 split at e
 ·obtain ⟨a, xs, rfl, r1, dl⟩ := Den.sqL h1
  obtain ⟨v, e2, hd⟩ := uJ dl e
  exact .inl ⟨a, xs, _, v, rfl, h2, r1, e2, k _ H (To.refl fr) hd⟩
 ·obtain ⟨a, xs, rfl, r1, dl⟩ := Den.sqT h1
  obtain ⟨v, e2, hd⟩ := uJ dl e
  exact .inr ⟨a, xs, _, v, rfl, h2, r1, e2, k _ H (To.refl fr) hd⟩
 ·cases e
theorem aO : IxR X (fun x y H Q => re X.K x y H Q \/ uW X.K x y H Q) := c8.or AN
def bD : List D -> Option D
 | [.lst xs] => some (.int xs.length)
 | [.tup xs] => some (.int xs.length)
 | _ => none
theorem DenL.one {F : Fx} {H : Hp} {d : D} {vs : List V} (h : DenL K F H [d] vs) : ∃ v, vs = [v] /\ Den K F H d v := by
 obtain ⟨x, r, e, h1, h2⟩ := h
 have q : r = [] := h2
 subst q
 exact ⟨x, e, h1⟩
theorem DenL.two {F : Fx} {H : Hp} {d c : D} {vs : List V} (h : DenL K F H [d, c] vs) : ∃ v w, vs = [v, w] /\ Den K F H d v /\ Den K F H c w := by
 obtain ⟨x, r, e, h1, h2⟩ := h
 obtain ⟨y, rfl, h3⟩ := DenL.one h2
 exact ⟨x, y, e, h1, h3⟩
theorem dX : dN K (fun xs H Q => ∃ p ys, xs = [.ref p] /\ (SqL K H p ys \/ SqT K H p ys) /\ Q (.int ys.length) H) bD := fun F H β Q ds d vs fr h e k => by
 unfold bD at e
 split at e
 ·cases e
  obtain ⟨v, rfl, g⟩ := DenL.one h
  obtain ⟨a, xs, rfl, r, dl⟩ := Den.sqL g
  exact ⟨a, xs, rfl, .inl r, by rw [← dl.length]; exact k _ H (To.refl fr) rfl⟩
 ·cases e
  obtain ⟨v, rfl, g⟩ := DenL.one h
  obtain ⟨a, xs, rfl, r, dl⟩ := Den.sqT g
  exact ⟨a, xs, rfl, .inr r, by rw [← dl.length]; exact k _ H (To.refl fr) rfl⟩
 ·cases e
def fY : List D -> Option D
 | [.int i] => some (.int (if i < 0 then -i else i))
 | _ => none
theorem ya : dN K (fun xs H Q => ∃ i, xs = [.int i] /\ Q (.int (if i < 0 then -i else i)) H) fY := fun F H β Q ds d vs fr h e k => by
 unfold fY at e
 split at e
 ·cases e
  obtain ⟨v, rfl, g⟩ := DenL.one h
  cases g.int
  exact ⟨_, rfl, k _ H (To.refl fr) rfl⟩
 ·cases e
def pe : List D -> Option D
 | [.int i, .int j] => some (.int (if j < i then j else i))
 | _ => none
theorem CC : dN K (fun xs H Q => ∃ i j, xs = [.int i, .int j] /\ Q (.int (if j < i then j else i)) H) pe := fun F H β Q ds d vs fr h e k => by
 unfold pe at e
 split at e
 ·cases e
  obtain ⟨v, w, rfl, g, g'⟩ := DenL.two h
  cases g.int
  cases g'.int
  exact ⟨_, _, rfl, k _ H (To.refl fr) rfl⟩
 ·cases e
def dz : List D -> Option (List Int)
 | [] => some []
 | .int i :: r => (dz r).map (i :: ·)
 | _ => none
theorem intsOf_eq : ∀ {ds : List D} {ns : List Int}, dz ds = some ns -> ds = ns.map D.int
 | [], ns, h => by cases h; rfl
 | d :: ds, ns, h => by
  cases d with
  | int i =>
   unfold dz at h
   cases q : dz ds with
   | none => rw [q] at h; cases h
   | some ms => rw [q] at h; cases h; rw [intsOf_eq q]; rfl
  | _ => cases h
def uR : List D -> Option D
 | [.lst xs] => (dz xs).map fun ns => .int ns.sum
 | _ => none
theorem CB : dN K (fun xs H Q => ∃ (a : Addr) (ns : List Int), xs = [.ref a] /\ SqL K H a (ns.map V.int) /\ Q (.int ns.sum) H) uR := fun F H β Q ds d vs fr h e k => by
 unfold uR at e
 split at e
 ·rename_i xs
  cases q : dz xs with
  | none => rw [q] at e; cases e
  | some ns =>
   rw [q] at e; cases e
   obtain ⟨v, rfl, g⟩ := DenL.one h
   obtain ⟨a, ys, rfl, r, dl⟩ := Den.sqL g
   rw [intsOf_eq q] at dl
   have e2 := DenL.ints ns dl
   subst e2
   exact ⟨a, ns, rfl, r, k _ H (To.refl fr) rfl⟩
 ·cases e
def rF : List D -> Option D
 | [.lst xs] => some (.lst xs)
 | [.tup xs] => some (.lst xs)
 | _ => none
theorem AI : dN K (fun xs H Q => ∃ p ys, xs = [.ref p] /\ (SqL K H p ys \/ SqT K H p ys) /\ ∀ l, H l = none -> Q (.ref l) (upd H l (.lst ys))) rF := fun F H β Q ds d vs fr h e k => by
 unfold rF at e
 split at e
 ·cases e
  obtain ⟨v, rfl, g⟩ := DenL.one h
  obtain ⟨a, xs, rfl, r, dl⟩ := Den.sqL g
  exact ⟨a, xs, rfl, .inl r, fun l hl => k _ _ (fr.upd _ hl) (Den.newL fr hl dl)⟩
 ·cases e
  obtain ⟨v, rfl, g⟩ := DenL.one h
  obtain ⟨a, xs, rfl, r, dl⟩ := Den.sqT g
  exact ⟨a, xs, rfl, .inr r, fun l hl => k _ _ (fr.upd _ hl) (Den.newL fr hl dl)⟩
 ·cases e
end
def asB : D -> Option Bool
 | .bl b => some b
 | _ => none
theorem kH {d : D} {b : Bool} (h : asB d = some b) : d = .bl b := by cases d <;> first | (cases h; rfl) | cases h
def ix : D -> Option Bool
 | .non => some false
 | .bl b => some b
 | .int i => some (i != 0)
 | .lst xs => some (!xs.isEmpty)
 | .tup xs => some (!xs.isEmpty)
 | _ => none
def fB (f : Dn -> M D) : Dn -> M Bool := fun δ => M.bind (f δ) fun d => M.ofO (asB d)
def dB (f : Dn -> M D) : Dn -> M Bool := fun δ => M.bind (f δ) fun d => M.ofO (ix d)
def j2 (f g : Dn -> M Bool) : Dn -> M Bool := fun δ => M.bind (f δ) fun c => if c = true then g δ else M.ret false
def de (f g : Dn -> M Bool) : Dn -> M Bool := fun δ => M.bind (f δ) fun c => if c = true then M.ret true else g δ
def cX (f : Dn -> M Bool) : Dn -> M Bool := fun δ => M.bind (f δ) fun c => M.ret (!c)
def iR (f g : Dn -> M D) : Dn -> M D := fun δ => M.bind (f δ) fun d => M.bind (M.ofO (asB d)) fun c => if c = true then g δ else M.ret (.bl false)
def fOr (f g : Dn -> M D) : Dn -> M D := fun δ => M.bind (f δ) fun d => M.bind (M.ofO (asB d)) fun c => if c = true then M.ret (.bl true) else g δ
def mH (f : Dn -> M D) : Dn -> M D := fun δ => M.bind (f δ) fun d => M.bind (M.ofO (asB d)) fun c => M.ret (.bl (!c))
def fIf (t : Dn -> M Bool) (f g : Dn -> M D) : Dn -> M D := fun δ => M.bind (t δ) fun c => if c = true then f δ else g δ
def ck (o o' : D -> D -> Option D) (f g h : Dn -> M D) : Dn -> M D := fun δ => M.bind (f δ) fun a => M.bind (g δ) fun b => M.bind (M.ofO (o a b)) fun z => M.bind (M.ofO (asB z)) fun c => if c = true then M.bind (h δ) (fun w => M.ofO (o' b w)) else M.ret (.bl false)
section
variable {X : Cx} {E : St -> XK} {a b c : Expr} {rest : List Expr} {pos : Pos} {K : Frag}
theorem M.ofO_bind {α γ : Type} {o : Option α} {k : α -> M γ} {β : Bg} {z : Except Addr γ × Bg} (h : M.bind (M.ofO o) k β = some z) : ∃ a, o = some a /\ k a β = some z := by
 cases o with
 | none => cases h
 | some a => exact ⟨a, rfl, h⟩
theorem run.ofO_bind {α γ ζ : Type} {R : Hp -> γ -> ζ -> Prop} {F : Fx} {σ : St} {o : Option α} {k : α -> M γ} {H : Hp} {Q : ζ -> Hp -> Prop} {β : Bg} (h : run R F E σ (M.bind (M.ofO o) k) H Q β) : ∃ a, o = some a /\ run R F E σ (k a) H Q β := by
 obtain ⟨r, β', e, h⟩ := h
 obtain ⟨a, q, e⟩ := M.ofO_bind e
 exact ⟨a, q, r, β', e, h⟩
theorem run.bOk {F : Fx} {σ : St} {d : D} {v : V} {H : Hp} {Q : Bool -> Hp -> Prop} {β : Bg} (fr : Fr F H β) (hd : Den K F H d v) (h : run (fun _ (a b : Bool) => b = a) F E σ (M.ofO (asB d)) H Q β) : ∃ k, v = .bl k /\ Q k H := by
 obtain ⟨b, e, k⟩ := run.ofO h
 rw [kH e] at hd
 exact ⟨b, hd, k b H (To.refl fr) rfl⟩
theorem oH {f : Dn -> M D} {σ : St} {H : Hp} {Q : Bool -> Hp -> Prop} (h : tVT K (fB f) E σ H Q) : tV K f E σ H fun x H' => ∃ k, x = .bl k /\ Q k H' := by
 obtain ⟨F, δ, β, fr, vk, h⟩ := h
 exact ⟨F, δ, β, fr, vk, (run.bind (R := Den K F) h).mono fun v H1 h_ => ex5 h_ fun d β1 t hd r1 => run.bOk t.fr hd r1⟩
theorem bc {op : CmpOp} {r : R2} {o : D -> D -> Option D} {f g : Dn -> M D} (ho : OpR X (compareOp op) r) (l : bh X.K r o) (ha : PE X a (tV X.K f E)) (hb : PE X b (tV X.K g E)) (hm : behindInMarks op b = false := by first | exact o8 _ | rfl) : PT X (.Compare a [op] [b] pos) (tVT X.K (fB (f2 o f g)) E) :=
 (qm ho ha hb hm).imp fun σ H Q h => kN l (oH h)
theorem tu {r r' : R2} {o o' : D -> D -> Option D} {f g h : Dn -> M D} (l : bh K r o) (l' : bh K r' o') {σ : St} {H : Hp} {Q : VK} (hw : tV K (ck o o' f g h) E σ H Q) : tw r r' (tV K f E) (tV K g E) (tV K h E) σ H Q := by
 obtain ⟨F, δ, β, fr, vk, hw⟩ := hw
 refine ⟨F, δ, β, fr, vk, (run.bind (R := Den K F) hw).mono fun v H1 h_ => ex5 h_ fun d β1 t hd r1 => ⟨F, δ, β1, t.fr, vk.tr (t.tr fr), (run.bind (R := Den K F) r1).mono fun v2 H2 h_ => ex5 h_ fun d2 β2 t2 hd2 r2 => ?_⟩⟩
 obtain ⟨z, ez, r3⟩ := run.ofO_bind r2
 obtain ⟨c, ec, r4⟩ := run.ofO_bind r3
 rw [kH ec] at ez
 refine l F H2 β2 _ d d2 _ v v2 t2.fr (Den.tr (t2.tr t.fr) _ _ hd) hd2 ez fun vz H3 t3 hz => ⟨c, hz, ?_⟩
 cases c with
 | true =>
  rw [if_pos rfl] at r4
  refine ⟨F, δ, β2, t3.fr, vk.tr ((t.tr fr).trans ((t2.tr t.fr).trans (t3.tr t2.fr))), ?_⟩
  have r5 : run (Den K F) F E σ (M.bind (h δ) fun w => M.ofO (o' d2 w)) H3 Q β2 := by
   obtain ⟨rr, β', e, q⟩ := r4
   refine ⟨rr, β', e, ?_⟩
   cases rr with
   | ok d => exact fun v H' tt => q v H' (t3.trans tt)
   | error C => exact fun H' tt => q H' (t3.trans tt)
  refine (run.bind (R := Den K F) r5).mono fun w H4 h_ => ex5 h_ fun dw β4 t4 hdw r6 => ?_
  obtain ⟨d3, e3, k⟩ := run.ofO r6
  exact l' F H4 β4 Q d2 dw d3 v2 w t4.fr (Den.tr ((t3.tr t2.fr).trans (t4.tr t3.fr)) _ _ hd2) hdw e3 k
 | false =>
  rw [if_neg Bool.false_ne_true] at r4
  obtain ⟨rr, β', e, q⟩ := r4
  cases e
  exact q _ H3 t3 rfl
theorem lU {op op' : CmpOp} {r r' : R2} {o o' : D -> D -> Option D} {f g h : Dn -> M D} (ho : OpR X (compareOp op) r) (ho' : OpR X (compareOp op') r') (l : bh X.K r o) (l' : bh X.K r' o') (ha : PE X a (tV X.K f E)) (hb : PE X b (tV X.K g E)) (hc : PE X c (tV X.K h E)) (hm : lastMarks [op, op'] [b, c] = false := by with_unfolding_all rfl) :
  PT X (.Compare a [op, op'] [b, c] pos) (tVT X.K (fB (ck o o' f g h)) E) := (uY ho ho' ha hb hc hm).imp fun σ H Q q => tu l l' (oH q)
theorem yw {F : Fx} {H : Hp} {d : D} {v : V} {k : Bool} (h : ix d = some k) (hd : Den K F H d v) : xy K v H k := by
 cases d with
 | non => cases h; cases hd.non; rfl
 | bl b => cases h; cases hd.bl; rfl
 | int i => cases h; cases hd.int; rfl
 | lst xs =>
  cases h
  obtain ⟨a, ys, rfl, r, dl⟩ := Den.sqL hd
  refine .inl ⟨ys, r, ?_⟩
  have := dl.length
  cases xs <;> cases ys <;> first | rfl | (simp at this)
 | tup xs =>
  cases h
  obtain ⟨a, ys, rfl, r, dl⟩ := Den.sqT hd
  refine .inr (.inl ⟨ys, r, ?_⟩)
  have := dl.length
  cases xs <;> cases ys <;> first | rfl | (simp at this)
 | _ => cases h
theorem jO {f : Dn -> M D} (ha : PE X a (tV X.K f E)) (he : ∀ whole, isTrue a X.env whole = (do let v ← whole; standAt a.pos; holding [v] (truthy v)) := by intro _; rfl) : PT X a (tVT X.K (dB f) E) :=
 (uX ha he).imp fun σ H Q h_ => ex6 h_ fun F δ β fr vk h => ⟨F, δ, β, fr, vk, (run.bind (R := Den X.K F) h).mono fun v H1 h_ => by
  obtain ⟨d, β1, t, hd, r1⟩ := h_
  obtain ⟨k, e, q⟩ := run.ofO r1
  exact ⟨k, yw e hd, q k H1 (To.refl t.fr) rfl⟩⟩
theorem jP {f : Dn -> M Bool} (ha : PT X a (tVT X.K f E)) : PT X (.UnaryOp .Not a pos) (tVT X.K (cX f) E) :=
 (Ac ha).imp fun σ H Q h_ => ex6 h_ fun F δ β fr vk h => ⟨F, δ, β, fr, vk, (run.bind (R := fun _ (a b : Bool) => b = a) h).mono fun v H1 h_ => by
  obtain ⟨d, β1, t, hd, r1⟩ := h_
  subst hd
  exact run.ret t.fr r1 rfl⟩
theorem zO {f g : Dn -> M Bool} {σ : St} {H : Hp} {Q : Bool -> Hp -> Prop} (h : tVT K (de f g) E σ H Q) : tOr (tVT K f E) (tVT K g E) σ H Q := by
 obtain ⟨F, δ, β, fr, vk, h⟩ := h
 refine ⟨F, δ, β, fr, vk, (run.bind (R := fun _ (a b : Bool) => b = a) h).mono fun v H1 h_ => ex5 h_ fun d β1 t hd r1 => ?_⟩
 subst hd
 cases v with
 | false => rw [if_neg Bool.false_ne_true] at r1 ⊢; exact ⟨F, δ, β1, t.fr, vk.tr (t.tr fr), r1⟩
 | true => rw [if_pos rfl] at r1 ⊢; exact run.ret t.fr r1 rfl
theorem nV {f : Dn -> M Bool} (ha : PT X a (tVT X.K f E)) : PW X (.BoolOp .Or [a] pos) (tVT X.K f E) := Ab ha
theorem qU {f g : Dn -> M Bool} (ha : PT X a (tVT X.K f E)) (hb : PW X (.BoolOp .Or (b :: rest) pos) (tVT X.K g E)) : PW X (.BoolOp .Or (a :: b :: rest) pos) (tVT X.K (de f g) E) := (Cr ha hb).imp fun _ _ _ => zO
theorem kM {e : Expr} {f : Dn -> M Bool} (h : PW X e (tVT X.K f E)) : PT X e (tVT X.K f E) := PW.pt h
theorem Ch {op} {f : Dn -> M D} (h : PE X a (tV X.K f E)) : PE X (.BoolOp op [a] pos) (tV X.K f E) := Aq h
theorem run.asB {F : Fx} {σ : St} {d : D} {v : V} {k : Bool -> M D} {H : Hp} {Q : VK} {β : Bg} (hd : Den K F H d v) (h : run (Den K F) F E σ (M.bind (M.ofO (asB d)) k) H Q β) : ∃ c, v = .bl c /\ run (Den K F) F E σ (k c) H Q β := by
 obtain ⟨c, e, h⟩ := run.ofO_bind h
 rw [kH e] at hd
 exact ⟨c, hd, h⟩
theorem Ci {f g : Dn -> M D} (ha : PE X a (tV X.K f E)) (hb : PE X (.BoolOp .And (b :: rest) pos) (tV X.K g E)) : PE X (.BoolOp .And (a :: b :: rest) pos) (tV X.K (iR f g) E) :=
 (At ha hb).imp fun σ H Q h_ => ex6 h_ fun F δ β fr vk h => ⟨F, δ, β, fr, vk, (run.bind (R := Den X.K F) h).mono fun v H1 h_ => by
  obtain ⟨d, β1, t, hd, r1⟩ := h_
  obtain ⟨c, e, r2⟩ := run.asB hd r1
  refine ⟨c, e, ?_⟩
  cases c with
  | true => rw [if_pos rfl] at r2 ⊢; exact ⟨F, δ, β1, t.fr, vk.tr (t.tr fr), r2⟩
  | false => rw [if_neg Bool.false_ne_true] at r2 ⊢; exact run.ret t.fr r2 rfl⟩
theorem uM {t : Dn -> M Bool} {f g : Dn -> M D} (hc : PT X c (tVT X.K t E)) (ha : PE X a (tV X.K f E)) (hb : PE X b (tV X.K g E)) : PE X (.IfExp c a b pos) (tV X.K (fIf t f g) E) :=
 (ve hc ha hb).imp fun σ H Q h_ => ex6 h_ fun F δ β fr vk h => ⟨F, δ, β, fr, vk, (run.bind (R := fun _ (a b : Bool) => b = a) h).mono fun v H1 h_ => by
  obtain ⟨d, β1, t, hd, r1⟩ := h_
  subst hd
  cases v with
  | true => rw [if_pos rfl] at r1 ⊢; exact ⟨F, δ, β1, t.fr, vk.tr (t.tr fr), r1⟩
  | false => rw [if_neg Bool.false_ne_true] at r1 ⊢; exact ⟨F, δ, β1, t.fr, vk.tr (t.tr fr), r1⟩⟩
def tyD : D -> Option String
 | .non => some "NoneType" | .bl _ => some "bool" | .int _ => some "int" | .str _ => some "str" | .lst _ => some "list" | .tup _ => some "tuple" | _ => none
def gX : String -> String -> Option Bool
 | "int", "str" => some false | "int", "bool" => some false | "int", "list" => some false | "int", "tuple" => some false | "int", "int" => some true
 | "bool", "str" => some false | "bool", "bool" => some true | "bool", "list" => some false | "bool", "tuple" => some false
 | "str", "str" => some true | "str", "bool" => some false | "str", "list" => some false | "str", "tuple" => some false
 | "NoneType", "str" => some false | "NoneType", "bool" => some false | "NoneType", "list" => some false | "NoneType", "tuple" => some false
 | "list", "list" => some true | "list", "tuple" => some false | "list", "str" => some false | "list", "bool" => some false
 | "tuple", "list" => some false | "tuple", "tuple" => some true | "tuple", "str" => some false | "tuple", "bool" => some false
 | _, _ => none
def gW : String -> String -> String -> Option Bool
 | "int", "list", "tuple" => some false | "bool", "list", "tuple" => some false | "str", "list", "tuple" => some false | "NoneType", "list", "tuple" => some false | "list", "list", "tuple" => some true | "tuple", "list", "tuple" => some true
 | "int", "int", "str" => some true | "bool", "int", "str" => some true | "str", "int", "str" => some true | "NoneType", "int", "str" => some false | "list", "int", "str" => some false | "tuple", "int", "str" => some false
 | _, _, _ => none
theorem zg {a b : String} {c : Bool} (h : gX a b = some c) : PySem.W.kitOne K (.type a) (.type b) = some c := by
 unfold gX at h
 split at h <;> first | (cases h; kernel_rfl) | cases h
theorem zf {a b b' : String} {c : Bool} (h : gW a b b' = some c) : PySem.W.kitAny K (.type a) ([b, b'].map Value.type) = some c := by
 unfold gW at h
 split at h <;> first | (cases h; kernel_rfl) | cases h
def TyG (K : Frag) (H : Hp) (x : V) (t : Value) : Prop := TyOf K H x t \/ (∃ a ys, x = .ref a /\ SqL K H a ys /\ t = .type "list") \/ (∃ a ys, x = .ref a /\ SqT K H a ys /\ t = .type "tuple")
def xQ (K : Frag) : List V -> Hp -> VK -> Prop := fun xs H Q => ∃ x c t b, xs = [x, .ty c] /\ TyG K H x t /\ PySem.W.kitOne K t (.type c) = some b /\ Q (.bl b) H
theorem cQ : cZ X (.builtin "isinstance") (xQ X.K) := by
 intro pins s σ H xs us Q I r h
 obtain ⟨x, c, t, b, rfl, ty, e, q⟩ := h
 cases r with
 | cons r1 r2 =>
  cases r2 with
  | cons r2 r3 =>
   cases r3
   cases r2
   rcases ty with ty | ⟨a, ys, rfl, sq, rfl⟩ | ⟨a, ys, rfl, sq, rfl⟩
   ·exact uk I r1 ty e fun tk => ⟨.bl b, H, I.tok _, rfl, q⟩
   ·cases r1
    obtain ⟨its, _, pl, _⟩ := I.list sq
    obtain ⟨o, ho, hc, _⟩ := pl.isList
    exact PySem.W.kia_one PySem.W.kitx_list I.kIn ⟨o, ho, hc⟩ e (fun z => nomatch z) fun tk => ⟨.bl b, H, I.tok _, rfl, q⟩
   ·cases r1
    obtain ⟨its, _, pl, _⟩ := I.tuple sq
    obtain ⟨o, ho, hc, _⟩ := pl
    exact PySem.W.kia_one PySem.W.kitx_tuple I.kIn ⟨o, ho, hc⟩ e (fun z => nomatch z) fun tk => ⟨.bl b, H, I.tok _, rfl, q⟩
theorem sY {F : Fx} {H : Hp} {d : D} {v : V} {t : String} (h : tyD d = some t) (hd : Den K F H d v) : TyG K H v (.type t) := by
 cases d with
 | non => cases h; cases hd.non; exact .inl .non
 | bl b => cases h; cases hd.bl; exact .inl (.bl b)
 | int b => cases h; cases hd.int; exact .inl (.int b)
 | str b => cases h; cases hd.str; exact .inl (.str b)
 | lst ds => cases h; obtain ⟨a, xs, rfl, sq, _⟩ := Den.sqL hd; exact .inr (.inl ⟨a, xs, rfl, sq, rfl⟩)
 | tup ds => cases h; obtain ⟨a, xs, rfl, sq, _⟩ := Den.sqT hd; exact .inr (.inr ⟨a, xs, rfl, sq, rfl⟩)
 | _ => cases h
def cb : List D -> Option D
 | [x, .ty c] => (tyD x).bind fun t => (gX t c).map D.bl
 | _ => none
theorem gQ : dN K (xQ K) cb := fun F H β Q ds d vs fr h e k => by
 unfold cb at e
 split at e
 ·rename_i x c
  cases q : tyD x with
  | none => rw [q] at e; cases e
  | some t =>
   rw [q] at e
   simp only [Option.bind_some] at e
   cases q2 : gX t c with
   | none => rw [q2] at e; cases e
   | some b =>
    rw [q2] at e; cases e
    obtain ⟨v, w, rfl, h1, h2⟩ := DenL.two h
    cases h2.ty
    exact ⟨v, c, _, b, rfl, sY q h1, zg q2, k _ H (To.refl fr) rfl⟩
 ·cases e
def tS (K : Frag) : List V -> Hp -> VK -> Prop := fun xs H Q => ∃ (x : V) (tp : Addr) (cs : List String) (t : Value) (b : Bool), xs = [x, .ref tp] /\ SqT K H tp (cs.map V.ty) /\ TyG K H x t /\ PySem.W.kitAny K t (cs.map Value.type) = some b /\ Q (.bl b) H
theorem lP : cZ X (.builtin "isinstance") (tS X.K) := by
 intro pins s σ H xs us Q I r h
 obtain ⟨x, tp, cs, t, b, rfl, htp, ty, e, q⟩ := h
 cases r with
 | cons r1 r2 =>
  cases r2 with
  | cons r2 r3 =>
   cases r3
   cases r2
   obtain ⟨its, rv, ⟨⟨oc, od, odt, osl⟩, ho, hoc, n, hod⟩, _⟩ := I.tuple htp
   rw [sX rv] at hod
   dsimp only at hoc hod
   subst hoc hod
   have fin : ∀ tk, EP X pins σ Q (.bool b) { s with toks := tk } := fun tk => ⟨.bl b, H, I.tok _, rfl, q⟩
   rcases ty with ty | ⟨a, ys, rfl, sq, rfl⟩ | ⟨a, ys, rfl, sq, rfl⟩
   ·cases ty with
    | non => cases r1; exact PySem.W.kia_tup PySem.W.kitx_none I.kIn True.intro ho e (fun z => nomatch z) fin
    | bl y => cases r1; exact PySem.W.kia_tup PySem.W.kitx_bool I.kIn True.intro ho e (fun z => nomatch z) fin
    | int i => obtain ⟨t, rfl⟩ := r1; exact PySem.W.kia_tup PySem.W.kitx_int I.kIn True.intro ho e (fun z => nomatch z) fin
    | str y => obtain ⟨t, rfl⟩ := r1; exact PySem.W.kia_tup PySem.W.kitx_str I.kIn True.intro ho e (fun z => nomatch z) fin
    | flt y => obtain ⟨t, rfl⟩ := r1; exact PySem.W.kia_tup PySem.W.kitx_float I.kIn True.intro ho e (fun z => nomatch z) fin
    | @lst a xs ea =>
     cases r1
     obtain ⟨_, _, n, _, h1⟩ := (show bf X.prog X.w H s.heap a (.lst xs) from I.hok a _ ea)
     exact PySem.W.kia_tup PySem.W.kitx_list I.kIn ⟨_, h1, rfl⟩ ho e (fun z => nomatch z) fin
    | @frz a ob xs ea =>
     cases r1
     obtain ⟨_, _, _, n, _, h1⟩ := (show bf X.prog X.w H s.heap a (.frz ob (.lst xs)) from I.hok a _ ea)
     exact PySem.W.kia_tup PySem.W.kitx_list I.kIn ⟨_, h1, rfl⟩ ho e (fun z => nomatch z) fin
    | @tup a xs ea =>
     cases r1
     obtain ⟨_, _, _, p⟩ := (show bf X.prog X.w H s.heap a (.tup xs) from I.hok a _ ea)
     obtain ⟨o, h1, h2, _⟩ := p
     exact PySem.W.kia_tup PySem.W.kitx_tuple I.kIn ⟨o, h1, h2⟩ ho e (fun z => nomatch z) fin
    | @dK a kvs ea =>
     cases r1
     obtain ⟨_, _, vs, _, p⟩ := (show bf X.prog X.w H s.heap a (.dK kvs) from I.hok a _ ea)
     obtain ⟨o, es, ep, h1, h2, _⟩ := p
     exact PySem.W.kia_tup PySem.W.kitx_dict I.kIn ⟨o, h1, h2.1⟩ ho e (fun z => nomatch z) fin
    | @dT a kvs ea =>
     cases r1
     obtain ⟨_, _, xs, _, o, es, ep, h1, h2, _⟩ := (show bf X.prog X.w H s.heap a (.dT kvs) from I.hok a _ ea)
     exact PySem.W.kia_tup PySem.W.kitx_dict I.kIn ⟨o, h1, h2.1⟩ ho e (fun z => nomatch z) fin
    | @ins a C dx fs ea cl ha hn htk hm =>
     cases r1
     obtain ⟨mA, O, _⟩ := ii I.hok ea
     obtain ⟨od, J, _⟩ := O.look
     exact PySem.W.kia_tup (PySem.W.kitx_own (cl.get _) cl.hd ha hn htk hm) I.kIn J ho e (fun z => nomatch z) fin
   ·cases r1
    obtain ⟨its, _, pl, _⟩ := I.list sq
    obtain ⟨o, ho', hc, _⟩ := pl.isList
    exact PySem.W.kia_tup PySem.W.kitx_list I.kIn ⟨o, ho', hc⟩ ho e (fun z => nomatch z) fin
   ·cases r1
    obtain ⟨its, _, pl, _⟩ := I.tuple sq
    obtain ⟨o, ho', hc, _⟩ := pl
    exact PySem.W.kia_tup PySem.W.kitx_tuple I.kIn ⟨o, ho', hc⟩ ho e (fun z => nomatch z) fin
def dY : List D -> Option D
 | [x, .tup [.ty a, .ty b]] => (tyD x).bind fun t => (gW t a b).map D.bl
 | _ => none
theorem uj : dN K (tS K) dY := fun F H β Q ds d vs fr h e k => by
 unfold dY at e
 split at e
 ·rename_i x a b
  cases q : tyD x with
  | none => rw [q] at e; cases e
  | some t =>
   rw [q] at e
   simp only [Option.bind_some] at e
   cases q2 : gW t a b with
   | none => rw [q2] at e; cases e
   | some c =>
    rw [q2] at e; cases e
    obtain ⟨v, w, rfl, h1, h2⟩ := DenL.two h
    obtain ⟨p, xs, rfl, sq, dl⟩ := Den.sqT h2
    obtain ⟨y, z, rfl, g1, g2⟩ := DenL.two dl
    cases g1.ty
    cases g2.ty
    exact ⟨v, p, [a, b], _, c, rfl, sq, sY q h1, zf q2, k _ H (To.refl fr) rfl⟩
 ·cases e
end
def ItD (K : Frag) (J : It) (F : Fx) (H : Hp) (ds : List D) : Prop := ∀ (F2 : Fx) (H2 : Hp) (β2 : Bg), Tr F H F2 H2 -> Fr F2 H2 β2 -> ∀ i, (∀ d, ds[i]? = some d -> J.go i H2 /\ ∀ x H3, J.yld i H2 x H3 -> bF H2 H3 /\ Den K F2 H3 d x) /\ (i = ds.length -> J.stop i H2)
theorem ItD.tr {K : Frag} {J : It} {F F2 : Fx} {H H2 : Hp} {ds : List D} (t : Tr F H F2 H2) (h : ItD K J F H ds) : ItD K J F2 H2 ds := fun F3 H3 β3 t3 fr => h F3 H3 β3 (t.trans t3) fr
def iV (K : Frag) (f : Dn -> M (List D)) (E : St -> XK) : TI := fun σ H R => ∃ F δ β, Fr F H β /\ VOk K F H δ σ /\ run (fun H' (ds : List D) (J : It) => ItD K J F H' ds) F E σ (f δ) H R β
theorem _root_.L2.PI.imp {X : Cx} {tg e : Expr} {t t' : TI} (h : PI X tg e t) (f : ∀ σ H Q, t' σ H Q -> t σ H Q) : PI X tg e t' := fun pins s σ H Q I q => h pins s σ H Q I (f σ H Q q)
section
variable {X : Cx} {E : St -> XK} {tg : Expr} {K : Frag}
def iSeq (K : Frag) (tl : TE) : TI := fun σ H R => tl σ H fun x H1 => (∃ a, x = .ref a /\ (∃ xs, SqL K H1 a xs) /\ R (Itl K a) H1) \/ (∃ a, x = .ref a /\ (∃ xs, SqT K H1 a xs) /\ R (Itt K a) H1)
theorem Am {l : Expr} {tl : TE} (hl : PE X l tl) : PI X tg l (iSeq X.K tl) := by
 intro pins s σ H R I h
 refine thn (hl pins s σ H _ I h) fun v s1 ⟨x, H1, I1, r1, q1⟩ => ?_
 have own : ∀ b ∈ [s1.heap.objs.size], dP X pins H1 b := fun b hb => by
  obtain rfl : b = s1.heap.objs.size := by simpa using hb
  exact I1.fpOk (Nat.le_refl _) (I1.hok.fresh (Nat.le_refl _))
 rcases q1 with ⟨a, e, ⟨xs, hq⟩, q⟩ | ⟨a, e, ⟨xs, hq⟩, q⟩
 ·subst e
  cases r1
  obtain ⟨its, rv, p, hz⟩ := I1.list hq
  exact wpAny_pyIter_list p.isList ⟨s1.heap.objs.size, [s1.heap.objs.size], _, _, H1, rfl, I1.kept (t' := s1.toks) fun b o e => Heap.get?_push_of_some _ e, mV a _, ⟨_, Heap.get?_push_size _ rfl, rfl, rfl⟩, own, q⟩
 ·subst e
  cases r1
  obtain ⟨its, rv, p, hz⟩ := I1.tuple hq
  exact wpAny_pyIter_tuple (show s1.heap.IsTuple a its.toArray from p) ⟨s1.heap.objs.size, [s1.heap.objs.size], _, _, H1, rfl, I1.kept (t' := s1.toks) fun b o e => Heap.get?_push_of_some _ e, qX a _, ⟨_, Heap.get?_push_size _ rfl, rfl, rfl⟩, own, q⟩
theorem vC {F : Fx} {H : Hp} {ds : List D} {a : Addr} (h : Den K F H (.lst ds) (.ref a)) : ItD K (Itl K a) F H ds := fun F2 H2 β2 t fr i => by
 have h2 := Den.tr t _ _ h
 obtain ⟨a', xs, e, sq, dl⟩ := Den.sqL h2
 cases e
 refine ⟨fun d hd => ?_, fun hi => ⟨xs, sq, by rw [← dl.length, hi]; exact Nat.le_refl _⟩⟩
 obtain ⟨x, hx, _⟩ := dl.get hd
 refine ⟨⟨xs, x, sq, hx⟩, fun y H3 hy => ?_⟩
 obtain ⟨rfl, hy⟩ := hy
 obtain ⟨d', e', hd'⟩ := dl.getV (hy xs sq)
 rw [hd] at e'
 cases e'
 exact ⟨bF.refl _, hd'⟩
theorem zj {F : Fx} {H : Hp} {ds : List D} {a : Addr} (h : Den K F H (.tup ds) (.ref a)) : ItD K (Itt K a) F H ds := fun F2 H2 β2 t fr i => by
 have h2 := Den.tr t _ _ h
 obtain ⟨a', xs, e, sq, dl⟩ := Den.sqT h2
 cases e
 refine ⟨fun d hd => ?_, fun hi => ⟨xs, sq, by rw [← dl.length, hi]; exact Nat.le_refl _⟩⟩
 obtain ⟨x, hx, _⟩ := dl.get hd
 refine ⟨⟨xs, x, sq, hx⟩, fun y H3 hy => ?_⟩
 obtain ⟨rfl, hy⟩ := hy
 obtain ⟨d', e', hd'⟩ := dl.getV (hy xs sq)
 rw [hd] at e'
 cases e'
 exact ⟨bF.refl _, hd'⟩
def aX (f : Dn -> M D) : Dn -> M (List D) := fun δ => M.bind (f δ) fun d => M.ofO (dS d)
theorem bU {l : Expr} {f : Dn -> M D} (hl : PE X l (tV X.K f E)) : PI X tg l (iV X.K (aX f) E) :=
 (Am hl).imp fun σ H R h_ => ex6 h_ fun F δ β fr vk h => ⟨F, δ, β, fr, vk, (run.bind (R := Den X.K F) h).mono fun v H1 h_ => by
  obtain ⟨d, β1, t, hd, r1⟩ := h_
  obtain ⟨ds, e, k⟩ := run.ofO r1
  cases d <;> first
   | (cases e; obtain ⟨a, xs, rfl, sq, dl⟩ := Den.sqL hd; exact .inl ⟨a, rfl, ⟨xs, sq⟩, k _ H1 (To.refl t.fr) (vC hd)⟩)
   | (cases e; obtain ⟨a, xs, rfl, sq, dl⟩ := Den.sqT hd; exact .inr ⟨a, rfl, ⟨xs, sq⟩, k _ H1 (To.refl t.fr) (zj hd)⟩)
   | cases e⟩
def bo (lo : Int) (n : Nat) : List D := (List.range n).map fun (i : Nat) => .int (lo + (i : Int))
theorem nc {F : Fx} {H : Hp} {lo : Int} {n : Nat} : ItD K (Itr lo n) F H (bo lo n) := fun F2 H2 β2 t fr i => by
 refine ⟨fun d hd => ?_, fun hi => ?_⟩
 ·unfold bo at hd
  have hi : i < n := by
   have := (List.getElem?_eq_some_iff.mp hd).1
   simpa using this
  rw [List.getElem?_map, List.getElem?_range hi] at hd
  cases hd
  exact ⟨hi, fun x H3 ⟨e1, e2⟩ => by subst e1 e2; exact ⟨bF.refl _, rfl⟩⟩
 ·show n <= i
  rw [hi]
  simp [bo]
def fR : List D -> Option (List D)
 | [.int j] => if (decide (-(2 ^ 62) <= j) && decide (j < 2 ^ 62)) = true then some (bo 0 j.toNat) else none
 | _ => none
def l7 : List D -> Option (List D)
 | [.int i, .int j] => if (decide (-(2 ^ 62) <= i) && decide (i < 2 ^ 62) && decide (-(2 ^ 62) <= j) && decide (j < 2 ^ 62)) = true then some (bo i (j - i).toNat) else none
 | _ => none
def bC (op : List D -> Option (List D)) (g : Dn -> M (List D)) : Dn -> M (List D) := fun δ => M.bind (g δ) fun as => M.ofO (op as)
theorem d6 {a : Expr} {g : Dn -> M (List D)} {p pos : Pos} (hg : Gl X "range") (hm : X.mg "range" = none) (ha : PA X [a] (tVA X.K g E)) (hs : starEach [a] X.env = [(false, eval a X.env)] := by rfl) : PI X tg (.Call (.Name "range" p) [a] [] pos) (iV X.K (bC fR g) E) :=
 (tY hg hm ha hs).imp fun σ H R h_ => ex6 h_ fun F δ β fr vk h => ⟨F, δ, β, fr, vk, (run.bind (R := DenL X.K F) h).mono fun vs H1 h_ => by
  obtain ⟨ds, β1, t, hd, r1⟩ := h_
  obtain ⟨l, e, k⟩ := run.ofO r1
  unfold fR at e
  split at e
  ·split at e
   ·rename_i hj
    cases e
    simp only [Bool.and_eq_true, decide_eq_true_eq] at hj
    obtain ⟨v, rfl, h1⟩ := DenL.one hd
    cases h1.int
    exact ⟨_, rfl, hj.1, hj.2, k _ H1 (To.refl t.fr) nc⟩
   ·cases e
  ·cases e⟩
theorem pA {a b : Expr} {g : Dn -> M (List D)} {p pos : Pos} (hg : Gl X "range") (hm : X.mg "range" = none) (ha : PA X [a, b] (tVA X.K g E)) (hs : starEach [a, b] X.env = [(false, eval a X.env), (false, eval b X.env)] := by rfl) (hs2 : starEach [b] X.env = [(false, eval b X.env)] := by rfl) : PI X tg (.Call (.Name "range" p) [a, b] [] pos) (iV X.K (bC l7 g) E) :=
 (tX hg hm ha hs hs2).imp fun σ H R h_ => ex6 h_ fun F δ β fr vk h => ⟨F, δ, β, fr, vk, (run.bind (R := DenL X.K F) h).mono fun vs H1 h_ => by
  obtain ⟨ds, β1, t, hd, r1⟩ := h_
  obtain ⟨l, e, k⟩ := run.ofO r1
  unfold l7 at e
  split at e
  ·split at e
   ·rename_i hj
    cases e
    simp only [Bool.and_eq_true, decide_eq_true_eq] at hj
    obtain ⟨v, w, rfl, h1, h2⟩ := DenL.two hd
    cases h1.int
    cases h2.int
    exact ⟨_, _, rfl, ⟨hj.1.1.1, hj.1.1.2, hj.1.2, hj.2⟩, k _ H1 (To.refl t.fr) nc⟩
   ·cases e
  ·cases e⟩
abbrev TgF := D -> Dn -> Option Dn
abbrev gE := List D -> Dn -> Option Dn
def eU (K : Frag) (g : TG) (tg : TgF) : Prop := ∀ (F : Fx) (H : Hp) (δ δ1 : Dn) (σ : St) (d : D) (v : V) (Q : St -> Hp -> Prop), VOk K F H δ σ -> Den K F H d v -> tg d δ = some δ1 -> (∀ σ1, VOk K F H δ1 σ1 -> Q σ1 H) -> g v σ H Q
def lS (K : Frag) (g : TGs) (tg : gE) : Prop := ∀ (F : Fx) (H : Hp) (δ δ1 : Dn) (σ : St) (ds : List D) (vs : List V) (Q : St -> Hp -> Prop), VOk K F H δ σ -> DenL K F H ds vs -> tg ds δ = some δ1 -> (∀ σ1, VOk K F H δ1 σ1 -> Q σ1 H) -> g vs σ H Q
def tgC (i : Nat) : TgF := fun d δ => if (δ.getD i (some .non)).isNone then some (δ.set i (some d)) else none
def gt : gE := fun ds δ => match ds with
 | [] => some δ
 | _ => none
def da (t : TgF) (u : gE) : gE := fun ds δ => match ds with
 | [] => none
 | d :: r => (t d δ).bind fun δ1 => u r δ1
def tgT (t : gE) : TgF := fun d δ => match d with
 | .tup ds => t ds δ
 | _ => none
theorem oF {i : Nat} {d : D} {δ δ1 : Dn} (h : tgC i d δ = some δ1) : δ[i]? = some none /\ δ1 = δ.set i (some d) := by
 unfold tgC at h
 split at h
 ·rename_i q
  cases h
  refine ⟨?_, rfl⟩
  rw [List.getD_eq_getElem?_getD] at q
  cases e : δ[i]? with
  | none => rw [e] at q; cases q
  | some z =>
   rw [e] at q
   cases z with
   | none => rfl
   | some w => cases q
 ·cases h
theorem ba {i : Nat} : eU K (dZ i) (tgC i) := fun F H δ δ1 σ d v Q vk hd e k => by
 obtain ⟨_, rfl⟩ := oF e
 exact k _ (vk.set hd)
theorem mq : lS K gNil gt := fun F H δ δ1 σ ds vs Q vk hd e k => by
 cases ds with
 | nil => cases e; exact ⟨hd, k _ vk⟩
 | cons _ _ => cases e
theorem fe {t : TG} {u : TGs} {tf : TgF} {uf : gE} (h1 : eU K t tf) (h2 : lS K u uf) : lS K (rP t u) (da tf uf) := fun F H δ δ1 σ ds vs Q vk hd e k => by
 cases ds with
 | nil => cases e
 | cons d r =>
  obtain ⟨x, xr, rfl, hx, hr⟩ := hd
  have e' : (tf d δ).bind (fun δ1 => uf r δ1) = some δ1 := e
  cases q : tf d δ with
  | none => rw [q] at e'; cases e'
  | some δ2 =>
   rw [q] at e'
   exact ⟨x, xr, rfl, h1 F H δ δ2 σ d x _ vk hx q fun σ1 vk1 => h2 F H δ2 δ1 σ1 r xr Q vk1 hr e' k⟩
theorem pi {n : Nat} {t : TGs} {tf : gE} (h : lS K t tf) (hn : ∀ ds δ δ1, tf ds δ = some δ1 -> ds.length = n) : eU K (vK K n t) (tgT tf) := fun F H δ δ1 σ d v Q vk hd e k => by
 cases d <;> first
  | (obtain ⟨a, xs, rfl, sq, dl⟩ := Den.sqT hd; exact ⟨a, xs, rfl, sq, by rw [← dl.length]; exact hn _ _ _ e, h F H δ δ1 σ _ xs Q vk dl e k⟩)
  | cases e
theorem kj : ∀ ds δ δ1, gt ds δ = some δ1 -> ds.length = 0 := fun ds δ δ1 h => by
 cases ds with
 | nil => rfl
 | cons _ _ => cases h
theorem eW {t : TgF} {u : gE} {n : Nat} (h : ∀ ds δ δ1, u ds δ = some δ1 -> ds.length = n) : ∀ ds δ δ1, da t u ds δ = some δ1 -> ds.length = n + 1 := fun ds δ δ1 e => by
 cases ds with
 | nil => cases e
 | cons d r =>
  have e' : (t d δ).bind (fun δ1 => u r δ1) = some δ1 := e
  cases q : t d δ with
  | none => rw [q] at e'; cases e'
  | some δ2 => rw [q] at e'; rw [List.length_cons, h _ _ _ e']
def gF (tg : TgF) : Prop := ∀ d δ δ1, tg d δ = some δ1 -> Sub δ δ1 /\ δ.length = δ1.length
def oo (tg : gE) : Prop := ∀ d δ δ1, tg d δ = some δ1 -> Sub δ δ1 /\ δ.length = δ1.length
theorem bp {i : Nat} : gF (tgC i) := fun d δ δ1 e => by
 obtain ⟨q, rfl⟩ := oF e
 refine ⟨fun j c ej => ?_, by rw [List.length_set]⟩
 rw [List.getElem?_set]
 by_cases z : i = j
 ·subst z; rw [q] at ej; cases ej
 ·rw [if_neg z]; exact ej
theorem lX : oo gt := fun ds δ δ1 e => by
 cases ds with
 | nil => cases e; exact ⟨fun _ _ h => h, rfl⟩
 | cons _ _ => cases e
theorem eY {t : TgF} {u : gE} (h1 : gF t) (h2 : oo u) : oo (da t u) := fun ds δ δ1 e => by
 cases ds with
 | nil => cases e
 | cons d r =>
  have e' : (t d δ).bind (fun δ1 => u r δ1) = some δ1 := e
  cases q : t d δ with
  | none => rw [q] at e'; cases e'
  | some δ2 =>
   rw [q] at e'
   obtain ⟨a1, a2⟩ := h1 _ _ _ q
   obtain ⟨b1, b2⟩ := h2 _ _ _ e'
   exact ⟨fun i c h => b1 i c (a1 i c h), a2.trans b2⟩
theorem oO {t : gE} (h : oo t) : gF (tgT t) := fun d δ δ1 e => by
 cases d <;> first | exact h _ _ _ e | cases e
structure ToD (F : Fx) (D : Addr) (H H' : Hp) (β' : Bg) : Prop where
 kp : ∀ a o, H a = some o -> a ≠ D -> (∀ b l, F.bg = some (b, l) -> a ≠ b /\ a ≠ l) -> H' a = some o
 fr : Fr F H' β'
theorem ToD.trans {F : Fx} {D : Addr} {H H1 H2 : Hp} {β1 β2 : Bg} (a : ToD F D H H1 β1) (b : ToD F D H1 H2 β2) : ToD F D H H2 β2 := ⟨fun x o h n m => b.kp x o (a.kp x o h n m) n m, b.fr⟩
theorem To.toD {F : Fx} {H H' : Hp} {β' : Bg} (t : To F H H' β') (D : Addr) : ToD F D H H' β' := ⟨fun a o h _ m => t.kp a o h m, t.fr⟩
theorem ToD.tr {F : Fx} {D : Addr} {H H' : Hp} {β β' : Bg} (fr : Fr F H β) (hD : F.A D) (t : ToD F D H H' β') : Tr F H F H' :=
 ⟨fun _ h _ => h, fun a o h e => t.kp a o e (fun z => h (z ▸ hD)) fun b l q => ⟨fun z => h (z ▸ (fr.bgA b l q).1), fun z => h (z ▸ (fr.bgA b l q).2.1)⟩, rfl⟩
def iX (K : Frag) (D : Addr) (tb : TB) (f : Dn -> M (List Pu.D)) : Prop := ∀ (F : Fx) (H : Hp) (δ : Dn) (β β' : Bg) (σ : St) (acc : List V) (as os : List Pu.D) (Q : St -> Hp -> Prop), Fr F H β -> F.A D -> (∀ b l, F.bg = some (b, l) -> D ≠ b /\ D ≠ l) -> VOk K F H δ σ -> H D = some (.lst acc) -> DenL K F H as acc ->
 f δ β = some (.ok os, β') -> as.length + os.length <= sizeLine -> (∀ σ1 H1 acc1, ToD F D H H1 β' -> VOk K F H1 δ σ1 -> H1 D = some (.lst acc1) -> DenL K F H1 (as ++ os) acc1 -> Q σ1 H1) -> tb σ H Q
def cEm (f : Dn -> M Pu.D) : Dn -> M (List Pu.D) := fun δ => M.bind (f δ) fun d => M.ret [d]
theorem M.bind_inv {α γ : Type} {m : M α} {k : α -> M γ} {β β' : Bg} {r : γ} (h : M.bind m k β = some (.ok r, β')) : ∃ a β1, m β = some (.ok a, β1) /\ k a β1 = some (.ok r, β') := by
 unfold M.bind at h
 split at h
 ·cases h
 ·cases h
 ·rename_i a β1 e
  exact ⟨a, β1, e, h⟩
theorem E0.run {α γ : Type} {R : Hp -> α -> γ -> Prop} {F : Fx} {σ : St} {m : M α} {H : Hp} {Q : γ -> Hp -> Prop} {β β' : Bg} {a : α} (e : m β = some (.ok a, β')) (h : ∀ v H', To F H H' β' -> R H' a v -> Q v H') : run R F E0 σ m H Q β := ⟨.ok a, β', e, h⟩
theorem bS {D : Addr} {f : Dn -> M Pu.D} : iX K D (rU D (tV K f E0)) (cEm f) := fun F H δ β β' σ acc as os Q fr hA hb vk hD hd e hz k => by
 obtain ⟨d, β1, e1, e2⟩ := M.bind_inv e
 cases e2
 refine ⟨F, δ, β, fr, vk, E0.run e1 fun v H1 t hv => ?_⟩
 have hD1 := t.kp D _ hD hb
 have dl := DenL.tr (t.tr fr) _ _ hd
 refine ⟨acc, hD1, by rw [← hd.length]; simp at hz; omega, ?_⟩
 have tD : ToD F D H1 (upd H1 D (.lst (acc ++ [v]))) β' := by
  refine ⟨fun a o h n _ => by rw [upd_ne n]; exact h, fun a h q => ?_, fr.bgA, fun b l q => ?_⟩
  ·by_cases z : a = D
   ·subst z; rw [ax] at q; cases q
   ·rw [upd_ne z] at q; exact t.fr.occ a h q
  ·rw [upd_ne (hb b l q).1.symm, upd_ne (hb b l q).2.symm]
   exact t.fr.bag b l q
 have tt := tD.tr t.fr hA
 exact k σ _ _ ((t.toD D).trans tD) (vk.tr ((t.tr fr).trans tt)) ax (DenL.append (DenL.tr tt _ _ dl) ⟨v, [], rfl, Den.tr tt _ _ hv, rfl⟩)
def cLp (tg : TgF) (tt : Dn -> M Bool) (b : Dn -> M (List Pu.D)) : List Pu.D -> Dn -> M (List Pu.D)
 | [], _ => M.ret []
 | d :: ds, δ => match tg d δ with
  | none => M.fail
  | some δ1 => M.bind (tt δ1) fun c => M.bind (if c = true then b δ1 else M.ret []) fun o => M.bind (cLp tg tt b ds δ) fun os => M.ret (o ++ os)
theorem qy {D : Addr} {J : It} {g : TG} {tg : TgF} {tt : Dn -> M Bool} {tb : TB} {b : Dn -> M (List Pu.D)} (hg : eU K g tg) (sg : gF tg) (hb : iX K D tb b) {F : Fx} {H : Hp} {δ : Dn} {β β' : Bg} {σ : St} {acc : List V} {as os ds : List Pu.D} {Q : St -> Hp -> Prop} (fr : Fr F H β) (hA : F.A D) (hn : ∀ b l, F.bg = some (b, l) -> D ≠ b /\ D ≠ l) (vk : VOk K F H δ σ) (hD : H D = some (.lst acc)) (hd : DenL K F H as acc)
  (it : ItD K J F H ds) (e : cLp tg tt b ds δ β = some (.ok os, β')) (hz : as.length + os.length <= sizeLine) (k : ∀ σ1 H1 acc1, ToD F D H H1 β' -> VOk K F H1 δ σ1 -> H1 D = some (.lst acc1) -> DenL K F H1 (as ++ os) acc1 -> Q σ1 H1) : eP J g (tVT K tt E0) tb σ H Q := by
 refine ⟨fun i m σ1 H1 => m + i = ds.length /\ ∃ β1 acc1 as1 os1, ToD F D H H1 β1 /\ VOk K F H1 δ σ1 /\ H1 D = some (.lst acc1) /\ DenL K F H1 as1 acc1 /\ cLp tg tt b (ds.drop i) δ β1 = some (.ok os1, β') /\ as1 ++ os1 = as ++ os,
  ⟨ds.length, by omega, β, acc, as, os, ⟨fun _ _ h _ _ => h, fr⟩, vk, hD, hd, e, rfl⟩, ?_⟩
 rintro i m σ1 H1 ⟨hm, β1, acc1, as1, os1, t1, vk1, hD1, hd1, e1, ea⟩
 have tr1 := t1.tr fr hA
 obtain ⟨iy, is⟩ := it F H1 β1 tr1 t1.fr i
 cases hi : ds[i]? with
 | none =>
  have hl : ds.length <= i := List.getElem?_eq_none_iff.mp hi
  rw [List.drop_eq_nil_of_le hl] at e1
  cases e1
  refine .inl ⟨is (by omega), k σ1 H1 acc1 t1 vk1 hD1 ?_⟩
  rw [← ea, List.append_nil]
  exact hd1
 | some d =>
  have hl : i < ds.length := (List.getElem?_eq_some_iff.mp hi).1
  obtain ⟨go, yl⟩ := iy d hi
  have ed : ds.drop i = d :: ds.drop (i + 1) := by
   rw [List.drop_eq_getElem_cons hl]
   congr 1
   exact Option.some.inj ((List.getElem?_eq_getElem hl).symm.trans hi)
  rw [ed] at e1
  unfold cLp at e1
  cases q : tg d δ with
  | none => rw [q] at e1; cases e1
  | some δ1 =>
   rw [q] at e1
   obtain ⟨c, β2, e2, e3⟩ := M.bind_inv e1
   obtain ⟨o, β3, e4, e5⟩ := M.bind_inv e3
   obtain ⟨os2, β4, e6, e7⟩ := M.bind_inv e5
   cases e7
   obtain ⟨s1, s2⟩ := sg _ _ _ q
   refine .inr ⟨go, fun σ9 H9 => ∃ acc9, ToD F D H H9 β3 /\ VOk K F H9 δ σ9 /\ H9 D = some (.lst acc9) /\ DenL K F H9 (as1 ++ o) acc9, ?_, fun x H2 hy => ?_⟩
   ·rintro σ9 H9 ⟨acc9, t9, vk9, hD9, hd9⟩
    exact ⟨m - 1, by omega, by omega, β3, acc9, as1 ++ o, os2, t9, vk9, hD9, hd9, e6, by rw [List.append_assoc]; exact ea⟩
   ·obtain ⟨sm, dx⟩ := yl x H2 hy
    have t2 : To F H1 H2 β1 := t1.fr.same sm
    have tr2 := t2.tr t1.fr
    refine hg F H2 δ δ1 σ1 d x _ (vk1.tr tr2) dx q fun σ2 vk2 => ⟨F, δ1, β1, t2.fr, vk2, E0.run e2 fun c' H3 t3 ec => ?_⟩
    subst ec
    have hDn := hn
    have hD2 := sm _ _ hD1
    have hD3 := t3.kp D _ hD2 hn
    have tr3 := t3.tr t2.fr
    have d3 := DenL.tr (tr2.trans tr3) _ _ hd1
    have tt3 : ToD F D H H3 β2 := t1.trans ((t2.trans t3).toD D)
    have hle : as1.length + (o ++ os2).length <= sizeLine := by
     have := congrArg List.length ea
     simp only [List.length_append] at this ⊢
     omega
    cases c' with
    | true =>
     rw [if_pos rfl] at e4 ⊢
     refine hb F H3 δ1 β2 β3 σ2 acc1 as1 o _ t3.fr hA hn (vk2.tr tr3) hD3 d3 e4 (by rw [List.length_append] at hle; omega) fun σ4 H4 acc4 t4 vk4 hD4 hd4 => ?_
     exact ⟨acc4, tt3.trans t4, vk4.sub s1 s2, hD4, hd4⟩
    | false =>
     rw [if_neg Bool.false_ne_true] at e4 ⊢
     cases e4
     exact ⟨acc1, tt3, (vk2.tr tr3).sub s1 s2, hD3, by rw [List.append_nil]; exact d3⟩
def cNx (it : Dn -> M (List Pu.D)) (tg : TgF) (tt : Dn -> M Bool) (b : Dn -> M (List Pu.D)) : Dn -> M (List Pu.D) := fun δ => M.bind (it δ) fun ds => cLp tg tt b ds δ
theorem ze {D : Addr} {it : Dn -> M (List Pu.D)} {g : TG} {tg : TgF} {tt : Dn -> M Bool} {tb : TB} {b : Dn -> M (List Pu.D)} (hg : eU K g tg) (sg : gF tg) (hb : iX K D tb b) : iX K D (yj (iV K it E0) fun J => eP J g (tVT K tt E0) tb) (cNx it tg tt b) := fun F H δ β β' σ acc as os Q fr hA hn vk hD hd e hz k => by
 obtain ⟨ds, β1, e1, e2⟩ := M.bind_inv e
 refine ⟨F, δ, β, fr, vk, E0.run e1 fun J H1 t hJ => ?_⟩
 exact qy hg sg hb t.fr hA hn (vk.tr (t.tr fr)) (t.kp D _ hD hn) (DenL.tr (t.tr fr) _ _ hd) hJ e2 hz fun σ1 H1 acc1 t1 => k σ1 H1 acc1 ((t.toD D).trans t1)
def cSt (nv : Nat) (caps : List Nat) (δ : Dn) : Dn := List.replicate nv none ++ caps.map fun j => δ.getD j none
def aU (nv : Nat) (caps : List Nat) (it : Dn -> M (List Pu.D)) (tg : TgF) (tt : Dn -> M Bool) (b : Dn -> M (List Pu.D)) : Dn -> M Pu.D := fun δ β => match it δ β with
 | none => none
 | some (.error C, β1) => some (.error C, β1)
 | some (.ok ds, β1) => match cLp tg tt b ds (cSt nv caps δ) β1 with
  | some (.ok os, β2) => if os.length <= sizeLine then some (.ok (.lst os), β2) else none
  | _ => none
theorem uH {F : Fx} {H : Hp} {δ : Dn} {σ : St} {vars : List Str} {caps : List Nat} (vk : VOk K F H δ σ) : VOk K F H (cSt vars.length caps δ) (jI vars caps σ) := by
 refine ⟨by simp [cSt, jI], fun i d e => ?_⟩
 unfold cSt at e
 unfold jI
 rw [List.getElem?_append] at e ⊢
 rw [List.length_replicate] at e ⊢
 by_cases hi : i < vars.length
 ·rw [if_pos hi, List.getElem?_replicate, if_pos hi] at e
  cases e
 ·rw [if_neg hi, List.getElem?_map] at e ⊢
  cases q : caps[i - vars.length]? with
  | none => rw [q] at e; cases e
  | some j =>
   rw [q] at e
   simp only [Option.map_some, Option.some.injEq] at e ⊢
   rw [List.getD_eq_getElem?_getD] at e
   cases z : δ[j]? with
   | none => rw [z] at e; cases e
   | some w =>
    rw [z] at e
    have ew : w = some d := e
    subst ew
    obtain ⟨v, h1, h2⟩ := vk.tell j d z
    exact ⟨v, by rw [List.getD_eq_getElem?_getD, h1]; rfl, h2⟩
theorem oI {vars : List Str} {caps : List Nat} {it : Dn -> M (List Pu.D)} {g : TG} {tg : TgF} {tt : Dn -> M Bool} {tb : Addr -> TB} {b : Dn -> M (List Pu.D)} (hg : eU K g tg) (sg : gF tg) (hb : ∀ D, iX K D (tb D) b) {σ : St} {H : Hp} {Q : VK} (h : tV K (aU vars.length caps it tg tt b) E σ H Q) :
  nY vars caps (iV K it E) (fun D J => eP J g (tVT K tt E0) (tb D)) σ H Q := by
 obtain ⟨F, δ, β, fr, vk, r, β', e, h⟩ := h
 unfold aU at e
 refine ⟨F, δ, β, fr, vk, ?_⟩
 split at e
 ·cases e
 ·rename_i C β1 q
  cases e
  exact ⟨.error C, _, q, h⟩
 ·rename_i ds β1 q
  split at e
  ·rename_i os β2 q2
   split at e
   ·rename_i hz
    cases e
    refine ⟨.ok ds, β1, q, fun J H1 t hJ D hD => ?_⟩
    have hDA : ¬ F.A D := t.fr.fresh hD
    have nb : ∀ b l, F.bg = some (b, l) -> D ≠ b /\ D ≠ l := fun b l z => ⟨fun w => hDA (w ▸ (fr.bgA b l z).1), fun w => hDA (w ▸ (fr.bgA b l z).2.1)⟩
    have t2 := t.fr.upd (.lst []) hD
    have fr2 : Fr ⟨fun a => F.A a \/ a = D, F.bg⟩ (upd H1 D (.lst [])) β1 := by
     refine ⟨fun a ha z => ?_, fun b l z => let ⟨x, y, w⟩ := fr.bgA b l z; ⟨.inl x, .inl y, w⟩, t2.fr.bag⟩
     rcases ha with ha | ha
     ·exact t2.fr.occ a ha z
     ·subst ha; rw [ax] at z; cases z
    have tr2 : Tr F H1 ⟨fun a => F.A a \/ a = D, F.bg⟩ (upd H1 D (.lst [])) := ⟨fun a ha hs z => by
     rcases z with z | z
     ·exact ha z
     ·subst z; exact hs hD, fun a o ha z => by rw [upd_ne (ne_of_none z hD)]; exact z, rfl⟩
    refine qy (D := D) (as := []) (os := os) hg sg (hb D) fr2 (.inr rfl) nb (uH (vk.tr ((t.tr fr).trans tr2))) ax rfl (hJ.tr tr2) q2 (by simpa using hz) fun σ1 H2 acc1 t3 vk3 hD3 hd3 => ?_
    have tf : To F H1 H2 β' := by
     refine ⟨fun a o z n => t3.kp a o (by rw [upd_ne (ne_of_none z hD)]; exact z) (ne_of_none z hD) n, fun a ha z => t3.fr.occ a (Or.inl ha) z, fr.bgA, t3.fr.bag⟩
    refine h _ H2 (t.trans tf) ⟨D, acc1, rfl, ⟨hDA, .inl hD3⟩, DenL.tr (F := ⟨fun a => F.A a \/ a = D, F.bg⟩) ⟨fun a ha _ z => ha (Or.inl z), fun a o _ z => z, rfl⟩ _ _ hd3⟩
   ·cases e
  ·cases e
end
inductive Sl where
 | sh (d : D) | own (ds : List D) | grd (rows : List (List D))
abbrev Ds := List (Option Sl)
inductive Out where
 | nx (δ : Ds) | rt (d : D) | bk (δ : Ds) | ct (δ : Ds) | ex (C : Addr) (δ : Ds) | rg (rows : List (List D))
abbrev G := Ds -> Bg -> Option (Out × Bg)
abbrev Ow := Addr -> Option Nat
def FxB (B : Ow) (bg : Option (Addr × Addr)) : Fx := ⟨fun a => B a ≠ none, bg⟩
def FxA (B : Ow) (bg : Option (Addr × Addr)) : Fx := ⟨fun a => B a = some 0 \/ B a = some 1, bg⟩
def RowL (K : Frag) (F : Fx) (H : Hp) (P : Addr -> Prop) : List (List D) -> List Addr -> Prop
 | [], [] => True
 | ds :: rows, r :: rs => P r /\ (∃ xs, H r = some (.lst xs) /\ DenL K F H ds xs) /\ RowL K F H P rows rs
 | _, _ => False
theorem RowL.tr {K : Frag} {F F2 : Fx} {H H2 : Hp} {P P2 : Addr -> Prop} (t : Tr F H F2 H2) : ∀ {rows : List (List D)} {rs : List Addr}, RowL K F H P rows rs -> (∀ r xs, r ∈ rs -> P r -> H r = some (.lst xs) -> P2 r /\ H2 r = some (.lst xs)) -> RowL K F2 H2 P2 rows rs
 | [], [], _, _ => trivial
 | ds :: rows, r :: rs, h, f => by
  obtain ⟨h1, ⟨xs, h2, h3⟩, h4⟩ := h
  obtain ⟨p, q⟩ := f r xs List.mem_cons_self h1 h2
  exact ⟨p, ⟨xs, q, DenL.tr t _ _ h3⟩, RowL.tr t h4 fun r' xs' hr => f r' xs' (List.mem_cons_of_mem _ hr)⟩
 | [], _ :: _, h, _ => h.elim
 | _ :: _, [], h, _ => h.elim
theorem RowL.all {K : Frag} {F : Fx} {H : Hp} {P : Addr -> Prop} : ∀ {rows : List (List D)} {rs : List Addr}, RowL K F H P rows rs -> ∀ r ∈ rs, P r /\ ∃ xs, H r = some (.lst xs)
 | [], [], _, r, hr => by cases hr
 | ds :: rows, r0 :: rs, h, r, hr => by
  obtain ⟨h1, ⟨xs, h2, h3⟩, h4⟩ := h
  rcases List.mem_cons.mp hr with rfl | hr
  ·exact ⟨h1, xs, h2⟩
  ·exact RowL.all h4 r hr
 | [], _ :: _, h, _, _ => h.elim
 | _ :: _, [], h, _, _ => h.elim
theorem RowL.den {K : Frag} {F F2 : Fx} {H : Hp} {P : Addr -> Prop} (t : Tr F H F2 H) : ∀ {rows : List (List D)} {rs : List Addr}, RowL K F H P rows rs -> (∀ r, r ∈ rs -> P r -> ¬ F2.A r) -> DenL K F2 H (rows.map D.lst) (rs.map V.ref)
 | [], [], _, _ => rfl
 | ds :: rows, r :: rs, h, f => by
  obtain ⟨h1, ⟨xs, h2, h3⟩, h4⟩ := h
  exact DenL.cons ⟨r, xs, rfl, ⟨f r List.mem_cons_self h1, .inl h2⟩, DenL.tr t _ _ h3⟩ (RowL.den t h4 fun r' hr => f r' (List.mem_cons_of_mem _ hr))
 | [], _ :: _, h, _ => h.elim
 | _ :: _, [], h, _ => h.elim
theorem RowL.len {K : Frag} {F : Fx} {H : Hp} {P : Addr -> Prop} : ∀ {rows : List (List D)} {rs : List Addr}, RowL K F H P rows rs -> rows.length = rs.length
 | [], [], _ => rfl
 | ds :: rows, r :: rs, h => by simp [RowL.len h.2.2]
 | [], _ :: _, h => h.elim
 | _ :: _, [], h => h.elim
def pP (K : Frag) (F : Fx) (H0 H : Hp) (rows : List (List D)) (v : V) : Prop := ∃ a rs, v = .ref a /\ H0 a = none /\ H a = some (.lst (rs.map V.ref)) /\ (a :: rs).Nodup /\ RowL K F H (fun r => H0 r = none) rows rs
def DenS (K : Frag) (B : Ow) (bg : Option (Addr × Addr)) (H : Hp) (i : Nat) : Sl -> V -> Prop
 | .sh d, v => Den K (FxB B bg) H d v
 | .own ds, v => ∃ a xs, v = .ref a /\ B a = some (i + 2) /\ H a = some (.lst xs) /\ DenL K (FxB B bg) H ds xs
 | .grd rows, v => ∃ a rs, v = .ref a /\ B a = some (i + 2) /\ H a = some (.lst (rs.map V.ref)) /\ (a :: rs).Nodup /\ RowL K (FxB B bg) H (fun r => B r = some (i + 2)) rows rs
structure SOk (K : Frag) (H₀ : Hp) (B : Ow) (bg : Option (Addr × Addr)) (H : Hp) (δ : Ds) (β : Bg) (σ : St) : Prop where
 fr : Fr (FxB B bg) H β
 bgt : ∀ b l, bg = some (b, l) -> B b = some 1 /\ B l = some 1
 len : δ.length = σ.length
 cov : ∀ a, H₀ a ≠ none -> H a ≠ none
 new : ∀ a k, B a = some (k + 2) -> H₀ a = none
 lst : ∀ a k, B a = some (k + 2) -> ∃ xs, H a = some (.lst xs)
 tell : ∀ (i : Nat) (s : Sl), δ[i]? = some (some s) -> ∃ v, σ[i]? = some (some v) /\ DenS K B bg H i s v
structure Stp (B : Ow) (H : Hp) (B' : Ow) (H' : Hp) : Prop where
 kp : ∀ a o, H a = some o -> (B a = none \/ B a = some 0) -> H' a = some o
 tg : ∀ a, B a = some 0 \/ B a = some 1 -> B' a = B a
 nn : ∀ a o, H a = some o -> B a = none -> B' a = none
 al : ∀ a, H a ≠ none -> H' a ≠ none
theorem Stp.refl (B : Ow) (H : Hp) : Stp B H B H := ⟨fun _ _ h _ => h, fun _ _ => rfl, fun _ _ _ h => h, fun _ h => h⟩
theorem Stp.trans {B B1 B2 : Ow} {H H1 H2 : Hp} (a : Stp B H B1 H1) (b : Stp B1 H1 B2 H2) : Stp B H B2 H2 := by
 refine ⟨fun x o h n => b.kp x o (a.kp x o h n) ?_, fun x h => ?_, fun x o h n => b.nn x o (a.kp x o h (.inl n)) (a.nn x o h n), fun x h => b.al x (a.al x h)⟩
 ·rcases n with n | n
  ·exact .inl (a.nn x o h n)
  ·exact .inr ((a.tg x (.inl n)).trans n)
 ·have e := a.tg x h
  rw [← e] at h
  exact (b.tg x h).trans e
def ge (K : Frag) (H₀ : Hp) (bg : Option (Addr × Addr)) (E : St -> XK) (Dn : Ends) (B : Ow) (H : Hp) (o : Out) (β' : Bg) : Prop := match o with
 | .nx δ' => ∀ σ' B' H', Stp B H B' H' -> SOk K H₀ B' bg H' δ' β' σ' -> Dn.nx σ' H'
 | .bk δ' => ∀ σ' B' H', Stp B H B' H' -> SOk K H₀ B' bg H' δ' β' σ' -> Dn.bk σ' H'
 | .ct δ' => ∀ σ' B' H', Stp B H B' H' -> SOk K H₀ B' bg H' δ' β' σ' -> Dn.ct σ' H'
 | .rt d => ∀ v B' H', Stp B H B' H' -> Fr (FxB B' bg) H' β' -> Den K (FxB B' bg) H' d v -> Dn.rt v H'
 | .rg rows => ∀ v B' H', Stp B H B' H' -> Fr (FxB B' bg) H' β' -> pP K (FxB B' bg) H₀ H' rows v -> Dn.rt v H'
 | .ex C δ' => ∀ σ' B' H', Stp B H B' H' -> SOk K H₀ B' bg H' δ' β' σ' -> E σ' (.ref C) none H'
theorem ge.pre {K : Frag} {H₀ : Hp} {bg : Option (Addr × Addr)} {E : St -> XK} {Dn : Ends} {B B1 : Ow} {H H1 : Hp} {o : Out} {β' : Bg} (s : Stp B H B1 H1) (h : ge K H₀ bg E Dn B H o β') : ge K H₀ bg E Dn B1 H1 o β' := by
 cases o with
 | nx δ => exact fun σ' B' H' t => h σ' B' H' (s.trans t)
 | bk δ => exact fun σ' B' H' t => h σ' B' H' (s.trans t)
 | ct δ => exact fun σ' B' H' t => h σ' B' H' (s.trans t)
 | rt d => exact fun v B' H' t => h v B' H' (s.trans t)
 | rg d => exact fun v B' H' t => h v B' H' (s.trans t)
 | ex C δ => exact fun σ' B' H' t => h σ' B' H' (s.trans t)
def tG (K : Frag) (H₀ : Hp) (g : G) (E : St -> XK) : TS := fun Dn σ H => ∃ B bg δ β o β', SOk K H₀ B bg H δ β σ /\ g δ β = some (o, β') /\ ge K H₀ bg E Dn B H o β'
theorem _root_.L2.PS.imp {X : Cx} {e : Stmt} {t t' : TS} (h : PS X e t) (f : ∀ D σ H, t' D σ H -> t D σ H) : PS X e t' := fun pins s σ H D I q => h pins s σ H D I (f D σ H q)
theorem _root_.L2.PSs.imp {X : Cx} {e : List Stmt} {t t' : TS} (h : PSs X e t) (f : ∀ D σ H, t' D σ H -> t D σ H) : PSs X e t' := fun pins s σ H D I q => h pins s σ H D I (f D σ H q)
def vw (δ : Ds) : Dn := δ.map fun s => match s with
 | some (.sh d) => some d
 | _ => none
def vwA (δ : Ds) : Dn := δ.map fun s => match s with
 | some (.sh d) => some d
 | some (.own ds) => some (.lst ds)
 | some (.grd rows) => some (.lst (rows.map D.lst))
 | none => none
section
variable {K : Frag} {H₀ : Hp} {B : Ow} {bg : Option (Addr × Addr)} {H H' : Hp} {δ : Ds} {β β' : Bg} {σ : St}
theorem Cf {i : Nat} {d : D} (e : (vw δ)[i]? = some (some d)) : δ[i]? = some (some (.sh d)) := by
 unfold vw at e
 rw [List.getElem?_map] at e
 cases q : δ[i]? with
 | none => rw [q] at e; cases e
 | some z =>
  rw [q] at e
  cases z with
  | none => cases e
  | some s =>
   cases s with
   | sh c => cases e; rfl
   | own ds => cases e
   | grd rows => cases e
theorem SOk.view (h : SOk K H₀ B bg H δ β σ) : VOk K (FxB B bg) H (vw δ) σ := ⟨by unfold vw; rw [List.length_map, h.len], fun i d e => h.tell i _ (Cf e)⟩
theorem trA : Tr (FxB B bg) H (FxA B bg) H := ⟨fun a h _ z => by
 have h' : ¬ (B a ≠ none) := h
 rcases z with z | z
 ·exact h' (by rw [z]; simp)
 ·exact h' (by rw [z]; simp), fun _ _ _ h => h, rfl⟩
theorem SOk.frA (h : SOk K H₀ B bg H δ β σ) : Fr (FxA B bg) H β := ⟨fun a ha => h.fr.occ a (by
 show B a ≠ none
 rcases ha with z | z <;> rw [z] <;> simp), fun b l e => ⟨.inr (h.bgt b l e).1, .inr (h.bgt b l e).2, (h.fr.bgA b l e).2.2⟩, h.fr.bag⟩
theorem SOk.viewA (h : SOk K H₀ B bg H δ β σ) : VOk K (FxA B bg) H (vwA δ) σ := by
 refine ⟨by unfold vwA; rw [List.length_map, h.len], fun i d e => ?_⟩
 unfold vwA at e
 rw [List.getElem?_map] at e
 cases q : δ[i]? with
 | none => rw [q] at e; cases e
 | some z =>
  rw [q] at e
  cases z with
  | none => cases e
  | some s =>
   obtain ⟨v, h1, h2⟩ := h.tell i s q
   cases s with
   | sh c => cases e; exact ⟨v, h1, Den.tr trA _ _ h2⟩
   | own ds =>
    cases e
    obtain ⟨a, xs, e1, e2, e3, e4⟩ := h2
    refine ⟨v, h1, a, xs, e1, ⟨fun z => ?_, .inl e3⟩, DenL.tr trA _ _ e4⟩
    have z' : B a = some 0 \/ B a = some 1 := z
    rw [e2] at z'
    rcases z' with z' | z' <;> cases z'
   | grd rows =>
    cases e
    obtain ⟨a, rs, e1, e2, e3, e4, e5⟩ := h2
    have na : ∀ c, B c = some (i + 2) -> ¬ (FxA B bg).A c := fun c hc z => by
     have z' : B c = some 0 \/ B c = some 1 := z
     rw [hc] at z'
     rcases z' with z' | z' <;> cases z'
    exact ⟨v, h1, a, _, e1, ⟨na a e2, .inl e3⟩, RowL.den trA e5 fun r _ hr => na r hr⟩
theorem SOk.to {F : Fx} (h : SOk K H₀ B bg H δ β σ) (hF : F.bg = bg) (t : To F H H' β') : SOk K H₀ B bg H' δ β' σ /\ Stp B H B H' := by
 have nb : ∀ a, B a ≠ some 1 -> ∀ b l, F.bg = some (b, l) -> a ≠ b /\ a ≠ l := fun a ha b l e => by
  rw [hF] at e
  exact ⟨fun z => ha (z ▸ (h.bgt b l e).1), fun z => ha (z ▸ (h.bgt b l e).2)⟩
 have kp : ∀ a o, H a = some o -> B a ≠ some 1 -> H' a = some o := fun a o e n => t.kp a o e (nb a n)
 have fr : Fr (FxB B bg) H' β' := ⟨fun a ha z => (by
  by_cases hb : B a = some 1
  ·by_cases hh : ∃ b l, bg = some (b, l) /\ (a = b \/ a = l)
   ·obtain ⟨b, l, e, q⟩ := hh
    obtain ⟨z1, z2⟩ := t.fr.bag b l (hF.trans e)
    rcases q with rfl | rfl
    ·rw [z1] at z; cases z
    ·rw [z2] at z; cases z
   ·cases q : H a with
    | none => exact h.fr.occ a ha q
    | some o =>
     rw [t.kp a o q fun b l e => ⟨fun w => hh ⟨b, l, hF.symm.trans e, .inl w⟩, fun w => hh ⟨b, l, hF.symm.trans e, .inr w⟩⟩] at z
     cases z
  ·cases q : H a with
   | none => exact h.fr.occ a ha q
   | some o => rw [kp a o q hb] at z; cases z), h.fr.bgA, fun b l e => t.fr.bag b l (hF.trans e)⟩
 have tr : Tr (FxB B bg) H (FxB B bg) H' := ⟨fun _ n _ => n, fun a o n e => kp a o e (fun z => n (by show B a ≠ none; rw [z]; simp)), rfl⟩
 have al : ∀ a, H a ≠ none -> H' a ≠ none := fun a ha z => by
  by_cases hh : ∃ b l, bg = some (b, l) /\ (a = b \/ a = l)
  ·obtain ⟨b, l, e, q⟩ := hh
   obtain ⟨z1, z2⟩ := t.fr.bag b l (hF.trans e)
   rcases q with rfl | rfl
   ·rw [z1] at z; cases z
   ·rw [z2] at z; cases z
  ·cases q : H a with
   | none => exact ha q
   | some o =>
    rw [t.kp a o q fun b l e => ⟨fun w => hh ⟨b, l, hF.symm.trans e, .inl w⟩, fun w => hh ⟨b, l, hF.symm.trans e, .inr w⟩⟩] at z
    cases z
 refine ⟨⟨fr, h.bgt, h.len, fun a ha => al a (h.cov a ha), h.new, fun c k hc => (let ⟨xs, z⟩ := h.lst c k hc; ⟨xs, kp c _ z (by rw [hc]; intro z; cases z)⟩), fun i s e => ?_⟩, fun a o e n => kp a o e (by rcases n with n | n <;> rw [n] <;> simp), fun _ _ => rfl, fun _ _ _ n => n, al⟩
 obtain ⟨v, h1, h2⟩ := h.tell i s e
 refine ⟨v, h1, ?_⟩
 cases s with
 | sh c => exact Den.tr tr _ _ h2
 | own ds =>
  obtain ⟨a, xs, e1, e2, e3, e4⟩ := h2
  exact ⟨a, xs, e1, e2, kp a _ e3 (by rw [e2]; intro z; cases z), DenL.tr tr _ _ e4⟩
 | grd rows =>
  obtain ⟨a, rs, e1, e2, e3, e4, e5⟩ := h2
  exact ⟨a, rs, e1, e2, kp a _ e3 (by rw [e2]; intro z; cases z), e4, RowL.tr tr e5 fun r xs _ p q => ⟨p, kp r _ q (by rw [p]; intro z; cases z)⟩⟩
theorem SOk.set {i : Nat} {d : D} {v : V} (h : SOk K H₀ B bg H δ β σ) (hd : Den K (FxB B bg) H d v) : SOk K H₀ B bg H (δ.set i (some (.sh d))) β (σ.set i (some v)) := by
 refine ⟨h.fr, h.bgt, by rw [List.length_set, List.length_set, h.len], h.cov, h.new, h.lst, fun j c e => ?_⟩
 rw [List.getElem?_set] at e
 rw [List.getElem?_set]
 by_cases q : i = j
 ·subst q
  rw [if_pos rfl] at e ⊢
  split at e
  ·rename_i hl
   cases e
   rw [if_pos (by rw [← h.len]; exact hl)]
   exact ⟨v, rfl, hd⟩
  ·cases e
 ·rw [if_neg q] at e ⊢
  exact h.tell j c e
end
def gNil : G := fun δ β => some (.nx δ, β)
def ai (g h : G) : G := fun δ β => match g δ β with
 | some (.nx δ1, β1) => h δ1 β1
 | r => r
def aI (i : Nat) (f : Dn -> M D) : G := fun δ β => match f (vw δ) β with
 | some (.ok d, β1) => some (.nx (δ.set i (some (.sh d))), β1)
 | some (.error C, β1) => some (.ex C δ, β1)
 | none => none
def eK (i : Nat) (f : Dn -> M D) : G := fun δ β => match f (vwA δ) β with
 | some (.ok d, β1) => if dL d = true then some (.nx (δ.set i (some (.sh d))), β1) else none
 | some (.error C, β1) => some (.ex C δ, β1)
 | none => none
def dn (f : Dn -> M D) : G := fun δ β => match f (vwA δ) β with
 | some (.ok _, β1) => some (.nx δ, β1)
 | some (.error C, β1) => some (.ex C δ, β1)
 | none => none
def aE (f : Dn -> M D) : G := fun δ β => match f (vwA δ) β with
 | some (.ok d, β1) => some (.rt d, β1)
 | some (.error C, β1) => some (.ex C δ, β1)
 | none => none
def gIf (t : Dn -> M Bool) (g h : G) : G := fun δ β => match t (vwA δ) β with
 | some (.ok true, β1) => g δ β1
 | some (.ok false, β1) => h δ β1
 | some (.error C, β1) => some (.ex C δ, β1)
 | none => none
section
variable {X : Cx} {E : St -> XK} {e : Expr} {st : Stmt} {sts : List Stmt} {pos : Pos}
theorem bn : PSs X [] (tG X.K X.H₀ gNil E) := l9.imp fun D σ H h_ => by
 obtain ⟨B, bg, δ, β, o, β', ok, e, h⟩ := h_
 cases e
 exact h σ B H (Stp.refl B H) ok
theorem ak {g h : G} (h1 : PS X st (tG X.K X.H₀ g E)) (h2 : PSs X sts (tG X.K X.H₀ h E)) : PSs X (st :: sts) (tG X.K X.H₀ (ai g h) E) := (bV h1 h2).imp fun D σ H h_ => by
 obtain ⟨B, bg, δ, β, o, β', ok, e, q⟩ := h_
 unfold ai at e
 split at e
 ·rename_i δ1 β1 e1
  refine ⟨B, bg, δ, β, .nx δ1, β1, ok, e1, fun σ' B' H' s ok' => ⟨B', bg, δ1, β1, o, β', ok', e, ge.pre s ?_⟩⟩
  exact q
 ·rename_i r hr
  refine ⟨B, bg, δ, β, o, β', ok, e, ?_⟩
  cases o with
  | nx δ1 => exact absurd e (hr δ1 β')
  | _ => exact q
theorem aq {g : G} (h1 : PS X st (tG X.K X.H₀ g E)) : PSs X [st] (tG X.K X.H₀ g E) := dG h1
theorem aM {i : Nat} {x : Str} {pos' : Pos} {f : Dn -> M D} (h : PS X (.Assign [.Name x pos'] e pos) (iz (tV X.K f E) (dZ i))) : PS X (.Assign [.Name x pos'] e pos) (tG X.K X.H₀ (aI i f) E) := h.imp fun D σ H h_ => by
 obtain ⟨B, bg, δ, β, o, β', ok, e, q⟩ := h_
 refine ⟨FxB B bg, vw δ, β, ok.fr, ok.view, ?_⟩
 unfold aI at e
 split at e
 ·rename_i d β1 e1
  cases e
  refine ⟨.ok d, _, e1, fun v H' t hd => ?_⟩
  obtain ⟨ok2, s2⟩ := ok.to rfl t
  exact q _ B H' s2 (ok2.set hd)
 ·rename_i C β1 e1
  cases e
  refine ⟨.error C, _, e1, fun H' t => ?_⟩
  obtain ⟨ok2, s2⟩ := ok.to rfl t
  exact q _ B H' s2 ok2
 ·cases e
theorem vM {K : Frag} {F F2 : Fx} {H : Hp} {d : D} {v : V} (hf : dL d = true) (h : Den K F H d v) : Den K F2 H d v := by
 cases d <;> first | exact h | cases hf
theorem zZ {i : Nat} {x : Str} {pos' : Pos} {f : Dn -> M D} (h : PS X (.Assign [.Name x pos'] e pos) (iz (tV X.K f E) (dZ i))) : PS X (.Assign [.Name x pos'] e pos) (tG X.K X.H₀ (eK i f) E) := h.imp fun D σ H h_ => by
 obtain ⟨B, bg, δ, β, o, β', ok, e, q⟩ := h_
 refine ⟨FxA B bg, vwA δ, β, ok.frA, ok.viewA, ?_⟩
 unfold eK at e
 split at e
 ·rename_i d β1 e1
  split at e
  ·rename_i hf
   cases e
   refine ⟨.ok d, _, e1, fun v H' t hd => ?_⟩
   obtain ⟨ok2, s2⟩ := ok.to rfl t
   exact q _ B H' s2 (ok2.set (vM hf hd))
  ·cases e
 ·rename_i C β1 e1
  cases e
  refine ⟨.error C, _, e1, fun H' t => ?_⟩
  obtain ⟨ok2, s2⟩ := ok.to rfl t
  exact q _ B H' s2 ok2
 ·cases e
theorem k8 {f : Dn -> M D} (h : PS X (.Expr e pos) (xJ (tV X.K f E))) : PS X (.Expr e pos) (tG X.K X.H₀ (dn f) E) := h.imp fun D σ H h_ => by
 obtain ⟨B, bg, δ, β, o, β', ok, e, q⟩ := h_
 refine ⟨FxA B bg, vwA δ, β, ok.frA, ok.viewA, ?_⟩
 unfold dn at e
 split at e
 ·rename_i d β1 e1
  cases e
  refine ⟨.ok d, _, e1, fun v H' t hd => ?_⟩
  obtain ⟨ok2, s2⟩ := ok.to rfl t
  exact q _ B H' s2 ok2
 ·rename_i C β1 e1
  cases e
  refine ⟨.error C, _, e1, fun H' t => ?_⟩
  obtain ⟨ok2, s2⟩ := ok.to rfl t
  exact q _ B H' s2 ok2
 ·cases e
def ff (B : Ow) : Ow := fun a => if B a = some 0 \/ B a = some 1 then B a else none
theorem AE {B : Ow} {bg : Option (Addr × Addr)} {H : Hp} : Tr (FxA B bg) H (FxB (ff B) bg) H := ⟨fun a h _ z => by
 have z' : ff B a ≠ none := z
 unfold ff at z'
 split at z'
 ·rename_i q; exact h q
 ·exact z' rfl, fun _ _ _ h => h, rfl⟩
theorem vx {B : Ow} {H : Hp} : Stp B H (ff B) H := ⟨fun _ _ h _ => h, fun a h => by unfold ff; rw [if_pos h], fun a o h n => by unfold ff; rw [n]; simp, fun _ h => h⟩
theorem aL {f : Dn -> M D} (h : PS X (.Return (some e) pos) (zM (tV X.K f E))) : PS X (.Return (some e) pos) (tG X.K X.H₀ (aE f) E) := h.imp fun D σ H h_ => by
 obtain ⟨B, bg, δ, β, o, β', ok, e, q⟩ := h_
 refine ⟨FxA B bg, vwA δ, β, ok.frA, ok.viewA, ?_⟩
 unfold aE at e
 split at e
 ·rename_i d β1 e1
  cases e
  refine ⟨.ok d, _, e1, fun v H' t hd => ?_⟩
  obtain ⟨ok2, s2⟩ := ok.to rfl t
  refine q _ (ff B) H' (s2.trans vx) ⟨fun a ha => ok2.fr.occ a ?_, fun b l e => ?_, ok2.fr.bag⟩ (Den.tr AE _ _ hd)
  ·have ha' : ff B a ≠ none := ha
   show B a ≠ none
   unfold ff at ha'
   split at ha'
   ·exact ha'
   ·exact absurd rfl ha'
  ·refine ⟨?_, ?_, (ok2.fr.bgA b l e).2.2⟩
   ·show ff B b ≠ none
    unfold ff
    rw [if_pos (.inr (ok.bgt b l e).1), (ok.bgt b l e).1]; simp
   ·show ff B l ≠ none
    unfold ff
    rw [if_pos (.inr (ok.bgt b l e).2), (ok.bgt b l e).2]; simp
 ·rename_i C β1 e1
  cases e
  refine ⟨.error C, _, e1, fun H' t => ?_⟩
  obtain ⟨ok2, s2⟩ := ok.to rfl t
  exact q _ B H' s2 ok2
 ·cases e
theorem bI {c : Expr} {a b : List Stmt} {t : Dn -> M Bool} {g h : G} (hc : PT X c (tVT X.K t E)) (ha : PSs X a (tG X.K X.H₀ g E)) (hb : PSs X b (tG X.K X.H₀ h E)) : PS X (.If c a b pos) (tG X.K X.H₀ (gIf t g h) E) := (xS hc ha hb).imp fun D σ H h_ => by
 obtain ⟨B, bg, δ, β, o, β', ok, e, q⟩ := h_
 refine ⟨FxA B bg, vwA δ, β, ok.frA, ok.viewA, ?_⟩
 unfold gIf at e
 split at e
 ·rename_i β1 e1
  refine ⟨.ok true, _, e1, fun v H' t hd => ?_⟩
  subst hd
  obtain ⟨ok2, s2⟩ := ok.to rfl t
  rw [if_pos rfl]
  exact ⟨B, bg, δ, β1, o, β', ok2, e, ge.pre s2 q⟩
 ·rename_i β1 e1
  refine ⟨.ok false, _, e1, fun v H' t hd => ?_⟩
  subst hd
  obtain ⟨ok2, s2⟩ := ok.to rfl t
  rw [if_neg Bool.false_ne_true]
  exact ⟨B, bg, δ, β1, o, β', ok2, e, ge.pre s2 q⟩
 ·rename_i C β1 e1
  cases e
  refine ⟨.error C, _, e1, fun H' t => ?_⟩
  obtain ⟨ok2, s2⟩ := ok.to rfl t
  exact q _ B H' s2 ok2
 ·cases e
abbrev TgS := D -> Ds -> Option Ds
abbrev jJ := List D -> Ds -> Option Ds
def oq (K : Frag) (g : TG) (tg : TgS) : Prop := ∀ (H₀ : Hp) (B : Ow) (bg : Option (Addr × Addr)) (H : Hp) (δ δ1 : Ds) (β : Bg) (σ : St) (d : D) (v : V) (Q : St -> Hp -> Prop), SOk K H₀ B bg H δ β σ -> Den K (FxB B bg) H d v -> tg d δ = some δ1 -> (∀ σ1, SOk K H₀ B bg H δ1 β σ1 -> Q σ1 H) -> g v σ H Q
def lR (K : Frag) (g : TGs) (tg : jJ) : Prop := ∀ (H₀ : Hp) (B : Ow) (bg : Option (Addr × Addr)) (H : Hp) (δ δ1 : Ds) (β : Bg) (σ : St) (ds : List D) (vs : List V) (Q : St -> Hp -> Prop), SOk K H₀ B bg H δ β σ -> DenL K (FxB B bg) H ds vs -> tg ds δ = some δ1 -> (∀ σ1, SOk K H₀ B bg H δ1 β σ1 -> Q σ1 H) -> g vs σ H Q
def sgN (i : Nat) : TgS := fun d δ => some (δ.set i (some (.sh d)))
def eZ : jJ := fun ds δ => match ds with
 | [] => some δ
 | _ => none
def db (t : TgS) (u : jJ) : jJ := fun ds δ => match ds with
 | [] => none
 | d :: r => (t d δ).bind fun δ1 => u r δ1
def sgT (t : jJ) : TgS := fun d δ => match d with
 | .tup ds => t ds δ
 | _ => none
variable {K : Frag}
theorem aS {i : Nat} : oq K (dZ i) (sgN i) := fun H₀ B bg H δ δ1 β σ d v Q ok hd e k => by
 cases e
 exact k _ (ok.set hd)
theorem ie : lR K L2.gNil eZ := fun H₀ B bg H δ δ1 β σ ds vs Q ok hd e k => by
 cases ds with
 | nil => cases e; exact ⟨hd, k _ ok⟩
 | cons _ _ => cases e
theorem cB {t : TG} {u : TGs} {tf : TgS} {uf : jJ} (h1 : oq K t tf) (h2 : lR K u uf) : lR K (rP t u) (db tf uf) := fun H₀ B bg H δ δ1 β σ ds vs Q ok hd e k => by
 cases ds with
 | nil => cases e
 | cons d r =>
  obtain ⟨x, xr, rfl, hx, hr⟩ := hd
  have e' : (tf d δ).bind (fun δ1 => uf r δ1) = some δ1 := e
  cases q : tf d δ with
  | none => rw [q] at e'; cases e'
  | some δ2 =>
   rw [q] at e'
   exact ⟨x, xr, rfl, h1 H₀ B bg H δ δ2 β σ d x _ ok hx q fun σ1 ok1 => h2 H₀ B bg H δ2 δ1 β σ1 r xr Q ok1 hr e' k⟩
theorem gv : ∀ ds δ δ1, eZ ds δ = some δ1 -> ds.length = 0 := fun ds δ δ1 h => by
 cases ds with
 | nil => rfl
 | cons _ _ => cases h
theorem cz {t : TgS} {u : jJ} {n : Nat} (h : ∀ ds δ δ1, u ds δ = some δ1 -> ds.length = n) : ∀ ds δ δ1, db t u ds δ = some δ1 -> ds.length = n + 1 := fun ds δ δ1 e => by
 cases ds with
 | nil => cases e
 | cons d r =>
  have e' : (t d δ).bind (fun δ1 => u r δ1) = some δ1 := e
  cases q : t d δ with
  | none => rw [q] at e'; cases e'
  | some δ2 => rw [q] at e'; rw [List.length_cons, h _ _ _ e']
theorem ju {n : Nat} {t : TGs} {tf : jJ} (h : lR K t tf) (hn : ∀ ds δ δ1, tf ds δ = some δ1 -> ds.length = n) : oq K (vK K n t) (sgT tf) := fun H₀ B bg H δ δ1 β σ d v Q ok hd e k => by
 cases d <;> first
  | (obtain ⟨a, xs, rfl, sq, dl⟩ := Den.sqT hd; exact ⟨a, xs, rfl, sq, by rw [← dl.length]; exact hn _ _ _ e, h H₀ B bg H δ δ1 β σ _ xs Q ok dl e k⟩)
  | cases e
def mE (f : Dn -> M D) (tg : TgS) : G := fun δ β => match f (vw δ) β with
 | some (.ok d, β1) => (tg d δ).map fun δ1 => (.nx δ1, β1)
 | some (.error C, β1) => some (.ex C δ, β1)
 | none => none
def fk (i j : Nat) (f : Dn -> M (List D)) : G := fun δ β => match f (vw δ) β with
 | some (.ok [c, d], β1) => some (.nx ((δ.set i (some (.sh c))).set j (some (.sh d))), β1)
 | some (.error C, β1) => some (.ex C δ, β1)
 | _ => none
theorem Cq {i j : Nat} {f : Dn -> M (List D)} (h : PS X st (zN i j (tVA X.K f E))) : PS X st (tG X.K X.H₀ (fk i j f) E) := h.imp fun D σ H h_ => by
 obtain ⟨B, bg, δ, β, o, β', ok, e, q⟩ := h_
 refine ⟨FxB B bg, vw δ, β, ok.fr, ok.view, ?_⟩
 unfold fk at e
 split at e
 ·rename_i c d β1 e1
  cases e
  refine ⟨.ok [c, d], _, e1, fun vs H' t hd => ?_⟩
  obtain ⟨ok2, s2⟩ := ok.to rfl t
  obtain ⟨v, w, rfl, h1, h2⟩ := DenL.two hd
  exact ⟨v, w, rfl, q _ B H' s2 ((ok2.set h1).set h2)⟩
 ·rename_i C β1 e1
  cases e
  refine ⟨.error C, _, e1, fun H' t => ?_⟩
  obtain ⟨ok2, s2⟩ := ok.to rfl t
  exact q _ B H' s2 ok2
 ·cases e
def eL (i : Nat) (op : D -> D -> Option D) (f : Dn -> M D) : G := fun δ β => match (vw δ).getD i none with
 | none => none
 | some c => match f (vw δ) β with
  | some (.ok d, β1) => (op c d).map fun z => (.nx (δ.set i (some (.sh z))), β1)
  | some (.error C, β1) => some (.ex C δ, β1)
  | none => none
theorem n5 {i : Nat} {ti : TIp} {op : D -> D -> Option D} {f : Dn -> M D} (l : bh X.K ti op) (h : PS X st (zU i (tV X.K f E) ti)) : PS X st (tG X.K X.H₀ (eL i op f) E) := h.imp fun D σ H h_ => by
 obtain ⟨B, bg, δ, β, o, β', ok, e, q⟩ := h_
 unfold eL at e
 split at e
 ·cases e
 ·rename_i c ec
  have ec' : (vw δ)[i]? = some (some c) := by
   rw [List.getD_eq_getElem?_getD] at ec
   cases z : (vw δ)[i]? with
   | none => rw [z] at ec; cases ec
   | some w => rw [z] at ec; simp at ec; rw [ec]
  obtain ⟨v, h1, h2⟩ := ok.view.tell i c ec'
  refine ⟨v, h1, FxB B bg, vw δ, β, ok.fr, ok.view, ?_⟩
  split at e
  ·rename_i d β1 e1
   cases q1 : op c d with
   | none => rw [q1] at e; cases e
   | some z =>
    rw [q1] at e
    cases e
    refine ⟨.ok d, _, e1, fun w H' t hd => ?_⟩
    obtain ⟨ok2, s2⟩ := ok.to rfl t
    refine l (FxB B bg) H' β' _ c d z v w t.fr (Den.tr (t.tr ok.fr) _ _ h2) hd q1 fun u H2 t2 hu => ?_
    obtain ⟨ok3, s3⟩ := ok2.to rfl t2
    exact q _ B H2 (s2.trans s3) (ok3.set hu)
  ·rename_i C β1 e1
   cases e
   refine ⟨.error C, _, e1, fun H' t => ?_⟩
   obtain ⟨ok2, s2⟩ := ok.to rfl t
   exact q _ B H' s2 ok2
  ·cases e
end
theorem Stp.tr {B B' : Ow} {H H' : Hp} {bg : Option (Addr × Addr)} (s : Stp B H B' H') : Tr (FxB B bg) H (FxB B' bg) H' :=
 ⟨fun a h hs z => by
  have hn : B a = none := by
   cases q : B a with
   | none => rfl
   | some t => exact absurd (show B a ≠ none by rw [q]; simp) h
  cases q : H a with
  | none => exact hs q
  | some o => exact z (s.nn a o q hn), fun a o h e => s.kp a o e (.inl (by
  cases q : B a with
  | none => rfl
  | some t => exact absurd (show B a ≠ none by rw [q]; simp) h)), rfl⟩
def br (t : Dn -> M Bool) (g : G) : Nat -> G
 | 0, _, _ => none
 | n + 1, δ, β => match t (vwA δ) β with
  | some (.ok true, β1) => match g δ β1 with
   | some (.nx δ1, β2) => br t g n δ1 β2
   | some (.ct δ1, β2) => br t g n δ1 β2
   | some (.bk δ1, β2) => some (.nx δ1, β2)
   | r => r
  | some (.ok false, β1) => some (.nx δ, β1)
  | some (.error C, β1) => some (.ex C δ, β1)
  | none => none
theorem jG {t : Dn -> M Bool} {g : G} : ∀ {n : Nat} {δ : Ds} {β : Bg} {r : Out × Bg}, br t g n δ β = some r -> br t g (n + 1) δ β = some r
 | 0, _, _, _, h => by cases h
 | n + 1, δ, β, r, h => by
  have e : ∀ m, br t g (m + 1) δ β = match t (vwA δ) β with
    | some (.ok true, β1) => match g δ β1 with
     | some (.nx δ1, β2) => br t g m δ1 β2
     | some (.ct δ1, β2) => br t g m δ1 β2
     | some (.bk δ1, β2) => some (.nx δ1, β2)
     | r => r
    | some (.ok false, β1) => some (.nx δ, β1)
    | some (.error C, β1) => some (.ex C δ, β1)
    | none => none := fun m => rfl
  rw [e] at h ⊢
  cases q : t (vwA δ) β with
  | none => rw [q] at h; cases h
  | some z =>
   obtain ⟨b, β1⟩ := z
   rw [q] at h
   cases b with
   | error C => exact h
   | ok b =>
    cases b with
    | false => exact h
    | true =>
     dsimp only at h ⊢
     cases q2 : g δ β1 with
     | none => rw [q2] at h; cases h
     | some y =>
      obtain ⟨o, β2⟩ := y
      rw [q2] at h
      cases o with
      | nx δ1 => exact jG h
      | ct δ1 => exact jG h
      | bk δ1 => exact h
      | rt d => exact h
      | rg d => exact h
      | ex C δ1 => exact h
theorem gS {t : Dn -> M Bool} {g : G} {n m : Nat} {δ : Ds} {β : Bg} {r : Out × Bg} (h : br t g n δ β = some r) (l : n <= m) : br t g m δ β = some r := by
 induction m with
 | zero =>
  obtain rfl : n = 0 := by omega
  exact h
 | succ m ih =>
  by_cases q : n = m + 1
  ·subst q; exact h
  ·exact jG (ih (by omega))
open Classical in
noncomputable def gWh (t : Dn -> M Bool) (g : G) : G := fun δ β => if h : ∃ r n, br t g n δ β = some r then some h.choose else none
theorem ur {t : Dn -> M Bool} {g : G} {n : Nat} {δ : Ds} {β : Bg} {r : Out × Bg} (h : br t g n δ β = some r) : gWh t g δ β = some r := by
 have hx : ∃ r n, br t g n δ β = some r := ⟨r, n, h⟩
 unfold gWh
 rw [dif_pos hx]
 obtain ⟨m, hm⟩ := hx.choose_spec
 have h1 := gS h (Nat.le_max_left n m)
 have h2 := gS hm (Nat.le_max_right n m)
 rw [h1] at h2
 rw [← Option.some.inj h2]
theorem zn {t : Dn -> M Bool} {g : G} {δ : Ds} {β : Bg} {r : Out × Bg} (h : gWh t g δ β = some r) : ∃ n, br t g n δ β = some r := by
 unfold gWh at h
 split at h
 ·rename_i hx
  obtain ⟨m, hm⟩ := hx.choose_spec
  cases h
  exact ⟨m, hm⟩
 ·cases h
section
variable {X : Cx} {E : St -> XK} {e : Expr} {st : Stmt} {sts : List Stmt} {pos : Pos} {K : Frag}
theorem qe {c : Expr} {body : List Stmt} {t : Dn -> M Bool} {g : G} (hp : PassesOwn (model X.prog X.w) X.A X.env X.xe) (hc : PT X c (tVT X.K t E)) (hb : PSs X body (tG X.K X.H₀ g E)) : PS X (.While c body [] pos) (tG X.K X.H₀ (gWh t g) E) := (uZ hp hc hb).imp fun D σ H h_ => by
 obtain ⟨B, bg, δ, β, o, β', ok, e, q⟩ := h_
 obtain ⟨n, e⟩ := zn e
 refine ⟨fun m σ1 H1 => ∃ B1 δ1 β1, Stp B H B1 H1 /\ SOk X.K X.H₀ B1 bg H1 δ1 β1 σ1 /\ br t g m δ1 β1 = some (o, β'), ⟨n, B, δ, β, Stp.refl B H, ok, e⟩, ?_⟩
 rintro m σ1 H1 ⟨B1, δ1, β1, s1, ok1, e1⟩
 refine ⟨FxA B1 bg, vwA δ1, β1, ok1.frA, ok1.viewA, ?_⟩
 cases m with
 | zero => cases e1
 | succ m =>
  unfold br at e1
  split at e1
  ·rename_i β2 e2
   refine ⟨.ok true, _, e2, fun v H2 tt hd => ?_⟩
   subst hd
   obtain ⟨ok2, s2⟩ := ok1.to rfl tt
   rw [if_pos rfl]
   refine ⟨fun σ3 H3 => ∃ B3 δ3 β3, Stp B H B3 H3 /\ SOk X.K X.H₀ B3 bg H3 δ3 β3 σ3 /\ br t g m δ3 β3 = some (o, β'), fun σ3 H3 ⟨B3, δ3, β3, z⟩ => ⟨m, Nat.lt_succ_self m, B3, δ3, β3, z⟩, ?_⟩
   split at e1
   ·rename_i δ3 β3 e3
    exact ⟨B1, bg, δ1, β2, .nx δ3, β3, ok2, e3, fun σ4 B4 H4 s4 ok4 => ⟨B4, δ3, β3, s1.trans (s2.trans s4), ok4, e1⟩⟩
   ·rename_i δ3 β3 e3
    exact ⟨B1, bg, δ1, β2, .ct δ3, β3, ok2, e3, fun σ4 B4 H4 s4 ok4 => ⟨B4, δ3, β3, s1.trans (s2.trans s4), ok4, e1⟩⟩
   ·rename_i δ3 β3 e3
    cases e1
    exact ⟨B1, bg, δ1, β2, .bk δ3, _, ok2, e3, fun σ4 B4 H4 s4 ok4 => q σ4 B4 H4 (s1.trans (s2.trans s4)) ok4⟩
   ·rename_i x h1 h2 h3
    refine ⟨B1, bg, δ1, β2, o, β', ok2, e1, ?_⟩
    have q2 := ge.pre (s1.trans s2) q
    cases o with
    | nx δ3 => exact absurd e1 (h1 _ _)
    | ct δ3 => exact absurd e1 (h2 _ _)
    | bk δ3 => exact absurd e1 (h3 _ _)
    | rt d => exact q2
    | rg d => exact q2
    | ex C δ3 => exact q2
  ·rename_i β2 e2
   cases e1
   refine ⟨.ok false, _, e2, fun v H2 tt hd => ?_⟩
   subst hd
   obtain ⟨ok2, s2⟩ := ok1.to rfl tt
   rw [if_neg Bool.false_ne_true]
   exact q _ B1 H2 (s1.trans s2) ok2
  ·rename_i C β2 e2
   cases e1
   refine ⟨.error C, _, e2, fun H2 tt => ?_⟩
   obtain ⟨ok2, s2⟩ := ok1.to rfl tt
   exact q _ B1 H2 (s1.trans s2) ok2
  ·cases e1
def gLp (tg : TgS) (g : G) : List D -> G
 | [], δ, β => some (.nx δ, β)
 | d :: ds, δ, β => match tg d δ with
  | none => none
  | some δ1 => match g δ1 β with
   | some (.nx δ2, β2) => gLp tg g ds δ2 β2
   | some (.ct δ2, β2) => gLp tg g ds δ2 β2
   | some (.bk δ2, β2) => some (.nx δ2, β2)
   | r => r
def bW (it : Dn -> M (List D)) (tg : TgS) (g : G) : G := fun δ β => match it (vw δ) β with
 | some (.ok ds, β1) => gLp tg g ds δ β1
 | some (.error C, β1) => some (.ex C δ, β1)
 | none => none
theorem bN {tgt iter : Expr} {body : List Stmt} {it : Dn -> M (List D)} {tgg : TG} {tg : TgS} {g : G} (l : oq X.K tgg tg) (h : PS X (.For tgt iter body [] pos) (zR (iV X.K it E) tgg (tG X.K X.H₀ g E))) : PS X (.For tgt iter body [] pos) (tG X.K X.H₀ (bW it tg g) E) := h.imp fun D σ H h_ => by
 obtain ⟨B, bg, δ, β, o, β', ok, e, q⟩ := h_
 refine ⟨FxB B bg, vw δ, β, ok.fr, ok.view, ?_⟩
 unfold bW at e
 split at e
 ·rename_i ds β1 e1
  refine ⟨.ok ds, _, e1, fun J H1 t hJ => ?_⟩
  obtain ⟨ok1, s1⟩ := ok.to rfl t
  refine ⟨fun i m σ2 H2 => m + i = ds.length /\ ∃ B2 δ2 β2, Stp B H1 B2 H2 /\ SOk X.K X.H₀ B2 bg H2 δ2 β2 σ2 /\ gLp tg g (ds.drop i) δ2 β2 = some (o, β'), ⟨ds.length, by omega, B, δ, β1, Stp.refl B H1, ok1, e⟩, ?_⟩
  rintro i m σ2 H2 ⟨hm, B2, δ2, β2, s2, ok2, e2⟩
  obtain ⟨iy, is⟩ := hJ (FxB B2 bg) H2 β2 s2.tr ok2.fr i
  cases hi : ds[i]? with
  | none =>
   have hl : ds.length <= i := List.getElem?_eq_none_iff.mp hi
   rw [List.drop_eq_nil_of_le hl] at e2
   cases e2
   exact .inl ⟨is (by omega), q σ2 B2 H2 (s1.trans s2) ok2⟩
  | some d =>
   have hl : i < ds.length := (List.getElem?_eq_some_iff.mp hi).1
   obtain ⟨go, yl⟩ := iy d hi
   have ed : ds.drop i = d :: ds.drop (i + 1) := by
    rw [List.drop_eq_getElem_cons hl]
    congr 1
    exact Option.some.inj ((List.getElem?_eq_getElem hl).symm.trans hi)
   rw [ed] at e2
   unfold gLp at e2
   split at e2
   ·cases e2
   ·rename_i δ3 e3
    refine .inr ⟨go, fun σ9 H9 => ∃ B9 δ9 β9, Stp B H1 B9 H9 /\ SOk X.K X.H₀ B9 bg H9 δ9 β9 σ9 /\ gLp tg g (ds.drop (i + 1)) δ9 β9 = some (o, β'), fun σ9 H9 ⟨B9, δ9, β9, z1, z2, z3⟩ => ⟨m - 1, by omega, by omega, B9, δ9, β9, z1, z2, z3⟩, fun x H3 hy => ?_⟩
    obtain ⟨sm, dx⟩ := yl x H3 hy
    obtain ⟨ok3, s3⟩ := ok2.to rfl (ok2.fr.same sm)
    refine l X.H₀ B2 bg H3 δ2 δ3 β2 σ2 d x _ ok3 dx e3 fun σ4 ok4 => ?_
    have s23 := s2.trans s3
    split at e2
    ·rename_i δ5 β5 e5
     exact ⟨B2, bg, δ3, β2, .nx δ5, β5, ok4, e5, fun σ6 B6 H6 s6 ok6 => ⟨B6, δ5, β5, s23.trans s6, ok6, e2⟩⟩
    ·rename_i δ5 β5 e5
     exact ⟨B2, bg, δ3, β2, .ct δ5, β5, ok4, e5, fun σ6 B6 H6 s6 ok6 => ⟨B6, δ5, β5, s23.trans s6, ok6, e2⟩⟩
    ·rename_i δ5 β5 e5
     cases e2
     exact ⟨B2, bg, δ3, β2, .bk δ5, _, ok4, e5, fun σ6 B6 H6 s6 ok6 => q σ6 B6 H6 (s1.trans (s23.trans s6)) ok6⟩
    ·rename_i x h1 h2 h3
     refine ⟨B2, bg, δ3, β2, o, β', ok4, e2, ?_⟩
     have q2 := ge.pre (s1.trans s23) q
     cases o with
     | nx δ5 => exact absurd e2 (h1 _ _)
     | ct δ5 => exact absurd e2 (h2 _ _)
     | bk δ5 => exact absurd e2 (h3 _ _)
     | rt d => exact q2
     | rg d => exact q2
     | ex C δ5 => exact q2
 ·rename_i C β1 e1
  cases e
  refine ⟨.error C, _, e1, fun H' t => ?_⟩
  obtain ⟨ok2, s2⟩ := ok.to rfl t
  exact q _ B H' s2 ok2
 ·cases e
theorem jD {α : Type} {δ : List (Option α)} {i : Nat} {s : α} (h : δ.getD i none = some s) : δ[i]? = some (some s) := by
 rw [List.getD_eq_getElem?_getD] at h
 cases z : δ[i]? with
 | none => rw [z] at h; cases h
 | some w => rw [z] at h; simp at h; rw [h]
def stD (n : Nat) (ds : List D) : Ds := ds.map (fun d => some (Sl.sh d)) ++ List.replicate (n - ds.length) none
def aJ (n : Nat) (g : G) : List D -> M D := fun ds β => match g (stD n ds) β with
 | some (.rt d, β') => some (.ok d, β')
 | some (.nx _, β') => some (.ok .non, β')
 | some (.ex C _, β') => some (.error C, β')
 | _ => none
theorem tH {F : Fx} {H : Hp} {β : Bg} {ds : List D} {vs : List V} {N : List Str} (fr : Fr F H β) (hd : DenL K F H ds vs) : ∃ B, SOk K H B F.bg H (stD N.length ds) β (dR N vs) /\ (∀ a, F.A a -> B a = some 0 \/ B a = some 1) /\ (∀ a, B a = some 1 -> ∃ b l, F.bg = some (b, l) /\ (a = b \/ a = l)) /\ (∀ a, B a ≠ none -> F.A a) := by
 classical
 refine ⟨fun a => if F.A a then (if ∃ b l, F.bg = some (b, l) /\ (a = b \/ a = l) then some 1 else some 0) else none, ⟨⟨fun a ha => fr.occ a ?_, fun b l e => ?_, fr.bag⟩, fun b l e => ?_, ?_, fun _ h => h, fun c k hc => (by
  have hc' : (if F.A c then (if ∃ b l, F.bg = some (b, l) /\ (c = b \/ c = l) then some 1 else some 0) else none) = some (k + 2) := hc
  split at hc'
  ·split at hc' <;> cases hc'
  ·cases hc'), fun c k hc => (by
  have hc' : (if F.A c then (if ∃ b l, F.bg = some (b, l) /\ (c = b \/ c = l) then some 1 else some 0) else none) = some (k + 2) := hc
  split at hc'
  ·split at hc' <;> cases hc'
  ·cases hc'), fun i s e => ?_⟩, fun a ha => ?_, fun a ha => ?_, fun a ha => ?_⟩
 ·have ha' : (if F.A a then (if ∃ b l, F.bg = some (b, l) /\ (a = b \/ a = l) then some 1 else some 0) else none) ≠ (none : Option Nat) := ha
  split at ha'
  ·assumption
  ·exact absurd rfl ha'
 ·obtain ⟨a1, a2, a3⟩ := fr.bgA b l e
  refine ⟨?_, ?_, a3⟩
  ·show (if F.A b then (if ∃ b' l, F.bg = some (b', l) /\ (b = b' \/ b = l) then some 1 else some 0) else none) ≠ (none : Option Nat)
   rw [if_pos a1]; split <;> simp
  ·show (if F.A l then (if ∃ b' l', F.bg = some (b', l') /\ (l = b' \/ l = l') then some 1 else some 0) else none) ≠ (none : Option Nat)
   rw [if_pos a2]; split <;> simp
 ·obtain ⟨a1, a2, a3⟩ := fr.bgA b l e
  exact ⟨by rw [if_pos a1, if_pos ⟨b, l, e, .inl rfl⟩], by rw [if_pos a2, if_pos ⟨b, l, e, .inr rfl⟩]⟩
 ·unfold stD dR
  rw [List.length_append, List.length_append, List.length_map, List.length_map, List.length_replicate, List.length_replicate, hd.length]
 ·unfold stD at e
  unfold dR
  rw [List.getElem?_append, List.length_map] at e
  rw [List.getElem?_append, List.length_map, ← hd.length]
  by_cases hi : i < ds.length
  ·rw [if_pos hi, List.getElem?_map] at e
   rw [if_pos hi, List.getElem?_map]
   cases z : ds[i]? with
   | none => rw [z] at e; cases e
   | some d =>
    rw [z] at e
    cases e
    obtain ⟨v, h1, h2⟩ := hd.get z
    refine ⟨v, by rw [h1]; rfl, ?_⟩
    have tr0 : Tr F H (FxB (fun a => if F.A a then (if ∃ b l, F.bg = some (b, l) /\ (a = b \/ a = l) then some 1 else some 0) else none) F.bg) H := by
     refine ⟨fun a ha _ z' => ?_, fun _ _ _ h => h, rfl⟩
     have z2 : (if F.A a then (if ∃ b l, F.bg = some (b, l) /\ (a = b \/ a = l) then some 1 else some 0) else none) ≠ (none : Option Nat) := z'
     rw [if_neg ha] at z2
     exact z2 rfl
    exact Den.tr tr0 _ _ h2
  ·rw [if_neg hi, List.getElem?_replicate] at e
   split at e <;> cases e
 ·simp only [if_pos ha]
  split
  ·exact .inr rfl
  ·exact .inl rfl
 ·simp only at ha
  split at ha
  ·split at ha
   ·assumption
   ·cases ha
  ·cases ha
 ·simp only at ha
  split at ha
  ·assumption
  ·exact absurd rfl ha
end
section
variable {P : Program} {w : World} {K : Frag} {mg : Str -> Option Value} {base : Heap}
theorem zp {x qual : Str} {st : Stmt} {f : Addr} {fd : FuncData} {N ps : List Str} {k : Nat} {g : G} (F : FunD K x qual st f fd) (S : FnScope N ps (aj st))
  (hbody : ∀ (cdv : Value) (A : Around) (outer : List Env) (s : Shared) (H : Hp) (E : XK), Room k (A.deeper (envOfC qual (aj st) s.heap.objs.size f cdv)) ->
   PSs (cN (CXE P w) P w K mg base N qual (aj st) f cdv A outer s H E) (cg st) (tG K H g (fun _ => E))) : FnOk P w K mg base (CXE P w) (k + 1) f fd ps (spF K ps.length (aJ N.length g)) := by
 refine F.okE S (fun vs H Q E h => h.1) fun cdv A outer s H vs Q E hr h => ?_
 obtain ⟨hl, F0, ds, β, fr, hd, r, β', e, h⟩ := h
 refine ⟨_, hbody cdv A outer s H E hr, ?_⟩
 obtain ⟨B, ok, hA, h1, hn⟩ := tH (N := N) fr hd
 have toF : ∀ {B' : Ow} {H' : Hp}, Stp B H B' H' -> Fr (FxB B' F0.bg) H' β' -> To F0 H H' β' /\ Tr (FxB B' F0.bg) H' F0 H' := fun {B' H'} s fr' => by
  have hs : ∀ a, F0.A a -> B' a ≠ none := fun a ha => by
   rw [s.tg a (hA a ha)]
   rcases hA a ha with z | z <;> rw [z] <;> simp
  refine ⟨⟨fun a o ha n => s.kp a o ha ?_, fun a ha => fr'.occ a (hs a ha), fun b l e => fr.bgA b l e, fr'.bag⟩, fun a ha _ z => ha (hs a z), fun _ _ _ h => h, rfl⟩
  cases q : B a with
  | none => exact .inl rfl
  | some t =>
   have := hA a (hn a (by rw [q]; simp))
   rcases this with z | z
   ·rw [q] at z; exact .inr z
   ·obtain ⟨b, l, e, w⟩ := h1 a z
    obtain ⟨n1, n2⟩ := n b l e
    rcases w with w | w
    ·exact absurd w n1
    ·exact absurd w n2
 unfold aJ at e
 split at e
 ·rename_i d β1 e1
  cases e
  refine ⟨B, F0.bg, stD N.length ds, β, .rt d, β', ok, e1, fun v B' H' s fr' hv => ?_⟩
  obtain ⟨t1, t2⟩ := toF s fr'
  exact h v H' t1 (Den.tr t2 _ _ hv)
 ·rename_i δ' β1 e1
  cases e
  refine ⟨B, F0.bg, stD N.length ds, β, .nx δ', β', ok, e1, fun σ' B' H' s ok' => ?_⟩
  obtain ⟨t1, t2⟩ := toF s ok'.fr
  exact h _ H' t1 rfl
 ·rename_i C δ' β1 e1
  cases e
  refine ⟨B, F0.bg, stD N.length ds, β, .ex C δ', β', ok, e1, fun σ' B' H' s ok' => ?_⟩
  obtain ⟨t1, t2⟩ := toF s ok'.fr
  exact h H' t1
 ·cases e
end
section
variable {prog : Program} {w : World} {A : Around}
theorem CQ (hh : A.handled = none) (it t : Addr) (ne : t ≠ it) (items : Array Value) : Draws prog w A it [it, t] items.size (fun i v => items[i]? = some v) (fun i h => h.IsTupleIter it t i /\ h.IsTuple t items) where
 live := fun _ _ st => let ⟨o, e, _⟩ := st.1; ⟨o, e⟩
 frame := fun _ _ _ st k => ⟨st.1.at fun o e => k it (by simp) o e, by
  obtain ⟨o, e, r⟩ := st.2
  exact ⟨o, k t (by simp) o e, r⟩⟩
 item := fun i s Q E hi st hQ => by
  obtain ⟨o, eo, co, dq⟩ := id st.1
  obtain ⟨ot, et, _, nt, dt⟩ := st.2
  have hx : items[i]? = some items[i] := by simp [hi]
  unfold Builtin.SmallTypes.nextOf; refine wpAny_bind (wpAny_callSpecial?_slot (name := Str.ofString "__next__") st.1.typeIs F.slot_tuple_iterator_next (wpAny_call_entry F.slot_tuple_iterator_next st.1.typeIs F.entry_tuple_iterator_next ?_ (F.args_tuple_iterator_next_1 _)))
  show wpAny _ _ (field (.ref it) 0 >>= _) _ _ _; refine wpAny_bind (wpAny_field eo dq (x := .ref t) rfl ?_)
  show wpAny _ _ (if (Value.ref t == Value.none) = true then _ else _) _ _ _; rw [if_neg (show ¬ ((Value.ref t == Value.none) = true) from Bool.false_ne_true)]
  show wpAny _ _ (field (.ref it) 1 >>= _) _ _ _; refine wpAny_bind (wpAny_field eo dq (x := .int i 0) rfl ?_)
  show wpAny _ _ (seqItems? (.ref t) >>= _) _ _ _; refine wpAny_bind (wpAny_seqItems et dt ?_)
  simp only [Int.toNat_natCast, hx]; refine wpAny_bind (wpAny_setField eo dq (by simp) (wpAny_pure ⟨items[i], rfl, wpAny_pure (hQ _ _ s.toks hx ⟨?_, ?_⟩ (Heap.SameBut.update ..))⟩))
  ·exact ⟨_, Heap.get?_update_self _ eo (Obj.isFreed_of_fields (Obj.data_mapFields dq _)), (Obj.cls_mapFields ..).trans co, by rw [Obj.data_mapFields dq]; simp [rawInt]⟩
  ·exact ⟨ot, (Heap.SameBut.update ..).extBut _ _ ne et, by assumption, nt, dt⟩
 done := fun s Q E st hE => by
  obtain ⟨o, eo, co, dq⟩ := id st.1
  obtain ⟨ot, et, _, nt, dt⟩ := st.2
  have hx : items[items.size]? = none := by simp
  unfold Builtin.SmallTypes.nextOf; refine wpAny_bind (wpAny_callSpecial?_slot (name := Str.ofString "__next__") st.1.typeIs F.slot_tuple_iterator_next (wpAny_call_entry F.slot_tuple_iterator_next st.1.typeIs F.entry_tuple_iterator_next ?_ (F.args_tuple_iterator_next_1 _)))
  show wpAny _ _ (field (.ref it) 0 >>= _) _ _ _; refine wpAny_bind (wpAny_field eo dq (x := .ref t) rfl ?_)
  show wpAny _ _ (if (Value.ref t == Value.none) = true then _ else _) _ _ _; rw [if_neg (show ¬ ((Value.ref t == Value.none) = true) from Bool.false_ne_true)]
  show wpAny _ _ (field (.ref it) 1 >>= _) _ _ _; refine wpAny_bind (wpAny_field eo dq (x := .int items.size 0) rfl ?_)
  show wpAny _ _ (seqItems? (.ref t) >>= _) _ _ _; refine wpAny_bind (wpAny_seqItems et dt ?_)
  simp only [Int.toNat_natCast, hx]; refine wpAny_bind (wpAny_rule (wpAny_bind (wpAny_setField eo dq (by simp) ?_)))
  show wpAny _ _ (newExc (.type "StopIteration") [] >>= _) _ _ _; refine wpAny_bind ?_
  simp only [newExc, newTuple]; refine wpAny_bind (wpAny_newObj_type ?_ (by size_fits))
  refine wpAny_bind (m := firstArgMember _ _) (wpAny_of_eq (a := Value.none) (by first | rfl | (simp only [firstArgMember]; rfl)) ?_); refine wpAny_newObj_type ?_ (by size_fits)
  simp only [raiseNew]; refine wpAny_bind (wpAny_handled ?_)
  first | rw [show A.in1.handled = none from hh] | rw [hh]; skip
  refine wpAny_bind (wpAny_pure (wpAny_throw ?_)); exact hE _ _ (((Heap.SameBut.update ..).extBut.push _).push _) ⟨_, Heap.get?_push_size _ rfl, rfl⟩
end
structure Ap (z TI TO i1 i2 : Addr) (f1 f2 : List Addr) : Prop where
 a1 : TI ≠ z
 a2 : TO ≠ z
 a3 : i1 ≠ z
 a4 : i2 ≠ z
 a5 : TI ≠ TO
 a6 : TI ≠ i1
 a7 : TI ≠ i2
 a8 : TO ≠ i1
 a9 : TO ≠ i2
 b1 : i1 ≠ i2
 c1 : z ∉ f1
 c2 : TO ∉ f1
 c3 : i2 ∉ f1
 d1 : z ∉ f2
 d2 : TO ∉ f2
 d3 : i1 ∉ f2
 m1 : i1 ∈ f1
 m2 : i2 ∈ f2
section
variable {prog : Program} {w : World} {A : Around} {E : Value -> Shared -> Prop} {s : Shared}
theorem bK {it : Addr} {f : List Addr} {h h' : Heap} (sb : Heap.SameBut it h h') (n : it ∉ f) : ∀ b ∈ f, ∀ o, h.get? b = some o -> h'.get? b = some o := fun b hb o e => sb.extBut b o (fun q => n (q ▸ hb)) e
theorem sT {z TI TO i1 i2 : Addr} {f1 f2 : List Addr} {n1 n2 k : Nat} {P1 P2 : Nat -> Value -> Prop} {S1 S2 : Nat -> Heap -> Prop} {a b : Value} {Q : Value -> Shared -> Prop} (D1 : Draws prog w A i1 f1 n1 P1 S1) (D2 : Draws prog w A i2 f2 n2 P2 S2) (ap : Ap z TI TO i1 i2 f1 f2)
  (ez : IsZip s.heap z TI TO .none) (eI : IsPair s.heap TI (.ref i1) (.ref i2)) (eO : IsPair s.heap TO a b) (s1 : S1 k s.heap) (s2 : S2 k s.heap) (k1 : k < n1) (k2 : k < n2)
  (hQ : ∀ h' tk x y, P1 k x -> P2 k y -> IsZip h' z TI TO (rawInt s.heap.objs.size) -> IsPair h' TO x y -> S1 (k + 1) h' -> S2 (k + 1) h' -> IsPair h' s.heap.objs.size x y -> h'.objs.size = s.heap.objs.size + 1 -> (∀ c o, c ≠ z -> c ≠ TO -> c ≠ i1 -> c ≠ i2 -> s.heap.get? c = some o -> h'.get? c = some o) -> Q (.ref s.heap.objs.size) { s with heap := h', toks := tk }) :
  wpAny (model prog w) A (Builtin.«zip.__next__» ⟨[.ref z], []⟩) (fun fin s' => ∃ v, fin = .done (.ret v) /\ Q v s') E s := by
 obtain ⟨hp, gg, dd, tk0, os⟩ := s
 show wpAny _ _ (field (.ref z) 2 >>= _) _ _ _; refine wpAny_bind (wpAny_field ez rfl (x := .bool false) rfl ?_)
 show wpAny _ _ (field (.ref z) 3 >>= _) _ _ _; refine wpAny_bind (wpAny_field ez rfl (x := .ref TI) rfl ?_)
 refine wpAny_bind (wpAny_seqItems eI rfl ?_)
 show wpAny _ _ (Builtin.SmallTypes.ownedTupleIsFree (.ref z) >>= _) _ _ _; refine wpAny_bind ?_
 unfold Builtin.SmallTypes.ownedTupleIsFree; refine wpAny_bind (wpAny_field ez rfl (x := .none) rfl (wpAny_pure ?_))
 simp only [if_true]; refine wpAny_bind (wpAny_rule ?_)
 refine wpAny_bind (wpAny_field ez rfl (x := .ref TO) rfl ?_)
 refine wpAny_bind (wpAny_setField_rec ez (by simp) fun g1 ez1 sb1 => ?_)
 replace ez1 : IsZip g1 z TI TO .ellipsis := ez1
 replace sb1 : Heap.SameBut z hp g1 := sb1
 refine wpAny_bind ?_
 simp only [List.zipIdx_cons, List.zipIdx_nil, List.forIn_cons, List.forIn_nil]; refine wpAny_bind (wpAny_bind (wpAny_onRaise ?_))
 show wpAny _ _ (Builtin.SmallTypes.nextOf (.ref i1) >>= _) _ _ _; refine wpAny_bind (D1.item k _ _ _ k1 (D1.frame _ _ _ s1 (bK sb1 ap.c1)) fun x g2 tk2 px st2 sb2 => wpAny_pure ?_)
 replace sb2 : Heap.SameBut i1 g1 g2 := sb2
 have eO2 : IsPair g2 TO a b := sb2.extBut _ _ ap.a8 (sb1.extBut _ _ ap.a2 eO)
 refine wpAny_bind (wpAny_seqItems eO2 rfl ?_); refine wpAny_bind (wpAny_updateSeq_pair eO2 fun g3 eO3 sb3 => ?_)
 replace eO3 : IsPair g3 TO x b := eO3
 replace sb3 : Heap.SameBut TO g2 g3 := sb3
 refine wpAny_bind (wpAny_letGo (wpAny_pure ?_)); refine wpAny_bind (wpAny_bind (wpAny_onRaise ?_))
 show wpAny _ _ (Builtin.SmallTypes.nextOf (.ref i2) >>= _) _ _ _; refine wpAny_bind (D2.item k _ _ _ k2 (D2.frame _ _ _ (D2.frame _ _ _ (D2.frame _ _ _ s2 (bK sb1 ap.d1)) (bK sb2 ap.d3)) (bK sb3 ap.d2)) fun y g4 tk4 py st4 sb4 => wpAny_pure ?_)
 replace sb4 : Heap.SameBut i2 g3 g4 := sb4
 have eO4 : IsPair g4 TO x b := sb4.extBut _ _ ap.a9 eO3
 refine wpAny_bind (wpAny_seqItems eO4 rfl ?_); refine wpAny_bind (wpAny_updateSeq_pair eO4 fun g5 eO5 sb5 => ?_)
 replace eO5 : IsPair g5 TO x y := eO5
 replace sb5 : Heap.SameBut TO g4 g5 := sb5
 refine wpAny_bind (wpAny_letGo (wpAny_pure (wpAny_pure ?_))); refine wpAny_bind (wpAny_seqItems eO5 rfl ?_)
 refine wpAny_bind (wpAny_newTuple ?_)
 have zs : g5.objs.size = hp.objs.size := by rw [sb5.1, sb4.1, sb3.1, sb2.1, sb1.1]
 have ez5 : IsZip g5 z TI TO .ellipsis := sb5.extBut _ _ ap.a2.symm (sb4.extBut _ _ ap.a4.symm (sb3.extBut _ _ ap.a2.symm (sb2.extBut _ _ ap.a3.symm ez1)))
 have kp5 : ∀ c o, c ≠ z -> c ≠ TO -> c ≠ i1 -> c ≠ i2 -> hp.get? c = some o -> g5.get? c = some o := fun c o n1 n2 n3 n4 e => sb5.extBut _ _ n2 (sb4.extBut _ _ n4 (sb3.extBut _ _ n2 (sb2.extBut _ _ n3 (sb1.extBut _ _ n1 e))))
 have st1 : S1 (k + 1) g5 := D1.frame _ _ _ (D1.frame _ _ _ (D1.frame _ _ _ st2 (bK sb3 ap.c2)) (bK sb4 ap.c3)) (bK sb5 ap.c2)
 have st5 : S2 (k + 1) g5 := D2.frame _ _ _ st4 (bK sb5 ap.d2)
 have zl : z < g5.objs.size := Heap.lt_size ez5
 show wpAny _ _ (Builtin.SmallTypes.ownedTupleHandOut (.ref z) (.ref g5.objs.size) >>= _) _ _ _; refine wpAny_bind ?_
 unfold Builtin.SmallTypes.ownedTupleHandOut; have ez6 : IsZip (g5.push { cls := .type "tuple", data := .seq #[x, y] }) z TI TO .ellipsis := Heap.get?_push_of_some _ ez5
 refine wpAny_bind (wpAny_setField_rec ez6 (by simp) fun g7 ez7 sb7 => ?_)
 replace ez7 : IsZip g7 z TI TO (rawInt g5.objs.size) := ez7
 refine wpAny_setField_rec ez7 (by simp) fun g8 ez8 sb8 => ?_
 replace ez8 : IsZip g8 z TI TO (rawInt g5.objs.size) := ez8
 have up : ∀ c o, c ≠ z -> g5.get? c = some o -> g8.get? c = some o := fun c o n e => sb8.extBut _ _ n (sb7.extBut _ _ n (Heap.get?_push_of_some _ e))
 have eT : IsPair g8 g5.objs.size x y := sb8.extBut _ _ (Nat.ne_of_gt zl) (sb7.extBut _ _ (Nat.ne_of_gt zl) (Heap.get?_push_size _ rfl))
 have z8 : g8.objs.size = g5.objs.size + 1 := by rw [sb8.1, sb7.1, Heap.size_push]
 rw [zs] at ez8 eT z8; refine wpAny_pure ⟨_, rfl, ?_⟩
 show Q (.ref g5.objs.size) ⟨g8, gg, dd, _, os⟩
 rw [zs]; exact hQ g8 _ x y px py ez8 (up _ _ ap.a2 eO5) (D1.frame _ _ _ st1 fun b hb o e => up b o (fun q => ap.c1 (q ▸ hb)) e) (D2.frame _ _ _ st5 fun b hb o e => up b o (fun q => ap.d1 (q ▸ hb)) e) eT z8 fun c o n1 n2 n3 n4 e => up c o n1 (kp5 c o n1 n2 n3 n4 e)
theorem uL {z TI TO i1 i2 : Addr} {f1 f2 : List Addr} {n1 n2 k : Nat} {P1 P2 : Nat -> Value -> Prop} {S1 S2 : Nat -> Heap -> Prop} {a b : Value} {Q : Fin -> Shared -> Prop} (D1 : Draws prog w A i1 f1 n1 P1 S1) (D2 : Draws prog w A i2 f2 n2 P2 S2) (ap : Ap z TI TO i1 i2 f1 f2)
  (ez : IsZip s.heap z TI TO .none) (eI : IsPair s.heap TI (.ref i1) (.ref i2)) (eO : IsPair s.heap TO a b) (s1 : S1 k s.heap) (s2 : S2 k s.heap) (k1 : k = n1 \/ (k < n1 /\ k = n2))
  (hE : ∀ h' e tk, (∀ c o, c ≠ z -> c ≠ TO -> c ≠ i1 -> c ≠ i2 -> s.heap.get? c = some o -> h'.get? c = some o) -> (∃ o, h'.get? e = some o /\ o.cls = .type "StopIteration") -> E (.ref e) { s with heap := h', toks := tk }) :
  wpAny (model prog w) A (Builtin.«zip.__next__» ⟨[.ref z], []⟩) Q E s := by
 obtain ⟨hp, gg, dd, tk0, os⟩ := s
 show wpAny _ _ (field (.ref z) 2 >>= _) _ _ _; refine wpAny_bind (wpAny_field ez rfl (x := .bool false) rfl ?_)
 show wpAny _ _ (field (.ref z) 3 >>= _) _ _ _; refine wpAny_bind (wpAny_field ez rfl (x := .ref TI) rfl ?_)
 refine wpAny_bind (wpAny_seqItems eI rfl ?_)
 show wpAny _ _ (Builtin.SmallTypes.ownedTupleIsFree (.ref z) >>= _) _ _ _; refine wpAny_bind ?_
 unfold Builtin.SmallTypes.ownedTupleIsFree; refine wpAny_bind (wpAny_field ez rfl (x := .none) rfl (wpAny_pure ?_))
 simp only [if_true]; refine wpAny_bind (wpAny_rule ?_)
 refine wpAny_bind (wpAny_field ez rfl (x := .ref TO) rfl ?_)
 refine wpAny_bind (wpAny_setField_rec ez (by simp) fun g1 ez1 sb1 => ?_)
 replace ez1 : IsZip g1 z TI TO .ellipsis := ez1
 replace sb1 : Heap.SameBut z hp g1 := sb1
 refine wpAny_bind ?_
 simp only [List.zipIdx_cons, List.zipIdx_nil, List.forIn_cons, List.forIn_nil]; refine wpAny_bind (wpAny_bind (wpAny_onRaise ?_))
 show wpAny _ _ (Builtin.SmallTypes.nextOf (.ref i1) >>= _) _ _ _
 rcases k1 with rfl | ⟨k1, rfl⟩
 ·refine wpAny_bind (D1.done _ _ _ (D1.frame _ _ _ s1 (bK sb1 ap.c1)) fun g2 e sb2 he => ?_)
  replace sb2 : Heap.ExtBut i1 g1 g2 := sb2
  obtain ⟨oe, eoe, ce⟩ := he
  have ez2 : IsZip g2 z TI TO .ellipsis := sb2 _ _ ap.a3.symm ez1
  have nez : e ≠ z := fun q => by subst q; rw [ez2] at eoe; cases eoe; simp at ce
  exact wpAny_setField_rec ez2 (by simp) fun g3 _ sb3 => hE g3 e _ (fun c o n1 _ n3 _ q => sb3.extBut _ _ n1 (sb2 _ _ n3 (sb1.extBut _ _ n1 q))) ⟨oe, sb3.extBut _ _ nez eoe, ce⟩
 ·refine wpAny_bind (D1.item k _ _ _ k1 (D1.frame _ _ _ s1 (bK sb1 ap.c1)) fun x g2 tk2 px st2 sb2 => wpAny_pure ?_)
  replace sb2 : Heap.SameBut i1 g1 g2 := sb2
  have eO2 : IsPair g2 TO a b := sb2.extBut _ _ ap.a8 (sb1.extBut _ _ ap.a2 eO)
  refine wpAny_bind (wpAny_seqItems eO2 rfl ?_); refine wpAny_bind (wpAny_updateSeq_pair eO2 fun g3 eO3 sb3 => ?_)
  replace sb3 : Heap.SameBut TO g2 g3 := sb3
  refine wpAny_bind (wpAny_letGo (wpAny_pure ?_)); refine wpAny_bind (wpAny_bind (wpAny_onRaise ?_))
  show wpAny _ _ (Builtin.SmallTypes.nextOf (.ref i2) >>= _) _ _ _; refine wpAny_bind (D2.done _ _ _ (D2.frame _ _ _ (D2.frame _ _ _ (D2.frame _ _ _ s2 (bK sb1 ap.d1)) (bK sb2 ap.d3)) (bK sb3 ap.d2)) fun g4 e sb4 he => ?_)
  replace sb4 : Heap.ExtBut i2 g3 g4 := sb4
  obtain ⟨oe, eoe, ce⟩ := he
  have ez4 : IsZip g4 z TI TO .ellipsis := sb4 _ _ ap.a4.symm (sb3.extBut _ _ ap.a2.symm (sb2.extBut _ _ ap.a3.symm ez1))
  have nez : e ≠ z := fun q => by subst q; rw [ez4] at eoe; cases eoe; simp at ce
  exact wpAny_setField_rec ez4 (by simp) fun g5 _ sb5 => hE g5 e _ (fun c o n1 n2 n3 n4 q => sb5.extBut _ _ n1 (sb4 _ _ n4 (sb3.extBut _ _ n2 (sb2.extBut _ _ n3 (sb1.extBut _ _ n1 q))))) ⟨oe, sb5.extBut _ _ nez eoe, ce⟩
theorem sS {z TI TO i1 i2 : Addr} {f1 f2 : List Addr} {n1 n2 k : Nat} {P1 P2 : Nat -> Value -> Prop} {S1 S2 : Nat -> Heap -> Prop} {a b : Value} {Q : Option Value -> Shared -> Prop} (D1 : ∀ A' : Around, A'.handled = A.handled -> Draws prog w A' i1 f1 n1 P1 S1) (D2 : ∀ A' : Around, A'.handled = A.handled -> Draws prog w A' i2 f2 n2 P2 S2) (ap : Ap z TI TO i1 i2 f1 f2)
  (ez : IsZip s.heap z TI TO .none) (eI : IsPair s.heap TI (.ref i1) (.ref i2)) (eO : IsPair s.heap TO a b) (s1 : S1 k s.heap) (s2 : S2 k s.heap) (k1 : k < n1) (k2 : k < n2)
  (hQ : ∀ h' tk x y, P1 k x -> P2 k y -> IsZip h' z TI TO (rawInt s.heap.objs.size) -> IsPair h' TO x y -> S1 (k + 1) h' -> S2 (k + 1) h' -> IsPair h' s.heap.objs.size x y -> h'.objs.size = s.heap.objs.size + 1 -> (∀ c o, c ≠ z -> c ≠ TO -> c ≠ i1 -> c ≠ i2 -> s.heap.get? c = some o -> h'.get? c = some o) -> Q (some (.ref s.heap.objs.size)) { s with heap := h', toks := tk }) :
  wpAny (model prog w) A (pyNext (.ref z)) Q E s := by
 have ty : s.TypeIs (.ref z) "zip" := ⟨_, ez, rfl⟩
 unfold pyNext; exact wpAny_bind (wpAny_attempt (wpAny_callSpecial?_slot (name := Str.ofString "__next__") ty F.slot_zip_next (wpAny_call_entry F.slot_zip_next ty F.entry_zip_next (sT (D1 _ rfl) (D2 _ rfl) ap ez eI eO s1 s2 k1 k2 fun h' tk x y a1 a2 a3 a4 a5 a6 a7 a8 a9 => wpAny_pure (hQ h' tk x y a1 a2 a3 a4 a5 a6 a7 a8 a9)) (F.args_zip_next_1 _))))
theorem uK {z TI TO i1 i2 : Addr} {f1 f2 : List Addr} {n1 n2 k : Nat} {P1 P2 : Nat -> Value -> Prop} {S1 S2 : Nat -> Heap -> Prop} {a b : Value} {Q : Option Value -> Shared -> Prop} (D1 : ∀ A' : Around, A'.handled = A.handled -> Draws prog w A' i1 f1 n1 P1 S1) (D2 : ∀ A' : Around, A'.handled = A.handled -> Draws prog w A' i2 f2 n2 P2 S2) (ap : Ap z TI TO i1 i2 f1 f2)
  (ez : IsZip s.heap z TI TO .none) (eI : IsPair s.heap TI (.ref i1) (.ref i2)) (eO : IsPair s.heap TO a b) (s1 : S1 k s.heap) (s2 : S2 k s.heap) (k1 : k = n1 \/ (k < n1 /\ k = n2))
  (hQ : ∀ h' tk, (∀ c o, c ≠ z -> c ≠ TO -> c ≠ i1 -> c ≠ i2 -> s.heap.get? c = some o -> h'.get? c = some o) -> Q none { s with heap := h', toks := tk }) : wpAny (model prog w) A (pyNext (.ref z)) Q E s := by
 have ty : s.TypeIs (.ref z) "zip" := ⟨_, ez, rfl⟩
 unfold pyNext; refine wpAny_bind (wpAny_attempt (wpAny_callSpecial?_slot (name := Str.ofString "__next__") ty F.slot_zip_next (wpAny_call_entry F.slot_zip_next ty F.entry_zip_next (uL (D1 _ rfl) (D2 _ rfl) ap ez eI eO s1 s2 k1 fun h' e tk hk he => ?_) (F.args_zip_next_1 _))))
 obtain ⟨o, eo, ce⟩ := he
 refine wpAny_bind (wpAny_isInstance (T := "StopIteration") (b := true) ⟨o, eo, ce⟩ isSubtype_stop ?_); exact wpAny_pure (hQ _ _ hk)
end
def Src (b : Bool) (h : Heap) (a : Addr) (its : Array Value) : Prop := if b = true then h.IsList a its else h.IsTuple a its
def ye (b : Bool) : String := if b = true then "list_iterator" else "tuple_iterator"
abbrev lD (b : Bool) (a : Addr) : Obj := { cls := .type (ye b), data := .fields #[.ref a, .int 0 0] }
def eS (b : Bool) (h : Heap) (it a : Addr) (k : Nat) : Prop := if b = true then h.IsListIter it a k else h.IsTupleIter it a k
section
variable {prog : Program} {w : World} {A : Around} {E : Value -> Shared -> Prop} {s : Shared}
theorem Src.keep {b : Bool} {h h' : Heap} {a : Addr} {its : Array Value} (x : Src b h a its) (k : ∀ o, h.get? a = some o -> h'.get? a = some o) : Src b h' a its := by
 unfold Src at x ⊢
 split at x
 ·rename_i q; rw [if_pos q]; exact x.at fun o e => k o e
 ·rename_i q; rw [if_neg q]
  obtain ⟨o, e, r⟩ := x
  exact ⟨o, k o e, r⟩
theorem lh {b : Bool} {a : Addr} {its : Array Value} {Q : Value -> Shared -> Prop} (x : Src b s.heap a its) (h : Q (.ref s.heap.objs.size) { s with heap := s.heap.push (lD b a) }) : wpAny (model prog w) A (pyIter (.ref a)) Q E s := by
 cases b with
 | true => exact wpAny_pyIter_list (show s.heap.IsList a its from x) h
 | false => exact wpAny_pyIter_tuple (show s.heap.IsTuple a its from x) h
theorem om (b : Bool) (hh : A.handled = none) (it a : Addr) (ne : a ≠ it) (its : Array Value) : Draws prog w A it [it, a] its.size (fun i v => its[i]? = some v) (fun i h => eS b h it a i /\ Src b h a its) := by
 cases b with
 | true => exact Draws.list hh it a ne its
 | false => exact CQ hh it a ne its
abbrev zH1 (b1 : Bool) (h : Heap) (l1 : Addr) : Heap := h.push (lD b1 l1)
abbrev zH2 (b1 b2 : Bool) (h : Heap) (l1 l2 : Addr) : Heap := (zH1 b1 h l1).push (lD b2 l2)
abbrev zH3 (b1 b2 : Bool) (h : Heap) (l1 l2 : Addr) : Heap := (zH2 b1 b2 h l1 l2).push { cls := .type "tuple", data := .seq #[.ref h.objs.size, .ref (zH1 b1 h l1).objs.size] }
abbrev zH4 (b1 b2 : Bool) (h : Heap) (l1 l2 : Addr) : Heap := (zH3 b1 b2 h l1 l2).push { cls := .type "tuple", data := .seq #[.none, .none] }
abbrev zH5 (b1 b2 : Bool) (h : Heap) (l1 l2 : Addr) : Heap := (zH4 b1 b2 h l1 l2).push { cls := .type "zip", data := .fields #[.none, .bool false, .bool false, .ref (zH2 b1 b2 h l1 l2).objs.size, .ref (zH3 b1 b2 h l1 l2).objs.size] }
theorem rq (b1 b2 : Bool) (l1 l2 : Addr) (xs ys : Array Value) :
  Meets (Builtin.«zip.__new__» ⟨[.type "zip", .ref l1, .ref l2], []⟩) (fun _ R s => Src b1 s.heap l1 xs /\ Src b2 s.heap l2 ys /\ R (.ok (.ret (.ref (zH4 b1 b2 s.heap l1 l2).objs.size))) { s with heap := zH5 b1 b2 s.heap l1 l2 }) :=
 .of_wp fun prog w A R s h => by
  obtain ⟨hp, g, d, tk, os⟩ := s; obtain ⟨e1, e2, q⟩ := h
  have hsub := sub_zip
  have x1 : Src b1 (Shared.heap ⟨hp, g, d, tk, os⟩) l1 xs := e1
  have x2 : Src b2 (Shared.heap ⟨hp.push (lD b1 l1), g, d, tk, os⟩) l2 ys := e2.keep fun o e => Heap.get?_push_of_some _ e
  wp_walk using lh x1, lh x2
  exact ⟨_, rfl, q⟩
theorem uE {b1 b2 : Bool} {l1 l2 : Addr} {xs ys : Array Value} {Q : Value -> Shared -> Prop} (e1 : Src b1 s.heap l1 xs) (e2 : Src b2 s.heap l2 ys)
  (h : ∀ h', IsZip h' (s.heap.objs.size + 4) (s.heap.objs.size + 2) (s.heap.objs.size + 3) .none -> IsPair h' (s.heap.objs.size + 2) (.ref s.heap.objs.size) (.ref (s.heap.objs.size + 1)) -> IsPair h' (s.heap.objs.size + 3) .none .none -> eS b1 h' s.heap.objs.size l1 0 -> eS b2 h' (s.heap.objs.size + 1) l2 0 -> h'.objs.size = s.heap.objs.size + 5 -> (∀ c o, s.heap.get? c = some o -> h'.get? c = some o) -> Q (.ref (s.heap.objs.size + 4)) { s with heap := h' }) :
  wpAny (model prog w) A (call (.type "zip") [.ref l1, .ref l2]) Q E s := by
 refine callType_new F.called_zip (by decide) (F.typeCall_zip_2 _ _) (F.newCall_zip_2 _ _) (fun obj => F.args_object_init_3 obj _ _) F.entry_zip_new (rq b1 b2 l1 l2 xs ys) ⟨e1, e2, ?_⟩
 have y1 : (zH1 b1 s.heap l1).objs.size = s.heap.objs.size + 1 := Heap.size_push ..
 have y2 : (zH2 b1 b2 s.heap l1 l2).objs.size = s.heap.objs.size + 2 := by rw [Heap.size_push, y1]
 have y3 : (zH3 b1 b2 s.heap l1 l2).objs.size = s.heap.objs.size + 3 := by rw [Heap.size_push, y2]
 have y4 : (zH4 b1 b2 s.heap l1 l2).objs.size = s.heap.objs.size + 4 := by rw [Heap.size_push, y3]
 have y5 : (zH5 b1 b2 s.heap l1 l2).objs.size = s.heap.objs.size + 5 := by rw [Heap.size_push, y4]
 have g5 : (zH5 b1 b2 s.heap l1 l2).get? (zH4 b1 b2 s.heap l1 l2).objs.size = some _ := Heap.get?_push_size _ rfl
 have g4 : (zH5 b1 b2 s.heap l1 l2).get? (zH3 b1 b2 s.heap l1 l2).objs.size = some _ := Heap.get?_push_of_some _ (Heap.get?_push_size _ rfl)
 have g3 : (zH5 b1 b2 s.heap l1 l2).get? (zH2 b1 b2 s.heap l1 l2).objs.size = some _ := Heap.get?_push_of_some _ (Heap.get?_push_of_some _ (Heap.get?_push_size _ rfl))
 have g2 : (zH5 b1 b2 s.heap l1 l2).get? (zH1 b1 s.heap l1).objs.size = some _ := Heap.get?_push_of_some _ (Heap.get?_push_of_some _ (Heap.get?_push_of_some _ (Heap.get?_push_size _ rfl)))
 have g1 : (zH5 b1 b2 s.heap l1 l2).get? s.heap.objs.size = some _ := Heap.get?_push_of_some _ (Heap.get?_push_of_some _ (Heap.get?_push_of_some _ (Heap.get?_push_of_some _ (Heap.get?_push_size _ rfl))))
 show _ /\ _
 rw [y2, y3, y4] at g5; rw [y1, y2] at g3; rw [y3] at g4; rw [y1] at g2; rw [y4]
 have it0 : ∀ (b : Bool) (h' : Heap) (p a : Addr), h'.get? p = some (lD b a) -> eS b h' p a 0 := fun b h' p a e => by
  cases b with
  | true => exact ⟨_, e, rfl, rfl⟩
  | false => exact ⟨_, e, rfl, rfl⟩
 exact ⟨⟨_, g5, rfl⟩, h _ g5 g3 g4 (it0 _ _ _ _ g1) (it0 _ _ _ _ g2) y5 fun c o x => Heap.get?_push_of_some _ (Heap.get?_push_of_some _ (Heap.get?_push_of_some _ (Heap.get?_push_of_some _ (Heap.get?_push_of_some _ x))))⟩
end
def SqS (b : Bool) (K : Frag) (H : Hp) (a : Addr) (xs : List V) : Prop := if b = true then SqL K H a xs else SqT K H a xs
def Itz (b1 b2 : Bool) (K : Frag) (l1 l2 : Addr) : It :=
 ⟨fun i H => ∃ xs ys x y, SqS b1 K H l1 xs /\ SqS b2 K H l2 ys /\ xs[i]? = some x /\ ys[i]? = some y,
  fun i H v H' => ∃ p x y, H p = none /\ v = .ref p /\ H' = upd H p (.tup [x, y]) /\ ∀ xs ys, SqS b1 K H l1 xs -> SqS b2 K H l2 ys -> xs[i]? = some x /\ ys[i]? = some y,
  fun i H => ∃ xs ys, SqS b1 K H l1 xs /\ SqS b2 K H l2 ys /\ (xs.length = i \/ (i < xs.length /\ ys.length = i))⟩
section
variable {X : Cx} {pins : List (Addr × Obj)} {σ : St} {H : Hp} {s : Shared}
theorem Inv.src {b : Bool} {a : Addr} {xs : List V} (I : Inv X pins σ H s) (h : SqS b X.K H a xs) : ∃ its : List Value, ar xs its /\ Src b s.heap a its.toArray := by
 cases b with
 | true =>
  obtain ⟨its, r, p, _⟩ := I.list (show SqL X.K H a xs from h)
  exact ⟨its, r, p.isList⟩
 | false =>
  obtain ⟨its, r, p, _⟩ := I.tuple (show SqT X.K H a xs from h)
  exact ⟨its, r, p⟩
theorem Inv.src_inj {b : Bool} {a : Addr} {xs ys : List V} (I : Inv X pins σ H s) (h : SqS b X.K H a xs) (h' : SqS b X.K H a ys) : xs = ys := by
 cases b with
 | true => exact I.list_inj (show SqL X.K H a xs from h) h'
 | false => exact I.tuple_inj (show SqT X.K H a xs from h) h'
theorem eS.get {b : Bool} {h : Heap} {it a : Addr} {k : Nat} (x : eS b h it a k) : ∃ o, h.get? it = some o /\ o.cls = .type (ye b) /\ ∃ fs, o.data = .fields fs := by
 cases b with
 | true => obtain ⟨o, e, c, d⟩ := (show h.IsListIter it a k from x); exact ⟨o, e, c, _, d⟩
 | false => obtain ⟨o, e, c, d⟩ := (show h.IsTupleIter it a k from x); exact ⟨o, e, c, _, d⟩
theorem eS.keep {b : Bool} {h h' : Heap} {it a : Addr} {k : Nat} (x : eS b h it a k) (q : ∀ o, h.get? it = some o -> h'.get? it = some o) : eS b h' it a k := by
 cases b with
 | true => exact (show h.IsListIter it a k from x).at fun o e => q o e
 | false => exact (show h.IsTupleIter it a k from x).at fun o e => q o e
end
section
variable {X : Cx} {pins : List (Addr × Obj)} {σ : St} {H : Hp} {s : Shared}
theorem Inv.turnNew {h' : Heap} {t' : Nat} {ch : List Addr} {p : Addr} {o : HO} (I : Inv X pins σ H s) (hf : ∀ b ∈ ch, dP X pins H b) (k : ∀ b u, b ∉ ch -> s.heap.get? b = some u -> h'.get? b = some u) (hp : s.heap.objs.size <= p) (new : bf X.prog X.w (upd H p o) h' p o) : Inv X pins σ (upd H p o) { s with heap := h', toks := t' } := by
 have hn : H p = none := I.hok.fresh hp
 have nt : ∀ b u, H b = some u -> b ∉ ch := fun b u e z => by rw [(hf b z).1] at e; cases e
 refine I.call' (s' := { s with heap := h', toks := t' }) (ch := ch) rfl ⟨fun b u e _ _ hc => k b u hc e, fun b u e _ _ hc => ⟨u.slots, k b u hc e⟩, fun b u e z hc => ?_, fun b u e hc => ⟨u, k b u hc e⟩, fun b ys e => ?_, fun b u ys e => ?_, fun b ys e => ⟨#[], ?_⟩⟩ (fun b u e => ?_) I.bare fun b hb => ?_
 ·rw [upd_ne (Nat.ne_of_lt (Nat.lt_of_lt_of_le (Heap.lt_size e) hp))]; exact z
 ·rw [upd_ne (ne_of_none e hn)]; exact e
 ·rw [upd_ne (ne_of_none e hn)]; exact e
 ·rw [upd_ne (ne_of_none e hn), e]; simp
 ·by_cases z : b = p
  ·subst z; rw [ax] at e; cases e; exact new
  ·rw [upd_ne z] at e
   refine (I.hok b u e).stay (fun c v hc q => k c v ?_ q) (fun c q => by rw [upd_ne (ne_of_none q hn)]; exact q) fun c xs q => by rw [upd_ne (ne_of_none q hn)]; exact q
   rcases hc with rfl | hc
   ·exact nt _ _ e
   ·exact nt _ _ hc
 ·obtain ⟨f0, f1, f2, f3, f4, f5⟩ := hf b hb
  exact ⟨f3, f1, f4, f5⟩
theorem Inv.turnL {h' : Heap} {t' : Nat} {ch : List Addr} (I : Inv X pins σ H s) (hf : ∀ b ∈ ch, dP X pins H b) (k : ∀ b u, b ∉ ch -> s.heap.get? b = some u -> h'.get? b = some u) : Inv X pins σ H { s with heap := h', toks := t' } := by
 have nt : ∀ b u, H b = some u -> b ∉ ch := fun b u e z => by rw [(hf b z).1] at e; cases e
 refine I.call' (s' := { s with heap := h', toks := t' }) (ch := ch) rfl ⟨fun b u e _ _ hc => k b u hc e, fun b u e _ _ hc => ⟨u.slots, k b u hc e⟩, fun b u e z hc => z, fun b u e hc => ⟨u, k b u hc e⟩, fun b ys e => e, fun b u ys e => e, fun b ys e => ⟨#[], by rw [e]; simp⟩⟩ (fun b u e => ?_) I.bare fun b hb => ?_
 ·refine (I.hok b u e).stay (fun c v hc q => k c v ?_ q) (fun c q => q) fun c xs q => q
  rcases hc with rfl | hc
  ·exact nt _ _ e
  ·exact nt _ _ hc
 ·obtain ⟨f0, f1, f2, f3, f4, f5⟩ := hf b hb
  exact ⟨f3, f1, f4, f5⟩
theorem Inv.src_ne {b : Bool} {a c : Addr} {xs : List V} (I : Inv X pins σ H s) (h : SqS b X.K H a xs) (f : dP X pins H c) : a ≠ c := by
 obtain ⟨f0, f1, f2, f3, f4, f5⟩ := f
 have old : ∀ o, X.K.lookup a = some o -> a ≠ c := fun o e z => by
  have e1 := I.ok.mod.kin a o e
  subst z
  rcases f3 with f3 | f3
  ·exact I.ok.noex a o e1 f3
  ·exact absurd (Nat.lt_of_lt_of_le (Heap.lt_size (I.ok.bs a o e1).1) f3) (Nat.lt_irrefl _)
 have rd : ∀ u, Rd H a u -> a ≠ c := fun u r z => by
  subst z
  rcases r with r | ⟨_, r⟩ <;> rw [f0] at r <;> cases r
 cases b with
 | true =>
  rcases (show SqL X.K H a xs from h) with h | ⟨o, _, _, e, _⟩
  ·exact rd _ h
  ·exact old o e
 | false =>
  rcases (show SqT X.K H a xs from h) with h | ⟨o, _, _, e, _⟩
  ·exact rd _ h
  ·exact old o e
end
theorem uO {P : Program} {w : World} {K : Frag} {elts : List Expr} {x1} {pos : Pos} (b1 b2 : Bool) (l1 l2 z TI TO i1 i2 : Addr) (nd : [z, TI, TO, i1, i2].Nodup) :
  Turn P w K (.Tuple elts x1 pos) (Itz b1 b2 K l1 l2) [z, TI, TO, i1, i2] z (fun i h => IsZip h z TI TO .none /\ IsPair h TI (.ref i1) (.ref i2) /\ (∃ a b, IsPair h TO a b) /\ eS b1 h i1 l1 i /\ eS b2 h i2 l2 i) where
 mem := by simp
 obj := fun i h st b hb => by
  obtain ⟨ez, eI, ⟨a, b', eO⟩, s1, s2⟩ := st
  simp only [List.mem_cons, List.not_mem_nil, or_false] at hb
  rcases hb with rfl | rfl | rfl | rfl | rfl
  ·exact ⟨_, ez, fun v q => by cases q⟩
  ·exact ⟨_, eI, fun v q => by cases q⟩
  ·exact ⟨_, eO, fun v q => by cases q⟩
  ·obtain ⟨o, e, _, fs, d⟩ := s1.get
   exact ⟨o, e, fun v q => by rw [d] at q; cases q⟩
  ·obtain ⟨o, e, _, fs, d⟩ := s2.get
   exact ⟨o, e, fun v q => by rw [d] at q; cases q⟩
 keep := fun i h h' st k => by
  obtain ⟨ez, eI, ⟨a, b', eO⟩, s1, s2⟩ := st
  exact ⟨k z (by simp) _ ez, k TI (by simp) _ eI, ⟨a, b', k TO (by simp) _ eO⟩, s1.keep fun o e => k i1 (by simp) o e, s2.keep fun o e => k i2 (by simp) o e⟩
 item := by
  intro X hP hw hK hc i pins s σ H E I hf st hg
  subst hP hw hK
  obtain ⟨xs, ys, x, y, q1, q2, hx, hy⟩ := hg
  obtain ⟨ez, eI, ⟨a, b', eO⟩, s1, s2⟩ := st
  obtain ⟨is1, r1, p1⟩ := Inv.src I q1
  obtain ⟨is2, r2, p2⟩ := Inv.src I q2
  have hd := I.ok.hd hc
  simp only [List.nodup_cons, List.mem_cons, List.not_mem_nil, or_false, not_or] at nd
  obtain ⟨⟨z1, z2, z3, z4⟩, ⟨t1, t2, t3⟩, ⟨o1, o2⟩, j1, _⟩ := nd
  have n1 : ∀ c ∈ [z, TI, TO, i1, i2], l1 ≠ c := fun c hc => Inv.src_ne I q1 (hf c hc)
  have n2 : ∀ c ∈ [z, TI, TO, i1, i2], l2 ≠ c := fun c hc => Inv.src_ne I q2 (hf c hc)
  have ap : Ap z TI TO i1 i2 [i1, l1] [i2, l2] := ⟨Ne.symm z1, Ne.symm z2, Ne.symm z3, Ne.symm z4, t1, t2, t3, o1, o2, j1, by simp [z3, (n1 z (by simp)).symm], by simp [o1, (n1 TO (by simp)).symm], by simp [Ne.symm j1, (n1 i2 (by simp)).symm], by simp [z4, (n2 z (by simp)).symm], by simp [o2, (n2 TO (by simp)).symm], by simp [j1, (n2 i1 (by simp)).symm], by simp, by simp⟩
  have k1 : i < is1.toArray.size := by
   rw [List.size_toArray, ← r1.length]; exact (List.getElem?_eq_some_iff.mp hx).1
  have k2 : i < is2.toArray.size := by
   rw [List.size_toArray, ← r2.length]; exact (List.getElem?_eq_some_iff.mp hy).1
  refine sS (fun A' h' => om b1 (h'.trans hd) i1 l1 (n1 i1 (by simp)) is1.toArray) (fun A' h' => om b2 (h'.trans hd) i2 l2 (n2 i2 (by simp)) is2.toArray) ap ez eI eO ⟨s1, p1⟩ ⟨s2, p2⟩ k1 k2 fun h' tk u v pu pv fz fO f1 f2 fT sz kp => ?_
  refine ⟨_, rfl, wpAny_letOwnedTupleGo_zip (s := { s with heap := h', toks := tk }) fz fun h'' ez'' sb => ?_⟩
  replace sb : Heap.SameBut z h' h'' := sb
  have zT : s.heap.objs.size ≠ z := Nat.ne_of_gt (Heap.lt_size ez)
  obtain ⟨u', hu, ru⟩ := r1.get hx
  obtain ⟨v', hv, rv⟩ := r2.get hy
  have eu : u = u' := by
   have : is1[i]? = some u := by simpa using pu
   rw [this] at hu; exact Option.some.inj hu
  have ev : v = v' := by
   have : is2[i]? = some v := by simpa using pv
   rw [this] at hv; exact Option.some.inj hv
  subst eu ev
  have kk : ∀ b o, b ∉ [z, TI, TO, i1, i2] -> s.heap.get? b = some o -> h''.get? b = some o := fun b o hb e => by
   simp only [List.mem_cons, List.not_mem_nil, or_false, not_or] at hb
   exact sb.extBut b o hb.1 (kp b o hb.1 hb.2.2.1 hb.2.2.2.1 hb.2.2.2.2 e)
  have I2 : Inv X pins σ (upd H s.heap.objs.size (.tup [x, y])) { s with heap := h'', toks := tk } := by
   refine Inv.turnNew I hf kk (Nat.le_refl _) ⟨by show 2 <= sizeLine; decide, [u, v], .cons ru (.cons rv .nil), _, sb.extBut _ _ zT fT, rfl, _, rfl⟩
  refine ⟨.ref s.heap.objs.size, _, I2, rfl, ⟨s.heap.objs.size, x, y, I.hok.fresh (Nat.le_refl _), rfl, rfl, fun as bs h1 h2 => ⟨by rw [Inv.src_inj I h1 q1]; exact hx, by rw [Inv.src_inj I h2 q2]; exact hy⟩⟩, ⟨ez'', ?_, ⟨u, v, ?_⟩, ?_, ?_⟩, fun b hb => ?_⟩
  ·exact sb.extBut _ _ (Ne.symm z1) (kp TI _ (Ne.symm z1) t1 t2 t3 eI)
  ·exact sb.extBut _ _ (Ne.symm z2) fO
  ·exact f1.1.keep fun o e => sb.extBut _ _ (Ne.symm z3) e
  ·exact f2.1.keep fun o e => sb.extBut _ _ (Ne.symm z4) e
  ·rw [upd_ne]
   ·exact (hf b hb).1
   ·intro q
    have ol : ∃ o, s.heap.get? b = some o := by
     simp only [List.mem_cons, List.not_mem_nil, or_false] at hb
     rcases hb with rfl | rfl | rfl | rfl | rfl
     ·exact ⟨_, ez⟩
     ·exact ⟨_, eI⟩
     ·exact ⟨_, eO⟩
     ·obtain ⟨o, e, _⟩ := s1.get; exact ⟨o, e⟩
     ·obtain ⟨o, e, _⟩ := s2.get; exact ⟨o, e⟩
    obtain ⟨o, e⟩ := ol
    exact absurd (Heap.lt_size e) (by rw [q]; exact Nat.lt_irrefl _)
 done := by
  intro X hP hw hK hc i pins s σ H E I hf st hg
  subst hP hw hK
  obtain ⟨xs, ys, q1, q2, hl⟩ := hg
  obtain ⟨ez, eI, ⟨a, b', eO⟩, s1, s2⟩ := st
  obtain ⟨is1, r1, p1⟩ := Inv.src I q1
  obtain ⟨is2, r2, p2⟩ := Inv.src I q2
  have hd := I.ok.hd hc
  simp only [List.nodup_cons, List.mem_cons, List.not_mem_nil, or_false, not_or] at nd
  obtain ⟨⟨z1, z2, z3, z4⟩, ⟨t1, t2, t3⟩, ⟨o1, o2⟩, j1, _⟩ := nd
  have n1 : ∀ c ∈ [z, TI, TO, i1, i2], l1 ≠ c := fun c hc => Inv.src_ne I q1 (hf c hc)
  have n2 : ∀ c ∈ [z, TI, TO, i1, i2], l2 ≠ c := fun c hc => Inv.src_ne I q2 (hf c hc)
  have ap : Ap z TI TO i1 i2 [i1, l1] [i2, l2] := ⟨Ne.symm z1, Ne.symm z2, Ne.symm z3, Ne.symm z4, t1, t2, t3, o1, o2, j1, by simp [z3, (n1 z (by simp)).symm], by simp [o1, (n1 TO (by simp)).symm], by simp [Ne.symm j1, (n1 i2 (by simp)).symm], by simp [z4, (n2 z (by simp)).symm], by simp [o2, (n2 TO (by simp)).symm], by simp [j1, (n2 i1 (by simp)).symm], by simp, by simp⟩
  have g1 : is1.toArray.size = xs.length := by rw [List.size_toArray, ← r1.length]
  have g2 : is2.toArray.size = ys.length := by rw [List.size_toArray, ← r2.length]
  refine uK (fun A' h' => om b1 (h'.trans hd) i1 l1 (n1 i1 (by simp)) is1.toArray) (fun A' h' => om b2 (h'.trans hd) i2 l2 (n2 i2 (by simp)) is2.toArray) ap ez eI eO ⟨s1, p1⟩ ⟨s2, p2⟩ ?_ fun h' tk kp => ⟨rfl, Inv.turnL I hf fun b o hb e => ?_⟩
  ·rw [g1, g2]
   rcases hl with hl | ⟨h1, h2⟩
   ·exact .inl hl.symm
   ·exact .inr ⟨h1, h2.symm⟩
  ·simp only [List.mem_cons, List.not_mem_nil, or_false, not_or] at hb
   exact kp b o hb.1 hb.2.2.1 hb.2.2.2.1 hb.2.2.2.2 e
 self := fun _ _ _ _ _ st h => wpAny_pyIter_zip st.1 h
section
variable {X : Cx} {E : St -> XK} {K : Frag}
def iZp (K : Frag) (ta : TA) : TI := fun σ H R => ta σ H fun vs H1 => ∃ b1 b2 l1 l2 xs ys, vs = [.ref l1, .ref l2] /\ SqS b1 K H1 l1 xs /\ SqS b2 K H1 l2 ys /\ R (Itz b1 b2 K l1 l2) H1
theorem Al {a b : Expr} {ta : TA} {p pos : Pos} {elts : List Expr} {x1} {tpos : Pos} (hg : Gl X "zip") (hm : X.mg "zip" = none) (ha : PA X [a, b] ta) (hs : starEach [a, b] X.env = [(false, eval a X.env), (false, eval b X.env)] := by rfl) (hs2 : starEach [b] X.env = [(false, eval b X.env)] := by rfl) :
  PI X (.Tuple elts x1 tpos) (.Call (.Name "zip" p) [a, b] [] pos) (iZp X.K ta) := by
 intro pins s σ H R I h
 refine Call_ (fP I hg hm PyProof.Rows.Boot.«zip» (PyProof.Rows.callWith_type1 (thn (ha pos pins s σ H _ I h) fun us s1 ⟨vs, H1, I1, r1, q1⟩ => ?_) (by rw [hs, hs2]) (by rw [hs2]; rfl)))
 obtain ⟨b1, b2, l1, l2, xs, ys, e, q1, q2, q⟩ := q1
 subst e
 cases r1 with
 | cons r rr =>
  cases rr with
  | cons r' rr =>
   cases rr
   cases r
   cases r'
   obtain ⟨is1, v1, p1⟩ := Inv.src I1 q1
   obtain ⟨is2, v2, p2⟩ := Inv.src I1 q2
   refine uE p1 p2 fun h' ez eI eO s1' s2' sz kp => ?_
   refine wpAny_pyIter_zip (s := { s1 with heap := h' }) ez ?_
   have I2 : Inv X pins σ H1 { s1 with heap := h' } := I1.kept (t' := s1.toks) kp
   refine ⟨_, [s1.heap.objs.size + 4, s1.heap.objs.size + 2, s1.heap.objs.size + 3, s1.heap.objs.size, s1.heap.objs.size + 1], _, Itz b1 b2 X.K l1 l2, H1, rfl, I2, uO b1 b2 l1 l2 (s1.heap.objs.size + 4) (s1.heap.objs.size + 2) (s1.heap.objs.size + 3) s1.heap.objs.size (s1.heap.objs.size + 1) (by simp), ⟨ez, eI, ⟨_, _, eO⟩, s1', s2'⟩, fun c hc => ?_, q⟩
   have hge : s1.heap.objs.size <= c := by
    simp only [List.mem_cons, List.not_mem_nil, or_false] at hc
    rcases hc with rfl | rfl | rfl | rfl | rfl
    ·exact Nat.le_add_right _ _
    ·exact Nat.le_add_right _ _
    ·exact Nat.le_add_right _ _
    ·exact Nat.le_refl _
    ·exact Nat.le_add_right _ _
   exact I1.fpOk hge (I1.hok.fresh hge)
def cF : List D -> List D -> List D
 | x :: xs, y :: ys => .tup [x, y] :: cF xs ys
 | _, _ => []
theorem oz : ∀ (xs ys : List D), (cF xs ys).length = min xs.length ys.length
 | [], ys => by simp [cF]
 | x :: xs, [] => by simp [cF]
 | x :: xs, y :: ys => by
  show (cF xs ys).length + 1 = _
  rw [oz xs ys, List.length_cons, List.length_cons]
  omega
theorem oA : ∀ {xs ys : List D} {i : Nat} {d : D}, (cF xs ys)[i]? = some d -> ∃ x y, xs[i]? = some x /\ ys[i]? = some y /\ d = .tup [x, y]
 | [], ys, i, d, h => by simp [cF] at h
 | x :: xs, [], i, d, h => by simp [cF] at h
 | x :: xs, y :: ys, 0, d, h => by
  simp [cF] at h
  exact ⟨x, y, rfl, rfl, h.symm⟩
 | x :: xs, y :: ys, i + 1, d, h => by
  have h' : (cF xs ys)[i]? = some d := by simpa [cF] using h
  obtain ⟨a, b, e1, e2, e3⟩ := oA h'
  exact ⟨a, b, by simpa using e1, by simpa using e2, e3⟩
def qQ : List D -> Option (List D)
 | [a, b] => (dS a).bind fun xs => (dS b).map fun ys => cF xs ys
 | _ => none
theorem Den.sqS {F : Fx} {H : Hp} {d : D} {v : V} {ds : List D} (h : Den K F H d v) (e : dS d = some ds) : ∃ b a, v = .ref a /\ ∀ F2 H2, Tr F H F2 H2 -> ∃ xs, SqS b K H2 a xs /\ DenL K F2 H2 ds xs := by
 cases d <;> first
  | (cases e; obtain ⟨a, xs, rfl, _⟩ := Den.sqL h; refine ⟨true, a, rfl, fun F2 H2 t => ?_⟩; obtain ⟨a', ys, ea, sq, dl⟩ := Den.sqL (Den.tr t _ _ h); cases ea; exact ⟨ys, sq, dl⟩)
  | (cases e; obtain ⟨a, xs, rfl, _⟩ := Den.sqT h; refine ⟨false, a, rfl, fun F2 H2 t => ?_⟩; obtain ⟨a', ys, ea, sq, dl⟩ := Den.sqT (Den.tr t _ _ h); cases ea; exact ⟨ys, sq, dl⟩)
  | cases e
theorem zi {F : Fx} {H : Hp} {b1 b2 : Bool} {l1 l2 : Addr} {ds es : List D} (h1 : ∀ F2 H2, Tr F H F2 H2 -> ∃ xs, SqS b1 K H2 l1 xs /\ DenL K F2 H2 ds xs) (h2 : ∀ F2 H2, Tr F H F2 H2 -> ∃ xs, SqS b2 K H2 l2 xs /\ DenL K F2 H2 es xs) : ItD K (Itz b1 b2 K l1 l2) F H (cF ds es) := fun F2 H2 β2 t fr i => by
 obtain ⟨xs, s1, d1⟩ := h1 F2 H2 t
 obtain ⟨ys, s2, d2⟩ := h2 F2 H2 t
 refine ⟨fun d hd => ?_, fun hi => ?_⟩
 ·obtain ⟨x, y, e1, e2, rfl⟩ := oA hd
  obtain ⟨u, hu, du⟩ := d1.get e1
  obtain ⟨v, hv, dv⟩ := d2.get e2
  refine ⟨⟨xs, ys, u, v, s1, s2, hu, hv⟩, fun z H3 hz => ?_⟩
  obtain ⟨p, u', v', hp, rfl, rfl, hh⟩ := hz
  obtain ⟨g1, g2⟩ := hh xs ys s1 s2
  rw [hu] at g1
  rw [hv] at g2
  cases g1
  cases g2
  exact ⟨bF.upd hp, Den.newT fr hp (DenL.cons du (DenL.cons dv DenL.nil))⟩
 ·rw [oz] at hi
  have e1 := d1.length
  have e2 := d2.length
  refine ⟨xs, ys, s1, s2, ?_⟩
  rw [← e1, ← e2]
  omega
def d5 (g : Dn -> M (List D)) : Dn -> M (List D) := bC qQ g
theorem rL {a b : Expr} {g : Dn -> M (List D)} {p pos : Pos} {elts : List Expr} {x1} {tpos : Pos} (hg : Gl X "zip") (hm : X.mg "zip" = none) (ha : PA X [a, b] (tVA X.K g E)) (hs : starEach [a, b] X.env = [(false, eval a X.env), (false, eval b X.env)] := by rfl) (hs2 : starEach [b] X.env = [(false, eval b X.env)] := by rfl) :
  PI X (.Tuple elts x1 tpos) (.Call (.Name "zip" p) [a, b] [] pos) (iV X.K (d5 g) E) :=
 (Al hg hm ha hs hs2).imp fun σ H R h_ => ex6 h_ fun F δ β fr vk h => ⟨F, δ, β, fr, vk, (run.bind (R := DenL X.K F) h).mono fun vs H1 h_ => by
  obtain ⟨ds, β1, t, hd, r1⟩ := h_
  obtain ⟨l, e, k⟩ := run.ofO r1
  unfold qQ at e
  split at e
  ·rename_i c d
   obtain ⟨v, w', rfl, h1, h2⟩ := DenL.two hd
   cases q1 : dS c with
   | none => rw [q1] at e; cases e
   | some xs =>
    cases q2 : dS d with
    | none => rw [q1, q2] at e; cases e
    | some ys =>
     rw [q1, q2] at e
     cases e
     obtain ⟨b1, l1, rfl, z1⟩ := Den.sqS h1 q1
     obtain ⟨b2, l2, rfl, z2⟩ := Den.sqS h2 q2
     obtain ⟨us, g1, _⟩ := z1 F H1 (Tr.refl F H1)
     obtain ⟨ws, g2, _⟩ := z2 F H1 (Tr.refl F H1)
     exact ⟨b1, b2, l1, l2, us, ws, rfl, g1, g2, k _ H1 (To.refl t.fr) (zi z1 z2)⟩
  ·cases e⟩
end
def jV (K : Frag) (f : Dn -> M Unit) (c : Nat) (E : St -> XK) : TJ := fun σ H n Q => n + c <= sizeLine /\ ∃ F δ β, Fr F H β /\ VOk K F H δ σ /\ run (fun _ (_ : Unit) (m : Nat) => m <= n + c) F E σ (f δ) H Q β
theorem _root_.L2.PJ.imp {X : Cx} {es : List Expr} {t t' : TJ} (h : PJ X es t) (f : ∀ σ H n Q, t' σ H n Q -> t σ H n Q) : PJ X es t' := fun pins s σ H acc Q I hz hq => h pins s σ H acc Q I hz (f σ H _ _ hq)
def dm : Dn -> M Unit := fun _ => M.ret ()
def bZ (f : Dn -> M D) (g : Dn -> M Unit) : Dn -> M Unit := fun δ => M.bind (f δ) fun d => match d with
 | .int i => if i.natAbs.log2 < 1920 then g δ else M.fail
 | _ => M.fail
section
variable {X : Cx} {E : St -> XK} {es : List Expr} {K : Frag}
theorem iI : PJ X [] (jV X.K dm 0 E) := Aj.imp fun σ H n Q h_ => by obtain ⟨_, F, δ, β, fr, vk, r⟩ := h_; exact run.ret fr r (Nat.le_refl _)
theorem dJ {x : Str} {j : Nat} {p : Pos} {g : Dn -> M Unit} {c : Nat} (h : PJ X es (jV X.K g c E)) (he : evalEach (.Constant (.str x) j p :: es) X.env = eval (.Constant (.str x) j p) X.env :: evalEach es X.env := by rfl) : PJ X (.Constant (.str x) j p :: es) (jV X.K g (x.length + c) E) :=
 (Ai h he).imp fun σ H n Q h_ => by
  obtain ⟨hz, F, δ, β, fr, vk, r, β', e, k⟩ := h_
  exact ⟨by omega, by omega, F, δ, β, fr, vk, r, β', e, by
   cases r with
   | ok u => exact fun m H' t hm => k m H' t (by omega)
   | error C => exact k⟩
theorem fA {v : Expr} {p : Pos} {f : Dn -> M D} {g : Dn -> M Unit} {c : Nat} (hv : PE X v (tV X.K f E)) (h : PJ X es (jV X.K g c E)) (he : evalEach (.FormattedValue v (-1) none p :: es) X.env = eval (.FormattedValue v (-1) none p) X.env :: evalEach es X.env := by rfl) : PJ X (.FormattedValue v (-1) none p :: es) (jV X.K (bZ f g) (1921 + c) E) :=
 (Ak hv h he).imp fun σ H n Q ⟨hz, F, δ, β, fr, vk, r⟩ => ⟨F, δ, β, fr, vk, (run.bind (R := Den X.K F) r).mono fun v H1 h_ => by
  obtain ⟨d, β1, t, hd, r1⟩ := h_
  cases d with
  | int i =>
   by_cases q : i.natAbs.log2 < 1920
   ·simp only [if_pos q] at r1
    refine ⟨i, hd, q, by omega, fun m hm => ⟨by omega, F, δ, β1, t.fr, vk.tr (t.tr fr), ?_⟩⟩
    obtain ⟨rr, β', e, k⟩ := r1
    refine ⟨rr, β', e, ?_⟩
    cases rr with
    | ok u => exact fun m' H' t' hm' => k m' H' t' (by omega)
    | error C => exact k
   ·simp only [if_neg q] at r1
    obtain ⟨rr, β', e, k⟩ := r1
    cases e
  | _ => obtain ⟨rr, β', e, k⟩ := r1; cases e⟩
def cD (f : Dn -> M Unit) : Dn -> M D := fun δ => M.bind (f δ) fun _ => M.ret .txt
theorem gs {v1 v2 : Expr} {rest : List Expr} {pos : Pos} {f : Dn -> M Unit} {c : Nat} (h : PJ X (v1 :: v2 :: rest) (jV X.K f c E)) (hc : c <= sizeLine) : PE X (.JoinedStr (v1 :: v2 :: rest) pos) (tV X.K (cD f) E) :=
 (yO h).imp fun σ H Q h_ => ex6 h_ fun F δ β fr vk r => ⟨by omega, F, δ, β, fr, vk, (run.bind (R := fun _ (_ : Unit) (m : Nat) => m <= 0 + c) r).mono fun m H1 h_ => ex5 h_ fun d β1 t hd r1 => ⟨by omega, fun z hz => run.ret t.fr r1 ⟨z, rfl⟩⟩⟩
def kS (C : Addr) (n : Nat) : Sp := fun vs H Q _ => ∃ (x : Addr) (rest : List V), vs = .ref x :: rest /\ rest.length = n /\ H x = some (cY C x none) /\
 ∀ (dx : Option Addr) (H' : Hp), H' x = some (cY C x dx) -> (∀ b o, H b = some o -> b ≠ x -> H' b = some o) -> Q .non H'
def bJ (C : Addr) (f : Dn -> M (List D)) : G := fun δ β => match f (vwA δ) β with
 | some (.ok _, β1) => some (.ex C δ, β1)
 | some (.error C', β1) => some (.ex C' δ, β1)
 | none => none
end
section
variable {P : Program} {w : World} {K : Frag} {mg : Str -> Option Value} {base : Heap} {N : List Str} {qual : Str} {scope : Scope} {f : Addr} {cd : Value} {A : Around} {outer : List Env} {s : Shared} {H : Hp} {E : XK}
theorem eh {e : Expr} {pos : Pos} {C : Addr} {n : Nat} {g : Dn -> M (List D)} {E' : St -> XK} (xc : XC K C) (hn : ∀ δ β r β', g δ β = some (.ok r, β') -> r.length = n) (hz : n <= sizeLine)
  (h : PS (cN (CXE P w) P w K mg base N qual scope f cd A outer s H E) (.Raise (some e) none pos) (tm H K E (zS C (kS C n) [] E' (tVA K g (fun _ => E))))) :
  PS (cN (CXE P w) P w K mg base N qual scope f cd A outer s H E) (.Raise (some e) none pos) (tG K H (bJ C g) (fun _ => E)) := h.imp fun D σ H1 h_ => by
 obtain ⟨B, bg, δ, β, o, β', ok, e, q⟩ := h_
 refine ⟨FxA B bg, vwA δ, β, ok.frA, ok.viewA, ?_⟩
 unfold bJ at e
 split at e
 ·rename_i ds β1 e1
  cases e
  refine ⟨.ok ds, _, e1, fun vs H2 t hd => ?_⟩
  obtain ⟨ok2, s2⟩ := ok.to rfl t
  have hl : vs.length = n := by rw [← hd.length]; exact hn _ _ _ _ e1
  refine ⟨by rw [hl]; exact hz, fun x hx => ⟨x, vs ++ [], rfl, by rw [List.append_nil]; exact hl, ax, fun dx H' h1 h2 => ⟨rfl, x, C, dx, rfl, h1, ?_, xc, ?_⟩⟩⟩
  ·cases q0 : H x with
   | none => rfl
   | some o => exact absurd hx (ok2.cov x (by rw [q0]; simp))
  ·have sm : ∀ b o, H2 b = some o -> d7 H' x b = some o := fun b o eb => by
    have hb : b ≠ x := ne_of_none eb hx
    rw [gl hb]
    exact h2 b o (by rw [upd_ne hb]; exact eb) hb
   obtain ⟨ok3, s3⟩ := ok2.to rfl (ok2.fr.same sm)
   exact q σ B _ (s2.trans s3) ok3
 ·rename_i C' β1 e1
  cases e
  refine ⟨.error C', _, e1, fun H' t => ?_⟩
  obtain ⟨ok2, s2⟩ := ok.to rfl t
  exact q _ B H' s2 ok2
 ·cases e
end
section
variable {X : Cx} {E : St -> XK} {K : Frag}
abbrev Gh := Addr -> G
def hNo : Gh := fun _ _ _ => none
def mw (K : Frag) (Dc : Addr) (g : G) (r : Gh) : Gh := fun C δ β => match PySem.W.exmOne K (.ref C) (.ref Dc) with
 | some true => g δ β
 | some false => r C δ β
 | none => none
def mC (g : G) (h : Gh) : G := fun δ β => match g δ β with
 | some (.ex C δ1, β1) => h C δ1 β1
 | r => r
end
section
variable {X : Cx} {E : St -> XK} {K : Frag} {elt target iter : Expr} {ifs : List Expr} {rest : List Comprehension} {scope : Scope} {pos : Pos} {Nc vars : List Str} {caps : List Nat} {g : TG} {tb : Addr -> TB}
theorem cx : fZ X [] (tVT X.K (fun _ => M.ret true) E0) := fun pins s σ H Q I h_ => by obtain ⟨F, δ, β, fr, vk, r⟩ := h_; exact o4 pins s σ H Q I (run.ret fr r rfl)
theorem yh {c : Expr} {t : Dn -> M Bool} (hc : PT X c (tVT X.K t E0)) : fZ X [c] (tVT X.K t E0) := u9 hc
theorem cI {it : Dn -> M (List D)} {tg : TgF} {tt : Dn -> M Bool} {b : Dn -> M (List D)} (hc : X.calm = true) (S : CmpScope X scope Nc vars caps) (hi : PI X target iter (iV X.K it E))
  (hb : ∀ (cl : List (Str × Addr)) (C : Addr) (fp : List Addr) (s : Shared) (H : Hp), PG (bw X Nc scope cl C fp s H) target g /\ fZ (bw X Nc scope cl C fp s H) ifs (tVT X.K tt E0) /\ ∀ D, PB (bw X Nc scope cl C fp s H) elt (⟨target, iter, ifs, 0⟩ :: rest) scope pos 0 D (tb D))
  (lg : eU X.K g tg) (sg : gF tg) (lb : ∀ D, iX X.K D (tb D) b) (hs : ∀ x, foldedSetIterable iter X.env x = pure x := by intro _; rfl) : PE X (.ListComp elt (⟨target, iter, ifs, 0⟩ :: rest) scope pos) (tV X.K (aU vars.length caps it tg tt b) E) :=
 (qq hc S hi hb hs).imp fun σ H Q h => oI lg sg lb h
theorem z0 {it : Dn -> M (List D)} {tg : TgF} {tt : Dn -> M Bool} {b : Dn -> M (List D)} {i : Nat} {x : Str} {pos' spos : Pos} (hN : X.N.Nodup) (hi' : X.N[i]? = some x) (hx : Loc X.env.scope x) (hc : X.calm = true) (S : CmpScope X scope Nc vars caps) (hi : PI X target iter (iV X.K it E))
  (hb : ∀ (cl : List (Str × Addr)) (C : Addr) (fp : List Addr) (s : Shared) (H : Hp), PG (bw X Nc scope cl C fp s H) target g /\ fZ (bw X Nc scope cl C fp s H) ifs (tVT X.K tt E0) /\ ∀ D, PB (bw X Nc scope cl C fp s H) elt (⟨target, iter, ifs, 0⟩ :: rest) scope pos 0 D (tb D))
  (lg : eU X.K g tg) (sg : gF tg) (lb : ∀ D, iX X.K D (tb D) b)
  (hsw : swapsWith (.ListComp elt (⟨target, iter, ifs, 0⟩ :: rest) scope pos) (some (.Name x pos')) spos.line X.env = pure true := by rfl)
  (hs : ∀ x, foldedSetIterable iter X.env x = pure x := by intro _; rfl) (hf : X.fn x = true \/ X.env.scope.names.lookup x = some .local := by first | exact .inl rfl | exact .inr rfl | assumption) :
  PS X (.Assign [.Name x pos'] (.ListComp elt (⟨target, iter, ifs, 0⟩ :: rest) scope pos) spos) (tG X.K X.H₀ (aI i (aU vars.length caps it tg tt b)) E) :=
 aM ((qo hN hi' hx hc S hi hb hsw hs hf).imp fun D σ H h => oI lg sg lb h)
def mn : D -> Option D
 | .int i => some (.int (-i))
 | _ => none
end
def Bg.ok (β : Bg) : Prop := β.cells ≠ [] /\ β.cells.length <= 64 /\ (∀ c ∈ β.cells, 0 <= c) /\ 0 <= β.j
def Bg.pos (β : Bg) : Nat := (β.i % (β.cells.length : Int)).toNat
def Bg.cell (β : Bg) : Int := β.cells.getD β.pos 0
def Bg.nxt (β : Bg) : Int := (β.j + β.cell % 2147483629 + 77) * 48271 % 2147483629
def gN (β : Bg) (lot : Int) : Int := if 10 ^ 18 <= β.cell then β.cell % lot else β.nxt / 64 % lot
def iC (β : Bg) (lot : Int) : Bg := if 10 ^ 18 <= β.cell then ⟨β.cells.set β.pos (β.cell / lot), β.i, β.j⟩ else ⟨β.cells, β.i + 1, β.nxt⟩
open Classical in
noncomputable def dk : List D -> M D := fun ds β => match ds with
 | [.bag, .int lot] => if β.ok /\ 0 < lot /\ lot < 1073741824 then some (Except.ok (D.int (gN β lot)), iC β lot) else none
 | _ => none
theorem vp {β : Bg} {lot : Int} (h : β.ok) (h0 : 0 < lot) (h1 : lot < 1073741824) : dk [.bag, .int lot] β = some (.ok (.int (gN β lot)), iC β lot) := by
 unfold dk
 exact if_pos ⟨h, h0, h1⟩
theorem uc {ds : List D} {β : Bg} {r : Except Addr D} {β' : Bg} (h : dk ds β = some (r, β')) : ∃ lot, ds = [.bag, .int lot] /\ β.ok /\ 0 < lot /\ lot < 1073741824 /\ r = .ok (.int (gN β lot)) /\ β' = iC β lot := by
 unfold dk at h
 split at h
 ·split at h
  ·rename_i lot q
   cases h
   exact ⟨lot, rfl, q.1, q.2.1, q.2.2, rfl, rfl⟩
  ·cases h
 ·cases h
theorem Bg.ok.at {β : Bg} (h : β.ok) : β.pos < β.cells.length /\ β.cells[β.pos]? = some β.cell /\ 0 <= β.cell /\ β.i % (β.cells.length : Int) = (β.pos : Int) := by
 obtain ⟨c1, c2, c3, c4⟩ := id h
 have hp : 0 < β.cells.length := List.length_pos_iff.mpr c1
 have a1 : 0 <= β.i % (β.cells.length : Int) := Int.emod_nonneg _ (by omega)
 have a2 : β.i % (β.cells.length : Int) < β.cells.length := Int.emod_lt_of_pos _ (by omega)
 have hk : β.pos < β.cells.length := by unfold Bg.pos; omega
 have e : β.cell = β.cells[β.pos] := by
  unfold Bg.cell
  rw [List.getD_eq_getElem?_getD, List.getElem?_eq_getElem hk]; rfl
 refine ⟨hk, by rw [e]; exact List.getElem?_eq_getElem hk, by rw [e]; exact c3 _ (List.getElem_mem hk), ?_⟩
 unfold Bg.pos; omega
theorem ql {β : Bg} {lot : Int} (h : β.ok) (h0 : 0 < lot) : 0 <= gN β lot /\ gN β lot < lot /\ (iC β lot).ok := by
 obtain ⟨hk, _, hc, _⟩ := h.at
 obtain ⟨c1, c2, c3, c4⟩ := id h
 unfold gN iC
 split
 ·refine ⟨Int.emod_nonneg _ (by omega), Int.emod_lt_of_pos _ h0, ?_, by rw [List.length_set]; exact c2, fun c hc' => ?_, c4⟩
  ·intro z
   have := congrArg List.length z
   rw [List.length_set] at this
   exact c1 (List.length_eq_zero_iff.mp this)
  ·rcases List.mem_or_eq_of_mem_set hc' with hc' | rfl
   ·exact c3 c hc'
   ·exact Int.ediv_nonneg hc (by omega)
 ·exact ⟨Int.emod_nonneg _ (by omega), Int.emod_lt_of_pos _ h0, c1, c2, c3, Int.emod_nonneg _ (by decide)⟩
end L2.Pu
namespace L2
open PySem PySem.Spec PyProof.Rows
end L2
namespace L2.Pu
open PySem PySem.Spec PyProof.Rows
section
variable {X : Cx} {E : St -> XK} {K : Frag}
def gd (K : Frag) (mg : Str -> Option Value) (x : Str) (d : D) : Prop := ∃ u v, mg x = some u /\ aN v u /\ ∀ F H, Den K F H d v
theorem gr {x : Str} {d : D} {pos : Pos} (c : gd X.K X.mg x d) (hg : Gl X x := by rfl) (hd : (x == ("__debug__" : Str)) = false := by decide) : PE X (.Name x pos) (tV X.K (fC d) E) := by
 obtain ⟨u, v, h1, h2, h3⟩ := c
 exact v_c (yN hg h1 h2 hd) h3
theorem gh {x : Str} {d : D} {pos : Pos} (c : gd X.K X.mg x d) (hg : Gl X x := by rfl) (hd : (x == ("__debug__" : Str)) = false := by decide) : PE X (.Name x pos) (tV X.K (fC d) E) := gr c hg hd
mutual
def toP : D -> Option PyData
 | .non => some .none
 | .bl b => some (.bool b)
 | .int i => some (.int i)
 | .str x => some (.str x)
 | .lst xs => (toPs xs).map PyData.list
 | .tup xs => (toPs xs).map PyData.tuple
 | _ => none
def toPs : List D -> Option (List PyData)
 | [] => some []
 | x :: xs => match toP x, toPs xs with
  | some p, some ps => some (p :: ps)
  | _, _ => none
end
mutual
theorem ia {F : Fx} {pins : List (Addr × Obj)} {σ : St} {H : Hp} {s : Shared} (I : Inv X pins σ H s) : ∀ (d : D) (v : V) (u : Value) (p : PyData), Den X.K F H d v -> toP d = some p -> aN v u -> ∃ as, Reads s.heap u p as
 | .non, v, u, p, h, e, r => by cases e; cases h.non; cases r; exact ⟨_, .none⟩
 | .bl b, v, u, p, h, e, r => by cases e; cases h.bl; cases r; exact ⟨_, .bool b⟩
 | .int i, v, u, p, h, e, r => by cases e; cases h.int; obtain ⟨t, rfl⟩ := r; exact ⟨_, .int i t⟩
 | .str x, v, u, p, h, e, r => by cases e; cases h.str; obtain ⟨t, rfl⟩ := r; exact ⟨_, .str x t⟩
 | .lst xs, v, u, p, h, e, r => by
  unfold toP at e
  cases q : toPs xs with
  | none => rw [q] at e; cases e
  | some ps =>
   rw [q] at e; cases e
   obtain ⟨a, ys, rfl, sq, dl⟩ := Den.sqL h
   cases r
   obtain ⟨its, rv, pl, _⟩ := I.list sq
   obtain ⟨as, ra⟩ := reads_L I xs ys its ps dl q rv
   obtain ⟨o, ho, hc, n, hd⟩ := pl.isList
   exact ⟨_, .list ho hc hd (by simpa using ra)⟩
 | .tup xs, v, u, p, h, e, r => by
  unfold toP at e
  cases q : toPs xs with
  | none => rw [q] at e; cases e
  | some ps =>
   rw [q] at e; cases e
   obtain ⟨a, ys, rfl, sq, dl⟩ := Den.sqT h
   cases r
   obtain ⟨its, rv, pl, _⟩ := I.tuple sq
   obtain ⟨as, ra⟩ := reads_L I xs ys its ps dl q rv
   obtain ⟨o, ho, hc, n, hd⟩ := pl
   exact ⟨_, .tuple ho hc hd (by simpa using ra)⟩
 | .ty _, _, _, _, _, e, _ => by cases e
 | .txt, _, _, _, _, e, _ => by cases e
 | .scr _, _, _, _, _, e, _ => by cases e
 | .obj _ _ _, _, _, _, _, e, _ => by cases e
 | .bag, _, _, _, _, e, _ => by cases e
 | .adr _, _, _, _, _, e, _ => by cases e
theorem reads_L {F : Fx} {pins : List (Addr × Obj)} {σ : St} {H : Hp} {s : Shared} (I : Inv X pins σ H s) : ∀ (ds : List D) (vs : List V) (us : List Value) (ps : List PyData), DenL X.K F H ds vs -> toPs ds = some ps -> ar vs us -> ∃ as, ReadsAll s.heap us ps as
 | [], vs, us, ps, h, e, r => by
  have q : vs = [] := h
  subst q
  cases e
  cases r
  exact ⟨_, .nil⟩
 | d :: ds, vs, us, ps, h, e, r => by
  obtain ⟨x, xr, rfl, h1, h2⟩ := h
  unfold toPs at e
  split at e
  ·rename_i p pr e1 e2
   cases e
   cases r with
   | cons r1 r2 =>
    obtain ⟨as, z1⟩ := ia I d x _ p h1 e1 r1
    obtain ⟨bs, z2⟩ := reads_L I ds xr _ pr h2 e2 r2
    exact ⟨_, .cons z1 z2⟩
  ·cases e
end
def iW (a b : D) : Option Bool := match toP a, toP b with
 | some p, some q => if (SeqAt.shaped p && SeqAt.shaped q) = true then some (PyData.eqv p q) else none
 | _, _ => none
def cM (a b : D) : Option D := match eqS a b with
 | some c => some (.bl c)
 | none => (iW a b).map D.bl
def bY (a b : D) : Option D := match eqS a b with
 | some c => some (.bl (!c))
 | none => (iW a b).map fun c => D.bl (!c)
def l8 (X : Cx) (g : Bool -> Bool) : R2 := fun x y H Q => ∃ (F : Fx) (a b : D) (c : Bool), Den X.K F H a x /\ Den X.K F H b y /\ iW a b = some c /\ Q (.bl (g c)) H
theorem np {a b : D} {c : Bool} (h : iW a b = some c) : ∃ p q, toP a = some p /\ toP b = some q /\ SeqAt.shaped p = true /\ SeqAt.shaped q = true /\ c = PyData.eqv p q := by
 unfold iW at h
 split at h
 ·rename_i p q e1 e2
  split at h
  ·rename_i hs
   rw [Bool.and_eq_true] at hs
   cases h
   exact ⟨p, q, e1, e2, hs.1, hs.2, rfl⟩
  ·cases h
 ·cases h
theorem Ay {k : Nat} (hr : Room k X.A) : OpR X (compareOp .Eq) (l8 X id) := by
 intro pins s σ H x y v u Q I rx ry h
 obtain ⟨F, a, b, c, d1, d2, e, q⟩ := h
 obtain ⟨p, p', e1, e2, s1, s2, rfl⟩ := np e
 obtain ⟨as, r1⟩ := ia I a x v p d1 e1 rx
 obtain ⟨bs, r2⟩ := ia I b y u p' d2 e2 ry
 exact eq_dataH r1 r2 s1 s2 hr.units ⟨.bl _, H, I, rfl, q⟩
theorem Aw {k : Nat} (hr : Room k X.A) : OpR X (compareOp .NotEq) (l8 X not) := by
 intro pins s σ H x y v u Q I rx ry h
 obtain ⟨F, a, b, c, d1, d2, e, q⟩ := h
 obtain ⟨p, p', e1, e2, s1, s2, rfl⟩ := np e
 obtain ⟨as, r1⟩ := ia I a x v p d1 e1 rx
 obtain ⟨bs, r2⟩ := ia I b y u p' d2 e2 ry
 exact ne_dataH r1 r2 s1 s2 hr.units ⟨.bl _, H, I, rfl, q⟩
theorem fM {k : Nat} (hr : Room k X.A) : OpR X (compareOp .Eq) (fun x y H Q => rEq x y H Q \/ l8 X id x y H Q) := Cw.or (Ay hr)
theorem eD {k : Nat} (hr : Room k X.A) : OpR X (compareOp .NotEq) (fun x y H Q => rNe x y H Q \/ l8 X not x y H Q) := Cu.or (Aw hr)
theorem gR : bh X.K (fun x y H Q => rEq x y H Q \/ l8 X id x y H Q) cM := fun F H β Q d1 d2 d v1 v2 fr h1 h2 e k => by
 unfold cM at e
 split at e
 ·rename_i c q
  cases e
  obtain ⟨s1, s2⟩ := uy q h1 h2
  exact .inl ⟨s1, by rw [s2]; exact k _ H (To.refl fr) rfl⟩
 ·cases q : iW d1 d2 with
  | none => rw [q] at e; cases e
  | some c => rw [q] at e; cases e; exact .inr ⟨F, d1, d2, c, h1, h2, q, k _ H (To.refl fr) rfl⟩
theorem f9 : bh X.K (fun x y H Q => rNe x y H Q \/ l8 X not x y H Q) bY := fun F H β Q d1 d2 d v1 v2 fr h1 h2 e k => by
 unfold bY at e
 split at e
 ·rename_i c q
  cases e
  obtain ⟨s1, s2⟩ := uy q h1 h2
  exact .inl ⟨s1, by rw [s2]; exact k _ H (To.refl fr) rfl⟩
 ·cases q : iW d1 d2 with
  | none => rw [q] at e; cases e
  | some c => rw [q] at e; cases e; exact .inr ⟨F, d1, d2, c, h1, h2, q, k _ H (To.refl fr) rfl⟩
theorem iU (i j : Int) : cM (.int i) (.int j) = some (.bl (decide (i = j))) := rfl
theorem iT (i j : Int) : bY (.int i) (.int j) = some (.bl (!decide (i = j))) := rfl
theorem j8 (i j : Bool) : cM (.bl i) (.bl j) = some (.bl (decide (i = j))) := rfl
theorem j6 (i j : Bool) : bY (.bl i) (.bl j) = some (.bl (!decide (i = j))) := rfl
theorem j7 (i j : Str) : cM (.str i) (.str j) = some (.bl (decide (i = j))) := rfl
theorem j5 (i j : Str) : bY (.str i) (.str j) = some (.bl (!decide (i = j))) := rfl
mutual
theorem pG : ∀ p : PyData, p.canLay0 = true -> PyData.eqv p p = true
 | .none, _ => rfl
 | .bool b, _ => by simp [PyData.eqv]
 | .int b, _ => by simp [PyData.eqv]
 | .str b, _ => by simp [PyData.eqv]
 | .list xs, h => by
  unfold PyData.eqv
  exact eqv_reflL xs (by simpa [PyData.canLay0] using h)
 | .tuple xs, h => by
  unfold PyData.eqv
  exact eqv_reflL xs (by simpa [PyData.canLay0] using h)
 | .dict _, h => by simp [PyData.canLay0] at h
theorem eqv_reflL : ∀ ps : List PyData, PyData.canLayAll0 ps = true -> PyData.eqvAll ps ps = true
 | [], _ => rfl
 | p :: ps, h => by
  have h' : p.canLay0 = true /\ PyData.canLayAll0 ps = true := by simpa [PyData.canLayAll0] using h
  unfold PyData.eqvAll
  rw [pG p h'.1, eqv_reflL ps h'.2]; rfl
end
def lO (d : D) : Bool := match toP d with
 | some p => SeqAt.shaped p
 | none => false
theorem uD {d : D} (h : lO d = true) : iW d d = some true := by
 unfold lO at h
 unfold iW
 cases q : toP d with
 | none => rw [q] at h; cases h
 | some p =>
  rw [q] at h
  simp only [h, Bool.and_self, if_true]
  rw [pG p (SeqAt.canLay_of_shaped h)]
theorem vR {d : D} {c : Bool} (h : eqS d d = some c) : c = true := by
 cases d <;> first | (cases h; simp) | (cases h; rfl) | cases h
theorem qv {d : D} (h : lO d = true) : bY d d = some (.bl false) := by
 unfold bY
 cases q : eqS d d with
 | none => simp only [uD h]; rfl
 | some c => rw [vR q]; rfl
theorem x8 {C : Int -> Int -> Prop} {c : Int -> Int -> Bool} {g : Int -> Int -> Int} (hc : ∀ i j, c i j = true -> C i j) : bh K (ipC C g) (opI fun i j => if c i j = true then some (.int (g i j)) else none) := fun F H β Q d1 d2 d v1 v2 fr h1 h2 e k => by
 obtain ⟨i, j, rfl, rfl, e2⟩ := iF e
 split at e2
 ·cases e2
  exact ⟨i, j, h1, h2, hc _ _ (by assumption), k _ H (To.refl fr) rfl⟩
 ·cases e2
def addI : D -> D -> Option D := opI fun i j => some (.int (i + j))
theorem mv : PIp X .Mult (ipC ow fun i j => i * j) := by
 intro pins s σ H x y v u Q I rx ry h
 obtain ⟨i, j, rfl, rfl, c, q⟩ := h
 obtain ⟨t, rfl⟩ := rx
 obtain ⟨t', rfl⟩ := ry
 exact imul_int ⟨.int _, H, I.tok _, ⟨_, rfl⟩, q⟩ (IntMulOk.of_bits (gU c.1) (gU c.2))
theorem mr : bh K (ipC ow fun i j => i * j) bb := x8 fun i j h => by
 simp only [Bool.and_eq_true, fE, decide_eq_true_eq] at h
 exact h
theorem vB : bh K (ipC ox fun i j => i / j) eM := x8 fun i j h => by
 simp only [Bool.and_eq_true, decide_eq_true_eq] at h
 exact h
abbrev cn := uR
theorem bH (hc : X.calm = true) : cZ X (.builtin "sum") (fun xs H Q => ∃ (a : Addr) (ns : List Int), xs = [.ref a] /\ SqL X.K H a (ns.map V.int) /\ Q (.int ns.sum) H) := nq hc
theorem c7 : dN K (fun xs H Q => ∃ (a : Addr) (ns : List Int), xs = [.ref a] /\ SqL K H a (ns.map V.int) /\ Q (.int ns.sum) H) cn := CB
def yo (H : Hp) (b l : Addr) : Prop := ∃ (cells : List Int) (i j : Int), H b = some (.lst [.ref l, .int i, .int j]) /\ H l = some (.lst (cells.map V.int)) /\ cells ≠ [] /\ cells.length <= 64 /\ (∀ c ∈ cells, 0 <= c) /\ 0 <= j
theorem zh {n k : Nat} (h : k < n) : ixN n (k : Int) = some k := by
 unfold ixN
 rw [if_pos (by omega), if_pos (by omega)]
 simp
theorem CS (ns : List Int) : ∃ ms : List Int, mP (ns.map V.int) none (some 63) = ms.map V.int /\ ms.length <= 63 := by
 refine ⟨(ns.drop (HT.sIx ns.length 0 none)).take (HT.sIx ns.length ns.length (some 63) - HT.sIx ns.length 0 none), ?_, ?_⟩
 ·unfold mP
  rw [List.length_map, List.map_take, List.map_drop]
 ·rw [List.length_take]
  have : HT.sIx ns.length ns.length (some 63) <= 63 := by
   unfold HT.sIx
   simp
   omega
  omega
def Cp (K : Frag) : Sp := fun vs H Q _ => ∃ (a : Addr) (ns : List Int), vs = [.ref a] /\ SqL K H a (ns.map V.int) /\ ∀ (b l : Addr) (H' : Hp), H b = none -> H l = none -> yo H' b l -> bF H H' -> Q (.ref b) H'
def xM (K : Frag) : Sp := fun vs H Q _ => ∃ (a : Addr) (ns : List Int), vs = [.ref a] /\ SqL K H a (ns.map V.int) /\ ns.length <= 63 /\ ∀ H', Q (.bl true) H'
theorem zy {H₀ H : Hp} {b l : Addr} {a : Addr} {n : Nat} (sm : bF H₀ H) (hb : H₀ b = none) (hl : H₀ l = none) (B : yo H b l) : ∃ β, β.ok /\ SOk K H₀ (fun c => if c = b \/ c = l then some 1 else none) (some (b, l)) H (none :: some (.sh .bag) :: List.replicate n none) β (some (.ref a) :: some (.ref b) :: List.replicate n none) := by
 obtain ⟨cells, i, j, e1, e2, h1, h2, h3, h4⟩ := B
 have nbl : b ≠ l := CA e1 e2 (by
  intro z
  cases cells with
  | nil => exact h1 rfl
  | cons c r => simp at z)
 refine ⟨⟨cells, i, j⟩, ⟨h1, h2, h3, h4⟩, ⟨⟨fun c hc => ?_, fun b' l' e => ?_, fun b' l' e => ?_⟩, fun b' l' e => ?_, by simp, fun c hc => ?_, fun c k hc => (by
  have hc' : (if c = b \/ c = l then some 1 else none) = some (k + 2) := hc
  split at hc' <;> cases hc'), fun c k hc => (by
  have hc' : (if c = b \/ c = l then some 1 else none) = some (k + 2) := hc
  split at hc' <;> cases hc'), fun k s e => ?_⟩⟩
 ·have hc' : (if c = b \/ c = l then some 1 else none) ≠ (none : Option Nat) := hc
  split at hc'
  ·rename_i q
   rcases q with rfl | rfl
   ·rw [e1]; simp
   ·rw [e2]; simp
  ·exact absurd rfl hc'
 ·cases e
  refine ⟨?_, ?_, nbl⟩
  ·show (if b = b \/ b = l then some 1 else none) ≠ (none : Option Nat)
   rw [if_pos (.inl rfl)]; simp
  ·show (if l = b \/ l = l then some 1 else none) ≠ (none : Option Nat)
   rw [if_pos (.inr rfl)]; simp
 ·cases e
  exact ⟨e1, e2⟩
 ·cases e
  exact ⟨if_pos (.inl rfl), if_pos (.inr rfl)⟩
 ·cases q : H₀ c with
  | none => exact absurd q hc
  | some o => rw [sm c o q]; simp
 ·match k with
  | 0 => simp at e
  | 1 =>
   simp at e
   subst e
   exact ⟨.ref b, rfl, b, l, rfl, rfl⟩
  | k + 2 =>
   simp only [List.getElem?_cons_succ, List.getElem?_replicate] at e
   split at e <;> cases e
end
section
variable {P : Program} {w : World} {K : Frag} {mg : Str -> Option Value} {base : Heap}
theorem bu {x qual : Str} {st : Stmt} {f : Addr} {fd : FuncData} {N ps : List Str} {k : Nat} (n m : Nat) (g : G) (F : FunD K x qual st f fd) (S : FnScope N ps (aj st)) (hn : ps.length = n) (hm : N.length = m)
  (hbody : ∀ (cdv : Value) (A : Around) (outer : List Env) (s : Shared) (H : Hp) (E : XK), Room k (A.deeper (envOfC qual (aj st) s.heap.objs.size f cdv)) ->
   PSs (cN (CXE P w) P w K mg base N qual (aj st) f cdv A outer s H E) (cg st) (tG K H g (fun _ => E))) : FnOk P w K mg base (CXE P w) (k + 1) f fd ps (spF K n (aJ m g)) := by
 subst hn hm
 exact zp F S hbody
end
end L2.Pu
namespace L2
open PySem PySem.Spec PyProof.Rows
theorem CmpScope.ofB {X : Cx} {scope : Scope} {Nc vars : List Str} {caps : List Nat} (k : scope.kind = .function) (nd : (scope.names.map (·.1)).Nodup)
  (fr : (scope.names.all fun y => y.2 != .free || (X.env.scope.names.lookup y.1 == some .cell || X.env.scope.names.lookup y.1 == some .free)) = true) (nm : Nc = vars ++ caps.map (fun j => X.N.getD j Str.empty))
  (cp : (caps.all fun j => decide (j < X.N.length) && scope.names.lookup (X.N.getD j Str.empty) == some .free) = true) : CmpScope X scope Nc vars caps := by
 refine ⟨k, nd, fun y hy e => ?_, nm, fun j hj => ?_⟩
 ·have := List.all_eq_true.mp fr y hy
  rw [e] at this
  simp only [bne_self_eq_false, Bool.false_or, Bool.or_eq_true, beq_iff_eq] at this
  exact this
 ·have := List.all_eq_true.mp cp j hj
  simp only [Bool.and_eq_true, decide_eq_true_eq, beq_iff_eq] at this
  exact this
end L2
namespace L2.Pu
theorem j9 (i j : Int) : eR (.int i) (.int j) = some (.int (i + j)) := rfl
theorem im (i j : Int) : addI (.int i) (.int j) = some (.int (i + j)) := rfl
theorem j4 (i j : Int) : kl (.int i) (.int j) = some (.int (i - j)) := rfl
theorem gc (i j : Int) : ku (.int i) (.int j) = if decide (0 < j) = true then some (.int (i % j)) else none := rfl
theorem mK (i j : Int) : ltD (.int i) (.int j) = some (.bl (decide (i < j))) := rfl
theorem mL (i j : Int) : leD (.int i) (.int j) = some (.bl (decide (i <= j))) := rfl
theorem gZ (i j : Int) : gtD (.int i) (.int j) = some (.bl (decide (j < i))) := rfl
theorem mM (i j : Int) : geD (.int i) (.int j) = some (.bl (decide (j <= i))) := rfl
end L2.Pu
namespace L2.Pu
open PySem PySem.Spec
def okD : Nat -> D -> Prop
 | _, .int _ => True
 | _, .bl _ => True
 | _, .str _ => True
 | _, .non => True
 | n + 1, .lst xs => xs.length <= sizeLine /\ ∀ x ∈ xs, okD n x
 | n + 1, .tup xs => xs.length <= sizeLine /\ ∀ x ∈ xs, okD n x
 | _, _ => False
noncomputable def gT (rec : List D -> M D) : G :=
  ai (gIf (dB (ao dY (ad (aa 1) (ad (ao bX (ad (fC (.ty "list")) (ad (fC (.ty "tuple")) (ah)))) (ah))))) (ai (gIf (de (fB (f2 (bY) (ao cb (ad (aa 1) (ad (fC (.ty "list")) (ah)))) (ao cb (ad (aa 0) (ad (fC (.ty "list")) (ah)))))) (fB (f2 (bY) (ao cb (ad (aa 1) (ad (fC (.ty "tuple")) (ah)))) (ao cb (ad (aa 0) (ad (fC (.ty "tuple")) (ah))))))) (aE (fC (.bl false))) (gNil))
  (ai (gIf (fB (f2 (bY) (ao bD (ad (aa 0) (ah))) (ao bD (ad (aa 1) (ah))))) (aE (fC (.bl false))) (gNil))
  (aE (f2 (inD true) (fC (.bl false)) (aU 2 [] (d5 (ad (aa 0) (ad (aa 1) (ah)))) (tgT (da (tgC 0) (da (tgC 1) gt))) (fun _ => M.ret true) (cEm (aA rec (ad (aa 0) (ad (aa 1) (ah)))))))))) (gNil))
  (ai (gIf (fB (f2 (fU) (aa 1) (fC .non))) (aE (f2 (fU) (aa 0) (fC .non))) (gNil))
  (ai (gIf (de (fB (f2 (bY) (ao cb (ad (aa 1) (ad (fC (.ty "str")) (ah)))) (ao cb (ad (aa 0) (ad (fC (.ty "str")) (ah)))))) (fB (f2 (bY) (ao cb (ad (aa 1) (ad (fC (.ty "bool")) (ah)))) (ao cb (ad (aa 0) (ad (fC (.ty "bool")) (ah))))))) (aE (fC (.bl false))) (gNil))
  (aE (iR (ao dY (ad (aa 0) (ad (ao bX (ad (fC (.ty "int")) (ad (fC (.ty "str")) (ah)))) (ah)))) (f2 (cM) (aa 0) (aa 1))))))
noncomputable def dW : Nat -> List D -> M D
 | 0 => fun _ => M.fail
 | n + 1 => aJ 2 (gT (dW n))
theorem eV : (0 : Nat) + 1 + 1 <= sizeLine := by decide
theorem d9 : (2 : Nat) <= sizeLine := by decide
theorem kF {rec : List D -> M D} {β : Bg} : ∀ xs : List D, (∀ x ∈ xs, rec [x, x] β = some (.ok (.bl true), β)) ->
  cLp (tgT (da (tgC 0) (da (tgC 1) gt))) (fun _ => M.ret true) (cEm (aA rec (ad (aa 0) (ad (aa 1) (ah))))) (cF xs xs) [none, none] β = some (.ok (List.replicate xs.length (.bl true)), β)
 | [], _ => rfl
 | x :: xs, h => by
  have ih := kF xs fun y hy => h y (List.mem_cons_of_mem _ hy)
  have hx := h x List.mem_cons_self
  unfold cF cLp
  simp only [tgT, da, gt, tgC, cEm, Option.isNone_none, Option.isNone_some, Option.bind_some, List.set_cons_zero, List.set_cons_succ, List.getD_cons_zero, List.getD_cons_succ, if_true, aA, ad, ah, aa, M.bind, M.ret, M.ofO, hx, ih, reduceIte]
  rfl
theorem pM (n : Nat) : (List.replicate n (D.bl true)).all dL = true := by
 induction n with
 | zero => rfl
 | succ n ih => rw [List.replicate_succ, List.all_cons, ih]; rfl
theorem qB (n : Nat) : inB (.bl false) (List.replicate n (D.bl true)) = false := by
 unfold inB
 induction n with
 | zero => rfl
 | succ n ih => rw [List.replicate_succ, List.any_cons, ih]; rfl
theorem l5 : ∀ (n : Nat) (d : D) (β : Bg), okD n d -> dW (n + 1) [d, d] β = some (.ok (.bl true), β)
 | n, .int i, β, _ => by
  unfold dW aJ gT
  simp only [ai, aI, eK, dn, aE, gIf, Pu.gNil, mE, fk, eL, mC, bJ, mw, hNo, aa, fC, f1, f2, ah, ad, ao, aA, fB, dB, j2, de, cX, iR, fOr, mH, fIf, ck, aX, bC, d5, cD, bZ, dm, M.bind, M.ret, M.ofO, M.fail, vw, vwA, stD, List.map_cons, List.map_nil, List.set_cons_zero, List.set_cons_succ, List.getD_cons_zero, List.getD_cons_succ, List.length_cons, List.length_nil, List.replicate_zero, List.replicate_succ, List.append_nil, List.cons_append, List.nil_append, Nat.sub_self, Nat.reduceSub, Nat.reduceAdd, Nat.reduceLT, Nat.reduceLeDiff, Int.reduceLT, Int.reduceLE, j9, im, j4, gc, mK, mL, gZ, mM, iU, iT, j8, j6, j7, j5, beq_self_eq_true, asB, ix, fU, jT, isN, mn, bX, cU, sgT, db, eZ, sgN, Option.map_some, Option.bind_some, Option.map_none, bD, fY, cb, dY, tyD, gX, gW, if_true, if_false, reduceIte, Bool.not_true, Bool.not_false, decide_true, decide_false, Bool.false_eq_true, d9, eV]
 | n, .bl i, β, _ => by
  unfold dW aJ gT
  simp only [ai, aI, eK, dn, aE, gIf, Pu.gNil, mE, fk, eL, mC, bJ, mw, hNo, aa, fC, f1, f2, ah, ad, ao, aA, fB, dB, j2, de, cX, iR, fOr, mH, fIf, ck, aX, bC, d5, cD, bZ, dm, M.bind, M.ret, M.ofO, M.fail, vw, vwA, stD, List.map_cons, List.map_nil, List.set_cons_zero, List.set_cons_succ, List.getD_cons_zero, List.getD_cons_succ, List.length_cons, List.length_nil, List.replicate_zero, List.replicate_succ, List.append_nil, List.cons_append, List.nil_append, Nat.sub_self, Nat.reduceSub, Nat.reduceAdd, Nat.reduceLT, Nat.reduceLeDiff, Int.reduceLT, Int.reduceLE, j9, im, j4, gc, mK, mL, gZ, mM, iU, iT, j8, j6, j7, j5, beq_self_eq_true, asB, ix, fU, jT, isN, mn, bX, cU, sgT, db, eZ, sgN, Option.map_some, Option.bind_some, Option.map_none, bD, fY, cb, dY, tyD, gX, gW, if_true, if_false, reduceIte, Bool.not_true, Bool.not_false, decide_true, decide_false, Bool.false_eq_true, d9, eV]
 | n, .str i, β, _ => by
  unfold dW aJ gT
  simp only [ai, aI, eK, dn, aE, gIf, Pu.gNil, mE, fk, eL, mC, bJ, mw, hNo, aa, fC, f1, f2, ah, ad, ao, aA, fB, dB, j2, de, cX, iR, fOr, mH, fIf, ck, aX, bC, d5, cD, bZ, dm, M.bind, M.ret, M.ofO, M.fail, vw, vwA, stD, List.map_cons, List.map_nil, List.set_cons_zero, List.set_cons_succ, List.getD_cons_zero, List.getD_cons_succ, List.length_cons, List.length_nil, List.replicate_zero, List.replicate_succ, List.append_nil, List.cons_append, List.nil_append, Nat.sub_self, Nat.reduceSub, Nat.reduceAdd, Nat.reduceLT, Nat.reduceLeDiff, Int.reduceLT, Int.reduceLE, j9, im, j4, gc, mK, mL, gZ, mM, iU, iT, j8, j6, j7, j5, beq_self_eq_true, asB, ix, fU, jT, isN, mn, bX, cU, sgT, db, eZ, sgN, Option.map_some, Option.bind_some, Option.map_none, bD, fY, cb, dY, tyD, gX, gW, if_true, if_false, reduceIte, Bool.not_true, Bool.not_false, decide_true, decide_false, Bool.false_eq_true, d9, eV]
 | n, .non, β, _ => by
  unfold dW aJ gT
  simp only [ai, aI, eK, dn, aE, gIf, Pu.gNil, mE, fk, eL, mC, bJ, mw, hNo, aa, fC, f1, f2, ah, ad, ao, aA, fB, dB, j2, de, cX, iR, fOr, mH, fIf, ck, aX, bC, d5, cD, bZ, dm, M.bind, M.ret, M.ofO, M.fail, vw, vwA, stD, List.map_cons, List.map_nil, List.set_cons_zero, List.set_cons_succ, List.getD_cons_zero, List.getD_cons_succ, List.length_cons, List.length_nil, List.replicate_zero, List.replicate_succ, List.append_nil, List.cons_append, List.nil_append, Nat.sub_self, Nat.reduceSub, Nat.reduceAdd, Nat.reduceLT, Nat.reduceLeDiff, Int.reduceLT, Int.reduceLE, j9, im, j4, gc, mK, mL, gZ, mM, iU, iT, j8, j6, j7, j5, beq_self_eq_true, asB, ix, fU, jT, isN, mn, bX, cU, sgT, db, eZ, sgN, Option.map_some, Option.bind_some, Option.map_none, bD, fY, cb, dY, tyD, gX, gW, if_true, if_false, reduceIte, Bool.not_true, Bool.not_false, decide_true, decide_false, Bool.false_eq_true, d9, eV]
 | n + 1, .lst xs, β, h => by
  have h' : xs.length <= sizeLine /\ ∀ x ∈ xs, okD n x := h
  have c := kF (rec := dW (n + 1)) (β := β) xs fun x hx => l5 n x β (h'.2 x hx)
  have hr : (List.replicate xs.length (D.bl true)).length <= sizeLine := by rw [List.length_replicate]; exact h'.1
  unfold dW aJ gT
  simp only [ai, aI, eK, dn, aE, gIf, Pu.gNil, mE, fk, eL, mC, bJ, mw, hNo, aa, fC, f1, f2, ah, ad, ao, aA, fB, dB, j2, de, cX, iR, fOr, mH, fIf, ck, aX, bC, d5, cD, bZ, dm, M.bind, M.ret, M.ofO, M.fail, vw, vwA, stD, List.map_cons, List.map_nil, List.set_cons_zero, List.set_cons_succ, List.getD_cons_zero, List.getD_cons_succ, List.length_cons, List.length_nil, List.replicate_zero, List.replicate_succ, List.append_nil, List.cons_append, List.nil_append, Nat.sub_self, Nat.reduceSub, Nat.reduceAdd, Nat.reduceLT, Nat.reduceLeDiff, Int.reduceLT, Int.reduceLE, j9, im, j4, gc, mK, mL, gZ, mM, iU, iT, j8, j6, j7, j5, beq_self_eq_true, asB, ix, fU, jT, isN, mn, bX, cU, sgT, db, eZ, sgN, Option.map_some, Option.bind_some, Option.map_none, bD, fY, cb, dY, tyD, gX, gW, if_true, if_false, reduceIte, Bool.not_true, Bool.not_false, decide_true, decide_false, Bool.false_eq_true, d9, eV, aU, qQ, dS, cSt, c, hr, inD, pM, qB, dL, Bool.and_self]
 | n + 1, .tup xs, β, h => by
  have h' : xs.length <= sizeLine /\ ∀ x ∈ xs, okD n x := h
  have c := kF (rec := dW (n + 1)) (β := β) xs fun x hx => l5 n x β (h'.2 x hx)
  have hr : (List.replicate xs.length (D.bl true)).length <= sizeLine := by rw [List.length_replicate]; exact h'.1
  unfold dW aJ gT
  simp only [ai, aI, eK, dn, aE, gIf, Pu.gNil, mE, fk, eL, mC, bJ, mw, hNo, aa, fC, f1, f2, ah, ad, ao, aA, fB, dB, j2, de, cX, iR, fOr, mH, fIf, ck, aX, bC, d5, cD, bZ, dm, M.bind, M.ret, M.ofO, M.fail, vw, vwA, stD, List.map_cons, List.map_nil, List.set_cons_zero, List.set_cons_succ, List.getD_cons_zero, List.getD_cons_succ, List.length_cons, List.length_nil, List.replicate_zero, List.replicate_succ, List.append_nil, List.cons_append, List.nil_append, Nat.sub_self, Nat.reduceSub, Nat.reduceAdd, Nat.reduceLT, Nat.reduceLeDiff, Int.reduceLT, Int.reduceLE, j9, im, j4, gc, mK, mL, gZ, mM, iU, iT, j8, j6, j7, j5, beq_self_eq_true, asB, ix, fU, jT, isN, mn, bX, cU, sgT, db, eZ, sgN, Option.map_some, Option.bind_some, Option.map_none, bD, fY, cb, dY, tyD, gX, gW, if_true, if_false, reduceIte, Bool.not_true, Bool.not_false, decide_true, decide_false, Bool.false_eq_true, d9, eV, aU, qQ, dS, cSt, c, hr, inD, pM, qB, dL, Bool.and_self]
 | 0, .lst _, _, h => h.elim
 | 0, .tup _, _, h => h.elim
 | _, .ty _, _, h => by cases ‹Nat› <;> exact h.elim
 | _, .txt, _, h => by cases ‹Nat› <;> exact h.elim
 | _, .scr _, _, h => by cases ‹Nat› <;> exact h.elim
 | 0, .obj _ _ _, _, h => h.elim
 | _ + 1, .obj _ _ _, _, h => h.elim
 | _, .bag, _, h => by cases ‹Nat› <;> exact h.elim
 | 0, .adr _, _, h => h.elim
 | _ + 1, .adr _, _, h => h.elim
end L2.Pu
namespace L2.Pu
open PySem PySem.Spec
theorem mQ {nv : Nat} {caps : List Nat} {it : Dn -> M (List D)} {tg : TgF} {tt : Dn -> M Bool} {b : Dn -> M (List D)} {δ : Dn} {β β1 β2 : Bg} {ds os : List D} (h1 : it δ β = some (.ok ds, β1)) (h2 : cLp tg tt b ds (cSt nv caps δ) β1 = some (.ok os, β2)) (h3 : os.length <= sizeLine) : aU nv caps it tg tt b δ β = some (.ok (.lst os), β2) := by
 unfold aU
 simp only [h1, h2, h3, if_true]
def plD : Nat -> D -> Prop
 | _, .int _ => True
 | _, .bl _ => True
 | _, .non => True
 | n + 1, .lst xs => ∀ x ∈ xs, plD n x
 | n + 1, .tup xs => ∀ x ∈ xs, plD n x
 | _, _ => False
theorem yH : ∀ (n : Nat) (d : D), plD n d -> ∃ p, toP d = some p /\ p.canLay0 = true /\ p.depth <= n + 1 := by
 have many : ∀ (n : Nat) (xs : List D), (∀ x ∈ xs, ∃ p, toP x = some p /\ p.canLay0 = true /\ p.depth <= n) -> ∃ ps, toPs xs = some ps /\ PyData.canLayAll0 ps = true /\ PyData.depthAll ps <= n := by
  intro n xs
  induction xs with
  | nil => intro _; exact ⟨[], rfl, rfl, by simp [PyData.depthAll]⟩
  | cons x xs ih =>
   intro h
   obtain ⟨p, h1, h2, h3⟩ := h x List.mem_cons_self
   obtain ⟨ps, g1, g2, g3⟩ := ih fun y hy => h y (List.mem_cons_of_mem _ hy)
   refine ⟨p :: ps, ?_, ?_, ?_⟩
   ·unfold toPs; simp only [h1, g1]
   ·simp [PyData.canLayAll0, h2, g2]
   ·simp only [PyData.depthAll]; omega
 intro n
 induction n with
 | zero =>
  intro d h
  cases d with
  | int i => exact ⟨.int i, rfl, rfl, by simp [PyData.depth]⟩
  | bl i => exact ⟨.bool i, rfl, rfl, by simp [PyData.depth]⟩
  | non => exact ⟨.none, rfl, rfl, by simp [PyData.depth]⟩
  | _ => exact h.elim
 | succ n ih =>
  intro d h
  cases d with
  | int i => exact ⟨.int i, rfl, rfl, by simp [PyData.depth]⟩
  | bl i => exact ⟨.bool i, rfl, rfl, by simp [PyData.depth]⟩
  | non => exact ⟨.none, rfl, rfl, by simp [PyData.depth]⟩
  | lst xs =>
   obtain ⟨ps, g1, g2, g3⟩ := many (n + 1) xs fun x hx => ih x (h x hx)
   exact ⟨.list ps, by unfold toP; simp [g1], by simp [PyData.canLay0, g2], by simp only [PyData.depth]; omega⟩
  | tup xs =>
   obtain ⟨ps, g1, g2, g3⟩ := many (n + 1) xs fun x hx => ih x (h x hx)
   exact ⟨.tuple ps, by unfold toP; simp [g1], by simp [PyData.canLay0, g2], by simp only [PyData.depth]; omega⟩
  | _ => exact h.elim
theorem pJ {d : D} (n : Nat) (h : plD n d) (hn : n <= 60) : lO d = true := by
 obtain ⟨p, h1, h2, h3⟩ := yH n d h
 unfold lO
 simp only [h1, SeqAt.shaped, h2, Bool.true_and, decide_eq_true_eq]
 omega
end L2.Pu
namespace L2.Pu
open PySem PySem.Spec PyProof.Rows
section
variable {X : Cx} {E : St -> XK} {K : Frag} {a b : Expr} {es : List Expr} {pos : Pos}
theorem To.none {F : Fx} {H H1 : Hp} {β1 : Bg} {p : Addr} (t : To F H H1 β1) (h : H1 p = none) : H p = none := by
 cases q : H p with
 | none => rfl
 | some o =>
  have : H1 p = some o := t.kp p o q fun b l e => by
   obtain ⟨z1, z2⟩ := t.fr.bag b l e
   exact ⟨fun w => (by subst w; rw [z1] at h; cases h), fun w => (by subst w; rw [z2] at h; cases h)⟩
  rw [this] at h; cases h
def Fx.but (F : Fx) (a : Addr) : Fx := ⟨fun c => F.A c \/ c = a, F.bg⟩
theorem Fx.tr_but {F : Fx} {H H1 : Hp} {β1 : Bg} {p : Addr} (fr : Fr F H β1) (hp : H p = none) (hs : ∀ c o, H c = some o -> H1 c = some o) : Tr F H (F.but p) H1 := ⟨fun c h1 h2 z => by
 rcases z with z | z
 ·exact h1 z
 ·subst z; exact h2 hp, fun c o _ h => hs c o h, rfl⟩
theorem Fx.tr_of {F : Fx} {H : Hp} {p : Addr} : Tr (F.but p) H F H := ⟨fun c h _ z => h (Or.inl z), fun _ _ _ h => h, rfl⟩
def dE (K : Frag) (F : Fx) (H0 H : Hp) (ds : List D) (v : V) : Prop := ∃ a xs, v = .ref a /\ H0 a = none /\ H a = some (.lst xs) /\ DenL K (F.but a) H ds xs
def tVO (K : Frag) (f : Dn -> M (List D)) (E : St -> XK) : TE := fun σ H Q => ∃ F δ β, Fr F H β /\ VOk K F H δ σ /\ run (dE K F H) F E σ (f δ) H Q β
def tVG (K : Frag) (f : Dn -> M (List (List D))) (E : St -> XK) : TE := fun σ H Q => ∃ F δ β, Fr F H β /\ VOk K F H δ σ /\ run (pP K F H) F E σ (f δ) H Q β
def szL (ds : List D) : Option (List D) := if ds.length <= sizeLine then some ds else none
def lw (op : List D -> Option (List D)) (g : Dn -> M (List D)) : Dn -> M (List D) := fun δ => M.bind (g δ) fun ds => M.ofO (op ds)
theorem dE.new {F : Fx} {H H1 : Hp} {β1 : Bg} {p : Addr} {ds : List D} {xs : List V} (t : To F H H1 β1) (hp : H1 p = none) (hd : DenL K F H1 ds xs) : dE K F H (upd H1 p (.lst xs)) ds (.ref p) :=
 ⟨p, xs, rfl, t.none hp, ax, DenL.tr (Fx.tr_but t.fr hp fun c o h => by rw [upd_ne (ne_of_none h hp)]; exact h) _ _ hd⟩
def yn (K : Frag) (r : List V -> Hp -> VK -> Prop) (op : List D -> Option (List D)) : Prop := ∀ (F : Fx) (H0 H : Hp) (β : Bg) (Q : VK) (ds os : List D) (vs : List V), To F H0 H β -> DenL K F H ds vs -> op ds = some os ->
 (∀ v H', To F H H' β -> dE K F H0 H' os v -> Q v H') -> r vs H Q
theorem iG {x : Str} {p : Pos} {T : String} {r : List V -> Hp -> VK -> Prop} {op : List D -> Option (List D)} {g : Dn -> M (List D)} {e : Expr} (hc : cZ X (.type T) r) (l : yn X.K r op) (hg : Gl X x) (hm : X.mg x = none) (hv : bootBuiltins x = some (.type T)) (ha : PA X (e :: es) (tVA X.K g E)) (hn : x ≠ "__name__" := by decide) (hdb : (x == ("__debug__" : Str)) = false := by decide)
  (he : starEach (e :: es) X.env = (false, eval e X.env) :: starEach es X.env := by rfl) (hpl : (backTo pos (starEach es X.env)).any (·.1) = false := by rfl) : PE X (.Call (.Name x p) (e :: es) [] pos) (tVO X.K (lw op g) E) :=
 (m6 hc hg hm hv ha hn hdb he hpl).imp fun σ H Q h_ => ex6 h_ fun F δ β fr vk h => ⟨F, δ, β, fr, vk, (run.bind (R := DenL X.K F) h).mono fun vs H1 h_ => by
  obtain ⟨ds, β1, t, hd, r1⟩ := h_
  obtain ⟨d3, e3, k⟩ := run.ofO r1
  exact l F H H1 β1 Q ds d3 vs t hd e3 k⟩
def jX : List D -> Option (List D)
 | [.lst xs] => some xs
 | [.tup xs] => some xs
 | _ => none
theorem jW : yn K (fun xs H Q => ∃ p ys, xs = [.ref p] /\ (SqL K H p ys \/ SqT K H p ys) /\ ∀ l, H l = none -> Q (.ref l) (upd H l (.lst ys))) jX := fun F H0 H β Q ds os vs t h e k => by
 unfold jX at e
 split at e
 ·cases e
  obtain ⟨v, rfl, g⟩ := DenL.one h
  obtain ⟨a, xs, rfl, r, dl⟩ := Den.sqL g
  exact ⟨a, xs, rfl, .inl r, fun l hl => k _ _ (t.fr.upd _ hl) (dE.new t hl dl)⟩
 ·cases e
  obtain ⟨v, rfl, g⟩ := DenL.one h
  obtain ⟨a, xs, rfl, r, dl⟩ := Den.sqT g
  exact ⟨a, xs, rfl, .inr r, fun l hl => k _ _ (t.fr.upd _ hl) (dE.new t hl dl)⟩
 ·cases e
theorem DenL.rep {F : Fx} {H : Hp} {ds : List D} {xs : List V} (h : DenL K F H ds xs) : ∀ n : Nat, DenL K F H (List.replicate n ds).flatten (List.replicate n xs).flatten
 | 0 => rfl
 | n + 1 => by
  rw [List.replicate_succ, List.flatten_cons, List.replicate_succ, List.flatten_cons]
  exact DenL.append h (DenL.rep h n)
def oY (ds : List D) (d : D) : Option (List D) := match d with
 | .int k => if (decide (-(2 ^ 63) <= k) && decide (k < 2 ^ 63) && decide (ds.length <= sizeLine) && decide (ds.length * k.toNat <= sizeLine)) = true then some (List.replicate k.toNat ds).flatten else none
 | _ => none
def rp (g : Dn -> M (List D)) (f : Dn -> M D) : Dn -> M (List D) := fun δ => M.bind (g δ) fun ds => M.bind (M.ofO (szL ds)) fun ds => M.bind (f δ) fun d => M.ofO (oY ds d)
theorem Cy {g : Dn -> M (List D)} {f : Dn -> M D} {pos' : Pos} (ha : PA X es (tVA X.K g E)) (hb : PE X b (tV X.K f E)) : PE X (.BinOp (.List es pos') .Mult b pos) (tVO X.K (rp g f) E) :=
 (cT Au (jp ha) hb).imp fun σ H Q h_ => ex6 h_ fun F δ β fr vk r => ⟨F, δ, β, fr, vk, (run.bind (R := DenL X.K F) r).mono fun vs H1 h_ => by
  obtain ⟨ds, β1, t, hd, r1⟩ := h_
  obtain ⟨ds', e3, r2⟩ := run.ofO_bind r1
  unfold szL at e3
  split at e3
  ·rename_i hz
   cases e3
   refine ⟨by rw [← hd.length]; exact hz, fun p hp => ?_⟩
   have t1 := t.fr.upd (.lst vs) hp
   have hA := t.fr.fresh hp
   refine ⟨F, δ, β1, t1.fr, (vk.tr (t.tr fr)).tr (t1.tr t.fr), ?_⟩
   obtain ⟨rr, β2, e, h⟩ := r2
   have r2' : run (dE X.K F H) F E σ (M.bind (f δ) fun d => M.ofO (oY ds d)) (upd H1 p (.lst vs)) Q β1 := by
    refine ⟨rr, β2, e, ?_⟩
    cases rr with
    | ok d => exact fun v H' t2 => h v H' (t1.trans t2)
    | error C => exact fun H' t2 => h H' (t1.trans t2)
   refine (run.bind (R := Den X.K F) r2').mono fun w H2 h_ => ex5 h_ fun d β3 t2 hw r3 => ?_
   obtain ⟨os, e4, k⟩ := run.ofO r3
   unfold oY at e4
   split at e4
   ·split at e4
    ·rename_i kk hk
     cases e4
     simp only [Bool.and_eq_true, decide_eq_true_eq] at hk
     cases hw
     have hp2 : H2 p = some (.lst vs) := t2.kp p _ ax fun b l q => ⟨fun z => hA (z ▸ (fr.bgA b l q).1), fun z => hA (z ▸ (fr.bgA b l q).2.1)⟩
     have tt := t1.trans t2
     exact ⟨p, _, vs, rfl, rfl, hp2, hk.1.1.1, hk.1.1.2, by rw [← hd.length]; exact hk.2, fun q hq => k _ _ (t2.fr.upd _ hq) (dE.new (t.trans tt) hq ((DenL.tr (tt.tr t.fr) _ _ hd).rep _))⟩
    ·cases e4
   ·cases e4
  ·cases e3⟩
def kG (tg : TgF) (tt : Dn -> M Bool) (b : Dn -> M (List (List Pu.D))) : List Pu.D -> Dn -> M (List (List Pu.D))
 | [], _ => M.ret []
 | d :: ds, δ => match tg d δ with
  | none => M.fail
  | some δ1 => M.bind (tt δ1) fun c => M.bind (if c = true then b δ1 else M.ret []) fun o => M.bind (kG tg tt b ds δ) fun os => M.ret (o ++ os)
def RwA (K : Frag) (F : Fx) (D : Addr) (H0 H : Hp) (as : List (List Pu.D)) (acc : List V) : Prop := (∀ c, H0 c ≠ none -> H c ≠ none) /\ ∃ rs, acc = rs.map V.ref /\ (D :: rs).Nodup /\ RowL K F H (fun r => H0 r = none) as rs
theorem RwA.mono {F : Fx} {D : Addr} {H0 H H1 : Hp} {β β1 : Bg} {as : List (List Pu.D)} {acc : List V} (hA : F.A D) (h0 : ∀ b l, F.bg = some (b, l) -> H0 b ≠ none /\ H0 l ≠ none) (fr : Fr F H β) (t : ToD F D H H1 β1) (h : RwA K F D H0 H as acc) : RwA K F D H0 H1 as acc := by
 obtain ⟨cv, rs, e, nd, rl⟩ := h
 refine ⟨fun c hc z => ?_, rs, e, nd, RowL.tr (t.tr fr hA) rl fun r xs hr p q => ⟨p, t.kp r _ q (fun z => ?_) fun b l w => ⟨fun z => ?_, fun z => ?_⟩⟩⟩
 ·cases q : H c with
  | none => exact cv c hc q
  | some o =>
   by_cases hd : c = D
   ·subst hd; exact t.fr.occ _ hA z
   ·by_cases hb : ∃ b l, F.bg = some (b, l) /\ (c = b \/ c = l)
    ·obtain ⟨b, l, w, hcb⟩ := hb
     rcases hcb with rfl | rfl
     ·exact t.fr.occ _ (fr.bgA _ _ w).1 z
     ·exact t.fr.occ _ (fr.bgA _ _ w).2.1 z
    ·rw [t.kp c o q hd fun b l w => ⟨fun y => hb ⟨b, l, w, .inl y⟩, fun y => hb ⟨b, l, w, .inr y⟩⟩] at z
     cases z
 ·subst z; exact (List.nodup_cons.mp nd).1 hr
 ·subst z; exact (h0 _ _ w).1 p
 ·subst z; exact (h0 _ _ w).2 p
def ou (K : Frag) (D : Addr) (tb : TB) (f : Dn -> M (List (List Pu.D))) : Prop := ∀ (F : Fx) (H0 H : Hp) (δ : Dn) (β β' : Bg) (σ : St) (acc : List V) (as os : List (List Pu.D)) (Q : St -> Hp -> Prop), Fr F H β -> F.A D -> (∀ b l, F.bg = some (b, l) -> D ≠ b /\ D ≠ l) -> (∀ b l, F.bg = some (b, l) -> H0 b ≠ none /\ H0 l ≠ none) -> VOk K F H δ σ -> H D = some (.lst acc) -> RwA K F D H0 H as acc ->
 f δ β = some (.ok os, β') -> as.length + os.length <= sizeLine -> (∀ σ1 H1 acc1, ToD F D H H1 β' -> VOk K F H1 δ σ1 -> H1 D = some (.lst acc1) -> RwA K F D H0 H1 (as ++ os) acc1 -> Q σ1 H1) -> tb σ H Q
def pL (f : Dn -> M (List Pu.D)) : Dn -> M (List (List Pu.D)) := fun δ => M.bind (f δ) fun d => M.ret [d]
theorem RowL.snoc {F : Fx} {H : Hp} {P : Addr -> Prop} {ds : List Pu.D} {r : Addr} {xs : List V} (p : P r) (h1 : H r = some (.lst xs)) (h2 : DenL K F H ds xs) : ∀ {rows : List (List Pu.D)} {rs : List Addr}, RowL K F H P rows rs -> RowL K F H P (rows ++ [ds]) (rs ++ [r])
 | [], [], _ => ⟨p, ⟨xs, h1, h2⟩, trivial⟩
 | _ :: _, _ :: _, h => ⟨h.1, h.2.1, RowL.snoc p h1 h2 h.2.2⟩
 | [], _ :: _, h => h.elim
 | _ :: _, [], h => h.elim
theorem za {D : Addr} {f : Dn -> M (List Pu.D)} : ou K D (rU D (tVO K f E0)) (pL f) := fun F H0 H δ β β' σ acc as os Q fr hA hb h0 vk hD hd e hz k => by
 obtain ⟨d, β1, e1, e2⟩ := M.bind_inv e
 cases e2
 refine ⟨F, δ, β, fr, vk, E0.run e1 fun v H1 t hv => ?_⟩
 have hD1 := t.kp D _ hD hb
 have hd1 := hd.mono hA h0 fr (t.toD D)
 obtain ⟨r, xs, rfl, n0, n1, n2⟩ := hv
 obtain ⟨cv, rs, ea, nd, rl⟩ := hd1
 obtain ⟨cv0, rs0, ea0, nd0, rl0⟩ := hd
 have hlen : acc.length = as.length := by rw [ea, List.length_map, rl.len]
 have ers : rs0 = rs := by
  have : rs0.map V.ref = rs.map V.ref := ea0.symm.trans ea
  exact List.map_inj_right (fun a b q => by cases q; rfl) |>.mp this
 subst ers
 have nD : r ≠ D := fun z => by subst z; rw [hD] at n0; cases n0
 have nr : r ∉ rs0 := fun z => by
  obtain ⟨_, ys, q⟩ := rl0.all r z
  rw [q] at n0; cases n0
 have h0r : H0 r = none := by
  cases q : H0 r with
  | none => rfl
  | some o => exact absurd n0 (cv0 r (by rw [q]; simp))
 refine ⟨acc, hD1, by rw [hlen]; simp at hz; omega, ?_⟩
 have tD : ToD F D H1 (upd H1 D (.lst (acc ++ [.ref r]))) β' := by
  refine ⟨fun a o h n _ => by rw [upd_ne n]; exact h, fun a h q => ?_, fr.bgA, fun b l q => ?_⟩
  ·by_cases z : a = D
   ·subst z; rw [ax] at q; cases q
   ·rw [upd_ne z] at q; exact t.fr.occ a h q
  ·rw [upd_ne (hb b l q).1.symm, upd_ne (hb b l q).2.symm]
   exact t.fr.bag b l q
 have tt := tD.tr t.fr hA
 refine k σ _ _ ((t.toD D).trans tD) (vk.tr ((t.tr fr).trans tt)) ax (RwA.mono hA h0 t.fr tD ⟨cv, rs0 ++ [r], by rw [ea, List.map_append]; rfl, ?_, RowL.snoc h0r n1 (DenL.tr Fx.tr_of _ _ n2) rl⟩)
 rw [← List.cons_append, List.nodup_append]
 refine ⟨nd0, by simp, fun x hx y hy => ?_⟩
 obtain rfl : y = r := by simpa using hy
 rcases List.mem_cons.mp hx with rfl | hx
 ·exact nD.symm
 ·exact fun z => nr (z ▸ hx)
end
section
variable {X : Cx} {E : St -> XK} {K : Frag}
theorem y9 {D : Addr} {J : It} {g : TG} {tg : TgF} {tt : Dn -> M Bool} {tb : TB} {b : Dn -> M (List (List Pu.D))} (hg : eU K g tg) (sg : gF tg) (hb : ou K D tb b) {F : Fx} {H0 H : Hp} {δ : Dn} {β β' : Bg} {σ : St} {acc : List V} {as os : List (List Pu.D)} {ds : List Pu.D} {Q : St -> Hp -> Prop} (fr : Fr F H β) (hA : F.A D) (hn : ∀ b l, F.bg = some (b, l) -> D ≠ b /\ D ≠ l) (h0 : ∀ b l, F.bg = some (b, l) -> H0 b ≠ none /\ H0 l ≠ none) (vk : VOk K F H δ σ) (hD : H D = some (.lst acc)) (hd : RwA K F D H0 H as acc)
  (it : ItD K J F H ds) (e : kG tg tt b ds δ β = some (.ok os, β')) (hz : as.length + os.length <= sizeLine) (k : ∀ σ1 H1 acc1, ToD F D H H1 β' -> VOk K F H1 δ σ1 -> H1 D = some (.lst acc1) -> RwA K F D H0 H1 (as ++ os) acc1 -> Q σ1 H1) : eP J g (tVT K tt E0) tb σ H Q := by
 refine ⟨fun i m σ1 H1 => m + i = ds.length /\ ∃ β1 acc1 as1 os1, ToD F D H H1 β1 /\ VOk K F H1 δ σ1 /\ H1 D = some (.lst acc1) /\ RwA K F D H0 H1 as1 acc1 /\ kG tg tt b (ds.drop i) δ β1 = some (.ok os1, β') /\ as1 ++ os1 = as ++ os,
  ⟨ds.length, by omega, β, acc, as, os, ⟨fun _ _ h _ _ => h, fr⟩, vk, hD, hd, e, rfl⟩, ?_⟩
 rintro i m σ1 H1 ⟨hm, β1, acc1, as1, os1, t1, vk1, hD1, hd1, e1, ea⟩
 have tr1 := t1.tr fr hA
 obtain ⟨iy, is⟩ := it F H1 β1 tr1 t1.fr i
 cases hi : ds[i]? with
 | none =>
  have hl : ds.length <= i := List.getElem?_eq_none_iff.mp hi
  rw [List.drop_eq_nil_of_le hl] at e1
  cases e1
  refine .inl ⟨is (by omega), k σ1 H1 acc1 t1 vk1 hD1 ?_⟩
  rw [← ea, List.append_nil]
  exact hd1
 | some d =>
  have hl : i < ds.length := (List.getElem?_eq_some_iff.mp hi).1
  obtain ⟨go, yl⟩ := iy d hi
  have ed : ds.drop i = d :: ds.drop (i + 1) := by
   rw [List.drop_eq_getElem_cons hl]
   congr 1
   exact Option.some.inj ((List.getElem?_eq_getElem hl).symm.trans hi)
  rw [ed] at e1
  unfold kG at e1
  cases q : tg d δ with
  | none => rw [q] at e1; cases e1
  | some δ1 =>
   rw [q] at e1
   obtain ⟨c, β2, e2, e3⟩ := M.bind_inv e1
   obtain ⟨o, β3, e4, e5⟩ := M.bind_inv e3
   obtain ⟨os2, β4, e6, e7⟩ := M.bind_inv e5
   cases e7
   obtain ⟨s1, s2⟩ := sg _ _ _ q
   refine .inr ⟨go, fun σ9 H9 => ∃ acc9, ToD F D H H9 β3 /\ VOk K F H9 δ σ9 /\ H9 D = some (.lst acc9) /\ RwA K F D H0 H9 (as1 ++ o) acc9, ?_, fun x H2 hy => ?_⟩
   ·rintro σ9 H9 ⟨acc9, t9, vk9, hD9, hd9⟩
    exact ⟨m - 1, by omega, by omega, β3, acc9, as1 ++ o, os2, t9, vk9, hD9, hd9, e6, by rw [List.append_assoc]; exact ea⟩
   ·obtain ⟨sm, dx⟩ := yl x H2 hy
    have t2 : To F H1 H2 β1 := t1.fr.same sm
    have tr2 := t2.tr t1.fr
    refine hg F H2 δ δ1 σ1 d x _ (vk1.tr tr2) dx q fun σ2 vk2 => ⟨F, δ1, β1, t2.fr, vk2, E0.run e2 fun c' H3 t3 ec => ?_⟩
    subst ec
    have hD2 := sm _ _ hD1
    have hD3 := t3.kp D _ hD2 hn
    have tr3 := t3.tr t2.fr
    have d3 := (hd1.mono hA h0 t1.fr (t2.toD D)).mono hA h0 t2.fr (t3.toD D)
    have tt3 : ToD F D H H3 β2 := t1.trans ((t2.trans t3).toD D)
    have hle : as1.length + (o ++ os2).length <= sizeLine := by
     have := congrArg List.length ea
     simp only [List.length_append] at this ⊢
     omega
    cases c' with
    | true =>
     rw [if_pos rfl] at e4 ⊢
     refine hb F H0 H3 δ1 β2 β3 σ2 acc1 as1 o _ t3.fr hA hn h0 (vk2.tr tr3) hD3 d3 e4 (by rw [List.length_append] at hle; omega) fun σ4 H4 acc4 t4 vk4 hD4 hd4 => ?_
     exact ⟨acc4, tt3.trans t4, vk4.sub s1 s2, hD4, hd4⟩
    | false =>
     rw [if_neg Bool.false_ne_true] at e4 ⊢
     cases e4
     exact ⟨acc1, tt3, (vk2.tr tr3).sub s1 s2, hD3, by rw [List.append_nil]; exact d3⟩
def il (nv : Nat) (caps : List Nat) (it : Dn -> M (List Pu.D)) (tg : TgF) (tt : Dn -> M Bool) (b : Dn -> M (List (List Pu.D))) : Dn -> M (List (List Pu.D)) := fun δ β => match it δ β with
 | none => none
 | some (.error C, β1) => some (.error C, β1)
 | some (.ok ds, β1) => match kG tg tt b ds (cSt nv caps δ) β1 with
  | some (.ok os, β2) => if os.length <= sizeLine then some (.ok os, β2) else none
  | _ => none
theorem tq {vars : List Str} {caps : List Nat} {it : Dn -> M (List Pu.D)} {g : TG} {tg : TgF} {tt : Dn -> M Bool} {tb : Addr -> TB} {b : Dn -> M (List (List Pu.D))} (hg : eU K g tg) (sg : gF tg) (hb : ∀ D, ou K D (tb D) b) {σ : St} {H : Hp} {Q : VK} (h : tVG K (il vars.length caps it tg tt b) E σ H Q) :
  nY vars caps (iV K it E) (fun D J => eP J g (tVT K tt E0) (tb D)) σ H Q := by
 obtain ⟨F, δ, β, fr, vk, r, β', e, h⟩ := h
 unfold il at e
 refine ⟨F, δ, β, fr, vk, ?_⟩
 split at e
 ·cases e
 ·rename_i C β1 q
  cases e
  exact ⟨.error C, _, q, h⟩
 ·rename_i ds β1 q
  split at e
  ·rename_i os β2 q2
   split at e
   ·rename_i hz
    cases e
    refine ⟨.ok ds, β1, q, fun J H1 t hJ D hD => ?_⟩
    have hDA : ¬ F.A D := t.fr.fresh hD
    have nb : ∀ b l, F.bg = some (b, l) -> D ≠ b /\ D ≠ l := fun b l z => ⟨fun w => hDA (w ▸ (fr.bgA b l z).1), fun w => hDA (w ▸ (fr.bgA b l z).2.1)⟩
    have t2 := t.fr.upd (.lst []) hD
    have fr2 : Fr ⟨fun a => F.A a \/ a = D, F.bg⟩ (upd H1 D (.lst [])) β1 := by
     refine ⟨fun a ha z => ?_, fun b l z => let ⟨x, y, w⟩ := fr.bgA b l z; ⟨.inl x, .inl y, w⟩, t2.fr.bag⟩
     rcases ha with ha | ha
     ·exact t2.fr.occ a ha z
     ·subst ha; rw [ax] at z; cases z
    have tr2 : Tr F H1 ⟨fun a => F.A a \/ a = D, F.bg⟩ (upd H1 D (.lst [])) := ⟨fun a ha hs z => by
     rcases z with z | z
     ·exact ha z
     ·subst z; exact hs hD, fun a o ha z => by rw [upd_ne (ne_of_none z hD)]; exact z, rfl⟩
    have cv : ∀ c, H c ≠ none -> upd H1 D (.lst []) c ≠ none := fun c hc z => by
     by_cases w : c = D
     ·subst w; rw [ax] at z; cases z
     ·rw [upd_ne w] at z; exact hc (t.none z)
    refine y9 (D := D) (H0 := H) (as := []) (os := os) hg sg (hb D) fr2 (.inr rfl) nb (fun b l z => ⟨fr.occ _ (fr.bgA b l z).1, fr.occ _ (fr.bgA b l z).2.1⟩) (uH (vk.tr ((t.tr fr).trans tr2))) ax ⟨cv, [], rfl, by simp, trivial⟩ (hJ.tr tr2) q2 (by simpa using hz) fun σ1 H2 acc1 t3 vk3 hD3 hd3 => ?_
    have tf : To F H1 H2 β' := by
     refine ⟨fun a o z n => t3.kp a o (by rw [upd_ne (ne_of_none z hD)]; exact z) (ne_of_none z hD) n, fun a ha z => t3.fr.occ a (Or.inl ha) z, fr.bgA, t3.fr.bag⟩
    obtain ⟨_, rs, ea, nd, rl⟩ := hd3
    subst ea
    exact h _ H2 (t.trans tf) ⟨D, rs, rfl, t.none hD, hD3, nd, RowL.tr (F := ⟨fun a => F.A a \/ a = D, F.bg⟩) ⟨fun a ha _ z => ha (Or.inl z), fun a o _ z => z, rfl⟩ rl fun r xs _ p q => ⟨p, q⟩⟩
   ·cases e
  ·cases e
section
variable {elt target iter : Expr} {ifs : List Expr} {rest : List Comprehension} {scope : Scope} {pos : Pos} {Nc vars : List Str} {caps : List Nat} {g : TG} {tb : Addr -> TB}
end
mutual
def noL : D -> Bool
 | .int _ => true
 | .bl _ => true
 | .str _ => true
 | .non => true
 | .tup ds => noLs ds
 | _ => false
def noLs : List D -> Bool
 | [] => true
 | d :: ds => noL d && noLs ds
end
mutual
theorem ml {F F2 : Fx} {H : Hp} (hF : ∀ c, F2.A c -> F.A c \/ ∃ xs, H c = some (.lst xs)) : ∀ (d : D) (v : V), noL d = true -> Den K F H d v -> Den K F2 H d v
 | .int i, v, _, h => h
 | .bl i, v, _, h => h
 | .str i, v, _, h => h
 | .non, v, _, h => h
 | .tup ds, v, n, h => by
  obtain ⟨a, xs, e, h1, h2⟩ := h
  refine ⟨a, xs, e, ?_, noLs_den hF ds xs (by simpa [noL] using n) h2⟩
  rcases h1 with ⟨h1, r⟩ | h1
  ·refine .inl ⟨fun z => ?_, r⟩
   rcases hF a z with z | ⟨ys, z⟩
   ·exact h1 z
   ·rcases r with r | ⟨o, r⟩ <;> rw [z] at r <;> cases r
  ·exact .inr h1
 | .lst _, _, n, _ => by simp [noL] at n
 | .scr _, _, n, _ => by simp [noL] at n
 | .ty _, _, n, _ => by simp [noL] at n
 | .txt, _, n, _ => by simp [noL] at n
 | .obj _ _ _, _, n, _ => by simp [noL] at n
 | .bag, _, n, _ => by simp [noL] at n
 | .adr _, _, n, _ => by simp [noL] at n
theorem noLs_den {F F2 : Fx} {H : Hp} (hF : ∀ c, F2.A c -> F.A c \/ ∃ xs, H c = some (.lst xs)) : ∀ (ds : List D) (xs : List V), noLs ds = true -> DenL K F H ds xs -> DenL K F2 H ds xs
 | [], xs, _, h => h
 | d :: ds, xs, n, h => by
  have n' : noL d = true /\ noLs ds = true := by simpa [noLs] using n
  obtain ⟨x, xr, e, h1, h2⟩ := h
  exact ⟨x, xr, e, ml hF d x n'.1 h1, noLs_den hF ds xr n'.2 h2⟩
end
theorem RowL.noL {F F2 : Fx} {H : Hp} {P P2 : Addr -> Prop} (hF : ∀ c, F2.A c -> F.A c \/ ∃ xs, H c = some (.lst xs)) : ∀ {rows : List (List D)} {rs : List Addr}, (∀ ds ∈ rows, noLs ds = true) -> RowL K F H P rows rs -> (∀ r ∈ rs, P2 r) -> RowL K F2 H P2 rows rs
 | [], [], _, _, _ => trivial
 | ds :: rows, r :: rs, n, h, p => by
  obtain ⟨h1, ⟨xs, h2, h3⟩, h4⟩ := h
  exact ⟨p r List.mem_cons_self, ⟨xs, h2, noLs_den hF _ _ (n ds List.mem_cons_self) h3⟩, RowL.noL hF (fun x hx => n x (List.mem_cons_of_mem _ hx)) h4 fun x hx => p x (List.mem_cons_of_mem _ hx)⟩
 | [], _ :: _, _, h, _ => h.elim
 | _ :: _, [], _, h, _ => h.elim
theorem SOk.newGrd {H₀ : Hp} {B : Ow} {bg : Option (Addr × Addr)} {H H' : Hp} {δ : Ds} {β β' : Bg} {σ : St} {i : Nat} {rows : List (List D)} {v : V} (ok : SOk K H₀ B bg H δ β σ) (t : To (FxB B bg) H H' β') (hn : ∀ ds ∈ rows, noLs ds = true) (hv : pP K (FxB B bg) H H' rows v) :
  ∃ B', SOk K H₀ B' bg H' (δ.set i (some (.grd rows))) β' (σ.set i (some v)) /\ Stp B H B' H' := by
 classical
 obtain ⟨a, rs, rfl, n0, n1, nd, rl⟩ := hv
 have hno : ∀ c, c = a \/ c ∈ rs -> H c = none := fun c hc => by
  rcases hc with rfl | hc
  ·exact n0
  ·exact (rl.all c hc).1
 have hB : ∀ c, c = a \/ c ∈ rs -> B c = none := fun c hc => Classical.byContradiction fun z => ok.fr.occ c z (hno c hc)
 have nb : ∀ b l, bg = some (b, l) -> ¬ (b = a \/ b ∈ rs) /\ ¬ (l = a \/ l ∈ rs) := fun b l e => by
  obtain ⟨b1, b2⟩ := ok.bgt b l e
  exact ⟨fun z => (by rw [hB b z] at b1; cases b1), fun z => (by rw [hB l z] at b2; cases b2)⟩
 obtain ⟨ok2, s2⟩ := ok.to rfl t
 have stp : Stp B H (fun c => if c = a \/ c ∈ rs then some (i + 2) else B c) H' := by
  refine ⟨s2.kp, fun c hc => ?_, fun c o h n => ?_, s2.al⟩
  ·have : ¬ (c = a \/ c ∈ rs) := fun z => by rw [hB c z] at hc; rcases hc with hc | hc <;> cases hc
   simp only [if_neg this]
  ·have : ¬ (c = a \/ c ∈ rs) := fun z => by rw [hno c z] at h; cases h
   simp only [if_neg this]; exact n
 have tr : Tr (FxB B bg) H (FxB (fun c => if c = a \/ c ∈ rs then some (i + 2) else B c) bg) H' := stp.tr
 refine ⟨fun c => if c = a \/ c ∈ rs then some (i + 2) else B c, ⟨⟨fun c hc z => ?_, fun b l e => ?_, ok2.fr.bag⟩, fun b l e => ?_, by rw [List.length_set, List.length_set, ok.len], ok2.cov, fun c k hc => (by
  have hc' : (if c = a \/ c ∈ rs then some (i + 2) else B c) = some (k + 2) := hc
  by_cases z : c = a \/ c ∈ rs
  ·cases w : H₀ c with
   | none => rfl
   | some o => exact absurd (hno c z) (ok.cov c (by rw [w]; simp))
  ·rw [if_neg z] at hc'; exact ok.new c k hc'), fun c k hc => (by
  have hc' : (if c = a \/ c ∈ rs then some (i + 2) else B c) = some (k + 2) := hc
  by_cases z : c = a \/ c ∈ rs
  ·rcases z with rfl | z
   ·exact ⟨_, n1⟩
   ·exact (rl.all c z).2
  ·rw [if_neg z] at hc'; exact ok2.lst c k hc'), fun j s e => ?_⟩, stp⟩
 ·by_cases q : c = a \/ c ∈ rs
  ·rcases q with rfl | q
   ·rw [n1] at z; cases z
   ·obtain ⟨_, xs, w⟩ := rl.all c q
    rw [w] at z; cases z
  ·have hc' : (if c = a \/ c ∈ rs then some (i + 2) else B c) ≠ none := hc
   rw [if_neg q] at hc'
   exact ok2.fr.occ c hc' z
 ·obtain ⟨x1, x2⟩ := nb b l e
  obtain ⟨b1, b2⟩ := ok.bgt b l e
  refine ⟨?_, ?_, (ok.fr.bgA b l e).2.2⟩
  ·show (if b = a \/ b ∈ rs then some (i + 2) else B b) ≠ none
   rw [if_neg x1, b1]; simp
  ·show (if l = a \/ l ∈ rs then some (i + 2) else B l) ≠ none
   rw [if_neg x2, b2]; simp
 ·obtain ⟨x1, x2⟩ := nb b l e
  simp only [if_neg x1, if_neg x2]
  exact ok.bgt b l e
 ·rw [List.getElem?_set] at e
  rw [List.getElem?_set]
  by_cases q : i = j
  ·subst q
   rw [if_pos rfl] at e ⊢
   split at e
   ·rename_i hl
    cases e
    rw [if_pos (by rw [← ok.len]; exact hl)]
    refine ⟨_, rfl, a, rs, rfl, if_pos (.inl rfl), n1, nd, RowL.noL (F := FxB B bg) (fun c hc => ?_) hn rl fun r hr => if_pos (.inr hr)⟩
    have hc' : (if c = a \/ c ∈ rs then some (i + 2) else B c) ≠ none := hc
    by_cases w : c = a \/ c ∈ rs
    ·rcases w with rfl | w
     ·exact .inr ⟨_, n1⟩
     ·exact .inr (rl.all c w).2
    ·rw [if_neg w] at hc'
     exact .inl hc'
   ·cases e
  ·rw [if_neg q] at e ⊢
   obtain ⟨w, h1, h2⟩ := ok.tell j s e
   refine ⟨w, h1, ?_⟩
   cases s with
   | sh d => exact Den.tr tr _ _ h2
   | own cs =>
    obtain ⟨c, ys, e1, e2, e3, e4⟩ := h2
    have na : ¬ (c = a \/ c ∈ rs) := fun z => by rw [hno c z] at e3; cases e3
    exact ⟨c, ys, e1, by simp only [if_neg na]; exact e2, t.kp c _ e3 (fun b l z => ⟨fun y => (by subst y; rw [(ok.bgt _ _ z).1] at e2; cases e2), fun y => (by subst y; rw [(ok.bgt _ _ z).2] at e2; cases e2)⟩), DenL.tr tr _ _ e4⟩
   | grd rows2 =>
    obtain ⟨c, qs, e1, e2, e3, e4, e5⟩ := h2
    have na : ∀ c, H c ≠ none -> ¬ (c = a \/ c ∈ rs) := fun c hc z => hc (hno c z)
    have kk : ∀ c o, H c = some o -> B c = some (j + 2) -> H' c = some o := fun c o h1 h2 => t.kp c o h1 (fun b l z => ⟨fun y => (by subst y; rw [(ok.bgt _ _ z).1] at h2; cases h2), fun y => (by subst y; rw [(ok.bgt _ _ z).2] at h2; cases h2)⟩)
    exact ⟨c, qs, e1, by simp only [if_neg (na c (by rw [e3]; simp))]; exact e2, kk c _ e3 e2, e4, RowL.tr tr e5 fun r xs _ p y => ⟨by simp only [if_neg (na r (by rw [y]; simp))]; exact p, kk r _ y p⟩⟩
end
section
variable {X : Cx} {E : St -> XK} {K : Frag} {st : Stmt} {H₀ : Hp} {B : Ow} {bg : Option (Addr × Addr)} {H H' : Hp} {δ : Ds} {β β' : Bg} {σ : St}
def kB (i : Nat) (f : Dn -> M (List (List D))) : G := fun δ β => match f (vw δ) β with
 | some (.ok rows, β1) => if (rows.all noLs) = true then some (.nx (δ.set i (some (.grd rows))), β1) else none
 | some (.error C, β1) => some (.ex C δ, β1)
 | none => none
theorem xN {i : Nat} {f : Dn -> M (List (List D))} (h : PS X st (iz (tVG X.K f E) (dZ i))) : PS X st (tG X.K X.H₀ (kB i f) E) := h.imp fun D σ H h_ => by
 obtain ⟨B, bg, δ, β, o, β', ok, e, q⟩ := h_
 refine ⟨FxB B bg, vw δ, β, ok.fr, ok.view, ?_⟩
 unfold kB at e
 split at e
 ·rename_i rows β1 e1
  split at e
  ·rename_i hn
   cases e
   refine ⟨.ok rows, _, e1, fun v H' t hd => ?_⟩
   obtain ⟨B', ok2, s2⟩ := ok.newGrd (i := i) t (fun ds hds => List.all_eq_true.mp hn ds hds) hd
   exact q _ _ _ s2 ok2
  ·cases e
 ·rename_i C β1 e1
  cases e
  refine ⟨.error C, _, e1, fun H' t => ?_⟩
  obtain ⟨ok2, s2⟩ := ok.to rfl t
  exact q _ B H' s2 ok2
 ·cases e
theorem RowL.put {F : Fx} {H : Hp} {P : Addr -> Prop} {r : Addr} {xs : List V} {ds : List D} (t : Tr F H F (upd H r (.lst xs))) (hd : DenL K F (upd H r (.lst xs)) ds xs) : ∀ {rows : List (List D)} {rs : List Addr} (j : Nat), RowL K F H P rows rs -> rs.Nodup -> rs[j]? = some r -> RowL K F (upd H r (.lst xs)) P (rows.set j ds) rs
 | d0 :: rows, r0 :: rs, 0, h, nd, e => by
  obtain rfl : r0 = r := by simpa using e
  have ne : ∀ r' ∈ rs, r' ≠ r0 := fun r' hr z => (List.nodup_cons.mp nd).1 (z ▸ hr)
  exact ⟨h.1, ⟨xs, ax, hd⟩, RowL.tr t h.2.2 fun r' ys hr p q => ⟨p, by rw [upd_ne (ne r' hr)]; exact q⟩⟩
 | d0 :: rows, r0 :: rs, j + 1, h, nd, e => by
  have e' : rs[j]? = some r := by simpa using e
  obtain ⟨h1, ⟨ys, h2, h3⟩, h4⟩ := h
  have ne : r0 ≠ r := fun z => (List.nodup_cons.mp nd).1 (z ▸ List.mem_of_getElem? e')
  exact ⟨h1, ⟨ys, by rw [upd_ne ne]; exact h2, DenL.tr t _ _ h3⟩, RowL.put t hd j h4 (List.nodup_cons.mp nd).2 e'⟩
 | [], [], _, _, _, e => by simp at e
 | [], _ :: _, _, h, _, _ => h.elim
 | _ :: _, [], _, h, _, _ => h.elim
theorem RowL.at {F : Fx} {H : Hp} {P : Addr -> Prop} : ∀ {rows : List (List D)} {rs : List Addr} {j : Nat} {ds : List D}, RowL K F H P rows rs -> rows[j]? = some ds -> ∃ r xs, rs[j]? = some r /\ P r /\ H r = some (.lst xs) /\ DenL K F H ds xs
 | d0 :: rows, r0 :: rs, 0, ds, h, e => by
  obtain rfl : d0 = ds := by simpa using e
  obtain ⟨h1, ⟨ys, h2, h3⟩, h4⟩ := h
  exact ⟨r0, ys, rfl, h1, h2, h3⟩
 | d0 :: rows, r0 :: rs, j + 1, ds, h, e => by
  obtain ⟨r, xs, e1, e2⟩ := RowL.at h.2.2 (j := j) (ds := ds) (by simpa using e)
  exact ⟨r, xs, by simpa using e1, e2⟩
 | [], [], _, _, _, e => by simp at e
 | [], _ :: _, _, _, h, _ => h.elim
 | _ :: _, [], _, _, h, _ => h.elim
theorem SOk.writeRow {i j : Nat} {a r : Addr} {rs : List Addr} {rows : List (List D)} {ds : List D} {xs ys : List V} (ok : SOk K H₀ B bg H δ β σ) (hs : σ[i]? = some (some (.ref a))) (hB : B a = some (i + 2)) (ha : H a = some (.lst (rs.map V.ref))) (nd : (a :: rs).Nodup) (rl : RowL K (FxB B bg) H (fun r => B r = some (i + 2)) rows rs) (hj : rs[j]? = some r) (hr : H r = some (.lst ys)) (hd : DenL K (FxB B bg) H ds xs) :
  SOk K H₀ B bg (upd H r (.lst xs)) (δ.set i (some (.grd (rows.set j ds)))) β σ /\ Stp B H B (upd H r (.lst xs)) := by
 have hrs : r ∈ rs := List.mem_of_getElem? hj
 have hBr : B r = some (i + 2) := (rl.all r hrs).1
 have stp : Stp B H B (upd H r (.lst xs)) := by
  refine ⟨fun c o h n => ?_, fun _ _ => rfl, fun _ _ _ n => n, fun c hc => ?_⟩
  ·rw [upd_ne]
   ·exact h
   ·intro z; subst z; rw [hBr] at n; rcases n with n | n <;> cases n
  ·by_cases z : c = r
   ·subst z; rw [ax]; simp
   ·rw [upd_ne z]; exact hc
 have tr : Tr (FxB B bg) H (FxB B bg) (upd H r (.lst xs)) := stp.tr
 refine ⟨⟨⟨fun c hc z => ?_, ok.fr.bgA, fun b l e => ?_⟩, ok.bgt, by rw [List.length_set, ok.len], fun a ha => stp.al a (ok.cov a ha), ok.new, fun c k hc => (by
  by_cases z : c = r
  ·subst z; exact ⟨xs, ax⟩
  ·rw [upd_ne z]; exact ok.lst c k hc), fun k s e => ?_⟩, stp⟩
 ·by_cases q : c = r
  ·subst q; rw [ax] at z; cases z
  ·rw [upd_ne q] at z; exact ok.fr.occ c hc z
 ·obtain ⟨b1, b2⟩ := ok.bgt b l e
  rw [upd_ne (fun z => by subst z; rw [hBr] at b1; cases b1), upd_ne (fun z => by subst z; rw [hBr] at b2; cases b2)]
  exact ok.fr.bag b l e
 ·rw [List.getElem?_set] at e
  by_cases q : i = k
  ·subst q
   rw [if_pos rfl] at e
   split at e
   ·cases e
    have nar : a ≠ r := fun z => (List.nodup_cons.mp nd).1 (z ▸ hrs)
    exact ⟨_, hs, a, rs, rfl, hB, by rw [upd_ne nar]; exact ha, nd, RowL.put tr (DenL.tr tr _ _ hd) j rl (List.nodup_cons.mp nd).2 hj⟩
   ·cases e
  ·rw [if_neg q] at e
   obtain ⟨v, h1, h2⟩ := ok.tell k s e
   refine ⟨v, h1, ?_⟩
   have na : ∀ c, B c = some (k + 2) -> c ≠ r := fun c e2 z => by subst z; rw [hBr] at e2; cases e2; exact q rfl
   cases s with
   | sh d => exact Den.tr tr _ _ h2
   | own cs =>
    obtain ⟨c, zs, e1, e2, e3, e4⟩ := h2
    exact ⟨c, zs, e1, e2, by rw [upd_ne (na c e2)]; exact e3, DenL.tr tr _ _ e4⟩
   | grd rows2 =>
    obtain ⟨c, qs, e1, e2, e3, e4, e5⟩ := h2
    exact ⟨c, qs, e1, e2, by rw [upd_ne (na c e2)]; exact e3, e4, RowL.tr tr e5 fun r zs _ p q => ⟨p, by rw [upd_ne (na r p)]; exact q⟩⟩
end
section
variable {P : Program} {w : World} {K : Frag} {mg : Str -> Option Value} {base : Heap}
end
section
variable {X : Cx} {E : St -> XK} {e : Expr} {es : List Expr} {pos p : Pos} {x : Str} {k n : Nat} {f : Addr} {fd : FuncData} {ps : List Str}
end
section
variable {X : Cx} {E : St -> XK} {K : Frag} {elt target iter : Expr} {ifs : List Expr} {rest : List Comprehension} {scope : Scope} {pos : Pos} {Nc vars : List Str} {caps : List Nat} {g : TG} {tb : Addr -> TB}
theorem z5 {it : Dn -> M (List D)} {tg : TgF} {tt : Dn -> M Bool} {b : Dn -> M (List (List D))} {i : Nat} {x : Str} {pos' spos : Pos} (hN : X.N.Nodup) (hi' : X.N[i]? = some x) (hx : Loc X.env.scope x) (hc : X.calm = true) (S : CmpScope X scope Nc vars caps) (hi : PI X target iter (iV X.K it E))
  (hb : ∀ (cl : List (Str × Addr)) (C : Addr) (fp : List Addr) (s : Shared) (H : Hp), PG (bw X Nc scope cl C fp s H) target g /\ fZ (bw X Nc scope cl C fp s H) ifs (tVT X.K tt E0) /\ ∀ D, PB (bw X Nc scope cl C fp s H) elt (⟨target, iter, ifs, 0⟩ :: rest) scope pos 0 D (tb D))
  (lg : eU X.K g tg) (sg : gF tg) (lb : ∀ D, ou X.K D (tb D) b)
  (hsw : swapsWith (.ListComp elt (⟨target, iter, ifs, 0⟩ :: rest) scope pos) (some (.Name x pos')) spos.line X.env = pure true := by rfl)
  (hs : ∀ x, foldedSetIterable iter X.env x = pure x := by intro _; rfl) (hf : X.fn x = true \/ X.env.scope.names.lookup x = some .local := by first | exact .inl rfl | exact .inr rfl | assumption) :
  PS X (.Assign [.Name x pos'] (.ListComp elt (⟨target, iter, ifs, 0⟩ :: rest) scope pos) spos) (tG X.K X.H₀ (kB i (il vars.length caps it tg tt b)) E) :=
 xN ((qo hN hi' hx hc S hi hb hsw hs hf).imp fun D σ H h => tq lg sg lb h)
end
end L2.Pu
namespace L2
open PySem PySem.Spec PyProof.Rows
section
variable {X : Cx}
theorem vV {bs : List Bool} {its : List Value} (r : ar (bs.map V.bl) its) {i : Nat} {v : Value} (h : its.toArray[i]? = some v) : v = .bool (bs.getD i false) := by
 have h' : its[i]? = some v := by simpa using h
 have hl := r.length
 rw [List.length_map] at hl
 have hi : i < bs.length := by rw [hl]; exact (List.getElem?_eq_some_iff.mp h').1
 obtain ⟨u, hu, ru⟩ := r.get (i := i) (x := V.bl bs[i]) (by rw [List.getElem?_map, List.getElem?_eq_getElem hi]; rfl)
 rw [h'] at hu
 cases hu
 rw [List.getD_eq_getElem?_getD, List.getElem?_eq_getElem hi]
 exact ru
theorem tQ {α : Type} (f : Bool -> Bool) (bs : List Bool) : (List.range bs.length).map (fun i => bs.getD i false) = bs := by
 apply List.ext_getElem?
 intro i
 rw [List.getElem?_map]
 by_cases h : i < bs.length
 ·rw [List.getElem?_range h, List.getElem?_eq_getElem h]
  simp [List.getD_eq_getElem?_getD, List.getElem?_eq_getElem h]
 ·rw [List.getElem?_eq_none (by simpa using h), List.getElem?_eq_none (by omega)]; rfl
theorem tR (bs : List Bool) : ((List.range bs.length).any fun i => bs.getD i false) = bs.any id := by
 conv => rhs; rw [← tQ (α := Bool) id bs]
 rw [List.any_map]
 rfl
theorem nu (hc : X.calm = true) : cZ X (.builtin "any") (fun xs H Q => ∃ (a : Addr) (bs : List Bool), xs = [.ref a] /\ SqL X.K H a (bs.map V.bl) /\ Q (.bl (bs.any id)) H) := by
 intro pins s σ H xs us Q I r h
 obtain ⟨a, bs, rfl, hq, q⟩ := h
 cases r with
 | cons r1 r2 =>
  cases r1
  cases r2
  obtain ⟨its, rv, p, hz⟩ := I.list hq
  have hl := p.isList
  have hlen : its.toArray.size = bs.length := by rw [List.size_toArray, ← rv.length, List.length_map]
  have hfr : ∀ b o, s.heap.get? b = some o -> b ≠ s.heap.objs.size := fun b o e z => by
   rw [z, Heap.get?_none_of_le (Nat.le_refl _)] at e
   cases e
  have hne : a ≠ s.heap.objs.size := by
   obtain ⟨o, e, _⟩ := hl
   exact hfr a o e
  have W := Walks.list (prog := X.prog) (w := X.w) (A := X.A.in1) (show X.A.in1.handled = none from I.ok.hd hc) s.heap.objs.size a hne its.toArray
  refine call_any_walk (wpAny_pyIter_list hl ⟨s.heap.objs.size, [s.heap.objs.size, a], [s.heap.objs.size], its.toArray.size, _, _, fun i => bs.getD i false, rfl, W, ⟨⟨_, Heap.get?_push_size s.heap rfl, rfl, rfl⟩, hl.push _⟩, fun i v s' Q' E' hv q' => ?_, fun h' tk hk => ?_⟩)
  ·rw [vV rv hv]
   exact wpAny_truthy_bool q'
  ·rw [hlen, tR]
   exact ⟨.bl (bs.any id), H, I.kept fun b o e => hk b o (fun z => hfr b o e (by simpa using z)) (Heap.get?_push_of_some _ e), rfl, q⟩
end
end L2
namespace L2.Pu
open PySem PySem.Spec PyProof.Rows
def c9 : List D -> Option (List Bool)
 | [] => some []
 | .bl b :: r => (c9 r).map (b :: ·)
 | _ => none
theorem ki {K : Frag} {F : Fx} {H : Hp} : ∀ {ds : List D} {xs : List V} {bs : List Bool}, c9 ds = some bs -> DenL K F H ds xs -> xs = bs.map V.bl
 | [], xs, bs, e, h => by
  cases e
  cases h
  rfl
 | d :: ds, xs, bs, e, h => by
  obtain ⟨x, xr, rfl, h1, h2⟩ := h
  cases d <;> first
   | (rename_i b
      cases q : c9 ds with
      | none => simp [c9, q] at e
      | some r =>
      simp [c9, q] at e
      subst e
      cases h1.bl
      rw [ki q h2]
      rfl)
   | simp [c9] at e
def mS : List D -> Option D
 | [.lst ds] => (c9 ds).map fun bs => .bl (bs.any id)
 | _ => none
variable {K : Frag}
theorem x9 : dN K (fun xs H Q => ∃ (a : Addr) (bs : List Bool), xs = [.ref a] /\ SqL K H a (bs.map V.bl) /\ Q (.bl (bs.any id)) H) mS := fun F H β Q ds d vs fr h e k => by
 unfold mS at e
 split at e
 ·obtain ⟨v, rfl, g⟩ := DenL.one h
  obtain ⟨a, xs, rfl, r, dl⟩ := Den.sqL g
  obtain ⟨bs, q, e⟩ := Option.map_eq_some_iff.mp e
  subst e
  rw [ki q dl] at r
  exact ⟨a, bs, rfl, r, k _ H (To.refl fr) rfl⟩
 ·cases e
end L2.Pu
namespace L2
open PySem PySem.Spec PyProof.Rows
section
variable {X : Cx} {a b c d : Expr} {ta tb tc td : TE} {pos : Pos}
end
end L2
namespace L2.Pu
open PySem PySem.Spec PyProof.Rows
section
variable {X : Cx} {E : St -> XK} {a b c d : Expr} {pos : Pos} {K : Frag}
end
section
variable {X : Cx} {E : St -> XK} {K : Frag} {st : Stmt} {H₀ : Hp} {B : Ow} {bg : Option (Addr × Addr)} {H H' : Hp} {δ : Ds} {β β' : Bg} {σ : St}
end
section
variable {X : Cx} {E : St -> XK} {K : Frag} {st : Stmt} {H₀ : Hp} {B : Ow} {bg : Option (Addr × Addr)} {H H' : Hp} {δ : Ds} {β β' : Bg} {σ : St}
theorem SOk.AtoB (ok : SOk K H₀ B bg H δ β σ) : ∀ c, (FxB B bg).A c -> (FxA B bg).A c \/ ∃ xs, H c = some (.lst xs) := fun c hc => by
 have hc' : B c ≠ none := hc
 cases q : B c with
 | none => exact absurd q hc'
 | some k =>
  match k, q with
  | 0, q => exact .inl (.inl q)
  | 1, q => exact .inl (.inr q)
  | k + 2, q => exact .inr (ok.lst c k q)
theorem SOk.noB {d : D} {v : V} (ok : SOk K H₀ B bg H δ β σ) (hn : noL d = true) (h : Den K (FxA B bg) H d v) : Den K (FxB B bg) H d v := ml ok.AtoB d v hn h
def iQ (i : Nat) (fa fb fv : Dn -> M D) : G := fun δ β => match fv (vwA δ) β with
 | some (.ok d, β1) => match fa (vwA δ) β1 with
  | some (.ok (.int ka), β2) => match fb (vwA δ) β2 with
   | some (.ok (.int kb), β3) => match δ.getD i none with
    | some (.grd rows) => match ixN rows.length ka with
     | some ja => match rows[ja]? with
      | some ds => match ixN ds.length kb with
       | some jb => if noL d = true then some (.nx (δ.set i (some (.grd (rows.set ja (ds.set jb d))))), β3) else none
       | none => none
      | none => none
     | none => none
    | _ => none
   | _ => none
  | _ => none
 | _ => none
theorem oW {i : Nat} {fa fb fv : Dn -> M D} (h : PS X st (iz (tV X.K fv E) (AR (tOp (re X.K) (oG i) (tV X.K fa E)) (tV X.K fb E) xP))) : PS X st (tG X.K X.H₀ (iQ i fa fb fv) E) := h.imp fun D σ H h_ => by
 obtain ⟨B, bg, δ, β, o, β', ok, e, q⟩ := h_
 refine ⟨FxA B bg, vwA δ, β, ok.frA, ok.viewA, ?_⟩
 unfold iQ at e
 split at e
 ·rename_i d β1 e1
  refine ⟨.ok d, _, e1, fun v H1 t1 hd => ?_⟩
  obtain ⟨ok1, s1⟩ := ok.to rfl t1
  split at e
  ·rename_i ka β2 e2
   split at e
   ·rename_i kb β3 e3
    split at e
    ·rename_i rows ec
     split at e
     ·rename_i ja ea
      split at e
      ·rename_i ds er
       split at e
       ·rename_i jb eb
        split at e
        ·rename_i hnl
         cases e
         have hd := ok1.noB hnl hd
         obtain ⟨w, h1, a, rs, rfl, hB, ha, nd, rl⟩ := ok1.tell i _ (jD ec)
         refine ⟨_, h1, FxA B bg, vwA δ, β1, ok1.frA, ok1.viewA, .ok (.int ka), β2, e2, fun y H2 t2 hy => ?_⟩
         cases hy
         obtain ⟨ok2, s2⟩ := ok1.to (F := FxA B bg) rfl t2
         obtain ⟨w2, h2, a2, rs2, ew, hB2, ha2, nd2, rl2⟩ := ok2.tell i _ (jD ec)
         rw [h1] at h2
         cases h2
         cases ew
         obtain ⟨r, xs, hr, hp, hx, dl⟩ := rl2.at er
         refine ⟨a, rs2.map V.ref, ka, .ref r, rfl, rfl, SqL.of ha2, ?_, ?_⟩
         ·unfold atI
          rw [List.length_map, ← rl2.len, ea]
          show (rs2.map V.ref)[ja]? = _
          rw [List.getElem?_map, hr]; rfl
         ·refine ⟨FxA B bg, vwA δ, β2, ok2.frA, ok2.viewA, .ok (.int kb), _, e3, fun z H3 t3 hz => ?_⟩
          cases hz
          obtain ⟨ok3, s3⟩ := ok2.to (F := FxA B bg) rfl t3
          obtain ⟨w3, h3, a3, rs3, ew3, hB3, ha3, nd3, rl3⟩ := ok3.tell i _ (jD ec)
          rw [h1] at h3
          cases h3
          cases ew3
          have ers : rs2 = rs3 := by
           have k1 : H3 a = some (.lst (rs2.map V.ref)) := t3.kp a _ ha2 (fun b l y => ⟨fun w => (by subst w; rw [(ok.bgt _ _ y).1] at hB2; cases hB2), fun w => (by subst w; rw [(ok.bgt _ _ y).2] at hB2; cases hB2)⟩)
           rw [ha3] at k1
           have k2 : rs3.map V.ref = rs2.map V.ref := by injection k1 with k1; injection k1
           exact (List.map_inj_right (fun a b q => by cases q; rfl) |>.mp k2).symm
          subst ers
          obtain ⟨r', xs', hr', hp', hx', dl'⟩ := rl3.at er
          rw [hr] at hr'
          cases hr'
          have hv3 : Den X.K (FxB B bg) H3 d v := Den.tr (s3.tr) _ _ (Den.tr (s2.tr) _ _ hd)
          refine ⟨r, xs', kb, jb, rfl, rfl, hx', by rw [← dl'.length]; exact eb, ?_⟩
          obtain ⟨ok4, s4⟩ := ok3.writeRow (ds := ds.set jb d) (xs := xs'.set jb v) h1 hB3 ha3 nd3 rl3 hr hx' (DenL.set jb dl' hv3)
          exact q _ _ _ (s1.trans (s2.trans (s3.trans s4))) ok4
        ·cases e
       ·cases e
      ·cases e
     ·cases e
    ·cases e
   ·cases e
  ·cases e
 ·cases e
end
section
variable {X : Cx} {E : St -> XK} {K : Frag} {a b e : Expr} {es : List Expr} {pos : Pos}
def o2 (op : D -> D -> Option (List D)) (f g : Dn -> M D) : Dn -> M (List D) := fun δ => M.bind (f δ) fun a => M.bind (g δ) fun b => M.ofO (op a b)
end
def Ite (K : Frag) (l : Addr) : It :=
 ⟨fun i H => ∃ xs x, SqL K H l xs /\ xs[i]? = some x,
  fun i H v H' => ∃ p x, H p = none /\ v = .ref p /\ H' = upd H p (.tup [.int (i : Int), x]) /\ ∀ xs, SqL K H l xs -> xs[i]? = some x,
  fun i H => ∃ xs, SqL K H l xs /\ xs.length = i⟩
theorem s0 {P : Program} {w : World} {K : Frag} {elts : List Expr} {x1} {pos : Pos} (l e it : Addr) (nei : e ≠ it) :
  Turn P w K (.Tuple elts x1 pos) (Ite K l) [e, it] e (fun i h => (∃ old, IsEnum h e it (i : Int) old) /\ h.IsListIter it l i) where
 mem := by simp
 obj := fun i h st b hb => by
  obtain ⟨⟨old, ee⟩, si⟩ := st
  simp only [List.mem_cons, List.not_mem_nil, or_false] at hb
  rcases hb with rfl | rfl
  ·exact ⟨_, ee, fun v q => by cases q⟩
  ·obtain ⟨o, q, _, d⟩ := si
   exact ⟨o, q, fun v z => by rw [d] at z; cases z⟩
 keep := fun i h h' st k => by
  obtain ⟨⟨old, ee⟩, si⟩ := st
  exact ⟨⟨old, k e (by simp) _ ee⟩, si.at fun o q => k it (by simp) o q⟩
 item := by
  intro X hP hw hK hc i pins s σ H E I hf st hg
  subst hP hw hK
  obtain ⟨xs, x, q1, hx⟩ := hg
  obtain ⟨⟨old, ee⟩, si⟩ := st
  obtain ⟨is1, r1, p1⟩ := Inv.src (b := true) I q1
  have hd := I.ok.hd hc
  have ne : l ≠ e := Inv.src_ne (b := true) I q1 (hf e (by simp))
  have ni : l ≠ it := Inv.src_ne (b := true) I q1 (hf it (by simp))
  have k1 : i < is1.toArray.size := by
   rw [List.size_toArray, ← r1.length]; exact (List.getElem?_eq_some_iff.mp hx).1
  refine wpAny_pyNext_enum_itemD (Draws.list (show (X.A.in1).handled = none from hd) it l ni is1.toArray) ee ⟨si, p1⟩ k1 nei (by simp [nei, ne.symm]) fun u h' tk pu fo f1 fT sz kp => ?_
  refine ⟨_, rfl, wpAny_letOwnedTupleGo_enum (s := { s with heap := h', toks := tk + 1 }) fo fun h'' ez'' sb => ?_⟩
  replace sb : Heap.SameBut e h' h'' := sb
  have zT : s.heap.objs.size ≠ e := Nat.ne_of_gt (Heap.lt_size ee)
  obtain ⟨u', hu, ru⟩ := r1.get hx
  have eu : u = u' := by
   have : is1[i]? = some u := by simpa using pu
   rw [this] at hu; exact Option.some.inj hu
  subst eu
  have kk : ∀ b o, b ∉ [e, it] -> s.heap.get? b = some o -> h''.get? b = some o := fun b o hb q => by
   simp only [List.mem_cons, List.not_mem_nil, or_false, not_or] at hb
   exact sb.extBut b o hb.1 (kp b o hb.1 hb.2 q)
  have I2 : Inv X pins σ (upd H s.heap.objs.size (.tup [.int (i : Int), x])) { s with heap := h'', toks := tk + 1 } := by
   refine Inv.turnNew I hf kk (Nat.le_refl _) ⟨by show 2 <= sizeLine; decide, [.int i tk, u], .cons ⟨_, rfl⟩ (.cons ru .nil), _, sb.extBut _ _ zT fT, rfl, _, rfl⟩
  refine ⟨.ref s.heap.objs.size, _, I2, rfl, ⟨s.heap.objs.size, x, I.hok.fresh (Nat.le_refl _), rfl, rfl, fun as h1 => by rw [Inv.src_inj (b := true) I h1 q1]; exact hx⟩, ⟨⟨_, by simpa using ez''⟩, ?_⟩, fun b hb => ?_⟩
  ·exact f1.1.at fun o q => sb.extBut _ _ nei.symm q
  ·rw [upd_ne]
   ·exact (hf b hb).1
   ·intro q
    have ol : ∃ o, s.heap.get? b = some o := by
     simp only [List.mem_cons, List.not_mem_nil, or_false] at hb
     rcases hb with rfl | rfl
     ·exact ⟨_, ee⟩
     ·obtain ⟨o, z, _⟩ := si; exact ⟨o, z⟩
    obtain ⟨o, z⟩ := ol
    exact absurd (Heap.lt_size z) (by rw [q]; exact Nat.lt_irrefl _)
 done := by
  intro X hP hw hK hc i pins s σ H E I hf st hg
  subst hP hw hK
  obtain ⟨xs, q1, hl⟩ := hg
  obtain ⟨⟨old, ee⟩, si⟩ := st
  obtain ⟨is1, r1, p1⟩ := Inv.src (b := true) I q1
  have hd := I.ok.hd hc
  have ni : l ≠ it := Inv.src_ne (b := true) I q1 (hf it (by simp))
  have g1 : is1.toArray.size = i := by rw [List.size_toArray, ← r1.length, hl]
  refine wpAny_pyNext_enum_endD (n := is1.toArray.size) (Draws.list (show (X.A.in1).handled = none from hd) it l ni is1.toArray) ee (by rw [g1]; exact ⟨si, p1⟩) fun h' kp => ⟨rfl, ?_⟩
  refine Inv.turnL (t' := s.toks) I hf fun b o hb q => ?_
  simp only [List.mem_cons, List.not_mem_nil, or_false, not_or] at hb
  exact kp b o hb.2 q
 self := fun _ _ _ _ _ st h => by
  obtain ⟨⟨old, ee⟩, si⟩ := st
  exact wpAny_pyIter_enum ee h
section
variable {X : Cx} {E : St -> XK} {K : Frag}
def iEn (K : Frag) (ta : TA) : TI := fun σ H R => ta σ H fun vs H1 => ∃ l xs, vs = [.ref l] /\ SqL K H1 l xs /\ R (Ite K l) H1
theorem yK {a : Expr} {ta : TA} {p pos : Pos} {elts : List Expr} {x1} {tpos : Pos} (hg : Gl X "enumerate") (hm : X.mg "enumerate" = none) (ha : PA X [a] ta) (hs : starEach [a] X.env = [(false, eval a X.env)] := by rfl) :
  PI X (.Tuple elts x1 tpos) (.Call (.Name "enumerate" p) [a] [] pos) (iEn X.K ta) := by
 intro pins s σ H R I h
 refine Call_ (fP I hg hm PyProof.Rows.Boot.«enumerate» (PyProof.Rows.callWith_type1 (thn (ha pos pins s σ H _ I h) fun us s1 ⟨vs, H1, I1, r1, q1⟩ => ?_) (by rw [hs]; rfl) (by rfl)))
 obtain ⟨l, xs, e, q1, q⟩ := q1
 subst e
 cases r1 with
 | cons r rr =>
  cases rr
  cases r
  obtain ⟨is1, v1, p1⟩ := Inv.src (b := true) I1 q1
  refine call_enumerate_list p1 fun h' ee si sz kp => ?_
  refine wpAny_pyIter_enum (s := { s1 with heap := h' }) ee ?_
  have I2 : Inv X pins σ H1 { s1 with heap := h' } := I1.kept (t' := s1.toks) kp
  refine ⟨_, [s1.heap.objs.size + 1, s1.heap.objs.size], _, Ite X.K l, H1, rfl, I2, s0 l (s1.heap.objs.size + 1) s1.heap.objs.size (Nat.succ_ne_self _), ⟨⟨_, ee⟩, si⟩, fun c hc => ?_, q⟩
  have hge : s1.heap.objs.size <= c := by
   simp only [List.mem_cons, List.not_mem_nil, or_false] at hc
   rcases hc with rfl | rfl
   ·exact Nat.le_add_right _ _
   ·exact Nat.le_refl _
  exact I1.fpOk hge (I1.hok.fresh hge)
def cy : Nat -> List D -> List D
 | _, [] => []
 | n, x :: xs => .tup [.int (n : Int), x] :: cy (n + 1) xs
theorem dC : ∀ (n : Nat) (xs : List D), (cy n xs).length = xs.length
 | _, [] => rfl
 | n, x :: xs => by
  show (cy (n + 1) xs).length + 1 = xs.length + 1
  rw [dC (n + 1) xs]
theorem jH : ∀ {n : Nat} {xs : List D} {i : Nat} {d : D}, (cy n xs)[i]? = some d -> ∃ x, xs[i]? = some x /\ d = .tup [.int ((n + i : Nat) : Int), x]
 | n, [], i, d, h => by simp [cy] at h
 | n, x :: xs, 0, d, h => by
  simp [cy] at h
  exact ⟨x, rfl, by rw [← h]; simp⟩
 | n, x :: xs, i + 1, d, h => by
  have h' : (cy (n + 1) xs)[i]? = some d := by simpa [cy] using h
  obtain ⟨a, e1, e3⟩ := jH h'
  exact ⟨a, by simpa using e1, by rw [e3, show n + 1 + i = n + (i + 1) by omega]⟩
def yi : List D -> Option (List D)
 | [.lst xs] => some (cy 0 xs)
 | _ => none
theorem vD {F : Fx} {H : Hp} {l : Addr} {ds : List D} (h1 : ∀ F2 H2, Tr F H F2 H2 -> ∃ xs, SqL K H2 l xs /\ DenL K F2 H2 ds xs) : ItD K (Ite K l) F H (cy 0 ds) := fun F2 H2 β2 t fr i => by
 obtain ⟨xs, s1, d1⟩ := h1 F2 H2 t
 refine ⟨fun d hd => ?_, fun hi => ?_⟩
 ·obtain ⟨x, e1, rfl⟩ := jH hd
  obtain ⟨u, hu, du⟩ := d1.get e1
  refine ⟨⟨xs, u, s1, hu⟩, fun z H3 hz => ?_⟩
  obtain ⟨p, u', hp, rfl, rfl, hh⟩ := hz
  have g1 := hh xs s1
  rw [hu] at g1
  cases g1
  rw [Nat.zero_add]
  exact ⟨bF.upd hp, Den.newT fr hp (DenL.cons rfl (DenL.cons du DenL.nil))⟩
 ·rw [dC] at hi
  exact ⟨xs, s1, by rw [← d1.length, hi]⟩
def jU (g : Dn -> M (List D)) : Dn -> M (List D) := bC yi g
theorem jC {a : Expr} {g : Dn -> M (List D)} {p pos : Pos} {elts : List Expr} {x1} {tpos : Pos} (hg : Gl X "enumerate") (hm : X.mg "enumerate" = none) (ha : PA X [a] (tVA X.K g E)) (hs : starEach [a] X.env = [(false, eval a X.env)] := by rfl) :
  PI X (.Tuple elts x1 tpos) (.Call (.Name "enumerate" p) [a] [] pos) (iV X.K (jU g) E) :=
 (yK hg hm ha hs).imp fun σ H R h_ => ex6 h_ fun F δ β fr vk h => ⟨F, δ, β, fr, vk, (run.bind (R := DenL X.K F) h).mono fun vs H1 h_ => by
  obtain ⟨ds, β1, t, hd, r1⟩ := h_
  obtain ⟨l, e, k⟩ := run.ofO r1
  unfold yi at e
  split at e
  ·rename_i xs
   cases e
   obtain ⟨v, rfl, h1⟩ := DenL.one hd
   have z : ∃ a, v = .ref a /\ ∀ F2 H2, Tr F H1 F2 H2 -> ∃ ys, SqL X.K H2 a ys /\ DenL X.K F2 H2 xs ys := by
    obtain ⟨a, ys, rfl, _⟩ := Den.sqL h1
    refine ⟨a, rfl, fun F2 H2 t2 => ?_⟩
    obtain ⟨a', ys', ea, sq, dl⟩ := Den.sqL (Den.tr t2 _ _ h1)
    cases ea
    exact ⟨ys', sq, dl⟩
   obtain ⟨a, rfl, z⟩ := z
   obtain ⟨us, g1, _⟩ := z F H1 (Tr.refl F H1)
   exact ⟨a, us, rfl, g1, k _ H1 (To.refl t.fr) (vD z)⟩
  ·cases e⟩
end
def dO (K : Frag) (fd : FuncData) (ps : List Str) (dd : List D) : Prop := ∃ ds dvs, aG K fd ps ds /\ ar dvs ds /\ ∀ F H, DenL K F H dd dvs
inductive Sr (α : Type) where
 | kw (j : Nat) | df (a : α)
def Sr.pick {α : Type} (z : α) (ws : List α) : Sr α -> α
 | .kw j => ws.getD j z
 | .df a => a
def gK {α : Type} (z : α) (n k : Nat) (src : List (Sr α)) (us ws : List α) : List α := if us.length = n /\ ws.length = k then us ++ src.map (Sr.pick z ws) else []
inductive SrR {α γ : Type} (R : α -> γ -> Prop) : List (Sr α) -> List (Sr γ) -> Prop where
 | nil : SrR R [] []
 | kw {j : Nat} {a : List (Sr α)} {c : List (Sr γ)} : SrR R a c -> SrR R (.kw j :: a) (.kw j :: c)
 | df {x : α} {y : γ} {a : List (Sr α)} {c : List (Sr γ)} : R x y -> SrR R a c -> SrR R (.df x :: a) (.df y :: c)
theorem ar.getD : ∀ {zs : List V} {ws : List Value} (j : Nat), ar zs ws -> aN (zs.getD j .non) (ws.getD j .none)
 | _, _, _, .nil => rfl
 | _, _, 0, .cons r _ => r
 | _, _, j + 1, .cons _ t => ar.getD j t
theorem SrR.vals {zs : List V} {ws : List Value} (r : ar zs ws) : ∀ {a : List (Sr V)} {c : List (Sr Value)}, SrR aN a c -> ar (a.map (Sr.pick .non zs)) (c.map (Sr.pick .none ws))
 | _, _, .nil => .nil
 | _, _, .kw (j := j) h => .cons (ar.getD j r) (SrR.vals r h)
 | _, _, .df q h => .cons q (SrR.vals r h)
theorem DenL.getD {K : Frag} {F : Fx} {H : Hp} : ∀ {ds : List D} {zs : List V} (j : Nat), DenL K F H ds zs -> Den K F H (ds.getD j .non) (zs.getD j .non)
 | [], zs, j, h => by have q : zs = [] := h; subst q; rfl
 | d :: ds, zs, 0, h => by
  obtain ⟨x, r, e, h1, h2⟩ := h
  subst e; exact h1
 | d :: ds, zs, j + 1, h => by
  obtain ⟨x, r, e, h1, h2⟩ := h
  subst e; exact DenL.getD j h2
theorem SrR.den {K : Frag} {F : Fx} {H : Hp} {ds : List D} {zs : List V} (r : DenL K F H ds zs) : ∀ {a : List (Sr D)} {c : List (Sr V)}, SrR (fun d v => ∀ F H, Den K F H d v) a c -> DenL K F H (a.map (Sr.pick .non ds)) (c.map (Sr.pick .non zs))
 | _, _, .nil => DenL.nil
 | _, _, .kw (j := j) h => DenL.cons (DenL.getD j r) (SrR.den r h)
 | _, _, .df q h => DenL.cons (q F H) (SrR.den r h)
theorem SrR.len {α γ : Type} {R : α -> γ -> Prop} : ∀ {a : List (Sr α)} {c : List (Sr γ)}, SrR R a c -> a.length = c.length
 | _, _, .nil => rfl
 | _, _, .kw h => by rw [List.length_cons, List.length_cons, SrR.len h]
 | _, _, .df _ h => by rw [List.length_cons, List.length_cons, SrR.len h]
structure KwOk (K : Frag) (fd : FuncData) (ps ks : List Str) (n : Nat) (src : List (Sr D)) : Prop where
 ex : ∃ (sv : List (Sr Value)) (sx : List (Sr V)), SrR aN sx sv /\ SrR (fun d v => ∀ F H, Den K F H d v) src sx /\ ∀ (s : Shared) (us ws : List Value), K.In s.heap -> us.length = n -> ws.length = ks.length -> BindsTo s fd ⟨us, ks.zip ws⟩ (ps.zip (us ++ sv.map (Sr.pick .none ws)))
 len : ps.length = n + src.length
 pos : 0 < ps.length
theorem KwOk.kb {K : Frag} {fd : FuncData} {ps ks : List Str} {n : Nat} {src : List (Sr D)} (h : KwOk K fd ps ks n src) : ∃ (sv : List (Sr Value)) (sx : List (Sr V)), SrR (fun d v => ∀ F H, Den K F H d v) src sx /\ KBinds K fd ps ks (gK .none n ks.length sv) (gK .non n ks.length sx) := by
 obtain ⟨sv, sx, r1, r2, b⟩ := h.ex
 refine ⟨sv, sx, r2, fun s us ws KX hl => ?_, fun {vs us zs ws} h1 h2 => ?_⟩
 ·unfold gK at hl ⊢
  split at hl
  ·rename_i q
   rw [if_pos q]
   exact b s us ws KX q.1 q.2
  ·exact absurd hl (by have := h.pos; simp; omega)
 ·unfold gK
  by_cases q : vs.length = n /\ zs.length = ks.length
  ·rw [if_pos q, if_pos (by rw [← h1.length, ← h2.length]; exact q)]
   exact h1.append (SrR.vals h2 r1)
  ·rw [if_neg q, if_neg (by rw [← h1.length, ← h2.length]; exact q)]
   exact .nil
section
variable {X : Cx} {E : St -> XK} {e : Expr} {es : List Expr} {pos p kpos : Pos} {x : Str} {k n : Nat} {f : Addr} {fd : FuncData} {ps ks : List Str} {kws : List Keyword} {nm : Option Str}
theorem zF : PK X [] (tVA X.K ah E) := fun pos pins s σ H Q I h_ => by obtain ⟨F, δ, β, fr, vk, r⟩ := h_; exact Ag pos pins s σ H Q I (run.ret fr r DenL.nil)
theorem yq {f : Dn -> M D} {g : Dn -> M (List D)} (ha : PE X e (tV X.K f E)) (hr : PK X kws (tVA X.K g E)) : PK X (⟨nm, e, kpos⟩ :: kws) (tVA X.K (ad f g) E) := fun pos pins s σ H Q I ⟨F, δ, β, fr, vk, r⟩ =>
 yI ha hr pos pins s σ H Q I ⟨F, δ, β, fr, vk, (run.bind (R := Den X.K F) r).mono fun v H1 ⟨d, β1, t, hd, r1⟩ =>
  ⟨F, δ, β1, t.fr, vk.tr (t.tr fr), (run.bind (R := DenL X.K F) r1).mono fun vs H2 h_ => ex5 h_ fun ds β2 t2 hds r2 => run.ret t2.fr r2 (DenL.cons (Den.tr (t2.tr t.fr) _ _ hd) hds)⟩⟩
end
section
variable {X : Cx} {E : St -> XK} {e : Expr} {es : List Expr} {pos p kpos : Pos} {x : Str} {k n : Nat} {f : Addr} {fd : FuncData} {ps ks : List Str}
end
section
variable {X : Cx} {E : St -> XK} {K : Frag} {st : Stmt}
end
def Gw (g : G) (δ : Ds) (β : Bg) (Q : Out -> Bg -> Prop) : Prop := ∃ o β', g δ β = some (o, β') /\ Q o β'
section
variable {g h a b g1 g2 : G} {δ δ1 : Ds} {β β1 β2 β3 : Bg} {Q R : Out -> Bg -> Prop} {i : Nat} {f fa fb fv : Dn -> M D} {fl : Dn -> M (List D)} {fg : Dn -> M (List (List D))} {d x y z : D} {ds as : List D} {t : Dn -> M Bool} {c : Bool} {C : Addr} {K : Frag}
theorem Gw.mono (k : Gw g δ β R) (q : ∀ o β, R o β -> Q o β) : Gw g δ β Q := let ⟨o, β', e, r⟩ := k; ⟨o, β', e, q _ _ r⟩
theorem yC : ai g gNil = g := by
 funext δ β
 unfold ai gNil
 split
 ·rename_i δ1 β1 e; exact e.symm
 ·rfl
theorem au (k : Gw (ai g gNil) δ β Q) : Gw g δ β Q := by rw [yC] at k; exact k
theorem aZ (q : Q (.nx δ) β) : Gw gNil δ β Q := ⟨_, _, rfl, q⟩
theorem fm (e : g δ β = some (.nx δ1, β1)) (k : Gw h δ1 β1 Q) : Gw (ai g h) δ β Q := by
 obtain ⟨o, β', e', q⟩ := k
 exact ⟨o, β', by unfold ai; rw [e]; exact e', q⟩
theorem aQ (k : Gw h δ β Q) : Gw (ai gNil h) δ β Q := fm rfl k
theorem aK (e : f (vw δ) β = some (.ok d, β1)) (k : Gw h (δ.set i (some (.sh d))) β1 Q) : Gw (ai (aI i f) h) δ β Q := fm (by unfold aI; rw [e]) k
theorem zE (e : f (vwA δ) β = some (.ok d, β1)) (k : Gw h (δ.set i (some (.sh d))) β1 Q) (hf : dL d = true := by rfl) : Gw (ai (eK i f) h) δ β Q := fm (by unfold eK; simp only [e, hf, if_true]) k
theorem zD (e : g δ β = some (.ex C δ1, β1)) (q : Q (.ex C δ1) β1) : Gw (ai g h) δ β Q := ⟨_, _, by unfold ai; rw [e], q⟩
theorem kI (e : f (vwA δ) β = some (.ok d, β1)) (k : Gw h δ β1 Q) : Gw (ai (dn f) h) δ β Q := fm (by unfold dn; rw [e]) k
theorem gq (e : t (vwA δ) β = some (.ok c, β1)) (k : Gw (ai (if c = true then g1 else g2) h) δ β1 Q) : Gw (ai (gIf t g1 g2) h) δ β Q := by
 obtain ⟨o, β', e', q⟩ := k
 refine ⟨o, β', ?_, q⟩
 rw [← e']
 unfold ai gIf
 rw [e]
 cases c <;> rfl
theorem fq (e : t (vwA δ) β = some (.ok true, β1)) (k : Gw (ai g1 h) δ β1 Q) : Gw (ai (gIf t g1 g2) h) δ β Q := gq e k
theorem aY (e : t (vwA δ) β = some (.ok false, β1)) (k : Gw (ai g2 h) δ β1 Q) : Gw (ai (gIf t g1 g2) h) δ β Q := gq e k
theorem aP (e : f (vwA δ) β = some (.ok d, β1)) (q : Q (.rt d) β1) : Gw (ai (aE f) h) δ β Q := ⟨_, _, by unfold ai aE; rw [e], q⟩
theorem gf (e : fl (vwA δ) β = some (.ok ds, β1)) (q : Q (.ex C δ) β1) : Gw (ai (bJ C fl) h) δ β Q := zD (by unfold bJ; rw [e]) q
theorem xF {rows : List (List D)} (e : fg (vw δ) β = some (.ok rows, β1)) (hn : rows.all noLs = true) (k : Gw h (δ.set i (some (.grd rows))) β1 Q) : Gw (ai (kB i fg) h) δ β Q := fm (by unfold kB; simp only [e, hn, if_true]) k
theorem qV {rows : List (List D)} {ka kb : Int} {ja jb : Nat} (e1 : fv (vwA δ) β = some (.ok d, β1)) (e2 : fa (vwA δ) β1 = some (.ok (.int ka), β2)) (e3 : fb (vwA δ) β2 = some (.ok (.int kb), β3)) (eg : δ.getD i none = some (.grd rows))
  (h1 : ixN rows.length ka = some ja) (h2 : rows[ja]? = some ds) (h3 : ixN ds.length kb = some jb) (hn : noL d = true) (k : Gw h (δ.set i (some (.grd (rows.set ja (ds.set jb d))))) β3 Q) : Gw (ai (iQ i fa fb fv) h) δ β Q :=
 fm (by unfold iQ; simp only [e1, e2, e3, eg, h1, h2, h3, hn, if_true]) k
def Tn (I : Ds -> Bg -> Prop) (h : G) (Q : Out -> Bg -> Prop) : Out -> Bg -> Prop := fun o β => match o with
 | .nx δ => I δ β
 | .ct δ => I δ β
 | .bk δ => Gw h δ β Q
 | o => Q o β
theorem bL {it : Dn -> M (List D)} {tg : TgS} (e : it (vw δ) β = some (.ok ds, β1)) (Iv : Nat -> Ds -> Bg -> Prop) (h0 : Iv 0 δ β1) (step : ∀ i d δ β, ds[i]? = some d -> Iv i δ β -> ∃ δ1, tg d δ = some δ1 /\ Gw g δ1 β (Tn (Iv (i + 1)) h Q)) (k : ∀ δ β, Iv ds.length δ β -> Gw h δ β Q) :
  Gw (ai (bW it tg g) h) δ β Q := by
 have gen : ∀ (es : List D) (j : Nat) (δ : Ds) (β : Bg), es = ds.drop j -> j + es.length = ds.length -> Iv j δ β -> Gw (ai (gLp tg g es) h) δ β Q := by
  intro es
  induction es with
  | nil =>
   intro j δ β _ hl hv
   simp at hl
   exact fm (g := gLp tg g []) rfl (k δ β (hl ▸ hv))
  | cons d es ih =>
   intro j δ β he hl hv
   have hj : ds[j]? = some d := by
    have := congrArg (fun l => l[0]?) he
    simpa [List.getElem?_drop] using this.symm
   obtain ⟨δ1, e1, o, β2, e2, q⟩ := step j d δ β hj hv
   have he' : es = ds.drop (j + 1) := by
    have := congrArg List.tail he
    simpa [List.tail_drop] using this
   have go : ∀ δ2, Iv (j + 1) δ2 β2 -> Gw (ai (gLp tg g es) h) δ2 β2 Q := fun δ2 hv2 => ih (j + 1) δ2 β2 he' (by simp at hl; omega) hv2
   have lift : ∀ {r : G} {δ2 : Ds}, Gw (ai r h) δ2 β2 Q -> gLp tg g (d :: es) δ β = r δ2 β2 -> Gw (ai (gLp tg g (d :: es)) h) δ β Q := fun {r δ2} ⟨o', β', e', q'⟩ er => ⟨o', β', by rw [← e']; unfold ai; rw [er], q'⟩
   cases o with
   | nx δ2 => exact lift (r := gLp tg g es) (go δ2 q) (by rw [gLp]; simp only [e1, e2])
   | ct δ2 => exact lift (r := gLp tg g es) (go δ2 q) (by rw [gLp]; simp only [e1, e2])
   | bk δ2 => exact lift (r := gNil) (aQ q) (by rw [gLp]; simp only [e1, e2]; rfl)
   | rt d' => exact ⟨_, β2, by unfold ai; rw [gLp]; simp only [e1, e2], q⟩
   | rg d' => exact ⟨_, β2, by unfold ai; rw [gLp]; simp only [e1, e2], q⟩
   | ex C δ2 => exact ⟨_, β2, by unfold ai; rw [gLp]; simp only [e1, e2], q⟩
 obtain ⟨o, β', e', q⟩ := gen ds 0 δ β1 (by simp) (by simp) h0
 refine ⟨o, β', ?_, q⟩
 rw [← e']
 unfold ai bW
 rw [e]
theorem lQ {n : Nat} {S : Except Addr D -> Bg -> Prop} (k : Gw g (stD n ds) β (fun o β' => match o with | .rt d => S (.ok d) β' | .nx _ => S (.ok .non) β' | .ex C _ => S (.error C) β' | _ => False)) : ∃ r β', aJ n g ds β = some (r, β') /\ S r β' := by
 obtain ⟨o, β', e, q⟩ := k
 cases o with
 | rt d => exact ⟨.ok d, β', by unfold aJ; rw [e], q⟩
 | nx δ => exact ⟨.ok .non, β', by unfold aJ; rw [e], q⟩
 | ex C δ => exact ⟨.error C, β', by unfold aJ; rw [e], q⟩
 | _ => exact q.elim
theorem aV {n : Nat} {r : Except Addr D} (k : Gw g (stD n ds) β (fun o β' => β' = β /\ (match o with | .rt d => r = .ok d | .nx _ => r = .ok .non | .ex C _ => r = .error C | _ => False))) : aJ n g ds β = some (r, β) := by
 obtain ⟨r', β', e, q1, q2⟩ := lQ (S := fun r' β' => β' = β /\ r = r') (n := n) (ds := ds) (β := β) (k.mono fun o β' h => by
  cases o <;> first | exact h | exact h.2)
 subst q1 q2
 exact e
theorem aD {m : List D -> M D} {r : Except Addr D × Bg} {δ : Dn} (e1 : fl δ β = some (.ok as, β1)) (e2 : m as β1 = some r) : aA m fl δ β = some r := by unfold aA M.bind; rw [e1]; exact e2
theorem x_2 {op : D -> D -> Option D} {δ : Dn} (e1 : fa δ β = some (.ok x, β1)) (e2 : fb δ β1 = some (.ok y, β2)) (e3 : op x y = some z) : f2 op fa fb δ β = some (.ok z, β2) := by unfold f2 M.bind; rw [e1]; simp only [e2, M.ofO, e3]
theorem x_1 {op : D -> Option D} {δ : Dn} (e1 : fa δ β = some (.ok x, β1)) (e3 : op x = some z) : f1 op fa δ β = some (.ok z, β1) := by unfold f1 M.bind; rw [e1]; simp only [M.ofO, e3]
theorem bq {op : List D -> Option D} {δ : Dn} (e1 : fl δ β = some (.ok as, β1)) (e3 : op as = some z) : ao op fl δ β = some (.ok z, β1) := by unfold ao M.bind; rw [e1]; simp only [M.ofO, e3]
theorem am {δ : Dn} (e1 : fa δ β = some (.ok x, β1)) (e2 : fl δ β1 = some (.ok as, β2)) : ad fa fl δ β = some (.ok (x :: as), β2) := by unfold ad M.bind; rw [e1]; simp only [e2, M.ret]
theorem cG {op : List D -> Option (List D)} {δ : Dn} (e1 : fl δ β = some (.ok as, β1)) (e2 : op as = some ds) : bC op fl δ β = some (.ok ds, β1) := by unfold bC M.bind; rw [e1]; simp only [e2, M.ofO]
theorem gp {δ : Dn} (e1 : fa δ β = some (.ok x, β1)) (e2 : dS x = some ds) : aX fa δ β = some (.ok ds, β1) := by unfold aX M.bind; rw [e1]; simp only [e2, M.ofO]
theorem x_B {δ : Dn} (e1 : fa δ β = some (.ok (.bl c), β1)) : fB fa δ β = some (.ok c, β1) := by unfold fB M.bind; rw [e1]; rfl
theorem nU {δ : Dn} (e1 : fa δ β = some (.ok x, β1)) (e2 : ix x = some c) : dB fa δ β = some (.ok c, β1) := by unfold dB M.bind; rw [e1]; simp only [M.ofO, e2]
theorem jL {δ : Dn} (e1 : t δ β = some (.ok c, β1)) : cX t δ β = some (.ok (!c), β1) := by unfold cX M.bind; rw [e1]; rfl
theorem ei (ok : β.ok) {lot : Int} (h0 : 0 < lot) (h1 : lot < 1073741824) : ∃ v β', dk [.bag, .int lot] β = some (.ok (.int v), β') /\ 0 <= v /\ v < lot /\ β'.ok := by
 obtain ⟨a0, a1, ok1⟩ := ql ok h0
 exact ⟨_, _, vp ok h0 h1, a0, a1, ok1⟩
theorem jz {n : Nat} {k : Int} (h0 : 0 <= k) (h1 : k < n) : ixN n k = some k.toNat := by unfold ixN; rw [if_pos h0, if_pos h1]
theorem lC {xs : List D} {k : Int} {d : D} (h0 : 0 <= k) (h : xs[k.toNat]? = some d) : ixD (.lst xs) (.int k) = some d := by
 have hl : k.toNat < xs.length := (List.getElem?_eq_some_iff.mp h).1
 show atI xs k = some d
 unfold atI
 rw [jz h0 (by omega)]
 exact h
theorem rJ {x y : D} : ixD (.tup [x, y]) (.int 0) = some x := rfl
theorem pp {x y : D} : ixD (.tup [x, y]) (.int 1) = some y := rfl
end
section
variable {β β1 β2 : Bg} {f g h i : Dn -> M D} {t u : Dn -> M Bool} {δ : Dn} {c e : Bool} {x y z w : Int} {d : D}
theorem Cc (e1 : t δ β = some (.ok c, β)) (e2 : u δ β = some (.ok e, β)) : de t u δ β = some (.ok (c || e), β) := by
 unfold de M.bind; rw [e1]; cases c <;> simp [M.ret, e2]
theorem Cd (e1 : t δ β = some (.ok false, β1)) (e2 : u δ β1 = some (.ok e, β2)) : de t u δ β = some (.ok e, β2) := by
 unfold de M.bind; rw [e1]; simp [e2]
theorem le_int : leD (.int x) (.int y) = some (.bl (decide (x <= y))) := rfl
theorem lt_int : ltD (.int x) (.int y) = some (.bl (decide (x < y))) := rfl
theorem gt_int : gtD (.int x) (.int y) = some (.bl (decide (y < x))) := rfl
theorem qb (e1 : f δ β = some (.ok (.int x), β)) (e2 : g δ β = some (.ok (.int y), β)) (e3 : h δ β = some (.ok (.int z), β)) : ck leD leD f g h δ β = some (.ok (.bl (decide (x <= y) && decide (y <= z))), β) := by
 unfold ck M.bind
 rw [e1]
 simp only [e2, le_int, M.ofO, asB]
 by_cases q : x <= y
 ·simp only [q, decide_true, if_true, e3, le_int, Bool.true_and]
 ·simp only [q, decide_false, Bool.false_eq_true, if_false, M.ret, Bool.false_and]
theorem ue {x : Int} (h0 : -1000000 <= x) (h1 : x <= 1000000) : x.natAbs.log2 < 1920 := by
 have h : x.natAbs < 2 ^ 20 := by omega
 by_cases z : x.natAbs = 0
 ·rw [z]; decide
 ·have := (Nat.log2_lt z).mpr h
  omega
theorem iw {j : Dn -> M Unit} (e1 : f δ β = some (.ok (.int x), β)) (h0 : -1000000 <= x) (h1 : x <= 1000000) (e2 : j δ β = some (.ok (), β)) : bZ f j δ β = some (.ok (), β) := by
 unfold bZ M.bind
 rw [e1]
 simp only [ue h0 h1, if_true, e2]
theorem jd {j : Dn -> M Unit} (e1 : j δ β = some (.ok (), β)) : cD j δ β = some (.ok .txt, β) := by
 unfold cD M.bind; rw [e1]; rfl
end
abbrev gI (rows : List (List Int)) : List (List D) := rows.map fun r => r.map D.int
abbrev lG (rows : List (List D)) : D := .lst (rows.map D.lst)
abbrev bE (rows : List (List Int)) : D := lG (gI rows)
def Shp {α : Type} (r c : Nat) (m : List (List α)) : Prop := m.length = r /\ ∀ row ∈ m, row.length = c
def tot (rows : List (List Int)) : Int := (rows.map List.sum).sum
theorem cW {n : Nat} (h : n <= 1000) : n <= sizeLine := Nat.le_trans h (by decide)
theorem en : ∀ r : List Int, noLs (r.map D.int) = true
 | [] => rfl
 | x :: r => by
  show (noL (.int x) && noLs (r.map D.int)) = true
  rw [en r]; rfl
theorem Shp.set {α : Type} {r c i j : Nat} {m : List (List α)} {row : List α} {v : α} (h : Shp r c m) (hr : m[i]? = some row) : Shp r c (m.set i (row.set j v)) := ⟨by rw [List.length_set, h.1], fun x hx => by
 rcases List.mem_or_eq_of_mem_set hx with hx | rfl
 ·exact h.2 x hx
 ·rw [List.length_set]; exact h.2 row (List.mem_of_getElem? hr)⟩
theorem Shp.at {α : Type} {r c i : Nat} {m : List (List α)} (h : Shp r c m) (hi : i < r) : ∃ row, m[i]? = some row /\ row.length = c := by
 have hl : i < m.length := by rw [h.1]; exact hi
 exact ⟨m[i], List.getElem?_eq_getElem hl, h.2 _ (List.getElem_mem hl)⟩
theorem yk {α : Type} {l : List α} {i : Nat} (h : i < l.length) : ∃ x, l[i]? = some x := ⟨l[i], List.getElem?_eq_getElem h⟩
theorem lV : ∀ {xs : List Int} {j : Nat} {x v : Int}, xs[j]? = some x -> (xs.set j v).sum = xs.sum - x + v
 | [], j, x, v, h => by simp at h
 | y :: xs, 0, x, v, h => by
  simp at h; subst h
  simp only [List.set_cons_zero, List.sum_cons]; omega
 | y :: xs, j + 1, x, v, h => by
  have h' : xs[j]? = some x := by simpa using h
  simp only [List.set_cons_succ, List.sum_cons, lV h']; omega
theorem yy {rows : List (List Int)} {i j : Nat} {row : List Int} {x v : Int} (h1 : rows[i]? = some row) (h2 : row[j]? = some x) : tot (rows.set i (row.set j v)) = tot rows - x + v := by
 unfold tot
 rw [List.map_set, lV (x := row.sum) (by rw [List.getElem?_map, h1]; rfl), lV h2]
 omega
theorem AC {rows : List (List Int)} {i j : Nat} {row : List Int} {v : Int} (h : ∀ r ∈ rows, ∀ x ∈ r, 0 <= x) (hr : rows[i]? = some row) (hv : 0 <= v) : ∀ r ∈ rows.set i (row.set j v), ∀ x ∈ r, 0 <= x := fun r hr' x hx => by
 rcases List.mem_or_eq_of_mem_set hr' with hr' | rfl
 ·exact h r hr' x hx
 ·rcases List.mem_or_eq_of_mem_set hx with hx | rfl
  ·exact h row (List.mem_of_getElem? hr) x hx
  ·exact hv
theorem kR : ∀ {xs : List Int}, (∀ x ∈ xs, 0 <= x) -> 0 <= xs.sum
 | [], _ => by simp
 | y :: xs, h => by
  have := kR (xs := xs) fun x hx => h x (List.mem_cons_of_mem _ hx)
  have := h y List.mem_cons_self
  simp only [List.sum_cons]; omega
structure Tab (r c : Nat) (rows : List (List Int)) : Prop where
 shp : Shp r c rows
 nn : ∀ row ∈ rows, ∀ x ∈ row, 0 <= x
 tot : tot rows <= 40
 r0 : 1 <= r
 r1 : r <= 4
 c0 : 1 <= c
 c1 : c <= 6
theorem hG (ns : List Int) : cn [.lst (ns.map D.int)] = some (.int ns.sum) := by
 show ((dz (ns.map D.int)).map fun l => D.int l.sum) = _
 have : ∀ ns : List Int, dz (ns.map D.int) = some ns := fun ns => by
  induction ns with
  | nil => rfl
  | cons n ns ih => simp [dz, ih]
 rw [this]; rfl
theorem rg1 {n : Int} (h0 : 0 <= n) (h : n <= 10 ^ 9) : fR [.int n] = some (bo 0 n.toNat) := by
 have q : (decide (-(2 ^ 62) <= n) && decide (n < 2 ^ 62)) = true := by
  simp only [Bool.and_eq_true, decide_eq_true_eq]
  omega
 show (if (decide (-(2 ^ 62) <= n) && decide (n < 2 ^ 62)) = true then some (bo 0 n.toNat) else none) = _
 rw [if_pos q]
theorem n6 {n k : Nat} {d : D} (h : (bo 0 n)[k]? = some d) : k < n /\ d = .int (k : Int) := by
 unfold bo at h
 have hk : k < n := by
  have := (List.getElem?_eq_some_iff.mp h).1
  simpa using this
 rw [List.getElem?_map, List.getElem?_range hk] at h
 exact ⟨hk, by cases h; simp⟩
theorem d8 {α : Type} {nv : Nat} {caps : List Nat} {it : Dn -> M (List D)} {tg : TgF} {f : Dn -> M D} {δ : Dn} {β : Bg} (xs : List α) (u v : α -> D) (h1 : it δ β = some (.ok (xs.map u), β))
  (h2 : ∀ x ∈ xs, ∃ δ1, tg (u x) (cSt nv caps δ) = some δ1 /\ f δ1 β = some (.ok (v x), β)) (h3 : xs.length <= sizeLine) : aU nv caps it tg (fun _ => M.ret true) (cEm f) δ β = some (.ok (.lst (xs.map v)), β) := by
 refine mQ h1 ?_ (by rw [List.length_map]; exact h3)
 have gen : ∀ xs : List α, (∀ x ∈ xs, ∃ δ1, tg (u x) (cSt nv caps δ) = some δ1 /\ f δ1 β = some (.ok (v x), β)) -> cLp tg (fun _ => M.ret true) (cEm f) (xs.map u) (cSt nv caps δ) β = some (.ok (xs.map v), β) := by
  intro xs
  induction xs with
  | nil => intro _; rfl
  | cons x xs ih =>
   intro h
   obtain ⟨δ1, e1, e2⟩ := h x List.mem_cons_self
   have e3 := ih fun y hy => h y (List.mem_cons_of_mem _ hy)
   rw [List.map_cons, cLp]
   simp only [e1, M.bind, M.ret, reduceIte, cEm, e2, e3, List.map_cons, List.cons_append, List.nil_append]
 exact gen xs h2
theorem uC {α : Type} {nv : Nat} {caps : List Nat} {it : Dn -> M (List D)} {tg : TgF} {f : Dn -> M (List D)} {δ : Dn} {β : Bg} (xs : List α) (u : α -> D) (v : α -> List D) (h1 : it δ β = some (.ok (xs.map u), β))
  (h2 : ∀ x ∈ xs, ∃ δ1, tg (u x) (cSt nv caps δ) = some δ1 /\ f δ1 β = some (.ok (v x), β)) (h3 : xs.length <= sizeLine) : il nv caps it tg (fun _ => M.ret true) (pL f) δ β = some (.ok (xs.map v), β) := by
 have gen : ∀ xs : List α, (∀ x ∈ xs, ∃ δ1, tg (u x) (cSt nv caps δ) = some δ1 /\ f δ1 β = some (.ok (v x), β)) -> kG tg (fun _ => M.ret true) (pL f) (xs.map u) (cSt nv caps δ) β = some (.ok (xs.map v), β) := by
  intro xs
  induction xs with
  | nil => intro _; rfl
  | cons x xs ih =>
   intro h
   obtain ⟨δ1, e1, e2⟩ := h x List.mem_cons_self
   have e3 := ih fun y hy => h y (List.mem_cons_of_mem _ hy)
   rw [List.map_cons, kG]
   simp only [e1, M.bind, M.ret, reduceIte, pL, e2, e3, List.map_cons, List.cons_append, List.nil_append]
 unfold il
 simp only [h1, gen xs h2, List.length_map, h3, if_true]
theorem z9 {ds : List D} {c : Nat} (h1 : ds.length <= sizeLine) (h2 : ds.length * c <= sizeLine) (hc : c <= 1000000) : oY ds (.int (c : Int)) = some (List.replicate c ds).flatten := by
 have q : (decide (-(2 ^ 63) <= (c : Int)) && decide ((c : Int) < 2 ^ 63) && decide (ds.length <= sizeLine) && decide (ds.length * (c : Int).toNat <= sizeLine)) = true := by
  simp only [Bool.and_eq_true, decide_eq_true_eq]
  exact ⟨⟨⟨by omega, by omega⟩, h1⟩, by rw [Int.toNat_natCast]; exact h2⟩
 unfold oY
 simp only [q, if_true]
 rw [Int.toNat_natCast]
theorem pC {α : Type} (x : α) : ∀ c : Nat, (List.replicate c [x]).flatten = List.replicate c x
 | 0 => rfl
 | c + 1 => by rw [List.replicate_succ, List.flatten_cons, pC x c]; rfl
theorem Cz {f : Dn -> M D} {g : Dn -> M D} {x : D} {c : Nat} {δ : Dn} {β : Bg} (e1 : f δ β = some (.ok x, β)) (e2 : g δ β = some (.ok (.int (c : Int)), β)) (hc : c <= 1000) : rp (ad f ah) g δ β = some (.ok (List.replicate c x), β) := by
 have l1 : [x].length <= sizeLine := by rw [List.length_singleton]; decide
 have l2 : [x].length * c <= sizeLine := by rw [List.length_singleton, Nat.one_mul]; exact cW hc
 have r := z9 (ds := [x]) (c := c) l1 l2 (by omega)
 rw [pC] at r
 have s : szL [x] = some [x] := by
  unfold szL
  rw [if_pos l1]
 have e3 : ad f ah δ β = some (.ok [x], β) := am e1 rfl
 unfold rp
 rw [M.bind_ok e3, s, M.bind_some, M.bind_ok e2, r]
 rfl
theorem uI (bs : List Bool) : c9 (bs.map D.bl) = some bs := by
 induction bs with
 | nil => rfl
 | cons b bs ih => simp [c9, ih]
theorem any_map {α : Type} (xs : List α) (p : α -> Bool) : mS [.lst (xs.map fun x => D.bl (p x))] = some (.bl (xs.any p)) := by
 show (c9 _).map _ = _
 rw [show (xs.map fun x => D.bl (p x)) = (xs.map p).map D.bl by rw [List.map_map]; rfl, uI]
 simp only [Option.map_some, List.any_map]
 rfl
theorem ig {xs : List D} {r : Nat} (h : xs.length = r) : bD [.lst xs] = some (.int (r : Int)) := by subst h; rfl
theorem AF {rows : List (List D)} {r : Nat} (h : rows.length = r) : bD [lG rows] = some (.int (r : Int)) := ig (by rw [List.length_map, h])
theorem yd {rows : List (List D)} {k : Nat} {row : List D} (h : rows[k]? = some row) : ixD (lG rows) (.int (k : Int)) = some (.lst row) := lC (by omega) (by rw [Int.toNat_natCast, List.getElem?_map, h]; rfl)
theorem jY {xs : List D} {k : Nat} {d : D} (h : xs[k]? = some d) : ixD (.lst xs) (.int (k : Int)) = some d := lC (by omega) (by rw [Int.toNat_natCast]; exact h)
theorem zG {x y : D} : bX [x, y] = some (.tup [x, y]) := by
 unfold bX
 rw [if_pos (show [x, y].length <= sizeLine by rw [List.length_cons, List.length_singleton]; decide)]
theorem eq_int {x y : Int} : cM (.int x) (.int y) = some (.bl (decide (x = y))) := by rw [iU]
theorem ne_int {x y : Int} : bY (.int x) (.int y) = some (.bl (!decide (x = y))) := by rw [iT]
theorem j3 {xs : List D} {i : Nat} {d : D} (h : (cy 0 xs)[i]? = some d) : ∃ x, xs[i]? = some x /\ d = .tup [.int (i : Int), x] := by
 obtain ⟨x, h1, h2⟩ := jH h
 rw [Nat.zero_add] at h2
 exact ⟨x, h1, h2⟩
theorem fN {α γ : Type} {f : α -> γ} {xs : List α} {i : Nat} {d : γ} (h : (xs.map f)[i]? = some d) : ∃ x, xs[i]? = some x /\ d = f x := by
 rw [List.getElem?_map] at h
 cases q : xs[i]? with
 | none => rw [q] at h; cases h
 | some x => rw [q] at h; exact ⟨x, rfl, by cases h; rfl⟩
structure PairOk (p : Int × Int) : Prop where
 l : 0 <= p.1
 m : p.1 <= p.2
 h : p.2 <= 40
theorem zt {α : Type} {nv : Nat} {caps : List Nat} {it : Dn -> M (List D)} {tg : TgF} {b : Dn -> M (List D)} {δ : Dn} {β : Bg} (xs : List α) (u : α -> D) (o : α -> List D) (h1 : it δ β = some (.ok (xs.map u), β))
  (h2 : ∀ x ∈ xs, ∃ δ1, tg (u x) (cSt nv caps δ) = some δ1 /\ b δ1 β = some (.ok (o x), β)) (h3 : (xs.flatMap o).length <= sizeLine) : aU nv caps it tg (fun _ => M.ret true) b δ β = some (.ok (.lst (xs.flatMap o)), β) := by
 refine mQ h1 ?_ h3
 have gen : ∀ xs : List α, (∀ x ∈ xs, ∃ δ1, tg (u x) (cSt nv caps δ) = some δ1 /\ b δ1 β = some (.ok (o x), β)) -> cLp tg (fun _ => M.ret true) b (xs.map u) (cSt nv caps δ) β = some (.ok (xs.flatMap o), β) := by
  intro xs
  induction xs with
  | nil => intro _; rfl
  | cons x xs ih =>
   intro h
   obtain ⟨δ1, e1, e2⟩ := h x List.mem_cons_self
   have e3 := ih fun y hy => h y (List.mem_cons_of_mem _ hy)
   rw [List.map_cons, cLp]
   simp only [e1, M.bind, M.ret, reduceIte, e2, e3, List.flatMap_cons]
 exact gen xs h2
theorem ut {α γ : Type} {f : α -> List γ} {n : Nat} : ∀ {l : List α}, (∀ x ∈ l, (f x).length <= n) -> (l.flatMap f).length <= n * l.length
 | [], _ => by simp
 | x :: l, h => by
  have h1 := h x List.mem_cons_self
  have h2 := ut (l := l) fun y hy => h y (List.mem_cons_of_mem _ hy)
  rw [List.flatMap_cons, List.length_append, List.length_cons, Nat.mul_add]
  omega
theorem oy {α γ : Type} (u : α -> D) (v : γ -> D) : ∀ (xs : List α) (ys : List γ), cF (xs.map u) (ys.map v) = (xs.zip ys).map fun p => D.tup [u p.1, v p.2]
 | [], ys => by simp [cF]
 | x :: xs, [] => by simp [cF]
 | x :: xs, y :: ys => by simp [cF, oy u v xs ys]
def iu : List D -> List Value -> Prop
 | [], [] => True
 | .int i :: ds, .int j _ :: vs => i = j /\ iu ds vs
 | .str x :: ds, .str y _ :: vs => x = y /\ iu ds vs
 | .bl x :: ds, .bool y :: vs => x = y /\ iu ds vs
 | .non :: ds, .none :: vs => iu ds vs
 | _, _ => False
theorem fQ {K : Frag} : ∀ {ds : List D} {vs : List Value}, iu ds vs -> ∃ xs, ar xs vs /\ ∀ F H, DenL K F H ds xs
 | [], [], _ => ⟨[], .nil, fun _ _ => DenL.nil⟩
 | .int i :: ds, .int j t :: vs, h => by
  obtain ⟨e, h⟩ := h
  subst e
  obtain ⟨xs, h1, h2⟩ := fQ (K := K) h
  exact ⟨.int i :: xs, .cons ⟨t, rfl⟩ h1, fun F H => DenL.cons rfl (h2 F H)⟩
 | .str i :: ds, .str j t :: vs, h => by
  obtain ⟨e, h⟩ := h
  subst e
  obtain ⟨xs, h1, h2⟩ := fQ (K := K) h
  exact ⟨.str i :: xs, .cons ⟨t, rfl⟩ h1, fun F H => DenL.cons rfl (h2 F H)⟩
 | .bl i :: ds, .bool j :: vs, h => by
  obtain ⟨e, h⟩ := h
  subst e
  obtain ⟨xs, h1, h2⟩ := fQ (K := K) h
  exact ⟨.bl i :: xs, .cons rfl h1, fun F H => DenL.cons rfl (h2 F H)⟩
 | .non :: ds, .none :: vs, h => by
  obtain ⟨xs, h1, h2⟩ := fQ (K := K) (ds := ds) (vs := vs) h
  exact ⟨.non :: xs, .cons rfl h1, fun F H => DenL.cons rfl (h2 F H)⟩
def VIs (K : Frag) (d : D) (u : Value) : Prop := ∃ v, aN v u /\ ∀ F H, Den K F H d v
theorem lT {K : Frag} {i : Int} {t : Tok} : VIs K (.int i) (.int i t) := ⟨.int i, ⟨t, rfl⟩, fun _ _ => rfl⟩
theorem jM {K : Frag} {p : Addr} {q1 : Value} {q2 : Option Addr} {q3 : Array Value} {q4 : Nat} {q5 : Array (Option Value)} {ds : List D} (hl : K.lookup p = some ⟨q1, q2, .seq q3 q4, q5⟩) (hc : q1 = .type "tuple") (hz : q3.size <= sizeLine) (hv : iu ds q3.toList) : VIs K (.tup ds) (.ref p) := by
 obtain ⟨xs, h1, h2⟩ := fQ (K := K) hv
 exact ⟨.ref p, rfl, fun F H => ⟨p, xs, rfl, .inr ⟨_, q3, q4, hl, hc, rfl, hz, h1⟩, h2 F H⟩⟩
theorem io {K : Frag} {mg : Str -> Option Value} {x : Str} {d : D} {u : Value} (h : mg x = some u) (v : VIs K d u) : gd K mg x d := let ⟨w, h1, h2⟩ := v; ⟨u, w, h, h1, h2⟩
theorem AW {K : Frag} {fd : FuncData} {ps : List Str} {dd : List D} {us : List Value} (n : Nat) (hl : ps.length = n + us.length) (b : ∀ (s : Shared) (vs : List Value), K.In s.heap -> vs.length = n -> BindsTo s fd ⟨vs, []⟩ (ps.zip (vs ++ us))) (h : ∃ vs, ar vs us /\ ∀ F H, DenL K F H dd vs) : dO K fd ps dd :=
 let ⟨vs, h1, h2⟩ := h
 ⟨us, vs, fun s ws KX hw => b s ws KX (by rw [List.length_append] at hw; omega), h1, h2⟩
theorem AV {K : Frag} : ∃ vs, ar vs [] /\ ∀ F H, DenL K F H [] vs := ⟨[], .nil, fun _ _ => DenL.nil⟩
theorem zr {K : Frag} {d : D} {u : Value} {ds : List D} {us : List Value} (v : VIs K d u) (h : ∃ vs, ar vs us /\ ∀ F H, DenL K F H ds vs) : ∃ vs, ar vs (u :: us) /\ ∀ F H, DenL K F H (d :: ds) vs := by
 obtain ⟨w, h1, h2⟩ := v
 obtain ⟨vs, g1, g2⟩ := h
 exact ⟨w :: vs, .cons h1 g1, fun F H => DenL.cons (h2 F H) (g2 F H)⟩
inductive KSr (K : Frag) : List (Sr D) -> List (Sr Value) -> Prop where
 | nil : KSr K [] []
 | kw {j : Nat} {a : List (Sr D)} {c : List (Sr Value)} : KSr K a c -> KSr K (.kw j :: a) (.kw j :: c)
 | df {x : D} {y : Value} {a : List (Sr D)} {c : List (Sr Value)} : VIs K x y -> KSr K a c -> KSr K (.df x :: a) (.df y :: c)
theorem KSr.mid {K : Frag} : ∀ {a : List (Sr D)} {c : List (Sr Value)}, KSr K a c -> ∃ b : List (Sr V), SrR aN b c /\ SrR (fun d v => ∀ F H, Den K F H d v) a b
 | _, _, .nil => ⟨[], .nil, .nil⟩
 | _, _, .kw (j := j) h => let ⟨b, h1, h2⟩ := KSr.mid h; ⟨.kw j :: b, .kw h1, .kw h2⟩
 | _, _, .df v h => let ⟨b, h1, h2⟩ := KSr.mid h; let ⟨w, g1, g2⟩ := v; ⟨.df w :: b, .df g1 h1, .df g2 h2⟩
theorem CD {K : Frag} {fd : FuncData} {ps ks : List Str} {n : Nat} {src : List (Sr D)} {sv : List (Sr Value)} (h : KSr K src sv) (hl : ps.length = n + src.length) (h0 : 0 < ps.length) (b : ∀ (s : Shared) (us ws : List Value), K.In s.heap -> us.length = n -> ws.length = ks.length -> BindsTo s fd ⟨us, ks.zip ws⟩ (ps.zip (us ++ sv.map (Sr.pick .none ws)))) : KwOk K fd ps ks n src :=
 ⟨let ⟨sx, h1, h2⟩ := h.mid; ⟨sv, sx, h1, h2, b⟩, hl, h0⟩
section
variable {X : Cx} {E : St -> XK} {K : Frag} {st : Stmt}
end
section
variable {h : G} {δ : Ds} {β β1 β2 β3 : Bg} {Q : Out -> Bg -> Prop} {i : Nat} {fa fb fv : Dn -> M D} {fl : Dn -> M (List D)} {d d0 d1 : D} {ds : List D} {op : D -> D -> Option D}
end
theorem qR {t : Dn -> M Bool} {f g : Dn -> M D} {δ : Dn} {β β1 : Bg} {r : Except Addr D × Bg} (e1 : t δ β = some (.ok true, β1)) (e2 : f δ β1 = some r) : fIf t f g δ β = some r := by
 unfold fIf M.bind; rw [e1]; exact e2
theorem qS {t : Dn -> M Bool} {f g : Dn -> M D} {δ : Dn} {β β1 : Bg} {r : Except Addr D × Bg} (e1 : t δ β = some (.ok false, β1)) (e2 : g δ β1 = some r) : fIf t f g δ β = some r := by
 unfold fIf M.bind; rw [e1]; exact e2
theorem jK {n : Nat} {d : D} {δ : Dn} {β : Bg} (e : δ.getD n none = some d) : aa n δ β = some (.ok d, β) := by unfold aa; rw [e]; rfl
section
variable {β β1 β2 : Bg} {f g h : Dn -> M D} {δ : Dn} {x y z : Int}
theorem sU (e1 : f δ β = some (.ok (.int x), β)) (e2 : g δ β = some (.ok (.int y), β)) (e3 : h δ β = some (.ok (.int z), β)) : ck leD ltD f g h δ β = some (.ok (.bl (decide (x <= y) && decide (y < z))), β) := by
 unfold ck M.bind
 rw [e1]
 simp only [e2, le_int, M.ofO, asB]
 by_cases q : x <= y
 ·simp only [q, decide_true, if_true, e3, lt_int, Bool.true_and]
 ·simp only [q, decide_false, Bool.false_eq_true, if_false, M.ret, Bool.false_and]
end
theorem lA {K : Frag} {F : Fx} {H : Hp} {f : Str} {d : D} : ∀ {ns : List Str} {ds : List D} {xs : List V}, DenL K F H ds xs -> (ns.zip ds).lookup f = some d -> ∃ v, (ns.zip xs).lookup f = some v /\ Den K F H d v
 | [], ds, xs, h, e => by simp at e
 | n :: ns, [], xs, h, e => by simp at e
 | n :: ns, c :: ds, xs, h, e => by
  obtain ⟨x, r, q, h1, h2⟩ := h
  subst q
  rw [List.zip_cons_cons, List.lookup_cons] at e ⊢
  split at e
  ·rename_i z
   cases e
   exact ⟨x, rfl, h1⟩
  ·rename_i z
   exact lA h2 e
theorem m8 {α : Type} {m : Str} : ∀ {ns : List Str} {xs : List α}, m ∉ ns -> (ns.zip xs).lookup m = none
 | [], xs, _ => by simp
 | n :: ns, [], _ => by simp
 | n :: ns, x :: xs, h => by
  rw [List.zip_cons_cons, List.lookup_cons]
  have h1 : m ≠ n := fun z => h (by rw [z]; exact List.mem_cons_self)
  have h2 : m ∉ ns := fun z => h (List.mem_cons_of_mem _ z)
  rw [show (m == n) = false by simpa using h1]
  exact m8 h2
theorem dO.nil {K : Frag} {fd : FuncData} {ps : List Str} (b : aG K fd ps []) : dO K fd ps [] := ⟨[], [], b, .nil, fun _ _ => DenL.nil⟩
section
variable {X : Cx} {E : St -> XK} {o e : Expr} {es : List Expr} {pos p apos kpos : Pos} {x m : Str} {k n : Nat} {f C : Addr} {fd : FuncData} {ps ks : List Str} {kws : List Keyword}
def cK (C : Addr) (f : Str) : D -> Option D
 | .obj C' ns ds => if C' = C then (ns.zip ds).lookup f else none
 | _ => none
theorem dQ {f : Str} {g : Dn -> M D} (c : Cls X.K C) (n : cP X.K C f) (he : PE X e (tV X.K g E)) (hb : attributeBase e f X.env (eval e X.env) = eval e X.env := by rfl) : PE X (.Attribute e f pos) (tV X.K (f1 (cK C f) g) E) :=
 (As he hb).imp fun σ H Q h_ => ex6 h_ fun F δ β fr vk h => ⟨F, δ, β, fr, vk, (run.bind (R := Den X.K F) h).mono fun v H1 h_ => by
  obtain ⟨d, β1, t, hd, r1⟩ := h_
  obtain ⟨d3, e3, k⟩ := run.ofO r1
  cases d <;> first | cases e3 | skip
  rename_i C' ns ds
  unfold cK at e3
  simp only at e3
  split at e3
  ·rename_i z
   subst z
   unfold Den at hd
   obtain ⟨a, dx, xs, rfl, h1, h2, h3, h4⟩ := hd
   obtain ⟨w, hw, dw⟩ := lA h4 e3
   exact ⟨a, C', dx, _, w, rfl, h2, c, n, hw, k w H1 (To.refl t.fr) dw⟩
  ·cases e3⟩
def eN (C : Addr) (m : Str) (mf : List D -> M D) (fo : Dn -> M D) (g : Dn -> M (List D)) (dd : List D) : Dn -> M D := fun δ => M.bind (fo δ) fun d => match d with
 | .obj C' ns _ => if C' = C /\ m ∉ ns then M.bind (g δ) fun as => mf (d :: (as ++ dd)) else M.fail
 | _ => M.fail
theorem pf {mf : List D -> M D} {fo : Dn -> M D} {g : Dn -> M (List D)} {dd : List D} {K : Frag} {R : Sp} {dvs : List V} {σ : St} {H : Hp} {Q : VK} (hR : ∀ vs H Q E, spF K n mf vs H Q E -> R vs H Q E) (rd : ∀ F H, DenL K F H dd dvs) (hn : ∀ δ β r β', g δ β = some (.ok r, β') -> r.length + dd.length + 1 = n) (h : tV K (eN C m mf fo g dd) E σ H Q) : qZ C m R dvs E (tV K fo E) (tVA K g E) σ H Q := by
 obtain ⟨F, δ, β, fr, vk, h⟩ := h
 refine ⟨F, δ, β, fr, vk, (run.bind (R := Den K F) h).mono fun v H1 h_ => ex5 h_ fun d β1 t hd r1 => ?_⟩
 have fail : ∀ {mm : M D}, mm = M.fail -> run (Den K F) F E σ mm H1 Q β1 -> False := fun {mm} e r => by
  obtain ⟨r, β', e', _⟩ := r
  rw [e] at e'; cases e'
 cases d <;> first | exact (fail rfl r1).elim | skip
 rename_i C' ns ds
 simp only at r1
 split at r1
 ·rename_i z
  obtain ⟨rfl, hm⟩ := z
  have hd' := hd
  unfold Den at hd
  obtain ⟨a, dx, xs, rfl, h1, h2, h3, h4⟩ := hd
  refine ⟨a, dx, _, rfl, h2, m8 hm, F, δ, β1, t.fr, vk.tr (t.tr fr), ?_⟩
  obtain ⟨r0, β0, e0, h0⟩ := run.bind (R := DenL K F) r1
  refine ⟨r0, β0, e0, ?_⟩
  cases r0 with
  | error C => exact h0
  | ok as =>
   intro vs H2 t2 hds
   obtain ⟨d', β2, t3, hd3, r3⟩ := h0 vs H2 t2 hds
   have hl := hn _ _ _ _ e0
   have hz := (rd F H2).length
   refine hR _ _ _ _ ⟨by rw [List.length_cons, List.length_append, ← hds.length, ← hz, hl], F, _ :: (d' ++ dd), β2, t3.fr, DenL.cons (Den.tr (t3.tr t.fr) _ _ hd') (DenL.append hd3 (rd F H2)), run.toE r3⟩
 ·exact (fail rfl r1).elim
theorem je {mf : List D -> M D} {fo : Dn -> M D} {g : Dn -> M (List D)} {dd : List D} {pl : Sem Bool} (c : Cls X.K C) (hm : Meth X.K C m f) (G : FnOk X.prog X.w X.K X.mg X.base (CXE X.prog X.w) k f fd ps (spF X.K n mf)) (hr : Room k X.A) (hb : dO X.K fd ps dd) (hx : bQ (CXE X.prog X.w) X E)
  (ho : PE X o (tV X.K fo E)) (ha : PA X (e :: es) (tVA X.K g E)) (hn : ∀ δ β r β', g δ β = some (.ok r, β') -> r.length + dd.length + 1 = n)
  (hst : starEach (e :: es) X.env = (false, eval e X.env) :: starEach es X.env := by rfl) (hpl : (backTo pos (starEach es X.env)).any (·.1) = false := by rfl)
  (ht : eval (.Call (.Attribute o m apos) (e :: es) [] pos) X.env = (do
   let ov ← eval o X.env
   standAt apos.atName
   let (f, first) ← holding [ov] (getMethod ov m pl)
   callWith pos f first (backTo pos (starEach (e :: es) X.env)) (backToKw pos (keywordEach [] X.env))) := by rfl) :
  PE X (.Call (.Attribute o m apos) (e :: es) [] pos) (tV X.K (eN C m mf fo g dd) E) := by
 obtain ⟨ds, dvs, b, rv, rd⟩ := hb
 exact (yL (pl := pl) ho c hm G hr b rv hx ha hst hpl ht).imp fun σ H Q h => pf (fun _ _ _ _ z => z) rd hn h
theorem yv {mf : List D -> M D} {fo : Dn -> M D} {dd : List D} {pl : Sem Bool} (c : Cls X.K C) (hm : Meth X.K C m f) (G : FnOk X.prog X.w X.K X.mg X.base (CXE X.prog X.w) k f fd ps (spF X.K n mf)) (hr : Room k X.A) (hb : dO X.K fd ps dd) (hx : bQ (CXE X.prog X.w) X E)
  (ho : PE X o (tV X.K fo E)) (hn : dd.length + 1 = n)
  (ht : eval (.Call (.Attribute o m apos) [] [] pos) X.env = (do
   let ov ← eval o X.env
   standAt apos.atName
   let (f, first) ← holding [ov] (getMethod ov m pl)
   callWith pos f first (backTo pos (starEach [] X.env)) (backToKw pos (keywordEach [] X.env))) := by rfl) :
  PE X (.Call (.Attribute o m apos) [] [] pos) (tV X.K (eN C m mf fo ah dd) E) := by
 obtain ⟨ds, dvs, b, rv, rd⟩ := hb
 refine (vc (pl := pl) ho c hm G hr b rv hx ht).imp fun σ H Q h => ?_
 obtain ⟨F, δ, β, fr, vk, h⟩ := pf (fun _ _ _ _ z => z) rd (fun δ β r β' e => by cases e; simpa using hn) h
 refine ⟨F, δ, β, fr, vk, h.mono fun v H1 ⟨a, dx, fs, ev, ha, hl, F2, δ2, β2, fr2, vk2, r2⟩ => ⟨a, dx, fs, ev, ha, hl, ?_⟩⟩
 exact run.ret fr2 r2 DenL.nil
end
structure ToX (F : Fx) (x : Addr) (H H' : Hp) (β' : Bg) : Prop where
 kp : ∀ a o, a ≠ x -> H a = some o -> (∀ b l, F.bg = some (b, l) -> a ≠ b /\ a ≠ l) -> H' a = some o
 fr : Fr F H' β'
section
variable {X : Cx} {E : St -> XK} {e : Expr} {es : List Expr} {pos p kpos : Pos} {x : Str} {k n : Nat} {f C : Addr} {fd : FuncData} {ps ks ns : List Str} {kws : List Keyword}
def oj (C : Addr) (ns : List Str) (mi : List D -> M (List D)) (g : Dn -> M (List D)) (dd : List D) : Dn -> M D := fun δ => M.bind (g δ) fun as => M.bind (mi (as ++ dd)) fun fs => M.ret (.obj C ns fs)
def pE (C : Addr) (ns : List Str) (mi : List D -> M (List D)) (g gk : Dn -> M (List D)) (src : List (Sr D)) : Dn -> M D := fun δ => M.bind (g δ) fun as => M.bind (gk δ) fun ks => M.bind (mi (as ++ src.map (Sr.pick .non ks))) fun fs => M.ret (.obj C ns fs)
def zP (C : Addr) (sp : Sp) (gV : List V -> List V -> List V) (E : St -> XK) (t tk : TA) : TE := fun σ H Q => t σ H fun vs H1 => tk σ H1 fun zs H2 => ∀ x dx, H2 x = none -> H2 dx = none -> dx ≠ x ->
 sp (gV (.ref x :: vs) zs) (upd (upd H2 dx (.own x)) x (.ins C dx [])) (fun v H3 => v = .non /\ Q (.ref x) H3) (E σ)
theorem vd {CX : CXT} {sp : Sp} {t tk : TA} {g : List Value -> List Value -> List Value} {gV : List V -> List V -> List V} (M : Mk X.K C f) (F : FnOk X.prog X.w X.K X.mg X.base CX k f fd ps sp) (hr : Room (k + 1) X.A) (hg : Gl X x) (hm : X.mg x = some (.ref C)) (hb : KBinds X.K fd ps ks g gV) (hx : bQ CX X E)
  (ha : PA X (e :: es) t) (hkw : PK X kws tk) (hall : (backToKw pos (keywordEach kws X.env)).all (·.1.isSome) = true := by rfl) (hks : (backToKw pos (keywordEach kws X.env)).filterMap (·.1) = ks := by rfl)
  (hdb : (x == ("__debug__" : Str)) = false := by decide) (he : starEach (e :: es) X.env = (false, eval e X.env) :: starEach es X.env := by rfl)
  (hpl : ((backTo pos (starEach (e :: es) X.env)).any (·.1) || (backToKw pos (keywordEach kws X.env)).any (·.1.isNone)) = false := by rfl) :
  PE X (.Call (.Name x p) (e :: es) kws pos) (zP C sp gV E t tk) := by
 intro pins s σ H Q I h
 refine wpAny_Call_Name_kw (gj I hg hm ?_ hdb)
 refine PySem.W.callWith_KW (h₀ := X.base) I.ok.mod.kin M.kp hall (thn (ha pos pins s σ H _ I h) fun us s1 ⟨vs, H1, I1, r, q⟩ => ?_) hpl he
 refine thn (hkw pos pins s1 σ H1 _ I1 q) fun ws s2 ⟨zs, H2, I2, rz, q2⟩ => ⟨I2.kIn, ?_⟩
 rw [hks]
 have hq := q2 (s2.heap.objs.size + 1) s2.heap.objs.size (I2.hok.fresh (Nat.le_succ _)) (I2.hok.fresh (Nat.le_refl _)) (Nat.ne_of_lt (Nat.lt_succ_self _))
 have I3 := Inv.made (C := C) I2
 have r2 := hb.rel (.cons (show aN (V.ref (s2.heap.objs.size + 1)) (Value.ref (s2.heap.objs.size + 1)) from rfl) r) rz
 have hl : (g (Value.ref (s2.heap.objs.size + 1) :: us) ws).length = ps.length := by rw [← r2.length]; exact F.len _ _ _ _ hq
 refine wpAny_call (ph (f := f) I2.kIn M.makes M.init (beq_iff_eq.mp M.fn) (codeAny_mono (F.run _ X.stack _ _ ⟨Value.ref (s2.heap.objs.size + 1) :: us, ks.zip ws⟩ (g (Value.ref (s2.heap.objs.size + 1) :: us) ws) _ _ (E σ) (hr.make C us (ks.zip ws))
  (I3.env0.make C us (ks.zip ws)) (hb.to _ (Value.ref (s2.heap.objs.size + 1) :: us) ws I3.kIn hl) r2 hq) fun r s' hq' => ?_))
 cases r with
 | error e => exact hx pins σ _ _ e s' I3 hq'
 | ok fl =>
  cases fl with
  | ret u =>
   obtain ⟨v, H', I4, rv, ev, q4⟩ := I3.after hq'
   subst ev
   exact ⟨rv, ⟨V.ref (s2.heap.objs.size + 1), H', I4, rfl, q4⟩⟩
  | next => exact False.elim hq'
  | brk => exact False.elim hq'
  | cont => exact False.elim hq'
end
abbrev IP := Ds -> List D -> Bg -> Option (Except Addr (List D) × Bg)
def yf : IP := fun _ done β => some (.ok done, β)
def iJ (g : G) (ip : IP) : IP := fun δ done β => match g δ β with
 | some (.nx δ1, β1) => match δ[0]?, δ1[0]? with
  | some (some (Sl.sh (D.adr x))), some (some (Sl.sh (D.adr y))) => if x = y then ip δ1 done β1 else none
  | _, _ => none
 | some (.ex C _, β1) => some (.error C, β1)
 | _ => none
def gb (f : Dn -> M D) (ip : IP) : IP := fun δ done β => match f (vw δ) β with
 | some (.ok d, β1) => ip δ (done ++ [d]) β1
 | some (.error C, β1) => some (.error C, β1)
 | none => none
structure StpX (x : Addr) (B : Ow) (H : Hp) (B' : Ow) (H' : Hp) : Prop where
 kp : ∀ a o, a ≠ x -> H a = some o -> (B a = none \/ B a = some 0) -> H' a = some o
 tg : ∀ a, B a = some 0 \/ B a = some 1 -> B' a = B a
 nn : ∀ a o, a ≠ x -> H a = some o -> B a = none -> B' a = none
 al : ∀ a, H a ≠ none -> H' a ≠ none
theorem Stp.x {x : Addr} {B B' : Ow} {H H' : Hp} (s : Stp B H B' H') : StpX x B H B' H' := ⟨fun a o _ => s.kp a o, s.tg, fun a o _ => s.nn a o, s.al⟩
theorem StpX.trans {x : Addr} {B B1 B2 : Ow} {H H1 H2 : Hp} (a : StpX x B H B1 H1) (b : StpX x B1 H1 B2 H2) : StpX x B H B2 H2 := by
 refine ⟨fun c o ne h n => b.kp c o ne (a.kp c o ne h n) ?_, fun c h => ?_, fun c o ne h n => b.nn c o ne (a.kp c o ne h (.inl n)) (a.nn c o ne h n), fun c h => b.al c (a.al c h)⟩
 ·rcases n with n | n
  ·exact .inl (a.nn c o ne h n)
  ·exact .inr ((a.tg c (.inl n)).trans n)
 ·have e := a.tg c h
  rw [← e] at h
  exact (b.tg c h).trans e
theorem m4 {f : Str} {y : V} : ∀ {ns : List Str} {vs : List V}, ns.length = vs.length -> f ∉ ns -> cA f y (ns.zip vs) = (ns ++ [f]).zip (vs ++ [y])
 | [], [], _, _ => rfl
 | n :: ns, v :: vs, h, hf => by
  have h1 : ¬ n = f := fun z => hf (by rw [z]; exact List.mem_cons_self)
  show (if n = f then (n, y) :: ns.zip vs else (n, v) :: cA f y (ns.zip vs)) = _
  rw [if_neg h1, m4 (by simpa using h) fun z => hf (List.mem_cons_of_mem _ z)]
  rfl
 | [], _ :: _, h, _ => by simp at h
 | _ :: _, [], h, _ => by simp at h
theorem SOk.upd0 {K : Frag} {H₀ : Hp} {B : Ow} {bg : Option (Addr × Addr)} {H : Hp} {δ : Ds} {β : Bg} {σ : St} {x : Addr} {o : HO} (ok : SOk K H₀ B bg H δ β σ) (hx : B x = some 0) : SOk K H₀ B bg (upd H x o) δ β σ /\ StpX x B H B (upd H x o) := by
 have al : ∀ c, H c ≠ none -> upd H x o c ≠ none := fun c hc => by
  by_cases z : c = x
  ·subst z; rw [ax]; simp
  ·rw [upd_ne z]; exact hc
 have nb : ∀ b l, bg = some (b, l) -> b ≠ x /\ l ≠ x := fun b l e => by
  obtain ⟨b1, b2⟩ := ok.bgt b l e
  exact ⟨fun z => (by rw [z, hx] at b1; cases b1), fun z => (by rw [z, hx] at b2; cases b2)⟩
 have tr : Tr (FxB B bg) H (FxB B bg) (upd H x o) := ⟨fun _ h _ => h, fun c u hc e => by
  rw [upd_ne]
  ·exact e
  ·intro z; subst z; exact hc (by show B c ≠ none; rw [hx]; simp), rfl⟩
 refine ⟨⟨⟨fun c hc => al c (ok.fr.occ c hc), ok.fr.bgA, fun b l e => ?_⟩, ok.bgt, ok.len, fun c hc => al c (ok.cov c hc), ok.new, fun c k hc => ?_, fun i s e => ?_⟩, fun c u ne h _ => by rw [upd_ne ne]; exact h, fun _ _ => rfl, fun _ _ _ _ n => n, al⟩
 ·obtain ⟨z1, z2⟩ := ok.fr.bag b l e
  obtain ⟨n1, n2⟩ := nb b l e
  exact ⟨by rw [upd_ne n1]; exact z1, by rw [upd_ne n2]; exact z2⟩
 ·obtain ⟨xs, h⟩ := ok.lst c k hc
  exact ⟨xs, by rw [upd_ne]; exact h; intro z; subst z; rw [hx] at hc; cases hc⟩
 ·obtain ⟨v, h1, h2⟩ := ok.tell i s e
  refine ⟨v, h1, ?_⟩
  cases s with
  | sh d => exact Den.tr tr _ _ h2
  | own ds =>
   obtain ⟨a, xs, rfl, hB, ha, hd⟩ := h2
   exact ⟨a, xs, rfl, hB, (by rw [upd_ne]; exact ha; intro z; subst z; rw [hx] at hB; cases hB), DenL.tr tr _ _ hd⟩
  | grd rows =>
   obtain ⟨a, rs, rfl, hB, ha, nd, rl⟩ := h2
   refine ⟨a, rs, rfl, hB, (by rw [upd_ne]; exact ha; intro z; subst z; rw [hx] at hB; cases hB), nd, RowL.tr tr rl fun r xs _ p q => ⟨p, ?_⟩⟩
   rw [upd_ne]
   ·exact q
   ·intro z; subst z
    have p' : B r = some (i + 2) := p
    rw [hx] at p'; cases p'
section
variable {X : Cx} {E : St -> XK} {st : Stmt} {sts : List Stmt} {C : Addr} {ns0 names : List Str} {ip : IP}
end
open Classical in
noncomputable def jZ (m : Nat) (ip : IP) : List D -> M (List D) := fun ds β => if h : ∃ r, ∀ x, ip (stD m (.adr x :: ds)) [] β = some r then some h.choose else none
theorem vF {m : Nat} {ip : IP} {ds : List D} {β : Bg} {r : Except Addr (List D) × Bg} (h : ∀ x, ip (stD m (.adr x :: ds)) [] β = some r) : jZ m ip ds β = some r := by
 have hx : ∃ r, ∀ x, ip (stD m (.adr x :: ds)) [] β = some r := ⟨r, h⟩
 unfold jZ
 rw [dif_pos hx]
 have := hx.choose_spec 0
 rw [h 0] at this
 exact this.symm
theorem um {m : Nat} {ip : IP} {ds : List D} {β : Bg} {r : Except Addr (List D) × Bg} (h : jZ m ip ds β = some r) : ∀ x, ip (stD m (.adr x :: ds)) [] β = some r := by
 unfold jZ at h
 split at h
 ·rename_i hx
  have := hx.choose_spec
  cases h
  exact this
 ·cases h
section
variable {P : Program} {w : World} {K : Frag} {mg : Str -> Option Value} {base : Heap}
end
section
variable {X : Cx} {E : St -> XK} {K : Frag} {st : Stmt}
end
section
variable {h : G} {δ : Ds} {β β1 : Bg} {Q : Out -> Bg -> Prop} {i : Nat} {f : Dn -> M D}
end
section
variable {C Ce : Addr} {m : Str} {ns : List Str} {mf : List D -> M D} {mi : List D -> M (List D)} {fo : Dn -> M D} {g gk : Dn -> M (List D)} {dd fs as ks : List D} {src : List (Sr D)} {δ : Dn} {β β1 β2 β3 : Bg} {r : Except Addr D × Bg} {d : D} {f : Str} {h : G} {Q : Out -> Bg -> Prop} {i : Nat} {δs : Ds}
theorem g6 (e1 : fo δ β = some (.ok (.obj C ns fs), β1)) (e2 : g δ β1 = some (.ok as, β2)) (e3 : mf (.obj C ns fs :: (as ++ dd)) β2 = some r) (hm : m ∉ ns := by decide) : eN C m mf fo g dd δ β = some r := by
 unfold eN
 rw [M.bind_ok e1]
 simp only [hm, not_false_eq_true, and_self, if_true]
 rw [M.bind_ok e2]
 exact e3
theorem zC (e1 : g δ β = some (.ok as, β1)) (e2 : mi (as ++ dd) β1 = some (.ok fs, β2)) : oj C ns mi g dd δ β = some (.ok (.obj C ns fs), β2) := by
 unfold oj
 rw [M.bind_ok e1, M.bind_ok e2]
 rfl
theorem bj {x : Dn -> M D} (e1 : x δ β = some (.ok (.obj C ns fs), β1)) (e2 : (ns.zip fs).lookup f = some d) : f1 (cK C f) x δ β = some (.ok d, β1) := by
 refine x_1 e1 ?_
 unfold cK
 simp only [if_true]
 exact e2
theorem pq {g : G} {ip : IP} {δ δ1 : Ds} {done : List D} {x : Addr} {r : Except Addr (List D) × Bg} (e : g δ β = some (.nx δ1, β1)) (h0 : δ[0]? = some (some (.sh (.adr x)))) (h1 : δ1[0]? = some (some (.sh (.adr x)))) (k : ip δ1 done β1 = some r) : iJ g ip δ done β = some r := by
 unfold iJ
 simp only [e, h0, h1, if_true]
 exact k
theorem jA {f : Dn -> M D} {ip : IP} {δ : Ds} {done : List D} {d : D} {r : Except Addr (List D) × Bg} (e : f (vw δ) β = some (.ok d, β1)) (k : ip δ (done ++ [d]) β1 = some r) : gb f ip δ done β = some r := by
 unfold gb
 rw [e]
 exact k
end
def tpA {α : Type} (d : α) (c : Nat) (rows : List (List α)) : List (List α) := (List.range c).map fun j => rows.map fun row => row.getD j d
abbrev tp (c : Nat) (rows : List (List Int)) : List (List Int) := tpA 0 c rows
theorem vJ {α γ : Type} (f : α -> γ) (d : α) (l : List α) (j : Nat) : f (l.getD j d) = (l.map f).getD j (f d) := by
 rw [List.getD_eq_getElem?_getD, List.getD_eq_getElem?_getD, List.getElem?_map]
 cases l[j]? <;> rfl
theorem yx {α γ : Type} (f : α -> γ) (d : α) (c : Nat) (rows : List (List α)) : (tpA d c rows).map (fun r => r.map f) = tpA (f d) c (rows.map fun r => r.map f) := by
 unfold tpA
 rw [List.map_map]
 refine List.map_congr_left fun j _ => ?_
 show (rows.map fun row => row.getD j d).map f = _
 rw [List.map_map, List.map_map]
 refine List.map_congr_left fun row _ => ?_
 exact vJ f d row j
theorem jN {α : Type} {d : α} {r c : Nat} {rows : List (List α)} (h : rows.length = r) : Shp c r (tpA d c rows) := ⟨by simp [tpA], fun row hr => by
 obtain ⟨j, _, rfl⟩ := List.mem_map.mp hr
 rw [List.length_map, h]⟩
theorem rc {d : Int} : ∀ (row : List Int), (List.range row.length).map (fun j => row.getD j d) = row := fun row => by
 refine List.ext_getElem? fun i => ?_
 rw [List.getElem?_map]
 by_cases h : i < row.length
 ·rw [List.getElem?_range h]
  show some (row.getD i d) = _
  rw [List.getD_eq_getElem?_getD, List.getElem?_eq_getElem h]; rfl
 ·rw [List.getElem?_eq_none (by simpa using h), List.getElem?_eq_none (by omega)]; rfl
theorem qd {α : Type} (f g : α -> Int) : ∀ l : List α, (l.map fun x => f x + g x).sum = (l.map f).sum + (l.map g).sum
 | [] => by simp
 | x :: l => by
  simp only [List.map_cons, List.sum_cons, qd f g l]; omega
theorem oJ {α : Type} : ∀ l : List α, (l.map fun _ => (0 : Int)).sum = 0
 | [] => rfl
 | x :: l => by simp only [List.map_cons, List.sum_cons, oJ l]; rfl
theorem tj {c : Nat} : ∀ {rows : List (List Int)}, (∀ row ∈ rows, row.length = c) -> tot (tp c rows) = tot rows
 | [], _ => by
  show ((tpA 0 c []).map List.sum).sum = 0
  unfold tpA
  rw [List.map_map]
  exact oJ (List.range c)
 | row :: rows, h => by
  have ih := tj (c := c) (rows := rows) fun x hx => h x (List.mem_cons_of_mem _ hx)
  have hl := h row List.mem_cons_self
  unfold tot tp tpA at ih ⊢
  rw [List.map_map] at ih ⊢
  have e : (fun j => (List.sum ((row :: rows).map fun row => row.getD j 0))) = fun j => row.getD j 0 + (rows.map fun row => row.getD j 0).sum := by
   funext j
   rw [List.map_cons, List.sum_cons]
  show ((List.range c).map fun j => (List.sum ((row :: rows).map fun row => row.getD j 0))).sum = _
  rw [e, qd, ← hl, rc, hl, List.map_cons, List.sum_cons]
  congr 1
theorem Cj {c : Nat} {rows : List (List Int)} (h : ∀ row ∈ rows, ∀ x ∈ row, 0 <= x) : ∀ row ∈ tp c rows, ∀ x ∈ row, 0 <= x := fun row hr x hx => by
 obtain ⟨j, _, rfl⟩ := List.mem_map.mp hr
 obtain ⟨q, hq, rfl⟩ := List.mem_map.mp hx
 rw [List.getD_eq_getElem?_getD]
 cases e : q[j]? with
 | none => exact Int.le_refl 0
 | some y => exact h q hq y (List.mem_of_getElem? e)
end L2.Pu
namespace L2.Pu
open PySem PySem.Spec PyProof PyProof.Rows
section
variable {X : Cx}
end
section
variable {prog : Program} {w : World} {A : Around} {E : Value -> Shared -> Prop} {s : Shared} {l : Addr} {xs : Array (Int × Tok)}
end
section
variable {X : Cx} {K : Frag}
end
end L2.Pu
namespace L2
open PySem PySem.Spec PyProof.Rows
def jTxt (te : TE) (t : TJ) : TJ := fun σ H n Q => te σ H fun v H1 => ∃ x : Str, v = .str x /\ n + x.length <= sizeLine /\ t σ H1 (n + x.length) Q
theorem Ah {X : Cx} {es : List Expr} {t : TJ} {v : Expr} {p : Pos} {te : TE} (hv : PE X v te) (h : PJ X es t) (he : evalEach (.FormattedValue v (-1) none p :: es) X.env = eval (.FormattedValue v (-1) none p) X.env :: evalEach es X.env := by rfl) : PJ X (.FormattedValue v (-1) none p :: es) (jTxt te t) := by
 intro pins s σ H acc Q I hz hq
 rw [he]
 refine joinParts_cons (FormattedValue_plain (thn (hv pins s σ H _ I hq) fun u s1 ⟨y, H1, I1, r, x, ey, hl, q⟩ => ?_))
 subst ey
 obtain ⟨tk, rfl⟩ := r
 refine formatField_str (fun t' k => ?_) (by omega)
 have e : (acc ++ x).length = acc.length + x.length := strLen_append acc x
 have hz2 : (acc ++ x).length <= sizeLine := by rw [e]; omega
 refine ⟨hz2, h pins _ σ H1 _ Q (I1.tok _) hz2 ?_⟩
 rw [e]
 exact q
end L2
namespace L2.Pu
open PySem PySem.Spec PyProof.Rows
def yc (f : Dn -> M D) (g : Dn -> M Unit) : Dn -> M Unit := fun δ => M.bind (f δ) fun d => match d with
 | .str x => if x.length <= 100 then g δ else M.fail
 | _ => M.fail
theorem CJ {X : Cx} {E : St -> XK} {es : List Expr} {v : Expr} {p : Pos} {f : Dn -> M D} {g : Dn -> M Unit} {c : Nat} (hv : PE X v (tV X.K f E)) (h : PJ X es (jV X.K g c E)) (he : evalEach (.FormattedValue v (-1) none p :: es) X.env = eval (.FormattedValue v (-1) none p) X.env :: evalEach es X.env := by rfl) : PJ X (.FormattedValue v (-1) none p :: es) (jV X.K (yc f g) (100 + c) E) :=
 (Ah hv h he).imp fun σ H n Q ⟨hz, F, δ, β, fr, vk, r⟩ => ⟨F, δ, β, fr, vk, (run.bind (R := Den X.K F) r).mono fun v H1 h_ => by
  obtain ⟨d, β1, t, hd, r1⟩ := h_
  cases d with
  | str x =>
   by_cases q : x.length <= 100
   ·simp only [if_pos q] at r1
    refine ⟨x, hd, by omega, ⟨by omega, F, δ, β1, t.fr, vk.tr (t.tr fr), ?_⟩⟩
    obtain ⟨rr, β', e, k⟩ := r1
    refine ⟨rr, β', e, ?_⟩
    cases rr with
    | ok u => exact fun m' H' t' hm' => k m' H' t' (by omega)
    | error C => exact k
   ·simp only [if_neg q] at r1
    obtain ⟨rr, β', e, k⟩ := r1
    cases e
  | _ => obtain ⟨rr, β', e, k⟩ := r1; cases e⟩
section
variable {X : Cx} {E : St -> XK} {K : Frag} {elt target iter : Expr} {ifs : List Expr} {rest : List Comprehension} {scope : Scope} {pos : Pos} {Nc vars : List Str} {caps : List Nat} {g : TG} {tb : Addr -> TB}
end
section
variable {X : Cx} {E : St -> XK} {K : Frag} {st : Stmt} {H₀ : Hp} {B : Ow} {bg : Option (Addr × Addr)} {H H' : Hp} {δ : Ds} {β β' : Bg} {σ : St}
end
theorem lU1 {us : List Value} (h : us.length = 1) : ∃ a0, us = [a0] := List.length_eq_one_iff.mp h
theorem lU2 {us : List Value} (h : us.length = 2) : ∃ a0 a1, us = [a0, a1] := by
 obtain ⟨a, l, rfl⟩ := List.exists_cons_of_length_eq_add_one h
 obtain ⟨b, rfl⟩ := lU1 (us := l) (by simpa using h)
 exact ⟨_, _, rfl⟩
theorem lU3 {us : List Value} (h : us.length = 3) : ∃ a0 a1 a2, us = [a0, a1, a2] := by
 obtain ⟨a, l, rfl⟩ := List.exists_cons_of_length_eq_add_one h
 obtain ⟨b, c, rfl⟩ := lU2 (us := l) (by simpa using h)
 exact ⟨_, _, _, rfl⟩
theorem lU4 {us : List Value} (h : us.length = 4) : ∃ a0 a1 a2 a3, us = [a0, a1, a2, a3] := by
 obtain ⟨a, l, rfl⟩ := List.exists_cons_of_length_eq_add_one h
 obtain ⟨b, c, d, rfl⟩ := lU3 (us := l) (by simpa using h)
 exact ⟨_, _, _, _, rfl⟩
theorem lU5 {us : List Value} (h : us.length = 5) : ∃ a0 a1 a2 a3 a4, us = [a0, a1, a2, a3, a4] := by
 obtain ⟨a, l, rfl⟩ := List.exists_cons_of_length_eq_add_one h
 obtain ⟨b, c, d, e, rfl⟩ := lU4 (us := l) (by simpa using h)
 exact ⟨_, _, _, _, _, rfl⟩
end L2.Pu
namespace L2
open PySem PySem.Spec PyProof.Rows
section
variable {prog : Program} {w : World} {A : Around} {E : Value -> Shared -> Prop} {s : Shared} {K : Frag}
end
section
variable {X : Cx}
end
namespace Pu
section
variable {X : Cx} {E : St -> XK}
end
end Pu
end L2
namespace L2.Pu
open PySem PySem.Spec PyProof.Rows
section
variable {X : Cx} {E : St -> XK} {a b : Expr} {pos : Pos} {k : Nat} {f C : Addr} {fd : FuncData} {ps : List Str} {K : Frag}
structure IsC (K : Frag) (C : Addr) : Prop where
 cl : Cls K C
 ha : PySem.W.findIn K (.ref C) "__class__" = some (some (.builtin "object.__class__"))
 hn : PySem.W.specialIn K (.builtin "object.__class__") "__get__" = some (some (.builtin "getset_descriptor.__get__"))
 htk : PySem.W.takesIn K (.builtin "object.__class__") = some true
 hm : PySem.W.mroIn K C (.type "object") = some true
end
section
variable {X : Cx} {E : St -> XK} {a : Expr} {p1 p2 pos1 pos2 : Pos} {K : Frag}
end
abbrev nI (l : List Nat) : List Int := l.map fun (i : Nat) => (i : Int)
abbrev nL (l : List Nat) : D := .lst ((nI l).map D.int)
theorem vU {α : Type} {nv : Nat} {caps : List Nat} {it : Dn -> M (List D)} {tg : TgF} {tt : Dn -> M Bool} {f : Dn -> M D} {δ : Dn} {β : Bg} (xs : List α) (u v : α -> D) (p : α -> Bool) (h1 : it δ β = some (.ok (xs.map u), β))
  (h2 : ∀ x ∈ xs, ∃ δ1, tg (u x) (cSt nv caps δ) = some δ1 /\ tt δ1 β = some (.ok (p x), β) /\ (p x = true -> f δ1 β = some (.ok (v x), β))) (h3 : xs.length <= sizeLine) : aU nv caps it tg tt (cEm f) δ β = some (.ok (.lst ((xs.filter p).map v)), β) := by
 refine mQ h1 ?_ (by rw [List.length_map]; exact Nat.le_trans (List.length_filter_le _ _) h3)
 have gen : ∀ xs : List α, (∀ x ∈ xs, ∃ δ1, tg (u x) (cSt nv caps δ) = some δ1 /\ tt δ1 β = some (.ok (p x), β) /\ (p x = true -> f δ1 β = some (.ok (v x), β))) -> cLp tg tt (cEm f) (xs.map u) (cSt nv caps δ) β = some (.ok ((xs.filter p).map v), β) := by
  intro xs
  induction xs with
  | nil => intro _; rfl
  | cons x xs ih =>
   intro h
   obtain ⟨δ1, e1, e2, e3⟩ := h x List.mem_cons_self
   have e4 := ih fun y hy => h y (List.mem_cons_of_mem _ hy)
   rw [List.map_cons, cLp, List.filter_cons]
   cases q : p x with
   | true =>
    rw [q] at e2
    simp only [e1, M.bind, M.ret, e2, cEm, e3 q, e4, if_pos, List.map_cons, List.cons_append, List.nil_append]
   | false =>
    rw [q] at e2
    simp only [e1, M.bind, M.ret, e2, e4, Bool.false_eq_true, if_false, List.nil_append]
 exact gen xs h2
def Fx.old (F : Fx) (H0 : Hp) : Fx := ⟨fun a => F.A a \/ ∃ xs, H0 a = some (.lst xs), F.bg⟩
theorem Fx.old_le {F F2 : Fx} {H0 H1 H : Hp} (h1 : ∀ a, F2.A a -> F.A a \/ ∃ xs, H1 a = some (.lst xs)) (h2 : ∀ a xs, H0 a = some (.lst xs) -> F.A a \/ ∃ ys, H1 a = some (.lst ys)) (hb : F2.bg = F.bg) : Tr (F.old H1) H (F2.old H0) H :=
 ⟨fun a h _ z => by
  rcases z with z | z
  ·exact h (h1 a z)
  ·obtain ⟨xs, z⟩ := z
   exact h (h2 a xs z), fun _ _ _ h => h, hb⟩
theorem To.lst {F : Fx} {H H1 : Hp} {β β1 : Bg} (fr : Fr F H β) (t : To F H H1 β1) : ∀ a xs, H a = some (.lst xs) -> F.A a \/ ∃ ys, H1 a = some (.lst ys) := fun a xs h => by
 by_cases z : F.A a
 ·exact .inl z
 ·exact .inr ⟨xs, t.kp a _ h fun b l q => ⟨fun w => z (w ▸ (fr.bgA b l q).1), fun w => z (w ▸ (fr.bgA b l q).2.1)⟩⟩
def tVN (K : Frag) (f : Dn -> M D) (E : St -> XK) : TE := fun σ H Q => ∃ F δ β, Fr F H β /\ VOk K F H δ σ /\ run (Den K (F.old H)) F E σ (f δ) H Q β
section
variable {X : Cx} {E : St -> XK} {o e : Expr} {es : List Expr} {pos p apos : Pos} {x m : Str} {k n : Nat} {f C : Addr} {fd : FuncData} {ps ks ns : List Str} {kws : List Keyword} {st : Stmt} {sts : List Stmt}
def oM (K : Frag) (C : Addr) (ns : List Str) (n : Nat) (mi : List D -> M (List D)) : Sp := fun vs H Q E => ∃ x rest F ds β dx, vs = .ref x :: rest /\ rest.length = n /\ Fr F H β /\ F.A x /\ (∀ b l, F.bg = some (b, l) -> x ≠ b /\ x ≠ l) /\ H x = some (.ins C dx []) /\ DenL K F H ds rest /\
 ∃ r β', mi ds β = some (r, β') /\ match r with
  | .ok es => ∀ H' xs, ToX F x H H' β' -> H' x = some (.ins C dx (ns.zip xs)) -> ns.length = xs.length -> DenL K (F.old H) H' es xs -> Q .non H'
  | .error Ce => ∀ H', ToX F x H H' β' -> E (.ref Ce) none H'
theorem m7 {K : Frag} {mi : List D -> M (List D)} {F : Fx} {H H2 : Hp} {β β2 : Bg} {σ : St} {Q : VK} {ds : List D} {vs : List V} (fr0 : Fr F H β) (t0 : To F H H2 β2) (hl : vs.length = n) (hd : DenL K F H2 ds vs) (r : run (Den K (F.old H)) F E σ (M.bind (mi ds) fun fs => M.ret (.obj C ns fs)) H2 Q β2) :
  ∀ x dx, H2 x = none -> H2 dx = none -> dx ≠ x -> oM K C ns n mi (.ref x :: vs) (upd (upd H2 dx (.own x)) x (.ins C dx [])) (fun v H3 => v = .non /\ Q (.ref x) H3) (E σ) := by
 intro x dx hx hdx ne
 have fr := t0.fr
 have hA : ¬ F.A x := fr.fresh hx
 have same : bF H2 (upd (upd H2 dx (.own x)) x (.ins C dx [])) := fun a o h => by
  rw [upd_ne (ne_of_none h hx), upd_ne (ne_of_none h hdx)]; exact h
 have t := fr.same same
 have frx : Fr (F.but x) (upd (upd H2 dx (.own x)) x (.ins C dx [])) β2 := ⟨fun a ha z => (by
  rcases ha with ha | ha
  ·exact t.fr.occ a ha z
  ·subst ha; rw [ax] at z; cases z), fun b l q => let ⟨z1, z2, z3⟩ := fr.bgA b l q; ⟨.inl z1, .inl z2, z3⟩, t.fr.bag⟩
 have nb : ∀ b l, F.bg = some (b, l) -> x ≠ b /\ x ≠ l := fun b l q => ⟨fun z => hA (z ▸ (fr.bgA b l q).1), fun z => hA (z ▸ (fr.bgA b l q).2.1)⟩
 have tr1 : Tr F H2 (F.but x) (upd (upd H2 dx (.own x)) x (.ins C dx [])) := ⟨fun a h1 h2 z => by
  rcases z with z | z
  ·exact h1 z
  ·subst z; exact h2 hx, fun a o _ h => same a o h, rfl⟩
 obtain ⟨rr, β', er, h⟩ := r
 refine ⟨x, vs, F.but x, ds, β2, dx, rfl, hl, frx, .inr rfl, nb, ax, DenL.tr tr1 _ _ hd, ?_⟩
 have toF : ∀ {H' : Hp} {β' : Bg}, ToX (F.but x) x (upd (upd H2 dx (.own x)) x (.ins C dx [])) H' β' -> To F H2 H' β' := fun {H' β'} tx => ⟨fun a o ha n => tx.kp a o (ne_of_none ha hx) (same a o ha) n, ⟨fun a ha => tx.fr.occ a (.inl ha), fr.bgA, tx.fr.bag⟩⟩
 cases q : mi ds β2 with
 | none => unfold M.bind at er; rw [q] at er; cases er
 | some z =>
  obtain ⟨r1, β1⟩ := z
  refine ⟨r1, β1, rfl, ?_⟩
  cases r1 with
  | error Ce =>
   rw [M.bind_err q] at er
   cases er
   exact fun H' tx => h H' (toF tx)
  | ok fs =>
   rw [M.bind_ok q] at er
   cases er
   refine fun H' xs tx hx' hlen hden => ⟨rfl, h (.ref x) H' (toF tx) ⟨x, dx, xs, rfl, fun z => ?_, hx', hlen, DenL.tr (Fx.old_le (F := F.but x) (fun a z => Or.inl (Or.inl z)) (fun a ys z => ?_) rfl) _ _ hden⟩⟩
   ·rcases z with z | z
    ·exact hA z
    ·obtain ⟨ys, z⟩ := z
     rw [t0.none hx] at z; cases z
   ·rcases t0.lst fr0 a ys z with z | z
    ·exact Or.inl (Or.inl z)
    ·obtain ⟨zs, z⟩ := z
     exact .inr ⟨zs, same a _ z⟩
theorem AD {mi : List D -> M (List D)} {g : Dn -> M (List D)} {dd : List D} (Mm : Mk X.K C f) (G : FnOk X.prog X.w X.K X.mg X.base (CXE X.prog X.w) k f fd ps (oM X.K C ns n mi)) (hr : Room (k + 1) X.A) (hg : Gl X x) (hm : X.mg x = some (.ref C)) (hb : dO X.K fd ps dd) (hx : bQ (CXE X.prog X.w) X E)
  (ha : PA X (e :: es) (tVA X.K g E)) (hn : ∀ δ β r β', g δ β = some (.ok r, β') -> r.length + dd.length = n) (hdb : (x == ("__debug__" : Str)) = false := by decide) (he : starEach (e :: es) X.env = (false, eval e X.env) :: starEach es X.env := by rfl) (hpl : (backTo pos (starEach es X.env)).any (·.1) = false := by rfl) :
  PE X (.Call (.Name x p) (e :: es) [] pos) (tVN X.K (oj C ns mi g dd) E) := by
 obtain ⟨ds, dvs, b, rv, rd⟩ := hb
 refine (yM Mm G hr hg hm b rv hx ha hdb he hpl).imp fun σ H Q h_ => ex6 h_ fun F δ β fr vk r => ⟨F, δ, β, fr, vk, ?_⟩
 obtain ⟨r0, β0, e0, h0⟩ := run.bind (R := DenL X.K F) r
 refine ⟨r0, β0, e0, ?_⟩
 cases r0 with
 | error C => exact h0
 | ok as =>
  intro vs H1 t hd
  obtain ⟨d', β1, t1, hd1, r1⟩ := h0 vs H1 t hd
  have hl := hn _ _ _ _ e0
  have hz := (rd F H1).length
  exact m7 fr t1 (by rw [List.length_append, ← hd.length, ← hz, hl]) (DenL.append hd1 (rd F H1)) r1
def j0 (i : Nat) (f : Dn -> M D) : G := fun δ β => match f (vwA δ) β with
 | some (.ok d, β1) => some (.nx (δ.set i (some (.sh d))), β1)
 | some (.error C, β1) => some (.ex C δ, β1)
 | none => none
theorem tN {i : Nat} {g : Dn -> M D} (h : PS X st (iz (tVN X.K g E) (dZ i))) : PS X st (tG X.K X.H₀ (j0 i g) E) := h.imp fun D σ H h_ => by
 obtain ⟨B, bg, δ, β, o, β', ok, e, q⟩ := h_
 refine ⟨FxA B bg, vwA δ, β, ok.frA, ok.viewA, ?_⟩
 unfold j0 at e
 split at e
 ·rename_i d β1 e1
  cases e
  refine ⟨.ok d, _, e1, fun v H' t hd => ?_⟩
  obtain ⟨ok2, s2⟩ := ok.to rfl t
  have tr : Tr ((FxA B bg).old H) H' (FxB B bg) H' := ⟨fun a h _ z => h (ok.AtoB a z), fun _ _ _ h => h, rfl⟩
  exact q _ B H' s2 (ok2.set (Den.tr tr _ _ hd))
 ·rename_i C β1 e1
  cases e
  refine ⟨.error C, _, e1, fun H' t => ?_⟩
  obtain ⟨ok2, s2⟩ := ok.to rfl t
  exact q _ B H' s2 ok2
 ·cases e
def pO (H₀ : Hp) (B : Ow) (H : Hp) : Prop := ∀ a xs, H₀ a = some (.lst xs) -> B a = some 1 \/ ∃ ys, H a = some (.lst ys)
theorem pO.stp {K : Frag} {H₀ H H' : Hp} {B B' : Ow} {bg : Option (Addr × Addr)} {δ : Ds} {β : Bg} {σ : St} (k : pO H₀ B H) (ok : SOk K H₀ B bg H δ β σ) (s : Stp B H B' H') : pO H₀ B' H' := fun a xs h => by
 rcases k a xs h with z | z
 ·exact .inl ((s.tg a (.inr z)).trans z)
 ·obtain ⟨ys, z⟩ := z
  cases q : B a with
  | none => exact .inr ⟨ys, s.kp a _ z (.inl q)⟩
  | some n =>
   match n, q with
   | 0, q => exact .inr ⟨ys, s.kp a _ z (.inr q)⟩
   | 1, q => exact .inl ((s.tg a (.inr q)).trans q)
   | n + 2, q => rw [ok.new a n q] at h; cases h
def gn (K : Frag) (H₀ : Hp) (bg : Option (Addr × Addr)) (E : St -> XK) (Dn : Ends) (B : Ow) (H : Hp) (x C dx : Addr) (all : List Str) (r : Except Addr (List D)) (β' : Bg) : Prop := match r with
 | .ok ds => ∀ σ' B' H' vs, StpX x B H B' H' -> Fr (FxB B' bg) H' β' -> H' x = some (.ins C dx (all.zip vs)) -> all.length = vs.length -> DenL K ((FxB B' bg).old H₀) H' ds vs -> Dn.nx σ' H'
 | .error Ce => ∀ σ' B' H', StpX x B H B' H' -> Fr (FxB B' bg) H' β' -> E σ' (.ref Ce) none H'
theorem gn.pre {K : Frag} {H₀ : Hp} {bg : Option (Addr × Addr)} {Dn : Ends} {B B1 : Ow} {H H1 : Hp} {x C dx : Addr} {all : List Str} {r : Except Addr (List D)} {β' : Bg} (s : StpX x B H B1 H1) (h : gn K H₀ bg E Dn B H x C dx all r β') : gn K H₀ bg E Dn B1 H1 x C dx all r β' := by
 cases r with
 | ok ds => exact fun σ' B' H' vs t => h σ' B' H' vs (s.trans t)
 | error Ce => exact fun σ' B' H' t => h σ' B' H' (s.trans t)
def tIN (K : Frag) (H₀ : Hp) (C : Addr) (ns0 names : List Str) (ip : IP) (E : St -> XK) : TS := fun Dn σ H => ∃ B bg δ β x dx vs0 ds0 r β', SOk K H₀ B bg H δ β σ /\ pO H₀ B H /\ δ[0]? = some (some (.sh (.adr x))) /\ B x = some 0 /\ H x = some (.ins C dx (ns0.zip vs0)) /\ ns0.length = vs0.length /\ DenL K ((FxB B bg).old H₀) H ds0 vs0 /\ ip δ ds0 β = some (r, β') /\ gn K H₀ bg E Dn B H x C dx (ns0 ++ names) r β'
theorem qu {H₀ H H' : Hp} {B B' : Ow} {bg : Option (Addr × Addr)} (s : Stp B H B' H') (cov : ∀ a, H₀ a ≠ none -> H a ≠ none) : Tr ((FxB B bg).old H₀) H ((FxB B' bg).old H₀) H' :=
 ⟨fun a h h2 z => by
  have hb : B a = none := by
   cases q : B a with
   | none => rfl
   | some n => exact absurd (Or.inl (by show B a ≠ none; rw [q]; simp)) h
  rcases z with z | z
  ·cases q : H a with
   | none => exact h2 q
   | some o => exact z (s.nn a o q hb)
  ·exact h (Or.inr z), fun a o h e => s.kp a o e (.inl (by
   cases q : B a with
   | none => rfl
   | some n => exact absurd (Or.inl (by show B a ≠ none; rw [q]; simp)) h)), rfl⟩
variable {ns0 names : List Str} {ip : IP}
theorem AQ : PSs X [] (tIN X.K X.H₀ C ns0 [] yf E) := l9.imp fun Dn σ H h_ => by
 obtain ⟨B, bg, δ, β, x, dx, vs0, ds0, r, β', ok, kp, h0, hx, hH, hl, hd, e, k⟩ := h_
 cases e
 rw [List.append_nil] at k
 exact k σ B H vs0 (Stp.refl B H).x ok.fr hH hl hd
theorem pw {g : G} (h1 : PS X st (tG X.K X.H₀ g E)) (h2 : PSs X sts (tIN X.K X.H₀ C ns0 names ip E)) : PSs X (st :: sts) (tIN X.K X.H₀ C ns0 names (iJ g ip) E) := (bV h1 h2).imp fun Dn σ H h_ => by
 obtain ⟨B, bg, δ, β, x, dx, vs0, ds0, r, β', ok, kp, h0, hx, hH, hl, hd, e, k⟩ := h_
 unfold iJ at e
 split at e
 ·rename_i δ1 β1 e1
  split at e
  ·rename_i x1 y1 q1 q2
   split at e
   ·rename_i z
    subst z
    rw [h0] at q1
    cases q1
    refine ⟨B, bg, δ, β, .nx δ1, β1, ok, e1, fun σ' B' H' s ok' => ?_⟩
    exact ⟨B', bg, δ1, β1, x, dx, vs0, ds0, r, β', ok', kp.stp ok s, q2, (s.tg x (.inl hx)).trans hx, s.kp x _ hH (.inr hx), hl, DenL.tr (qu s ok.cov) _ _ hd, e, gn.pre s.x k⟩
   ·cases e
  ·cases e
 ·rename_i Ce δ1 β1 e1
  cases e
  exact ⟨B, bg, δ, β, .ex Ce δ1, _, ok, e1, fun σ' B' H' s ok' => k σ' B' H' s.x ok'.fr⟩
 ·cases e
theorem jB {f : Str} {fv : Dn -> M D} (c : Cls X.K C) (n : cP X.K C f) (hf : f ∉ ns0) (hlen : ns0.length < 1000) (h1 : PS X st (z7 X.K (oG 0) (tVN X.K fv E) f)) (h2 : PSs X sts (tIN X.K X.H₀ C (ns0 ++ [f]) names ip E)) : PSs X (st :: sts) (tIN X.K X.H₀ C ns0 (f :: names) (gb fv ip) E) := (bV h1 h2).imp fun Dn σ H h_ => by
 obtain ⟨B, bg, δ, β, x, dx, vs0, ds0, r, β', ok, kp, h0, hx, hH, hl, hd, e, k⟩ := h_
 refine ⟨FxB B bg, vw δ, β, ok.fr, ok.view, ?_⟩
 unfold gb at e
 split at e
 ·rename_i d β1 e1
  refine ⟨.ok d, β1, e1, fun y H1 t1 hy => ?_⟩
  obtain ⟨ok1, s1⟩ := ok.to rfl t1
  obtain ⟨v, g1, g2⟩ := ok1.tell 0 _ h0
  have hv : v = .ref x := g2
  subst hv
  have hH1 := s1.kp x _ hH (.inr hx)
  have kp1 := kp.stp ok s1
  refine ⟨_, g1, x, C, dx, _, rfl, hH1, c, n, ?_, ?_⟩
  ·rw [List.length_zip]; omega
  obtain ⟨ok2, s2⟩ := ok1.upd0 (o := .ins C dx (cA f y (ns0.zip vs0))) hx
  have trx : Tr ((FxB B bg).old X.H₀) H1 ((FxB B bg).old X.H₀) (upd H1 x (.ins C dx (cA f y (ns0.zip vs0)))) := ⟨fun _ h _ => h, fun a u ha e => by
   rw [upd_ne]
   ·exact e
   ·intro z; subst z; exact ha (Or.inl (by show B a ≠ none; rw [hx]; simp)), rfl⟩
  have try_ : Tr ((FxB B bg).old H) H1 ((FxB B bg).old X.H₀) H1 := Fx.old_le (fun a z => Or.inl z) (fun a xs z => by
   rcases kp a xs z with z | z
   ·exact Or.inl (by show B a ≠ none; rw [z]; simp)
   ·exact Or.inr z) rfl
  have kp2 : pO X.H₀ B (upd H1 x (.ins C dx (cA f y (ns0.zip vs0)))) := fun a xs z => by
   rcases kp1 a xs z with z | z
   ·exact .inl z
   ·obtain ⟨ys, z⟩ := z
    refine .inr ⟨ys, ?_⟩
    rw [upd_ne]
    ·exact z
    ·intro w; subst w; rw [hH1] at z; cases z
  refine ⟨B, bg, δ, β1, x, dx, vs0 ++ [y], ds0 ++ [d], r, β', ok2, kp2, h0, hx, by rw [ax, m4 hl hf], by simp [hl], DenL.append (DenL.tr trx _ _ (DenL.tr (qu s1 ok.cov) _ _ hd)) (DenL.cons (Den.tr trx _ _ (Den.tr try_ _ _ hy)) DenL.nil), e, ?_⟩
  rw [List.append_assoc]
  exact gn.pre (s1.x.trans s2) k
 ·rename_i Ce β1 e1
  cases e
  refine ⟨.error Ce, _, e1, fun H1 t1 => ?_⟩
  obtain ⟨ok1, s1⟩ := ok.to rfl t1
  exact k σ B H1 s1.x ok1.fr
 ·cases e
end
section
variable {P : Program} {w : World} {K : Frag} {mg : Str -> Option Value} {base : Heap}
theorem vL {x qual : Str} {st : Stmt} {f C : Addr} {fd : FuncData} {N ps names : List Str} {k : Nat} (n m : Nat) (ip : IP) (F : FunD K x qual st f fd) (S : FnScope N ps (aj st)) (hn' : ps.length = n + 1) (hm' : N.length = m)
  (hbody : ∀ (cdv : Value) (A : Around) (outer : List Env) (s : Shared) (H : Hp) (E : XK), Room k (A.deeper (envOfC qual (aj st) s.heap.objs.size f cdv)) ->
   PSs (cN (CXE P w) P w K mg base N qual (aj st) f cdv A outer s H E) (cg st) (tIN K H C [] names ip (fun _ => E))) : FnOk P w K mg base (CXE P w) (k + 1) f fd ps (oM K C names n (jZ m ip)) := by
 subst hm'
 refine F.okE S (fun vs H Q E h => ?_) fun cdv A outer s H vs Q E hr h => ?_
 ·obtain ⟨y, rest, F0, ds, β, dx, rfl, hl, _⟩ := h
  rw [List.length_cons, hl, hn']
 obtain ⟨y, rest, F0, ds, β, dx, rfl, hl, fr, hA0, nb, hH, hd, r, β', e, h⟩ := h
 refine ⟨_, hbody cdv A outer s H E hr, ?_⟩
 have hd' : DenL K F0 H (.adr y :: ds) (.ref y :: rest) := DenL.cons rfl hd
 obtain ⟨B, ok, hA, h1, hn⟩ := tH (N := N) fr hd'
 have hy : B y = some 0 := by
  rcases hA y hA0 with z | z
  ·exact z
  ·obtain ⟨b, l, q, w⟩ := h1 y z
   obtain ⟨n1, n2⟩ := nb b l q
   rcases w with w | w
   ·exact absurd w n1
   ·exact absurd w n2
 have toF : ∀ {B' : Ow} {H' : Hp} {β' : Bg}, StpX y B H B' H' -> Fr (FxB B' F0.bg) H' β' -> ToX F0 y H H' β' /\ Tr ((FxB B' F0.bg).old H) H' (F0.old H) H' := fun {B' H' β'} s fr' => by
  have hs : ∀ a, F0.A a -> B' a ≠ none := fun a ha => by
   rw [s.tg a (hA a ha)]
   rcases hA a ha with z | z <;> rw [z] <;> simp
  refine ⟨⟨fun a o ne ha n => s.kp a o ne ha ?_, fun a ha => fr'.occ a (hs a ha), fun b l e => fr.bgA b l e, fr'.bag⟩, Fx.old_le (fun a z => Or.inl (hs a z)) (fun a xs z => Or.inr ⟨xs, z⟩) rfl⟩
  cases q : B a with
  | none => exact .inl rfl
  | some t =>
   have := hA a (hn a (by rw [q]; simp))
   rcases this with z | z
   ·rw [q] at z; exact .inr z
   ·obtain ⟨b, l, e, w⟩ := h1 a z
    obtain ⟨n1, n2⟩ := n b l e
    rcases w with w | w
    ·exact absurd w n1
    ·exact absurd w n2
 refine ⟨B, F0.bg, stD N.length (.adr y :: ds), β, y, dx, [], [], r, β', ok, fun a xs z => .inr ⟨xs, z⟩, rfl, hy, hH, rfl, DenL.nil, um e y, ?_⟩
 cases r with
 | ok es =>
  intro σ' B' H' vs s fr' hx' hlen hden
  obtain ⟨t1, t2⟩ := toF s fr'
  exact h H' vs t1 hx' hlen (DenL.tr t2 _ _ hden)
 | error Ce =>
  intro σ' B' H' s fr'
  exact h H' (toF s fr').1
end
section
variable {X : Cx} {E : St -> XK} {o : Expr} {pos apos : Pos} {m : Str} {k : Nat} {f C : Addr} {fd : FuncData} {ps : List Str}
end
section
variable {δ : Dn} {β β1 β2 : Bg}
end
end L2.Pu
namespace L2.Pu
open PySem PySem.Spec PyProof PyProof.Rows
section
variable {X : Cx} {K : Frag}
end
section
variable {X : Cx} {K : Frag} {E : St -> XK} {o e : Expr} {apos cpos : Pos}
end
end L2.Pu
namespace L2.Pu
open PySem PySem.Spec PyProof.Rows
section
variable {prog : Program} {w : World} {A : Around} {E : Value -> Shared -> Prop} {s : Shared} {l : Addr} {xs : Array (Int × Tok)}
theorem uQ {Q : Value -> Shared -> Prop} (hh : A.handled = none) (hl : s.heap.IsTuple l (intItems xs))
  (h : ∀ h' tk t', (∀ b o, s.heap.get? b = some o -> h'.get? b = some o) -> Q (.int (preSum (numAt xs) xs.size) t') { s with heap := h', toks := tk }) :
  wpAny (model prog w) A (call (.builtin "sum") [.ref l]) Q E s := by
 have hlt : l < s.heap.objs.size := by obtain ⟨_, e, _⟩ := hl; exact Heap.lt_size e
 refine call_sum_walkG (wpAny_pyIter_tuple hl ⟨_, _, _, _, _, _, numAt xs, rfl, Walks.tuple (A := A.in1) hh _ l (Nat.ne_of_lt hlt) (intItems xs), ⟨⟨_, Heap.get?_push_size _ rfl, rfl, rfl⟩, hl.at fun o e => Heap.get?_push_of_some _ e⟩, fun b hb => ?_, (fun _ _ => intItems_at), fun h' tk t' hk => ?_⟩)
 ·show b < (s.heap.push _).objs.size
  rw [Heap.size_push]
  rcases List.mem_cons.mp hb with rfl | hb
  ·exact Nat.lt_succ_self _
  ·rcases List.mem_cons.mp hb with rfl | hb
   ·exact Nat.lt_succ_of_lt hlt
   ·cases hb
 ·have := h h' tk t' fun b o e => hk b o (fun hm => by
   rcases List.mem_cons.mp hm with e1 | hm
   ·exact absurd (e1 ▸ Heap.lt_size e) (Nat.lt_irrefl _)
   ·cases hm) (Heap.get?_push_of_some _ e)
  simpa [intItems] using this
end
section
variable {X : Cx} {K : Frag}
abbrev xO (K : Frag) : List V -> Hp -> VK -> Prop := fun xs H Q => ∃ (p : Addr) (ns : List Int), xs = [.ref p] /\ (SqL K H p (ns.map V.int) \/ SqT K H p (ns.map V.int)) /\ Q (.int ns.sum) H
theorem uF (hc : X.calm = true) : cZ X (.builtin "sum") (xO X.K) := by
 intro pins s σ H xs us Q I r h
 obtain ⟨p, ns, rfl, hq | hq, q⟩ := h
 ·exact nq hc pins s σ H _ us Q I r ⟨p, ns, rfl, hq, q⟩
 ·obtain ⟨u, rfl, rx⟩ := nX r
  cases rx
  obtain ⟨its, rv, pl, hz⟩ := I.tuple hq
  have hi := lI rv
  obtain ⟨xs, ex⟩ := hi.allInts.items
  have e1 := hi.numsOf
  have e2 : its = (intItems xs).toList := by rw [← ex]
  rw [e2, nums_intItems] at e1
  rw [ex] at pl
  refine uQ (I.ok.hd hc) pl fun h' tk t' hk => ?_
  have e : preSum (numAt xs) xs.size = ns.sum := by rw [preSum_eq, List.take_of_length_le (by simp), e1]
  rw [e]
  exact ⟨.int ns.sum, H, I.kept hk, ⟨_, rfl⟩, q⟩
def jR : List D -> Option D
 | [.lst xs] => (dz xs).map fun ns => .int ns.sum
 | [.tup xs] => (dz xs).map fun ns => .int ns.sum
 | _ => none
theorem AH : dN K (xO K) jR := fun F H β Q ds d vs fr h e k => by
 unfold jR at e
 split at e
 ·rename_i xs
  obtain ⟨ns, q, rfl⟩ := Option.map_eq_some_iff.mp e
  obtain ⟨v, rfl, g⟩ := DenL.one h
  obtain ⟨a, ys, rfl, r, dl⟩ := Den.sqL g
  rw [intsOf_eq q] at dl
  have e2 := DenL.ints ns dl
  subst e2
  exact ⟨a, ns, rfl, .inl r, k _ H (To.refl fr) rfl⟩
 ·rename_i xs
  obtain ⟨ns, q, rfl⟩ := Option.map_eq_some_iff.mp e
  obtain ⟨v, rfl, g⟩ := DenL.one h
  obtain ⟨a, ys, rfl, r, dl⟩ := Den.sqT g
  rw [intsOf_eq q] at dl
  have e2 := DenL.ints ns dl
  subst e2
  exact ⟨a, ns, rfl, .inr r, k _ H (To.refl fr) rfl⟩
 ·cases e
theorem zW (ns : List Int) : jR [.lst (ns.map D.int)] = some (.int ns.sum) := hG ns
theorem zV (ns : List Int) : jR [.tup (ns.map D.int)] = some (.int ns.sum) := hG ns
end
section
variable {X : Cx} {E : St -> XK} {o e e1 e2 : Expr} {es : List Expr} {pos p apos : Pos} {x m : Str} {k n : Nat} {f C : Addr} {fd : FuncData} {ps ks ns : List Str} {kws : List Keyword}
def rE (ds : List D) : Option D := if noLs ds = true then some (.lst ds) else none
def fON (g : Dn -> M (List D)) : Dn -> M D := fun δ => M.bind (g δ) fun ds => M.ofO (rE ds)
theorem xX {g : Dn -> M (List D)} (h : PE X e (tVO X.K g E)) : PE X e (tVN X.K (fON g) E) := h.imp fun σ H Q h_ => ex6 h_ fun F δ β fr vk r => ⟨F, δ, β, fr, vk, (run.bind (R := dE X.K F H) r).mono fun v H1 h_ => ex5 h_ fun ds β1 t hg r1 => by
 obtain ⟨d, e1, k⟩ := run.ofO r1
 unfold rE at e1
 split at e1
 ·rename_i hn
  cases e1
  obtain ⟨a, xs, rfl, n0, n1, dl⟩ := hg
  have nA : ¬ (F.old H).A a := fun z => by
   rcases z with z | z
   ·exact fr.occ a z n0
   ·obtain ⟨ys, z⟩ := z
    rw [n0] at z; cases z
  refine k _ H1 (To.refl t.fr) ⟨a, xs, rfl, ⟨nA, .inl n1⟩, noLs_den (fun c hc => ?_) _ _ hn dl⟩
  rcases hc with z | z
  ·exact .inl (.inl z)
  ·obtain ⟨ys, z⟩ := z
   rcases t.lst fr c ys z with w | w
   ·exact .inl (.inl w)
   ·exact .inr w
 ·cases e1⟩
def rQ (d : D) : Option D := if noL d = true then some d else none
def fNL (f : Dn -> M D) : Dn -> M D := fun δ => M.bind (f δ) fun d => M.ofO (rQ d)
theorem pa {g : Dn -> M D} (h : PE X e (tV X.K g E)) : PE X e (tVN X.K (fNL g) E) := h.imp fun σ H Q h_ => ex6 h_ fun F δ β fr vk r => ⟨F, δ, β, fr, vk, (run.bind (R := Den X.K F) r).mono fun v H1 h_ => ex5 h_ fun d0 β1 t hd r1 => by
 obtain ⟨d, e1, k⟩ := run.ofO r1
 unfold rQ at e1
 split at e1
 ·rename_i hn
  cases e1
  refine k _ H1 (To.refl t.fr) (ml (fun c hc => ?_) _ _ hn hd)
  rcases hc with z | z
  ·exact .inl z
  ·obtain ⟨ys, z⟩ := z
   exact t.lst fr c ys z
 ·cases e1⟩
theorem y8 {mi : List D -> M (List D)} {g gk : Dn -> M (List D)} {src : List (Sr D)} {n1 : Nat} (Mm : Mk X.K C f) (G : FnOk X.prog X.w X.K X.mg X.base (CXE X.prog X.w) k f fd ps (oM X.K C ns n mi)) (hr : Room (k + 1) X.A) (hg : Gl X x) (hm : X.mg x = some (.ref C)) (hb : KwOk X.K fd ps ks (n1 + 1) src) (hx : bQ (CXE X.prog X.w) X E)
  (ha : PA X (e :: es) (tVA X.K g E)) (hkw : PK X kws (tVA X.K gk E)) (hn : ∀ δ β r β', g δ β = some (.ok r, β') -> r.length = n1) (hn2 : ∀ δ β r β', gk δ β = some (.ok r, β') -> r.length = ks.length) (h3 : n1 + src.length = n)
  (hall : (backToKw pos (keywordEach kws X.env)).all (·.1.isSome) = true := by rfl) (hks : (backToKw pos (keywordEach kws X.env)).filterMap (·.1) = ks := by rfl)
  (hdb : (x == ("__debug__" : Str)) = false := by decide) (he : starEach (e :: es) X.env = (false, eval e X.env) :: starEach es X.env := by rfl)
  (hpl : ((backTo pos (starEach (e :: es) X.env)).any (·.1) || (backToKw pos (keywordEach kws X.env)).any (·.1.isNone)) = false := by rfl) :
  PE X (.Call (.Name x p) (e :: es) kws pos) (tVN X.K (pE C ns mi g gk src) E) := by
 obtain ⟨sv, sx, rd, kb⟩ := hb.kb
 refine (vd Mm G hr hg hm kb hx ha hkw hall hks hdb he hpl).imp fun σ H Q h_ => ex6 h_ fun F δ β fr vk r => ⟨F, δ, β, fr, vk, ?_⟩
 obtain ⟨r0, β0, e0, h0⟩ := run.bind (R := DenL X.K F) r
 refine ⟨r0, β0, e0, ?_⟩
 cases r0 with
 | error C => exact h0
 | ok as =>
  intro vs H1 t hd
  obtain ⟨d', β1, t1, hd1, r1⟩ := h0 vs H1 t hd
  refine ⟨F, δ, β1, t1.fr, vk.tr (t1.tr fr), ?_⟩
  obtain ⟨q0, β2, e2, h2⟩ := run.bind (R := DenL X.K F) r1
  refine ⟨q0, β2, e2, ?_⟩
  cases q0 with
  | error C => exact h2
  | ok bs =>
   intro zs H2 t2 hz
   obtain ⟨d2, β3, t3, hd2, r3⟩ := h2 zs H2 t2 hz
   have l1 := hn _ _ _ _ e0
   have l2 := hn2 _ _ _ _ e2
   have hda : DenL X.K F H2 d' vs := DenL.tr (t3.tr t1.fr) _ _ hd1
   intro y dx
   have g1 : gK V.non (n1 + 1) ks.length sx (.ref y :: vs) zs = .ref y :: (vs ++ sx.map (Sr.pick .non zs)) := if_pos ⟨by rw [List.length_cons, ← hd.length, l1], by rw [← hz.length, l2]⟩
   rw [g1]
   exact m7 fr (t1.trans t3) (by rw [List.length_append, List.length_map, ← hd.length, l1, ← rd.len, h3]) (DenL.append hda (SrR.den hd2 rd)) r3 y dx
def rO (f1 f2 : Dn -> M (List D)) : Dn -> M (List (List D)) := fun δ => M.bind (f1 δ) fun a => M.bind (f2 δ) fun b => M.ret [a, b]
theorem CO {f1 f2 : Dn -> M (List D)} (h1 : PE X e1 (tVO X.K f1 E)) (h2 : PE X e2 (tVO X.K f2 E)) (hs1 : starEach [e1, e2] X.env = (false, eval e1 X.env) :: starEach [e2] X.env := by rfl) (hs2 : starEach [e2] X.env = (false, eval e2 X.env) :: starEach [] X.env := by rfl) : PE X (.List [e1, e2] pos) (tVG X.K (rO f1 f2) E) :=
 (jp (aT h1 (aT h2 c6 hs2) hs1)).imp fun σ H Q h_ => ex6 h_ fun F δ β fr vk r => ⟨F, δ, β, fr, vk, (run.bind (R := dE X.K F H) r).mono fun v H1 h_ => ex5 h_ fun ds1 β1 t1 g1 r1 => ⟨F, δ, β1, t1.fr, vk.tr (t1.tr fr), (run.bind (R := dE X.K F H1) r1).mono fun w H2 h_ => ex5 h_ fun ds2 β2 t2 g2 r2 => by
  refine ⟨by show 2 <= sizeLine; decide, fun q hq => ?_⟩
  obtain ⟨a1, xs1, rfl, n1, m1, d1⟩ := g1
  obtain ⟨a2, xs2, rfl, n2, m2, d2⟩ := g2
  obtain ⟨_, _, er, h⟩ := r2
  cases er
  have A1 : ¬ F.A a1 := fr.fresh n1
  have A2 : ¬ F.A a2 := t1.fr.fresh n2
  have m1' : H2 a1 = some (.lst xs1) := t2.kp a1 _ m1 fun b l z => ⟨fun y => A1 (y ▸ (fr.bgA b l z).1), fun y => A1 (y ▸ (fr.bgA b l z).2.1)⟩
  have up : ∀ c o, H2 c = some o -> upd H2 q (.lst [.ref a1, .ref a2]) c = some o := fun c o z => by rw [upd_ne (ne_of_none z hq)]; exact z
  have q1 : q ≠ a1 := fun z => by rw [z, m1'] at hq; cases hq
  have q2 : q ≠ a2 := fun z => by rw [z, m2] at hq; cases hq
  have a12 : a1 ≠ a2 := fun z => by rw [← z, m1] at n2; cases n2
  have tr2 : Tr F H2 F (upd H2 q (.lst [.ref a1, .ref a2])) := ⟨fun _ h _ => h, fun c o _ z => up c o z, rfl⟩
  refine h (.ref q) _ (t2.fr.upd _ hq) ⟨q, [a1, a2], rfl, (t1.trans t2).none hq, ax, ?_, n1, ⟨xs1, up _ _ m1', ?_⟩, t1.none n2, ⟨xs2, up _ _ m2, ?_⟩, trivial⟩
  ·simp [q1, q2, a12]
  ·exact DenL.tr tr2 _ _ (DenL.tr (t2.tr t1.fr) _ _ (DenL.tr Fx.tr_of _ _ d1))
  ·exact DenL.tr tr2 _ _ (DenL.tr Fx.tr_of _ _ d2)⟩⟩
theorem Cb {f1 f2 : Dn -> M (List D)} {δ : Dn} {β β1 β2 : Bg} {a b : List D} (h1 : f1 δ β = some (.ok a, β1)) (h2 : f2 δ β1 = some (.ok b, β2)) : rO f1 f2 δ β = some (.ok [a, b], β2) := by
 unfold rO
 rw [M.bind_ok h1, M.bind_ok h2]; rfl
theorem xE {g : Dn -> M (List D)} {δ : Dn} {β β1 : Bg} {ds : List D} (h : g δ β = some (.ok ds, β1)) (hn : noLs ds = true) : fON g δ β = some (.ok (.lst ds), β1) := by
 unfold fON rE
 rw [M.bind_ok h, if_pos hn]; rfl
theorem qT {g : Dn -> M D} {δ : Dn} {β β1 : Bg} {d : D} (h : g δ β = some (.ok d, β1)) (hn : noL d = true) : fNL g δ β = some (.ok d, β1) := by
 unfold fNL rQ
 rw [M.bind_ok h, if_pos hn]; rfl
end
end L2.Pu
namespace L2.Pu
open PySem
def facN : Nat -> Nat
 | 0 => 1
 | n + 1 => facN n * (n + 1)
def pr (l : List Nat) : Nat := l.foldr (· * ·) 1
theorem tT : pr [] = 1 := rfl
theorem tU (l m : List Nat) : pr (l ++ m) = pr l * pr m := by
 induction l with
 | nil => simp [pr]
 | cons x l ih =>
  show x * pr (l ++ m) = x * pr l * pr m
  rw [ih, Nat.mul_assoc]
theorem g9 {α : Type} {l : List α} {i : Nat} {x : α} (h : l[i]? = some x) : l.take (i + 1) = l.take i ++ [x] := by
 rw [List.take_succ, h]; rfl
theorem fc {α : Type} {f : α -> Nat} {l : List α} {i : Nat} {x : α} (h : l[i]? = some x) : pr ((l.take (i + 1)).map f) = pr ((l.take i).map f) * f x := by
 rw [g9 h, List.map_append, tU]
 simp [pr]
theorem lW {α : Type} {f : α -> Nat} {l : List α} {i : Nat} {x : α} (h : l[i]? = some x) : ((l.take (i + 1)).map f).sum = ((l.take i).map f).sum + f x := by
 rw [g9 h, List.map_append, List.sum_append]
 simp
theorem q8 {α : Type} {f : α -> Nat} {l : List α} (i : Nat) : ((l.take i).map f).sum <= (l.map f).sum := by
 have e : (l.map f).sum = ((l.take i).map f).sum + ((l.drop i).map f).sum := by rw [← List.sum_append, ← List.map_append, List.take_append_drop]
 omega
theorem mG : ∀ n, 0 < facN n
 | 0 => by decide
 | n + 1 => Nat.mul_pos (mG n) (by omega)
theorem vN : ∀ {n m : Nat}, n <= m -> facN n <= facN m := by
 intro n m h
 induction h with
 | refl => exact Nat.le_refl _
 | step h ih => exact Nat.le_trans ih (Nat.le_mul_of_pos_right _ (by omega))
theorem CP : facN 40 <= 2 ^ 160 := by decide +kernel
theorem ik {n : Nat} (h : n <= 40) : facN n <= 2 ^ 160 := Nat.le_trans (vN h) CP
theorem Af {l : List Nat} (h : ∀ x ∈ l, 0 < x) : 0 < pr l := by
 induction l with
 | nil => decide
 | cons x l ih => exact Nat.mul_pos (h x List.mem_cons_self) (ih fun y hy => h y (List.mem_cons_of_mem _ hy))
theorem xT {l : List Nat} {m : Nat} (h : ∀ x ∈ l, x <= 2 ^ m) : pr l <= 2 ^ (m * l.length) := by
 induction l with
 | nil => exact Nat.one_le_two_pow
 | cons x l ih =>
  show x * pr l <= _
  rw [List.length_cons, Nat.mul_succ, Nat.add_comm, Nat.pow_add]
  exact Nat.mul_le_mul (h x List.mem_cons_self) (ih fun y hy => h y (List.mem_cons_of_mem _ hy))
theorem Cs {n : Nat} (h : n <= 40) : n ^ n <= 2 ^ (6 * n) := by
 rw [Nat.pow_mul]
 exact Nat.pow_le_pow_left (by omega) n
theorem xU {l : List Nat} (h : ∀ x ∈ l, x <= 40) : pr (l.map fun n => n ^ n) <= 2 ^ (6 * l.sum) := by
 induction l with
 | nil => decide
 | cons x l ih =>
  show x ^ x * pr (l.map _) <= _
  rw [List.sum_cons, Nat.mul_add, Nat.pow_add]
  exact Nat.mul_le_mul (Cs (h x List.mem_cons_self)) (ih fun y hy => h y (List.mem_cons_of_mem _ hy))
theorem eA {l : List Nat} {x : Nat} (h : x ∈ l) : x <= l.sum := by
 induction l with
 | nil => cases h
 | cons y l ih =>
  rw [List.sum_cons]
  rcases List.mem_cons.mp h with rfl | h
  ·omega
  ·have := ih h; omega
theorem bP {t m : Nat} (h : t <= 2 ^ m) (hm : m <= 999) : t < 2 ^ 1000 := Nat.lt_of_le_of_lt (Nat.le_trans h (Nat.pow_le_pow_right (by decide) hm)) (Nat.pow_lt_pow_right (by decide) (by decide))
theorem cV {t n : Nat} (h1 : t < 2 ^ 1000) (h2 : n < 2 ^ 1000) : bb (.int (t : Int)) (.int (n : Int)) = some (.int ((t * n : Nat) : Int)) := by
 have e1 : fE (t : Int) = true := decide_eq_true (by rw [Int.natAbs_natCast]; exact h1)
 have e2 : fE (n : Int) = true := decide_eq_true (by rw [Int.natAbs_natCast]; exact h2)
 show (if (fE (t : Int) && fE (n : Int)) = true then _ else _) = _
 simp only [e1, e2, Bool.and_self, if_true]
 rfl
theorem lN {t g : Nat} (h0 : 0 < g) (h1 : g < 2 ^ 1000) : eM (.int (t : Int)) (.int (g : Int)) = some (.int ((t / g : Nat) : Int)) := by
 have e1 : decide ((0 : Int) < (g : Int)) = true := decide_eq_true (by omega)
 have e2 : decide (((g : Int)).natAbs.log2 < 9000) = true := decide_eq_true (by
  rw [Int.natAbs_natCast]
  have := (Nat.log2_lt (n := g) (k := 1000) (by omega)).mpr h1
  omega)
 show (if (decide ((0 : Int) < (g : Int)) && decide (((g : Int)).natAbs.log2 < 9000)) = true then _ else _) = _
 simp only [e1, e2, Bool.and_self, if_true]
 rfl
theorem xw {t n : Nat} : eR (.int (t : Int)) (.int (n : Int)) = some (.int ((t + n : Nat) : Int)) := by
 rw [Int.natCast_add]; rfl
theorem jt (l : List Nat) : (nI l).sum = ((l.sum : Nat) : Int) := by
 induction l with
 | nil => rfl
 | cons x l ih =>
  show (x : Int) + (nI l).sum = _
  rw [ih, List.sum_cons, Int.natCast_add]
theorem f7 {l : List Nat} {i : Nat} {d : D} (h : ((nI l).map D.int)[i]? = some d) : ∃ n, l[i]? = some n /\ d = .int (n : Int) := by
 obtain ⟨x, hx, rfl⟩ := fN h
 obtain ⟨n, hn, rfl⟩ := fN hx
 exact ⟨n, hn, rfl⟩
theorem dy (l : List Nat) : ((nI l).map D.int).length = l.length := by rw [List.length_map, List.length_map]
def Sq (l : List Nat) (d : D) : Prop := d = nL l \/ d = .tup ((nI l).map D.int)
theorem Sq.seq {l : List Nat} {d : D} (h : Sq l d) : dS d = some ((nI l).map D.int) := by rcases h with rfl | rfl <;> rfl
theorem rg2' {i j : Int} (h0 : 0 <= i) (h1 : i <= 10 ^ 9) (h2 : 0 <= j) (h3 : j <= 10 ^ 9) : l7 [.int i, .int j] = some (bo i (j - i).toNat) := by
 have q : (decide (-(2 ^ 62) <= i) && decide (i < 2 ^ 62) && decide (-(2 ^ 62) <= j) && decide (j < 2 ^ 62)) = true := by
  simp only [Bool.and_eq_true, decide_eq_true_eq]
  omega
 show (if (decide (-(2 ^ 62) <= i) && decide (i < 2 ^ 62) && decide (-(2 ^ 62) <= j) && decide (j < 2 ^ 62)) = true then some (bo i (j - i).toNat) else none) = _
 rw [if_pos q]
theorem rg2 {n : Nat} (h : n <= 1000) : l7 [.int 2, .int ((n : Int) + 1)] = some (bo 2 (n - 1)) := by
 rw [rg2' (by decide) (by decide) (by omega) (by omega), show ((n : Int) + 1 - 2).toNat = n - 1 by omega]
def lcS (t n : Nat) : Nat := t * n / Nat.gcd t n
def lcF (l : List Nat) : Nat := l.foldl lcS 1
theorem qx (l : List Nat) (n : Nat) : lcF (l ++ [n]) = lcS (lcF l) n := by unfold lcF; rw [List.foldl_append]; rfl
theorem ui {l : List Nat} (h : ∀ n ∈ l, 1 <= n /\ n <= 2 ^ 11) : 1 <= lcF l /\ lcF l <= 2 ^ (11 * l.length) := by
 have gen : ∀ (l : List Nat) (t m : Nat), (∀ n ∈ l, 1 <= n /\ n <= 2 ^ 11) -> 1 <= t -> t <= 2 ^ m -> 1 <= l.foldl lcS t /\ l.foldl lcS t <= 2 ^ (m + 11 * l.length) := by
  intro l
  induction l with
  | nil => intro t m _ h1 h2; exact ⟨h1, h2⟩
  | cons n l ih =>
   intro t m h h1 h2
   obtain ⟨n1, n2⟩ := h n List.mem_cons_self
   have hg0 : 0 < Nat.gcd t n := Nat.gcd_pos_of_pos_left _ h1
   have hg1 : Nat.gcd t n <= t * n := Nat.le_trans (Nat.gcd_le_left _ h1) (Nat.le_mul_of_pos_right _ n1)
   have := ih (lcS t n) (m + 11) (fun x hx => h x (List.mem_cons_of_mem _ hx)) (Nat.div_pos hg1 hg0) (Nat.le_trans (Nat.div_le_self _ _) (by rw [Nat.pow_add]; exact Nat.mul_le_mul h2 n2))
   rw [List.length_cons, Nat.mul_succ, show m + (11 * l.length + 11) = m + 11 + 11 * l.length by omega]
   exact this
 have := gen l 1 0 h (Nat.le_refl _) (by decide)
 rwa [Nat.zero_add] at this
end L2.Pu
namespace L2.Pu
open PySem PySem.W
section
variable {tb : String -> Option Builtin} {p : Program} {w : World} {n₀ : Nat} {ann : Option Value} {env : Env} {q : Pos}
theorem iM (k : Nat) {n N : Nat} {s s' r : Shared} {b : List Stmt} {c : Code} {pos p' : Pos} (h : segRun tb p w n₀ ann 1 n s (piecesOf (b.take k) env c pos [topFrame q]) = some (.next, s', c, p'))
  (k' : topRun tb p w n₀ ann N s' (restOf (b.drop k) env c p' [topFrame q]) = some r) : topRun tb p w n₀ ann (n + N) s (restOf b env c pos [topFrame q]) = some r := by
 have := piece_app h k'
 rwa [List.take_append_drop] at this
theorem vH {N : Nat} {s r : Shared} {b : List Stmt} {c : Code} {pos : Pos} (e : b = []) (k : topRun tb p w n₀ ann N s ⟨doneF .next, c, pos, [topFrame q]⟩ = some r) : topRun tb p w n₀ ann N s (restOf b env c pos [topFrame q]) = some r := by
 subst e
 exact piece_nil k
end
end L2.Pu
set_option maxHeartbeats 8000000
namespace L2.Pu
open PySem PySem.Spec PyProof.Rows
theorem pgN {X : Cx} (i : Nat) {x : Str} {pos : Pos} (hN : X.N.Nodup) (hi : X.N[i]? = some x := by rfl) (hx : Loc X.env.scope x := by first | exact Or.inl rfl | exact Or.inr rfl) (hf : X.fn x = true \/ X.env.scope.names.lookup x = some .local := by first | exact .inl rfl | exact .inr rfl | assumption) : PG X (.Name x pos) (dZ i) := qp hN hi hx hf
theorem psS {X : Cx} (i : Nat) {x : Str} {e : Expr} {te : TE} {pos pos' : Pos} (hN : X.N.Nodup) (he : PE X e te) (hi : X.N[i]? = some x := by rfl) (hx : Loc X.env.scope x := by first | exact Or.inl rfl | exact Or.inr rfl) (hs : swapsWith e (some (.Name x pos')) pos.line X.env = pure false := by rfl) (hf : X.fn x = true \/ X.env.scope.names.lookup x = some .local := by first | exact .inl rfl | exact .inr rfl | assumption) : PS X (.Assign [.Name x pos'] e pos) (iz te (dZ i)) := li hN hi hx he hs hf
theorem fsc {N Q : List Str} {c : Scope} (a : c.kind = .function := by rfl) (b : c.isCoroutine = false := by rfl) (g : c.isGenerator = false := by rfl) (d : N.Nodup := by decide +kernel) (e : N.take Q.length = Q := by rfl) (f : ∀ x ∈ Q, c.names.lookup x = some .local \/ c.names.lookup x = some .cell := by decide +kernel) (h : ∀ y ∈ c.names, y.2 ≠ .free := by decide +kernel) : FnScope N Q c := ⟨a, b, g, d, e, f, h⟩
theorem aN0 (δ : Dn) (β : Bg) (r : List D) (β' : Bg) (h : ah δ β = some (.ok r, β')) : r.length = 0 := xx h
end L2.Pu
namespace Law
open PySem L2 L2.Pu
def top (i : Nat) : Stmt := PySem.Challenge.pw_edgetally_k28_measures_of_tables.main.body.getD i (.Pass ⟨0, 0, 0, 0⟩)
abbrev jj : Stmt := top 11
abbrev i5 : Stmt := top 12
abbrev jk : Stmt := top 13
abbrev iZ : Stmt := top 14
abbrev kd : Stmt := top 16
abbrev qf : Stmt := top 17
abbrev tM : Stmt := top 18
abbrev gL : Stmt := top 19
abbrev hX : Stmt := top 24
abbrev ji : Stmt := top 25
abbrev iY : Stmt := top 26
abbrev kW : Stmt := top 27
abbrev qi : Stmt := top 30
abbrev oS : Stmt := top 31
abbrev oR : Stmt := top 32
abbrev kZ : Stmt := top 33
abbrev kc : Stmt := top 34
abbrev h8 : Stmt := top 35
abbrev k7 : Stmt := top 36
abbrev i0 : Stmt := top 37
abbrev oQ : Stmt := top 38
abbrev kY : Stmt := top 39
abbrev qh : Stmt := top 40
abbrev oU : Stmt := top 41
abbrev m3 : Stmt := top 42
abbrev oV : Stmt := top 43
abbrev hZ : Stmt := top 44
abbrev k6 : Stmt := top 45
abbrev qg : Stmt := top 46
abbrev mZ : Stmt := top 47
abbrev qj : Stmt := top 48
abbrev fG : Stmt := ay (top 28) 0
abbrev jl : Stmt := ay (top 28) 6
abbrev gM : Stmt := ay (top 28) 5
abbrev fF : Stmt := ay (top 28) 4
abbrev h9 : Stmt := ay (top 28) 3
abbrev kX : Stmt := top 49
abbrev jg : Stmt := ay (top 2) 0
abbrev kO : Stmt := ay (top 3) 0
abbrev kP : Stmt := ay (top 4) 0
abbrev kQ : Stmt := ay (top 5) 0
abbrev jh : Stmt := ay (top 6) 0
set_option genSizeOf false in
set_option genInjectivity false in
structure Ad where
 C_EdgeError : Addr
 x_EdgeError : Addr
 y_EdgeError : FuncData
 C_BadSums : Addr
 x_BadSums : Addr
 y_BadSums : FuncData
 C_BadRule : Addr
 x_BadRule : Addr
 y_BadRule : FuncData
 C_BadCell : Addr
 x_BadCell : Addr
 y_BadCell : FuncData
 C_BadNumber : Addr
 x_BadNumber : Addr
 y_BadNumber : FuncData
 C_Measure : Addr
 f_check_sums : Addr
 d_check_sums : FuncData
 f_check_there : Addr
 d_check_there : FuncData
 f_check_cell : Addr
 d_check_cell : FuncData
 f_rows_turned : Addr
 d_rows_turned : FuncData
 f_factorial : Addr
 d_factorial : FuncData
 f_power : Addr
 d_power : FuncData
 f_ways : Addr
 d_ways : FuncData
 f_common_factor : Addr
 d_common_factor : FuncData
 f_least_common : Addr
 d_least_common : FuncData
 f_power_part : Addr
 d_power_part : FuncData
 f_square_part : Addr
 d_square_part : FuncData
 f_off_part : Addr
 d_off_part : FuncData
 f_l_bag : Addr
 d_l_bag : FuncData
 f_l_pull : Addr
 d_l_pull : FuncData
 f_l_same : Addr
 d_l_same : FuncData
 f_l_turned : Addr
 d_l_turned : FuncData
 f_l_rowsums : Addr
 d_l_rowsums : FuncData
 f_l_columnsums : Addr
 d_l_columnsums : FuncData
 f_l_copied : Addr
 d_l_copied : FuncData
 f_l_factorial : Addr
 d_l_factorial : FuncData
 f_l_ways : Addr
 d_l_ways : FuncData
 f_l_weight : Addr
 d_l_weight : FuncData
 f_l_gcd : Addr
 d_l_gcd : FuncData
 f_l_kind : Addr
 d_l_kind : FuncData
 f_l_place : Addr
 d_l_place : FuncData
 f_l_even : Addr
 d_l_even : FuncData
 f_l_self_power : Addr
 d_l_self_power : FuncData
 f_l_square : Addr
 d_l_square : FuncData
 f_l_off : Addr
 d_l_off : FuncData
 f_l_value : Addr
 d_l_value : FuncData
 f_l_any : Addr
 d_l_any : FuncData
 f_Measure___init__ : Addr
 d_Measure___init__ : FuncData
 f_Measure_of : Addr
 d_Measure_of : FuncData
 f_Measure_begun : Addr
 d_Measure_begun : FuncData
 f_Measure_together : Addr
 d_Measure_together : FuncData
 f_Measure_part : Addr
 d_Measure_part : FuncData
 f_law : Addr
 d_law : FuncData
structure Fns (K : Frag) (mg : Str -> Option Value) (a : Ad) : Prop where
 n_ValueError : mg "ValueError" = none
 n_abs : mg "abs" = none
 n_any : mg "any" = none
 n_bool : mg "bool" = none
 n_enumerate : mg "enumerate" = none
 n_int : mg "int" = none
 n_isinstance : mg "isinstance" = none
 n_len : mg "len" = none
 n_list : mg "list" = none
 n_min : mg "min" = none
 n_range : mg "range" = none
 n_str : mg "str" = none
 n_sum : mg "sum" = none
 n_tuple : mg "tuple" = none
 n_zip : mg "zip" = none
 g_BY_PLACE : gd K mg "BY_PLACE" (.tup [.str (Str.ofString "most"), .str (Str.ofString "least")])
 g_BY_PRODUCT : gd K mg "BY_PRODUCT" (.tup [.str (Str.ofString "rare"), .str (Str.ofString "power")])
 g_KINDS : gd K mg "KINDS" (.tup [.str (Str.ofString "rare"), .str (Str.ofString "square"), .str (Str.ofString "power"), .str (Str.ofString "off"), .str (Str.ofString "most"), .str (Str.ofString "least")])
 g_MOST : gd K mg "MOST" (.int 40)
 g_MOST_COLUMNS : gd K mg "MOST_COLUMNS" (.int 6)
 g_MOST_ROWS : gd K mg "MOST_ROWS" (.int 4)
 F_check_sums : FunD K "check_sums" "check_sums" jj a.f_check_sums a.d_check_sums
 m_check_sums : mg "check_sums" = some (.ref a.f_check_sums)
 b_check_sums : aG K a.d_check_sums ["rowsums", "columnsums"] []
 F_check_there : FunD K "check_there" "check_there" i5 a.f_check_there a.d_check_there
 m_check_there : mg "check_there" = some (.ref a.f_check_there)
 b_check_there : aG K a.d_check_there ["place", "many"] []
 F_check_cell : FunD K "check_cell" "check_cell" jk a.f_check_cell a.d_check_cell
 m_check_cell : mg "check_cell" = some (.ref a.f_check_cell)
 b_check_cell : aG K a.d_check_cell ["row", "column", "rows", "columns"] []
 F_rows_turned : FunD K "rows_turned" "rows_turned" iZ a.f_rows_turned a.d_rows_turned
 m_rows_turned : mg "rows_turned" = some (.ref a.f_rows_turned)
 b_rows_turned : aG K a.d_rows_turned ["rows"] []
 F_factorial : FunD K "factorial" "factorial" kd a.f_factorial a.d_factorial
 m_factorial : mg "factorial" = some (.ref a.f_factorial)
 b_factorial : aG K a.d_factorial ["number"] []
 F_power : FunD K "power" "power" qf a.f_power a.d_power
 m_power : mg "power" = some (.ref a.f_power)
 b_power : aG K a.d_power ["base", "many"] []
 F_ways : FunD K "ways" "ways" tM a.f_ways a.d_ways
 m_ways : mg "ways" = some (.ref a.f_ways)
 b_ways : aG K a.d_ways ["parts"] []
 F_common_factor : FunD K "common_factor" "common_factor" gL a.f_common_factor a.d_common_factor
 m_common_factor : mg "common_factor" = some (.ref a.f_common_factor)
 b_common_factor : aG K a.d_common_factor ["one", "other"] []
 F_least_common : FunD K "least_common" "least_common" hX a.f_least_common a.d_least_common
 m_least_common : mg "least_common" = some (.ref a.f_least_common)
 b_least_common : aG K a.d_least_common ["numbers"] []
 F_power_part : FunD K "power_part" "power_part" ji a.f_power_part a.d_power_part
 m_power_part : mg "power_part" = some (.ref a.f_power_part)
 b_power_part : aG K a.d_power_part ["counts"] []
 F_square_part : FunD K "square_part" "square_part" iY a.f_square_part a.d_square_part
 m_square_part : mg "square_part" = some (.ref a.f_square_part)
 b_square_part : aG K a.d_square_part ["counts", "products", "even"] []
 F_off_part : FunD K "off_part" "off_part" kW a.f_off_part a.d_off_part
 m_off_part : mg "off_part" = some (.ref a.f_off_part)
 b_off_part : aG K a.d_off_part ["counts", "products", "things"] []
 F_l_bag : FunD K "_law_bag" "_law_bag" qi a.f_l_bag a.d_l_bag
 m_l_bag : mg "_law_bag" = some (.ref a.f_l_bag)
 b_l_bag : aG K a.d_l_bag ["_law_script"] []
 F_l_pull : FunD K "_law_pull" "_law_pull" oS a.f_l_pull a.d_l_pull
 m_l_pull : mg "_law_pull" = some (.ref a.f_l_pull)
 b_l_pull : aG K a.d_l_pull ["_law_bag_here", "_law_lot"] []
 F_l_same : FunD K "_law_same" "_law_same" oR a.f_l_same a.d_l_same
 m_l_same : mg "_law_same" = some (.ref a.f_l_same)
 b_l_same : aG K a.d_l_same ["_law_found", "_law_due"] []
 F_l_turned : FunD K "_law_turned" "_law_turned" kZ a.f_l_turned a.d_l_turned
 m_l_turned : mg "_law_turned" = some (.ref a.f_l_turned)
 b_l_turned : aG K a.d_l_turned ["_law_block"] []
 F_l_rowsums : FunD K "_law_rowsums" "_law_rowsums" kc a.f_l_rowsums a.d_l_rowsums
 m_l_rowsums : mg "_law_rowsums" = some (.ref a.f_l_rowsums)
 b_l_rowsums : aG K a.d_l_rowsums ["_law_grid"] []
 F_l_columnsums : FunD K "_law_columnsums" "_law_columnsums" h8 a.f_l_columnsums a.d_l_columnsums
 m_l_columnsums : mg "_law_columnsums" = some (.ref a.f_l_columnsums)
 b_l_columnsums : aG K a.d_l_columnsums ["_law_grid"] []
 F_l_copied : FunD K "_law_copied" "_law_copied" k7 a.f_l_copied a.d_l_copied
 m_l_copied : mg "_law_copied" = some (.ref a.f_l_copied)
 b_l_copied : aG K a.d_l_copied ["_law_block"] []
 F_l_factorial : FunD K "_law_factorial" "_law_factorial" i0 a.f_l_factorial a.d_l_factorial
 m_l_factorial : mg "_law_factorial" = some (.ref a.f_l_factorial)
 b_l_factorial : aG K a.d_l_factorial ["_law_lot"] []
 F_l_ways : FunD K "_law_ways" "_law_ways" oQ a.f_l_ways a.d_l_ways
 m_l_ways : mg "_law_ways" = some (.ref a.f_l_ways)
 b_l_ways : aG K a.d_l_ways ["_law_parts"] []
 F_l_weight : FunD K "_law_weight" "_law_weight" kY a.f_l_weight a.d_l_weight
 m_l_weight : mg "_law_weight" = some (.ref a.f_l_weight)
 b_l_weight : aG K a.d_l_weight ["_law_columns"] []
 F_l_gcd : FunD K "_law_gcd" "_law_gcd" qh a.f_l_gcd a.d_l_gcd
 m_l_gcd : mg "_law_gcd" = some (.ref a.f_l_gcd)
 b_l_gcd : aG K a.d_l_gcd ["_law_one", "_law_other"] []
 F_l_kind : FunD K "_law_kind" "_law_kind" oU a.f_l_kind a.d_l_kind
 m_l_kind : mg "_law_kind" = some (.ref a.f_l_kind)
 b_l_kind : aG K a.d_l_kind ["_law_bag_here"] []
 F_l_place : FunD K "_law_place" "_law_place" m3 a.f_l_place a.d_l_place
 m_l_place : mg "_law_place" = some (.ref a.f_l_place)
 b_l_place : aG K a.d_l_place ["_law_bag_here", "_law_grid"] []
 F_l_even : FunD K "_law_even" "_law_even" oV a.f_l_even a.d_l_even
 m_l_even : mg "_law_even" = some (.ref a.f_l_even)
 b_l_even : aG K a.d_l_even ["_law_rowsums_here", "_law_columnsums_here"] []
 F_l_self_power : FunD K "_law_self_power" "_law_self_power" hZ a.f_l_self_power a.d_l_self_power
 m_l_self_power : mg "_law_self_power" = some (.ref a.f_l_self_power)
 b_l_self_power : aG K a.d_l_self_power ["_law_count"] []
 F_l_square : FunD K "_law_square" "_law_square" k6 a.f_l_square a.d_l_square
 m_l_square : mg "_law_square" = some (.ref a.f_l_square)
 b_l_square : aG K a.d_l_square ["_law_rowsums_here", "_law_columnsums_here", "_law_columns"] []
 F_l_off : FunD K "_law_off" "_law_off" qg a.f_l_off a.d_l_off
 m_l_off : mg "_law_off" = some (.ref a.f_l_off)
 b_l_off : aG K a.d_l_off ["_law_rowsums_here", "_law_columnsums_here", "_law_columns"] []
 F_l_value : FunD K "_law_value" "_law_value" mZ a.f_l_value a.d_l_value
 m_l_value : mg "_law_value" = some (.ref a.f_l_value)
 b_l_value : aG K a.d_l_value ["_law_kind_here", "_law_rowsums_here", "_law_columnsums_here", "_law_where", "_law_columns"] []
 F_l_any : FunD K "_law_any" "_law_any" qj a.f_l_any a.d_l_any
 m_l_any : mg "_law_any" = some (.ref a.f_l_any)
 b_l_any : aG K a.d_l_any ["_law_bag_here"] []
 F_Measure___init__ : FunD K "__init__" "Measure.__init__" fG a.f_Measure___init__ a.d_Measure___init__
 mk_Measure : Mk K a.C_Measure a.f_Measure___init__
 kb_place_Measure___init__ : KwOk K a.d_Measure___init__ ["self", "kind", "rowsums", "columnsums", "place"] ["place"] 4 [.kw 0]
 bd_Measure___init__ : dO K a.d_Measure___init__ ["self", "kind", "rowsums", "columnsums", "place"] [.tup [.int 0, .int 0]]
 F_Measure_of : FunD K "of" "Measure.of" jl a.f_Measure_of a.d_Measure_of
 mt_Measure_of : Meth K a.C_Measure "of" a.f_Measure_of
 b_Measure_of : aG K a.d_Measure_of ["self", "rows"] []
 F_Measure_begun : FunD K "begun" "Measure.begun" gM a.f_Measure_begun a.d_Measure_begun
 mt_Measure_begun : Meth K a.C_Measure "begun" a.f_Measure_begun
 b_Measure_begun : aG K a.d_Measure_begun ["self"] []
 F_Measure_together : FunD K "together" "Measure.together" fF a.f_Measure_together a.d_Measure_together
 mt_Measure_together : Meth K a.C_Measure "together" a.f_Measure_together
 b_Measure_together : aG K a.d_Measure_together ["self", "one", "other"] []
 F_Measure_part : FunD K "part" "Measure.part" h9 a.f_Measure_part a.d_Measure_part
 mt_Measure_part : Meth K a.C_Measure "part" a.f_Measure_part
 b_Measure_part : aG K a.d_Measure_part ["self", "column", "counts"] []
 cl_Measure : Cls K a.C_Measure
 m_Measure : mg "Measure" = some (.ref a.C_Measure)
 na_Measure_column_list : cP K a.C_Measure "column_list"
 na_Measure_even : cP K a.C_Measure "even"
 na_Measure_kind : cP K a.C_Measure "kind"
 na_Measure_place : cP K a.C_Measure "place"
 na_Measure_row_list : cP K a.C_Measure "row_list"
 FX_EdgeError : FunD K "__init__" "EdgeError.__init__" jg a.x_EdgeError a.y_EdgeError
 b_EdgeError : aG K a.y_EdgeError ["self", "word", "why"] []
 m_EdgeError : mg "EdgeError" = some (.ref a.C_EdgeError)
 FX_BadSums : FunD K "__init__" "BadSums.__init__" kO a.x_BadSums a.y_BadSums
 b_BadSums : aG K a.y_BadSums ["self", "why"] []
 m_BadSums : mg "BadSums" = some (.ref a.C_BadSums)
 xm_BadSums : XMk K a.C_BadSums a.x_BadSums
 w_BadSums : PySem.W.findIn K (.ref a.C_BadSums) "word" = some none
 FX_BadRule : FunD K "__init__" "BadRule.__init__" kP a.x_BadRule a.y_BadRule
 b_BadRule : aG K a.y_BadRule ["self", "why"] []
 m_BadRule : mg "BadRule" = some (.ref a.C_BadRule)
 xm_BadRule : XMk K a.C_BadRule a.x_BadRule
 w_BadRule : PySem.W.findIn K (.ref a.C_BadRule) "word" = some none
 FX_BadCell : FunD K "__init__" "BadCell.__init__" kQ a.x_BadCell a.y_BadCell
 b_BadCell : aG K a.y_BadCell ["self", "why"] []
 m_BadCell : mg "BadCell" = some (.ref a.C_BadCell)
 xm_BadCell : XMk K a.C_BadCell a.x_BadCell
 w_BadCell : PySem.W.findIn K (.ref a.C_BadCell) "word" = some none
 FX_BadNumber : FunD K "__init__" "BadNumber.__init__" jh a.x_BadNumber a.y_BadNumber
 b_BadNumber : aG K a.y_BadNumber ["self", "why"] []
 m_BadNumber : mg "BadNumber" = some (.ref a.C_BadNumber)
 xm_BadNumber : XMk K a.C_BadNumber a.x_BadNumber
 w_BadNumber : PySem.W.findIn K (.ref a.C_BadNumber) "word" = some none
 cE : ClsFn K a.C_EdgeError "__init__" a.x_EdgeError
section
variable {P : Program} {w : World} {K : Frag} {mg : Str -> Option Value} {base : Heap} {a : Ad}
def zY (K : Frag) : Sp := fun vs H Q _ => ∃ (x C : Addr) (wd y : V), vs = [.ref x, wd, y] /\ H x = some (cY C x none) /\ XC K C /\ PySem.W.findIn K (.ref C) "word" = some none /\ ∀ (d : Addr) (H' : Hp), H' x = some (cY C x (some d)) -> (∀ b o, H b = some o -> b ≠ x -> H' b = some o) -> Q .non H'
theorem nE : FnScope ["self", "word", "why"] ["self", "word", "why"] (aj jg) := fsc
theorem jS (N : Fns K mg a) : FnOk P w K mg base (CXE P w) 1 a.x_EdgeError a.y_EdgeError ["self", "word", "why"] (zY K) := by
 refine N.FX_EdgeError.ok nE (fun vs H Q E h => ?_) (fun cdv A outer s H vs Q E hr h => ?_)
 ·obtain ⟨x, C, wd, y, rfl, _⟩ := h
  rfl
 ·obtain ⟨x, C, wd, y, rfl, hx, c, hf, k⟩ := h
  refine ⟨_, bV (dH (va rfl N.n_ValueError (aT (pv 0) (aT (pv 2) c6)))) (dG (u4 (pv 0) (pv 1) rfl)), ?_⟩
  refine ⟨_, rfl, _, rfl, x, C, none, _, rfl, (by show 1 <= sizeLine; decide), hx, c, ?_⟩
  refine ⟨_, rfl, _, rfl, x, C, rfl, ax, c, hf, fun d hd hda => ?_⟩
  refine k d _ ax fun b o e hb => ?_
  have hdn : H d = none := by rw [upd_ne hda] at hd; exact hd
  rw [upd_ne hb, upd_ne (ne_of_none e hdn), upd_ne hb]
  exact e
theorem pR : FnScope ["self", "why"] ["self", "why"] (aj kO) := fsc
theorem pX (N : Fns K mg a) : FnOk P w K mg base (CXE P w) 2 a.x_BadSums a.y_BadSums ["self", "why"] (kS a.C_BadSums 1) := by
 have GE := jS (P := P) (w := w) (base := base) N
 refine N.FX_BadSums.ok pR (fun vs H Q E h => ?_) (fun cdv A outer s H vs Q E hr h => ?_)
 ·obtain ⟨x, rest, rfl, hl, _⟩ := h
  show rest.length + 1 = 2
  rw [hl]
 ·obtain ⟨x, rest, rfl, hl, hx, k⟩ := h
  obtain ⟨y, rfl⟩ : ∃ y, rest = [y] := List.length_eq_one_iff.mp hl
  refine ⟨_, dG (dH (f6 N.cE GE hr rfl N.m_EdgeError N.b_EdgeError .nil di (aT (pv 0) (aT jo (aT (pv 1) c6))))), ?_⟩
  exact ⟨_, rfl, _, rfl, x, a.C_BadSums, _, y, rfl, hx, N.xm_BadSums.xc, N.w_BadSums, fun d H' h1 h2 => k _ H' h1 h2⟩
theorem pS : FnScope ["self", "why"] ["self", "why"] (aj kP) := fsc
theorem pY (N : Fns K mg a) : FnOk P w K mg base (CXE P w) 2 a.x_BadRule a.y_BadRule ["self", "why"] (kS a.C_BadRule 1) := by
 have GE := jS (P := P) (w := w) (base := base) N
 refine N.FX_BadRule.ok pS (fun vs H Q E h => ?_) (fun cdv A outer s H vs Q E hr h => ?_)
 ·obtain ⟨x, rest, rfl, hl, _⟩ := h
  show rest.length + 1 = 2
  rw [hl]
 ·obtain ⟨x, rest, rfl, hl, hx, k⟩ := h
  obtain ⟨y, rfl⟩ : ∃ y, rest = [y] := List.length_eq_one_iff.mp hl
  refine ⟨_, dG (dH (f6 N.cE GE hr rfl N.m_EdgeError N.b_EdgeError .nil di (aT (pv 0) (aT jo (aT (pv 1) c6))))), ?_⟩
  exact ⟨_, rfl, _, rfl, x, a.C_BadRule, _, y, rfl, hx, N.xm_BadRule.xc, N.w_BadRule, fun d H' h1 h2 => k _ H' h1 h2⟩
theorem pT : FnScope ["self", "why"] ["self", "why"] (aj kQ) := fsc
theorem pZ (N : Fns K mg a) : FnOk P w K mg base (CXE P w) 2 a.x_BadCell a.y_BadCell ["self", "why"] (kS a.C_BadCell 1) := by
 have GE := jS (P := P) (w := w) (base := base) N
 refine N.FX_BadCell.ok pT (fun vs H Q E h => ?_) (fun cdv A outer s H vs Q E hr h => ?_)
 ·obtain ⟨x, rest, rfl, hl, _⟩ := h
  show rest.length + 1 = 2
  rw [hl]
 ·obtain ⟨x, rest, rfl, hl, hx, k⟩ := h
  obtain ⟨y, rfl⟩ : ∃ y, rest = [y] := List.length_eq_one_iff.mp hl
  refine ⟨_, dG (dH (f6 N.cE GE hr rfl N.m_EdgeError N.b_EdgeError .nil di (aT (pv 0) (aT jo (aT (pv 1) c6))))), ?_⟩
  exact ⟨_, rfl, _, rfl, x, a.C_BadCell, _, y, rfl, hx, N.xm_BadCell.xc, N.w_BadCell, fun d H' h1 h2 => k _ H' h1 h2⟩
theorem nF : FnScope ["self", "why"] ["self", "why"] (aj jh) := fsc
theorem nK (N : Fns K mg a) : FnOk P w K mg base (CXE P w) 2 a.x_BadNumber a.y_BadNumber ["self", "why"] (kS a.C_BadNumber 1) := by
 have GE := jS (P := P) (w := w) (base := base) N
 refine N.FX_BadNumber.ok nF (fun vs H Q E h => ?_) (fun cdv A outer s H vs Q E hr h => ?_)
 ·obtain ⟨x, rest, rfl, hl, _⟩ := h
  show rest.length + 1 = 2
  rw [hl]
 ·obtain ⟨x, rest, rfl, hl, hx, k⟩ := h
  obtain ⟨y, rfl⟩ : ∃ y, rest = [y] := List.length_eq_one_iff.mp hl
  refine ⟨_, dG (dH (f6 N.cE GE hr rfl N.m_EdgeError N.b_EdgeError .nil di (aT (pv 0) (aT jo (aT (pv 1) c6))))), ?_⟩
  exact ⟨_, rfl, _, rfl, x, a.C_BadNumber, _, y, rfl, hx, N.xm_BadNumber.xc, N.w_BadNumber, fun d H' h1 h2 => k _ H' h1 h2⟩
theorem gH : FnScope ["_law_bag_here", "_law_lot", "_law_cells", "_law_at", "_law_cell"] ["_law_bag_here", "_law_lot"] (aj oS) := fsc
theorem jr (N : Fns K mg a) : FnOk P w K mg base (CXE P w) 2 a.f_l_pull a.d_l_pull ["_law_bag_here", "_law_lot"] (spF K 2 dk) := by
 refine N.F_l_pull.ok (k := 1) gH (fun vs H Q E h => h.1) (fun cdv A outer s H vs Q E hr h => ?_)
 obtain ⟨_, F, ds, β, fr, hd, r, β', e, k⟩ := h
 obtain ⟨lot, rfl, ok, h0, h1, rfl, rfl⟩ := uc e
 obtain ⟨v, w', rfl, d1, d2⟩ := DenL.two hd
 unfold Den at d1
 obtain ⟨b, l, ebg, rfl⟩ := d1
 cases d2.int
 obtain ⟨hb, hl⟩ := fr.bag b l ebg
 obtain ⟨ab, al, nbl⟩ := fr.bgA b l ebg
 obtain ⟨hk, hck, hc0, ek⟩ := ok.at
 obtain ⟨_, _, hcp, _⟩ := ql ok h0
 have len : ((β.cells.map V.int).length : Int) = (β.cells.length : Int) := by rw [List.length_map]
 have hat : atI (β.cells.map V.int) (β.pos : Int) = some (.int β.cell) := zA (by rw [List.getElem?_map, hck]; rfl)
 refine ⟨_, bV (li (i := 2) gH.nd rfl (Or.inl rfl) (fu c8 (pv 0) bB (fun _ _ => rfl)))
  (bV (li (i := 3) gH.nd rfl (Or.inl rfl) (cT gx (fu c8 (pv 0) bB (fun _ _ => rfl)) (kn aW (by rfl) N.n_len PySem.boot_len (aT (pv 2) c6))))
  (bV (li (i := 4) gH.nd rfl (Or.inl rfl) (fu c8 (pv 2) (pv 3) (fun _ _ => rfl)))
  (bV (xS (qm Cv (pv 4) (cT Av bB bB) (o8 _))
   (bV (ib (cT qt (pv 4) (pv 1)) (ic (pv 2) (pv 3) e8)) (dG (az (cT gx (pv 4) (pv 1))))) l9)
  (bV (ib (cT ln (fu c8 (pv 0) bB (fun _ _ => rfl)) bB) (ic (pv 0) bB e8))
  (bV (ib (cT gx (cT Ax (cT ln (cT ln (fu c8 (pv 0) bB (fun _ _ => rfl)) (cT gx (pv 4) bB)) bB) bB) bB) (ic (pv 0) bB e8))
  (dG (az (cT gx (cT qt (fu c8 (pv 0) bB (fun _ _ => rfl)) bB) (pv 1))))))))), ?_⟩
 refine ⟨_, rfl, b, _, _, _, rfl, rfl, SqL.of hb, rfl, ?_⟩
 refine ⟨_, rfl, b, _, _, _, rfl, rfl, SqL.of hb, rfl, _, rfl, l, _, rfl, .inl (SqL.of hl), _, _, rfl, rfl, ?_, ?_⟩
 ·have := hk
  rw [len]
  omega
 refine ⟨_, rfl, _, rfl, l, _, _, _, rfl, rfl, SqL.of hl, by rw [len, ek]; exact hat, ?_⟩
 refine ⟨_, rfl, _, _, rfl, rfl, ⟨by decide, by decide, by decide⟩, _, _, rfl, rfl, _, rfl, ?_⟩
 have occ : ∀ {H' : Hp} {p : Addr} {o : HO}, (∀ c, F.A c -> H' c ≠ none) -> ∀ c, F.A c -> upd H' p o c ≠ none := fun {H' p o} f c hc z => by
  by_cases q : c = p
  ·subst q; rw [ax] at z; cases z
  ·rw [upd_ne q] at z; exact f c hc z
 refine ite2 (fun hbig => ?_) (fun hbig => ?_)
 ·have big : (10 : Int) ^ 18 <= β.cell := of_decide_eq_true hbig
  refine ⟨_, rfl, _, rfl, _, _, rfl, rfl, ⟨h0, h1⟩, _, rfl, _, rfl, l, _, _, β.pos, rfl, rfl, hl, ?_, ?_⟩
  ·rw [len, ek, List.length_map]
   exact zh hk
  refine ⟨_, rfl, _, rfl, _, _, rfl, rfl, h0, ?_⟩
  have e1 : gN β lot = β.cell % lot := if_pos big
  have e2 : iC β lot = ⟨β.cells.set β.pos (β.cell / lot), β.i, β.j⟩ := if_pos big
  rw [e1, e2] at k
  refine k _ _ ⟨fun c o hc n => by rw [upd_ne (n b l ebg).2]; exact hc, occ fr.occ, fr.bgA, fun b' l' e' => ?_⟩ rfl
  rw [ebg] at e'
  cases e'
  exact ⟨by rw [upd_ne nbl]; exact hb, by rw [ax, List.map_set]⟩
 ·have big : ¬ (10 : Int) ^ 18 <= β.cell := fun q => hbig (decide_eq_true q)
  refine ⟨_, rfl, b, _, _, _, rfl, rfl, SqL.of hb, rfl, _, _, rfl, rfl, _, rfl, b, _, _, 1, rfl, rfl, hb, rfl, ?_⟩
  have hb1 : (upd H b (.lst [.ref l, .int (β.i + 1), .int β.j])) b = some (.lst [.ref l, .int (β.i + 1), .int β.j]) := ax
  refine ⟨_, rfl, b, _, _, _, rfl, rfl, SqL.of hb1, rfl, _, rfl, _, _, rfl, rfl, (by show (0 : Int) < 2147483629; decide), _, _, rfl, rfl, _, _, rfl, rfl, _, _, rfl, rfl, .inr ⟨by decide, by decide⟩, _, _, rfl, rfl, (by show (0 : Int) < 2147483629; decide), _, rfl, b, _, _, 2, rfl, rfl, hb1, rfl, ?_⟩
  have hb2 : (upd (upd H b (.lst [.ref l, .int (β.i + 1), .int β.j])) b (.lst [.ref l, .int (β.i + 1), .int β.nxt])) b = some (.lst [.ref l, .int (β.i + 1), .int β.nxt]) := ax
  refine ⟨_, rfl, b, _, _, _, rfl, rfl, SqL.of hb2, rfl, _, _, rfl, rfl, ⟨by decide, by decide⟩, _, rfl, _, _, rfl, rfl, h0, ?_⟩
  have e1 : gN β lot = β.nxt / 64 % lot := if_neg big
  have e2 : iC β lot = ⟨β.cells, β.i + 1, β.nxt⟩ := if_neg big
  rw [e1, e2] at k
  refine k _ _ ⟨fun c o hc n => by rw [upd_ne (n b l ebg).1, upd_ne (n b l ebg).1]; exact hc, occ (occ fr.occ), fr.bgA, fun b' l' e' => ?_⟩ rfl
  rw [ebg] at e'
  cases e'
  exact ⟨hb2, by rw [upd_ne nbl.symm, upd_ne nbl.symm]; exact hl⟩
theorem uU : FnScope ["_law_script"] ["_law_script"] (aj qi) := fsc
theorem nd1 : (["_law_cell"] : List Str).Nodup := by decide +kernel
theorem vj (N : Fns K mg a) : FnOk P w K mg base (CXE P w) 1 a.f_l_bag a.d_l_bag ["_law_script"] (Cp K) := by
 refine N.F_l_bag.ok uU (fun vs H Q E h => ?_) (fun cdv A outer s H vs Q E hr h => ?_)
 ·obtain ⟨a, ns, rfl, _⟩ := h
  rfl
 ·obtain ⟨a, ns, rfl, hS, k⟩ := h
  refine ⟨_, dG (az (jp (aT (cT Az (qq rfl (vars := ["_law_cell"]) (CmpScope.plain rfl (by decide +kernel) (by decide +kernel)) (yJ (vb yA (pv 0) yG (yF bB)))
   (fun cl C fp s H => ⟨qp (i := 0) nd1 rfl (Or.inl rfl), o4, fun D => bG rfl (kn kE (by rfl) N.n_abs PyProof.Rows.Boot.«abs» (aT (pv 0) c6)) rfl⟩)) (jp (aT bB c6))) (aT bB (aT bB c6))))), ?_⟩
  obtain ⟨ms, ems, lms⟩ := CS ns
  refine ⟨_, rfl, 63, rfl, a, _, rfl, hS, fun p hp => ?_⟩
  rw [ems]
  have s1 : bF H (upd H p (.lst (ms.map V.int))) := bF.upd hp
  refine ⟨p, rfl, ⟨_, SqL.of ax⟩, fun D hD => ?_⟩
  have nDp : D ≠ p := fun z => by subst z; rw [ax] at hD; cases hD
  refine rS (xs := ms.map V.int) (fun i σ H2 => ∃ cs : List Int, (∃ v, σ = [v]) /\ cs.length = i /\ (∀ c ∈ cs, 0 <= c) /\ H2 D = some (.lst (cs.map V.int)) /\ H2 p = some (.lst (ms.map V.int)) /\ bF H H2) ⟨[], ⟨_, rfl⟩, rfl, (fun _ h => nomatch h), ax, by rw [upd_ne nDp.symm, ax], s1.trans (bF.upd hD)⟩
   (fun i σ H2 _ ⟨_, _, _, _, _, e, _⟩ => SqL.of e) ?_ ?_
  ·rintro i x σ H2 hi ⟨cs, ⟨v, rfl⟩, hcl, hc0, hDc, hp2, s2⟩
   have hil : i < ms.length := by have := (List.getElem?_eq_some_iff.mp hi).1; rwa [List.length_map] at this
   obtain ⟨z, rfl⟩ : ∃ z, x = V.int z := by
    rw [List.getElem?_map] at hi
    cases e : ms[i]? with
    | none => rw [e] at hi; cases hi
    | some z => rw [e] at hi; exact ⟨z, (Option.some.inj hi).symm⟩
   unfold dZ zQ
   refine iteT ?_
   refine ⟨_, rfl, _, rfl, cs.map V.int, hDc, by rw [List.length_map]; exact mY (by omega), cs ++ [if z < 0 then -z else z], ⟨_, rfl⟩, by rw [List.length_append, hcl]; rfl, fun c hc => ?_, by rw [ax, List.map_append]; rfl, by rw [upd_ne nDp.symm]; exact hp2, fun b o e => ?_⟩
   ·rcases List.mem_append.mp hc with hc | hc
    ·exact hc0 c hc
    ·obtain rfl : c = _ := by simpa using hc
     split <;> omega
   ·rw [upd_ne (ne_of_none e (s1.free hD))]
    exact s2 b o e
  ·rintro σ H2 ⟨cs, ⟨v, rfl⟩, hcl, hc0, hDc, hp2, s2⟩
   rw [List.length_map] at hcl
   refine ⟨by decide, fun p2 hp2' => ⟨D, p2, _, _, rfl, rfl, by rw [upd_ne (ne_of_none hDc hp2')]; exact hDc, ax, by rw [List.length_map]; exact Nat.le_of_lt (mY (by simp; omega)), fun p3 hp3 => ⟨(by show 3 <= sizeLine; decide), fun p4 hp4 => ?_⟩⟩⟩
   have s3 : bF H2 (upd H2 p2 (.lst [V.int 1])) := bF.upd hp2'
   have s4 := s3.trans (bF.upd (o := .lst (cs.map V.int ++ [V.int 1])) hp3)
   have n34 : p3 ≠ p4 := fun z => by subst z; rw [ax] at hp4; cases hp4
   refine k p4 p3 _ ((s2.trans s4).free hp4) ((s2.trans s3).free hp3) ⟨cs ++ [1], 0, 0, ax, by rw [upd_ne n34, ax, List.map_append]; rfl, by simp, by rw [List.length_append]; simp; omega, fun c hc => ?_, by decide⟩ ((s2.trans s4).trans (bF.upd hp4))
   rcases List.mem_append.mp hc with hc | hc
   ·exact hc0 c hc
   ·obtain rfl : c = 1 := by simpa using hc
    decide
theorem nG : FnScope ["rowsums", "columnsums"] ["rowsums", "columnsums"] (aj jj) := fsc
noncomputable def gB (K : Frag) (a : Ad) : G :=
  ai (gIf (cX (fB (ck leD leD (fC (.int 1)) (ao bD (ad (aa 0) (ah))) (fC (.int 4))))) (bJ a.C_BadSums (ad (cD (bZ (fC (.int 4)) (bZ (ao bD (ad (aa 0) (ah))) (dm)))) (ah))) (gNil))
  (ai (gIf (cX (fB (ck leD leD (fC (.int 1)) (ao bD (ad (aa 1) (ah))) (fC (.int 6))))) (bJ a.C_BadSums (ad (cD (bZ (fC (.int 6)) (bZ (ao bD (ad (aa 1) (ah))) (dm)))) (ah))) (gNil))
  (ai (gIf (de (dB (ao mS (ad (aU 1 [] (aX (aa 0)) (tgC 0) (fun _ => M.ret true) (cEm (f2 (ltD) (aa 0) (fC (.int 0))))) (ah)))) (dB (ao mS (ad (aU 1 [] (aX (aa 1)) (tgC 0) (fun _ => M.ret true) (cEm (f2 (ltD) (aa 0) (fC (.int 0))))) (ah))))) (bJ a.C_BadSums (ad (fC (.str (Str.ofString "a sum is below nought"))) (ah))) (gNil))
  (ai (gIf (fB (f2 (bY) (ao cn (ad (aa 0) (ah))) (ao cn (ad (aa 1) (ah))))) (bJ a.C_BadSums (ad (cD (bZ (ao cn (ad (aa 0) (ah))) (bZ (ao cn (ad (aa 1) (ah))) (dm)))) (ah))) (gNil))
  (gIf (fB (f2 (gtD) (ao cn (ad (aa 0) (ah))) (fC (.int 40)))) (bJ a.C_BadSums (ad (cD (bZ (fC (.int 40)) (dm))) (ah))) (gNil)))))
noncomputable def m_check_sums (K : Frag) (a : Ad) : List D -> M D := aJ 2 (gB K a)
theorem nN (N : Fns K mg a) : FnOk P w K mg base (CXE P w) 4 a.f_check_sums a.d_check_sums ["rowsums", "columnsums"] (spF K 2 (m_check_sums K a)) := by
 have X_BadSums := pX (P := P) (w := w) (base := base) N
 unfold m_check_sums
 exact bu (k := 3) 2 2 (gB K a) N.F_check_sums nG rfl rfl fun cdv A outer s H E hr => ak (bI (jP (lU lm lm pk pk (aw) (aC aW dX (by rfl) N.n_len PySem.boot_len (ac (ae 0 (pv 0)) (ag))) (gr N.g_MOST_ROWS))) (aq (eh N.xm_BadSums.xc (af aN0) (by decide) (dr hr.hd (fK N.xm_BadSums X_BadSums (hr.mono (by decide)) rfl N.m_BadSums N.b_BadSums .nil di (ac (gs (c := ((Str.ofString "there are 1 to ").length + (1921 + ((Str.ofString " row sums, not ").length + (1921 + 0))))) (dJ (fA (gr N.g_MOST_ROWS) (dJ (fA (aC aW dX (by rfl) N.n_len PySem.boot_len (ac (ae 0 (pv 0)) (ag))) (iI))))) (by decide +kernel)) (ag)))))) (bn))
   (ak (bI (jP (lU lm lm pk pk (aw) (aC aW dX (by rfl) N.n_len PySem.boot_len (ac (ae 1 (pv 1)) (ag))) (gr N.g_MOST_COLUMNS))) (aq (eh N.xm_BadSums.xc (af aN0) (by decide) (dr hr.hd (fK N.xm_BadSums X_BadSums (hr.mono (by decide)) rfl N.m_BadSums N.b_BadSums .nil di (ac (gs (c := ((Str.ofString "there are 1 to ").length + (1921 + ((Str.ofString " column sums, not ").length + (1921 + 0))))) (dJ (fA (gr N.g_MOST_COLUMNS) (dJ (fA (aC aW dX (by rfl) N.n_len PySem.boot_len (ac (ae 1 (pv 1)) (ag))) (iI))))) (by decide +kernel)) (ag)))))) (bn))
   (ak (bI (kM (qU (jO (aC (nu rfl) x9 (by rfl) N.n_any PyProof.Rows.Boot.«any» (ac (cI rfl (CmpScope.ofB (Nc := ["many"]) (vars := ["many"]) (caps := []) rfl (by decide +kernel) (by rfl) (by rfl) (by rfl)) (bU (ae 0 (pv 0))) (fun cl C fp s H => ⟨(pgN 0 (show (["many"] : List Str).Nodup by decide +kernel)), cx, fun D => bG rfl (kK oa rH (ae 0 (pv 0)) (aw)) rfl⟩) ba bp (fun D => bS)) (ag)))) (nV (jO (aC (nu rfl) x9 (by rfl) N.n_any PyProof.Rows.Boot.«any» (ac (cI rfl (CmpScope.ofB (Nc := ["many"]) (vars := ["many"]) (caps := []) rfl (by decide +kernel) (by rfl) (by rfl) (by rfl)) (bU (ae 1 (pv 1))) (fun cl C fp s H => ⟨(pgN 0 (show (["many"] : List Str).Nodup by decide +kernel)), cx, fun D => bG rfl (kK oa rH (ae 0 (pv 0)) (aw)) rfl⟩) ba bp (fun D => bS)) (ag))))))) (aq (eh N.xm_BadSums.xc (af aN0) (by decide) (dr hr.hd (fK N.xm_BadSums X_BadSums (hr.mono (by decide)) rfl N.m_BadSums N.b_BadSums .nil di (ac (bR) (ag)))))) (bn))
   (ak (bI (bc (eD hr) f9 (aC (bH rfl) c7 (by rfl) N.n_sum PyProof.Rows.Boot.«sum» (ac (ae 0 (pv 0)) (ag))) (aC (bH rfl) c7 (by rfl) N.n_sum PyProof.Rows.Boot.«sum» (ac (ae 1 (pv 1)) (ag)))) (aq (eh N.xm_BadSums.xc (af aN0) (by decide) (dr hr.hd (fK N.xm_BadSums X_BadSums (hr.mono (by decide)) rfl N.m_BadSums N.b_BadSums .nil di (ac (gs (c := ((Str.ofString "the rows have ").length + (1921 + ((Str.ofString " things, the columns ").length + (1921 + 0))))) (dJ (fA (aC (bH rfl) c7 (by rfl) N.n_sum PyProof.Rows.Boot.«sum» (ac (ae 0 (pv 0)) (ag))) (dJ (fA (aC (bH rfl) c7 (by rfl) N.n_sum PyProof.Rows.Boot.«sum» (ac (ae 1 (pv 1)) (ag))) (iI))))) (by decide +kernel)) (ag)))))) (bn))
   (aq (bI (bc iE kv (aC (bH rfl) c7 (by rfl) N.n_sum PyProof.Rows.Boot.«sum» (ac (ae 0 (pv 0)) (ag))) (gr N.g_MOST)) (aq (eh N.xm_BadSums.xc (af aN0) (by decide) (dr hr.hd (fK N.xm_BadSums X_BadSums (hr.mono (by decide)) rfl N.m_BadSums N.b_BadSums .nil di (ac (gs (c := ((Str.ofString "a table has at most ").length + (1921 + ((Str.ofString " things").length + 0)))) (dJ (fA (gr N.g_MOST) (dJ (iI)))) (by decide +kernel)) (ag)))))) (bn))))))
theorem l3 : FnScope ["place", "many"] ["place", "many"] (aj i5) := fsc
noncomputable def fX (K : Frag) (a : Ad) : G :=
  gIf (cX (fB (ck leD ltD (fC (.int 0)) (aa 0) (aa 1)))) (bJ a.C_BadCell (ad (cD (bZ (aa 0) (bZ (aa 1) (dm)))) (ah))) (gNil)
noncomputable def m_check_there (K : Frag) (a : Ad) : List D -> M D := aJ 2 (fX K a)
theorem mh (N : Fns K mg a) : FnOk P w K mg base (CXE P w) 4 a.f_check_there a.d_check_there ["place", "many"] (spF K 2 (m_check_there K a)) := by
 have X_BadCell := pZ (P := P) (w := w) (base := base) N
 unfold m_check_there
 exact bu (k := 3) 2 2 (fX K a) N.F_check_there l3 rfl rfl fun cdv A outer s H E hr => aq (bI (jP (lU lm oa pk rH (aw) (ae 0 (pv 0)) (ae 1 (pv 1)))) (aq (eh N.xm_BadCell.xc (af aN0) (by decide) (dr hr.hd (fK N.xm_BadCell X_BadCell (hr.mono (by decide)) rfl N.m_BadCell N.b_BadCell .nil di (ac (gs (c := ((Str.ofString "there is no number ").length + (1921 + ((Str.ofString " among ").length + (1921 + 0))))) (dJ (fA (ae 0 (pv 0)) (dJ (fA (ae 1 (pv 1)) (iI))))) (by decide +kernel)) (ag)))))) (bn))
theorem nJ : FnScope ["row", "column", "rows", "columns"] ["row", "column", "rows", "columns"] (aj jk) := fsc
noncomputable def gC (K : Frag) (a : Ad) : G :=
  ai (dn (aA (m_check_there K a) (ad (aa 0) (ad (aa 2) (ah)))))
  (dn (aA (m_check_there K a) (ad (aa 1) (ad (aa 3) (ah)))))
noncomputable def m_check_cell (K : Frag) (a : Ad) : List D -> M D := aJ 4 (gC K a)
theorem nP (N : Fns K mg a) : FnOk P w K mg base (CXE P w) 5 a.f_check_cell a.d_check_cell ["row", "column", "rows", "columns"] (spF K 4 (m_check_cell K a)) := by
 have G_check_there := mh (P := P) (w := w) (base := base) N
 unfold m_check_cell
 exact bu (k := 4) 4 4 (gC K a) N.F_check_cell nJ rfl rfl fun cdv A outer s H E hr => ak (k8 (dH (aB G_check_there (hr.mono (by decide)) (by rfl) N.m_check_there N.F_check_there.kp N.b_check_there aF (ac (ae 0 (pv 0)) (ac (ae 2 (pv 2)) (ag))) (af (af aN0)))))
   (aq (k8 (dH (aB G_check_there (hr.mono (by decide)) (by rfl) N.m_check_there N.F_check_there.kp N.b_check_there aF (ac (ae 1 (pv 1)) (ac (ae 3 (pv 3)) (ag))) (af (af aN0))))))
theorem lZ : FnScope ["rows"] ["rows"] (aj iZ) := fsc
noncomputable def i7 (K : Frag) (a : Ad) : G :=
  aE (aU 1 [0] (bC fR (ad (ao bD (ad (f2 ixD (aa 0) (fC (.int 0))) (ah))) (ah))) (tgC 0) (fun _ => M.ret true) (cEm (aU 1 [0] (aX (aa 1)) (tgC 0) (fun _ => M.ret true) (cEm (f2 ixD (aa 0) (aa 1))))))
noncomputable def m_rows_turned (K : Frag) (a : Ad) : List D -> M D := aJ 1 (i7 K a)
theorem md (N : Fns K mg a) : FnOk P w K mg base (CXE P w) 2 a.f_rows_turned a.d_rows_turned ["rows"] (spF K 1 (m_rows_turned K a)) := by
 unfold m_rows_turned
 exact bu (k := 1) 1 1 (i7 K a) N.F_rows_turned lZ rfl rfl fun cdv A outer s H E hr => aq (aL (az (cI rfl (CmpScope.ofB (Nc := ["column", "rows"]) (vars := ["column"]) (caps := [0]) rfl (by decide +kernel) (by rfl) (by rfl) (by rfl)) (d6 (by rfl) N.n_range (ac (aC aW dX (by rfl) N.n_len PySem.boot_len (ac (bz aO bA (ae 0 (pv 0)) (aw)) (ag))) (ag))) (fun cl C fp s H => ⟨(pgN 0 (show (["column", "rows"] : List Str).Nodup by decide +kernel)), cx, fun D => bG rfl (cI rfl (CmpScope.ofB (Nc := ["cells", "column"]) (vars := ["cells"]) (caps := [0]) rfl (by decide +kernel) (by rfl) (by rfl) (by rfl)) (bU (ae 1 (pv 1))) (fun cl C fp s H => ⟨(pgN 0 (show (["cells", "column"] : List Str).Nodup by decide +kernel)), cx, fun D => bG rfl (bz aO bA (ae 0 (pv 0)) (ae 1 (pv 1))) rfl⟩) ba bp (fun D => bS)) rfl⟩) ba bp (fun D => bS))))
theorem eC : FnScope ["number", "product", "factor"] ["number"] (aj kd) := fsc
noncomputable def gY (K : Frag) (a : Ad) : G :=
  ai (aI 1 (fC (.int 1)))
  (ai (bW (bC l7 (ad (fC (.int 2)) (ad (f2 eR (aa 0) (fC (.int 1))) (ah)))) (sgN 2) (eL 1 bb (aa 2)))
  (aE (aa 1)))
noncomputable def m_factorial (K : Frag) (a : Ad) : List D -> M D := aJ 3 (gY K a)
theorem o7 (N : Fns K mg a) : FnOk P w K mg base (CXE P w) 2 a.f_factorial a.d_factorial ["number"] (spF K 1 (m_factorial K a)) := by
 unfold m_factorial
 exact bu (k := 1) 1 3 (gY K a) N.F_factorial eC rfl rfl fun cdv A outer s H E hr => ak (aM (psS 1 eC.nd (aw)))
   (ak (bN aS (bv ci rfl (pA (by rfl) N.n_range (ac (aw) (ac (aR cc fw (ae 0 (pv 0)) (aw)) (ag)))) (pgN 2 eC.nd) (aq (n5 mr (lj (i := 1) eC.nd rfl (by first | exact Or.inl rfl | exact Or.inr rfl) (ae 2 (pv 2)) mv)))))
   (aq (aL (az (ae 1 (pv 1))))))
theorem iA : FnScope ["base", "many", "product", "factor"] ["base", "many"] (aj qf) := fsc
noncomputable def mx (K : Frag) (a : Ad) : G :=
  ai (aI 2 (fC (.int 1)))
  (ai (bW (bC fR (ad (aa 1) (ah))) (sgN 3) (eL 2 bb (aa 0)))
  (aE (aa 2)))
noncomputable def m_power (K : Frag) (a : Ad) : List D -> M D := aJ 4 (mx K a)
theorem vg (N : Fns K mg a) : FnOk P w K mg base (CXE P w) 2 a.f_power a.d_power ["base", "many"] (spF K 2 (m_power K a)) := by
 unfold m_power
 exact bu (k := 1) 2 4 (mx K a) N.F_power iA rfl rfl fun cdv A outer s H E hr => ak (aM (psS 2 iA.nd (aw)))
   (ak (bN aS (bv ci rfl (d6 (by rfl) N.n_range (ac (ae 1 (pv 1)) (ag))) (pgN 3 iA.nd) (aq (n5 mr (lj (i := 2) iA.nd rfl (by first | exact Or.inl rfl | exact Or.inr rfl) (ae 0 (pv 0)) mv)))))
   (aq (aL (az (ae 2 (pv 2))))))
theorem hW : FnScope ["parts", "part", "told"] ["parts"] (aj tM) := fsc
noncomputable def pB (K : Frag) (a : Ad) : G :=
  ai (bW (aX (aa 0)) (sgN 1) (gIf (fB (f2 (ltD) (aa 1) (fC (.int 0)))) (bJ a.C_BadNumber (ad (cD (bZ (aa 1) (dm))) (ah))) (gNil)))
  (ai (aI 2 (aA (m_factorial K a) (ad (ao jR (ad (aa 0) (ah))) (ah))))
  (ai (bW (aX (aa 0)) (sgN 1) (eL 2 eM (aA (m_factorial K a) (ad (aa 1) (ah)))))
  (aE (aa 2))))
noncomputable def m_ways (K : Frag) (a : Ad) : List D -> M D := aJ 3 (pB K a)
theorem yX (N : Fns K mg a) : FnOk P w K mg base (CXE P w) 4 a.f_ways a.d_ways ["parts"] (spF K 1 (m_ways K a)) := by
 have G_factorial := o7 (P := P) (w := w) (base := base) N
 have X_BadNumber := nK (P := P) (w := w) (base := base) N
 unfold m_ways
 exact bu (k := 3) 1 3 (pB K a) N.F_ways hW rfl rfl fun cdv A outer s H E hr => ak (bN aS (bv ci rfl (bU (ae 0 (pv 0))) (pgN 1 hW.nd) (aq (bI (bc oa rH (ae 1 (pv 1)) (aw)) (aq (eh N.xm_BadNumber.xc (af aN0) (by decide) (dr hr.hd (fK N.xm_BadNumber X_BadNumber (hr.mono (by decide)) rfl N.m_BadNumber N.b_BadNumber .nil di (ac (gs (c := ((Str.ofString "a part of ").length + (1921 + ((Str.ofString " is below nought").length + 0)))) (dJ (fA (ae 1 (pv 1)) (dJ (iI)))) (by decide +kernel)) (ag)))))) (bn)))))
   (ak (aM (psS 2 hW.nd (aB G_factorial (hr.mono (by decide)) (by rfl) N.m_factorial N.F_factorial.kp N.b_factorial aF (ac (aC (uF rfl) AH (by rfl) N.n_sum PyProof.Rows.Boot.«sum» (ac (ae 0 (pv 0)) (ag))) (ag)) (af aN0))))
   (ak (bN aS (bv ci rfl (bU (ae 0 (pv 0))) (pgN 1 hW.nd) (aq (n5 vB (lj (i := 2) hW.nd rfl (by first | exact Or.inl rfl | exact Or.inr rfl) (aB G_factorial (hr.mono (by decide)) (by rfl) N.m_factorial N.F_factorial.kp N.b_factorial aF (ac (ae 1 (pv 1)) (ag)) (af aN0)) zk)))))
   (aq (aL (az (ae 2 (pv 2)))))))
theorem gw : FnScope ["one", "other"] ["one", "other"] (aj gL) := fsc
noncomputable def eG (K : Frag) (a : Ad) : G :=
  ai (gWh (fB (f2 (gtD) (aa 1) (fC (.int 0)))) (fk 0 1 (ad (aa 1) (ad (f2 ku (aa 0) (aa 1)) (ah)))))
  (aE (aa 0))
noncomputable def m_common_factor (K : Frag) (a : Ad) : List D -> M D := aJ 2 (eG K a)
theorem kq (N : Fns K mg a) : FnOk P w K mg base (CXE P w) 2 a.f_common_factor a.d_common_factor ["one", "other"] (spF K 2 (m_common_factor K a)) := by
 unfold m_common_factor
 exact bu (k := 1) 2 2 (eG K a) N.F_common_factor gw rfl rfl fun cdv A outer s H E hr => ak (qe ci (bc iE kv (ae 1 (pv 1)) (aw)) (aq (Cq (Ae (i := 0) (j := 1) rfl gw.nd rfl rfl (by decide) rfl rfl (ac (ae 1 (pv 1)) (ac (aR gx xY (ae 0 (pv 0)) (ae 1 (pv 1))) (ag))) rfl))))
   (aq (aL (az (ae 0 (pv 0)))))
theorem dg : FnScope ["numbers", "told", "number"] ["numbers"] (aj hX) := fsc
noncomputable def fh (K : Frag) (a : Ad) : G :=
  ai (aI 1 (fC (.int 1)))
  (ai (bW (aX (aa 0)) (sgN 2) (aI 1 (f2 eM (f2 bb (aa 1) (aa 2)) (aA (m_common_factor K a) (ad (aa 1) (ad (aa 2) (ah)))))))
  (aE (aa 1)))
noncomputable def m_least_common (K : Frag) (a : Ad) : List D -> M D := aJ 3 (fh K a)
theorem lr (N : Fns K mg a) : FnOk P w K mg base (CXE P w) 3 a.f_least_common a.d_least_common ["numbers"] (spF K 1 (m_least_common K a)) := by
 have G_common_factor := kq (P := P) (w := w) (base := base) N
 unfold m_least_common
 exact bu (k := 2) 1 3 (fh K a) N.F_least_common dg rfl rfl fun cdv A outer s H E hr => ak (aM (psS 1 dg.nd (aw)))
   (ak (bN aS (bv ci rfl (bU (ae 0 (pv 0))) (pgN 2 dg.nd) (aq (aM (psS 1 dg.nd (aR gy jx (aR bi bT (ae 1 (pv 1)) (ae 2 (pv 2))) (aB G_common_factor (hr.mono (by decide)) (by rfl) N.m_common_factor N.F_common_factor.kp N.b_common_factor aF (ac (ae 1 (pv 1)) (ac (ae 2 (pv 2)) (ag))) (af (af aN0)))))))))
   (aq (aL (az (ae 1 (pv 1))))))
theorem dU : FnScope ["counts", "told", "count"] ["counts"] (aj ji) := fsc
noncomputable def gA (K : Frag) (a : Ad) : G :=
  ai (aI 1 (fC (.int 1)))
  (ai (bW (aX (aa 0)) (sgN 2) (eL 1 bb (aA (m_power K a) (ad (aa 2) (ad (aa 2) (ah))))))
  (aE (aa 1)))
noncomputable def m_power_part (K : Frag) (a : Ad) : List D -> M D := aJ 3 (gA K a)
theorem nM (N : Fns K mg a) : FnOk P w K mg base (CXE P w) 3 a.f_power_part a.d_power_part ["counts"] (spF K 1 (m_power_part K a)) := by
 have G_power := vg (P := P) (w := w) (base := base) N
 unfold m_power_part
 exact bu (k := 2) 1 3 (gA K a) N.F_power_part dU rfl rfl fun cdv A outer s H E hr => ak (aM (psS 1 dU.nd (aw)))
   (ak (bN aS (bv ci rfl (bU (ae 0 (pv 0))) (pgN 2 dU.nd) (aq (n5 mr (lj (i := 1) dU.nd rfl (by first | exact Or.inl rfl | exact Or.inr rfl) (aB G_power (hr.mono (by decide)) (by rfl) N.m_power N.F_power.kp N.b_power aF (ac (ae 2 (pv 2)) (ac (ae 2 (pv 2)) (ag))) (af (af aN0))) mv)))))
   (aq (aL (az (ae 1 (pv 1))))))
theorem lY : FnScope ["counts", "products", "even"] ["counts", "products", "even"] (aj iY) := fsc
noncomputable def fV (K : Frag) (a : Ad) : G :=
  aE (ao cn (ad (aU 2 [2] (d5 (ad (aa 0) (ad (aa 1) (ah)))) (tgT (da (tgC 0) (da (tgC 1) gt))) (fB (f2 (gtD) (aa 1) (fC (.int 0)))) (cEm (f2 eM (f2 bb (f2 bb (aa 0) (aa 0)) (aa 2)) (aa 1)))) (ah)))
noncomputable def m_square_part (K : Frag) (a : Ad) : List D -> M D := aJ 3 (fV K a)
theorem ma (N : Fns K mg a) : FnOk P w K mg base (CXE P w) 2 a.f_square_part a.d_square_part ["counts", "products", "even"] (spF K 3 (m_square_part K a)) := by
 unfold m_square_part
 exact bu (k := 1) 3 3 (fV K a) N.F_square_part lY rfl rfl fun cdv A outer s H E hr => aq (aL (az (aC (bH rfl) c7 (by rfl) N.n_sum PyProof.Rows.Boot.«sum» (ac (cI rfl (CmpScope.ofB (Nc := ["count", "product", "even"]) (vars := ["count", "product"]) (caps := [2]) rfl (by decide +kernel) (by rfl) (by rfl) (by rfl)) (rL (by rfl) N.n_zip (ac (ae 0 (pv 0)) (ac (ae 1 (pv 1)) (ag)))) (fun cl C fp s H => ⟨(fJ rfl (bt (pgN 0 (show (["count", "product", "even"] : List Str).Nodup by decide +kernel)) (bt (pgN 1 (show (["count", "product", "even"] : List Str).Nodup by decide +kernel)) em))), yh (bc iE kv (ae 1 (pv 1)) (aw)), fun D => bG rfl (aR gy jx (aR bi bT (aR bi bT (ae 0 (pv 0)) (ae 0 (pv 0))) (ae 2 (pv 2))) (ae 1 (pv 1))) rfl⟩) (pi (fe ba (fe ba mq)) (eW (eW kj))) (oO (eY bp (eY bp lX))) (fun D => bS)) (ag)))))
theorem pU : FnScope ["counts", "products", "things"] ["counts", "products", "things"] (aj kW) := fsc
noncomputable def iN (K : Frag) (a : Ad) : G :=
  aE (ao cn (ad (aU 2 [2] (d5 (ad (aa 0) (ad (aa 1) (ah)))) (tgT (da (tgC 0) (da (tgC 1) gt))) (fun _ => M.ret true) (cEm (ao fY (ad (f2 kl (f2 bb (aa 0) (aa 2)) (aa 1)) (ah))))) (ah)))
noncomputable def m_off_part (K : Frag) (a : Ad) : List D -> M D := aJ 3 (iN K a)
theorem p6 (N : Fns K mg a) : FnOk P w K mg base (CXE P w) 2 a.f_off_part a.d_off_part ["counts", "products", "things"] (spF K 3 (m_off_part K a)) := by
 unfold m_off_part
 exact bu (k := 1) 3 3 (iN K a) N.F_off_part pU rfl rfl fun cdv A outer s H E hr => aq (aL (az (aC (bH rfl) c7 (by rfl) N.n_sum PyProof.Rows.Boot.«sum» (ac (cI rfl (CmpScope.ofB (Nc := ["count", "product", "things"]) (vars := ["count", "product"]) (caps := [2]) rfl (by decide +kernel) (by rfl) (by rfl) (by rfl)) (rL (by rfl) N.n_zip (ac (ae 0 (pv 0)) (ac (ae 1 (pv 1)) (ag)))) (fun cl C fp s H => ⟨(fJ rfl (bt (pgN 0 (show (["count", "product", "things"] : List Str).Nodup by decide +kernel)) (bt (pgN 1 (show (["count", "product", "things"] : List Str).Nodup by decide +kernel)) em))), cx, fun D => bG rfl (aC kE ya (by rfl) N.n_abs PyProof.Rows.Boot.«abs» (ac (aR o5 rG (aR bi bT (ae 0 (pv 0)) (ae 2 (pv 2))) (ae 1 (pv 1))) (ag))) rfl⟩) (pi (fe ba (fe ba mq)) (eW (eW kj))) (oO (eY bp (eY bp lX))) (fun D => bS)) (ag)))))
theorem tK : FnScope ["_law_found", "_law_due"] ["_law_found", "_law_due"] (aj oR) := fsc
noncomputable def ky (K : Frag) (a : Ad) (rec : List D -> M D) : G :=
  ai (gIf (dB (ao dY (ad (aa 1) (ad (ao bX (ad (fC (.ty "list")) (ad (fC (.ty "tuple")) (ah)))) (ah))))) (ai (gIf (de (fB (f2 (bY) (ao cb (ad (aa 1) (ad (fC (.ty "list")) (ah)))) (ao cb (ad (aa 0) (ad (fC (.ty "list")) (ah)))))) (fB (f2 (bY) (ao cb (ad (aa 1) (ad (fC (.ty "tuple")) (ah)))) (ao cb (ad (aa 0) (ad (fC (.ty "tuple")) (ah))))))) (aE (fC (.bl false))) (gNil))
  (ai (gIf (fB (f2 (bY) (ao bD (ad (aa 0) (ah))) (ao bD (ad (aa 1) (ah))))) (aE (fC (.bl false))) (gNil))
  (aE (f2 (inD true) (fC (.bl false)) (aU 2 [] (d5 (ad (aa 0) (ad (aa 1) (ah)))) (tgT (da (tgC 0) (da (tgC 1) gt))) (fun _ => M.ret true) (cEm (aA rec (ad (aa 0) (ad (aa 1) (ah)))))))))) (gNil))
  (ai (gIf (fB (f2 (fU) (aa 1) (fC .non))) (aE (f2 (fU) (aa 0) (fC .non))) (gNil))
  (ai (gIf (de (fB (f2 (bY) (ao cb (ad (aa 1) (ad (fC (.ty "str")) (ah)))) (ao cb (ad (aa 0) (ad (fC (.ty "str")) (ah)))))) (fB (f2 (bY) (ao cb (ad (aa 1) (ad (fC (.ty "bool")) (ah)))) (ao cb (ad (aa 0) (ad (fC (.ty "bool")) (ah))))))) (aE (fC (.bl false))) (gNil))
  (aE (iR (ao dY (ad (aa 0) (ad (ao bX (ad (fC (.ty "int")) (ad (fC (.ty "str")) (ah)))) (ah)))) (f2 (cM) (aa 0) (aa 1))))))
noncomputable def m_l_same (K : Frag) (a : Ad) : Nat -> List D -> M D
 | 0 => fun _ => M.fail
 | n + 1 => aJ 2 (ky K a (m_l_same K a n))
theorem lq (N : Fns K mg a) : ∀ n, FnOk P w K mg base (CXE P w) (n + 1) a.f_l_same a.d_l_same ["_law_found", "_law_due"] (spF K 2 (m_l_same K a n))
 | 0 => ⟨fun vs H Q E h => h.1, fun A outer s H args us vs Q E hr e0 hb r h => by
   obtain ⟨_, F, ds, β, _, _, rr, β1, e, _⟩ := h
   cases e⟩
 | n + 1 => by
  have GREC := lq N n
  unfold m_l_same
  exact bu (k := n + 1) 2 2 (ky K a (m_l_same K a n)) N.F_l_same tK rfl rfl fun cdv A outer s H E hr => ak (bI (jO (aC lP uj (by rfl) N.n_isinstance PyProof.Rows.Boot.«isinstance» (ac (ae 1 (pv 1)) (ac (kJ (ac (v_c (cr (v := .ty "list") (by rfl) N.n_list PyProof.Rows.Boot.«list» rfl) (fun _ _ => rfl)) (ac (v_c (cr (v := .ty "tuple") (by rfl) N.n_tuple PyProof.Rows.Boot.«tuple» rfl) (fun _ _ => rfl)) (ag)))) (ag))))) (ak (bI (kM (qU (bc (eD hr) f9 (aC cQ gQ (by rfl) N.n_isinstance PyProof.Rows.Boot.«isinstance» (ac (ae 1 (pv 1)) (ac (v_c (cr (v := .ty "list") (by rfl) N.n_list PyProof.Rows.Boot.«list» rfl) (fun _ _ => rfl)) (ag)))) (aC cQ gQ (by rfl) N.n_isinstance PyProof.Rows.Boot.«isinstance» (ac (ae 0 (pv 0)) (ac (v_c (cr (v := .ty "list") (by rfl) N.n_list PyProof.Rows.Boot.«list» rfl) (fun _ _ => rfl)) (ag))))) (nV (bc (eD hr) f9 (aC cQ gQ (by rfl) N.n_isinstance PyProof.Rows.Boot.«isinstance» (ac (ae 1 (pv 1)) (ac (v_c (cr (v := .ty "tuple") (by rfl) N.n_tuple PyProof.Rows.Boot.«tuple» rfl) (fun _ _ => rfl)) (ag)))) (aC cQ gQ (by rfl) N.n_isinstance PyProof.Rows.Boot.«isinstance» (ac (ae 0 (pv 0)) (ac (v_c (cr (v := .ty "tuple") (by rfl) N.n_tuple PyProof.Rows.Boot.«tuple» rfl) (fun _ _ => rfl)) (ag)))))))) (aq (aL (az (jf)))) (bn))
   (ak (bI (bc (eD hr) f9 (aC aW dX (by rfl) N.n_len PySem.boot_len (ac (ae 0 (pv 0)) (ag))) (aC aW dX (by rfl) N.n_len PySem.boot_len (ac (ae 1 (pv 1)) (ag)))) (aq (aL (az (jf)))) (bn))
   (aq (aL (az (kK jq (mt (neg := true)) (jf) (cI rfl (CmpScope.ofB (Nc := ["_law_one", "_law_other"]) (vars := ["_law_one", "_law_other"]) (caps := []) rfl (by decide +kernel) (by rfl) (by rfl) (by rfl)) (rL (by rfl) N.n_zip (ac (ae 0 (pv 0)) (ac (ae 1 (pv 1)) (ag)))) (fun cl C fp s H => ⟨(fJ rfl (bt (pgN 0 (show (["_law_one", "_law_other"] : List Str).Nodup by decide +kernel)) (bt (pgN 1 (show (["_law_one", "_law_other"] : List Str).Nodup by decide +kernel)) em))), cx, fun D => bG rfl (aB GREC (hr.mono (Nat.le_refl _)) (by rfl) N.m_l_same N.F_l_same.kp N.b_l_same di (ac (ae 0 (pv 0)) (ac (ae 1 (pv 1)) (ag))) (af (af aN0))) rfl⟩) (pi (fe ba (fe ba mq)) (eW (eW kj))) (oO (eY bp (eY bp lX))) (fun D => bS)))))))) (bn))
   (ak (bI (bc tZ xZ (ae 1 (pv 1)) (xG)) (aq (aL (az (kK tZ xZ (ae 0 (pv 0)) (xG))))) (bn))
   (ak (bI (kM (qU (bc (eD hr) f9 (aC cQ gQ (by rfl) N.n_isinstance PyProof.Rows.Boot.«isinstance» (ac (ae 1 (pv 1)) (ac (v_c (cr (v := .ty "str") (by rfl) N.n_str PyProof.Rows.Boot.«str» rfl) (fun _ _ => rfl)) (ag)))) (aC cQ gQ (by rfl) N.n_isinstance PyProof.Rows.Boot.«isinstance» (ac (ae 0 (pv 0)) (ac (v_c (cr (v := .ty "str") (by rfl) N.n_str PyProof.Rows.Boot.«str» rfl) (fun _ _ => rfl)) (ag))))) (nV (bc (eD hr) f9 (aC cQ gQ (by rfl) N.n_isinstance PyProof.Rows.Boot.«isinstance» (ac (ae 1 (pv 1)) (ac (v_c (cr (v := .ty "bool") (by rfl) N.n_bool PyProof.Rows.Boot.«bool» rfl) (fun _ _ => rfl)) (ag)))) (aC cQ gQ (by rfl) N.n_isinstance PyProof.Rows.Boot.«isinstance» (ac (ae 0 (pv 0)) (ac (v_c (cr (v := .ty "bool") (by rfl) N.n_bool PyProof.Rows.Boot.«bool» rfl) (fun _ _ => rfl)) (ag)))))))) (aq (aL (az (jf)))) (bn))
   (aq (aL (az (Ci (aC lP uj (by rfl) N.n_isinstance PyProof.Rows.Boot.«isinstance» (ac (ae 0 (pv 0)) (ac (kJ (ac (v_c (cr (v := .ty "int") (by rfl) N.n_int PyProof.Rows.Boot.«int» rfl) (fun _ _ => rfl)) (ac (v_c (cr (v := .ty "str") (by rfl) N.n_str PyProof.Rows.Boot.«str» rfl) (fun _ _ => rfl)) (ag)))) (ag)))) (Ch (kK (fM hr) gR (ae 0 (pv 0)) (ae 1 (pv 1))))))))))
theorem t7 (N : Fns K mg a) : FnOk P w K mg base (CXE P w) 7 a.f_l_same a.d_l_same ["_law_found", "_law_due"] (spF K 2 (m_l_same K a 5)) := (lq N 5).mono (by decide)
theorem pV : FnScope ["_law_block"] ["_law_block"] (aj kZ) := fsc
noncomputable def lL (K : Frag) (a : Ad) : G :=
  aE (aU 1 [0] (bC fR (ad (ao bD (ad (f2 ixD (aa 0) (fC (.int 0))) (ah))) (ah))) (tgC 0) (fun _ => M.ret true) (cEm (aU 1 [0] (aX (aa 1)) (tgC 0) (fun _ => M.ret true) (cEm (f2 ixD (aa 0) (aa 1))))))
noncomputable def m_l_turned (K : Frag) (a : Ad) : List D -> M D := aJ 1 (lL K a)
theorem ke (N : Fns K mg a) : FnOk P w K mg base (CXE P w) 2 a.f_l_turned a.d_l_turned ["_law_block"] (spF K 1 (m_l_turned K a)) := by
 unfold m_l_turned
 exact bu (k := 1) 1 1 (lL K a) N.F_l_turned pV rfl rfl fun cdv A outer s H E hr => aq (aL (az (cI rfl (CmpScope.ofB (Nc := ["_law_to", "_law_block"]) (vars := ["_law_to"]) (caps := [0]) rfl (by decide +kernel) (by rfl) (by rfl) (by rfl)) (d6 (by rfl) N.n_range (ac (aC aW dX (by rfl) N.n_len PySem.boot_len (ac (bz aO bA (ae 0 (pv 0)) (aw)) (ag))) (ag))) (fun cl C fp s H => ⟨(pgN 0 (show (["_law_to", "_law_block"] : List Str).Nodup by decide +kernel)), cx, fun D => bG rfl (cI rfl (CmpScope.ofB (Nc := ["_law_row", "_law_to"]) (vars := ["_law_row"]) (caps := [0]) rfl (by decide +kernel) (by rfl) (by rfl) (by rfl)) (bU (ae 1 (pv 1))) (fun cl C fp s H => ⟨(pgN 0 (show (["_law_row", "_law_to"] : List Str).Nodup by decide +kernel)), cx, fun D => bG rfl (bz aO bA (ae 0 (pv 0)) (ae 1 (pv 1))) rfl⟩) ba bp (fun D => bS)) rfl⟩) ba bp (fun D => bS))))
theorem oP : FnScope ["_law_grid"] ["_law_grid"] (aj kc) := fsc
noncomputable def kh (K : Frag) (a : Ad) : G :=
  aE (aU 1 [] (aX (aa 0)) (tgC 0) (fun _ => M.ret true) (cEm (ao cn (ad (aa 0) (ah)))))
noncomputable def m_l_rowsums (K : Frag) (a : Ad) : List D -> M D := aJ 1 (kh K a)
theorem o6 (N : Fns K mg a) : FnOk P w K mg base (CXE P w) 2 a.f_l_rowsums a.d_l_rowsums ["_law_grid"] (spF K 1 (m_l_rowsums K a)) := by
 unfold m_l_rowsums
 exact bu (k := 1) 1 1 (kh K a) N.F_l_rowsums oP rfl rfl fun cdv A outer s H E hr => aq (aL (az (cI rfl (CmpScope.ofB (Nc := ["_law_row"]) (vars := ["_law_row"]) (caps := []) rfl (by decide +kernel) (by rfl) (by rfl) (by rfl)) (bU (ae 0 (pv 0))) (fun cl C fp s H => ⟨(pgN 0 (show (["_law_row"] : List Str).Nodup by decide +kernel)), cx, fun D => bG rfl (aC (bH rfl) c7 (by rfl) N.n_sum PyProof.Rows.Boot.«sum» (ac (ae 0 (pv 0)) (ag))) rfl⟩) ba bp (fun D => bS))))
theorem kU : FnScope ["_law_grid"] ["_law_grid"] (aj h8) := fsc
noncomputable def ij (K : Frag) (a : Ad) : G :=
  aE (aU 1 [] (aX (aA (m_l_turned K a) (ad (aa 0) (ah)))) (tgC 0) (fun _ => M.ret true) (cEm (ao cn (ad (aa 0) (ah)))))
noncomputable def m_l_columnsums (K : Frag) (a : Ad) : List D -> M D := aJ 1 (ij K a)
theorem lu (N : Fns K mg a) : FnOk P w K mg base (CXE P w) 3 a.f_l_columnsums a.d_l_columnsums ["_law_grid"] (spF K 1 (m_l_columnsums K a)) := by
 have G_l_turned := ke (P := P) (w := w) (base := base) N
 unfold m_l_columnsums
 exact bu (k := 2) 1 1 (ij K a) N.F_l_columnsums kU rfl rfl fun cdv A outer s H E hr => aq (aL (az (cI rfl (CmpScope.ofB (Nc := ["_law_column"]) (vars := ["_law_column"]) (caps := []) rfl (by decide +kernel) (by rfl) (by rfl) (by rfl)) (bU (aB G_l_turned (hr.mono (by decide)) (by rfl) N.m_l_turned N.F_l_turned.kp N.b_l_turned aF (ac (ae 0 (pv 0)) (ag)) (af aN0))) (fun cl C fp s H => ⟨(pgN 0 (show (["_law_column"] : List Str).Nodup by decide +kernel)), cx, fun D => bG rfl (aC (bH rfl) c7 (by rfl) N.n_sum PyProof.Rows.Boot.«sum» (ac (ae 0 (pv 0)) (ag))) rfl⟩) ba bp (fun D => bS))))
theorem pW : FnScope ["_law_block"] ["_law_block"] (aj k7) := fsc
noncomputable def lM (K : Frag) (a : Ad) : G :=
  aE (aU 1 [] (aX (aa 0)) (tgC 0) (fun _ => M.ret true) (cEm (ao rF (ad (aa 0) (ah)))))
noncomputable def m_l_copied (K : Frag) (a : Ad) : List D -> M D := aJ 1 (lM K a)
theorem p9 (N : Fns K mg a) : FnOk P w K mg base (CXE P w) 2 a.f_l_copied a.d_l_copied ["_law_block"] (spF K 1 (m_l_copied K a)) := by
 unfold m_l_copied
 exact bu (k := 1) 1 1 (lM K a) N.F_l_copied pW rfl rfl fun cdv A outer s H E hr => aq (aL (az (cI rfl (CmpScope.ofB (Nc := ["_law_row"]) (vars := ["_law_row"]) (caps := []) rfl (by decide +kernel) (by rfl) (by rfl) (by rfl)) (bU (ae 0 (pv 0))) (fun cl C fp s H => ⟨(pgN 0 (show (["_law_row"] : List Str).Nodup by decide +kernel)), cx, fun D => bG rfl (uN dD AI (by rfl) N.n_list PyProof.Rows.Boot.«list» (ac (ae 0 (pv 0)) (ag))) rfl⟩) ba bp (fun D => bS))))
theorem dF : FnScope ["_law_lot", "_law_found", "_law_k"] ["_law_lot"] (aj i0) := fsc
noncomputable def fW (K : Frag) (a : Ad) : G :=
  ai (aI 1 (fC (.int 1)))
  (ai (bW (bC l7 (ad (fC (.int 2)) (ad (f2 eR (aa 0) (fC (.int 1))) (ah)))) (sgN 2) (aI 1 (f2 bb (aa 1) (aa 2))))
  (aE (aa 1)))
noncomputable def m_l_factorial (K : Frag) (a : Ad) : List D -> M D := aJ 3 (fW K a)
theorem me (N : Fns K mg a) : FnOk P w K mg base (CXE P w) 2 a.f_l_factorial a.d_l_factorial ["_law_lot"] (spF K 1 (m_l_factorial K a)) := by
 unfold m_l_factorial
 exact bu (k := 1) 1 3 (fW K a) N.F_l_factorial dF rfl rfl fun cdv A outer s H E hr => ak (aM (psS 1 dF.nd (aw)))
   (ak (bN aS (bv ci rfl (pA (by rfl) N.n_range (ac (aw) (ac (aR cc fw (ae 0 (pv 0)) (aw)) (ag)))) (pgN 2 dF.nd) (aq (aM (psS 1 dF.nd (aR bi bT (ae 1 (pv 1)) (ae 2 (pv 2))))))))
   (aq (aL (az (ae 1 (pv 1))))))
theorem gG : FnScope ["_law_parts", "_law_under", "_law_part"] ["_law_parts"] (aj oQ) := fsc
noncomputable def kx (K : Frag) (a : Ad) : G :=
  ai (aI 1 (fC (.int 1)))
  (ai (bW (aX (aa 0)) (sgN 2) (aI 1 (f2 bb (aa 1) (aA (m_l_factorial K a) (ad (aa 2) (ah))))))
  (aE (f2 eM (aA (m_l_factorial K a) (ad (ao cn (ad (aa 0) (ah))) (ah))) (aa 1))))
noncomputable def m_l_ways (K : Frag) (a : Ad) : List D -> M D := aJ 3 (kx K a)
theorem t5 (N : Fns K mg a) : FnOk P w K mg base (CXE P w) 3 a.f_l_ways a.d_l_ways ["_law_parts"] (spF K 1 (m_l_ways K a)) := by
 have G_l_factorial := me (P := P) (w := w) (base := base) N
 unfold m_l_ways
 exact bu (k := 2) 1 3 (kx K a) N.F_l_ways gG rfl rfl fun cdv A outer s H E hr => ak (aM (psS 1 gG.nd (aw)))
   (ak (bN aS (bv ci rfl (bU (ae 0 (pv 0))) (pgN 2 gG.nd) (aq (aM (psS 1 gG.nd (aR bi bT (ae 1 (pv 1)) (aB G_l_factorial (hr.mono (by decide)) (by rfl) N.m_l_factorial N.F_l_factorial.kp N.b_l_factorial aF (ac (ae 2 (pv 2)) (ag)) (af aN0))))))))
   (aq (aL (az (aR gy jx (aB G_l_factorial (hr.mono (by decide)) (by rfl) N.m_l_factorial N.F_l_factorial.kp N.b_l_factorial aF (ac (aC (bH rfl) c7 (by rfl) N.n_sum PyProof.Rows.Boot.«sum» (ac (ae 0 (pv 0)) (ag))) (ag)) (af aN0)) (ae 1 (pv 1)))))))
theorem ft : FnScope ["_law_columns", "_law_found", "_law_column"] ["_law_columns"] (aj kY) := fsc
noncomputable def iO (K : Frag) (a : Ad) : G :=
  ai (aI 1 (fC (.int 1)))
  (ai (bW (aX (aa 0)) (sgN 2) (aI 1 (f2 bb (aa 1) (aA (m_l_ways K a) (ad (aa 2) (ah))))))
  (aE (aa 1)))
noncomputable def m_l_weight (K : Frag) (a : Ad) : List D -> M D := aJ 3 (iO K a)
theorem p7 (N : Fns K mg a) : FnOk P w K mg base (CXE P w) 4 a.f_l_weight a.d_l_weight ["_law_columns"] (spF K 1 (m_l_weight K a)) := by
 have G_l_ways := t5 (P := P) (w := w) (base := base) N
 unfold m_l_weight
 exact bu (k := 3) 1 3 (iO K a) N.F_l_weight ft rfl rfl fun cdv A outer s H E hr => ak (aM (psS 1 ft.nd (aw)))
   (ak (bN aS (bv ci rfl (bU (ae 0 (pv 0))) (pgN 2 ft.nd) (aq (aM (psS 1 ft.nd (aR bi bT (ae 1 (pv 1)) (aB G_l_ways (hr.mono (by decide)) (by rfl) N.m_l_ways N.F_l_ways.kp N.b_l_ways aF (ac (ae 2 (pv 2)) (ag)) (af aN0))))))))
   (aq (aL (az (ae 1 (pv 1))))))
theorem iB : FnScope ["_law_one", "_law_other", "_law_kept"] ["_law_one", "_law_other"] (aj qh) := fsc
noncomputable def mz (K : Frag) (a : Ad) : G :=
  ai (gWh (fB (f2 (gtD) (aa 1) (fC (.int 0)))) (ai (aI 2 (f2 ku (aa 0) (aa 1)))
  (ai (aI 0 (aa 1))
  (aI 1 (aa 2)))))
  (aE (aa 0))
noncomputable def m_l_gcd (K : Frag) (a : Ad) : List D -> M D := aJ 3 (mz K a)
theorem vi (N : Fns K mg a) : FnOk P w K mg base (CXE P w) 2 a.f_l_gcd a.d_l_gcd ["_law_one", "_law_other"] (spF K 2 (m_l_gcd K a)) := by
 unfold m_l_gcd
 exact bu (k := 1) 2 3 (mz K a) N.F_l_gcd iB rfl rfl fun cdv A outer s H E hr => ak (qe ci (bc iE kv (ae 1 (pv 1)) (aw)) (ak (aM (psS 2 iB.nd (aR gx xY (ae 0 (pv 0)) (ae 1 (pv 1)))))
   (ak (aM (psS 0 iB.nd (ae 1 (pv 1))))
   (aq (aM (psS 1 iB.nd (ae 2 (pv 2))))))))
   (aq (aL (az (ae 0 (pv 0)))))
theorem tL : FnScope ["_law_bag_here"] ["_law_bag_here"] (aj oU) := fsc
noncomputable def kz (K : Frag) (a : Ad) : G :=
  aE (f2 ixD (ao cU (ad (fC (.str (Str.ofString "rare"))) (ad (fC (.str (Str.ofString "square"))) (ad (fC (.str (Str.ofString "power"))) (ad (fC (.str (Str.ofString "off"))) (ad (fC (.str (Str.ofString "most"))) (ad (fC (.str (Str.ofString "least"))) (ah)))))))) (aA dk (ad (aa 0) (ad (fC (.int 6)) (ah)))))
noncomputable def m_l_kind (K : Frag) (a : Ad) : List D -> M D := aJ 1 (kz K a)
theorem t8 (N : Fns K mg a) : FnOk P w K mg base (CXE P w) 3 a.f_l_kind a.d_l_kind ["_law_bag_here"] (spF K 1 (m_l_kind K a)) := by
 have G_l_pull := jr (P := P) (w := w) (base := base) N
 unfold m_l_kind
 exact bu (k := 2) 1 1 (kz K a) N.F_l_kind tL rfl rfl fun cdv A outer s H E hr => aq (aL (az (bz aO bA (qW (ac (bR) (ac (bR) (ac (bR) (ac (bR) (ac (bR) (ac (bR) (ag)))))))) (aB G_l_pull (hr.mono (by decide)) (by rfl) N.m_l_pull N.F_l_pull.kp N.b_l_pull aF (ac (ae 0 (pv 0)) (ac (aw) (ag))) (af (af aN0))))))
theorem kT : FnScope ["_law_bag_here", "_law_grid", "_law_at"] ["_law_bag_here", "_law_grid"] (aj m3) := fsc
noncomputable def jF (K : Frag) (a : Ad) : G :=
  ai (aI 2 (aA dk (ad (aa 0) (ad (ao bD (ad (aa 1) (ah))) (ah)))))
  (aE (ao bX (ad (aa 2) (ad (aA dk (ad (aa 0) (ad (ao bD (ad (f2 ixD (aa 1) (fC (.int 0))) (ah))) (ah)))) (ah)))))
noncomputable def m_l_place (K : Frag) (a : Ad) : List D -> M D := aJ 3 (jF K a)
theorem rn (N : Fns K mg a) : FnOk P w K mg base (CXE P w) 3 a.f_l_place a.d_l_place ["_law_bag_here", "_law_grid"] (spF K 2 (m_l_place K a)) := by
 have G_l_pull := jr (P := P) (w := w) (base := base) N
 unfold m_l_place
 exact bu (k := 2) 2 3 (jF K a) N.F_l_place kT rfl rfl fun cdv A outer s H E hr => ak (aM (psS 2 kT.nd (aB G_l_pull (hr.mono (by decide)) (by rfl) N.m_l_pull N.F_l_pull.kp N.b_l_pull aF (ac (ae 0 (pv 0)) (ac (aC aW dX (by rfl) N.n_len PySem.boot_len (ac (ae 1 (pv 1)) (ag))) (ag))) (af (af aN0)))))
   (aq (aL (az (kJ (ac (ae 2 (pv 2)) (ac (aB G_l_pull (hr.mono (by decide)) (by rfl) N.m_l_pull N.F_l_pull.kp N.b_l_pull aF (ac (ae 0 (pv 0)) (ac (aC aW dX (by rfl) N.n_len PySem.boot_len (ac (bz aO bA (ae 1 (pv 1)) (aw)) (ag))) (ag))) (af (af aN0))) (ag)))))))
theorem ef : FnScope ["_law_rowsums_here", "_law_columnsums_here", "_law_found", "_law_one", "_law_other", "_law_both"] ["_law_rowsums_here", "_law_columnsums_here"] (aj oV) := fsc
noncomputable def kA (K : Frag) (a : Ad) : G :=
  ai (aI 2 (fC (.int 1)))
  (ai (bW (aX (aa 0)) (sgN 3) (bW (aX (aa 1)) (sgN 4) (ai (aI 5 (f2 bb (aa 3) (aa 4)))
  (gIf (fB (f2 (gtD) (aa 5) (fC (.int 0)))) (aI 2 (f2 eM (f2 bb (aa 2) (aa 5)) (aA (m_l_gcd K a) (ad (aa 2) (ad (aa 5) (ah)))))) (gNil)))))
  (aE (aa 2)))
noncomputable def m_l_even (K : Frag) (a : Ad) : List D -> M D := aJ 6 (kA K a)
theorem ua (N : Fns K mg a) : FnOk P w K mg base (CXE P w) 3 a.f_l_even a.d_l_even ["_law_rowsums_here", "_law_columnsums_here"] (spF K 2 (m_l_even K a)) := by
 have G_l_gcd := vi (P := P) (w := w) (base := base) N
 unfold m_l_even
 exact bu (k := 2) 2 6 (kA K a) N.F_l_even ef rfl rfl fun cdv A outer s H E hr => ak (aM (psS 2 ef.nd (aw)))
   (ak (bN aS (bv ci rfl (bU (ae 0 (pv 0))) (pgN 3 ef.nd) (aq (bN aS (bv ci rfl (bU (ae 1 (pv 1))) (pgN 4 ef.nd) (ak (aM (psS 5 ef.nd (aR bi bT (ae 3 (pv 3)) (ae 4 (pv 4)))))
   (aq (bI (bc iE kv (ae 5 (pv 5)) (aw)) (aq (aM (psS 2 ef.nd (aR gy jx (aR bi bT (ae 2 (pv 2)) (ae 5 (pv 5))) (aB G_l_gcd (hr.mono (by decide)) (by rfl) N.m_l_gcd N.F_l_gcd.kp N.b_l_gcd aF (ac (ae 2 (pv 2)) (ac (ae 5 (pv 5)) (ag))) (af (af aN0))))))) (bn)))))))))
   (aq (aL (az (ae 2 (pv 2))))))
theorem dh : FnScope ["_law_count", "_law_found", "_law_k"] ["_law_count"] (aj hZ) := fsc
noncomputable def fi (K : Frag) (a : Ad) : G :=
  ai (aI 1 (fC (.int 1)))
  (ai (bW (bC fR (ad (aa 0) (ah))) (sgN 2) (aI 1 (f2 bb (aa 1) (aa 0))))
  (aE (aa 1)))
noncomputable def m_l_self_power (K : Frag) (a : Ad) : List D -> M D := aJ 3 (fi K a)
theorem ls (N : Fns K mg a) : FnOk P w K mg base (CXE P w) 2 a.f_l_self_power a.d_l_self_power ["_law_count"] (spF K 1 (m_l_self_power K a)) := by
 unfold m_l_self_power
 exact bu (k := 1) 1 3 (fi K a) N.F_l_self_power dh rfl rfl fun cdv A outer s H E hr => ak (aM (psS 1 dh.nd (aw)))
   (ak (bN aS (bv ci rfl (d6 (by rfl) N.n_range (ac (ae 0 (pv 0)) (ag))) (pgN 2 dh.nd) (aq (aM (psS 1 dh.nd (aR bi bT (ae 1 (pv 1)) (ae 0 (pv 0))))))))
   (aq (aL (az (ae 1 (pv 1))))))
theorem bM : FnScope ["_law_rowsums_here", "_law_columnsums_here", "_law_columns", "_law_even_here", "_law_found", "_law_to", "_law_column", "_law_at", "_law_count", "_law_both"] ["_law_rowsums_here", "_law_columnsums_here", "_law_columns"] (aj k6) := fsc
noncomputable def iP (K : Frag) (a : Ad) : G :=
  ai (aI 3 (aA (m_l_even K a) (ad (aa 0) (ad (aa 1) (ah)))))
  (ai (aI 4 (fC (.int 0)))
  (ai (bW (jU (ad (aa 2) (ah))) (sgT (db (sgN 5) (db (sgN 6) eZ))) (bW (jU (ad (aa 6) (ah))) (sgT (db (sgN 7) (db (sgN 8) eZ))) (ai (aI 9 (f2 bb (f2 ixD (aa 0) (aa 7)) (f2 ixD (aa 1) (aa 5))))
  (gIf (fB (f2 (gtD) (aa 9) (fC (.int 0)))) (aI 4 (f2 eR (aa 4) (f2 eM (f2 bb (f2 bb (aa 8) (aa 8)) (aa 3)) (aa 9)))) (gNil)))))
  (aE (aa 4))))
noncomputable def m_l_square (K : Frag) (a : Ad) : List D -> M D := aJ 10 (iP K a)
theorem p8 (N : Fns K mg a) : FnOk P w K mg base (CXE P w) 4 a.f_l_square a.d_l_square ["_law_rowsums_here", "_law_columnsums_here", "_law_columns"] (spF K 3 (m_l_square K a)) := by
 have G_l_even := ua (P := P) (w := w) (base := base) N
 unfold m_l_square
 exact bu (k := 3) 3 10 (iP K a) N.F_l_square bM rfl rfl fun cdv A outer s H E hr => ak (aM (psS 3 bM.nd (aB G_l_even (hr.mono (by decide)) (by rfl) N.m_l_even N.F_l_even.kp N.b_l_even aF (ac (ae 0 (pv 0)) (ac (ae 1 (pv 1)) (ag))) (af (af aN0)))))
   (ak (aM (psS 4 bM.nd (aw)))
   (ak (bN (ju (cB aS (cB aS ie)) (cz (cz gv))) (bv ci rfl (jC (by rfl) N.n_enumerate (ac (ae 2 (pv 2)) (ag))) (fJ rfl (bt (pgN 5 bM.nd) (bt (pgN 6 bM.nd) em))) (aq (bN (ju (cB aS (cB aS ie)) (cz (cz gv))) (bv ci rfl (jC (by rfl) N.n_enumerate (ac (ae 6 (pv 6)) (ag))) (fJ rfl (bt (pgN 7 bM.nd) (bt (pgN 8 bM.nd) em))) (ak (aM (psS 9 bM.nd (aR bi bT (bz aO bA (ae 0 (pv 0)) (ae 7 (pv 7))) (bz aO bA (ae 1 (pv 1)) (ae 5 (pv 5))))))
   (aq (bI (bc iE kv (ae 9 (pv 9)) (aw)) (aq (aM (psS 4 bM.nd (aR cc fw (ae 4 (pv 4)) (aR gy jx (aR bi bT (aR bi bT (ae 8 (pv 8)) (ae 8 (pv 8))) (ae 3 (pv 3))) (ae 9 (pv 9))))))) (bn)))))))))
   (aq (aL (az (ae 4 (pv 4)))))))
theorem cR : FnScope ["_law_rowsums_here", "_law_columnsums_here", "_law_columns", "_law_found", "_law_whole", "_law_to", "_law_column", "_law_at", "_law_count", "_law_both"] ["_law_rowsums_here", "_law_columnsums_here", "_law_columns"] (aj qg) := fsc
noncomputable def my (K : Frag) (a : Ad) : G :=
  ai (aI 3 (fC (.int 0)))
  (ai (aI 4 (ao cn (ad (aa 0) (ah))))
  (ai (bW (jU (ad (aa 2) (ah))) (sgT (db (sgN 5) (db (sgN 6) eZ))) (bW (jU (ad (aa 6) (ah))) (sgT (db (sgN 7) (db (sgN 8) eZ))) (ai (aI 9 (f2 bb (f2 ixD (aa 0) (aa 7)) (f2 ixD (aa 1) (aa 5))))
  (aI 3 (f2 eR (aa 3) (ao fY (ad (f2 kl (f2 bb (aa 8) (aa 4)) (aa 9)) (ah))))))))
  (aE (aa 3))))
noncomputable def m_l_off (K : Frag) (a : Ad) : List D -> M D := aJ 10 (my K a)
theorem vh (N : Fns K mg a) : FnOk P w K mg base (CXE P w) 2 a.f_l_off a.d_l_off ["_law_rowsums_here", "_law_columnsums_here", "_law_columns"] (spF K 3 (m_l_off K a)) := by
 unfold m_l_off
 exact bu (k := 1) 3 10 (my K a) N.F_l_off cR rfl rfl fun cdv A outer s H E hr => ak (aM (psS 3 cR.nd (aw)))
   (ak (aM (psS 4 cR.nd (aC (bH rfl) c7 (by rfl) N.n_sum PyProof.Rows.Boot.«sum» (ac (ae 0 (pv 0)) (ag)))))
   (ak (bN (ju (cB aS (cB aS ie)) (cz (cz gv))) (bv ci rfl (jC (by rfl) N.n_enumerate (ac (ae 2 (pv 2)) (ag))) (fJ rfl (bt (pgN 5 cR.nd) (bt (pgN 6 cR.nd) em))) (aq (bN (ju (cB aS (cB aS ie)) (cz (cz gv))) (bv ci rfl (jC (by rfl) N.n_enumerate (ac (ae 6 (pv 6)) (ag))) (fJ rfl (bt (pgN 7 cR.nd) (bt (pgN 8 cR.nd) em))) (ak (aM (psS 9 cR.nd (aR bi bT (bz aO bA (ae 0 (pv 0)) (ae 7 (pv 7))) (bz aO bA (ae 1 (pv 1)) (ae 5 (pv 5))))))
   (aq (aM (psS 3 cR.nd (aR cc fw (ae 3 (pv 3)) (aC kE ya (by rfl) N.n_abs PyProof.Rows.Boot.«abs» (ac (aR o5 rG (aR bi bT (ae 8 (pv 8)) (ae 4 (pv 4))) (ae 9 (pv 9))) (ag)))))))))))))
   (aq (aL (az (ae 3 (pv 3)))))))
theorem eB : FnScope ["_law_kind_here", "_law_rowsums_here", "_law_columnsums_here", "_law_where", "_law_columns", "_law_found", "_law_column", "_law_count"] ["_law_kind_here", "_law_rowsums_here", "_law_columnsums_here", "_law_where", "_law_columns"] (aj mZ) := fsc
noncomputable def jE (K : Frag) (a : Ad) : G :=
  ai (gIf (fB (f2 (cM) (aa 0) (fC (.str (Str.ofString "rare"))))) (aE (aA (m_l_weight K a) (ad (aa 4) (ah)))) (gNil))
  (ai (gIf (fB (f2 (cM) (aa 0) (fC (.str (Str.ofString "square"))))) (aE (aA (m_l_square K a) (ad (aa 1) (ad (aa 2) (ad (aa 4) (ah)))))) (gNil))
  (ai (gIf (fB (f2 (cM) (aa 0) (fC (.str (Str.ofString "off"))))) (aE (aA (m_l_off K a) (ad (aa 1) (ad (aa 2) (ad (aa 4) (ah)))))) (gNil))
  (ai (gIf (fB (f2 (bY) (aa 0) (fC (.str (Str.ofString "power"))))) (aE (f2 ixD (f2 ixD (aa 4) (f2 ixD (aa 3) (fC (.int 1)))) (f2 ixD (aa 3) (fC (.int 0))))) (gNil))
  (ai (aI 5 (fC (.int 1)))
  (ai (bW (aX (aa 4)) (sgN 6) (bW (aX (aa 6)) (sgN 7) (aI 5 (f2 bb (aa 5) (aA (m_l_self_power K a) (ad (aa 7) (ah)))))))
  (aE (aa 5)))))))
noncomputable def m_l_value (K : Frag) (a : Ad) : List D -> M D := aJ 8 (jE K a)
theorem rm (N : Fns K mg a) : FnOk P w K mg base (CXE P w) 5 a.f_l_value a.d_l_value ["_law_kind_here", "_law_rowsums_here", "_law_columnsums_here", "_law_where", "_law_columns"] (spF K 5 (m_l_value K a)) := by
 have G_l_weight := p7 (P := P) (w := w) (base := base) N
 have G_l_square := p8 (P := P) (w := w) (base := base) N
 have G_l_off := vh (P := P) (w := w) (base := base) N
 have G_l_self_power := ls (P := P) (w := w) (base := base) N
 unfold m_l_value
 exact bu (k := 4) 5 8 (jE K a) N.F_l_value eB rfl rfl fun cdv A outer s H E hr => ak (bI (bc (fM hr) gR (ae 0 (pv 0)) (bR)) (aq (aL (az (aB G_l_weight (hr.mono (by decide)) (by rfl) N.m_l_weight N.F_l_weight.kp N.b_l_weight aF (ac (ae 4 (pv 4)) (ag)) (af aN0))))) (bn))
   (ak (bI (bc (fM hr) gR (ae 0 (pv 0)) (bR)) (aq (aL (az (aB G_l_square (hr.mono (by decide)) (by rfl) N.m_l_square N.F_l_square.kp N.b_l_square aF (ac (ae 1 (pv 1)) (ac (ae 2 (pv 2)) (ac (ae 4 (pv 4)) (ag)))) (af (af (af aN0))))))) (bn))
   (ak (bI (bc (fM hr) gR (ae 0 (pv 0)) (bR)) (aq (aL (az (aB G_l_off (hr.mono (by decide)) (by rfl) N.m_l_off N.F_l_off.kp N.b_l_off aF (ac (ae 1 (pv 1)) (ac (ae 2 (pv 2)) (ac (ae 4 (pv 4)) (ag)))) (af (af (af aN0))))))) (bn))
   (ak (bI (bc (eD hr) f9 (ae 0 (pv 0)) (bR)) (aq (aL (az (bz aO bA (bz aO bA (ae 4 (pv 4)) (bz aO bA (ae 3 (pv 3)) (aw))) (bz aO bA (ae 3 (pv 3)) (aw)))))) (bn))
   (ak (aM (psS 5 eB.nd (aw)))
   (ak (bN aS (bv ci rfl (bU (ae 4 (pv 4))) (pgN 6 eB.nd) (aq (bN aS (bv ci rfl (bU (ae 6 (pv 6))) (pgN 7 eB.nd) (aq (aM (psS 5 eB.nd (aR bi bT (ae 5 (pv 5)) (aB G_l_self_power (hr.mono (by decide)) (by rfl) N.m_l_self_power N.F_l_self_power.kp N.b_l_self_power aF (ac (ae 7 (pv 7)) (ag)) (af aN0)))))))))))
   (aq (aL (az (ae 5 (pv 5))))))))))
theorem cS : FnScope ["_law_bag_here", "_law_block", "_law_columns", "_law_left", "_law_utmost", "_law_grid", "_law_at", "_law_to"] ["_law_bag_here"] (aj qj) := fsc
noncomputable def mB (K : Frag) (a : Ad) : G :=
  ai (aI 1 (f2 eR (fC (.int 1)) (aA dk (ad (aa 0) (ad (fC (.int 4)) (ah))))))
  (ai (aI 2 (f2 eR (fC (.int 1)) (aA dk (ad (aa 0) (ad (fC (.int 6)) (ah))))))
  (ai (aI 3 (aA dk (ad (aa 0) (ad (fC (.int 41)) (ah)))))
  (ai (aI 4 (f2 ixD (ao cU (ad (fC (.int 12)) (ad (fC (.int 12)) (ad (fC (.int 12)) (ad (fC (.int 12)) (ad (fC (.int 12)) (ad (fC (.int 40)) (ah)))))))) (aA dk (ad (aa 0) (ad (fC (.int 6)) (ah))))))
  (ai (kB 5 (il 1 [2] (bC fR (ad (aa 1) (ah))) (tgC 0) (fun _ => M.ret true) (pL (rp (ad (fC (.int 0)) (ah)) (aa 1)))))
  (ai (bW (bC fR (ad (aa 1) (ah))) (sgN 6) (bW (bC fR (ad (aa 2) (ah))) (sgN 7) (ai (iQ 5 (aa 6) (aa 7) (aA dk (ad (aa 0) (ad (f2 eR (ao pe (ad (aa 3) (ad (aa 4) (ah)))) (fC (.int 1))) (ah)))))
  (eK 3 (f2 kl (aa 3) (f2 ixD (f2 ixD (aa 5) (aa 6)) (aa 7)))))))
  (aE (aa 5)))))))
noncomputable def m_l_any (K : Frag) (a : Ad) : List D -> M D := aJ 8 (mB K a)
theorem vm (N : Fns K mg a) : FnOk P w K mg base (CXE P w) 3 a.f_l_any a.d_l_any ["_law_bag_here"] (spF K 1 (m_l_any K a)) := by
 have G_l_pull := jr (P := P) (w := w) (base := base) N
 unfold m_l_any
 exact bu (k := 2) 1 8 (mB K a) N.F_l_any cS rfl rfl fun cdv A outer s H E hr => ak (aM (psS 1 cS.nd (aR cc fw (aw) (aB G_l_pull (hr.mono (by decide)) (by rfl) N.m_l_pull N.F_l_pull.kp N.b_l_pull aF (ac (ae 0 (pv 0)) (ac (aw) (ag))) (af (af aN0))))))
   (ak (aM (psS 2 cS.nd (aR cc fw (aw) (aB G_l_pull (hr.mono (by decide)) (by rfl) N.m_l_pull N.F_l_pull.kp N.b_l_pull aF (ac (ae 0 (pv 0)) (ac (aw) (ag))) (af (af aN0))))))
   (ak (aM (psS 3 cS.nd (aB G_l_pull (hr.mono (by decide)) (by rfl) N.m_l_pull N.F_l_pull.kp N.b_l_pull aF (ac (ae 0 (pv 0)) (ac (aw) (ag))) (af (af aN0)))))
   (ak (aM (psS 4 cS.nd (bz aO bA (qW (ac (aw) (ac (aw) (ac (aw) (ac (aw) (ac (aw) (ac (aw) (ag)))))))) (aB G_l_pull (hr.mono (by decide)) (by rfl) N.m_l_pull N.F_l_pull.kp N.b_l_pull aF (ac (ae 0 (pv 0)) (ac (aw) (ag))) (af (af aN0))))))
   (ak (z5 (i := 5) cS.nd rfl (by first | exact Or.inl rfl | exact Or.inr rfl) rfl (CmpScope.ofB (Nc := ["_law_at", "_law_columns"]) (vars := ["_law_at"]) (caps := [2]) rfl (by decide +kernel) (by rfl) (by rfl) (by rfl)) (d6 (by rfl) N.n_range (ac (ae 1 (pv 1)) (ag))) (fun cl C fp s H => ⟨(pgN 0 (show (["_law_at", "_law_columns"] : List Str).Nodup by decide +kernel)), cx, fun D => bG rfl (Cy (ac (aw) (ag)) (ae 1 (pv 1))) rfl⟩) ba bp (fun D => za))
   (ak (bN aS (bv ci rfl (d6 (by rfl) N.n_range (ac (ae 1 (pv 1)) (ag))) (pgN 6 cS.nd) (aq (bN aS (bv ci rfl (d6 (by rfl) N.n_range (ac (ae 2 (pv 2)) (ag))) (pgN 7 cS.nd) (ak (oW (ib (aB G_l_pull (hr.mono (by decide)) (by rfl) N.m_l_pull N.F_l_pull.kp N.b_l_pull aF (ac (ae 0 (pv 0)) (ac (aR cc fw (aC (uG rfl) CC (by rfl) N.n_min PyProof.Rows.Boot.«min» (ac (ae 3 (pv 3)) (ac (ae 4 (pv 4)) (ag)))) (aw)) (ag))) (af (af aN0))) (ic (fu c8 (pv 5) (ae 6 (pv 6)) (fun _ _ => rfl)) (ae 7 (pv 7)) e8)))
   (aq (zZ (psS 3 cS.nd (aR o5 rG (ae 3 (pv 3)) (bz aO bA (bz aO bA (ae 5 (pv 5)) (ae 6 (pv 6))) (ae 7 (pv 7)))))))))))))
   (aq (aL (az (ae 5 (pv 5))))))))))
theorem i9 : FnScope ["self", "kind", "rowsums", "columnsums", "place"] ["self", "kind", "rowsums", "columnsums", "place"] (aj fG) := fsc
noncomputable def lF (K : Frag) (a : Ad) : IP :=
  iJ (dn (aA (m_check_sums K a) (ad (aa 2) (ad (aa 3) (ah)))))
  (iJ (gIf (fB (f2 (inD true) (aa 1) (fC (.tup [.str (Str.ofString "rare"), .str (Str.ofString "square"), .str (Str.ofString "power"), .str (Str.ofString "off"), .str (Str.ofString "most"), .str (Str.ofString "least")])))) (bJ a.C_BadRule (ad (cD (yc (aa 1) (dm))) (ah))) (gNil))
  (iJ (gIf (fB (f2 (inD false) (aa 1) (fC (.tup [.str (Str.ofString "most"), .str (Str.ofString "least")])))) (dn (aA (m_check_cell K a) (ad (f2 ixD (aa 4) (fC (.int 0))) (ad (f2 ixD (aa 4) (fC (.int 1))) (ad (ao bD (ad (aa 2) (ah))) (ad (ao bD (ad (aa 3) (ah))) (ah))))))) (gNil))
  (gb (fNL (aa 1))
  (gb (fON (lw jX (ad (aa 2) (ah))))
  (gb (fON (lw jX (ad (aa 3) (ah))))
  (gb (fNL (aa 4))
  (gb (fNL (aA (m_least_common K a) (ad (aU 2 [3] (aX (aa 2)) (tgC 0) (fun _ => M.ret true) (cNx (aX (aa 2)) (tgC 1) (fB (f2 (gtD) (f2 bb (aa 0) (aa 1)) (fC (.int 0)))) (cEm (f2 bb (aa 0) (aa 1))))) (ah))))
  (yf))))))))
noncomputable def eE (K : Frag) (a : Ad) : List D -> M (List D) := jZ 5 (lF K a)
theorem p0 (N : Fns K mg a) : FnOk P w K mg base (CXE P w) 6 a.f_Measure___init__ a.d_Measure___init__ ["self", "kind", "rowsums", "columnsums", "place"] (oM K a.C_Measure ["kind", "row_list", "column_list", "place", "even"] 4 (eE K a)) := by
 have G_least_common := lr (P := P) (w := w) (base := base) N
 have G_check_cell := nP (P := P) (w := w) (base := base) N
 have G_check_sums := nN (P := P) (w := w) (base := base) N
 have X_BadRule := pY (P := P) (w := w) (base := base) N
 unfold eE
 exact vL (k := 5) 4 5 (lF K a) N.F_Measure___init__ i9 rfl rfl fun cdv A outer s H E hr => pw (k8 (dH (aB G_check_sums (hr.mono (by decide)) (by rfl) N.m_check_sums N.F_check_sums.kp N.b_check_sums aF (ac (ae 2 (pv 2)) (ac (ae 3 (pv 3)) (ag))) (af (af aN0)))))
   (pw (bI (bc jq (mt (neg := true)) (ae 1 (pv 1)) (gh N.g_KINDS)) (aq (eh N.xm_BadRule.xc (af aN0) (by decide) (dr hr.hd (fK N.xm_BadRule X_BadRule (hr.mono (by decide)) rfl N.m_BadRule N.b_BadRule .nil di (ac (gs (c := ((Str.ofString "there is no measure ").length + (100 + 0))) (dJ (CJ (ae 1 (pv 1)) (iI))) (by decide +kernel)) (ag)))))) (bn))
   (pw (bI (bc gP (mt (neg := false)) (ae 1 (pv 1)) (gh N.g_BY_PLACE)) (aq (k8 (dH (aB G_check_cell (hr.mono (by decide)) (by rfl) N.m_check_cell N.F_check_cell.kp N.b_check_cell aF (ac (bz aO bA (ae 4 (pv 4)) (aw)) (ac (bz aO bA (ae 4 (pv 4)) (aw)) (ac (aC aW dX (by rfl) N.n_len PySem.boot_len (ac (ae 2 (pv 2)) (ag))) (ac (aC aW dX (by rfl) N.n_len PySem.boot_len (ac (ae 3 (pv 3)) (ag))) (ag))))) (af (af (af (af aN0)))))))) (bn))
   (jB N.cl_Measure N.na_Measure_kind (by decide) (by decide) (jm (pv 0) (pa (ae 1 (pv 1))) rfl)
   (jB N.cl_Measure N.na_Measure_row_list (by decide) (by decide) (jm (pv 0) (xX (iG dD jW (by rfl) N.n_list PyProof.Rows.Boot.«list» (ac (ae 2 (pv 2)) (ag)))) rfl)
   (jB N.cl_Measure N.na_Measure_column_list (by decide) (by decide) (jm (pv 0) (xX (iG dD jW (by rfl) N.n_list PyProof.Rows.Boot.«list» (ac (ae 3 (pv 3)) (ag)))) rfl)
   (jB N.cl_Measure N.na_Measure_place (by decide) (by decide) (jm (pv 0) (pa (ae 4 (pv 4))) rfl)
   (jB N.cl_Measure N.na_Measure_even (by decide) (by decide) (jm (pv 0) (pa (aB G_least_common (hr.mono (by decide)) (by rfl) N.m_least_common N.F_least_common.kp N.b_least_common aF (ac (cI rfl (CmpScope.ofB (Nc := ["across", "down", "columnsums"]) (vars := ["across", "down"]) (caps := [3]) rfl (by decide +kernel) (by rfl) (by rfl) (by rfl)) (bU (ae 2 (pv 2))) (fun cl C fp s H => ⟨(pgN 0 (show (["across", "down", "columnsums"] : List Str).Nodup by decide +kernel)), cx, fun D => yQ rfl rfl rfl (bU (ae 2 (pv 2))) (pgN 1 (show (["across", "down", "columnsums"] : List Str).Nodup by decide +kernel)) (yh (bc iE kv (aR bi bT (ae 0 (pv 0)) (ae 1 (pv 1))) (aw))) (bG rfl (aR bi bT (ae 0 (pv 0)) (ae 1 (pv 1))) rfl)⟩) ba bp (fun D => ze ba bp (bS))) (ag)) (af aN0))) rfl)
   (AQ))))))))
theorem km : FnScope ["self"] ["self"] (aj gM) := fsc
noncomputable def eJ (K : Frag) (a : Ad) : G :=
  aE (fIf (fB (f2 (inD false) (f1 (cK a.C_Measure "kind") (aa 0)) (fC (.tup [.str (Str.ofString "rare"), .str (Str.ofString "power")])))) (fC (.int 1)) (fC (.int 0)))
noncomputable def dj (K : Frag) (a : Ad) : List D -> M D := aJ 1 (eJ K a)
theorem kr (N : Fns K mg a) : FnOk P w K mg base (CXE P w) 2 a.f_Measure_begun a.d_Measure_begun ["self"] (spF K 1 (dj K a)) := by
 unfold dj
 exact bu (k := 1) 1 1 (eJ K a) N.F_Measure_begun km rfl rfl fun cdv A outer s H E hr => aq (aL (az (uM (bc gP (mt (neg := false)) (dQ N.cl_Measure N.na_Measure_kind (ae 0 (pv 0))) (gh N.g_BY_PRODUCT)) (aw) (aw))))
theorem i8 : FnScope ["self", "one", "other"] ["self", "one", "other"] (aj fF) := fsc
noncomputable def dA (K : Frag) (a : Ad) : G :=
  aE (fIf (fB (f2 (inD false) (f1 (cK a.C_Measure "kind") (aa 0)) (fC (.tup [.str (Str.ofString "rare"), .str (Str.ofString "power")])))) (f2 bb (aa 1) (aa 2)) (f2 eR (aa 1) (aa 2)))
noncomputable def bO (K : Frag) (a : Ad) : List D -> M D := aJ 3 (dA K a)
theorem jc (N : Fns K mg a) : FnOk P w K mg base (CXE P w) 2 a.f_Measure_together a.d_Measure_together ["self", "one", "other"] (spF K 3 (bO K a)) := by
 unfold bO
 exact bu (k := 1) 3 3 (dA K a) N.F_Measure_together i8 rfl rfl fun cdv A outer s H E hr => aq (aL (az (uM (bc gP (mt (neg := false)) (dQ N.cl_Measure N.na_Measure_kind (ae 0 (pv 0))) (gh N.g_BY_PRODUCT)) (aR bi bT (ae 1 (pv 1)) (ae 2 (pv 2))) (aR cc fw (ae 1 (pv 1)) (ae 2 (pv 2))))))
theorem gJ : FnScope ["self", "column", "counts", "products"] ["self", "column", "counts"] (aj h9) := fsc
noncomputable def fj (K : Frag) (a : Ad) : G :=
  ai (gIf (fB (f2 (cM) (f1 (cK a.C_Measure "kind") (aa 0)) (fC (.str (Str.ofString "rare"))))) (aE (aA (m_ways K a) (ad (aa 2) (ah)))) (gNil))
  (ai (gIf (fB (f2 (cM) (f1 (cK a.C_Measure "kind") (aa 0)) (fC (.str (Str.ofString "power"))))) (aE (aA (m_power_part K a) (ad (aa 2) (ah)))) (gNil))
  (ai (gIf (fB (f2 (inD false) (f1 (cK a.C_Measure "kind") (aa 0)) (fC (.tup [.str (Str.ofString "most"), .str (Str.ofString "least")])))) (aE (fIf (fB (f2 (cM) (aa 1) (f2 ixD (f1 (cK a.C_Measure "place") (aa 0)) (fC (.int 1))))) (f2 ixD (aa 2) (f2 ixD (f1 (cK a.C_Measure "place") (aa 0)) (fC (.int 0)))) (fC (.int 0)))) (gNil))
  (ai (aI 3 (aU 1 [0, 1] (aX (f1 (cK a.C_Measure "row_list") (aa 0))) (tgC 0) (fun _ => M.ret true) (cEm (f2 bb (aa 0) (f2 ixD (f1 (cK a.C_Measure "column_list") (aa 1)) (aa 2))))))
  (ai (gIf (fB (f2 (cM) (f1 (cK a.C_Measure "kind") (aa 0)) (fC (.str (Str.ofString "square"))))) (aE (aA (m_square_part K a) (ad (aa 2) (ad (aa 3) (ad (f1 (cK a.C_Measure "even") (aa 0)) (ah)))))) (gNil))
  (aE (aA (m_off_part K a) (ad (aa 2) (ad (aa 3) (ad (ao cn (ad (f1 (cK a.C_Measure "row_list") (aa 0)) (ah))) (ah))))))))))
noncomputable def dI (K : Frag) (a : Ad) : List D -> M D := aJ 4 (fj K a)
theorem lv (N : Fns K mg a) : FnOk P w K mg base (CXE P w) 5 a.f_Measure_part a.d_Measure_part ["self", "column", "counts"] (spF K 3 (dI K a)) := by
 have G_ways := yX (P := P) (w := w) (base := base) N
 have G_power_part := nM (P := P) (w := w) (base := base) N
 have G_square_part := ma (P := P) (w := w) (base := base) N
 have G_off_part := p6 (P := P) (w := w) (base := base) N
 unfold dI
 exact bu (k := 4) 3 4 (fj K a) N.F_Measure_part gJ rfl rfl fun cdv A outer s H E hr => ak (bI (bc (fM hr) gR (dQ N.cl_Measure N.na_Measure_kind (ae 0 (pv 0))) (bR)) (aq (aL (az (aB G_ways (hr.mono (by decide)) (by rfl) N.m_ways N.F_ways.kp N.b_ways aF (ac (ae 2 (pv 2)) (ag)) (af aN0))))) (bn))
   (ak (bI (bc (fM hr) gR (dQ N.cl_Measure N.na_Measure_kind (ae 0 (pv 0))) (bR)) (aq (aL (az (aB G_power_part (hr.mono (by decide)) (by rfl) N.m_power_part N.F_power_part.kp N.b_power_part aF (ac (ae 2 (pv 2)) (ag)) (af aN0))))) (bn))
   (ak (bI (bc gP (mt (neg := false)) (dQ N.cl_Measure N.na_Measure_kind (ae 0 (pv 0))) (gh N.g_BY_PLACE)) (aq (aL (az (uM (bc (fM hr) gR (ae 1 (pv 1)) (bz aO bA (dQ N.cl_Measure N.na_Measure_place (ae 0 (pv 0))) (aw))) (bz aO bA (ae 2 (pv 2)) (bz aO bA (dQ N.cl_Measure N.na_Measure_place (ae 0 (pv 0))) (aw))) (aw))))) (bn))
   (ak (z0 (i := 3) gJ.nd rfl (by first | exact Or.inl rfl | exact Or.inr rfl) rfl (CmpScope.ofB (Nc := ["across", "self", "column"]) (vars := ["across"]) (caps := [0, 1]) rfl (by decide +kernel) (by rfl) (by rfl) (by rfl)) (bU (dQ N.cl_Measure N.na_Measure_row_list (ae 0 (pv 0)))) (fun cl C fp s H => ⟨(pgN 0 (show (["across", "self", "column"] : List Str).Nodup by decide +kernel)), cx, fun D => bG rfl (aR bi bT (ae 0 (pv 0)) (bz aO bA (dQ N.cl_Measure N.na_Measure_column_list (ae 1 (pv 1))) (ae 2 (pv 2)))) rfl⟩) ba bp (fun D => bS))
   (ak (bI (bc (fM hr) gR (dQ N.cl_Measure N.na_Measure_kind (ae 0 (pv 0))) (bR)) (aq (aL (az (aB G_square_part (hr.mono (by decide)) (by rfl) N.m_square_part N.F_square_part.kp N.b_square_part aF (ac (ae 2 (pv 2)) (ac (ae 3 (pv 3)) (ac (dQ N.cl_Measure N.na_Measure_even (ae 0 (pv 0))) (ag)))) (af (af (af aN0))))))) (bn))
   (aq (aL (az (aB G_off_part (hr.mono (by decide)) (by rfl) N.m_off_part N.F_off_part.kp N.b_off_part aF (ac (ae 2 (pv 2)) (ac (ae 3 (pv 3)) (ac (aC (bH rfl) c7 (by rfl) N.n_sum PyProof.Rows.Boot.«sum» (ac (dQ N.cl_Measure N.na_Measure_row_list (ae 0 (pv 0))) (ag))) (ag)))) (af (af (af aN0)))))))))))
theorem c5 : FnScope ["self", "rows", "gathered", "column", "counts"] ["self", "rows"] (aj jl) := fsc
noncomputable def gD (K : Frag) (a : Ad) : G :=
  ai (aI 2 (eN a.C_Measure "begun" (dj K a) (aa 0) ah []))
  (ai (bW (jU (ad (aA (m_rows_turned K a) (ad (aa 1) (ah))) (ah))) (sgT (db (sgN 3) (db (sgN 4) eZ))) (aI 2 (eN a.C_Measure "together" (bO K a) (aa 0) (ad (aa 2) (ad (eN a.C_Measure "part" (dI K a) (aa 0) (ad (aa 3) (ad (aa 4) (ah))) []) (ah))) [])))
  (aE (aa 2)))
noncomputable def cJ (K : Frag) (a : Ad) : List D -> M D := aJ 5 (gD K a)
theorem nQ (N : Fns K mg a) : FnOk P w K mg base (CXE P w) 6 a.f_Measure_of a.d_Measure_of ["self", "rows"] (spF K 2 (cJ K a)) := by
 have G_Measure_begun := kr (P := P) (w := w) (base := base) N
 have G_rows_turned := md (P := P) (w := w) (base := base) N
 have G_Measure_part := lv (P := P) (w := w) (base := base) N
 have G_Measure_together := jc (P := P) (w := w) (base := base) N
 unfold cJ
 exact bu (k := 5) 2 5 (gD K a) N.F_Measure_of c5 rfl rfl fun cdv A outer s H E hr => ak (aM (psS 2 c5.nd (yv N.cl_Measure N.mt_Measure_begun G_Measure_begun (hr.mono (by decide)) (dO.nil N.b_Measure_begun) aF (ae 0 (pv 0)) rfl)))
   (ak (bN (ju (cB aS (cB aS ie)) (cz (cz gv))) (bv ci rfl (jC (by rfl) N.n_enumerate (ac (aB G_rows_turned (hr.mono (by decide)) (by rfl) N.m_rows_turned N.F_rows_turned.kp N.b_rows_turned aF (ac (ae 1 (pv 1)) (ag)) (af aN0)) (ag))) (fJ rfl (bt (pgN 3 c5.nd) (bt (pgN 4 c5.nd) em))) (aq (aM (psS 2 c5.nd (je N.cl_Measure N.mt_Measure_together G_Measure_together (hr.mono (by decide)) (dO.nil N.b_Measure_together) aF (ae 0 (pv 0)) (ac (ae 2 (pv 2)) (ac (je N.cl_Measure N.mt_Measure_part G_Measure_part (hr.mono (by decide)) (dO.nil N.b_Measure_part) aF (ae 0 (pv 0)) (ac (ae 3 (pv 3)) (ac (ae 4 (pv 4)) (ag))) (fun δ β r β' h => by rw [(af (af aN0)) δ β r β' h]; rfl)) (ag))) (fun δ β r β' h => by rw [(af (af aN0)) δ β r β' h]; rfl)))))))
   (aq (aL (az (ae 2 (pv 2))))))
theorem cw : FnScope ["_law_script", "_law_bag_here", "_law_block", "_law_where", "_law_kind_here", "_law_other", "_law_rowsums_here", "_law_columnsums_here", "_law_handed", "_law_one", "_law_two", "_law_columns", "_law_due", "_law_told"] ["_law_script"] (aj kX) := fsc
noncomputable def lK (K : Frag) (a : Ad) : G :=
  ai (aI 2 (aA (m_l_any K a) (ad (aa 1) (ah))))
  (ai (aI 3 (aA (m_l_place K a) (ad (aa 1) (ad (aa 2) (ah)))))
  (ai (aI 4 (aA (m_l_kind K a) (ad (aa 1) (ah))))
  (ai (aI 5 (aA (m_l_kind K a) (ad (aa 1) (ah))))
  (ai (gIf (cX (dB (aA (m_l_same K a 5) (ad (fC (.tup [.str (Str.ofString "rare"), .str (Str.ofString "square"), .str (Str.ofString "power"), .str (Str.ofString "off"), .str (Str.ofString "most"), .str (Str.ofString "least")])) (ad (ao bX (ad (fC (.str (Str.ofString "rare"))) (ad (fC (.str (Str.ofString "square"))) (ad (fC (.str (Str.ofString "power"))) (ad (fC (.str (Str.ofString "off"))) (ad (fC (.str (Str.ofString "most"))) (ad (fC (.str (Str.ofString "least"))) (ah)))))))) (ah)))))) (aE (fC (.bl false))) (gNil))
  (ai (aI 6 (aA (m_l_rowsums K a) (ad (aa 2) (ah))))
  (ai (aI 7 (aA (m_l_columnsums K a) (ad (aa 2) (ah))))
  (ai (kB 8 (rO (lw jX (ad (aa 6) (ah))) (lw jX (ad (aa 7) (ah)))))
  (ai (j0 9 (pE a.C_Measure ["kind", "row_list", "column_list", "place", "even"] (eE K a) (ad (aa 4) (ad (f2 ixD (aa 8) (fC (.int 0))) (ad (f2 ixD (aa 8) (fC (.int 1))) (ah)))) (ad (aa 3) (ah)) [.kw 0]))
  (ai (j0 10 (oj a.C_Measure ["kind", "row_list", "column_list", "place", "even"] (eE K a) (ad (aa 5) (ad (f2 ixD (aa 8) (fC (.int 0))) (ad (f2 ixD (aa 8) (fC (.int 1))) (ah)))) [.tup [.int 0, .int 0]]))
  (ai (gIf (fB (f2 (bY) (aa 8) (ao cU (ad (aa 6) (ad (aa 7) (ah)))))) (aE (fC (.bl false))) (gNil))
  (ai (iQ 8 (fC (.int 0)) (fC (.int 0)) (f2 eR (f2 ixD (f2 ixD (aa 8) (fC (.int 0))) (fC (.int 0))) (fC (.int 1))))
  (ai (iQ 8 (fC (.int 1)) (fC (.int 0)) (f2 eR (f2 ixD (f2 ixD (aa 8) (fC (.int 1))) (fC (.int 0))) (fC (.int 1))))
  (ai (aI 11 (aA (m_l_turned K a) (ad (aa 2) (ah))))
  (ai (aI 12 (aA (m_l_value K a) (ad (aa 4) (ad (aa 6) (ad (aa 7) (ad (aa 3) (ad (aa 11) (ah))))))))
  (ai (aI 13 (aA (m_l_copied K a) (ad (aa 2) (ah))))
  (ai (gIf (de (cX (dB (aA (m_l_same K a 5) (ad (eN a.C_Measure "of" (cJ K a) (aa 9) (ad (aa 13) (ah)) []) (ad (aa 12) (ah)))))) (fB (f2 (bY) (aa 13) (aa 2)))) (aE (fC (.bl false))) (gNil))
  (ai (gIf (cX (dB (aA (m_l_same K a 5) (ad (eN a.C_Measure "of" (cJ K a) (aa 10) (ad (aa 13) (ah)) []) (ad (aA (m_l_value K a) (ad (aa 5) (ad (aa 6) (ad (aa 7) (ad (ao bX (ad (fC (.int 0)) (ad (fC (.int 0)) (ah)))) (ad (aa 11) (ah))))))) (ah)))))) (aE (fC (.bl false))) (gNil))
  (aE (aA (m_l_same K a 5) (ad (eN a.C_Measure "of" (cJ K a) (aa 9) (ad (aa 13) (ah)) []) (ad (aa 12) (ah))))))))))))))))))))))
theorem AB {f : Addr} {fd : FuncData} (F : FunD K "law" "law" kX f fd) (N : Fns K mg a) (T : ∀ β : Bg, β.ok -> ∃ β', lK K a [none, some (.sh .bag), none, none, none, none, none, none, none, none, none, none, none, none] β = some (.rt (.bl true), β')) :
  FnOk P w K mg base (CXE P w) 8 f fd ["_law_script"] (xM K) := by
 have G_l_bag := vj (P := P) (w := w) (base := base) N
 have G_l_any := vm (P := P) (w := w) (base := base) N
 have G_l_place := rn (P := P) (w := w) (base := base) N
 have G_l_kind := t8 (P := P) (w := w) (base := base) N
 have G_l_same := t7 (P := P) (w := w) (base := base) N
 have G_l_rowsums := o6 (P := P) (w := w) (base := base) N
 have G_l_columnsums := lu (P := P) (w := w) (base := base) N
 have GI_Measure := p0 (P := P) (w := w) (base := base) N
 have G_l_turned := ke (P := P) (w := w) (base := base) N
 have G_l_value := rm (P := P) (w := w) (base := base) N
 have G_l_copied := p9 (P := P) (w := w) (base := base) N
 have G_Measure_of := nQ (P := P) (w := w) (base := base) N
 refine F.okE (k := 7) cw (fun vs H Q E h => ?_) (fun cdv A outer s H vs Q E hr h => ?_)
 ·obtain ⟨a, ns, rfl, _⟩ := h
  rfl
 ·obtain ⟨a1, ns, rfl, hS, hlen, k⟩ := h
  have rest : PSs (cN (CXE P w) P w K mg base ["_law_script", "_law_bag_here", "_law_block", "_law_where", "_law_kind_here", "_law_other", "_law_rowsums_here", "_law_columnsums_here", "_law_handed", "_law_one", "_law_two", "_law_columns", "_law_due", "_law_told"] "law" (aj kX) f cdv A outer s H E) (cg kX).tail (tG K H (lK K a) (fun _ => E)) := ak (aM (psS 2 cw.nd (aB G_l_any (hr.mono (by decide)) (by rfl) N.m_l_any N.F_l_any.kp N.b_l_any aF (ac (ae 1 (pv 1)) (ag)) (af aN0))))
   (ak (aM (psS 3 cw.nd (aB G_l_place (hr.mono (by decide)) (by rfl) N.m_l_place N.F_l_place.kp N.b_l_place aF (ac (ae 1 (pv 1)) (ac (ae 2 (pv 2)) (ag))) (af (af aN0)))))
   (ak (aM (psS 4 cw.nd (aB G_l_kind (hr.mono (by decide)) (by rfl) N.m_l_kind N.F_l_kind.kp N.b_l_kind aF (ac (ae 1 (pv 1)) (ag)) (af aN0))))
   (ak (aM (psS 5 cw.nd (aB G_l_kind (hr.mono (by decide)) (by rfl) N.m_l_kind N.F_l_kind.kp N.b_l_kind aF (ac (ae 1 (pv 1)) (ag)) (af aN0))))
   (ak (bI (jP (jO (aB G_l_same (hr.mono (by decide)) (by rfl) N.m_l_same N.F_l_same.kp N.b_l_same aF (ac (gh N.g_KINDS) (ac (kJ (ac (bR) (ac (bR) (ac (bR) (ac (bR) (ac (bR) (ac (bR) (ag)))))))) (ag))) (af (af aN0))))) (aq (aL (az (jf)))) (bn))
   (ak (aM (psS 6 cw.nd (aB G_l_rowsums (hr.mono (by decide)) (by rfl) N.m_l_rowsums N.F_l_rowsums.kp N.b_l_rowsums aF (ac (ae 2 (pv 2)) (ag)) (af aN0))))
   (ak (aM (psS 7 cw.nd (aB G_l_columnsums (hr.mono (by decide)) (by rfl) N.m_l_columnsums N.F_l_columnsums.kp N.b_l_columnsums aF (ac (ae 2 (pv 2)) (ag)) (af aN0))))
   (ak (xN (psS 8 cw.nd (CO (iG dD jW (by rfl) N.n_list PyProof.Rows.Boot.«list» (ac (ae 6 (pv 6)) (ag))) (iG dD jW (by rfl) N.n_list PyProof.Rows.Boot.«list» (ac (ae 7 (pv 7)) (ag))))))
   (ak (tN (psS 9 cw.nd (y8 N.mk_Measure GI_Measure (hr.mono (by decide)) (by rfl) N.m_Measure N.kb_place_Measure___init__ aF (ac (ae 4 (pv 4)) (ac (bz aO bA (ae 8 (pv 8)) (aw)) (ac (bz aO bA (ae 8 (pv 8)) (aw)) (ag)))) (yq (ae 3 (pv 3)) (zF)) (af (af (af aN0))) (af aN0) rfl)))
   (ak (tN (psS 10 cw.nd (AD N.mk_Measure GI_Measure (hr.mono (by decide)) (by rfl) N.m_Measure N.bd_Measure___init__ aF (ac (ae 5 (pv 5)) (ac (bz aO bA (ae 8 (pv 8)) (aw)) (ac (bz aO bA (ae 8 (pv 8)) (aw)) (ag)))) (fun δ β r β' h => by rw [(af (af (af aN0))) δ β r β' h]; rfl))))
   (ak (bI (bc (eD hr) f9 (ae 8 (pv 8)) (qW (ac (ae 6 (pv 6)) (ac (ae 7 (pv 7)) (ag))))) (aq (aL (az (jf)))) (bn))
   (ak (oW (ib (aR cc fw (bz aO bA (bz aO bA (ae 8 (pv 8)) (aw)) (aw)) (aw)) (ic (fu c8 (pv 8) (aw) (fun _ _ => rfl)) (aw) e8)))
   (ak (oW (ib (aR cc fw (bz aO bA (bz aO bA (ae 8 (pv 8)) (aw)) (aw)) (aw)) (ic (fu c8 (pv 8) (aw) (fun _ _ => rfl)) (aw) e8)))
   (ak (aM (psS 11 cw.nd (aB G_l_turned (hr.mono (by decide)) (by rfl) N.m_l_turned N.F_l_turned.kp N.b_l_turned aF (ac (ae 2 (pv 2)) (ag)) (af aN0))))
   (ak (aM (psS 12 cw.nd (aB G_l_value (hr.mono (by decide)) (by rfl) N.m_l_value N.F_l_value.kp N.b_l_value aF (ac (ae 4 (pv 4)) (ac (ae 6 (pv 6)) (ac (ae 7 (pv 7)) (ac (ae 3 (pv 3)) (ac (ae 11 (pv 11)) (ag)))))) (af (af (af (af (af aN0))))))))
   (ak (aM (psS 13 cw.nd (aB G_l_copied (hr.mono (by decide)) (by rfl) N.m_l_copied N.F_l_copied.kp N.b_l_copied aF (ac (ae 2 (pv 2)) (ag)) (af aN0))))
   (ak (bI (kM (qU (jP (jO (aB G_l_same (hr.mono (by decide)) (by rfl) N.m_l_same N.F_l_same.kp N.b_l_same aF (ac (je N.cl_Measure N.mt_Measure_of G_Measure_of (hr.mono (by decide)) (dO.nil N.b_Measure_of) aF (ae 9 (pv 9)) (ac (ae 13 (pv 13)) (ag)) (fun δ β r β' h => by rw [(af aN0) δ β r β' h]; rfl)) (ac (ae 12 (pv 12)) (ag))) (af (af aN0))))) (nV (bc (eD hr) f9 (ae 13 (pv 13)) (ae 2 (pv 2)))))) (aq (aL (az (jf)))) (bn))
   (ak (bI (jP (jO (aB G_l_same (hr.mono (by decide)) (by rfl) N.m_l_same N.F_l_same.kp N.b_l_same aF (ac (je N.cl_Measure N.mt_Measure_of G_Measure_of (hr.mono (by decide)) (dO.nil N.b_Measure_of) aF (ae 10 (pv 10)) (ac (ae 13 (pv 13)) (ag)) (fun δ β r β' h => by rw [(af aN0) δ β r β' h]; rfl)) (ac (aB G_l_value (hr.mono (by decide)) (by rfl) N.m_l_value N.F_l_value.kp N.b_l_value aF (ac (ae 5 (pv 5)) (ac (ae 6 (pv 6)) (ac (ae 7 (pv 7)) (ac (kJ (ac (aw) (ac (aw) (ag)))) (ac (ae 11 (pv 11)) (ag)))))) (af (af (af (af (af aN0)))))) (ag))) (af (af aN0))))) (aq (aL (az (jf)))) (bn))
   (aq (aL (az (aB G_l_same (hr.mono (by decide)) (by rfl) N.m_l_same N.F_l_same.kp N.b_l_same aF (ac (je N.cl_Measure N.mt_Measure_of G_Measure_of (hr.mono (by decide)) (dO.nil N.b_Measure_of) aF (ae 9 (pv 9)) (ac (ae 13 (pv 13)) (ag)) (fun δ β r β' h => by rw [(af aN0) δ β r β' h]; rfl)) (ac (ae 12 (pv 12)) (ag))) (af (af aN0)))))))))))))))))))))))
  refine ⟨_, bV (rest := (cg kX).tail) (psS 1 cw.nd (qr G_l_bag (hr.mono (by decide)) rfl N.m_l_bag N.F_l_bag.kp N.b_l_bag .nil di (aT (pv 0) c6))) rest, ?_⟩
  refine ⟨_, rfl, a1, ns, rfl, hS, fun b l H1 hb1 hl1 B1 s1 => ?_⟩
  obtain ⟨β, ok, sok⟩ := zy (K := K) (a := a1) (n := ["_law_script", "_law_bag_here", "_law_block", "_law_where", "_law_kind_here", "_law_other", "_law_rowsums_here", "_law_columnsums_here", "_law_handed", "_law_one", "_law_two", "_law_columns", "_law_due", "_law_told"].length - 2) s1 hb1 hl1 B1
  obtain ⟨β', e⟩ := T β ok
  exact ⟨_, _, _, β, _, β', sok, e, fun v B' H' s fr hv => by cases hv.bl; exact k H'⟩
end
end Law
set_option maxHeartbeats 4000000
namespace Law
open PySem L2 L2.Pu
section
variable {K : Frag} {a : Ad}
abbrev xv (r c l u : Int) (g : List (List D)) (s6 s7 : Option Sl) : Ds := [some (.sh .bag), some (.sh (.int r)), some (.sh (.int c)), some (.sh (.int l)), some (.sh (.int u)), some (.grd g), s6, s7]
def Ca (r c : Nat) (u : Int) (s6 : Option Sl) (δ : Ds) (β : Bg) : Prop := β.ok /\ ∃ (rows : List (List Int)) (l : Int) (s7 : Option Sl), δ = xv r c l u (gI rows) s6 s7 /\ Shp r c rows /\ (∀ row ∈ rows, ∀ x ∈ row, 0 <= x) /\ 0 <= l /\ tot rows + l <= 40
theorem zB {β : Bg} (ok : β.ok) : ∃ (rows : List (List Int)) (r c : Nat) (β' : Bg), m_l_any K a [.bag] β = some (.ok (bE rows), β') /\ Tab r c rows /\ β'.ok := by
 suffices h : ∃ g β', m_l_any K a [.bag] β = some (g, β') /\ (∃ (rows : List (List Int)) (r c : Nat), g = .ok (bE rows) /\ Tab r c rows /\ β'.ok) by
  obtain ⟨g, β', e, rows, r, c, rfl, h1, h2⟩ := h
  exact ⟨rows, r, c, β', e, h1, h2⟩
 refine lQ ?_
 unfold mB
 obtain ⟨r0, β1, p1, a0, a1, ok1⟩ := ei ok (lot := 4) (by decide) (by decide)
 refine aK (d := .int (1 + r0)) (β1 := β1) (x_2 rfl (aD rfl p1) rfl) ?_
 obtain ⟨c0, β2, p2, b0, b1, ok2⟩ := ei ok1 (lot := 6) (by decide) (by decide)
 refine aK (d := .int (1 + c0)) (β1 := β2) (x_2 rfl (aD rfl p2) rfl) ?_
 obtain ⟨l0, β3, p3, d0, d1, ok3⟩ := ei ok2 (lot := 41) (by decide) (by decide)
 refine aK (d := .int l0) (β1 := β3) (aD rfl p3) ?_
 obtain ⟨u0, β4, p4, e0, e1, ok4⟩ := ei ok3 (lot := 6) (by decide) (by decide)
 have hu : ∃ u : Int, ixD (.lst [.int 12, .int 12, .int 12, .int 12, .int 12, .int 40]) (.int u0) = some (.int u) /\ 0 <= u /\ u <= 40 := by
  obtain rfl | rfl | rfl | rfl | rfl | rfl : u0 = 0 \/ u0 = 1 \/ u0 = 2 \/ u0 = 3 \/ u0 = 4 \/ u0 = 5 := by omega
  ·exact ⟨12, rfl, by decide, by decide⟩
  ·exact ⟨12, rfl, by decide, by decide⟩
  ·exact ⟨12, rfl, by decide, by decide⟩
  ·exact ⟨12, rfl, by decide, by decide⟩
  ·exact ⟨12, rfl, by decide, by decide⟩
  ·exact ⟨40, rfl, by decide, by decide⟩
 obtain ⟨u, hu, u0', u1'⟩ := hu
 refine aK (d := .int u) (β1 := β4) (x_2 (bq rfl rfl) (aD rfl p4) hu) ?_
 obtain ⟨r, hr⟩ : ∃ r : Nat, (r : Int) = 1 + r0 := ⟨(1 + r0).toNat, by omega⟩
 obtain ⟨c, hc⟩ : ∃ c : Nat, (c : Int) = 1 + c0 := ⟨(1 + c0).toNat, by omega⟩
 rw [← hr, ← hc]
 refine xF (rows := (List.range r).map fun _ => List.replicate c (D.int 0)) (β1 := β4) (uC (List.range r) (fun i => D.int (0 + (i : Int))) _ (cG (ds := bo 0 r) rfl (rg1 (by omega) (by omega))) (fun x _ => ⟨_, rfl, Cz (x := .int 0) (c := c) rfl rfl (by omega)⟩) (cW (by rw [List.length_range]; omega))) ?_ ?_
 ·rw [List.all_eq_true]
  intro x hx
  obtain ⟨_, _, rfl⟩ := List.mem_map.mp hx
  rw [← List.map_replicate (f := D.int)]
  exact en _
 have hg : (List.range r).map (fun _ => List.replicate c (D.int 0)) = gI (List.replicate r (List.replicate c 0)) := by
  show _ = List.map _ _
  rw [List.map_replicate, List.map_const', List.map_replicate, List.length_range]
 rw [hg]
 refine bL (ds := bo 0 r) (β1 := β4) (cG rfl (rg1 (by omega) (by omega))) (fun _ δ β => ∃ s6, Ca r c u s6 δ β) ⟨none, ok4, List.replicate r (List.replicate c 0), l0, none, rfl, ⟨by simp, fun row h => ?_⟩, fun row h x hx => ?_, d0, ?_⟩ ?_ ?_
 ·rw [(List.mem_replicate.mp h).2]; simp
 ·rw [(List.mem_replicate.mp h).2] at hx
  rw [(List.mem_replicate.mp hx).2]; exact Int.le_refl _
 ·have : tot (List.replicate r (List.replicate c 0)) = 0 := by
   unfold tot
   rw [List.map_replicate]
   have z : ∀ n : Nat, (List.replicate n (0 : Int)).sum = 0 := fun n => by
    induction n with
    | zero => rfl
    | succ n ih => rw [List.replicate_succ, List.sum_cons, ih]; rfl
   rw [z, z]
  omega
 ·rintro i d δ β' hd ⟨s6, okA, rows, l, s7, rfl, sh, nn, hl, ht⟩
  obtain ⟨hi, rfl⟩ := n6 hd
  refine ⟨xv r c l u (gI rows) (some (.sh (.int i))) s7, rfl, au ?_⟩
  refine bL (ds := bo 0 c) (β1 := β') (cG rfl (rg1 (by omega) (by omega))) (fun _ => Ca r c u (some (.sh (.int i)))) ⟨okA, rows, l, s7, rfl, sh, nn, hl, ht⟩ ?_ (fun δ β h => aZ ⟨_, h⟩)
  rintro j d δ β2 hd ⟨okB, rows, l, s7, rfl, sh, nn, hl, ht⟩
  obtain ⟨hj, rfl⟩ := n6 hd
  refine ⟨xv r c l u (gI rows) (some (.sh (.int i))) (some (.sh (.int j))), rfl, ?_⟩
  obtain ⟨v, β5, p5, v0, v1, ok5⟩ := ei okB (lot := min l u + 1) (by omega) (by omega)
  obtain ⟨row, hrow, lrow⟩ := sh.at hi
  obtain ⟨x, hx⟩ := yk (l := row) (i := j) (by omega)
  refine qV (d := .int v) (β1 := β5) (β2 := β5) (β3 := β5) (rows := gI rows) (ds := row.map D.int) (ka := i) (kb := j) (ja := i) (jb := j) (aD (as := [.bag, .int (min l u + 1)]) (β1 := β2) ?_ p5) rfl rfl rfl ?_ ?_ ?_ rfl ?_
  ·refine am rfl (am (x_2 (x := .int (min l u)) (bq (as := [.int l, .int u]) rfl ?_) rfl rfl) rfl)
   show pe [.int l, .int u] = some (.int (min l u))
   unfold pe
   simp only
   congr 2
   split <;> omega
  ·rw [List.length_map, sh.1]; exact jz (by omega) (by omega)
  ·rw [List.getElem?_map, hrow]; rfl
  ·rw [List.length_map, lrow]; exact jz (by omega) (by omega)
  have hset : (gI rows).set i ((row.map D.int).set j (.int v)) = gI (rows.set i (row.set j v)) := by
   show _ = List.map _ _
   rw [List.map_set, List.map_set]
  rw [hset]
  have hl' : v <= l := by omega
  refine au (zE (d := .int (l - v)) (β1 := β5) ?_ (aZ ⟨ok5, rows.set i (row.set j v), l - v, _, rfl, sh.set hrow, AC nn hrow v0, by omega, ?_⟩) rfl)
  ·refine x_2 (y := .int v) rfl (x_2 (x := .lst ((row.set j v).map D.int)) (x_2 rfl rfl ?_) rfl ?_) rfl
   ·refine lC (by omega) ?_
    rw [List.getElem?_map, List.getElem?_map, Int.toNat_natCast, List.getElem?_set, if_pos rfl, if_pos (by rw [sh.1]; omega)]; rfl
   ·refine lC (by omega) ?_
    rw [List.getElem?_map, Int.toNat_natCast, List.getElem?_set, if_pos rfl, if_pos (by rw [lrow]; omega)]; rfl
  ·have := yy (v := v) hrow hx
   have := nn row (List.mem_of_getElem? hrow) x (List.mem_of_getElem? hx)
   omega
 ·rintro δ β' ⟨s6, okA, rows, l, s7, rfl, sh, nn, hl, ht⟩
  exact au (aP rfl ⟨rows, r, c, rfl, ⟨sh, nn, by omega, by omega, by omega, by omega, by omega⟩, okA⟩)
end
section
variable {K : Frag} {a : Ad} {β : Bg}
theorem zI {r c : Nat} {rows : List (List Int)} (sh : Shp r c rows) (r0 : 1 <= r) (r1 : r <= 30) (c1 : c <= 30) {δ : Dn} (hδ : δ.getD 0 none = some (bE rows)) : aU 1 [0] (bC fR (ad (ao bD (ad (f2 ixD (aa 0) (fC (.int 0))) (ah))) (ah))) (tgC 0) (fun _ => M.ret true) (cEm (aU 1 [0] (aX (aa 1)) (tgC 0) (fun _ => M.ret true) (cEm (f2 ixD (aa 0) (aa 1))))) δ β = some (.ok (bE (tp c rows)), β) := by
 obtain ⟨row0, hrow0, lrow0⟩ := sh.at (i := 0) (by omega)
 have hr0 : (gI rows)[0]? = some (row0.map D.int) := by rw [List.getElem?_map, hrow0]; rfl
 have el : ao bD (ad (f2 ixD (aa 0) (fC (.int 0))) (ah)) δ β = some (.ok (.int (c : Int)), β) := bq (am (x := .lst (row0.map D.int)) (x_2 (x := bE rows) (jK hδ) rfl (yd hr0)) rfl) (ig (by rw [List.length_map, lrow0]))
 have e := d8 (nv := 1) (caps := [0]) (it := bC fR (ad (ao bD (ad (f2 ixD (aa 0) (fC (.int 0))) (ah))) (ah))) (tg := tgC 0) (f := aU 1 [0] (aX (aa 1)) (tgC 0) (fun _ => M.ret true) (cEm (f2 ixD (aa 0) (aa 1)))) (δ := δ) (β := β) (List.range c) (fun i => D.int (0 + (i : Int))) (fun j => D.lst (rows.map fun row => D.int (row.getD j 0))) (cG (ds := bo 0 c) (am el rfl) (rg1 (by omega) (by omega))) ?_ (cW (by rw [List.length_range]; omega))
 ·rw [e]
  unfold tp tpA
  show _ = some (Except.ok (D.lst (List.map D.lst (List.map _ (List.map _ _)))), β)
  rw [List.map_map, List.map_map]
  congr 4
  refine List.map_congr_left fun j _ => ?_
  show _ = D.lst ((rows.map fun row => row.getD j 0).map D.int)
  rw [List.map_map]; rfl
 ·intro j hj
  have hjc := List.mem_range.mp hj
  have hcs : cSt 1 [0] δ = [none, some (bE rows)] := by
   unfold cSt
   simp only [List.map_cons, List.map_nil, hδ]; rfl
  refine ⟨[some (.int (0 + (j : Int))), some (bE rows)], by rw [hcs]; rfl, ?_⟩
  have hm : (gI rows).map D.lst = rows.map fun row => D.lst (row.map D.int) := by rw [List.map_map]; rfl
  refine d8 (nv := 1) (caps := [0]) rows (fun row => D.lst (row.map D.int)) _ (by show some (Except.ok ((gI rows).map D.lst), β) = _; rw [hm]) (fun row hr => ⟨_, rfl, x_2 (x := .lst (row.map D.int)) (y := .int (0 + (j : Int))) rfl rfl ?_⟩) (cW (by rw [sh.1]; omega))
  have hl := sh.2 row hr
  obtain ⟨x, hx⟩ := yk (l := row) (i := j) (by omega)
  rw [Int.zero_add]
  refine jY ?_
  rw [List.getElem?_map, hx, List.getD_eq_getElem?_getD, hx]; rfl
theorem sZ {r c : Nat} {rows : List (List Int)} (sh : Shp r c rows) (r0 : 1 <= r) (r1 : r <= 30) (c1 : c <= 30) : m_rows_turned K a [bE rows] β = some (.ok (bE (tp c rows)), β) :=
 aV (au (aP (zI sh r0 r1 c1 rfl) ⟨rfl, rfl⟩))
theorem lz {r c : Nat} {rows : List (List Int)} (sh : Shp r c rows) (r0 : 1 <= r) (r1 : r <= 30) (c1 : c <= 30) : m_l_turned K a [bE rows] β = some (.ok (bE (tp c rows)), β) :=
 aV (au (aP (zI sh r0 r1 c1 rfl) ⟨rfl, rfl⟩))
end
section
variable {K : Frag} {a : Ad} {β : Bg}
abbrev iL (xs : List Int) : D := .lst (xs.map D.int)
theorem tB {rows : List (List Int)} (h : rows.length <= 1000) {f : Dn -> M D} {δ : Dn} (e : f δ β = some (.ok (bE rows), β)) : aU 1 [] (aX f) (tgC 0) (fun _ => M.ret true) (cEm (ao cn (ad (aa 0) (ah)))) δ β = some (.ok (iL (rows.map List.sum)), β) := by
 have hm : (gI rows).map D.lst = rows.map fun row => D.lst (row.map D.int) := by rw [List.map_map]; rfl
 have := d8 (nv := 1) (caps := []) (it := aX f) (tg := tgC 0) (f := ao cn (ad (aa 0) (ah))) (δ := δ) (β := β) rows (fun row => D.lst (row.map D.int)) (fun row => D.int row.sum) (by rw [← hm]; exact gp e rfl) (fun row _ => ⟨_, rfl, bq rfl (hG row)⟩) (cW h)
 rw [this]
 show _ = some (Except.ok (D.lst ((rows.map List.sum).map D.int)), β)
 rw [List.map_map]; rfl
theorem rb {rows : List (List Int)} (h : rows.length <= 1000) : m_l_rowsums K a [bE rows] β = some (.ok (iL (rows.map List.sum)), β) :=
 aV (au (aP (tB h rfl) ⟨rfl, rfl⟩))
theorem nS {r c : Nat} {rows : List (List Int)} (sh : Shp r c rows) (r0 : 1 <= r) (r1 : r <= 30) (c1 : c <= 30) : m_l_columnsums K a [bE rows] β = some (.ok (iL ((tp c rows).map List.sum)), β) :=
 aV (au (aP (tB (by rw [(jN (d := (0 : Int)) (c := c) sh.1).1]; omega) (aD rfl (lz sh r0 r1 c1))) ⟨rfl, rfl⟩))
end
section
variable {K : Frag} {a : Ad} {β : Bg}
def jQ (xs ys : List Int) : Bool := (decide (1 <= (xs.length : Int)) && decide ((xs.length : Int) <= 4)) && (decide (1 <= (ys.length : Int)) && decide ((ys.length : Int) <= 6)) && !((xs.any fun x => decide (x < 0)) || (ys.any fun x => decide (x < 0))) && decide (xs.sum = ys.sum) && !decide (40 < xs.sum)
def Sm (xs : List Int) : Prop := xs.length <= 30 /\ ∀ x ∈ xs, -1000 <= x /\ x <= 1000
theorem tE : ∀ {xs : List Int}, (∀ x ∈ xs, -1000 <= x /\ x <= 1000) -> -1000 * (xs.length : Int) <= xs.sum /\ xs.sum <= 1000 * (xs.length : Int)
 | [], _ => by simp
 | x :: xs, h => by
  have h1 := h x List.mem_cons_self
  have h2 := tE (xs := xs) fun y hy => h y (List.mem_cons_of_mem _ hy)
  simp only [List.sum_cons, List.length_cons]
  omega
theorem Sm.bd {xs : List Int} (h : Sm xs) : -30000 <= xs.sum /\ xs.sum <= 30000 := by
 have := tE h.2
 have := h.1
 omega
theorem xW {xs : List Int} (h : xs.length <= 1000) {n : Nat} {δ : Dn} (e : δ.getD n none = some (iL xs)) : dB (ao mS (ad (aU 1 [] (aX (aa n)) (tgC 0) (fun _ => M.ret true) (cEm (f2 (ltD) (aa 0) (fC (.int 0))))) (ah))) δ β = some (.ok (xs.any fun x => decide (x < 0)), β) := by
 have e1 := d8 (nv := 1) (caps := []) (it := aX (aa n)) (tg := tgC 0) (f := f2 (ltD) (aa 0) (fC (.int 0))) (δ := δ) (β := β) xs D.int (fun x => D.bl (decide (x < 0))) (gp (jK e) rfl) (fun x _ => ⟨_, rfl, rfl⟩) (cW h)
 exact nU (bq (am e1 rfl) (any_map _ _)) rfl
theorem vT {xs ys : List Int} (hx : Sm xs) (hy : Sm ys) : m_check_sums K a [iL xs, iL ys] β = some (if jQ xs ys = true then .ok .non else .error a.C_BadSums, β) := by
 have lx := hx.1
 have ly := hy.1
 have bx := hx.bd
 have by' := hy.bd
 refine aV ?_
 unfold gB
 have el : ∀ {n : Nat} {zs : List Int} {δ : Dn}, δ.getD n none = some (iL zs) -> ao bD (ad (aa n) ah) δ β = some (.ok (.int (zs.length : Int)), β) := fun {n zs δ} e => bq (am (jK e) rfl) (ig (by rw [List.length_map]))
 have es : ∀ {n : Nat} {zs : List Int} {δ : Dn}, δ.getD n none = some (iL zs) -> ao cn (ad (aa n) ah) δ β = some (.ok (.int zs.sum), β) := fun {n zs δ} e => bq (am (jK e) rfl) (hG zs)
 refine gq (c := !(decide (1 <= (xs.length : Int)) && decide ((xs.length : Int) <= 4))) (β1 := β) (jL (x_B (qb rfl (el rfl) rfl))) ?_
 unfold jQ
 cases q1 : (decide (1 <= (xs.length : Int)) && decide ((xs.length : Int) <= 4)) with
 | false => exact gf (am (jd (iw rfl (by decide) (by decide) (iw (el rfl) (by omega) (by omega) rfl))) rfl) ⟨rfl, rfl⟩
 | true =>
 refine aQ ?_
 refine gq (c := !(decide (1 <= (ys.length : Int)) && decide ((ys.length : Int) <= 6))) (β1 := β) (jL (x_B (qb rfl (el rfl) rfl))) ?_
 cases q2 : (decide (1 <= (ys.length : Int)) && decide ((ys.length : Int) <= 6)) with
 | false => exact gf (am (jd (iw rfl (by decide) (by decide) (iw (el rfl) (by omega) (by omega) rfl))) rfl) ⟨rfl, rfl⟩
 | true =>
 refine aQ ?_
 refine gq (c := (xs.any fun x => decide (x < 0)) || (ys.any fun x => decide (x < 0))) (β1 := β) (Cc (xW (by omega) rfl) (xW (by omega) rfl)) ?_
 cases q3 : ((xs.any fun x => decide (x < 0)) || (ys.any fun x => decide (x < 0))) with
 | true =>
  rw [if_pos rfl]
  exact gf rfl ⟨rfl, rfl⟩
 | false =>
 refine aQ ?_
 refine gq (c := !decide (xs.sum = ys.sum)) (β1 := β) (x_B (x_2 (es rfl) (es rfl) ne_int)) ?_
 cases q4 : decide (xs.sum = ys.sum) with
 | false => exact gf (am (jd (iw (es rfl) (by omega) (by omega) (iw (es rfl) (by omega) (by omega) rfl))) rfl) ⟨rfl, rfl⟩
 | true =>
 refine aQ (au ?_)
 refine gq (c := decide (40 < xs.sum)) (β1 := β) (x_B (x_2 (es rfl) rfl gt_int)) ?_
 cases q5 : decide (40 < xs.sum) with
 | true =>
  rw [if_pos rfl]
  exact gf (am (jd (iw rfl (by decide) (by decide) rfl)) rfl) ⟨rfl, rfl⟩
 | false => exact aQ (aZ ⟨rfl, rfl⟩)
end
section
variable {K : Frag} {a : Ad} {β : Bg}
theorem oE {i n : Int} (h0 : -1000 <= i) (h1 : i <= 1000) (h2 : -1000 <= n) (h3 : n <= 1000) : m_check_there K a [.int i, .int n] β = some (if 0 <= i /\ i < n then .ok .non else .error a.C_BadCell, β) := by
 refine aV ?_
 unfold fX
 refine au (gq (c := !(decide (0 <= i) && decide (i < n))) (β1 := β) (jL (x_B (sU rfl rfl rfl))) ?_)
 by_cases q : 0 <= i /\ i < n
 ·have e : (decide (0 <= i) && decide (i < n)) = true := by simpa using q
  rw [e, Bool.not_true, if_neg Bool.false_ne_true, if_pos q]
  exact aQ (aZ ⟨rfl, rfl⟩)
 ·have e : (decide (0 <= i) && decide (i < n)) = false := by
   rw [Bool.eq_false_iff]
   simpa using q
  rw [e, Bool.not_false, if_pos rfl, if_neg q]
  exact gf (am (jd (iw rfl (by omega) (by omega) (iw rfl (by omega) (by omega) rfl))) rfl) ⟨rfl, rfl⟩
end
section
variable {K : Frag} {a : Ad} {β : Bg}
theorem uB {rows : List (List D)} (h : rows.length <= 1000) : m_l_copied K a [lG rows] β = some (.ok (lG rows), β) :=
 aV (au (aP (d8 rows D.lst D.lst rfl (fun x _ => ⟨_, rfl, rfl⟩) (cW h)) ⟨rfl, rfl⟩))
end
section
variable {K : Frag} {a : Ad} {β : Bg}
theorem yD (n : Nat) : m_l_same K a n = dW n := by
 induction n with
 | zero => rfl
 | succ n ih =>
  show aJ 2 (ky K a (m_l_same K a n)) = aJ 2 (gT (dW n))
  rw [ih]; rfl
theorem nZ {d : D} (h : okD 4 d) : m_l_same K a 5 [d, d] β = some (.ok (.bl true), β) := by
 rw [yD]
 exact l5 4 d β h
theorem mj (n : Nat) (i : Int) : okD n (.int i) := by cases n <;> trivial
theorem okD_str (n : Nat) (i : Str) : okD n (.str i) := by cases n <;> trivial
end
end Law
set_option maxHeartbeats 4000000
namespace Law
open PySem L2 L2.Pu
section
variable {K : Frag} {a : Ad} {β : Bg}
theorem nW {i : Nat} {op : D -> D -> Option D} {f : Dn -> M D} {c d z : D} {h : G} {δ : Ds} {β β1 : Bg} {Q : Out -> Bg -> Prop} (e0 : (vw δ).getD i none = some c) (e : f (vw δ) β = some (.ok d, β1)) (e2 : op c d = some z) (k : Gw h (δ.set i (some (.sh z))) β1 Q) : Gw (ai (eL i op f) h) δ β Q := fm (by unfold eL; simp only [e0, e, e2, Option.map_some]) k
theorem tP {m i : Nat} {d : D} (h : (bo 2 m)[i]? = some d) : i < m /\ d = .int ((i + 2 : Nat) : Int) := by
 obtain ⟨x, hx, rfl⟩ := fN (f := fun (i : Nat) => D.int (2 + (i : Int))) (xs := List.range m) h
 have hi := (List.getElem?_eq_some_iff.mp hx).1
 rw [List.length_range] at hi
 rw [List.getElem?_range hi] at hx
 cases hx
 exact ⟨hi, by congr 1; omega⟩
theorem la (lo : Int) (m : Nat) : (bo lo m).length = m := by unfold bo; rw [List.length_map, List.length_range]
theorem sm {n : Nat} (h : n <= 2 ^ 11) : n < 2 ^ 1000 := bP h (by decide)
theorem qF (n : Nat) : facN (n - 1 + 1) = facN n := by cases n <;> rfl
theorem qD {n : Nat} (h : n <= 40) : m_factorial K a [.int (n : Int)] β = some (.ok (.int ((facN n : Nat) : Int)), β) := by
 refine aV ?_
 unfold gY
 refine aK (d := .int 1) (β1 := β) rfl ?_
 refine bL (ds := bo 2 (n - 1)) (β1 := β) (cG (am rfl (am (x_2 rfl rfl rfl) rfl)) (rg2 (by omega))) (fun i δ β' => β = β' /\ ∃ s2, δ = [some (.sh (.int (n : Int))), some (.sh (.int ((facN (i + 1) : Nat) : Int))), s2]) ⟨rfl, none, rfl⟩ ?_ ?_
 ·rintro i d δ _ hd ⟨rfl, s2, rfl⟩
  obtain ⟨hi, rfl⟩ := tP hd
  exact ⟨_, rfl, au (nW rfl rfl (cV (bP (ik (by omega)) (by decide)) (sm (by omega))) (aZ ⟨rfl, _, rfl⟩))⟩
 ·rintro δ _ ⟨rfl, s2, rfl⟩
  rw [la, qF]
  exact au (aP rfl ⟨rfl, rfl⟩)
theorem pj {n : Nat} (h : n <= 40) : m_l_factorial K a [.int (n : Int)] β = some (.ok (.int ((facN n : Nat) : Int)), β) := by
 refine aV ?_
 unfold fW
 refine aK (d := .int 1) (β1 := β) rfl ?_
 refine bL (ds := bo 2 (n - 1)) (β1 := β) (cG (am rfl (am (x_2 rfl rfl rfl) rfl)) (rg2 (by omega))) (fun i δ β' => β = β' /\ ∃ s2, δ = [some (.sh (.int (n : Int))), some (.sh (.int ((facN (i + 1) : Nat) : Int))), s2]) ⟨rfl, none, rfl⟩ ?_ ?_
 ·rintro i d δ _ hd ⟨rfl, s2, rfl⟩
  obtain ⟨hi, rfl⟩ := tP hd
  exact ⟨_, rfl, au (aK (x_2 rfl rfl (cV (bP (ik (by omega)) (by decide)) (sm (by omega)))) (aZ ⟨rfl, _, rfl⟩))⟩
 ·rintro δ _ ⟨rfl, s2, rfl⟩
  rw [la, qF]
  exact au (aP rfl ⟨rfl, rfl⟩)
def wayN (l : List Nat) : Nat := facN l.sum / pr (l.map facN)
theorem B5 {l : List Nat} {d : D} (h : Sq l d) : jR [d] = some (.int ((l.sum : Nat) : Int)) := by
 rw [← jt]
 rcases h with rfl | rfl
 ·exact zW _
 ·exact zV _
theorem js (l : List Nat) : cn [nL l] = some (.int ((l.sum : Nat) : Int)) := by rw [← jt]; exact hG _
theorem d4 {l : List Nat} {i n : Nat} (h : l.sum <= 40) (hn : l[i]? = some n) : n <= 40 := Nat.le_trans (eA (List.mem_of_getElem? hn)) h
theorem yp {l : List Nat} {cd : D} (hs : Sq l cd) (h : l.sum <= 40) : m_ways K a [cd] β = some (.ok (.int ((wayN l : Nat) : Int)), β) := by
 refine aV ?_
 unfold pB
 refine bL (ds := (nI l).map D.int) (β1 := β) (gp rfl hs.seq) (fun i δ β' => β = β' /\ ∃ s1, δ = [some (.sh cd), s1, none]) ⟨rfl, none, rfl⟩ ?_ ?_
 ·rintro i d δ _ hd ⟨rfl, s1, rfl⟩
  obtain ⟨n, hn, rfl⟩ := f7 hd
  exact ⟨_, rfl, au (aY (β1 := β) (x_B (x_2 rfl rfl (by show some (D.bl (decide ((n : Int) < 0))) = _; rw [decide_eq_false (by omega)]))) (aQ (aZ ⟨rfl, _, rfl⟩)))⟩
 rintro δ _ ⟨rfl, s1, rfl⟩
 refine aK (d := .int ((facN l.sum : Nat) : Int)) (β1 := β) (aD (am (bq rfl (B5 hs)) rfl) (qD h)) ?_
 refine bL (ds := (nI l).map D.int) (β1 := β) (gp rfl hs.seq) (fun i δ β' => β = β' /\ ∃ s1, δ = [some (.sh cd), s1, some (.sh (.int ((facN l.sum / pr ((l.take i).map facN) : Nat) : Int)))]) ⟨rfl, s1, by rw [List.take_zero, List.map_nil, tT, Nat.div_one]; rfl⟩ ?_ ?_
 ·rintro i d δ _ hd ⟨rfl, s1, rfl⟩
  obtain ⟨n, hn, rfl⟩ := f7 hd
  refine ⟨_, rfl, au (nW rfl (aD rfl (qD (d4 h hn))) (lN (mG n) (bP (ik (d4 h hn)) (by decide))) (aZ ⟨rfl, some (.sh (.int (n : Int))), ?_⟩))⟩
  rw [fc hn, Nat.div_div_eq_div_mul]; rfl
 ·rintro δ _ ⟨rfl, s1, rfl⟩
  rw [dy, List.take_length]
  exact au (aP rfl ⟨rfl, rfl⟩)
theorem qE {l : List Nat} {i : Nat} (h : l.sum <= 40) (hl : l.length <= 4) : pr ((l.take i).map facN) <= 2 ^ 640 := by
 refine Nat.le_trans (xT (m := 160) fun x hx => ?_) (Nat.pow_le_pow_right (by decide) ?_)
 ·obtain ⟨n, hn, rfl⟩ := List.mem_map.mp hx
  exact ik (Nat.le_trans (eA (List.mem_of_mem_take hn)) h)
 ·rw [List.length_map, List.length_take]; omega
theorem vq {l : List Nat} (h : l.sum <= 40) (hl : l.length <= 4) : m_l_ways K a [nL l] β = some (.ok (.int ((wayN l : Nat) : Int)), β) := by
 refine aV ?_
 unfold kx
 refine aK (d := .int 1) (β1 := β) rfl ?_
 refine bL (ds := (nI l).map D.int) (β1 := β) rfl (fun i δ β' => β = β' /\ ∃ s2, δ = [some (.sh (nL l)), some (.sh (.int ((pr ((l.take i).map facN) : Nat) : Int))), s2]) ⟨rfl, none, rfl⟩ ?_ ?_
 ·rintro i d δ _ hd ⟨rfl, s2, rfl⟩
  obtain ⟨n, hn, rfl⟩ := f7 hd
  refine ⟨_, rfl, au (aK (x_2 rfl (aD rfl (pj (d4 h hn))) (cV (bP (qE h hl) (by decide)) (bP (ik (d4 h hn)) (by decide)))) (aZ ⟨rfl, some (.sh (.int (n : Int))), ?_⟩))⟩
  rw [fc hn]; rfl
 ·rintro δ _ ⟨rfl, s2, rfl⟩
  rw [dy, List.take_length]
  have f := qE (i := l.length) h hl
  rw [List.take_length] at f
  exact au (aP (x_2 (aD (am (bq rfl (js l)) rfl) (pj h)) rfl (lN (Af fun x hx => by obtain ⟨n, _, rfl⟩ := List.mem_map.mp hx; exact mG n) (bP f (by decide)))) ⟨rfl, rfl⟩)
theorem oB {l : List Nat} (h : l.sum <= 40) : wayN l <= 2 ^ 160 := Nat.le_trans (Nat.div_le_self _ _) (ik h)
theorem qc {cs : List (List Nat)} {i : Nat} (h : ∀ l ∈ cs, l.sum <= 40) (hl : cs.length <= 6) : pr ((cs.take i).map wayN) <= 2 ^ 960 := by
 refine Nat.le_trans (xT (m := 160) fun x hx => ?_) (Nat.pow_le_pow_right (by decide) ?_)
 ·obtain ⟨n, hn, rfl⟩ := List.mem_map.mp hx
  exact oB (h n (List.mem_of_mem_take hn))
 ·rw [List.length_map, List.length_take]; omega
abbrev cL (cs : List (List Nat)) : D := .lst (cs.map nL)
theorem sV {cs : List (List Nat)} (h : ∀ l ∈ cs, l.sum <= 40 /\ l.length <= 4) (hl : cs.length <= 6) : m_l_weight K a [cL cs] β = some (.ok (.int ((pr (cs.map wayN) : Nat) : Int)), β) := by
 refine aV ?_
 unfold iO
 refine aK (d := .int 1) (β1 := β) rfl ?_
 refine bL (ds := cs.map nL) (β1 := β) rfl (fun i δ β' => β = β' /\ ∃ s2, δ = [some (.sh (cL cs)), some (.sh (.int ((pr ((cs.take i).map wayN) : Nat) : Int))), s2]) ⟨rfl, none, rfl⟩ ?_ ?_
 ·rintro i d δ _ hd ⟨rfl, s2, rfl⟩
  obtain ⟨l, hn, rfl⟩ := fN hd
  obtain ⟨l1, l2⟩ := h l (List.mem_of_getElem? hn)
  refine ⟨_, rfl, au (aK (x_2 rfl (aD rfl (vq l1 l2)) (cV (bP (qc (fun l hl => (h l hl).1) hl) (by decide)) (bP (oB l1) (by decide)))) (aZ ⟨rfl, some (.sh (nL l)), ?_⟩))⟩
  rw [fc hn]; rfl
 ·rintro δ _ ⟨rfl, s2, rfl⟩
  rw [List.length_map, List.take_length]
  exact au (aP rfl ⟨rfl, rfl⟩)
theorem n9 {n i : Nat} (h : n <= 40) (hi : i <= 40) : n ^ i < 2 ^ 1000 := bP (m := 240) (Nat.le_trans (Nat.pow_le_pow_left (show n <= 2 ^ 6 by omega) i) (by rw [← Nat.pow_mul]; exact Nat.pow_le_pow_right (by decide) (by omega))) (by decide)
theorem u7 {n : Nat} (h : n <= 40) : m_power K a [.int (n : Int), .int (n : Int)] β = some (.ok (.int ((n ^ n : Nat) : Int)), β) := by
 refine aV ?_
 unfold mx
 refine aK (d := .int 1) (β1 := β) rfl ?_
 refine bL (ds := bo 0 n) (β1 := β) (cG rfl (rg1 (by omega) (by omega))) (fun i δ β' => β = β' /\ i <= n /\ ∃ s3, δ = [some (.sh (.int (n : Int))), some (.sh (.int (n : Int))), some (.sh (.int ((n ^ i : Nat) : Int))), s3]) ⟨rfl, by omega, none, rfl⟩ ?_ ?_
 ·rintro i d δ _ hd ⟨rfl, _, s3, rfl⟩
  obtain ⟨hi, rfl⟩ := n6 hd
  exact ⟨_, rfl, au (nW rfl rfl (cV (n9 h (by omega)) (sm (by omega))) (aZ ⟨rfl, by omega, _, rfl⟩))⟩
 ·rintro δ _ ⟨rfl, _, s3, rfl⟩
  rw [la]
  exact au (aP rfl ⟨rfl, rfl⟩)
theorem uS {n : Nat} (h : n <= 40) : m_l_self_power K a [.int (n : Int)] β = some (.ok (.int ((n ^ n : Nat) : Int)), β) := by
 refine aV ?_
 unfold fi
 refine aK (d := .int 1) (β1 := β) rfl ?_
 refine bL (ds := bo 0 n) (β1 := β) (cG rfl (rg1 (by omega) (by omega))) (fun i δ β' => β = β' /\ i <= n /\ ∃ s2, δ = [some (.sh (.int (n : Int))), some (.sh (.int ((n ^ i : Nat) : Int))), s2]) ⟨rfl, by omega, none, rfl⟩ ?_ ?_
 ·rintro i d δ _ hd ⟨rfl, _, s2, rfl⟩
  obtain ⟨hi, rfl⟩ := n6 hd
  exact ⟨_, rfl, au (aK (x_2 rfl rfl (cV (n9 h (by omega)) (sm (by omega)))) (aZ ⟨rfl, by omega, _, rfl⟩))⟩
 ·rintro δ _ ⟨rfl, _, s2, rfl⟩
  rw [la]
  exact au (aP rfl ⟨rfl, rfl⟩)
def pwN (l : List Nat) : Nat := pr (l.map fun n => n ^ n)
theorem o3 {l : List Nat} {i : Nat} (h : l.sum <= 40) : pr ((l.take i).map fun n => n ^ n) <= 2 ^ (6 * (l.take i).sum) := xU fun x hx => Nat.le_trans (eA (List.mem_of_mem_take hx)) h
theorem xH {l : List Nat} (i : Nat) : (l.take i).sum <= l.sum := by
 have := q8 (f := fun n : Nat => n) (l := l) i
 simpa using this
theorem u6 {l : List Nat} {cd : D} (hs : Sq l cd) (h : l.sum <= 40) : m_power_part K a [cd] β = some (.ok (.int ((pwN l : Nat) : Int)), β) := by
 refine aV ?_
 unfold gA
 refine aK (d := .int 1) (β1 := β) rfl ?_
 refine bL (ds := (nI l).map D.int) (β1 := β) (gp rfl hs.seq) (fun i δ β' => β = β' /\ ∃ s2, δ = [some (.sh cd), some (.sh (.int ((pr ((l.take i).map fun n => n ^ n) : Nat) : Int))), s2]) ⟨rfl, none, rfl⟩ ?_ ?_
 ·rintro i d δ _ hd ⟨rfl, s2, rfl⟩
  obtain ⟨n, hn, rfl⟩ := f7 hd
  refine ⟨_, rfl, au (nW rfl (aD rfl (u7 (d4 h hn))) (cV (bP (o3 h) (by have := xH (l := l) i; omega)) (n9 (d4 h hn) (d4 h hn))) (aZ ⟨rfl, some (.sh (.int (n : Int))), ?_⟩))⟩
  rw [fc (f := fun n => n ^ n) hn]; rfl
 ·rintro δ _ ⟨rfl, s2, rfl⟩
  rw [dy, List.take_length]
  exact au (aP rfl ⟨rfl, rfl⟩)
end
section
variable {K : Frag} {a : Ad}
theorem zw : ∀ (y x : Nat) (β : Bg), br (fB (f2 (gtD) (aa 1) (fC (.int 0)))) (fk 0 1 (ad (aa 1) (ad (f2 ku (aa 0) (aa 1)) (ah)))) (y + 1) [some (.sh (.int x)), some (.sh (.int y))] β = some (.nx [some (.sh (.int (Nat.gcd x y : Nat))), some (.sh (.int 0))], β) := by
 intro y
 induction y using Nat.strongRecOn with
 | ind y ih =>
  intro x β
  by_cases hy : y = 0
  ·subst hy
   unfold br
   simp only [ai, aE, fk, aa, fC, f2, ah, ad, fB, M.bind, M.ret, M.ofO, vw, vwA, stD, List.map_cons, List.map_nil, List.set_cons_zero, List.set_cons_succ, List.getD_cons_zero, List.getD_cons_succ, List.length_cons, List.length_nil, List.replicate_zero, List.replicate_succ, List.append_nil, List.cons_append, List.nil_append, Nat.sub_self, Nat.reduceSub, Nat.reduceAdd, Int.reduceLT, gc, gZ, asB, Option.map_some, Option.bind_some, if_true, if_false, reduceIte, decide_true, decide_false, Bool.false_eq_true, Int.natCast_zero, Int.lt_irrefl, Nat.gcd_zero_right]
  ·have h0 : (0 : Int) < (y : Int) := by omega
   have hm : (x : Int) % (y : Int) = ((x % y : Nat) : Int) := by simp
   have step := gS (ih (x % y) (Nat.mod_lt _ (by omega)) y β) (show x % y + 1 <= y from Nat.mod_lt _ (by omega))
   have eg : Nat.gcd y (x % y) = Nat.gcd x y := by rw [Nat.gcd_comm x y, Nat.gcd_rec y x, Nat.gcd_comm]
   rw [eg] at step
   unfold br
   simp only [ai, aE, fk, aa, fC, f2, ah, ad, fB, M.bind, M.ret, M.ofO, vw, vwA, stD, List.map_cons, List.map_nil, List.set_cons_zero, List.set_cons_succ, List.getD_cons_zero, List.getD_cons_succ, List.length_cons, List.length_nil, List.replicate_zero, List.replicate_succ, List.append_nil, List.cons_append, List.nil_append, Nat.sub_self, Nat.reduceSub, Nat.reduceAdd, Int.reduceLT, gc, gZ, asB, Option.map_some, Option.bind_some, if_true, if_false, reduceIte, decide_true, decide_false, Bool.false_eq_true, h0, hm, step]
theorem CT {β : Bg} (x y : Nat) : m_common_factor K a [.int x, .int y] β = some (.ok (.int (Nat.gcd x y : Nat)), β) := by
 have l := ur (zw y x β)
 unfold m_common_factor aJ eG
 simp only [ai, aE, fk, aa, fC, f2, ah, ad, fB, M.bind, M.ret, M.ofO, vw, vwA, stD, List.map_cons, List.map_nil, List.set_cons_zero, List.set_cons_succ, List.getD_cons_zero, List.getD_cons_succ, List.length_cons, List.length_nil, List.replicate_zero, List.replicate_succ, List.append_nil, List.cons_append, List.nil_append, Nat.sub_self, Nat.reduceSub, Nat.reduceAdd, Int.reduceLT, gc, gZ, asB, Option.map_some, Option.bind_some, if_true, if_false, reduceIte, decide_true, decide_false, Bool.false_eq_true, l]
end
section
variable {K : Frag} {a : Ad} {β : Bg}
theorem oi {g : G} {δ : Ds} {o : Out} (h : Gw g δ β (fun o' β' => o' = o /\ β' = β)) : g δ β = some (o, β) := by
 obtain ⟨o', β', e, rfl, rfl⟩ := h
 exact e
theorem uh : ∀ (y x : Nat) (s2 : Option Sl) (β : Bg), ∃ s2', br (fB (f2 (gtD) (aa 1) (fC (.int 0)))) (ai (aI 2 (f2 ku (aa 0) (aa 1))) (ai (aI 0 (aa 1)) (aI 1 (aa 2)))) (y + 1) [some (.sh (.int x)), some (.sh (.int y)), s2] β = some (.nx [some (.sh (.int (Nat.gcd x y : Nat))), some (.sh (.int 0)), s2'], β) := by
 intro y
 induction y using Nat.strongRecOn with
 | ind y ih =>
  intro x s2 β
  by_cases hy : y = 0
  ·subst hy
   refine ⟨s2, ?_⟩
   unfold br
   simp only [aa, fC, f2, fB, M.bind, M.ret, M.ofO, vw, vwA, List.map_cons, List.map_nil, List.getD_cons_zero, List.getD_cons_succ, gZ, asB, Int.natCast_zero, Int.lt_irrefl, decide_false, Nat.gcd_zero_right]
  ·have h0 : (0 : Int) < (y : Int) := by omega
   have hm : (x : Int) % (y : Int) = ((x % y : Nat) : Int) := by simp
   obtain ⟨s2', step⟩ := ih (x % y) (Nat.mod_lt _ (by omega)) y (some (.sh (.int ((x % y : Nat) : Int)))) β
   have step := gS step (show x % y + 1 <= y from Nat.mod_lt _ (by omega))
   have eg : Nat.gcd y (x % y) = Nat.gcd x y := by rw [Nat.gcd_comm x y, Nat.gcd_rec y x, Nat.gcd_comm]
   rw [eg] at step
   refine ⟨s2', ?_⟩
   unfold br
   have t1 : fB (f2 (gtD) (aa 1) (fC (.int 0))) (vwA [some (.sh (.int x)), some (.sh (.int y)), s2]) β = some (.ok true, β) := x_B (x_2 rfl rfl (by rw [gt_int, decide_eq_true h0]))
   have t2 : ai (aI 2 (f2 ku (aa 0) (aa 1))) (ai (aI 0 (aa 1)) (aI 1 (aa 2))) [some (.sh (.int x)), some (.sh (.int y)), s2] β = some (.nx [some (.sh (.int (y : Int))), some (.sh (.int ((x % y : Nat) : Int))), some (.sh (.int ((x % y : Nat) : Int)))], β) := oi (aK (d := .int ((x % y : Nat) : Int)) (β1 := β) (x_2 rfl rfl (by show (if decide ((0 : Int) < (y : Int)) = true then _ else _) = _; rw [decide_eq_true h0, if_pos rfl, hm])) (aK (d := .int (y : Int)) (β1 := β) rfl (au (aK (d := .int ((x % y : Nat) : Int)) (β1 := β) rfl (aZ ⟨rfl, rfl⟩)))))
   simp only [t1, t2, step]
theorem zc (x y : Nat) : m_l_gcd K a [.int x, .int y] β = some (.ok (.int (Nat.gcd x y : Nat)), β) := by
 obtain ⟨s2, l⟩ := uh y x none β
 refine aV ?_
 unfold mz
 exact fm (ur l) (au (aP rfl ⟨rfl, rfl⟩))
theorem oh {l : List Nat} (h : ∀ n ∈ l, 1 <= n /\ n <= 2 ^ 11) (hl : l.length <= 24) : 1 <= lcF l /\ lcF l < 2 ^ 1000 := ⟨(ui h).1, bP (ui h).2 (by omega)⟩
theorem lB {t n : Nat} (h1 : 1 <= t) (h2 : t < 2 ^ 1000) : 0 < Nat.gcd t n /\ Nat.gcd t n < 2 ^ 1000 := ⟨Nat.gcd_pos_of_pos_left _ h1, Nat.lt_of_le_of_lt (Nat.gcd_le_left _ h1) h2⟩
theorem AG {ns : List Nat} (h : ∀ n ∈ ns, 1 <= n /\ n <= 2 ^ 11) (hl : ns.length <= 24) : m_least_common K a [nL ns] β = some (.ok (.int ((lcF ns : Nat) : Int)), β) := by
 refine aV ?_
 unfold fh
 refine aK (d := .int 1) (β1 := β) rfl ?_
 refine bL (ds := (nI ns).map D.int) (β1 := β) rfl (fun i δ β' => β = β' /\ ∃ s2, δ = [some (.sh (nL ns)), some (.sh (.int ((lcF (ns.take i) : Nat) : Int))), s2]) ⟨rfl, none, rfl⟩ ?_ ?_
 ·rintro i d δ _ hd ⟨rfl, s2, rfl⟩
  obtain ⟨n, hn, rfl⟩ := f7 hd
  obtain ⟨n1, n2⟩ := h n (List.mem_of_getElem? hn)
  obtain ⟨t1, t2⟩ := oh (l := ns.take i) (fun x hx => h x (List.mem_of_mem_take hx)) (by rw [List.length_take]; omega)
  refine ⟨_, rfl, au (aK (x_2 (x_2 rfl rfl (cV t2 (sm n2))) (aD rfl (CT _ n)) (lN (lB t1 t2).1 (lB t1 t2).2)) (aZ ⟨rfl, some (.sh (.int (n : Int))), ?_⟩))⟩
  rw [g9 hn, qx]; rfl
 ·rintro δ _ ⟨rfl, s2, rfl⟩
  rw [dy, List.take_length]
  exact au (aP rfl ⟨rfl, rfl⟩)
def e9 (x : Nat) (ys : List Nat) : List Nat := (ys.filter fun y => decide (0 < x * y)).map fun y => x * y
def prodN (xs ys : List Nat) : List Nat := xs.flatMap fun x => e9 x ys
theorem pd {x y : Nat} (hx : x <= 40) (hy : y <= 40) : x * y <= 1600 := Nat.mul_le_mul hx hy
theorem qk {x : Nat} {ys : List Nat} (hx : x <= 40) (hy : ∀ y ∈ ys, y <= 40) : ∀ n ∈ e9 x ys, 1 <= n /\ n <= 2 ^ 11 := fun n hn => by
 obtain ⟨y, h1, rfl⟩ := List.mem_map.mp hn
 have := (List.mem_filter.mp h1).2
 rw [decide_eq_true_eq] at this
 have := pd hx (hy y (List.mem_filter.mp h1).1)
 omega
theorem oX {x : Nat} {ys : List Nat} : (e9 x ys).length <= ys.length := by unfold e9; rw [List.length_map]; exact List.length_filter_le _ _
theorem iD {xs ys : List Nat} (hx : ∀ x ∈ xs, x <= 40) (hy : ∀ y ∈ ys, y <= 40) : ∀ n ∈ prodN xs ys, 1 <= n /\ n <= 2 ^ 11 := fun n hn => by
 obtain ⟨x, h1, h2⟩ := List.mem_flatMap.mp hn
 exact qk (hx x h1) hy n h2
theorem gO {xs ys : List Nat} (hy : ys.length <= 6) : (prodN xs ys).length <= xs.length * 6 := by
 unfold prodN
 induction xs with
 | nil => simp
 | cons x xs ih =>
  rw [List.flatMap_cons, List.length_append, List.length_cons]
  have := oX (x := x) (ys := ys)
  omega
structure Ok2 (xs ys : List Nat) : Prop where
 lx : xs.length <= 4
 ly : ys.length <= 6
 hx : ∀ x ∈ xs, x <= 40
 hy : ∀ y ∈ ys, y <= 40
theorem u5 {xs ys : List Nat} (o : Ok2 xs ys) {i j x : Nat} (hx : x <= 40) (hi : i <= 3) : (∀ n ∈ prodN (xs.take i) ys ++ e9 x (ys.take j), 1 <= n /\ n <= 2 ^ 11) /\ (prodN (xs.take i) ys ++ e9 x (ys.take j)).length <= 24 := by
 refine ⟨fun n hn => ?_, ?_⟩
 ·rcases List.mem_append.mp hn with h | h
  ·exact iD (fun x hx => o.hx x (List.mem_of_mem_take hx)) o.hy n h
  ·exact qk hx (fun y hy => o.hy y (List.mem_of_mem_take hy)) n h
 ·rw [List.length_append]
  have h1 := gO (xs := xs.take i) o.ly
  have h2 := oX (x := x) (ys := ys.take j)
  rw [List.length_take] at h1 h2
  have := o.ly
  omega
theorem vv {xs ys : List Nat} (o : Ok2 xs ys) : m_l_even K a [nL xs, nL ys] β = some (.ok (.int ((lcF (prodN xs ys) : Nat) : Int)), β) := by
 have lx := o.lx
 refine aV ?_
 unfold kA
 refine aK (d := .int 1) (β1 := β) rfl ?_
 refine bL (ds := (nI xs).map D.int) (β1 := β) rfl (fun i δ β' => β = β' /\ ∃ s3 s4 s5, δ = [some (.sh (nL xs)), some (.sh (nL ys)), some (.sh (.int ((lcF (prodN (xs.take i) ys) : Nat) : Int))), s3, s4, s5]) ⟨rfl, none, none, none, rfl⟩ ?_ ?_
 ·rintro i d δ _ hd ⟨rfl, s3, s4, s5, rfl⟩
  obtain ⟨x, hx, rfl⟩ := f7 hd
  have hx40 := o.hx x (List.mem_of_getElem? hx)
  have hi : i < xs.length := (List.getElem?_eq_some_iff.mp hx).1
  refine ⟨[some (.sh (nL xs)), some (.sh (nL ys)), some (.sh (.int ((lcF (prodN (xs.take i) ys) : Nat) : Int))), some (.sh (.int (x : Int))), s4, s5], rfl, au ?_⟩
  refine bL (ds := (nI ys).map D.int) (β1 := β) rfl (fun j δ β' => β = β' /\ ∃ s4 s5, δ = [some (.sh (nL xs)), some (.sh (nL ys)), some (.sh (.int ((lcF (prodN (xs.take i) ys ++ e9 x (ys.take j)) : Nat) : Int))), some (.sh (.int (x : Int))), s4, s5]) ⟨rfl, s4, s5, by rw [List.take_zero]; show _ = [_, _, some (Sl.sh (D.int ((lcF (prodN (xs.take i) ys ++ []) : Nat) : Int))), _, _, _]; rw [List.append_nil]⟩ ?_ ?_
  ·rintro j d δ _ hd ⟨rfl, s4, s5, rfl⟩
   obtain ⟨y, hy, rfl⟩ := f7 hd
   have hy40 := o.hy y (List.mem_of_getElem? hy)
   have hxy := pd hx40 hy40
   obtain ⟨p1, p2⟩ := u5 o (i := i) (j := j) hx40 (by omega)
   obtain ⟨t1, t2⟩ := oh p1 p2
   have er : ∀ (q : Bool), decide (0 < x * y) = q -> prodN (xs.take i) ys ++ e9 x (ys.take (j + 1)) = (prodN (xs.take i) ys ++ e9 x (ys.take j)) ++ if q = true then [x * y] else [] := fun q hq => by
    unfold e9
    rw [g9 hy, List.filter_append, List.map_append, List.append_assoc]
    cases q <;> simp [hq]
   refine ⟨[some (.sh (nL xs)), some (.sh (nL ys)), some (.sh (.int ((lcF (prodN (xs.take i) ys ++ e9 x (ys.take j)) : Nat) : Int))), some (.sh (.int (x : Int))), some (.sh (.int (y : Int))), s5], rfl, ?_⟩
   refine aK (d := .int ((x * y : Nat) : Int)) (β1 := β) (x_2 rfl rfl (cV (sm (by omega)) (sm (by omega)))) (au (gq (c := decide (0 < x * y)) (β1 := β) (x_B (x_2 rfl rfl (gt_int.trans (by congr 2; simp only [decide_eq_decide]; omega)))) ?_))
   cases q : decide (0 < x * y) with
   | true =>
    rw [if_pos rfl, er true q]
    refine aK (x_2 (x_2 rfl rfl (cV t2 (sm (by omega)))) (aD rfl (zc _ (x * y))) (lN (lB t1 t2).1 (lB t1 t2).2)) (aZ ⟨rfl, some (.sh (.int (y : Int))), some (.sh (.int ((x * y : Nat) : Int))), ?_⟩)
    rw [if_pos rfl, qx]; rfl
   | false =>
    rw [if_neg Bool.false_ne_true, er false q]
    refine aQ (aZ ⟨rfl, some (.sh (.int (y : Int))), some (.sh (.int ((x * y : Nat) : Int))), ?_⟩)
    rw [if_neg Bool.false_ne_true, List.append_nil]; rfl
  ·rintro δ _ ⟨rfl, s4, s5, rfl⟩
   rw [dy, List.take_length]
   refine aZ ⟨rfl, some (.sh (.int (x : Int))), s4, s5, ?_⟩
   have : prodN (xs.take (i + 1)) ys = prodN (xs.take i) ys ++ e9 x ys := by
    unfold prodN
    rw [g9 hx, List.flatMap_append]
    simp
   rw [this]
 ·rintro δ _ ⟨rfl, s3, s4, s5, rfl⟩
  rw [dy, List.take_length]
  exact au (aP rfl ⟨rfl, rfl⟩)
end
end Law
set_option maxHeartbeats 4000000
namespace Law
open PySem L2 L2.Pu
section
variable {K : Frag} {a : Ad} {β : Bg}
abbrev zsN (l xs : List Nat) (y : Nat) : List (Nat × Nat) := l.zip (xs.map fun x => x * y)
def sqF (e : Nat) (z : Nat × Nat) : Nat := if 0 < z.2 then z.1 * z.1 * e / z.2 else 0
def offF (T : Nat) (z : Nat × Nat) : Nat := (((z.1 * T : Nat) : Int) - (z.2 : Int)).natAbs
def sqN (e : Nat) (l xs : List Nat) (y : Nat) : Nat := ((zsN l xs y).map (sqF e)).sum
def offN (T : Nat) (l xs : List Nat) (y : Nat) : Nat := ((zsN l xs y).map (offF T)).sum
theorem qP {l xs : List Nat} {y : Nat} {z : Nat × Nat} (hl : l.sum <= 40) (hx : ∀ x ∈ xs, x <= 40) (hy : y <= 40) (h : z ∈ zsN l xs y) : z.1 <= 40 /\ z.2 <= 1600 := by
 have h1 := List.of_mem_zip h
 obtain ⟨x, hx', e⟩ := List.mem_map.mp h1.2
 exact ⟨Nat.le_trans (eA h1.1) hl, by rw [← e]; exact pd (hx x hx') hy⟩
theorem zX {e : Nat} {n p : Nat} (he : e < 2 ^ 1000) (hn : n <= 40) (hp : p <= 1600) (h0 : 0 < p) {f g h : Dn -> M D} {δ : Dn} (e1 : f δ β = some (.ok (.int (n : Int)), β)) (e2 : g δ β = some (.ok (.int (e : Int)), β)) (e3 : h δ β = some (.ok (.int (p : Int)), β)) :
  f2 eM (f2 bb (f2 bb f f) g) h δ β = some (.ok (.int ((sqF e (n, p) : Nat) : Int)), β) := by
 have hnn := pd hn hn
 unfold sqF
 rw [if_pos h0]
 exact x_2 (x_2 (x_2 e1 e1 (cV (sm (by omega)) (sm (by omega)))) e2 (cV (sm (by omega)) he)) e3 (lN h0 (sm (by omega)))
theorem ym {T n p : Nat} (hT : T <= 40) (hn : n <= 40) {f g h : Dn -> M D} {δ : Dn} (e1 : f δ β = some (.ok (.int (n : Int)), β)) (e2 : g δ β = some (.ok (.int (T : Int)), β)) (e3 : h δ β = some (.ok (.int (p : Int)), β)) :
  ao fY (ad (f2 kl (f2 bb f g) h) ah) δ β = some (.ok (.int ((offF T (n, p) : Nat) : Int)), β) := by
 refine bq (am (x_2 (x_2 e1 e2 (cV (sm (by omega)) (sm (by omega)))) e3 rfl) rfl) ?_
 show some (D.int (if _ then _ else _)) = some (D.int (((((n * T : Nat) : Int) - (p : Int)).natAbs : Nat) : Int))
 congr 2
 by_cases q : ((n * T : Nat) : Int) - (p : Int) < 0
 ·rw [if_pos q]; omega
 ·rw [if_neg q]; omega
theorem xD {l m : List Nat} {cd : D} (hs : Sq l cd) {f g : Dn -> M D} {δ : Dn} (e1 : f δ β = some (.ok cd, β)) (e2 : g δ β = some (.ok (nL m), β)) : d5 (ad f (ad g ah)) δ β = some (.ok ((l.zip m).map fun z => D.tup [.int (z.1 : Int), .int (z.2 : Int)]), β) := by
 have h : d5 (ad f (ad g ah)) δ β = some (.ok (cF ((nI l).map D.int) ((nI m).map D.int)), β) := by
  rcases hs with rfl | rfl
  ·exact cG (am e1 (am e2 rfl)) rfl
  ·exact cG (am e1 (am e2 rfl)) rfl
 rw [h, List.map_map, List.map_map]
 exact congrArg (fun z => some (Except.ok z, β)) (oy ..)
theorem pD {α : Type} {p : α -> Bool} {g : α -> Nat} : ∀ l : List α, ((l.filter p).map g).sum = (l.map fun x => if p x = true then g x else 0).sum
 | [] => rfl
 | x :: l => by
  rw [List.filter_cons, List.map_cons, List.sum_cons, ← pD l]
  by_cases q : p x = true
  ·rw [if_pos q, if_pos q, List.map_cons, List.sum_cons]
  ·rw [if_neg q, if_neg q, Nat.zero_add]
theorem pb {α : Type} (g : α -> Nat) (l : List α) : D.lst (l.map fun x => D.int ((g x : Nat) : Int)) = nL (l.map g) := by
 show _ = D.lst (((l.map g).map _).map _)
 rw [List.map_map, List.map_map]; rfl
theorem sR {l xs : List Nat} {y : Nat} (h : l.length <= 1000) : (zsN l xs y).length <= 1000 := by rw [List.length_zip]; omega
theorem tI {e : Nat} {l xs : List Nat} {y : Nat} {cd : D} (hs : Sq l cd) (hl : l.sum <= 40) (ll : l.length <= 4) (hx : ∀ x ∈ xs, x <= 40) (hy : y <= 40) (he : e < 2 ^ 1000) : m_square_part K a [cd, nL (xs.map fun x => x * y), .int (e : Int)] β = some (.ok (.int ((sqN e l xs y : Nat) : Int)), β) := by
 refine aV ?_
 unfold fV
 have c := vU (nv := 2) (caps := [2]) (it := d5 (ad (aa 0) (ad (aa 1) (ah)))) (tg := tgT (da (tgC 0) (da (tgC 1) gt))) (tt := fB (f2 (gtD) (aa 1) (fC (.int 0)))) (f := f2 eM (f2 bb (f2 bb (aa 0) (aa 0)) (aa 2)) (aa 1)) (δ := [some cd, some (nL (xs.map fun x => x * y)), some (.int (e : Int))]) (β := β) (zsN l xs y) (fun z => D.tup [.int (z.1 : Int), .int (z.2 : Int)]) (fun z => D.int ((sqF e z : Nat) : Int)) (fun z => decide (0 < z.2)) (xD hs rfl rfl)
  (fun z hz => ⟨[some (.int (z.1 : Int)), some (.int (z.2 : Int)), some (.int (e : Int))], rfl, x_B (x_2 rfl rfl (gt_int.trans (by congr 2; simp only [decide_eq_decide]; omega))), fun q => zX he (qP hl hx hy hz).1 (qP hl hx hy hz).2 (of_decide_eq_true q) rfl rfl rfl⟩) (cW (sR (by omega)))
 rw [pb] at c
 refine au (aP (bq (am c rfl) (js _)) ⟨rfl, ?_⟩)
 rw [pD]
 unfold sqN
 congr 4
 refine List.map_congr_left fun z _ => ?_
 unfold sqF
 by_cases q : 0 < z.2
 ·simp [q]
 ·simp [q]
theorem yY {T : Nat} {l xs : List Nat} {y : Nat} {cd : D} (hs : Sq l cd) (hl : l.sum <= 40) (ll : l.length <= 4) (hx : ∀ x ∈ xs, x <= 40) (hy : y <= 40) (hT : T <= 40) : m_off_part K a [cd, nL (xs.map fun x => x * y), .int (T : Int)] β = some (.ok (.int ((offN T l xs y : Nat) : Int)), β) := by
 refine aV ?_
 unfold iN
 have c := d8 (nv := 2) (caps := [2]) (it := d5 (ad (aa 0) (ad (aa 1) (ah)))) (tg := tgT (da (tgC 0) (da (tgC 1) gt))) (f := ao fY (ad (f2 kl (f2 bb (aa 0) (aa 2)) (aa 1)) (ah))) (δ := [some cd, some (nL (xs.map fun x => x * y)), some (.int (T : Int))]) (β := β) (zsN l xs y) (fun z => D.tup [.int (z.1 : Int), .int (z.2 : Int)]) (fun z => D.int ((offF T z : Nat) : Int)) (xD hs rfl rfl)
  (fun z hz => ⟨[some (.int (z.1 : Int)), some (.int (z.2 : Int)), some (.int (T : Int))], rfl, ym hT (qP hl hx hy hz).1 rfl rfl rfl⟩) (cW (sR (by omega)))
 rw [pb] at c
 exact au (aP (bq (am c rfl) (js _)) ⟨rfl, rfl⟩)
structure Cols (r c : Nat) (xs ys : List Nat) (cs : List (List Nat)) : Prop where
 ok : Ok2 xs ys
 lx : xs.length = r
 ly : ys.length = c
 lc : cs.length = c
 len : ∀ l ∈ cs, l.length = r
 le : ∀ l ∈ cs, l.sum <= 40
 tot : (cs.map List.sum).sum <= 40
 tx : xs.sum <= 40
abbrev RS (f : Nat -> Nat) (n : Nat) : Nat := ((List.range n).map f).sum
abbrev RP (f : Nat -> Nat) (n : Nat) : Nat := pr ((List.range n).map f)
theorem mT (f : Nat -> Nat) (n : Nat) : RS f (n + 1) = RS f n + f n := by unfold RS; rw [List.range_succ, List.map_append, List.sum_append]; simp
theorem qN (f : Nat -> Nat) (n : Nat) : RP f (n + 1) = RP f n * f n := by unfold RP; rw [List.range_succ, List.map_append, tU]; simp [pr]
theorem cf {α : Type} {l : List α} {i : Nat} {x d : α} (h : l[i]? = some x) : l.getD i d = x := by rw [List.getD_eq_getElem?_getD, h]; rfl
theorem eF {l : List Nat} {i n : Nat} (h : l[i]? = some n) : ixD (nL l) (.int (i : Int)) = some (.int (n : Int)) := jY (by rw [List.getElem?_map, List.getElem?_map, h]; rfl)
theorem qI {l : List Nat} {i : Nat} {d : D} (h : (cy 0 ((nI l).map D.int))[i]? = some d) : ∃ n, l[i]? = some n /\ d = .tup [.int (i : Int), .int (n : Int)] := by
 obtain ⟨x, hx, rfl⟩ := j3 h
 obtain ⟨n, hn, rfl⟩ := f7 hx
 exact ⟨n, hn, rfl⟩
theorem xC {l xs : List Nat} {i n x y : Nat} (h1 : l[i]? = some n) (h2 : xs[i]? = some x) : (zsN l xs y)[i]? = some (n, x * y) := by
 rw [List.getElem?_zip_eq_some]
 exact ⟨h1, by rw [List.getElem?_map, h2]; rfl⟩
theorem eQ {α : Type} {l : List α} {i : Nat} (h : i < l.length) : ∃ x, l[i]? = some x := ⟨_, List.getElem?_eq_getElem h⟩
abbrev sqS (xs ys : List Nat) (cs : List (List Nat)) (e t : Nat) (s5 s6 s7 s8 s9 : Option Sl) : Ds := [some (.sh (nL xs)), some (.sh (nL ys)), some (.sh (cL cs)), some (.sh (.int (e : Int))), some (.sh (.int (t : Int))), s5, s6, s7, s8, s9]
theorem rD {r c : Nat} {xs ys : List Nat} {cs : List (List Nat)} (C : Cols r c xs ys cs) : m_l_square K a [nL xs, nL ys, cL cs] β = some (.ok (.int ((RS (fun j => sqN (lcF (prodN xs ys)) (cs.getD j []) xs (ys.getD j 0)) c : Nat) : Int)), β) := by
 have he := oh (iD C.ok.hx C.ok.hy) (by have := gO (xs := xs) C.ok.ly; have := C.ok.lx; omega)
 refine aV ?_
 unfold iP
 refine aK (d := .int ((lcF (prodN xs ys) : Nat) : Int)) (β1 := β) (aD rfl (vv C.ok)) ?_
 generalize lcF (prodN xs ys) = e at he
 refine aK (d := .int 0) (β1 := β) rfl ?_
 refine bL (ds := cy 0 (cs.map nL)) (β1 := β) rfl (fun j δ β' => β = β' /\ ∃ s5 s6 s7 s8 s9, δ = sqS xs ys cs e (RS (fun j => sqN e (cs.getD j []) xs (ys.getD j 0)) j) s5 s6 s7 s8 s9) ⟨rfl, none, none, none, none, none, rfl⟩ ?_ ?_
 ·rintro j d δ _ hd ⟨rfl, s5, s6, s7, s8, s9, rfl⟩
  obtain ⟨d', hd', rfl⟩ := j3 hd
  obtain ⟨l, hl, rfl⟩ := fN hd'
  have hj : j < c := by rw [← C.lc]; exact (List.getElem?_eq_some_iff.mp hl).1
  obtain ⟨y, hy⟩ := eQ (l := ys) (i := j) (by rw [C.ly]; exact hj)
  have hlm := List.mem_of_getElem? hl
  have hy40 := C.ok.hy y (List.mem_of_getElem? hy)
  refine ⟨sqS xs ys cs e (RS (fun j => sqN e (cs.getD j []) xs (ys.getD j 0)) j) (some (.sh (.int (j : Int)))) (some (.sh (nL l))) s7 s8 s9, rfl, au ?_⟩
  rw [mT, cf hl, cf hy]
  refine bL (ds := cy 0 ((nI l).map D.int)) (β1 := β) rfl (fun i δ β' => β = β' /\ ∃ s7 s8 s9, δ = sqS xs ys cs e (RS (fun j => sqN e (cs.getD j []) xs (ys.getD j 0)) j + (((zsN l xs y).take i).map (sqF e)).sum) (some (.sh (.int (j : Int)))) (some (.sh (nL l))) s7 s8 s9) ⟨rfl, s7, s8, s9, by rw [List.take_zero, List.map_nil, List.sum_nil, Nat.add_zero]⟩ ?_ ?_
  ·rintro i d δ _ hd ⟨rfl, s7, s8, s9, rfl⟩
   obtain ⟨n, hn, rfl⟩ := qI hd
   have hi : i < r := by rw [← C.len l hlm]; exact (List.getElem?_eq_some_iff.mp hn).1
   obtain ⟨x, hx⟩ := eQ (l := xs) (i := i) (by rw [C.lx]; exact hi)
   have hx40 := C.ok.hx x (List.mem_of_getElem? hx)
   have hxy := pd hx40 hy40
   have hn40 := d4 (C.le l hlm) hn
   rw [lW (f := sqF e) (xC hn hx), ← Nat.add_assoc]
   generalize RS (fun j => sqN e (cs.getD j []) xs (ys.getD j 0)) j + (((zsN l xs y).take i).map (sqF e)).sum = t
   refine ⟨sqS xs ys cs e t (some (.sh (.int (j : Int)))) (some (.sh (nL l))) (some (.sh (.int (i : Int)))) (some (.sh (.int (n : Int)))) s9, rfl, ?_⟩
   refine aK (d := .int ((x * y : Nat) : Int)) (β1 := β) (x_2 (x_2 rfl rfl (eF hx)) (x_2 rfl rfl (eF hy)) (cV (sm (by omega)) (sm (by omega)))) (au (gq (c := decide (0 < x * y)) (β1 := β) (x_B (x_2 rfl rfl (gt_int.trans (by congr 2; simp only [decide_eq_decide]; omega)))) ?_))
   by_cases q : 0 < x * y
   ·rw [if_pos (decide_eq_true q)]
    exact aK (x_2 rfl (zX he.2 hn40 (by omega) q rfl rfl rfl) xw) (aZ ⟨rfl, _, _, _, rfl⟩)
   ·rw [if_neg (by simpa using q)]
    refine aQ (aZ ⟨rfl, some (.sh (.int (i : Int))), some (.sh (.int (n : Int))), some (.sh (.int ((x * y : Nat) : Int))), ?_⟩)
    unfold sqF
    rw [if_neg q, Nat.add_zero]; rfl
  ·rintro δ _ ⟨rfl, s7, s8, s9, rfl⟩
   refine aZ ⟨rfl, some (.sh (.int (j : Int))), some (.sh (nL l)), s7, s8, s9, ?_⟩
   rw [dC, dy, List.take_of_length_le (by rw [List.length_zip]; omega)]; rfl
 ·rintro δ _ ⟨rfl, s5, s6, s7, s8, s9, rfl⟩
  rw [dC, List.length_map, C.lc]
  exact au (aP rfl ⟨rfl, rfl⟩)
abbrev ofS (xs ys : List Nat) (cs : List (List Nat)) (t T : Nat) (s5 s6 s7 s8 s9 : Option Sl) : Ds := [some (.sh (nL xs)), some (.sh (nL ys)), some (.sh (cL cs)), some (.sh (.int (t : Int))), some (.sh (.int (T : Int))), s5, s6, s7, s8, s9]
theorem zb {r c : Nat} {xs ys : List Nat} {cs : List (List Nat)} (C : Cols r c xs ys cs) : m_l_off K a [nL xs, nL ys, cL cs] β = some (.ok (.int ((RS (fun j => offN xs.sum (cs.getD j []) xs (ys.getD j 0)) c : Nat) : Int)), β) := by
 refine aV ?_
 unfold my
 refine aK (d := .int 0) (β1 := β) rfl ?_
 refine aK (d := .int ((xs.sum : Nat) : Int)) (β1 := β) (bq rfl (js xs)) ?_
 have hT := C.tx
 generalize xs.sum = T at hT
 refine bL (ds := cy 0 (cs.map nL)) (β1 := β) rfl (fun j δ β' => β = β' /\ ∃ s5 s6 s7 s8 s9, δ = ofS xs ys cs (RS (fun j => offN T (cs.getD j []) xs (ys.getD j 0)) j) T s5 s6 s7 s8 s9) ⟨rfl, none, none, none, none, none, rfl⟩ ?_ ?_
 ·rintro j d δ _ hd ⟨rfl, s5, s6, s7, s8, s9, rfl⟩
  obtain ⟨d', hd', rfl⟩ := j3 hd
  obtain ⟨l, hl, rfl⟩ := fN hd'
  have hj : j < c := by rw [← C.lc]; exact (List.getElem?_eq_some_iff.mp hl).1
  obtain ⟨y, hy⟩ := eQ (l := ys) (i := j) (by rw [C.ly]; exact hj)
  have hlm := List.mem_of_getElem? hl
  have hy40 := C.ok.hy y (List.mem_of_getElem? hy)
  refine ⟨ofS xs ys cs (RS (fun j => offN T (cs.getD j []) xs (ys.getD j 0)) j) T (some (.sh (.int (j : Int)))) (some (.sh (nL l))) s7 s8 s9, rfl, au ?_⟩
  rw [mT, cf hl, cf hy]
  refine bL (ds := cy 0 ((nI l).map D.int)) (β1 := β) rfl (fun i δ β' => β = β' /\ ∃ s7 s8 s9, δ = ofS xs ys cs (RS (fun j => offN T (cs.getD j []) xs (ys.getD j 0)) j + (((zsN l xs y).take i).map (offF T)).sum) T (some (.sh (.int (j : Int)))) (some (.sh (nL l))) s7 s8 s9) ⟨rfl, s7, s8, s9, by rw [List.take_zero, List.map_nil, List.sum_nil, Nat.add_zero]⟩ ?_ ?_
  ·rintro i d δ _ hd ⟨rfl, s7, s8, s9, rfl⟩
   obtain ⟨n, hn, rfl⟩ := qI hd
   have hi : i < r := by rw [← C.len l hlm]; exact (List.getElem?_eq_some_iff.mp hn).1
   obtain ⟨x, hx⟩ := eQ (l := xs) (i := i) (by rw [C.lx]; exact hi)
   have hx40 := C.ok.hx x (List.mem_of_getElem? hx)
   have hn40 := d4 (C.le l hlm) hn
   rw [lW (f := offF T) (xC hn hx), ← Nat.add_assoc]
   generalize RS (fun j => offN T (cs.getD j []) xs (ys.getD j 0)) j + (((zsN l xs y).take i).map (offF T)).sum = t
   refine ⟨ofS xs ys cs t T (some (.sh (.int (j : Int)))) (some (.sh (nL l))) (some (.sh (.int (i : Int)))) (some (.sh (.int (n : Int)))) s9, rfl, ?_⟩
   exact aK (d := .int ((x * y : Nat) : Int)) (β1 := β) (x_2 (x_2 rfl rfl (eF hx)) (x_2 rfl rfl (eF hy)) (cV (sm (by omega)) (sm (by omega)))) (au (aK (x_2 rfl (ym hT hn40 rfl rfl rfl) xw) (aZ ⟨rfl, _, _, _, rfl⟩)))
  ·rintro δ _ ⟨rfl, s7, s8, s9, rfl⟩
   refine aZ ⟨rfl, some (.sh (.int (j : Int))), some (.sh (nL l)), s7, s8, s9, ?_⟩
   rw [dC, dy, List.take_of_length_le (by rw [List.length_zip]; omega)]; rfl
 ·rintro δ _ ⟨rfl, s5, s6, s7, s8, s9, rfl⟩
  rw [dC, List.length_map, C.lc]
  exact au (aP rfl ⟨rfl, rfl⟩)
end
end Law
set_option maxHeartbeats 4000000
namespace Law
open PySem L2 L2.Pu
inductive Kd where | rare | square | power | off | most | least
def Kd.nm : Kd -> Str
 | .rare => Str.ofString "rare" | .square => Str.ofString "square" | .power => Str.ofString "power" | .off => Str.ofString "off" | .most => Str.ofString "most" | .least => Str.ofString "least"
def Kd.isP : Kd -> Bool
 | .rare => true | .power => true | _ => false
def Kd.less : Kd -> Bool
 | .rare => true | .least => true | _ => false
def Kd.pl : Kd -> Bool
 | .most => true | .least => true | _ => false
section
variable {K : Frag} {a : Ad} {β : Bg}
def partF (k : Kd) (xs ys : List Nat) (p q j : Nat) (l : List Nat) : Nat := match k with
 | .rare => wayN l | .power => pwN l | .square => sqN (lcF (prodN xs ys)) l xs (ys.getD j 0) | .off => offN xs.sum l xs (ys.getD j 0) | _ => if j = q then l.getD p 0 else 0
def comb (k : Kd) (t n : Nat) : Nat := if k.isP = true then t * n else t + n
def totF (k : Kd) (f : Nat -> Nat) (n : Nat) : Nat := if k.isP = true then RP f n else RS f n
theorem mW (k : Kd) (f : Nat -> Nat) (n : Nat) : totF k f (n + 1) = comb k (totF k f n) (f n) := by
 unfold totF comb
 by_cases h : k.isP = true
 ·rw [if_pos h, if_pos h, if_pos h, qN]
 ·rw [if_neg h, if_neg h, if_neg h, mT]
abbrev pF (k : Kd) (xs ys : List Nat) (p q : Nat) (cs : List (List Nat)) : Nat -> Nat := fun j => partF k xs ys p q j (cs.getD j [])
theorem pN {cs : List (List Nat)} {g : List Nat -> Nat} {c n : Nat} (hc : cs.length = c) (hn : n <= c) : RP (fun j => g (cs.getD j [])) n = pr ((cs.take n).map g) := by
 induction n with
 | zero => rfl
 | succ n ih =>
  obtain ⟨l, hl⟩ := eQ (l := cs) (i := n) (by omega)
  rw [qN, ih (by omega), fc hl, cf hl]
theorem Aa {cs : List (List Nat)} (h : ∀ l ∈ cs, l.sum <= 40) : pr (cs.map pwN) <= 2 ^ (6 * (cs.map List.sum).sum) := by
 induction cs with
 | nil => decide
 | cons l cs ih =>
  show pwN l * pr (cs.map pwN) <= _
  rw [List.map_cons, List.sum_cons, Nat.mul_add, Nat.pow_add]
  refine Nat.mul_le_mul ?_ (ih fun x hx => h x (List.mem_cons_of_mem _ hx))
  exact xU fun x hx => Nat.le_trans (eA hx) (h l List.mem_cons_self)
theorem xR {cs : List (List Nat)} (h : ∀ l ∈ cs, l.sum <= 40) (i : Nat) : pr ((cs.take i).map pwN) <= 2 ^ (6 * ((cs.take i).map List.sum).sum) := Aa fun x hx => h x (List.mem_of_mem_take hx)
theorem kEq (k : Kd) : cM (.str k.nm) (.str (Str.ofString "rare")) = some (.bl (match k with | .rare => true | _ => false)) /\ cM (.str k.nm) (.str (Str.ofString "square")) = some (.bl (match k with | .square => true | _ => false)) /\ cM (.str k.nm) (.str (Str.ofString "off")) = some (.bl (match k with | .off => true | _ => false)) /\ cM (.str k.nm) (.str (Str.ofString "power")) = some (.bl (match k with | .power => true | _ => false)) /\ bY (.str k.nm) (.str (Str.ofString "power")) = some (.bl (match k with | .power => false | _ => true)) := by
 cases k <;> exact ⟨by kernel_rfl, by kernel_rfl, by kernel_rfl, by kernel_rfl, by kernel_rfl⟩
theorem kIn (k : Kd) : inD false (.str k.nm) (.tup [.str (Str.ofString "rare"), .str (Str.ofString "power")]) = some (.bl k.isP) /\ inD false (.str k.nm) (.tup [.str (Str.ofString "rare"), .str (Str.ofString "least")]) = some (.bl k.less) /\ inD false (.str k.nm) (.tup [.str (Str.ofString "most"), .str (Str.ofString "least")]) = some (.bl k.pl) /\ inD true (.str k.nm) (.tup [.str (Str.ofString "rare"), .str (Str.ofString "square"), .str (Str.ofString "power"), .str (Str.ofString "off"), .str (Str.ofString "most"), .str (Str.ofString "least")]) = some (.bl false) := by
 cases k <;> exact ⟨by kernel_rfl, by kernel_rfl, by kernel_rfl, by kernel_rfl⟩
theorem m5 {xs ys : List Nat} {p q : Nat} {cs : List (List Nat)} {k : Kd} (hk : k.pl = true) (n : Nat) : totF k (pF k xs ys p q cs) n = if q < n then (cs.getD q []).getD p 0 else 0 := by
 have hp : k.isP = false := by cases k <;> first | rfl | cases hk
 have e : ∀ j, pF k xs ys p q cs j = if j = q then (cs.getD j []).getD p 0 else 0 := fun j => by cases k <;> first | rfl | cases hk
 induction n with
 | zero =>
  unfold totF
  rw [if_neg (by rw [hp]; exact Bool.false_ne_true), if_neg (by omega)]; rfl
 | succ n ih =>
  rw [mW, ih, e]
  unfold comb
  rw [if_neg (by rw [hp]; exact Bool.false_ne_true)]
  by_cases h : n = q
  ·subst h
   rw [if_neg (by omega), if_pos rfl, if_pos (by omega), Nat.zero_add]
  ·rw [if_neg h, Nat.add_zero]
   by_cases h2 : q < n
   ·rw [if_pos h2, if_pos (by omega)]
   ·rw [if_neg h2, if_neg (by omega)]
theorem oC {r c p q : Nat} {xs ys : List Nat} {cs : List (List Nat)} (C : Cols r c xs ys cs) (hp : p < r) (hq : q < c) (k : Kd) : m_l_value K a [.str k.nm, nL xs, nL ys, .tup [.int (p : Int), .int (q : Int)], cL cs] β = some (.ok (.int ((totF k (pF k xs ys p q cs) c : Nat) : Int)), β) := by
 obtain ⟨k1, k2, k3, k4, k5⟩ := kEq k
 have lc : cs.length <= 6 := by have := C.ok.ly; have := C.ly; have := C.lc; omega
 have full : ∀ g : List Nat -> Nat, RP (fun j => g (cs.getD j [])) c = pr (cs.map g) := fun g => by rw [pN C.lc (Nat.le_refl _), List.take_of_length_le (by rw [C.lc]; exact Nat.le_refl _)]
 refine aV ?_
 unfold jE
 cases k with
 | rare => exact fq (x_B (x_2 rfl rfl k1)) (aP (aD rfl (sV (fun l hl => ⟨C.le l hl, by rw [C.len l hl]; have := C.ok.lx; have := C.lx; omega⟩) lc)) ⟨rfl, by show _ = Except.ok (D.int ((pr (cs.map wayN) : Nat) : Int)); rw [← full wayN]; rfl⟩)
 | square => exact aY (x_B (x_2 rfl rfl k1)) (aQ (fq (x_B (x_2 rfl rfl k2)) (aP (aD rfl (rD C)) ⟨rfl, rfl⟩)))
 | off => exact aY (x_B (x_2 rfl rfl k1)) (aQ (aY (x_B (x_2 rfl rfl k2)) (aQ (fq (x_B (x_2 rfl rfl k3)) (aP (aD rfl (zb C)) ⟨rfl, rfl⟩)))))
 | most =>
  obtain ⟨l, hl⟩ := eQ (l := cs) (i := q) (by rw [C.lc]; exact hq)
  obtain ⟨n, hn⟩ := eQ (l := l) (i := p) (by rw [C.len l (List.mem_of_getElem? hl)]; exact hp)
  refine aY (x_B (x_2 rfl rfl k1)) (aQ (aY (x_B (x_2 rfl rfl k2)) (aQ (aY (x_B (x_2 rfl rfl k3)) (aQ (fq (x_B (x_2 rfl rfl k5)) (aP (x_2 (x_2 rfl (x_2 rfl rfl pp) (jY (d := nL l) (by rw [List.getElem?_map, hl]; rfl))) (x_2 rfl rfl rJ) (eF hn)) ⟨rfl, ?_⟩)))))))
  rw [m5 rfl, if_pos hq, cf hl, cf hn]
 | least =>
  obtain ⟨l, hl⟩ := eQ (l := cs) (i := q) (by rw [C.lc]; exact hq)
  obtain ⟨n, hn⟩ := eQ (l := l) (i := p) (by rw [C.len l (List.mem_of_getElem? hl)]; exact hp)
  refine aY (x_B (x_2 rfl rfl k1)) (aQ (aY (x_B (x_2 rfl rfl k2)) (aQ (aY (x_B (x_2 rfl rfl k3)) (aQ (fq (x_B (x_2 rfl rfl k5)) (aP (x_2 (x_2 rfl (x_2 rfl rfl pp) (jY (d := nL l) (by rw [List.getElem?_map, hl]; rfl))) (x_2 rfl rfl rJ) (eF hn)) ⟨rfl, ?_⟩)))))))
  rw [m5 rfl, if_pos hq, cf hl, cf hn]
 | power =>
  refine aY (x_B (x_2 rfl rfl k1)) (aQ (aY (x_B (x_2 rfl rfl k2)) (aQ (aY (x_B (x_2 rfl rfl k3)) (aQ (aY (x_B (x_2 rfl rfl k5)) (aQ ?_)))))))
  refine aK (d := .int 1) (β1 := β) rfl ?_
  refine bL (ds := cs.map nL) (β1 := β) rfl (fun j δ β' => β = β' /\ ∃ s6 s7, δ = [some (.sh (.str Kd.power.nm)), some (.sh (nL xs)), some (.sh (nL ys)), some (.sh (.tup [.int (p : Int), .int (q : Int)])), some (.sh (cL cs)), some (.sh (.int ((pr ((cs.take j).map pwN) : Nat) : Int))), s6, s7]) ⟨rfl, none, none, rfl⟩ ?_ ?_
  ·rintro j d δ _ hd ⟨rfl, s6, s7, rfl⟩
   obtain ⟨l, hl, rfl⟩ := fN hd
   have h40 := C.le l (List.mem_of_getElem? hl)
   have bd := xR C.le j
   have b2 := q8 (f := List.sum) (l := cs) (j + 1)
   rw [lW hl] at b2
   have t40 := C.tot
   refine ⟨_, rfl, au ?_⟩
   refine bL (ds := (nI l).map D.int) (β1 := β) rfl (fun i δ β' => β = β' /\ ∃ s7, δ = [some (.sh (.str Kd.power.nm)), some (.sh (nL xs)), some (.sh (nL ys)), some (.sh (.tup [.int (p : Int), .int (q : Int)])), some (.sh (cL cs)), some (.sh (.int ((pr ((cs.take j).map pwN) * pr ((l.take i).map fun n => n ^ n) : Nat) : Int))), some (.sh (nL l)), s7]) ⟨rfl, s7, by rw [List.take_zero, List.map_nil, tT, Nat.mul_one]; rfl⟩ ?_ ?_
   ·rintro i d δ _ hd ⟨rfl, s7, rfl⟩
    obtain ⟨n, hn, rfl⟩ := f7 hd
    have b3 := Nat.mul_le_mul bd (o3 (i := i) h40)
    rw [← Nat.pow_add] at b3
    have := xH (l := l) i
    refine ⟨_, rfl, au (aK (x_2 rfl (aD rfl (uS (d4 h40 hn))) (cV (bP b3 (by omega)) (n9 (d4 h40 hn) (d4 h40 hn)))) (aZ ⟨rfl, some (.sh (.int (n : Int))), ?_⟩))⟩
    rw [fc (f := fun n => n ^ n) hn, ← Nat.mul_assoc]; rfl
   ·rintro δ _ ⟨rfl, s7, rfl⟩
    refine aZ ⟨rfl, some (.sh (nL l)), s7, ?_⟩
    rw [dy, List.take_length, fc hl]; rfl
  ·rintro δ _ ⟨rfl, s6, s7, rfl⟩
   rw [List.length_map, List.take_length]
   refine au (aP rfl ⟨rfl, ?_⟩)
   rw [← full pwN]; rfl
theorem y6 {α : Type} {it : Dn -> M (List D)} {tg : TgF} {tt : Dn -> M Bool} {f : Dn -> M D} {δ : Dn} (xs : List α) (u v : α -> D) (c : α -> Bool) (h1 : it δ β = some (.ok (xs.map u), β))
  (h2 : ∀ x ∈ xs, ∃ δ1, tg (u x) δ = some δ1 /\ tt δ1 β = some (.ok (c x), β) /\ f δ1 β = some (.ok (v x), β)) : cNx it tg tt (cEm f) δ β = some (.ok ((xs.filter c).map v), β) := by
 have gen : ∀ xs : List α, (∀ x ∈ xs, ∃ δ1, tg (u x) δ = some δ1 /\ tt δ1 β = some (.ok (c x), β) /\ f δ1 β = some (.ok (v x), β)) -> cLp tg tt (cEm f) (xs.map u) δ β = some (.ok ((xs.filter c).map v), β) := by
  intro xs
  induction xs with
  | nil => intro _; rfl
  | cons x xs ih =>
   intro h
   obtain ⟨δ1, e1, e0, e2⟩ := h x List.mem_cons_self
   have e3 := ih fun y hy => h y (List.mem_cons_of_mem _ hy)
   rw [List.map_cons, cLp]
   cases q : c x with
   | true =>
    rw [q] at e0
    simp only [e1, e0, M.bind, M.ret, reduceIte, cEm, e2, e3, List.filter_cons, q, List.map_cons, List.cons_append, List.nil_append]
   | false =>
    rw [q] at e0
    simp only [e1, e0, M.bind, M.ret, reduceIte, cEm, e2, e3, List.filter_cons, q, Bool.false_eq_true, List.map_cons, List.cons_append, List.nil_append]
 unfold cNx
 rw [M.bind_ok h1]
 exact gen xs h2
abbrev mNs : List Str := ["kind", "row_list", "column_list", "place", "even"]
abbrev mFs (k : Kd) (xs ys : List Nat) (p q : Nat) : List D := [.str k.nm, nL xs, nL ys, .tup [.int (p : Int), .int (q : Int)], .int ((lcF (prodN xs ys) : Nat) : Int)]
theorem AS {xs ys : List Nat} (o : Ok2 xs ys) {δ : Dn} (h2 : δ.getD 2 none = some (nL xs)) (h3 : δ.getD 3 none = some (nL ys)) : aA (m_least_common K a) (ad (aU 2 [3] (aX (aa 2)) (tgC 0) (fun _ => M.ret true) (cNx (aX (aa 2)) (tgC 1) (fB (f2 (gtD) (f2 bb (aa 0) (aa 1)) (fC (.int 0)))) (cEm (f2 bb (aa 0) (aa 1))))) (ah)) δ β = some (.ok (.int ((lcF (prodN xs ys) : Nat) : Int)), β) := by
 have hcs : cSt 2 [3] δ = [none, none, some (nL ys)] := by
  unfold cSt
  simp only [List.map_cons, List.map_nil, h3]; rfl
 have mu : ∀ x ∈ xs, ∀ y ∈ ys, bb (.int (x : Int)) (.int (y : Int)) = some (.int ((x * y : Nat) : Int)) := fun x hx y hy => cV (sm (by have := o.hx x hx; omega)) (sm (by have := o.hy y hy; omega))
 have e : aU 2 [3] (aX (aa 2)) (tgC 0) (fun _ => M.ret true) (cNx (aX (aa 2)) (tgC 1) (fB (f2 (gtD) (f2 bb (aa 0) (aa 1)) (fC (.int 0)))) (cEm (f2 bb (aa 0) (aa 1)))) δ β = some (.ok (.lst (xs.flatMap fun x => (ys.filter fun y => decide (0 < x * y)).map fun y => D.int ((x * y : Nat) : Int))), β) := by
  refine zt (nv := 2) (caps := [3]) xs (fun x => D.int (x : Int)) _ (gp (jK h2) (by show some _ = _; rw [List.map_map]; rfl)) (fun x hx => ⟨[some (.int (x : Int)), none, some (nL ys)], by rw [hcs]; rfl, y6 ys (fun y => D.int (y : Int)) _ _ (by show some (Except.ok ((nI ys).map D.int), β) = _; rw [List.map_map]; rfl) (fun y hy => ⟨[some (.int (x : Int)), some (.int (y : Int)), some (nL ys)], rfl, x_B (x_2 (x_2 rfl rfl (mu x hx y hy)) rfl (gt_int.trans (by congr 2; simp only [decide_eq_decide]; omega))), x_2 rfl rfl (mu x hx y hy)⟩)⟩) (cW ?_)
  have := ut (f := fun x : Nat => (ys.filter fun y => decide (0 < x * y)).map fun y => D.int ((x * y : Nat) : Int)) (n := 6) (l := xs) fun x _ => by
   rw [List.length_map]
   have := List.length_filter_le (fun y => decide (0 < x * y)) ys
   have := o.ly
   omega
  have := o.lx
  omega
 have e2 : D.lst (xs.flatMap fun x => (ys.filter fun y => decide (0 < x * y)).map fun y => D.int ((x * y : Nat) : Int)) = nL (prodN xs ys) := by
  show _ = D.lst (((prodN xs ys).map _).map _)
  unfold prodN e9
  rw [List.map_map, List.map_flatMap]
  congr 2
  funext x
  rw [List.map_map]; rfl
 rw [e2] at e
 exact aD (am e rfl) (AG (iD o.hx o.hy) (by have := gO (xs := xs) o.ly; have := o.lx; omega))
theorem zx {p q r c : Nat} (hp : p < r) (hq : q < c) (hr : r <= 1000) (hc : c <= 1000) : m_check_cell K a [.int (p : Int), .int (q : Int), .int (r : Int), .int (c : Int)] β = some (.ok .non, β) := by
 refine aV ?_
 unfold gC
 refine kI (β1 := β) (d := .non) (aD rfl (by rw [oE (by omega) (by omega) (by omega) (by omega), if_pos (by omega)])) (au ?_)
 exact kI (β1 := β) (d := .non) (aD rfl (by rw [oE (by omega) (by omega) (by omega) (by omega), if_pos (by omega)])) (aZ ⟨rfl, rfl⟩)
theorem qw {xs ys : List Nat} {p q : Nat} (o : Ok2 xs ys) (hx : Sm (nI xs)) (hy : Sm (nI ys)) (hs : jQ (nI xs) (nI ys) = true) (hp : p < xs.length) (hq : q < ys.length) (k : Kd) : eE K a [.str k.nm, nL xs, nL ys, .tup [.int (p : Int), .int (q : Int)]] β = some (.ok (mFs k xs ys p q), β) := by
 have lx := o.lx
 have ly := o.ly
 obtain ⟨i1, i2, i3, i4⟩ := kIn k
 have e1 := vT (K := K) (a := a) (β := β) hx hy
 rw [if_pos hs] at e1
 let δ0 : Addr -> Ds := fun x => [some (.sh (.adr x)), some (.sh (.str k.nm)), some (.sh (nL xs)), some (.sh (nL ys)), some (.sh (.tup [.int (p : Int), .int (q : Int)]))]
 have el : ∀ {n : Nat} {zs : List Nat} {δ : Dn}, δ.getD n none = some (nL zs) -> ao bD (ad (aa n) ah) δ β = some (.ok (.int (zs.length : Int)), β) := fun {n zs δ} e => bq (am (jK e) rfl) (ig (by rw [List.length_map, List.length_map]))
 refine vF fun x => pq (x := x) (δ1 := δ0 x) (β1 := β) (oi (au (kI (β1 := β) (d := .non) (aD rfl e1) (aZ ⟨rfl, rfl⟩)))) rfl rfl (pq (x := x) (δ1 := δ0 x) (β1 := β) (oi (au (aY (β1 := β) (x_B (x_2 rfl rfl i4)) (aQ (aZ ⟨rfl, rfl⟩))))) rfl rfl (pq (x := x) (δ1 := δ0 x) (β1 := β) (oi (au (gq (c := k.pl) (β1 := β) (x_B (x_2 rfl rfl i3)) ?_))) rfl rfl ?_))
 ·cases k.pl with
  | true => exact kI (β1 := β) (d := .non) (aD (am (x_2 rfl rfl rJ) (am (x_2 rfl rfl pp) (am (el rfl) (am (el rfl) rfl)))) (zx hp hq (by omega) (by omega))) (aZ ⟨rfl, rfl⟩)
  | false => exact aQ (aZ ⟨rfl, rfl⟩)
 ·exact jA (d := .str k.nm) (β1 := β) (qT rfl rfl) (jA (d := nL xs) (β1 := β) (xE rfl (en _)) (jA (d := nL ys) (β1 := β) (xE rfl (en _)) (jA (d := .tup [.int (p : Int), .int (q : Int)]) (β1 := β) (qT rfl rfl) (jA (d := .int ((lcF (prodN xs ys) : Nat) : Int)) (β1 := β) (qT (AS o rfl rfl) rfl) rfl))))
abbrev mD (a : Ad) (k : Kd) (xs ys : List Nat) (p q : Nat) : D := .obj a.C_Measure mNs (mFs k xs ys p q)
theorem vX {xs ys : List Nat} {p q : Nat} (k : Kd) : dj K a [mD a k xs ys p q] β = some (.ok (.int ((totF k (fun _ => 0) 0 : Nat) : Int)), β) := by
 obtain ⟨i1, i2, i3, i4⟩ := kIn k
 refine aV ?_
 unfold eJ totF
 cases h : k.isP with
 | true => exact au (aP (qR (x_B (x_2 (bj rfl rfl) rfl (by rw [i1, h]))) rfl) ⟨rfl, rfl⟩)
 | false => exact au (aP (qS (x_B (x_2 (bj rfl rfl) rfl (by rw [i1, h]))) rfl) ⟨rfl, rfl⟩)
theorem pQ {xs ys : List Nat} {p q t n : Nat} (k : Kd) (h1 : k.isP = true -> t < 2 ^ 1000 /\ n < 2 ^ 1000) : bO K a [mD a k xs ys p q, .int (t : Int), .int (n : Int)] β = some (.ok (.int ((comb k t n : Nat) : Int)), β) := by
 obtain ⟨i1, i2, i3, i4⟩ := kIn k
 refine aV ?_
 unfold dA comb
 cases h : k.isP with
 | true => exact au (aP (qR (x_B (x_2 (bj rfl rfl) rfl (by rw [i1, h]))) (x_2 rfl rfl (cV (h1 h).1 (h1 h).2))) ⟨rfl, rfl⟩)
 | false => exact au (aP (qS (x_B (x_2 (bj rfl rfl) rfl (by rw [i1, h]))) (x_2 rfl rfl xw)) ⟨rfl, rfl⟩)
theorem yS {r c p q j y : Nat} {xs ys l : List Nat} {cs : List (List Nat)} {cd : D} (C : Cols r c xs ys cs) (hs : Sq l cd) (hl : cs[j]? = some l) (hp : p < r) (k : Kd) : dI K a [mD a k xs ys p q, .int (j : Int), cd] β = some (.ok (.int ((partF k xs ys p q j l : Nat) : Int)), β) := by
 obtain ⟨k1, k2, k3, k4, k5⟩ := kEq k
 obtain ⟨i1, i2, i3, i4⟩ := kIn k
 have hlm := List.mem_of_getElem? hl
 have h40 := C.le l hlm
 have hj : j < c := by rw [← C.lc]; exact (List.getElem?_eq_some_iff.mp hl).1
 obtain ⟨y, hy⟩ := eQ (l := ys) (i := j) (by rw [C.ly]; exact hj)
 have hy40 := C.ok.hy y (List.mem_of_getElem? hy)
 have l4 : l.length <= 4 := by rw [C.len l hlm]; have := C.ok.lx; have := C.lx; omega
 have he := oh (iD C.ok.hx C.ok.hy) (by have := gO (xs := xs) C.ok.ly; have := C.ok.lx; omega)
 have pc : aU 1 [0, 1] (aX (f1 (cK a.C_Measure "row_list") (aa 0))) (tgC 0) (fun _ => M.ret true) (cEm (f2 bb (aa 0) (f2 ixD (f1 (cK a.C_Measure "column_list") (aa 1)) (aa 2)))) [some (mD a k xs ys p q), some (.int (j : Int)), some cd, none] β = some (.ok (nL (xs.map fun x => x * y)), β) := by
  rw [← pb]
  exact d8 (nv := 1) (caps := [0, 1]) xs (fun x => D.int (x : Int)) _ (gp (bj rfl rfl) (by show some _ = _; rw [List.map_map]; rfl)) (fun x hx => ⟨[some (.int (x : Int)), some (mD a k xs ys p q), some (.int (j : Int))], rfl, x_2 rfl (x_2 (bj rfl rfl) rfl (eF hy)) (cV (sm (by have := C.ok.hx x hx; omega)) (sm (by omega)))⟩) (cW (by have := C.ok.lx; omega))
 have place : k.pl = true -> partF k xs ys p q j l = (if j = q then l.getD p 0 else 0) := fun z => by cases k <;> first | rfl | cases z
 refine aV ?_
 unfold fj
 have pl : k.pl = true -> ∀ {h : G}, Gw (ai (aE (fIf (fB (f2 (cM) (aa 1) (f2 ixD (f1 (cK a.C_Measure "place") (aa 0)) (fC (.int 1))))) (f2 ixD (aa 2) (f2 ixD (f1 (cK a.C_Measure "place") (aa 0)) (fC (.int 0)))) (fC (.int 0)))) h) (stD 4 [mD a k xs ys p q, .int (j : Int), cd]) β (fun o β' => β' = β /\ (match o with | .rt d => (Except.ok (D.int ((partF k xs ys p q j l : Nat) : Int)) : Except Addr D) = .ok d | .nx _ => (Except.ok (D.int ((partF k xs ys p q j l : Nat) : Int)) : Except Addr D) = .ok .non | .ex C _ => (Except.ok (D.int ((partF k xs ys p q j l : Nat) : Int)) : Except Addr D) = .error C | _ => False)) := fun z h => by
  rw [place z]
  by_cases w : j = q
  ·obtain ⟨n, hn⟩ := eQ (l := l) (i := p) (by rw [C.len l hlm]; exact hp)
   refine aP (qR (x_B (x_2 rfl (x_2 (bj rfl rfl) rfl pp) (eq_int.trans (by rw [decide_eq_true (by omega)])))) (x_2 rfl (x_2 (bj rfl rfl) rfl rJ) ?_)) ⟨rfl, by rw [if_pos w, cf hn]⟩
   rcases hs with rfl | rfl
   ·exact eF hn
   ·exact eF hn
  ·exact aP (qS (x_B (x_2 rfl (x_2 (bj rfl rfl) rfl pp) (eq_int.trans (by rw [decide_eq_false (by omega)])))) rfl) ⟨rfl, by rw [if_neg w]; rfl⟩
 cases k with
 | rare => exact fq (x_B (x_2 (bj rfl rfl) rfl k1)) (aP (aD rfl (yp hs h40)) ⟨rfl, rfl⟩)
 | power => exact aY (x_B (x_2 (bj rfl rfl) rfl k1)) (aQ (fq (x_B (x_2 (bj rfl rfl) rfl k4)) (aP (aD rfl (u6 hs h40)) ⟨rfl, rfl⟩)))
 | most => exact aY (x_B (x_2 (bj rfl rfl) rfl k1)) (aQ (aY (x_B (x_2 (bj rfl rfl) rfl k4)) (aQ (fq (x_B (x_2 (bj rfl rfl) rfl i3)) (pl rfl)))))
 | least => exact aY (x_B (x_2 (bj rfl rfl) rfl k1)) (aQ (aY (x_B (x_2 (bj rfl rfl) rfl k4)) (aQ (fq (x_B (x_2 (bj rfl rfl) rfl i3)) (pl rfl)))))
 | square =>
  refine aY (x_B (x_2 (bj rfl rfl) rfl k1)) (aQ (aY (x_B (x_2 (bj rfl rfl) rfl k4)) (aQ (aY (x_B (x_2 (bj rfl rfl) rfl i3)) (aQ ?_)))))
  refine aK (d := nL (xs.map fun x => x * y)) (β1 := β) pc (fq (x_B (x_2 (bj rfl rfl) rfl k2)) (aP (aD (am rfl (am rfl (am (bj rfl rfl) rfl))) (tI hs h40 l4 C.ok.hx hy40 he.2)) ⟨rfl, ?_⟩))
  show Except.ok (D.int ((sqN _ l xs (ys.getD j 0) : Nat) : Int)) = _
  rw [cf hy]
 | off =>
  refine aY (x_B (x_2 (bj rfl rfl) rfl k1)) (aQ (aY (x_B (x_2 (bj rfl rfl) rfl k4)) (aQ (aY (x_B (x_2 (bj rfl rfl) rfl i3)) (aQ ?_)))))
  refine aK (d := nL (xs.map fun x => x * y)) (β1 := β) pc (aY (x_B (x_2 (bj rfl rfl) rfl k2)) (aQ (au (aP (aD (am rfl (am rfl (am (bq (am (bj rfl rfl) rfl) (js xs)) rfl))) (yY hs h40 l4 C.ok.hx hy40 C.tx)) ⟨rfl, ?_⟩))))
  show Except.ok (D.int ((offN _ l xs (ys.getD j 0) : Nat) : Int)) = _
  rw [cf hy]
theorem zJ {r c p q : Nat} {xs ys : List Nat} {cs : List (List Nat)} (C : Cols r c xs ys cs) {k : Kd} (h : k.isP = true) {n : Nat} (hn : n <= c) : totF k (pF k xs ys p q cs) n < 2 ^ 1000 := by
 have lc : cs.length <= 6 := by have := C.ok.ly; have := C.ly; have := C.lc; omega
 unfold totF
 rw [if_pos h]
 cases k with
 | rare => exact (pN (g := wayN) C.lc hn) ▸ bP (qc C.le lc) (by decide)
 | power => exact (pN (g := pwN) C.lc hn) ▸ bP (xR C.le n) (by have := q8 (f := List.sum) (l := cs) n; have := C.tot; omega)
 | _ => cases h
theorem yT {r c p q j : Nat} {xs ys l : List Nat} {cs : List (List Nat)} (C : Cols r c xs ys cs) {k : Kd} (h : k.isP = true) (hl : cs[j]? = some l) : partF k xs ys p q j l < 2 ^ 1000 := by
 have h40 := C.le l (List.mem_of_getElem? hl)
 cases k with
 | rare => exact bP (oB h40) (by decide)
 | power =>
  have := o3 (i := l.length) h40
  rw [List.take_length] at this
  exact bP this (by omega)
 | _ => cases h
theorem zK {r c p q j : Nat} {xs ys l : List Nat} {cs : List (List Nat)} (C : Cols r c xs ys cs) (hl : cs[j]? = some l) (k : Kd) : bO K a [mD a k xs ys p q, .int ((totF k (pF k xs ys p q cs) j : Nat) : Int), .int ((partF k xs ys p q j l : Nat) : Int)] β = some (.ok (.int ((totF k (pF k xs ys p q cs) (j + 1) : Nat) : Int)), β) := by
 have hj : j < c := by rw [← C.lc]; exact (List.getElem?_eq_some_iff.mp hl).1
 have e : pF k xs ys p q cs j = partF k xs ys p q j l := by show partF k xs ys p q j (cs.getD j []) = _; rw [cf hl]
 rw [pQ k fun h => ⟨zJ C h (by omega), yT C h hl⟩, mW, e]
theorem xV {r c p q : Nat} {xs ys : List Nat} {cs : List (List Nat)} {d : D} (C : Cols r c xs ys cs) (hp : p < r) (ht : ∀ β, m_rows_turned K a [d] β = some (.ok (cL cs), β)) (k : Kd) : cJ K a [mD a k xs ys p q, d] β = some (.ok (.int ((totF k (pF k xs ys p q cs) c : Nat) : Int)), β) := by
 refine aV ?_
 unfold gD
 refine aK (d := .int ((totF k (pF k xs ys p q cs) 0 : Nat) : Int)) (β1 := β) (g6 rfl rfl (vX k)) ?_
 refine bL (ds := cy 0 (cs.map nL)) (β1 := β) (cG (am (aD rfl (ht β)) rfl) rfl) (fun j δ β' => β = β' /\ ∃ s3 s4, δ = [some (.sh (mD a k xs ys p q)), some (.sh d), some (.sh (.int ((totF k (pF k xs ys p q cs) j : Nat) : Int))), s3, s4]) ⟨rfl, none, none, rfl⟩ ?_ ?_
 ·rintro j e δ _ he ⟨rfl, s3, s4, rfl⟩
  obtain ⟨d', hd', rfl⟩ := j3 he
  obtain ⟨l, hl, rfl⟩ := fN hd'
  exact ⟨_, rfl, au (aK (g6 rfl (am rfl (am (g6 rfl (am rfl (am rfl rfl)) (yS (y := 0) C (.inl rfl) hl hp k)) rfl)) (zK C hl k)) (aZ ⟨rfl, _, _, rfl⟩))⟩
 ·rintro δ _ ⟨rfl, s3, s4, rfl⟩
  rw [dC, List.length_map, C.lc]
  exact au (aP rfl ⟨rfl, rfl⟩)
end
end Law
set_option maxHeartbeats 4000000
namespace Law
open PySem L2 L2.Pu
section
theorem oK : ∀ {xs : List Int} {x : Int}, (∀ y ∈ xs, 0 <= y) -> x ∈ xs -> x <= xs.sum
 | [], _, _, h => by cases h
 | y :: ys, x, hn, h => by
  rw [List.sum_cons]
  have h1 := hn y List.mem_cons_self
  have h2 := kR fun z hz => hn z (List.mem_cons_of_mem y hz)
  rcases List.mem_cons.mp h with rfl | h
  ·omega
  ·have := oK (fun z hz => hn z (List.mem_cons_of_mem y hz)) h
   omega
theorem Tab.sm {r c : Nat} {rows : List (List Int)} (t : Tab r c rows) : Sm (rows.map List.sum) /\ Sm ((tp c rows).map List.sum) /\ jQ (rows.map List.sum) ((tp c rows).map List.sum) = true /\ (rows.map List.sum).sum = ((tp c rows).map List.sum).sum := by
 have r0 := t.r0
 have r1 := t.r1
 have c0 := t.c0
 have c1 := t.c1
 have l1 : (rows.map List.sum).length = r := by rw [List.length_map, t.shp.1]
 have l2 : ((tp c rows).map List.sum).length = c := by rw [List.length_map]; exact (jN (d := 0) t.shp.1).1
 have e : ((tp c rows).map List.sum).sum = (rows.map List.sum).sum := tj t.shp.2
 have t40 : (rows.map List.sum).sum <= 40 := t.tot
 have nn1 : ∀ x ∈ rows.map List.sum, 0 <= x := fun x hx => by
  obtain ⟨row, hr, rfl⟩ := List.mem_map.mp hx
  exact kR (t.nn row hr)
 have nn2 : ∀ x ∈ (tp c rows).map List.sum, 0 <= x := fun x hx => by
  obtain ⟨row, hr, rfl⟩ := List.mem_map.mp hx
  exact kR (Cj t.nn row hr)
 have le1 : ∀ x ∈ rows.map List.sum, x <= 40 := fun x hx => Int.le_trans (oK nn1 hx) t40
 have le2 : ∀ x ∈ (tp c rows).map List.sum, x <= 40 := fun x hx => Int.le_trans (oK nn2 hx) (by rw [e]; exact t40)
 refine ⟨⟨by omega, fun x hx => ?_⟩, ⟨by omega, fun x hx => ?_⟩, ?_, e.symm⟩
 ·have := nn1 x hx
  have := le1 x hx
  omega
 ·have := nn2 x hx
  have := le2 x hx
  omega
 ·unfold jQ
  have a1 : ((rows.map List.sum).any fun x => decide (x < 0)) = false := by
   rw [List.any_eq_false]
   intro x hx
   have := nn1 x hx
   simp only [decide_eq_true_eq]
   omega
  have a2 : (((tp c rows).map List.sum).any fun x => decide (x < 0)) = false := by
   rw [List.any_eq_false]
   intro x hx
   have := nn2 x hx
   simp only [decide_eq_true_eq]
   omega
  rw [a1, a2, l1, l2, e]
  simp only [Bool.and_eq_true, decide_eq_true_eq, Bool.not_eq_true', Bool.or_false, decide_eq_false_iff_not, and_true, true_and]
  refine ⟨⟨⟨by omega, by omega⟩, by omega, by omega⟩, by omega⟩
end
section
theorem vo {rows : List (List Int)} (h : ∀ row ∈ rows, ∀ x ∈ row, 0 <= x) : ∃ g : List (List Nat), rows = g.map nI := by
 refine ⟨rows.map fun row => row.map Int.toNat, ?_⟩
 rw [List.map_map]
 refine (List.map_id' rows).symm.trans (List.map_congr_left fun row hr => ?_)
 show row = (row.map Int.toNat).map _
 rw [List.map_map]
 refine (List.map_id' row).symm.trans (List.map_congr_left fun x hx => ?_)
 have := h row hr x hx
 show x = ((x.toNat : Nat) : Int)
 omega
theorem gi (g : List (List Nat)) : (g.map nI).map List.sum = nI (g.map List.sum) := by
 show _ = (g.map List.sum).map _
 rw [List.map_map, List.map_map]
 exact List.map_congr_left fun l _ => jt l
theorem kL (c : Nat) (g : List (List Nat)) : tp c (g.map nI) = (tpA 0 c g).map nI := (yx (fun (i : Nat) => (i : Int)) 0 c g).symm
theorem qC (cs : List (List Nat)) : bE (cs.map nI) = cL cs := by
 show D.lst (((cs.map nI).map _).map D.lst) = _
 rw [List.map_map, List.map_map]; rfl
theorem zu {r c : Nat} {g : List (List Nat)} (t : Tab r c (g.map nI)) : Cols r c (g.map List.sum) ((tpA 0 c g).map List.sum) (tpA 0 c g) /\ Sm (nI (g.map List.sum)) /\ Sm (nI ((tpA 0 c g).map List.sum)) /\ jQ (nI (g.map List.sum)) (nI ((tpA 0 c g).map List.sum)) = true := by
 obtain ⟨h1, h2, h3, h4⟩ := Tab.sm t
 have t40 : ((g.map nI).map List.sum).sum <= 40 := t.tot
 rw [kL, gi, gi] at h3 h4
 rw [kL, gi] at h2
 rw [gi] at h1 t40
 rw [jt] at t40 h4
 rw [jt] at h4
 have lg : g.length = r := by have := t.shp.1; rwa [List.length_map] at this
 have lc : (tpA 0 c g).length = c := (jN (d := 0) lg).1
 have x40 : (g.map List.sum).sum <= 40 := by omega
 have y40 : ((tpA 0 c g).map List.sum).sum <= 40 := by omega
 have r1 := t.r1
 have c1 := t.c1
 exact ⟨⟨⟨by rw [List.length_map]; omega, by rw [List.length_map]; omega, fun x hx => Nat.le_trans (eA hx) x40, fun y hy => Nat.le_trans (eA hy) y40⟩, by rw [List.length_map, lg], by rw [List.length_map, lc], lc, (jN (d := 0) lg).2, fun l hl => Nat.le_trans (eA (List.mem_map.mpr ⟨l, hl, rfl⟩)) y40, y40, x40⟩, h1, h2, h3⟩
end
section
variable {K : Frag} {a : Ad} {β : Bg}
theorem qz (ok : β.ok) : ∃ (k : Kd) (β' : Bg), m_l_kind K a [.bag] β = some (.ok (.str k.nm), β') /\ β'.ok := by
 obtain ⟨v, β1, p1, v0, v1, ok1⟩ := ei ok (lot := 6) (by decide) (by decide)
 have l6 : ∀ {β : Bg}, ao cU (ad (fC (.str (Str.ofString "rare"))) (ad (fC (.str (Str.ofString "square"))) (ad (fC (.str (Str.ofString "power"))) (ad (fC (.str (Str.ofString "off"))) (ad (fC (.str (Str.ofString "most"))) (ad (fC (.str (Str.ofString "least"))) (ah))))))) [some D.bag] β = some (.ok (.lst [.str Kd.rare.nm, .str Kd.square.nm, .str Kd.power.nm, .str Kd.off.nm, .str Kd.most.nm, .str Kd.least.nm]), β) := fun {β} => bq rfl (by
  unfold cU
  rw [if_pos (cW (by decide))]; rfl)
 have go : ∀ (k : Kd), ixD (.lst [.str Kd.rare.nm, .str Kd.square.nm, .str Kd.power.nm, .str Kd.off.nm, .str Kd.most.nm, .str Kd.least.nm]) (.int v) = some (.str k.nm) -> ∃ (k : Kd) (β' : Bg), m_l_kind K a [.bag] β = some (.ok (.str k.nm), β') /\ β'.ok := fun k e => by
  suffices q : ∃ x β'', m_l_kind K a [.bag] β = some (x, β'') /\ (x = .ok (.str k.nm) /\ β''.ok) by
   obtain ⟨x, β'', e2, rfl, ok2⟩ := q
   exact ⟨k, β'', e2, ok2⟩
  refine lQ ?_
  unfold kz
  exact au (aP (x_2 l6 (aD rfl p1) e) ⟨rfl, ok1⟩)
 have : v = 0 \/ v = 1 \/ v = 2 \/ v = 3 \/ v = 4 \/ v = 5 := by omega
 rcases this with rfl | rfl | rfl | rfl | rfl | rfl
 ·exact go .rare rfl
 ·exact go .square rfl
 ·exact go .power rfl
 ·exact go .off rfl
 ·exact go .most rfl
 ·exact go .least rfl
theorem u8 {r c : Nat} {rows : List (List Int)} (t : Tab r c rows) (ok : β.ok) : ∃ (p q : Nat) (β' : Bg), m_l_place K a [.bag, bE rows] β = some (.ok (.tup [.int (p : Int), .int (q : Int)]), β') /\ p < r /\ q < c /\ β'.ok := by
 have r0 := t.r0
 have r1 := t.r1
 have c0 := t.c0
 have c1 := t.c1
 obtain ⟨v, β1, p1, v0, v1, ok1⟩ := ei ok (lot := (r : Int)) (by omega) (by omega)
 obtain ⟨u, β2, p2, u0, u1, ok2⟩ := ei ok1 (lot := (c : Int)) (by omega) (by omega)
 obtain ⟨row0, hrow0, lrow0⟩ := t.shp.at (i := 0) (by omega)
 have hr0 : (gI rows)[0]? = some (row0.map D.int) := by rw [List.getElem?_map, hrow0]; rfl
 obtain ⟨p, rfl⟩ : ∃ p : Nat, v = (p : Int) := ⟨v.toNat, by omega⟩
 obtain ⟨q, rfl⟩ : ∃ q : Nat, u = (q : Int) := ⟨u.toNat, by omega⟩
 suffices z : ∃ x β'', m_l_place K a [.bag, bE rows] β = some (x, β'') /\ (x = .ok (.tup [.int (p : Int), .int (q : Int)]) /\ β''.ok) by
  obtain ⟨x, β'', e2, rfl, ok2⟩ := z
  exact ⟨p, q, β'', e2, by omega, by omega, ok2⟩
 refine lQ ?_
 unfold jF
 refine aK (d := .int (p : Int)) (β1 := β1) (aD (am rfl (am (bq rfl (AF (r := r) (by rw [List.length_map, t.shp.1]))) rfl)) p1) ?_
 exact au (aP (bq (am rfl (am (aD (am rfl (am (bq (am (x := .lst (row0.map D.int)) (x_2 rfl rfl (yd hr0)) rfl) (ig (r := c) (by rw [List.length_map, lrow0]))) rfl)) p2) rfl)) zG) ⟨rfl, ok2⟩)
end
section
variable {K : Frag} {a : Ad} {β : Bg}
theorem sW {i : Nat} {f : Dn -> M D} {d : D} {h : G} {δ : Ds} {β β1 : Bg} {Q : Out -> Bg -> Prop} (e : f (vwA δ) β = some (.ok d, β1)) (k : Gw h (δ.set i (some (.sh d))) β1 Q) : Gw (ai (j0 i f) h) δ β Q := fm (by unfold j0; rw [e]) k
theorem y7 {rows : List (List Int)} : bY (bE rows) (bE rows) = some (.bl false) := qv (pJ 2 (fun x hx => by
 obtain ⟨y, hy, rfl⟩ := List.mem_map.mp hx
 obtain ⟨row, hr, rfl⟩ := List.mem_map.mp hy
 intro z hz
 obtain ⟨i, _, rfl⟩ := List.mem_map.mp hz
 trivial) (by decide))
theorem lst2 {x y : D} : cU [x, y] = some (.lst [x, y]) := by
 unfold cU
 rw [if_pos (cW (by show 2 <= 1000; decide))]
theorem vy (β : Bg) (ok : β.ok) :
  ∃ β', lK K a [none, some (.sh .bag), none, none, none, none, none, none, none, none, none, none, none, none] β = some (.rt (.bl true), β') := by
 suffices h : Gw (lK K a) [none, some (.sh .bag), none, none, none, none, none, none, none, none, none, none, none, none] β (fun o _ => o = .rt (.bl true)) by
  obtain ⟨o, β', e, rfl⟩ := h
  exact ⟨β', e⟩
 unfold lK
 obtain ⟨rows, r, c, β1, e1, t, ok1⟩ := zB (K := K) (a := a) ok
 refine aK (d := bE rows) (β1 := β1) (aD rfl e1) ?_
 clear e1
 obtain ⟨g, rfl⟩ := vo t.nn
 obtain ⟨p, q, β2, e2, hp, hq, ok2⟩ := u8 (K := K) (a := a) t ok1
 refine aK (d := .tup [.int (p : Int), .int (q : Int)]) (β1 := β2) (aD rfl e2) ?_
 obtain ⟨k, β3, e3, ok3⟩ := qz (K := K) (a := a) ok2
 refine aK (d := .str k.nm) (β1 := β3) (aD rfl e3) ?_
 obtain ⟨k', β4, e4, ok4⟩ := qz (K := K) (a := a) ok3
 refine aK (d := .str k'.nm) (β1 := β4) (aD rfl e4) ?_
 clear e2 e3 e4 ok1 ok2 ok3
 have t6 : ∀ {x1 x2 x3 x4 x5 x6 : D}, bX [x1, x2, x3, x4, x5, x6] = some (.tup [x1, x2, x3, x4, x5, x6]) := fun {x1 x2 x3 x4 x5 x6} => by
  unfold bX
  rw [if_pos (cW (by show 6 <= 1000; decide))]
 refine aY (jL (c := true) (nU (x := .bl true) (aD (am rfl (am (bq rfl t6) rfl)) (nZ ⟨cW (by show 6 <= 1000; decide), fun x hx => ?_⟩)) rfl)) (aQ ?_)
 ·simp only [List.mem_cons, List.not_mem_nil, or_false] at hx
  rcases hx with rfl | rfl | rfl | rfl | rfl | rfl <;> exact okD_str _ _
 obtain ⟨C, hx, hy, hs⟩ := zu t
 have r0 := t.r0
 have r1 := t.r1
 have c0 := t.c0
 have c1 := t.c1
 have e1 := fun β => rb (K := K) (a := a) (β := β) (rows := g.map nI) (by rw [t.shp.1]; omega)
 have e2 := fun β => nS (K := K) (a := a) (β := β) t.shp r0 (by omega) (by omega)
 have e4 : ∀ β, m_l_turned K a [bE (g.map nI)] β = some (.ok (cL (tpA 0 c g)), β) := fun β => by rw [lz t.shp r0 (by omega) (by omega), kL, qC]
 have e5 : ∀ β, m_rows_turned K a [bE (g.map nI)] β = some (.ok (cL (tpA 0 c g)), β) := fun β => by rw [sZ t.shp r0 (by omega) (by omega), kL, qC]
 simp only [gi] at e1
 simp only [kL, gi] at e2
 generalize (g.map List.sum) = xs at *
 generalize (tpA 0 c g) = cs at *
 generalize (cs.map List.sum) = ys at *
 refine aK (d := nL xs) (β1 := β4) (aD rfl (e1 β4)) ?_
 refine aK (d := nL ys) (β1 := β4) (aD rfl (e2 β4)) ?_
 obtain ⟨x0, xs', rfl⟩ : ∃ x0 xs', xs = x0 :: xs' := by
  cases xs with
  | nil => have := C.lx; simp only [List.length_nil] at this; omega
  | cons x0 xs' => exact ⟨x0, xs', rfl⟩
 obtain ⟨y0, ys', rfl⟩ : ∃ y0 ys', ys = y0 :: ys' := by
  cases ys with
  | nil => have := C.ly; simp only [List.length_nil] at this; omega
  | cons y0 ys' => exact ⟨y0, ys', rfl⟩
 have nl : [(nI (x0 :: xs')).map D.int, (nI (y0 :: ys')).map D.int].all noLs = true := by
  rw [List.all_cons, List.all_cons, en, en]; rfl
 refine xF (rows := [(nI (x0 :: xs')).map D.int, (nI (y0 :: ys')).map D.int]) (β1 := β4) (Cb rfl rfl) nl ?_
 have m1 := qw (K := K) (a := a) (β := β4) (p := p) (q := q) C.ok hx hy hs (by rw [C.lx]; exact hp) (by rw [C.ly]; exact hq) k
 have m2 := qw (K := K) (a := a) (β := β4) (p := 0) (q := 0) C.ok hx hy hs (by rw [C.lx]; omega) (by rw [C.ly]; omega) k'
 refine sW (d := mD a k (x0 :: xs') (y0 :: ys') p q) (β1 := β4) ?_ ?_
 ·unfold pE
  rw [M.bind_ok (am rfl (am (x_2 (z := nL (x0 :: xs')) rfl rfl rfl) (am (x_2 (z := nL (y0 :: ys')) rfl rfl rfl) rfl))), M.bind_ok (am rfl rfl)]
  exact (M.bind_ok m1).trans rfl
 refine sW (d := mD a k' (x0 :: xs') (y0 :: ys') 0 0) (β1 := β4) (zC (am rfl (am (x_2 (z := nL (x0 :: xs')) rfl rfl rfl) (am (x_2 (z := nL (y0 :: ys')) rfl rfl rfl) rfl))) m2) ?_
 refine aY (β1 := β4) (x_B (x_2 (x := .lst [nL (x0 :: xs'), nL (y0 :: ys')]) rfl (bq rfl lst2) (qv (pJ 2 (fun x hx => ?_) (by decide))))) (aQ ?_)
 ·simp only [List.mem_cons, List.not_mem_nil, or_false] at hx
  rcases hx with rfl | rfl
  ·intro z hz
   obtain ⟨i, _, rfl⟩ := List.mem_map.mp hz
   trivial
  ·intro z hz
   obtain ⟨i, _, rfl⟩ := List.mem_map.mp hz
   trivial
 refine qV (d := .int ((x0 : Int) + 1)) (β1 := β4) (rows := [(nI (x0 :: xs')).map D.int, (nI (y0 :: ys')).map D.int]) (ds := (nI (x0 :: xs')).map D.int) (ka := 0) (kb := 0) (ja := 0) (jb := 0) (x_2 (x := .int (x0 : Int)) (x_2 (x := nL (x0 :: xs')) (x_2 (z := nL (x0 :: xs')) rfl rfl rfl) rfl (eF (i := 0) (n := x0) rfl)) rfl rfl) rfl rfl rfl rfl rfl (jz (by decide) (by rw [dy]; simp only [List.length_cons]; omega)) rfl ?_
 refine qV (d := .int ((y0 : Int) + 1)) (β1 := β4) (rows := [((nI (x0 :: xs')).map D.int).set 0 (.int ((x0 : Int) + 1)), (nI (y0 :: ys')).map D.int]) (ds := (nI (y0 :: ys')).map D.int) (ka := 1) (kb := 0) (ja := 1) (jb := 0) (x_2 (x := .int (y0 : Int)) (x_2 (x := nL (y0 :: ys')) (x_2 (z := nL (y0 :: ys')) rfl rfl rfl) rfl (eF (i := 0) (n := y0) rfl)) rfl rfl) rfl rfl rfl rfl rfl (jz (by decide) (by rw [dy]; simp only [List.length_cons]; omega)) rfl ?_
 refine aK (d := cL cs) (β1 := β4) (aD rfl (e4 β4)) ?_
 have ev := fun β => oC (K := K) (a := a) (β := β) C hp hq k
 have eo := fun β => xV (K := K) (a := a) (β := β) (q := q) C hp e5 k
 have ev' := fun β => oC (K := K) (a := a) (β := β) (p := 0) (q := 0) C (by omega) (by omega) k'
 have eo' := fun β => xV (K := K) (a := a) (β := β) (p := 0) (q := 0) C (by omega) e5 k'
 generalize totF k (pF k (x0 :: xs') (y0 :: ys') p q cs) c = V at *
 generalize totF k' (pF k' (x0 :: xs') (y0 :: ys') 0 0 cs) c = V' at *
 refine aK (d := .int (V : Int)) (β1 := β4) (aD rfl (ev β4)) ?_
 refine aK (d := bE (g.map nI)) (β1 := β4) (aD rfl (uB (by rw [List.length_map, t.shp.1]; omega))) ?_
 refine aY (β1 := β4) (Cd (jL (c := true) (nU (x := .bl true) (aD (am (g6 rfl (am rfl rfl) (eo β4)) (am rfl rfl)) (nZ (mj _ _))) rfl)) (x_B (x_2 rfl rfl y7))) (aQ ?_)
 refine aY (β1 := β4) (jL (c := true) (nU (x := .bl true) (aD (am (g6 rfl (am rfl rfl) (eo' β4)) (am (aD (am rfl (am rfl (am rfl (am (bq rfl zG) (am rfl rfl))))) (ev' β4)) rfl)) (nZ (mj _ _))) rfl)) (aQ ?_)
 exact au (aP (aD (am (g6 rfl (am rfl rfl) (eo β4)) (am rfl rfl)) (nZ (mj _ _))) rfl)
end
end Law
namespace Law
open PySem L2 L2.Pu
abbrev E (P : Params) (n : String) (t : Nat) (v : Value) : DictEntry := ⟨PyData.keyHash P (Str.ofString n), .str (Str.ofString n) t, v⟩
abbrev FN (x q : Str) (s : Stmt) (dV kV doc pm : Value) (an : Option Addr) (cd ct : Value) : FuncData := PySem.W.fnOf x q (gm s) (cg s) (aj s) dV kV doc pm an cd ct
abbrev fO (f : FuncData) : Obj := ⟨.type "function", none, .func f, #[]⟩
abbrev tO (l : List Value) : Obj := ⟨.type "tuple", none, .seq l.toArray 0, #[]⟩
abbrev cO (l : List Value) : Obj := ⟨.type "code", none, .fields l.toArray, #[]⟩
abbrev nO (l : List Value) : Obj := ⟨.none, none, .fields l.toArray, #[]⟩
abbrev fB (x q : Str) (s : Stmt) : Obj := ⟨.none, none, .func ⟨x, q, gm s, .stmts (cg s), aj s, 0, [], .none, .none, .none, .none, none, .none, .none, 0⟩, #[]⟩
abbrev cC (n q : Str) (t l a po ko fl r : Nat) (b : Bool) (tx r2 : Nat) (x y z w : Value) (u l2 v : Nat) : Obj := cO [.str n t, .str q (t + 1), .str "/claim/cut.py" (t + 2), .int l 0, .int a 0, .int po 0, .int ko 0, .int fl 0, .ref r, .bool b, .int tx 0, .ref r2, x, y, z, w, .int u 0, .int l2 0, .str "/claim/cut.py" v]
abbrev fL (x q : Str) (i c : Nat) : Obj := fO (FN x q (top i) .none .none .none (.str "law_edgetally_k28_measures_of_tables" 535) none (.ref c) .none)
section
variable (P : Params)
def b0 : Obj := ⟨(.type "dict"), none, (.dict #[(E P "__name__" 1 (.str "builtins" 160)), (E P "__doc__" 2 (.builtin "builtins.__doc__:str#opaque")), (E P "__package__" 3 (.builtin "builtins.__package__:str#opaque")), (E P "__loader__" 4 (.builtin "builtins.__loader__:shared#opaque")), (E P "__spec__" 5 (.builtin "builtins.__spec__#opaque")), (E P "__build_class__" 6 (.builtin "__build_class__")), (E P "__import__" 7 (.builtin "__import__")), (E P "abs" 8 (.builtin "abs")), (E P "all" 9 (.builtin "all")), (E P "any" 10 (.builtin "any")), (E P "ascii" 11 (.builtin "ascii")), (E P "bin" 12 (.builtin "bin")), (E P "breakpoint" 13 (.builtin "breakpoint")), (E P "callable" 14 (.builtin "callable")), (E P "chr" 15 (.builtin "chr")), (E P "compile" 16 (.builtin "compile")), (E P "delattr" 17 (.builtin "delattr")), (E P "dir" 18 (.builtin "dir")), (E P "divmod" 19 (.builtin "divmod")), (E P "eval" 20 (.builtin "eval")), (E P "exec" 21 (.builtin "exec")), (E P "format" 22 (.builtin "format")), (E P "getattr" 23 (.builtin "getattr")), (E P "globals" 24 (.builtin "globals")), (E P "hasattr" 25 (.builtin "hasattr")), (E P "hash" 26 (.builtin "hash")), (E P "hex" 27 (.builtin "hex")), (E P "id" 28 (.builtin "id")), (E P "input" 29 (.builtin "input")), (E P "isinstance" 30 (.builtin "isinstance")), (E P "issubclass" 31 (.builtin "issubclass")), (E P "iter" 32 (.builtin "iter")), (E P "aiter" 33 (.builtin "aiter")), (E P "len" 34 (.builtin "len")), (E P "locals" 35 (.builtin "locals")), (E P "max" 36 (.builtin "max")), (E P "min" 37 (.builtin "min")), (E P "next" 38 (.builtin "next")), (E P "anext" 39 (.builtin "anext")), (E P "oct" 40 (.builtin "oct")), (E P "ord" 41 (.builtin "ord")), (E P "pow" 42 (.builtin "pow")), (E P "print" 43 (.builtin "print")), (E P "repr" 44 (.builtin "repr")), (E P "round" 45 (.builtin "round")), (E P "setattr" 46 (.builtin "setattr")), (E P "sorted" 47 (.builtin "sorted")), (E P "sum" 48 (.builtin "sum")), (E P "vars" 49 (.builtin "vars")), (E P "None" 50 .none), (E P "Ellipsis" 51 .ellipsis), (E P "NotImplemented" 52 .notImplemented), (E P "False" 53 (.bool false)), (E P "True" 54 (.bool true)), (E P "bool" 55 (.type "bool")), (E P "memoryview" 56 (.type "memoryview")), (E P "bytearray" 57 (.type "bytearray")), (E P "bytes" 58 (.type "bytes")), (E P "classmethod" 59 (.type "classmethod")), (E P "complex" 60 (.type "complex")), (E P "dict" 61 (.type "dict")), (E P "enumerate" 62 (.type "enumerate")), (E P "filter" 63 (.type "filter")), (E P "float" 64 (.type "float")), (E P "frozenset" 65 (.type "frozenset")), (E P "property" 66 (.type "property")), (E P "int" 67 (.type "int")), (E P "list" 68 (.type "list")), (E P "map" 69 (.type "map")), (E P "object" 70 (.type "object")), (E P "range" 71 (.type "range")), (E P "reversed" 72 (.type "reversed")), (E P "set" 73 (.type "set")), (E P "slice" 74 (.type "slice")), (E P "staticmethod" 75 (.type "staticmethod")), (E P "str" 76 (.type "str")), (E P "super" 77 (.type "super")), (E P "tuple" 78 (.type "tuple")), (E P "type" 79 (.type "type")), (E P "zip" 80 (.type "zip")), (E P "__debug__" 81 (.bool true)), (E P "BaseException" 82 (.type "BaseException")), (E P "BaseExceptionGroup" 83 (.type "BaseExceptionGroup")), (E P "Exception" 84 (.type "Exception")), (E P "GeneratorExit" 85 (.type "GeneratorExit")), (E P "KeyboardInterrupt" 86 (.type "KeyboardInterrupt")), (E P "SystemExit" 87 (.type "SystemExit")), (E P "ArithmeticError" 88 (.type "ArithmeticError")), (E P "AssertionError" 89 (.type "AssertionError")), (E P "AttributeError" 90 (.type "AttributeError")), (E P "BufferError" 91 (.type "BufferError")), (E P "EOFError" 92 (.type "EOFError")), (E P "ImportError" 93 (.type "ImportError")), (E P "LookupError" 94 (.type "LookupError")), (E P "MemoryError" 95 (.type "MemoryError")), (E P "NameError" 96 (.type "NameError")), (E P "OSError" 97 (.type "OSError")), (E P "ReferenceError" 98 (.type "ReferenceError")), (E P "RuntimeError" 99 (.type "RuntimeError")), (E P "StopAsyncIteration" 100 (.type "StopAsyncIteration")), (E P "StopIteration" 101 (.type "StopIteration")), (E P "SyntaxError" 102 (.type "SyntaxError")), (E P "SystemError" 103 (.type "SystemError")), (E P "TypeError" 104 (.type "TypeError")), (E P "ValueError" 105 (.type "ValueError")), (E P "Warning" 106 (.type "Warning")), (E P "FloatingPointError" 107 (.type "FloatingPointError")), (E P "OverflowError" 108 (.type "OverflowError")), (E P "ZeroDivisionError" 109 (.type "ZeroDivisionError")), (E P "BytesWarning" 110 (.type "BytesWarning")), (E P "DeprecationWarning" 111 (.type "DeprecationWarning")), (E P "EncodingWarning" 112 (.type "EncodingWarning")), (E P "FutureWarning" 113 (.type "FutureWarning")), (E P "ImportWarning" 114 (.type "ImportWarning")), (E P "PendingDeprecationWarning" 115 (.type "PendingDeprecationWarning")), (E P "ResourceWarning" 116 (.type "ResourceWarning")), (E P "RuntimeWarning" 117 (.type "RuntimeWarning")), (E P "SyntaxWarning" 118 (.type "SyntaxWarning")), (E P "UnicodeWarning" 119 (.type "UnicodeWarning")), (E P "UserWarning" 120 (.type "UserWarning")), (E P "BlockingIOError" 121 (.type "BlockingIOError")), (E P "ChildProcessError" 122 (.type "ChildProcessError")), (E P "ConnectionError" 123 (.type "ConnectionError")), (E P "FileExistsError" 124 (.type "FileExistsError")), (E P "FileNotFoundError" 125 (.type "FileNotFoundError")), (E P "InterruptedError" 126 (.type "InterruptedError")), (E P "IsADirectoryError" 127 (.type "IsADirectoryError")), (E P "NotADirectoryError" 128 (.type "NotADirectoryError")), (E P "PermissionError" 129 (.type "PermissionError")), (E P "ProcessLookupError" 130 (.type "ProcessLookupError")), (E P "TimeoutError" 131 (.type "TimeoutError")), (E P "IndentationError" 132 (.type "IndentationError")), (E P "_IncompleteInputError" 133 (.type "_IncompleteInputError")), (E P "IndexError" 134 (.type "IndexError")), (E P "KeyError" 135 (.type "KeyError")), (E P "ModuleNotFoundError" 136 (.type "ModuleNotFoundError")), (E P "NotImplementedError" 137 (.type "NotImplementedError")), (E P "PythonFinalizationError" 138 (.type "PythonFinalizationError")), (E P "RecursionError" 139 (.type "RecursionError")), (E P "UnboundLocalError" 140 (.type "UnboundLocalError")), (E P "UnicodeError" 141 (.type "UnicodeError")), (E P "BrokenPipeError" 142 (.type "BrokenPipeError")), (E P "ConnectionAbortedError" 143 (.type "ConnectionAbortedError")), (E P "ConnectionRefusedError" 144 (.type "ConnectionRefusedError")), (E P "ConnectionResetError" 145 (.type "ConnectionResetError")), (E P "TabError" 146 (.type "TabError")), (E P "UnicodeDecodeError" 147 (.type "UnicodeDecodeError")), (E P "UnicodeEncodeError" 148 (.type "UnicodeEncodeError")), (E P "UnicodeTranslateError" 149 (.type "UnicodeTranslateError")), (E P "ExceptionGroup" 150 (.type "ExceptionGroup")), (E P "EnvironmentError" 151 (.type "OSError")), (E P "IOError" 152 (.type "OSError")), (E P "open" 153 (.builtin "open")), (E P "quit" 154 (.builtin "builtins.quit#opaque")), (E P "exit" 155 (.builtin "builtins.exit#opaque")), (E P "copyright" 156 (.builtin "builtins.copyright#opaque")), (E P "credits" 157 (.builtin "builtins.credits#opaque")), (E P "license" 158 (.builtin "builtins.license#opaque")), (E P "help" 159 (.builtin "builtins.help#opaque"))] 159), #[]⟩
def b1 : Obj := ⟨(.type "dict"), none, (.dict #[(E P "builtins" 162 (.ref 4)), (E P "__main__" 163 (.ref 5))] 2), #[]⟩
def b2 : Obj := ⟨.none, none, (.dict #[] 0), #[]⟩
def b3 : Obj := ⟨(.type "dict"), none, (.dict #[(E P "__name__" 165 (.str "law_edgetally_k28_measures_of_tables" 535)), (E P "__doc__" 166 .none), (E P "__package__" 167 .none), (E P "__loader__" 168 (.builtin "__main__.__loader__#opaque")), (E P "__spec__" 169 .none), (E P "__annotations__" 170 (.ref 6)), (E P "__builtins__" 171 (.ref 4)), (E P "__file__" 173 (.str "/claim/cut.py" 172)), (E P "__cached__" 174 .none), (E P "_wall" 193 (.ref 21)), (E P "EdgeError" 223 (.ref 38)), (E P "BadSums" 248 (.ref 59)), (E P "BadRule" 273 (.ref 79)), (E P "BadCell" 298 (.ref 99)), (E P "BadNumber" 323 (.ref 119)), (E P "MOST" 327 (.int 40 326)), (E P "MOST_ROWS" 329 (.int 4 328)), (E P "MOST_COLUMNS" 331 (.int 6 330)), (E P "check_sums" 337 (.ref 126)), (E P "check_there" 345 (.ref 133)), (E P "check_cell" 355 (.ref 140)), (E P "rows_turned" 361 (.ref 145)), (E P "factorial" 372 (.ref 152)), (E P "power" 382 (.ref 159)), (E P "ways" 391 (.ref 166)), (E P "common_factor" 399 (.ref 173)), (E P "KINDS" 408 (.ref 174)), (E P "BY_PRODUCT" 411 (.ref 175)), (E P "BY_PLACE" 414 (.ref 176)), (E P "least_common" 423 (.ref 183)), (E P "power_part" 432 (.ref 190)), (E P "square_part" 438 (.ref 195)), (E P "off_part" 444 (.ref 200)), (E P "Measure" 534 (.ref 264)), (E P "_law_bag" 542 (.ref 273)), (E P "_law_pull" 553 (.ref 280)), (E P "_law_same" 559 (.ref 285)), (E P "_law_turned" 565 (.ref 290)), (E P "_law_rowsums" 571 (.ref 295)), (E P "_law_columnsums" 577 (.ref 300)), (E P "_law_copied" 583 (.ref 305)), (E P "_law_factorial" 592 (.ref 312)), (E P "_law_ways" 601 (.ref 319)), (E P "_law_weight" 610 (.ref 326)), (E P "_law_gcd" 619 (.ref 333)), (E P "_law_kind" 626 (.ref 340)), (E P "_law_place" 635 (.ref 347)), (E P "_law_even" 647 (.ref 354)), (E P "_law_self_power" 656 (.ref 361)), (E P "_law_square" 672 (.ref 368)), (E P "_law_off" 688 (.ref 375)), (E P "_law_value" 702 (.ref 382)), (E P "_law_any" 708 (.ref 387)), (E P "law" 728 (.ref 394))] 54), #[]⟩
def b4 : Obj := ⟨(.type "module"), (some 0), .plain, #[]⟩
def b5 : Obj := ⟨(.type "module"), (some 3), .plain, #[]⟩
def b6 : Obj := ⟨(.type "dict"), none, (.dict #[] 0), #[]⟩
def b7 : Obj := tO []
def b8 : Obj := nO []
def b9 : Obj := cC "<module>" "<module>" 176 1 0 0 0 0 7 false 175 8 .none .none .none .none 179 1 180
def b10 : Obj := ⟨(.type "frame"), none, .plain, #[(some (.ref 9)), (some (.ref 3)), (some (.ref 3)), none, (some (.str "__main__" 164)), none, (some (.ref 0))]⟩
def b12 : Obj := nO [(.int 1 0), (.int 0 0), (.ref 20), (.int 5 0), (.int 0 0), (.ref 27), (.int 10 0), (.int 0 0), (.ref 47), (.int 14 0), (.int 0 0), (.ref 67), (.int 18 0), (.int 0 0), (.ref 87), (.int 22 0), (.int 0 0), (.ref 107), (.int 30 0), (.int 0 0), (.ref 125), (.int 41 0), (.int 0 0), (.ref 132), (.int 44 0), (.int 0 0), (.ref 139), (.int 47 0), (.int 0 0), (.ref 144), (.int 50 0), (.int 0 0), (.ref 151), (.int 55 0), (.int 0 0), (.ref 158), (.int 60 0), (.int 0 0), (.ref 165), (.int 68 0), (.int 0 0), (.ref 172), (.int 76 0), (.int 0 0), (.ref 182), (.int 81 0), (.int 0 0), (.ref 189), (.int 86 0), (.int 0 0), (.ref 194), (.int 88 0), (.int 0 0), (.ref 199), (.int 90 0), (.int 0 0), (.ref 206), (.int 137 0), (.int 0 0), (.ref 272), (.int 139 0), (.int 0 0), (.ref 279), (.int 149 0), (.int 0 0), (.ref 284), (.int 161 0), (.int 0 0), (.ref 289), (.int 163 0), (.int 0 0), (.ref 294), (.int 165 0), (.int 0 0), (.ref 299), (.int 167 0), (.int 0 0), (.ref 304), (.int 169 0), (.int 0 0), (.ref 311), (.int 174 0), (.int 0 0), (.ref 318), (.int 179 0), (.int 0 0), (.ref 325), (.int 184 0), (.int 0 0), (.ref 332), (.int 190 0), (.int 0 0), (.ref 339), (.int 192 0), (.int 0 0), (.ref 346), (.int 195 0), (.int 0 0), (.ref 353), (.int 203 0), (.int 0 0), (.ref 360), (.int 208 0), (.int 0 0), (.ref 367), (.int 217 0), (.int 0 0), (.ref 374), (.int 225 0), (.int 0 0), (.ref 381), (.int 239 0), (.int 0 0), (.ref 386), (.int 250 0), (.int 0 0), (.ref 393)]
def b13 : Obj := cC "<module>" "<module>" 182 1 0 0 0 0 11 false 181 12 .none .none .none .none 185 1 186
def b14 : Obj := ⟨(.type "frame"), none, .plain, #[(some (.ref 13)), (some (.ref 3)), (some (.ref 3)), none, (some (.str "__main__" 164)), none, (some (.ref 0))]⟩
def b17 : Obj := tO [(.str "k" 190)]
def b19 : Obj := fB "_wall" "_wall" (top 0)
def b20 : Obj := cC "_wall" "_wall" 187 1 1 0 0 3 15 true 181 16 .none (.ref 17) (.ref 18) (.ref 19) 191 1 192
def b21 : Obj := fO (FN "_wall" "_wall" (top 0) .none .none .none (.str "__main__" 164) none (.ref 20) .none)
def b22 : Obj := tO [(.type "ValueError")]
def b23 : Obj := ⟨(.type "builtin_function_or_method"), none, (.fields #[(.builtin "type.__prepare__"), (.type "type")]), #[]⟩
def b24 : Obj := ⟨(.type "dict"), none, (.dict #[(E P "__module__" 203 (.str "edgetally.errors" 194)), (E P "__qualname__" 205 (.str "EdgeError" 204)), (E P "__firstlineno__" 207 (.int 5 206)), (E P "__init__" 216 (.ref 35)), (E P "__static_attributes__" 218 (.ref 36))] 5), #[]⟩
def b26 : Obj := nO [(.int 7 0), (.int 4 0), (.ref 34)]
def b27 : Obj := cC "EdgeError" "EdgeError" 198 5 0 0 0 0 25 false 181 26 .none .none .none .none 201 5 202
def b28 : Obj := ⟨(.type "frame"), none, .plain, #[(some (.ref 27)), (some (.ref 3)), (some (.ref 24)), none, (some (.str "edgetally.errors" 194)), none, (some (.ref 0))]⟩
def b31 : Obj := tO [(.str "self" 211), (.str "word" 212), (.str "why" 213)]
def b33 : Obj := fB "__init__" "EdgeError.__init__" (ay (top 2) 0)
def b34 : Obj := cC "__init__" "EdgeError.__init__" 208 7 3 0 0 3 29 true 181 30 .none (.ref 31) (.ref 32) (.ref 33) 214 7 215
def b35 : Obj := fO (FN "__init__" "EdgeError.__init__" (ay (top 2) 0) .none .none .none (.str "edgetally.errors" 194) none (.ref 34) .none)
def b36 : Obj := tO [(.str "word" 217)]
def b37 : Obj := ⟨(.type "dict"), none, (.dict #[(E P "__module__" 203 (.str "edgetally.errors" 194)), (E P "__firstlineno__" 207 (.int 5 206)), (E P "__init__" 216 (.ref 35)), (E P "__static_attributes__" 218 (.ref 36)), (E P "__weakref__" 220 (.ref 39)), (E P "__doc__" 221 .none)] 3), #[]⟩
def b38 : Obj := ⟨(.type "type"), none, (.cls ⟨"EdgeError", [(.type "ValueError")], [(.ref 38), (.type "ValueError"), (.type "Exception"), (.type "BaseException"), (.type "object")], 37, "EdgeError", true, [], [(.ref 59), (.ref 79), (.ref 99), (.ref 119)], false, none, false⟩), #[(some (.ref 22)), none, (some (.str "EdgeError" 196)), (some (.str "EdgeError" 204)), (some (.builtin "ValueError.__new__")), (some (.bool true))]⟩
def b39 : Obj := ⟨(.type "getset_descriptor"), none, (.fields #[(.str "__weakref__" 219), (.ref 38), (.builtin "ExceptionGroup.__weakref__"), .none]), #[]⟩
def b40 : Obj := ⟨(.type "super"), none, (.fields #[(.ref 38), (.ref 38), (.ref 38)]), #[]⟩
def b41 : Obj := ⟨(.type "builtin_function_or_method"), none, (.fields #[(.builtin "object.__init_subclass__"), (.ref 38)]), #[]⟩
def b42 : Obj := tO [(.ref 38)]
def b44 : Obj := ⟨(.type "dict"), none, (.dict #[(E P "__module__" 231 (.str "edgetally.errors" 194)), (E P "__qualname__" 233 (.str "BadSums" 232)), (E P "__firstlineno__" 235 (.int 10 234)), (E P "__init__" 244 (.ref 56)), (E P "__static_attributes__" 245 (.ref 57))] 5), #[]⟩
def b46 : Obj := nO [(.int 12 0), (.int 4 0), (.ref 55)]
def b47 : Obj := cC "BadSums" "BadSums" 226 10 0 0 0 0 45 false 181 46 .none .none .none .none 229 10 230
def b48 : Obj := ⟨(.type "frame"), none, .plain, #[(some (.ref 47)), (some (.ref 3)), (some (.ref 44)), none, (some (.str "edgetally.errors" 194)), none, (some (.ref 0))]⟩
def b49 : Obj := tO [(.str "these sums are no table's" 236)]
def b52 : Obj := tO [(.str "self" 240), (.str "why" 241)]
def b54 : Obj := fB "__init__" "BadSums.__init__" (ay (top 3) 0)
def b55 : Obj := cC "__init__" "BadSums.__init__" 237 12 2 0 0 3 50 true 181 51 .none (.ref 52) (.ref 53) (.ref 54) 242 12 243
def b56 : Obj := fO (FN "__init__" "BadSums.__init__" (ay (top 3) 0) (.ref 49) .none .none (.str "edgetally.errors" 194) none (.ref 55) .none)
def b58 : Obj := ⟨(.type "dict"), none, (.dict #[(E P "__module__" 231 (.str "edgetally.errors" 194)), (E P "__firstlineno__" 235 (.int 10 234)), (E P "__init__" 244 (.ref 56)), (E P "__static_attributes__" 245 (.ref 57)), (E P "__doc__" 246 .none)] 2), #[]⟩
def b59 : Obj := ⟨(.type "type"), none, (.cls ⟨"BadSums", [(.ref 38)], [(.ref 59), (.ref 38), (.type "ValueError"), (.type "Exception"), (.type "BaseException"), (.type "object")], 58, "BadSums", true, [], [], false, none, false⟩), #[(some (.ref 42)), none, (some (.str "BadSums" 224)), (some (.str "BadSums" 232)), (some (.builtin "ValueError.__new__")), (some (.bool true))]⟩
def b60 : Obj := ⟨(.type "super"), none, (.fields #[(.ref 59), (.ref 59), (.ref 59)]), #[]⟩
def b61 : Obj := ⟨(.type "builtin_function_or_method"), none, (.fields #[(.builtin "object.__init_subclass__"), (.ref 59)]), #[]⟩
def b64 : Obj := ⟨(.type "dict"), none, (.dict #[(E P "__module__" 256 (.str "edgetally.errors" 194)), (E P "__qualname__" 258 (.str "BadRule" 257)), (E P "__firstlineno__" 260 (.int 14 259)), (E P "__init__" 269 (.ref 76)), (E P "__static_attributes__" 270 (.ref 77))] 5), #[]⟩
def b66 : Obj := nO [(.int 16 0), (.int 4 0), (.ref 75)]
def b67 : Obj := cC "BadRule" "BadRule" 251 14 0 0 0 0 65 false 181 66 .none .none .none .none 254 14 255
def b68 : Obj := ⟨(.type "frame"), none, .plain, #[(some (.ref 67)), (some (.ref 3)), (some (.ref 64)), none, (some (.str "edgetally.errors" 194)), none, (some (.ref 0))]⟩
def b69 : Obj := tO [(.str "there is no such rule" 261)]
def b72 : Obj := tO [(.str "self" 265), (.str "why" 266)]
def b74 : Obj := fB "__init__" "BadRule.__init__" (ay (top 4) 0)
def b75 : Obj := cC "__init__" "BadRule.__init__" 262 16 2 0 0 3 70 true 181 71 .none (.ref 72) (.ref 73) (.ref 74) 267 16 268
def b76 : Obj := fO (FN "__init__" "BadRule.__init__" (ay (top 4) 0) (.ref 69) .none .none (.str "edgetally.errors" 194) none (.ref 75) .none)
def b78 : Obj := ⟨(.type "dict"), none, (.dict #[(E P "__module__" 256 (.str "edgetally.errors" 194)), (E P "__firstlineno__" 260 (.int 14 259)), (E P "__init__" 269 (.ref 76)), (E P "__static_attributes__" 270 (.ref 77)), (E P "__doc__" 271 .none)] 2), #[]⟩
def b79 : Obj := ⟨(.type "type"), none, (.cls ⟨"BadRule", [(.ref 38)], [(.ref 79), (.ref 38), (.type "ValueError"), (.type "Exception"), (.type "BaseException"), (.type "object")], 78, "BadRule", true, [], [], false, none, false⟩), #[(some (.ref 62)), none, (some (.str "BadRule" 249)), (some (.str "BadRule" 257)), (some (.builtin "ValueError.__new__")), (some (.bool true))]⟩
def b80 : Obj := ⟨(.type "super"), none, (.fields #[(.ref 79), (.ref 79), (.ref 79)]), #[]⟩
def b81 : Obj := ⟨(.type "builtin_function_or_method"), none, (.fields #[(.builtin "object.__init_subclass__"), (.ref 79)]), #[]⟩
def b84 : Obj := ⟨(.type "dict"), none, (.dict #[(E P "__module__" 281 (.str "edgetally.errors" 194)), (E P "__qualname__" 283 (.str "BadCell" 282)), (E P "__firstlineno__" 285 (.int 18 284)), (E P "__init__" 294 (.ref 96)), (E P "__static_attributes__" 295 (.ref 97))] 5), #[]⟩
def b86 : Obj := nO [(.int 20 0), (.int 4 0), (.ref 95)]
def b87 : Obj := cC "BadCell" "BadCell" 276 18 0 0 0 0 85 false 181 86 .none .none .none .none 279 18 280
def b88 : Obj := ⟨(.type "frame"), none, .plain, #[(some (.ref 87)), (some (.ref 3)), (some (.ref 84)), none, (some (.str "edgetally.errors" 194)), none, (some (.ref 0))]⟩
def b89 : Obj := tO [(.str "there is no such cell" 286)]
def b92 : Obj := tO [(.str "self" 290), (.str "why" 291)]
def b94 : Obj := fB "__init__" "BadCell.__init__" (ay (top 5) 0)
def b95 : Obj := cC "__init__" "BadCell.__init__" 287 20 2 0 0 3 90 true 181 91 .none (.ref 92) (.ref 93) (.ref 94) 292 20 293
def b96 : Obj := fO (FN "__init__" "BadCell.__init__" (ay (top 5) 0) (.ref 89) .none .none (.str "edgetally.errors" 194) none (.ref 95) .none)
def b98 : Obj := ⟨(.type "dict"), none, (.dict #[(E P "__module__" 281 (.str "edgetally.errors" 194)), (E P "__firstlineno__" 285 (.int 18 284)), (E P "__init__" 294 (.ref 96)), (E P "__static_attributes__" 295 (.ref 97)), (E P "__doc__" 296 .none)] 2), #[]⟩
def b99 : Obj := ⟨(.type "type"), none, (.cls ⟨"BadCell", [(.ref 38)], [(.ref 99), (.ref 38), (.type "ValueError"), (.type "Exception"), (.type "BaseException"), (.type "object")], 98, "BadCell", true, [], [], false, none, false⟩), #[(some (.ref 82)), none, (some (.str "BadCell" 274)), (some (.str "BadCell" 282)), (some (.builtin "ValueError.__new__")), (some (.bool true))]⟩
def sQ : Obj := ⟨(.type "super"), none, (.fields #[(.ref 99), (.ref 99), (.ref 99)]), #[]⟩
def sP : Obj := ⟨(.type "builtin_function_or_method"), none, (.fields #[(.builtin "object.__init_subclass__"), (.ref 99)]), #[]⟩
def xu : Obj := ⟨(.type "dict"), none, (.dict #[(E P "__module__" 306 (.str "edgetally.errors" 194)), (E P "__qualname__" 308 (.str "BadNumber" 307)), (E P "__firstlineno__" 310 (.int 22 309)), (E P "__init__" 319 (.ref 116)), (E P "__static_attributes__" 320 (.ref 117))] 5), #[]⟩
def xt : Obj := nO [(.int 24 0), (.int 4 0), (.ref 115)]
def xq : Obj := cC "BadNumber" "BadNumber" 301 22 0 0 0 0 105 false 181 106 .none .none .none .none 304 22 305
def xp : Obj := ⟨(.type "frame"), none, .plain, #[(some (.ref 107)), (some (.ref 3)), (some (.ref 104)), none, (some (.str "edgetally.errors" 194)), none, (some (.ref 0))]⟩
def sO : Obj := tO [(.str "this number is out of its bounds" 311)]
def xo : Obj := tO [(.str "self" 315), (.str "why" 316)]
def xm : Obj := fB "__init__" "BadNumber.__init__" (ay (top 6) 0)
def sN : Obj := cC "__init__" "BadNumber.__init__" 312 24 2 0 0 3 110 true 181 111 .none (.ref 112) (.ref 113) (.ref 114) 317 24 318
def sM : Obj := fO (FN "__init__" "BadNumber.__init__" (ay (top 6) 0) (.ref 109) .none .none (.str "edgetally.errors" 194) none (.ref 115) .none)
def sL : Obj := ⟨(.type "dict"), none, (.dict #[(E P "__module__" 306 (.str "edgetally.errors" 194)), (E P "__firstlineno__" 310 (.int 22 309)), (E P "__init__" 319 (.ref 116)), (E P "__static_attributes__" 320 (.ref 117)), (E P "__doc__" 321 .none)] 2), #[]⟩
def sK : Obj := ⟨(.type "type"), none, (.cls ⟨"BadNumber", [(.ref 38)], [(.ref 119), (.ref 38), (.type "ValueError"), (.type "Exception"), (.type "BaseException"), (.type "object")], 118, "BadNumber", true, [], [], false, none, false⟩), #[(some (.ref 102)), none, (some (.str "BadNumber" 299)), (some (.str "BadNumber" 307)), (some (.builtin "ValueError.__new__")), (some (.bool true))]⟩
def xl : Obj := ⟨(.type "super"), none, (.fields #[(.ref 119), (.ref 119), (.ref 119)]), #[]⟩
def xk : Obj := ⟨(.type "builtin_function_or_method"), none, (.fields #[(.builtin "object.__init_subclass__"), (.ref 119)]), #[]⟩
def xj : Obj := fB "check_sums" "check_sums" (top 11)
def sJ : Obj := cC "check_sums" "check_sums" 332 30 2 0 0 3 122 true 181 123 .none .none .none (.ref 124) 335 30 336
def sI : Obj := fO (FN "check_sums" "check_sums" (top 11) .none .none .none (.str "edgetally.bounds" 324) none (.ref 125) .none)
def xi : Obj := tO [(.str "place" 341), (.str "many" 342)]
def xh : Obj := fB "check_there" "check_there" (top 12)
def sH : Obj := cC "check_there" "check_there" 338 41 2 0 0 3 127 true 181 128 .none (.ref 129) (.ref 130) (.ref 131) 343 41 344
def sG : Obj := fO (FN "check_there" "check_there" (top 12) .none .none .none (.str "edgetally.bounds" 324) none (.ref 132) .none)
def xg : Obj := tO [(.str "row" 349), (.str "column" 350), (.str "rows" 351), (.str "columns" 352)]
def xf : Obj := fB "check_cell" "check_cell" (top 13)
def sF : Obj := cC "check_cell" "check_cell" 346 44 4 0 0 3 134 true 181 135 .none (.ref 136) (.ref 137) (.ref 138) 353 44 354
def sE : Obj := fO (FN "check_cell" "check_cell" (top 13) .none .none .none (.str "edgetally.bounds" 324) none (.ref 139) .none)
def xb : Obj := fB "rows_turned" "rows_turned" (top 14)
def sD : Obj := cC "rows_turned" "rows_turned" 356 47 1 0 0 3 141 true 181 142 .none .none .none (.ref 143) 359 47 360
def sC : Obj := fO (FN "rows_turned" "rows_turned" (top 14) .none .none .none (.str "edgetally.bounds" 324) none (.ref 144) .none)
def xa : Obj := tO [(.str "number" 367), (.str "product" 368), (.str "factor" 369)]
def w9 : Obj := fB "factorial" "factorial" (top 16)
def sB : Obj := cC "factorial" "factorial" 364 50 1 0 0 3 146 true 181 147 .none (.ref 148) (.ref 149) (.ref 150) 370 50 371
def sA : Obj := fO (FN "factorial" "factorial" (top 16) .none .none .none (.str "edgetally.counts" 362) none (.ref 151) .none)
def w8 : Obj := tO [(.str "base" 376), (.str "many" 377), (.str "product" 378), (.str "factor" 379)]
def w6 : Obj := fB "power" "power" (top 17)
def sy : Obj := cC "power" "power" 373 55 2 0 0 3 153 true 181 154 .none (.ref 155) (.ref 156) (.ref 157) 380 55 381
def sw : Obj := fO (FN "power" "power" (top 17) .none .none .none (.str "edgetally.counts" 362) none (.ref 158) .none)
def w5 : Obj := tO [(.str "parts" 386), (.str "part" 387), (.str "told" 388)]
def w4 : Obj := fB "ways" "ways" (top 18)
def su : Obj := cC "ways" "ways" 383 60 1 0 0 3 160 true 181 161 .none (.ref 162) (.ref 163) (.ref 164) 389 60 390
def ss : Obj := fO (FN "ways" "ways" (top 18) .none .none .none (.str "edgetally.counts" 362) none (.ref 165) .none)
def wZ : Obj := tO [(.str "one" 395), (.str "other" 396)]
def wY : Obj := fB "common_factor" "common_factor" (top 19)
def sr : Obj := cC "common_factor" "common_factor" 392 68 2 0 0 3 167 true 181 168 .none (.ref 169) (.ref 170) (.ref 171) 397 68 398
def sk : Obj := fO (FN "common_factor" "common_factor" (top 19) .none .none .none (.str "edgetally.counts" 362) none (.ref 172) .none)
def sj : Obj := tO [(.str "rare" 402), (.str "square" 403), (.str "power" 404), (.str "off" 405), (.str "most" 406), (.str "least" 407)]
def sf : Obj := tO [(.str "rare" 409), (.str "power" 410)]
def se : Obj := tO [(.str "most" 412), (.str "least" 413)]
def wX : Obj := tO [(.str "numbers" 418), (.str "told" 419), (.str "number" 420)]
def wW : Obj := fB "least_common" "least_common" (top 24)
def sd : Obj := cC "least_common" "least_common" 415 76 1 0 0 3 177 true 181 178 .none (.ref 179) (.ref 180) (.ref 181) 421 76 422
def r9 : Obj := fO (FN "least_common" "least_common" (top 24) .none .none .none (.str "edgetally.measures" 400) none (.ref 182) .none)
def wV : Obj := tO [(.str "counts" 427), (.str "told" 428), (.str "count" 429)]
def wU : Obj := fB "power_part" "power_part" (top 25)
def r8 : Obj := cC "power_part" "power_part" 424 81 1 0 0 3 184 true 181 185 .none (.ref 186) (.ref 187) (.ref 188) 430 81 431
def rZ : Obj := fO (FN "power_part" "power_part" (top 25) .none .none .none (.str "edgetally.measures" 400) none (.ref 189) .none)
def wT : Obj := fB "square_part" "square_part" (top 26)
def rY : Obj := cC "square_part" "square_part" 433 86 3 0 0 3 191 true 181 192 .none .none .none (.ref 193) 436 86 437
def rX : Obj := fO (FN "square_part" "square_part" (top 26) .none .none .none (.str "edgetally.measures" 400) none (.ref 194) .none)
def wS : Obj := fB "off_part" "off_part" (top 27)
def rW : Obj := cC "off_part" "off_part" 439 88 3 0 0 3 196 true 181 197 .none .none .none (.ref 198) 442 88 443
def rV : Obj := fO (FN "off_part" "off_part" (top 27) .none .none .none (.str "edgetally.measures" 400) none (.ref 199) .none)
def B0 : Obj := ⟨(.type "dict"), none, (.dict #[(E P "__module__" 452 (.str "edgetally.measures" 400)), (E P "__qualname__" 454 (.str "Measure" 453)), (E P "__firstlineno__" 456 (.int 90 455)), (E P "__init__" 465 (.ref 214)), (E P "rowsums" 472 (.ref 221)), (E P "columnsums" 479 (.ref 228)), (E P "part" 485 (.ref 233)), (E P "together" 494 (.ref 240)), (E P "begun" 501 (.ref 247)), (E P "of" 512 (.ref 254)), (E P "beyond" 521 (.ref 261)), (E P "__static_attributes__" 527 (.ref 262))] 12), #[]⟩
def BZ : Obj := nO [(.int 92 0), (.int 4 0), (.ref 213), (.int 104 0), (.int 4 0), (.ref 220), (.int 107 0), (.int 4 0), (.ref 227), (.int 110 0), (.int 4 0), (.ref 232), (.int 122 0), (.int 4 0), (.ref 239), (.int 125 0), (.int 4 0), (.ref 246), (.int 128 0), (.int 4 0), (.ref 253), (.int 134 0), (.int 4 0), (.ref 260)]
def BY : Obj := cC "Measure" "Measure" 447 90 0 0 0 0 204 false 181 205 .none .none .none .none 450 90 451
def BX : Obj := ⟨(.type "frame"), none, .plain, #[(some (.ref 206)), (some (.ref 3)), (some (.ref 203)), none, (some (.str "edgetally.measures" 400)), none, (some (.ref 0))]⟩
def wR : Obj := tO [(.int 0 457), (.int 0 458)]
def wQ : Obj := ⟨(.type "dict"), none, (.dict #[(E P "place" 459 (.ref 208))] 1), #[]⟩
def BW : Obj := fB "__init__" "Measure.__init__" (ay (top 28) 0)
def wP : Obj := cC "__init__" "Measure.__init__" 460 92 4 0 1 3 210 true 181 211 .none .none .none (.ref 212) 463 92 464
def wO : Obj := fO (FN "__init__" "Measure.__init__" (ay (top 28) 0) .none (.ref 209) .none (.str "edgetally.measures" 400) none (.ref 213) .none)
def BV : Obj := tO [(.str "self" 469)]
def BU : Obj := fB "rowsums" "Measure.rowsums" (ay (top 28) 1)
def BT : Obj := cC "rowsums" "Measure.rowsums" 466 104 1 0 0 3 215 true 181 216 .none (.ref 217) (.ref 218) (.ref 219) 470 104 471
def BS : Obj := fO (FN "rowsums" "Measure.rowsums" (ay (top 28) 1) .none .none .none (.str "edgetally.measures" 400) none (.ref 220) .none)
def BR : Obj := tO [(.str "self" 476)]
def BQ : Obj := fB "columnsums" "Measure.columnsums" (ay (top 28) 2)
def BP : Obj := cC "columnsums" "Measure.columnsums" 473 107 1 0 0 3 222 true 181 223 .none (.ref 224) (.ref 225) (.ref 226) 477 107 478
def BO : Obj := fO (FN "columnsums" "Measure.columnsums" (ay (top 28) 2) .none .none .none (.str "edgetally.measures" 400) none (.ref 227) .none)
def BN : Obj := fB "part" "Measure.part" (ay (top 28) 3)
def wN : Obj := cC "part" "Measure.part" 480 110 3 0 0 3 229 true 181 230 .none .none .none (.ref 231) 483 110 484
def wM : Obj := fO (FN "part" "Measure.part" (ay (top 28) 3) .none .none .none (.str "edgetally.measures" 400) none (.ref 232) .none)
def BM : Obj := tO [(.str "self" 489), (.str "one" 490), (.str "other" 491)]
def BL : Obj := fB "together" "Measure.together" (ay (top 28) 4)
def wL : Obj := cC "together" "Measure.together" 486 122 3 0 0 3 234 true 181 235 .none (.ref 236) (.ref 237) (.ref 238) 492 122 493
def wK : Obj := fO (FN "together" "Measure.together" (ay (top 28) 4) .none .none .none (.str "edgetally.measures" 400) none (.ref 239) .none)
def BK : Obj := tO [(.str "self" 498)]
def BJ : Obj := fB "begun" "Measure.begun" (ay (top 28) 5)
def wJ : Obj := cC "begun" "Measure.begun" 495 125 1 0 0 3 241 true 181 242 .none (.ref 243) (.ref 244) (.ref 245) 499 125 500
def wI : Obj := fO (FN "begun" "Measure.begun" (ay (top 28) 5) .none .none .none (.str "edgetally.measures" 400) none (.ref 246) .none)
def BI : Obj := tO [(.str "self" 505), (.str "rows" 506), (.str "gathered" 507), (.str "column" 508), (.str "counts" 509)]
def BH : Obj := fB "of" "Measure.of" (ay (top 28) 6)
def wH : Obj := cC "of" "Measure.of" 502 128 2 0 0 3 248 true 181 249 .none (.ref 250) (.ref 251) (.ref 252) 510 128 511
def wG : Obj := fO (FN "of" "Measure.of" (ay (top 28) 6) .none .none .none (.str "edgetally.measures" 400) none (.ref 253) .none)
def BG : Obj := tO [(.str "self" 516), (.str "value" 517), (.str "seen" 518)]
def BF : Obj := fB "beyond" "Measure.beyond" (ay (top 28) 7)
def BE : Obj := cC "beyond" "Measure.beyond" 513 134 3 0 0 3 255 true 181 256 .none (.ref 257) (.ref 258) (.ref 259) 519 134 520
def BD : Obj := fO (FN "beyond" "Measure.beyond" (ay (top 28) 7) .none .none .none (.str "edgetally.measures" 400) none (.ref 260) .none)
def BC : Obj := tO [(.str "column_list" 522), (.str "even" 523), (.str "kind" 524), (.str "place" 525), (.str "row_list" 526)]
def wF : Obj := ⟨(.type "dict"), none, (.dict #[(E P "__module__" 452 (.str "edgetally.measures" 400)), (E P "__firstlineno__" 456 (.int 90 455)), (E P "__init__" 465 (.ref 214)), (E P "rowsums" 472 (.ref 221)), (E P "columnsums" 479 (.ref 228)), (E P "part" 485 (.ref 233)), (E P "together" 494 (.ref 240)), (E P "begun" 501 (.ref 247)), (E P "of" 512 (.ref 254)), (E P "beyond" 521 (.ref 261)), (E P "__static_attributes__" 527 (.ref 262)), (E P "__dict__" 529 (.ref 265)), (E P "__weakref__" 531 (.ref 266)), (E P "__doc__" 532 .none)] 4), #[]⟩
def wE : Obj := ⟨(.type "type"), none, (.cls ⟨"Measure", [(.type "object")], [(.ref 264), (.type "object")], 263, "Measure", true, [], [], false, none, false⟩), #[none, none, (some (.str "Measure" 445)), (some (.str "Measure" 453)), (some (.builtin "object.__new__")), (some (.bool true))]⟩
def BB : Obj := ⟨(.type "getset_descriptor"), none, (.fields #[(.str "__dict__" 528), (.ref 264), (.builtin "function.__dict__"), (.builtin "function.__dict__#set")]), #[]⟩
def BA : Obj := ⟨(.type "getset_descriptor"), none, (.fields #[(.str "__weakref__" 530), (.ref 264), (.builtin "ExceptionGroup.__weakref__"), .none]), #[]⟩
def Bz : Obj := ⟨(.type "super"), none, (.fields #[(.ref 264), (.ref 264), (.ref 264)]), #[]⟩
def By : Obj := ⟨(.type "builtin_function_or_method"), none, (.fields #[(.builtin "object.__init_subclass__"), (.ref 264)]), #[]⟩
def Bx : Obj := fB "_law_bag" "_law_bag" (top 30)
def wD : Obj := cC "_law_bag" "_law_bag" 537 137 1 0 0 3 269 true 181 270 .none .none .none (.ref 271) 540 137 541
def wC : Obj := fL "_law_bag" "_law_bag" 30 272
def Bw : Obj := tO [(.str "_law_bag_here" 546), (.str "_law_lot" 547), (.str "_law_cells" 548), (.str "_law_at" 549), (.str "_law_cell" 550)]
def Bv : Obj := fB "_law_pull" "_law_pull" (top 31)
def wB : Obj := cC "_law_pull" "_law_pull" 543 139 2 0 0 3 274 true 181 275 .none (.ref 276) (.ref 277) (.ref 278) 551 139 552
def wA : Obj := fL "_law_pull" "_law_pull" 31 279
def Bu : Obj := fB "_law_same" "_law_same" (top 32)
def wz : Obj := cC "_law_same" "_law_same" 554 149 2 0 0 3 281 true 181 282 .none .none .none (.ref 283) 557 149 558
def wy : Obj := fL "_law_same" "_law_same" 32 284
def Bt : Obj := fB "_law_turned" "_law_turned" (top 33)
def wx : Obj := cC "_law_turned" "_law_turned" 560 161 1 0 0 3 286 true 181 287 .none .none .none (.ref 288) 563 161 564
def ww : Obj := fL "_law_turned" "_law_turned" 33 289
def Bs : Obj := fB "_law_rowsums" "_law_rowsums" (top 34)
def wv : Obj := cC "_law_rowsums" "_law_rowsums" 566 163 1 0 0 3 291 true 181 292 .none .none .none (.ref 293) 569 163 570
def wu : Obj := fL "_law_rowsums" "_law_rowsums" 34 294
def Br : Obj := fB "_law_columnsums" "_law_columnsums" (top 35)
def wt : Obj := cC "_law_columnsums" "_law_columnsums" 572 165 1 0 0 3 296 true 181 297 .none .none .none (.ref 298) 575 165 576
def wr : Obj := fL "_law_columnsums" "_law_columnsums" 35 299
def Bq : Obj := fB "_law_copied" "_law_copied" (top 36)
def wq : Obj := cC "_law_copied" "_law_copied" 578 167 1 0 0 3 301 true 181 302 .none .none .none (.ref 303) 581 167 582
def wo : Obj := fL "_law_copied" "_law_copied" 36 304
def Bp : Obj := tO [(.str "_law_lot" 587), (.str "_law_found" 588), (.str "_law_k" 589)]
def Bo : Obj := fB "_law_factorial" "_law_factorial" (top 37)
def wn : Obj := cC "_law_factorial" "_law_factorial" 584 169 1 0 0 3 306 true 181 307 .none (.ref 308) (.ref 309) (.ref 310) 590 169 591
def wm : Obj := fL "_law_factorial" "_law_factorial" 37 311
def Bn : Obj := tO [(.str "_law_parts" 596), (.str "_law_under" 597), (.str "_law_part" 598)]
def Bm : Obj := fB "_law_ways" "_law_ways" (top 38)
def wl : Obj := cC "_law_ways" "_law_ways" 593 174 1 0 0 3 313 true 181 314 .none (.ref 315) (.ref 316) (.ref 317) 599 174 600
def wk : Obj := fL "_law_ways" "_law_ways" 38 318
def Bl : Obj := tO [(.str "_law_columns" 605), (.str "_law_found" 606), (.str "_law_column" 607)]
def Bk : Obj := fB "_law_weight" "_law_weight" (top 39)
def wj : Obj := cC "_law_weight" "_law_weight" 602 179 1 0 0 3 320 true 181 321 .none (.ref 322) (.ref 323) (.ref 324) 608 179 609
def wg : Obj := fL "_law_weight" "_law_weight" 39 325
def Bj : Obj := tO [(.str "_law_one" 614), (.str "_law_other" 615), (.str "_law_kept" 616)]
def Bi : Obj := fB "_law_gcd" "_law_gcd" (top 40)
def wf : Obj := cC "_law_gcd" "_law_gcd" 611 184 2 0 0 3 327 true 181 328 .none (.ref 329) (.ref 330) (.ref 331) 617 184 618
def we : Obj := fL "_law_gcd" "_law_gcd" 40 332
def Bh : Obj := tO [(.str "_law_bag_here" 623)]
def Bf : Obj := fB "_law_kind" "_law_kind" (top 41)
def wc : Obj := cC "_law_kind" "_law_kind" 620 190 1 0 0 3 334 true 181 335 .none (.ref 336) (.ref 337) (.ref 338) 624 190 625
def wb : Obj := fL "_law_kind" "_law_kind" 41 339
def Be : Obj := tO [(.str "_law_bag_here" 630), (.str "_law_grid" 631), (.str "_law_at" 632)]
def Bd : Obj := fB "_law_place" "_law_place" (top 42)
def wa : Obj := cC "_law_place" "_law_place" 627 192 2 0 0 3 341 true 181 342 .none (.ref 343) (.ref 344) (.ref 345) 633 192 634
def v9 : Obj := fL "_law_place" "_law_place" 42 346
def Bc : Obj := tO [(.str "_law_rowsums_here" 639), (.str "_law_columnsums_here" 640), (.str "_law_found" 641), (.str "_law_one" 642), (.str "_law_other" 643), (.str "_law_both" 644)]
def Bb : Obj := fB "_law_even" "_law_even" (top 43)
def v8 : Obj := cC "_law_even" "_law_even" 636 195 2 0 0 3 348 true 181 349 .none (.ref 350) (.ref 351) (.ref 352) 645 195 646
def v7 : Obj := fL "_law_even" "_law_even" 43 353
def Ba : Obj := tO [(.str "_law_count" 651), (.str "_law_found" 652), (.str "_law_k" 653)]
def A9 : Obj := fB "_law_self_power" "_law_self_power" (top 44)
def v6 : Obj := cC "_law_self_power" "_law_self_power" 648 203 1 0 0 3 355 true 181 356 .none (.ref 357) (.ref 358) (.ref 359) 654 203 655
def v5 : Obj := fL "_law_self_power" "_law_self_power" 44 360
def A8 : Obj := tO [(.str "_law_rowsums_here" 660), (.str "_law_columnsums_here" 661), (.str "_law_columns" 662), (.str "_law_even_here" 663), (.str "_law_found" 664), (.str "_law_to" 665), (.str "_law_column" 666), (.str "_law_at" 667), (.str "_law_count" 668), (.str "_law_both" 669)]
def A7 : Obj := fB "_law_square" "_law_square" (top 45)
def v4 : Obj := cC "_law_square" "_law_square" 657 208 3 0 0 3 362 true 181 363 .none (.ref 364) (.ref 365) (.ref 366) 670 208 671
def v3 : Obj := fL "_law_square" "_law_square" 45 367
def A6 : Obj := tO [(.str "_law_rowsums_here" 676), (.str "_law_columnsums_here" 677), (.str "_law_columns" 678), (.str "_law_found" 679), (.str "_law_whole" 680), (.str "_law_to" 681), (.str "_law_column" 682), (.str "_law_at" 683), (.str "_law_count" 684), (.str "_law_both" 685)]
def A5 : Obj := fB "_law_off" "_law_off" (top 46)
def vZ : Obj := cC "_law_off" "_law_off" 673 217 3 0 0 3 369 true 181 370 .none (.ref 371) (.ref 372) (.ref 373) 686 217 687
def vY : Obj := fL "_law_off" "_law_off" 46 374
def b378 : Obj := tO [(.str "_law_kind_here" 692), (.str "_law_rowsums_here" 693), (.str "_law_columnsums_here" 694), (.str "_law_where" 695), (.str "_law_columns" 696), (.str "_law_found" 697), (.str "_law_column" 698), (.str "_law_count" 699)]
def b380 : Obj := fB "_law_value" "_law_value" (top 47)
def A4 : Obj := cC "_law_value" "_law_value" 689 225 5 0 0 3 376 true 181 377 .none (.ref 378) (.ref 379) (.ref 380) 700 225 701
def A3 : Obj := fL "_law_value" "_law_value" 47 381
def b385 : Obj := fB "_law_any" "_law_any" (top 48)
def A0 : Obj := cC "_law_any" "_law_any" 703 239 1 0 0 3 383 true 181 384 .none .none .none (.ref 385) 706 239 707
def AZ : Obj := fL "_law_any" "_law_any" 48 386
def b390 : Obj := tO [(.str "_law_script" 712), (.str "_law_bag_here" 713), (.str "_law_block" 714), (.str "_law_where" 715), (.str "_law_kind_here" 716), (.str "_law_other" 717), (.str "_law_rowsums_here" 718), (.str "_law_columnsums_here" 719), (.str "_law_handed" 720), (.str "_law_one" 721), (.str "_law_two" 722), (.str "_law_columns" 723), (.str "_law_due" 724), (.str "_law_told" 725)]
def b392 : Obj := fB "law" "law" (top 49)
def AY : Obj := cC "law" "law" 709 250 1 0 0 3 388 true 181 389 .none (.ref 390) (.ref 391) (.ref 392) 726 250 727
def AX : Obj := fL "law" "law" 49 393
def h0_3 : Obj := ⟨(.type "dict"), none, (.dict #[(E P "__name__" 165 (.str "__main__" 164)), (E P "__doc__" 166 .none), (E P "__package__" 167 .none), (E P "__loader__" 168 (.builtin "__main__.__loader__#opaque")), (E P "__spec__" 169 .none), (E P "__annotations__" 170 (.ref 6)), (E P "__builtins__" 171 (.ref 4)), (E P "__file__" 173 (.str "/claim/cut.py" 172)), (E P "__cached__" 174 .none)] 9), #[]⟩
def CN : Obj := nO []
def h1_3 : Obj := ⟨(.type "dict"), none, (.dict #[(E P "__name__" 165 (.str "__main__" 164)), (E P "__doc__" 166 .none), (E P "__package__" 167 .none), (E P "__loader__" 168 (.builtin "__main__.__loader__#opaque")), (E P "__spec__" 169 .none), (E P "__annotations__" 170 (.ref 6)), (E P "__builtins__" 171 (.ref 4)), (E P "__file__" 173 (.str "/claim/cut.py" 172)), (E P "__cached__" 174 .none)] 9), #[]⟩
def CI : Obj := nO [(.int 1 0), (.int 0 0), (.ref 20), (.int 5 0), (.int 0 0), (.ref 27), (.int 10 0), (.int 0 0), (.ref 47), (.int 14 0), (.int 0 0), (.ref 67), (.int 18 0), (.int 0 0), (.ref 87)]
def k1_3 : Obj := ⟨(.type "dict"), none, (.dict #[(E P "__name__" 165 (.str "edgetally.errors" 194)), (E P "__doc__" 166 .none), (E P "__package__" 167 .none), (E P "__loader__" 168 (.builtin "__main__.__loader__#opaque")), (E P "__spec__" 169 .none), (E P "__annotations__" 170 (.ref 6)), (E P "__builtins__" 171 (.ref 4)), (E P "__file__" 173 (.str "/claim/cut.py" 172)), (E P "__cached__" 174 .none), (E P "_wall" 193 (.ref 21)), (E P "EdgeError" 223 (.ref 38)), (E P "BadSums" 248 (.ref 59)), (E P "BadRule" 273 (.ref 79)), (E P "BadCell" 298 (.ref 99))] 14), #[]⟩
def CH : Obj := ⟨(.type "type"), none, (.cls ⟨"EdgeError", [(.type "ValueError")], [(.ref 38), (.type "ValueError"), (.type "Exception"), (.type "BaseException"), (.type "object")], 37, "EdgeError", true, [], [(.ref 59), (.ref 79), (.ref 99)], false, none, false⟩), #[(some (.ref 22)), none, (some (.str "EdgeError" 196)), (some (.str "EdgeError" 204)), (some (.builtin "ValueError.__new__")), (some (.bool true))]⟩
def CG : Obj := nO [(.int 1 0), (.int 0 0), (.ref 20), (.int 5 0), (.int 0 0), (.ref 27), (.int 10 0), (.int 0 0), (.ref 47), (.int 14 0), (.int 0 0), (.ref 67), (.int 18 0), (.int 0 0), (.ref 87), (.int 22 0), (.int 0 0), (.ref 107), (.int 30 0), (.int 0 0), (.ref 125), (.int 41 0), (.int 0 0), (.ref 132), (.int 44 0), (.int 0 0), (.ref 139), (.int 47 0), (.int 0 0), (.ref 144), (.int 50 0), (.int 0 0), (.ref 151), (.int 55 0), (.int 0 0), (.ref 158), (.int 60 0), (.int 0 0), (.ref 165), (.int 68 0), (.int 0 0), (.ref 172), (.int 76 0), (.int 0 0), (.ref 182), (.int 81 0), (.int 0 0), (.ref 189), (.int 86 0), (.int 0 0), (.ref 194), (.int 88 0), (.int 0 0), (.ref 199)]
def k2_3 : Obj := ⟨(.type "dict"), none, (.dict #[(E P "__name__" 165 (.str "edgetally.measures" 400)), (E P "__doc__" 166 .none), (E P "__package__" 167 .none), (E P "__loader__" 168 (.builtin "__main__.__loader__#opaque")), (E P "__spec__" 169 .none), (E P "__annotations__" 170 (.ref 6)), (E P "__builtins__" 171 (.ref 4)), (E P "__file__" 173 (.str "/claim/cut.py" 172)), (E P "__cached__" 174 .none), (E P "_wall" 193 (.ref 21)), (E P "EdgeError" 223 (.ref 38)), (E P "BadSums" 248 (.ref 59)), (E P "BadRule" 273 (.ref 79)), (E P "BadCell" 298 (.ref 99)), (E P "BadNumber" 323 (.ref 119)), (E P "MOST" 327 (.int 40 326)), (E P "MOST_ROWS" 329 (.int 4 328)), (E P "MOST_COLUMNS" 331 (.int 6 330)), (E P "check_sums" 337 (.ref 126)), (E P "check_there" 345 (.ref 133)), (E P "check_cell" 355 (.ref 140)), (E P "rows_turned" 361 (.ref 145)), (E P "factorial" 372 (.ref 152)), (E P "power" 382 (.ref 159)), (E P "ways" 391 (.ref 166)), (E P "common_factor" 399 (.ref 173)), (E P "KINDS" 408 (.ref 174)), (E P "BY_PRODUCT" 411 (.ref 175)), (E P "BY_PLACE" 414 (.ref 176)), (E P "least_common" 423 (.ref 183)), (E P "power_part" 432 (.ref 190)), (E P "square_part" 438 (.ref 195)), (E P "off_part" 444 (.ref 200))] 33), #[]⟩
def CF : Obj := nO [(.int 1 0), (.int 0 0), (.ref 20), (.int 5 0), (.int 0 0), (.ref 27), (.int 10 0), (.int 0 0), (.ref 47), (.int 14 0), (.int 0 0), (.ref 67), (.int 18 0), (.int 0 0), (.ref 87), (.int 22 0), (.int 0 0), (.ref 107), (.int 30 0), (.int 0 0), (.ref 125), (.int 41 0), (.int 0 0), (.ref 132), (.int 44 0), (.int 0 0), (.ref 139), (.int 47 0), (.int 0 0), (.ref 144), (.int 50 0), (.int 0 0), (.ref 151), (.int 55 0), (.int 0 0), (.ref 158), (.int 60 0), (.int 0 0), (.ref 165), (.int 68 0), (.int 0 0), (.ref 172), (.int 76 0), (.int 0 0), (.ref 182), (.int 81 0), (.int 0 0), (.ref 189), (.int 86 0), (.int 0 0), (.ref 194), (.int 88 0), (.int 0 0), (.ref 199), (.int 90 0), (.int 0 0), (.ref 206), (.int 137 0), (.int 0 0), (.ref 272), (.int 139 0), (.int 0 0), (.ref 279), (.int 149 0), (.int 0 0), (.ref 284), (.int 161 0), (.int 0 0), (.ref 289), (.int 163 0), (.int 0 0), (.ref 294), (.int 165 0), (.int 0 0), (.ref 299), (.int 167 0), (.int 0 0), (.ref 304), (.int 169 0), (.int 0 0), (.ref 311), (.int 174 0), (.int 0 0), (.ref 318), (.int 179 0), (.int 0 0), (.ref 325), (.int 184 0), (.int 0 0), (.ref 332), (.int 190 0), (.int 0 0), (.ref 339), (.int 192 0), (.int 0 0), (.ref 346), (.int 195 0), (.int 0 0), (.ref 353), (.int 203 0), (.int 0 0), (.ref 360), (.int 208 0), (.int 0 0), (.ref 367), (.int 217 0), (.int 0 0), (.ref 374)]
def k3_3 : Obj := ⟨(.type "dict"), none, (.dict #[(E P "__name__" 165 (.str "law_edgetally_k28_measures_of_tables" 535)), (E P "__doc__" 166 .none), (E P "__package__" 167 .none), (E P "__loader__" 168 (.builtin "__main__.__loader__#opaque")), (E P "__spec__" 169 .none), (E P "__annotations__" 170 (.ref 6)), (E P "__builtins__" 171 (.ref 4)), (E P "__file__" 173 (.str "/claim/cut.py" 172)), (E P "__cached__" 174 .none), (E P "_wall" 193 (.ref 21)), (E P "EdgeError" 223 (.ref 38)), (E P "BadSums" 248 (.ref 59)), (E P "BadRule" 273 (.ref 79)), (E P "BadCell" 298 (.ref 99)), (E P "BadNumber" 323 (.ref 119)), (E P "MOST" 327 (.int 40 326)), (E P "MOST_ROWS" 329 (.int 4 328)), (E P "MOST_COLUMNS" 331 (.int 6 330)), (E P "check_sums" 337 (.ref 126)), (E P "check_there" 345 (.ref 133)), (E P "check_cell" 355 (.ref 140)), (E P "rows_turned" 361 (.ref 145)), (E P "factorial" 372 (.ref 152)), (E P "power" 382 (.ref 159)), (E P "ways" 391 (.ref 166)), (E P "common_factor" 399 (.ref 173)), (E P "KINDS" 408 (.ref 174)), (E P "BY_PRODUCT" 411 (.ref 175)), (E P "BY_PLACE" 414 (.ref 176)), (E P "least_common" 423 (.ref 183)), (E P "power_part" 432 (.ref 190)), (E P "square_part" 438 (.ref 195)), (E P "off_part" 444 (.ref 200)), (E P "Measure" 534 (.ref 264)), (E P "_law_bag" 542 (.ref 273)), (E P "_law_pull" 553 (.ref 280)), (E P "_law_same" 559 (.ref 285)), (E P "_law_turned" 565 (.ref 290)), (E P "_law_rowsums" 571 (.ref 295)), (E P "_law_columnsums" 577 (.ref 300)), (E P "_law_copied" 583 (.ref 305)), (E P "_law_factorial" 592 (.ref 312)), (E P "_law_ways" 601 (.ref 319)), (E P "_law_weight" 610 (.ref 326)), (E P "_law_gcd" 619 (.ref 333)), (E P "_law_kind" 626 (.ref 340)), (E P "_law_place" 635 (.ref 347)), (E P "_law_even" 647 (.ref 354)), (E P "_law_self_power" 656 (.ref 361)), (E P "_law_square" 672 (.ref 368)), (E P "_law_off" 688 (.ref 375))] 51), #[]⟩
def h0H : Heap := ⟨⟨[b0 P, b1 P, b2, h0_3 P, b4, b5, b6, b7, b8, b9, b10]⟩, {}⟩
def h1H : Heap := ⟨⟨[b0 P, b1 P, b2, h1_3 P, b4, b5, b6, b7, b8, b9, b10, b7, CN, b13, b14]⟩, {}⟩
def k1H : Heap := ⟨⟨[b0 P, b1 P, b2, k1_3 P, b4, b5, b6, b7, b8, b9, b10, b7, CI, b13, b14, b7, b8, b17, b7, b19, b20, b21, b22, b23, b24 P, b7, b26, b27, b28, b7, b8, b31, b7, b33, b34, b35, b36, b37 P, CH, b39, b40, b41, b42, b23, b44 P, b7, b46, b47, b48, b49, b7, b8, b52, b7, b54, b55, b56, b7, b58 P, b59, b60, b61, b42, b23, b64 P, b7, b66, b67, b68, b69, b7, b8, b72, b7, b74, b75, b76, b7, b78 P, b79, b80, b81, b42, b23, b84 P, b7, b86, b87, b88, b89, b7, b8, b92, b7, b94, b95, b96, b7, b98 P, b99, sQ, sP]⟩, {}⟩
def k2H : Heap := ⟨⟨[b0 P, b1 P, b2, k2_3 P, b4, b5, b6, b7, b8, b9, b10, b7, CG, b13, b14, b7, b8, b17, b7, b19, b20, b21, b22, b23, b24 P, b7, b26, b27, b28, b7, b8, b31, b7, b33, b34, b35, b36, b37 P, b38, b39, b40, b41, b42, b23, b44 P, b7, b46, b47, b48, b49, b7, b8, b52, b7, b54, b55, b56, b7, b58 P, b59, b60, b61, b42, b23, b64 P, b7, b66, b67, b68, b69, b7, b8, b72, b7, b74, b75, b76, b7, b78 P, b79, b80, b81, b42, b23, b84 P, b7, b86, b87, b88, b89, b7, b8, b92, b7, b94, b95, b96, b7, b98 P, b99, sQ, sP, b42, b23, xu P, b7, xt, xq, xp, sO, b7, b8, xo, b7, xm, sN, sM, b7, sL P, sK, xl, xk, b7, b8, xj, sJ, sI, b7, b8, xi, b7, xh, sH, sG, b7, b8, xg, b7, xf, sF, sE, b7, b8, xb, sD, sC, b7, b8, xa, b7, w9, sB, sA, b7, b8, w8, b7, w6, sy, sw, b7, b8, w5, b7, w4, su, ss, b7, b8, wZ, b7, wY, sr, sk, sj, sf, se, b7, b8, wX, b7, wW, sd, r9, b7, b8, wV, b7, wU, r8, rZ, b7, b8, wT, rY, rX, b7, b8, wS, rW, rV]⟩, {}⟩
def k3H : Heap := ⟨⟨[b0 P, b1 P, b2, k3_3 P, b4, b5, b6, b7, b8, b9, b10, b7, CF, b13, b14, b7, b8, b17, b7, b19, b20, b21, b22, b23, b24 P, b7, b26, b27, b28, b7, b8, b31, b7, b33, b34, b35, b36, b37 P, b38, b39, b40, b41, b42, b23, b44 P, b7, b46, b47, b48, b49, b7, b8, b52, b7, b54, b55, b56, b7, b58 P, b59, b60, b61, b42, b23, b64 P, b7, b66, b67, b68, b69, b7, b8, b72, b7, b74, b75, b76, b7, b78 P, b79, b80, b81, b42, b23, b84 P, b7, b86, b87, b88, b89, b7, b8, b92, b7, b94, b95, b96, b7, b98 P, b99, sQ, sP, b42, b23, xu P, b7, xt, xq, xp, sO, b7, b8, xo, b7, xm, sN, sM, b7, sL P, sK, xl, xk, b7, b8, xj, sJ, sI, b7, b8, xi, b7, xh, sH, sG, b7, b8, xg, b7, xf, sF, sE, b7, b8, xb, sD, sC, b7, b8, xa, b7, w9, sB, sA, b7, b8, w8, b7, w6, sy, sw, b7, b8, w5, b7, w4, su, ss, b7, b8, wZ, b7, wY, sr, sk, sj, sf, se, b7, b8, wX, b7, wW, sd, r9, b7, b8, wV, b7, wU, r8, rZ, b7, b8, wT, rY, rX, b7, b8, wS, rW, rV, b7, b23, B0 P, b7, BZ, BY, BX, wR, wQ P, b7, b8, BW, wP, wO, b7, b8, BV, b7, BU, BT, BS, b7, b8, BR, b7, BQ, BP, BO, b7, b8, BN, wN, wM, b7, b8, BM, b7, BL, wL, wK, b7, b8, BK, b7, BJ, wJ, wI, b7, b8, BI, b7, BH, wH, wG, b7, b8, BG, b7, BF, BE, BD, BC, wF P, wE, BB, BA, Bz, By, b7, b8, Bx, wD, wC, b7, b8, Bw, b7, Bv, wB, wA, b7, b8, Bu, wz, wy, b7, b8, Bt, wx, ww, b7, b8, Bs, wv, wu, b7, b8, Br, wt, wr, b7, b8, Bq, wq, wo, b7, b8, Bp, b7, Bo, wn, wm, b7, b8, Bn, b7, Bm, wl, wk, b7, b8, Bl, b7, Bk, wj, wg, b7, b8, Bj, b7, Bi, wf, we, b7, b8, Bh, b7, Bf, wc, wb, b7, b8, Be, b7, Bd, wa, v9, b7, b8, Bc, b7, Bb, v8, v7, b7, b8, Ba, b7, A9, v6, v5, b7, b8, A8, b7, A7, v4, v3, b7, b8, A6, b7, A5, vZ, vY]⟩, {}⟩
def k4H : Heap := ⟨⟨[b0 P, b1 P, b2, b3 P, b4, b5, b6, b7, b8, b9, b10, b7, b12, b13, b14, b7, b8, b17, b7, b19, b20, b21, b22, b23, b24 P, b7, b26, b27, b28, b7, b8, b31, b7, b33, b34, b35, b36, b37 P, b38, b39, b40, b41, b42, b23, b44 P, b7, b46, b47, b48, b49, b7, b8, b52, b7, b54, b55, b56, b7, b58 P, b59, b60, b61, b42, b23, b64 P, b7, b66, b67, b68, b69, b7, b8, b72, b7, b74, b75, b76, b7, b78 P, b79, b80, b81, b42, b23, b84 P, b7, b86, b87, b88, b89, b7, b8, b92, b7, b94, b95, b96, b7, b98 P, b99, sQ, sP, b42, b23, xu P, b7, xt, xq, xp, sO, b7, b8, xo, b7, xm, sN, sM, b7, sL P, sK, xl, xk, b7, b8, xj, sJ, sI, b7, b8, xi, b7, xh, sH, sG, b7, b8, xg, b7, xf, sF, sE, b7, b8, xb, sD, sC, b7, b8, xa, b7, w9, sB, sA, b7, b8, w8, b7, w6, sy, sw, b7, b8, w5, b7, w4, su, ss, b7, b8, wZ, b7, wY, sr, sk, sj, sf, se, b7, b8, wX, b7, wW, sd, r9, b7, b8, wV, b7, wU, r8, rZ, b7, b8, wT, rY, rX, b7, b8, wS, rW, rV, b7, b23, B0 P, b7, BZ, BY, BX, wR, wQ P, b7, b8, BW, wP, wO, b7, b8, BV, b7, BU, BT, BS, b7, b8, BR, b7, BQ, BP, BO, b7, b8, BN, wN, wM, b7, b8, BM, b7, BL, wL, wK, b7, b8, BK, b7, BJ, wJ, wI, b7, b8, BI, b7, BH, wH, wG, b7, b8, BG, b7, BF, BE, BD, BC, wF P, wE, BB, BA, Bz, By, b7, b8, Bx, wD, wC, b7, b8, Bw, b7, Bv, wB, wA, b7, b8, Bu, wz, wy, b7, b8, Bt, wx, ww, b7, b8, Bs, wv, wu, b7, b8, Br, wt, wr, b7, b8, Bq, wq, wo, b7, b8, Bp, b7, Bo, wn, wm, b7, b8, Bn, b7, Bm, wl, wk, b7, b8, Bl, b7, Bk, wj, wg, b7, b8, Bj, b7, Bi, wf, we, b7, b8, Bh, b7, Bf, wc, wb, b7, b8, Be, b7, Bd, wa, v9, b7, b8, Bc, b7, Bb, v8, v7, b7, b8, Ba, b7, A9, v6, v5, b7, b8, A8, b7, A7, v4, v3, b7, b8, A6, b7, A5, vZ, vY, b7, b8, b378, b7, b380, A4, A3, b7, b8, b385, A0, AZ, b7, b8, b390, b7, b392, AY, AX]⟩, {}⟩
end
noncomputable def KH : Params -> Frag := fun P =>
[(2, b2), (3, b3 P), (34, b34), (35, b35), (37, b37 P), (38, b38), (49, b49), (55, b55), (56, b56), (58, b58 P), (59, b59), (69, b69), (75, b75), (76, b76), (78, b78 P), (79, b79), (89, b89), (95, b95), (96, b96), (98, b98 P), (99, b99), (109, sO), (115, sN), (116, sM), (118, sL P), (119, sK), (125, sJ), (126, sI), (132, sH), (133, sG), (139, sF), (140, sE), (144, sD), (145, sC), (151, sB), (152, sA), (158, sy), (159, sw), (165, su), (166, ss), (172, sr), (173, sk), (174, sj), (175, sf), (176, se), (182, sd), (183, r9), (189, r8), (190, rZ), (194, rY), (195, rX), (199, rW), (200, rV), (208, wR), (209, wQ P), (213, wP), (214, wO), (232, wN), (233, wM), (239, wL), (240, wK), (246, wJ), (247, wI), (253, wH), (254, wG), (263, wF P), (264, wE), (272, wD), (273, wC), (279, wB), (280, wA), (284, wz), (285, wy), (289, wx), (290, ww), (294, wv), (295, wu), (299, wt), (300, wr), (304, wq), (305, wo), (311, wn), (312, wm), (318, wl), (319, wk), (325, wj), (326, wg), (332, wf), (333, we), (339, wc), (340, wb), (346, wa), (347, v9), (353, v8), (354, v7), (360, v6), (361, v5), (367, v4), (368, v3), (374, vZ), (375, vY), (381, A4), (382, A3), (386, A0), (387, AZ), (393, AY), (394, AX)]
def aH : List Addr := [2, 3, 34, 35, 37, 38, 49, 55, 56, 58, 59, 69, 75, 76, 78, 79, 89, 95, 96, 98, 99, 109, 115, 116, 118, 119, 125, 126, 132, 133, 139, 140, 144, 145, 151, 152, 158, 159, 165, 166, 172, 173, 174, 175, 176, 182, 183, 189, 190, 194, 195, 199, 200, 208, 209, 213, 214, 232, 233, 239, 240, 246, 247, 253, 254, 263, 264, 272, 273, 279, 280, 284, 285, 289, 290, 294, 295, 299, 300, 304, 305, 311, 312, 318, 319, 325, 326, 332, 333, 339, 340, 346, 347, 353, 354, 360, 361, 367, 368, 374, 375, 381, 382, 386, 387, 393, 394]
theorem eH : ∀ P, aH = (KH P).map (·.1) := fun _ => by kernel_rfl
def qH : Program := { PySem.Challenge.pw_edgetally_k28_measures_of_tables with main := { PySem.Challenge.pw_edgetally_k28_measures_of_tables.main with body := [top 0, top 2, top 3, top 4, top 5, top 6, top 8, top 9, top 10, top 11, top 12, top 13, top 14, top 16, top 17, top 18, top 19, top 21, top 22, top 23, top 24, top 25, top 26, top 27, top 28, top 30, top 31, top 32, top 33, top 34, top 35, top 36, top 37, top 38, top 39, top 40, top 41, top 42, top 43, top 44, top 45, top 46, top 47, top 48, top 49] } }
abbrev lvH : List (Str × PySem.W.WData) := []
abbrev loH : List Str := ["BadSums", "BadRule", "BadCell", "BadNumber", "Measure"]
noncomputable abbrev hkH := PySem.W.kHook KH aH eH
def xtH (s : Shared) : Bool := PySem.W.xlAt qH lvH s && PySem.W.recOk (PySem.W.RowW.records (PySem.W.OpenRow.toRowW (PySem.W.OpenLaw.row PySem.Challenge.rw_edgetally_k28_measures_of_tables))) s
abbrev pH : Program := PySem.W.RowW.prog (PySem.W.OpenRow.toRowW (PySem.W.OpenLaw.row PySem.Challenge.rw_edgetally_k28_measures_of_tables))
def bdH : List Stmt := PySem.W.behindTheImports pH
def evH : Env := { scope := pH.main.scope, locals := mainNs, globals := mainNs, cells := [], code := (.ref 13), frame := (some 14) }
def cH : Code := .body bdH evH
abbrev tpH : List Frame := [PySem.W.topFrame ⟨0, 0, 0, 0⟩]
theorem opH (w : World) : (PySem.W.fencedOpening PySem.treeTable pH w 5660).map (fun s => (s.heap, s.gens, s.drawn, s.toks)) = some (h0H w.params, #[], {}, 181) := by kernel_rfl
theorem szH (w : World) : ((h0H w.params).isNs mainGlobals && (#[] : Array GenState).size == 0, (h0H w.params).objs.size, (h0H w.params).nsMap mainGlobals "__annotations__") = (true, 11, (some (.ref 6))) := by kernel_rfl
theorem r1H (w : World) (os : OsState) : PySem.W.topGo PySem.treeTable pH w 11 (some (.ref 6)) 12 ⟨h0H w.params, #[], {}, 181, os⟩ (PySem.W.topStub pH) = some (⟨h1H w.params, #[], {}, 187, os⟩, ⟨denote PySem.treeTable (.body bdH evH), cH, ⟨0, 0, 0, 0⟩, tpH⟩) := by kernel_rfl
theorem r2H (w : World) (os : OsState) : PySem.W.segRun PySem.treeTable pH w 11 (some (.ref 6)) 1 1 ⟨h1H w.params, #[], {}, 187, os⟩ (PySem.W.blockOf bdH evH cH ⟨0, 0, 0, 0⟩ tpH) = some (.next, ⟨h1H w.params, #[], {}, 187, os⟩, cH, ⟨0, 0, 0, 0⟩) := by kernel_rfl
theorem c1H (w : World) (os : OsState) : PySem.W.segRun PySem.treeTable pH w 11 (some (.ref 6)) 1 996 ⟨h1H w.params, #[], {}, 187, os⟩ (PySem.W.piecesOf (bdH.take 6) evH cH ⟨0, 0, 0, 0⟩ tpH) = some (.next, ⟨k1H w.params, #[], {}, 299, os⟩, cH, ⟨18, 0, 21, 45⟩) := by kernel_rfl
theorem c2H (w : World) (os : OsState) : PySem.W.segRun PySem.treeTable pH w 11 (some (.ref 6)) 1 693 ⟨k1H w.params, #[], {}, 299, os⟩ (PySem.W.piecesOf ((bdH.drop 6).take 22) evH cH ⟨18, 0, 21, 45⟩ tpH) = some (.next, ⟨k2H w.params, #[], {}, 445, os⟩, cH, ⟨88, 0, 89, 91⟩) := by kernel_rfl
theorem c3H (w : World) (os : OsState) : PySem.W.segRun PySem.treeTable pH w 11 (some (.ref 6)) 1 977 ⟨k2H w.params, #[], {}, 445, os⟩ (PySem.W.piecesOf (((bdH.drop 6).drop 22).take 19) evH cH ⟨88, 0, 89, 91⟩ tpH) = some (.next, ⟨k3H w.params, #[], {}, 689, os⟩, cH, ⟨217, 0, 224, 21⟩) := by kernel_rfl
theorem c4H (w : World) (os : OsState) : PySem.W.segRun PySem.treeTable pH w 11 (some (.ref 6)) 1 105 ⟨k3H w.params, #[], {}, 689, os⟩ (PySem.W.piecesOf ((((bdH.drop 6).drop 22).drop 19).take 3) evH cH ⟨217, 0, 224, 21⟩ tpH) = some (.next, ⟨k4H w.params, #[], {}, 729, os⟩, cH, ⟨250, 0, 274, 54⟩) := by kernel_rfl
theorem e0H : ((((bdH.drop 6).drop 22).drop 19).drop 3) = [] := by kernel_rfl
theorem r9H (w : World) (os : OsState) : PySem.W.topRun PySem.treeTable pH w 11 (some (.ref 6)) 2 ⟨k4H w.params, #[], {}, 729, os⟩ ⟨PySem.W.doneF .next, cH, ⟨250, 0, 274, 54⟩, tpH⟩ = some ⟨k4H w.params, #[], {}, 729, os⟩ := by kernel_rfl
theorem rnH (w : World) (os : OsState) : PySem.W.topRun PySem.treeTable pH w 11 (some (.ref 6)) (12 + (1 + (996 + (693 + (977 + (105 + 2)))))) ⟨h0H w.params, #[], {}, 181, os⟩ (PySem.W.topStub pH) = some ⟨k4H w.params, #[], {}, 729, os⟩ := PySem.W.go_top (r1H w os) (PySem.W.piece_block (r2H w os) (iM 6 (c1H w os) (iM 22 (c2H w os) (iM 19 (c3H w os) (iM 3 (c4H w os) (vH e0H (r9H w os)))))))
theorem hlH : PySem.W.LeftO pH qH loH xtH (PySem.W.Hook.obs hkH) (PySem.W.Hook.val hkH) 5660 := PySem.W.LeftO.of_pieces (H₀ := h0H) (H₁ := k4H) opH szH rnH (by decide +kernel) fun w => by kernel_rfl
theorem wsH : PySem.W.OpenLaw.wellSaid PySem.Challenge.rw_edgetally_k28_measures_of_tables = true := by decide +kernel
theorem okH : (PySem.W.chainsOk qH && PySem.W.opensWell (PySem.W.RowW.prog (PySem.W.OpenRow.toRowW (PySem.W.OpenLaw.row PySem.Challenge.rw_edgetally_k28_measures_of_tables))) && (PySem.W.frees (PySem.W.OpenRow.toRowW (PySem.W.OpenLaw.row PySem.Challenge.rw_edgetally_k28_measures_of_tables)) && (PySem.W.RowW.within (PySem.W.OpenRow.toRowW (PySem.W.OpenLaw.row PySem.Challenge.rw_edgetally_k28_measures_of_tables))).isEmpty)) = true := by decide +kernel
abbrev adH : Ad := { C_EdgeError := 38, x_EdgeError := 35, y_EdgeError := FN "__init__" "EdgeError.__init__" (ay (top 2) 0) .none .none .none (.str "edgetally.errors" 194) none (.ref 34) .none, C_BadSums := 59, x_BadSums := 56, y_BadSums := FN "__init__" "BadSums.__init__" (ay (top 3) 0) (.ref 49) .none .none (.str "edgetally.errors" 194) none (.ref 55) .none, C_BadRule := 79, x_BadRule := 76, y_BadRule := FN "__init__" "BadRule.__init__" (ay (top 4) 0) (.ref 69) .none .none (.str "edgetally.errors" 194) none (.ref 75) .none, C_BadCell := 99, x_BadCell := 96, y_BadCell := FN "__init__" "BadCell.__init__" (ay (top 5) 0) (.ref 89) .none .none (.str "edgetally.errors" 194) none (.ref 95) .none, C_BadNumber := 119, x_BadNumber := 116, y_BadNumber := FN "__init__" "BadNumber.__init__" (ay (top 6) 0) (.ref 109) .none .none (.str "edgetally.errors" 194) none (.ref 115) .none, C_Measure := 264, f_check_sums := 126, d_check_sums := FN "check_sums" "check_sums" (top 11) .none .none .none (.str "edgetally.bounds" 324) none (.ref 125) .none, f_check_there := 133, d_check_there := FN "check_there" "check_there" (top 12) .none .none .none (.str "edgetally.bounds" 324) none (.ref 132) .none, f_check_cell := 140, d_check_cell := FN "check_cell" "check_cell" (top 13) .none .none .none (.str "edgetally.bounds" 324) none (.ref 139) .none, f_rows_turned := 145, d_rows_turned := FN "rows_turned" "rows_turned" (top 14) .none .none .none (.str "edgetally.bounds" 324) none (.ref 144) .none, f_factorial := 152, d_factorial := FN "factorial" "factorial" (top 16) .none .none .none (.str "edgetally.counts" 362) none (.ref 151) .none, f_power := 159, d_power := FN "power" "power" (top 17) .none .none .none (.str "edgetally.counts" 362) none (.ref 158) .none, f_ways := 166, d_ways := FN "ways" "ways" (top 18) .none .none .none (.str "edgetally.counts" 362) none (.ref 165) .none, f_common_factor := 173, d_common_factor := FN "common_factor" "common_factor" (top 19) .none .none .none (.str "edgetally.counts" 362) none (.ref 172) .none, f_least_common := 183, d_least_common := FN "least_common" "least_common" (top 24) .none .none .none (.str "edgetally.measures" 400) none (.ref 182) .none, f_power_part := 190, d_power_part := FN "power_part" "power_part" (top 25) .none .none .none (.str "edgetally.measures" 400) none (.ref 189) .none, f_square_part := 195, d_square_part := FN "square_part" "square_part" (top 26) .none .none .none (.str "edgetally.measures" 400) none (.ref 194) .none, f_off_part := 200, d_off_part := FN "off_part" "off_part" (top 27) .none .none .none (.str "edgetally.measures" 400) none (.ref 199) .none, f_l_bag := 273, d_l_bag := FN "_law_bag" "_law_bag" (top 30) .none .none .none (.str "law_edgetally_k28_measures_of_tables" 535) none (.ref 272) .none, f_l_pull := 280, d_l_pull := FN "_law_pull" "_law_pull" (top 31) .none .none .none (.str "law_edgetally_k28_measures_of_tables" 535) none (.ref 279) .none, f_l_same := 285, d_l_same := FN "_law_same" "_law_same" (top 32) .none .none .none (.str "law_edgetally_k28_measures_of_tables" 535) none (.ref 284) .none, f_l_turned := 290, d_l_turned := FN "_law_turned" "_law_turned" (top 33) .none .none .none (.str "law_edgetally_k28_measures_of_tables" 535) none (.ref 289) .none, f_l_rowsums := 295, d_l_rowsums := FN "_law_rowsums" "_law_rowsums" (top 34) .none .none .none (.str "law_edgetally_k28_measures_of_tables" 535) none (.ref 294) .none, f_l_columnsums := 300, d_l_columnsums := FN "_law_columnsums" "_law_columnsums" (top 35) .none .none .none (.str "law_edgetally_k28_measures_of_tables" 535) none (.ref 299) .none, f_l_copied := 305, d_l_copied := FN "_law_copied" "_law_copied" (top 36) .none .none .none (.str "law_edgetally_k28_measures_of_tables" 535) none (.ref 304) .none, f_l_factorial := 312, d_l_factorial := FN "_law_factorial" "_law_factorial" (top 37) .none .none .none (.str "law_edgetally_k28_measures_of_tables" 535) none (.ref 311) .none, f_l_ways := 319, d_l_ways := FN "_law_ways" "_law_ways" (top 38) .none .none .none (.str "law_edgetally_k28_measures_of_tables" 535) none (.ref 318) .none, f_l_weight := 326, d_l_weight := FN "_law_weight" "_law_weight" (top 39) .none .none .none (.str "law_edgetally_k28_measures_of_tables" 535) none (.ref 325) .none, f_l_gcd := 333, d_l_gcd := FN "_law_gcd" "_law_gcd" (top 40) .none .none .none (.str "law_edgetally_k28_measures_of_tables" 535) none (.ref 332) .none, f_l_kind := 340, d_l_kind := FN "_law_kind" "_law_kind" (top 41) .none .none .none (.str "law_edgetally_k28_measures_of_tables" 535) none (.ref 339) .none, f_l_place := 347, d_l_place := FN "_law_place" "_law_place" (top 42) .none .none .none (.str "law_edgetally_k28_measures_of_tables" 535) none (.ref 346) .none, f_l_even := 354, d_l_even := FN "_law_even" "_law_even" (top 43) .none .none .none (.str "law_edgetally_k28_measures_of_tables" 535) none (.ref 353) .none, f_l_self_power := 361, d_l_self_power := FN "_law_self_power" "_law_self_power" (top 44) .none .none .none (.str "law_edgetally_k28_measures_of_tables" 535) none (.ref 360) .none, f_l_square := 368, d_l_square := FN "_law_square" "_law_square" (top 45) .none .none .none (.str "law_edgetally_k28_measures_of_tables" 535) none (.ref 367) .none, f_l_off := 375, d_l_off := FN "_law_off" "_law_off" (top 46) .none .none .none (.str "law_edgetally_k28_measures_of_tables" 535) none (.ref 374) .none, f_l_value := 382, d_l_value := FN "_law_value" "_law_value" (top 47) .none .none .none (.str "law_edgetally_k28_measures_of_tables" 535) none (.ref 381) .none, f_l_any := 387, d_l_any := FN "_law_any" "_law_any" (top 48) .none .none .none (.str "law_edgetally_k28_measures_of_tables" 535) none (.ref 386) .none, f_Measure___init__ := 214, d_Measure___init__ := FN "__init__" "Measure.__init__" (ay (top 28) 0) .none (.ref 209) .none (.str "edgetally.measures" 400) none (.ref 213) .none, f_Measure_of := 254, d_Measure_of := FN "of" "Measure.of" (ay (top 28) 6) .none .none .none (.str "edgetally.measures" 400) none (.ref 253) .none, f_Measure_begun := 247, d_Measure_begun := FN "begun" "Measure.begun" (ay (top 28) 5) .none .none .none (.str "edgetally.measures" 400) none (.ref 246) .none, f_Measure_together := 240, d_Measure_together := FN "together" "Measure.together" (ay (top 28) 4) .none .none .none (.str "edgetally.measures" 400) none (.ref 239) .none, f_Measure_part := 233, d_Measure_part := FN "part" "Measure.part" (ay (top 28) 3) .none .none .none (.str "edgetally.measures" 400) none (.ref 232) .none, f_law := 394, d_law := FN "law" "law" (top 49) .none .none .none (.str "law_edgetally_k28_measures_of_tables" 535) none (.ref 393) .none }
section
variable {P : Params} {h : Heap} {mg : Str -> Option Value}
theorem fH {x q : Str} {s : Stmt} {f : Addr} {dV kV dc pm cd ct : Value} {an : Option Addr} (l : (KH P).lookup f = some (fO (FN x q s dV kV dc pm an cd ct)) := by kernel_rfl) (c : PySem.W.codeIn (KH P) cd q = true := by kernel_rfl) (k : PySem.W.keepIn (KH P) (.ref f) = true := by kernel_rfl) : FunD (KH P) x q s f (FN x q s dV kV dc pm an cd ct) := zo l c k
theorem mO (X : (KH P).In h) (G : h.Ns mainGlobals mg) {n : Str} {v : Value} (e : PySem.W.nsIn (KH P) mainGlobals n = some (some v) := by kernel_rfl) : mg n = some v := PySem.W.mg_of X G e
theorem mN (X : (KH P).In h) (G : h.Ns mainGlobals mg) {n : Str} (e : PySem.W.nsIn (KH P) mainGlobals n = some none := by kernel_rfl) : mg n = none := PySem.W.mg_none_of X G e
theorem nH (X : (KH P).In h) (G : h.Ns mainGlobals mg) : Fns (KH P) mg adH where
 n_ValueError := mN X G
 n_abs := mN X G
 n_any := mN X G
 n_bool := mN X G
 n_enumerate := mN X G
 n_int := mN X G
 n_isinstance := mN X G
 n_len := mN X G
 n_list := mN X G
 n_min := mN X G
 n_range := mN X G
 n_str := mN X G
 n_sum := mN X G
 n_tuple := mN X G
 n_zip := mN X G
 g_BY_PLACE := io (u := (.ref 176)) (mO X G) (jM (p := 176) (q1 := (.type "tuple")) (q2 := none) (q3 := #[(.str "most" 412), (.str "least" 413)]) (q4 := 0) (q5 := #[]) (by kernel_rfl) rfl (by decide) (by repeat (first | exact trivial | refine ⟨rfl, ?_⟩)))
 g_BY_PRODUCT := io (u := (.ref 175)) (mO X G) (jM (p := 175) (q1 := (.type "tuple")) (q2 := none) (q3 := #[(.str "rare" 409), (.str "power" 410)]) (q4 := 0) (q5 := #[]) (by kernel_rfl) rfl (by decide) (by repeat (first | exact trivial | refine ⟨rfl, ?_⟩)))
 g_KINDS := io (u := (.ref 174)) (mO X G) (jM (p := 174) (q1 := (.type "tuple")) (q2 := none) (q3 := #[(.str "rare" 402), (.str "square" 403), (.str "power" 404), (.str "off" 405), (.str "most" 406), (.str "least" 407)]) (q4 := 0) (q5 := #[]) (by kernel_rfl) rfl (by decide) (by repeat (first | exact trivial | refine ⟨rfl, ?_⟩)))
 g_MOST := io (u := (.int 40 326)) (mO X G) lT
 g_MOST_COLUMNS := io (u := (.int 6 330)) (mO X G) lT
 g_MOST_ROWS := io (u := (.int 4 328)) (mO X G) lT
 F_check_sums := fH
 m_check_sums := mO X G
 b_check_sums := .all fun us hl => by obtain ⟨_, _, rfl⟩ := lU2 hl; rfl
 F_check_there := fH
 m_check_there := mO X G
 b_check_there := .all fun us hl => by obtain ⟨_, _, rfl⟩ := lU2 hl; rfl
 F_check_cell := fH
 m_check_cell := mO X G
 b_check_cell := .all fun us hl => by obtain ⟨_, _, _, _, rfl⟩ := lU4 hl; rfl
 F_rows_turned := fH
 m_rows_turned := mO X G
 b_rows_turned := .all fun us hl => by obtain ⟨_, rfl⟩ := lU1 hl; rfl
 F_factorial := fH
 m_factorial := mO X G
 b_factorial := .all fun us hl => by obtain ⟨_, rfl⟩ := lU1 hl; rfl
 F_power := fH
 m_power := mO X G
 b_power := .all fun us hl => by obtain ⟨_, _, rfl⟩ := lU2 hl; rfl
 F_ways := fH
 m_ways := mO X G
 b_ways := .all fun us hl => by obtain ⟨_, rfl⟩ := lU1 hl; rfl
 F_common_factor := fH
 m_common_factor := mO X G
 b_common_factor := .all fun us hl => by obtain ⟨_, _, rfl⟩ := lU2 hl; rfl
 F_least_common := fH
 m_least_common := mO X G
 b_least_common := .all fun us hl => by obtain ⟨_, rfl⟩ := lU1 hl; rfl
 F_power_part := fH
 m_power_part := mO X G
 b_power_part := .all fun us hl => by obtain ⟨_, rfl⟩ := lU1 hl; rfl
 F_square_part := fH
 m_square_part := mO X G
 b_square_part := .all fun us hl => by obtain ⟨_, _, _, rfl⟩ := lU3 hl; rfl
 F_off_part := fH
 m_off_part := mO X G
 b_off_part := .all fun us hl => by obtain ⟨_, _, _, rfl⟩ := lU3 hl; rfl
 F_l_bag := fH
 m_l_bag := mO X G
 b_l_bag := .all fun us hl => by obtain ⟨_, rfl⟩ := lU1 hl; rfl
 F_l_pull := fH
 m_l_pull := mO X G
 b_l_pull := .all fun us hl => by obtain ⟨_, _, rfl⟩ := lU2 hl; rfl
 F_l_same := fH
 m_l_same := mO X G
 b_l_same := .all fun us hl => by obtain ⟨_, _, rfl⟩ := lU2 hl; rfl
 F_l_turned := fH
 m_l_turned := mO X G
 b_l_turned := .all fun us hl => by obtain ⟨_, rfl⟩ := lU1 hl; rfl
 F_l_rowsums := fH
 m_l_rowsums := mO X G
 b_l_rowsums := .all fun us hl => by obtain ⟨_, rfl⟩ := lU1 hl; rfl
 F_l_columnsums := fH
 m_l_columnsums := mO X G
 b_l_columnsums := .all fun us hl => by obtain ⟨_, rfl⟩ := lU1 hl; rfl
 F_l_copied := fH
 m_l_copied := mO X G
 b_l_copied := .all fun us hl => by obtain ⟨_, rfl⟩ := lU1 hl; rfl
 F_l_factorial := fH
 m_l_factorial := mO X G
 b_l_factorial := .all fun us hl => by obtain ⟨_, rfl⟩ := lU1 hl; rfl
 F_l_ways := fH
 m_l_ways := mO X G
 b_l_ways := .all fun us hl => by obtain ⟨_, rfl⟩ := lU1 hl; rfl
 F_l_weight := fH
 m_l_weight := mO X G
 b_l_weight := .all fun us hl => by obtain ⟨_, rfl⟩ := lU1 hl; rfl
 F_l_gcd := fH
 m_l_gcd := mO X G
 b_l_gcd := .all fun us hl => by obtain ⟨_, _, rfl⟩ := lU2 hl; rfl
 F_l_kind := fH
 m_l_kind := mO X G
 b_l_kind := .all fun us hl => by obtain ⟨_, rfl⟩ := lU1 hl; rfl
 F_l_place := fH
 m_l_place := mO X G
 b_l_place := .all fun us hl => by obtain ⟨_, _, rfl⟩ := lU2 hl; rfl
 F_l_even := fH
 m_l_even := mO X G
 b_l_even := .all fun us hl => by obtain ⟨_, _, rfl⟩ := lU2 hl; rfl
 F_l_self_power := fH
 m_l_self_power := mO X G
 b_l_self_power := .all fun us hl => by obtain ⟨_, rfl⟩ := lU1 hl; rfl
 F_l_square := fH
 m_l_square := mO X G
 b_l_square := .all fun us hl => by obtain ⟨_, _, _, rfl⟩ := lU3 hl; rfl
 F_l_off := fH
 m_l_off := mO X G
 b_l_off := .all fun us hl => by obtain ⟨_, _, _, rfl⟩ := lU3 hl; rfl
 F_l_value := fH
 m_l_value := mO X G
 b_l_value := .all fun us hl => by obtain ⟨_, _, _, _, _, rfl⟩ := lU5 hl; rfl
 F_l_any := fH
 m_l_any := mO X G
 b_l_any := .all fun us hl => by obtain ⟨_, rfl⟩ := lU1 hl; rfl
 F_Measure___init__ := fH
 mk_Measure := ⟨by kernel_rfl, by kernel_rfl, by kernel_rfl, by kernel_rfl⟩
 kb_place_Measure___init__ := CD (sv := [.kw 0]) (.kw .nil) rfl (by decide) fun s us ws KX h1 h2 => by obtain ⟨u0, u1, u2, u3, rfl⟩ := lU4 h1; obtain ⟨w0, rfl⟩ := lU1 h2; exact .of_eq rfl
 bd_Measure___init__ := AW (us := [(.ref 208)]) 4 rfl (fun s us KX hl => by obtain ⟨u0, u1, u2, u3, rfl⟩ := lU4 hl; exact PySem.W.kp_binds KX fun S => by kernel_rfl) (zr (jM (p := 208) (q1 := (.type "tuple")) (q2 := none) (q3 := #[(.int 0 457), (.int 0 458)]) (q4 := 0) (q5 := #[]) (by kernel_rfl) rfl (by decide) (by repeat (first | exact trivial | refine ⟨rfl, ?_⟩))) AV)
 F_Measure_of := fH
 mt_Measure_of := ⟨by kernel_rfl, by kernel_rfl, by kernel_rfl⟩
 b_Measure_of := .all fun us hl => by obtain ⟨_, _, rfl⟩ := lU2 hl; rfl
 F_Measure_begun := fH
 mt_Measure_begun := ⟨by kernel_rfl, by kernel_rfl, by kernel_rfl⟩
 b_Measure_begun := .all fun us hl => by obtain ⟨_, rfl⟩ := lU1 hl; rfl
 F_Measure_together := fH
 mt_Measure_together := ⟨by kernel_rfl, by kernel_rfl, by kernel_rfl⟩
 b_Measure_together := .all fun us hl => by obtain ⟨_, _, _, rfl⟩ := lU3 hl; rfl
 F_Measure_part := fH
 mt_Measure_part := ⟨by kernel_rfl, by kernel_rfl, by kernel_rfl⟩
 b_Measure_part := .all fun us hl => by obtain ⟨_, _, _, rfl⟩ := lU3 hl; rfl
 cl_Measure := ⟨by kernel_rfl, by kernel_rfl, by kernel_rfl, by kernel_rfl⟩
 m_Measure := mO X G
 na_Measure_column_list := show PySem.W.findIn (KH P) _ _ = _ by kernel_rfl
 na_Measure_even := show PySem.W.findIn (KH P) _ _ = _ by kernel_rfl
 na_Measure_kind := show PySem.W.findIn (KH P) _ _ = _ by kernel_rfl
 na_Measure_place := show PySem.W.findIn (KH P) _ _ = _ by kernel_rfl
 na_Measure_row_list := show PySem.W.findIn (KH P) _ _ = _ by kernel_rfl
 FX_EdgeError := fH
 b_EdgeError := .all fun us hl => by obtain ⟨_, _, _, rfl⟩ := lU3 hl; rfl
 m_EdgeError := mO X G
 FX_BadSums := fH
 b_BadSums := fun s us KX hl => by rw [List.append_nil] at hl; obtain ⟨_, _, rfl⟩ := lU2 hl; exact BindsTo.of_defaults (T := 49) rfl (KX _ _ (show (KH P).lookup 49 = some (tO [(.str "these sums are no table's" 236)]) by kernel_rfl)) rfl rfl rfl
 m_BadSums := mO X G
 xm_BadSums := ⟨nT (N := 58) (nm := "BadSums") (q := "BadSums") (bs := [(.ref 38)]) (bm := [(.ref 38), (.type "ValueError"), (.type "Exception"), (.type "BaseException"), (.type "object")]) (hdct := true) (sn := []) (sub := []) (ab := false) (col := none) (dd := none) (k0 := (some (.ref 42))) (k1 := none) (k2 := (some (.str "BadSums" 224))) (k3 := (some (.str "BadSums" 232))) (k5 := (some (.bool true))) (cd := ⟨"BadSums", [(.ref 38)], [(.ref 59), (.ref 38), (.type "ValueError"), (.type "Exception"), (.type "BaseException"), (.type "object")], 58, "BadSums", true, [], [], false, none, false⟩) (by kernel_rfl) (by kernel_rfl) (by kernel_rfl) (by kernel_rfl), by kernel_rfl, by kernel_rfl, by kernel_rfl⟩
 w_BadSums := by kernel_rfl
 FX_BadRule := fH
 b_BadRule := fun s us KX hl => by rw [List.append_nil] at hl; obtain ⟨_, _, rfl⟩ := lU2 hl; exact BindsTo.of_defaults (T := 69) rfl (KX _ _ (show (KH P).lookup 69 = some (tO [(.str "there is no such rule" 261)]) by kernel_rfl)) rfl rfl rfl
 m_BadRule := mO X G
 xm_BadRule := ⟨nT (N := 78) (nm := "BadRule") (q := "BadRule") (bs := [(.ref 38)]) (bm := [(.ref 38), (.type "ValueError"), (.type "Exception"), (.type "BaseException"), (.type "object")]) (hdct := true) (sn := []) (sub := []) (ab := false) (col := none) (dd := none) (k0 := (some (.ref 62))) (k1 := none) (k2 := (some (.str "BadRule" 249))) (k3 := (some (.str "BadRule" 257))) (k5 := (some (.bool true))) (cd := ⟨"BadRule", [(.ref 38)], [(.ref 79), (.ref 38), (.type "ValueError"), (.type "Exception"), (.type "BaseException"), (.type "object")], 78, "BadRule", true, [], [], false, none, false⟩) (by kernel_rfl) (by kernel_rfl) (by kernel_rfl) (by kernel_rfl), by kernel_rfl, by kernel_rfl, by kernel_rfl⟩
 w_BadRule := by kernel_rfl
 FX_BadCell := fH
 b_BadCell := fun s us KX hl => by rw [List.append_nil] at hl; obtain ⟨_, _, rfl⟩ := lU2 hl; exact BindsTo.of_defaults (T := 89) rfl (KX _ _ (show (KH P).lookup 89 = some (tO [(.str "there is no such cell" 286)]) by kernel_rfl)) rfl rfl rfl
 m_BadCell := mO X G
 xm_BadCell := ⟨nT (N := 98) (nm := "BadCell") (q := "BadCell") (bs := [(.ref 38)]) (bm := [(.ref 38), (.type "ValueError"), (.type "Exception"), (.type "BaseException"), (.type "object")]) (hdct := true) (sn := []) (sub := []) (ab := false) (col := none) (dd := none) (k0 := (some (.ref 82))) (k1 := none) (k2 := (some (.str "BadCell" 274))) (k3 := (some (.str "BadCell" 282))) (k5 := (some (.bool true))) (cd := ⟨"BadCell", [(.ref 38)], [(.ref 99), (.ref 38), (.type "ValueError"), (.type "Exception"), (.type "BaseException"), (.type "object")], 98, "BadCell", true, [], [], false, none, false⟩) (by kernel_rfl) (by kernel_rfl) (by kernel_rfl) (by kernel_rfl), by kernel_rfl, by kernel_rfl, by kernel_rfl⟩
 w_BadCell := by kernel_rfl
 FX_BadNumber := fH
 b_BadNumber := fun s us KX hl => by rw [List.append_nil] at hl; obtain ⟨_, _, rfl⟩ := lU2 hl; exact BindsTo.of_defaults (T := 109) rfl (KX _ _ (show (KH P).lookup 109 = some (tO [(.str "this number is out of its bounds" 311)]) by kernel_rfl)) rfl rfl rfl
 m_BadNumber := mO X G
 xm_BadNumber := ⟨nT (N := 118) (nm := "BadNumber") (q := "BadNumber") (bs := [(.ref 38)]) (bm := [(.ref 38), (.type "ValueError"), (.type "Exception"), (.type "BaseException"), (.type "object")]) (hdct := true) (sn := []) (sub := []) (ab := false) (col := none) (dd := none) (k0 := (some (.ref 102))) (k1 := none) (k2 := (some (.str "BadNumber" 299))) (k3 := (some (.str "BadNumber" 307))) (k5 := (some (.bool true))) (cd := ⟨"BadNumber", [(.ref 38)], [(.ref 119), (.ref 38), (.type "ValueError"), (.type "Exception"), (.type "BaseException"), (.type "object")], 118, "BadNumber", true, [], [], false, none, false⟩) (by kernel_rfl) (by kernel_rfl) (by kernel_rfl) (by kernel_rfl), by kernel_rfl, by kernel_rfl, by kernel_rfl⟩
 w_BadNumber := by kernel_rfl
 cE := ⟨by kernel_rfl, by kernel_rfl, by kernel_rfl, by kernel_rfl⟩
end
theorem wlkH : PySem.W.WalkO qH loH (PySem.W.XL qH lvH) (PySem.W.Hook.says hkH) (PySem.W.OpenRow.toRowW (PySem.W.OpenLaw.row PySem.Challenge.rw_edgetally_k28_measures_of_tables)) (Option.get (PySem.W.defOf qH "law") rfl).1 [] (fun f vs => PySem.call f vs) :=
 L2.walk_of (n := 63) (k := 8) (x := "_law_script") (CX := fun w => CXE _ w) (sp := fun w => xM (KH w.params)) rfl (by decide) rfl ⟨rfl, by decide, by decide⟩ (fun w h Y => PySem.W.kIn_of Y) (fun w mg fa h KX G hmg => by
  have e := hmg.symm.trans (PySem.W.mg_of KX G (v := .ref 394) (by kernel_rfl))
  cases e
  exact ⟨FN "law" "law" (top 49) .none .none .none (.str "law_edgetally_k28_measures_of_tables" 535) none (.ref 393) .none, fun s v => .of_eq rfl, fun base _ _ => AB (a := adH) (fH (by kernel_rfl) (by kernel_rfl) (by kernel_rfl)) (nH KX G) fun β ok => vy (K := KH w.params) (a := adH)  β ok⟩) (fun _ _ a ns hl _ hS => ⟨a, ns, rfl, hS, hl, fun _ => rfl⟩) fun _ _ _ _ _ h => by obtain ⟨x, C, H', _, fl⟩ := h; exact fl.wish
end Law
open PySem PySem.W PyProof.Rows
set_option maxHeartbeats 0 in
theorem PySem.Challenge.cw_edgetally_k28_measures_of_tables_holds : PySem.Challenge.rw_edgetally_k28_measures_of_tables.Holds := by
 w_on
 refine holds_law Law.wsH fun said => ?_
 refine holds_open (q := Law.qH) (loose := Law.loH) (Xt := Law.xtH) (XP := XL Law.qH Law.lvH) (Yf := Hook.obs Law.hkH) (Ya := Hook.val Law.hkH) (YP := Hook.says Law.hkH) (N := 5660) Law.hlH (Hook.of Law.hkH) (Hook.keeps Law.hkH) (fun s e => xl_of s (Bool.and_eq_true_iff.mp e).1) XL.keeps (by rfl) (by rfl) (by rfl) (fun s e => recFacts_of (Bool.and_eq_true_iff.mp e).2) (by rfl) said Law.okH ⟨rfl, rfl, rfl, rfl, rfl, by decide +kernel⟩ ?hw ?hc
 case hw => w_witness2
 exact Law.wlkH
