import PyProof.Rows.All
import Wide.All
import OpenK.AllK
import Wide.FinOn
import Lean
import PyProof.EqAt
import PyProof.EqKinds
import PyProof.TupleCall
import PyProof.NsDelKeeps
import PyProof.ListRange
import PySem.Challenge.RW_edgetally_k29_parts_go_together
set_option Elab.async false
set_option linter.all false
set_option maxRecDepth 100000
-- CHANGE: your row's module here, as the last of these rows
namespace L2
open PySem PySem.Spec PyProof.Rows
abbrev Key := Sum Int Str
def yM : Key -> Value -> Bool
 | .inl k, v => Value.isInt k v
 | .inr x, v => Value.isStrOf x v
def keyH (w : World) : Key -> Int
 | .inl k => hashInt k
 | .inr x => hashStr w x
theorem keyIs_shape : ∀ {k : Key} {v : Value}, yM k v = true -> (∃ i t, k = Sum.inl i /\ v = Value.int i t) \/ (∃ x t, k = Sum.inr x /\ v = Value.str x t)
 | .inl i, v, h => by
  obtain ⟨t, e⟩ := Value.isInt_shape (k := i) (v := v) h
  exact .inl ⟨i, t, rfl, e⟩
 | .inr x, v, h => by
  obtain ⟨t, e⟩ := Value.isStrOf_shape (x := x) (v := v) h
  exact .inr ⟨x, t, rfl, e⟩
theorem Bf (a b : Int) : decide ((Sum.inl a : Key) = Sum.inl b) = (a == b) := by
 by_cases e : a = b
 ·subst e; simp
 ·have h : ¬ (Sum.inl a : Key) = Sum.inl b := fun q => e (Sum.inl.inj q)
  rw [decide_eq_false h]
  exact (beq_eq_false_iff_ne.mpr e).symm
theorem Bc (a b : Str) : decide ((Sum.inr a : Key) = Sum.inr b) = decide (a = b) := by
 by_cases e : a = b
 ·subst e; simp
 ·have h : ¬ (Sum.inr a : Key) = Sum.inr b := fun q => e (Sum.inr.inj q)
  rw [decide_eq_false h, decide_eq_false e]
theorem Be (a : Int) (b : Str) : decide ((Sum.inl a : Key) = Sum.inr b) = false := decide_eq_false (fun q => nomatch q)
theorem Bd (a : Str) (b : Int) : decide ((Sum.inr a : Key) = Sum.inl b) = false := decide_eq_false (fun q => nomatch q)
def mI (prog : Program) (w : World) : PySem.KeyKind prog w Key where
 is := yM
 hash := keyH w
 inj := fun v a b ha hb => by
  rcases keyIs_shape ha with ⟨i, t, rfl, rfl⟩ | ⟨x, t, rfl, rfl⟩
  ·rcases keyIs_shape hb with ⟨j, u, rfl, e⟩ | ⟨y, u, rfl, e⟩
   ·injection e with e1 _; rw [e1]
   ·exact nomatch e
  ·rcases keyIs_shape hb with ⟨j, u, rfl, e⟩ | ⟨y, u, rfl, e⟩
   ·exact nomatch e
   ·injection e with e1 _; rw [e1]
 byValue := fun k v h => by
  rcases keyIs_shape h with ⟨i, t, rfl, rfl⟩ | ⟨x, t, rfl, rfl⟩ <;> rfl
 pyHash := fun hv h => by
  rcases keyIs_shape hv with ⟨i, t, rfl, rfl⟩ | ⟨x, t, rfl, rfl⟩
  ·exact wpAny_pyHash_int h
  ·exact wpAny_pyHash_str h
 eqBool := fun hu hv h => by
  rcases keyIs_shape hu with ⟨i, t, rfl, rfl⟩ | ⟨x, t, rfl, rfl⟩
  ·rcases keyIs_shape hv with ⟨j, u, rfl, rfl⟩ | ⟨y, u, rfl, rfl⟩
   ·rw [Bf] at h; exact wpAny_eqBool_int h
   ·rw [Be] at h; exact SeqAt.EqAt.int_str i t y u _ _ _ _ h
  ·rcases keyIs_shape hv with ⟨j, u, rfl, rfl⟩ | ⟨y, u, rfl, rfl⟩
   ·rw [Bd] at h; exact SeqAt.EqAt.str_int x t j u _ _ _ _ h
   ·rw [Bc] at h; exact wpAny_eqBool_str h
 «strs» := fun k x t v h => by
  rcases keyIs_shape h with ⟨i, u, rfl, e⟩ | ⟨y, u, rfl, e⟩
  ·exact nomatch e
  ·injection e with e1 _
   subst e1
   cases v <;> rfl
inductive V where
 | non | bl (b : Bool) | int (i : Int) | str (x : Str) | byt (b : Array UInt8) | flt (b : UInt64) | ref (a : Addr) | ty (n : String)
 deriving DecidableEq
def aP : V -> Value -> Prop
 | .non, u => u = Value.none
 | .bl b, u => u = Value.bool b
 | .int i, u => ∃ t, u = Value.int i t
 | .str x, u => ∃ t, u = Value.str x t
 | .byt b, u => ∃ t, u = Value.bytes b t
 | .flt b, u => ∃ t, u = Value.float b t
 | .ref a, u => u = Value.ref a
 | .ty n, u => u = Value.type n
abbrev ay : List V -> List Value -> Prop := Paired aP
theorem ay.length {xs : List V} {us : List Value} (r : ay xs us) : xs.length = us.length := Paired.length r
theorem ay.get : ∀ {xs : List V} {us : List Value} {i : Nat} {x : V}, ay xs us -> xs[i]? = some x -> ∃ u, us[i]? = some u /\ aP x u
 | _, _, _, _, .nil, e => by simp at e
 | _, _, 0, _, .cons r _, e => by simp at e; subst e; exact ⟨_, rfl, r⟩
 | _, _, i + 1, x, .cons _ t, e => by
  obtain ⟨u, h1, h2⟩ := ay.get (i := i) (x := x) t (by simpa using e)
  exact ⟨u, by simpa using h1, h2⟩
theorem ay.set {x : V} {u : Value} (r : aP x u) : ∀ {xs : List V} {us : List Value} (i : Nat), ay xs us -> ay (xs.set i x) (us.set i u)
 | _, _, _, .nil => .nil
 | _, _, 0, .cons _ t => .cons r t
 | _, _, i + 1, .cons q t => .cons q (ay.set r i t)
theorem ay.append : ∀ {xs ys : List V} {us ws : List Value}, ay xs us -> ay ys ws -> ay (xs ++ ys) (us ++ ws)
 | _, _, _, _, .nil, s => s
 | _, _, _, _, .cons r t, s => .cons r (ay.append t s)
theorem ay.take : ∀ {xs : List V} {us : List Value} (n : Nat), ay xs us -> ay (xs.take n) (us.take n)
 | _, _, 0, _ => .nil
 | _, _, _ + 1, .nil => .nil
 | _, _, n + 1, .cons r t => .cons r (ay.take n t)
theorem ay.drop : ∀ {xs : List V} {us : List Value} (n : Nat), ay xs us -> ay (xs.drop n) (us.drop n)
 | _, _, 0, r => r
 | _, _, _ + 1, .nil => .nil
 | _, _, n + 1, .cons _ t => ay.drop n t
def ii : Option V -> Option Value -> Prop
 | some v, some u => aP v u
 | none, none => True
 | _, _ => False
def KV {κ : Type} : List (κ × V) -> List (κ × Value) -> Prop := Paired fun (p : κ × V) (q : κ × Value) => p.1 = q.1 /\ aP p.2 q.2
def kV : Key -> V
 | .inl i => .int i
 | .inr x => .str x
inductive HO where
 /-- a list -/
 | lst (xs : List V)
 /-- a tuple (never changes) -/
 | tup (xs : List V)
 /-- a dict whose keys are ints and texts; one whose keys are tuples of ints and texts (the empty one is both) -/
 | dK (kvs : List (Key × V)) | dT (kvs : List (List Key × V))
 /-- a set of ints: its members, its size -/
 | set (S : Int -> Bool) (n : Nat)
 /-- an instance of the class at C, its dict at dx, its attributes -/
 | ins (C dx : Addr) (fs : List (Str × V))
 /-- the dict of the instance at x -/
 | own (x : Addr)
 /-- the dict of an exception -/
 | xd (fs : List (Str × V))
 /-- a bound method, f of x -/
 | met (f x : Addr)
 /-- a range object lo, lo + 1, .. below hi -/
 | rng (lo hi : Int)
 /-- a thing that is known to the object (the script; a dict while a loop walks it): read, never written while it is so -/
 | frz (o : Obj) (u : HO)
 /-- a code object's table -/
 | tbl (ps : Array Value)
 /-- any other thing, by what is true of its one object (a def of one's own: SetO a S n := HO.ext fun h => ..) -/
 | ext (φ : Heap -> Prop)
abbrev Hp := Addr -> Option HO
def upd (H : Hp) (a : Addr) (o : HO) : Hp := fun b => if b = a then some o else H b
theorem aw {H : Hp} {a : Addr} {o : HO} : upd H a o a = some o := by unfold upd; rw [if_pos rfl]
theorem upd_ne {H : Hp} {a b : Addr} {o : HO} (h : b ≠ a) : upd H a o b = H b := by unfold upd; rw [if_neg h]
theorem Eh {H : Hp} {a b : Addr} {o u : HO} (h : H a = some o) (h' : H b = some u) (d : o ≠ u) : a ≠ b := by
 intro e; subst e; rw [h] at h'; exact d (Option.some.inj h')
theorem ne_of_none {H : Hp} {a b : Addr} {o : HO} (h : H a = some o) (h' : H b = none) : a ≠ b := by
 intro e; subst e; rw [h] at h'; cases h'
section
variable (P : Program) (w : World)
def bo (H : Hp) (h : Heap) (a : Addr) : HO -> Prop
 | .lst xs => xs.length <= sizeLine /\ ∃ (its : List Value) (n : Nat), ay xs its /\ h.get? a = some { cls := .type "list", data := .seq its.toArray n }
 | .tup xs => xs.length <= sizeLine /\ ∃ its : List Value, ay xs its /\ IsTup h a its.toArray
 | .dK kvs => kvs.length <= sizeLine /\ (a == sysModules) = false /\ ∃ vs, KV kvs vs /\ h.DictOf (mI P w) a vs
 | .dT kvs => kvs.length <= sizeLine /\ (a == sysModules) = false /\ ∃ xs : List (List Key × Addr × Value),
   Paired (fun (p : List Key × V) (q : List Key × Addr × Value) => p.1 = q.1 /\ H q.2.1 = some (.tup (p.1.map kV)) /\ aP p.2 q.2.2) kvs xs /\
   ∃ o es ep, h.get? a = some o /\ o.ExactDict /\ o.data = .dict es ep /\ es.toList = xs.map (entryOfKey (tupleKind (mI P w))) /\ (xs.map (·.1)).Nodup
 | .set S n => h.SetOf (intKind P w) a S n
 | .ins C dx fs => H dx = some (.own a) /\ fs.length <= 1000 /\ dx ≠ a /\ h.get? a = some (PySem.W.instObj C dx) /\
   ∃ mA, h.Ns1 dx mA /\ (∀ f, ii (fs.lookup f) (mA f)) /\ PySem.Within mA (fs.map (·.1))
 | .own _ => ∃ o, h.get? a = some o
 | .xd fs => ∃ mA, h.Ns1 a mA /\ ∀ f, ii (fs.lookup f) (mA f)
 | .rng lo hi => ∃ t u v, h.get? a = some { cls := .type "range", data := .fields #[.int lo t, .int hi u, .int 1 v] }
 | .frz o u => h.get? a = some o /\ bo H h a u
 | .tbl ps => h.get? a = some { cls := .none, data := .fields ps }
 | .met f x => h.get? a = some (PySem.W.methodObj (.ref f) (.ref x))
 | .ext φ => φ h /\ (∃ o, h.get? a = some o) /\ ∀ h1 h2 : Heap, φ h1 -> (∀ o, h1.get? a = some o -> h2.get? a = some o) -> φ h2
def HOk (H : Hp) (h : Heap) : Prop := ∀ a o, H a = some o -> bo P w H h a o
end
section
variable {P : Program} {w : World} {H H' : Hp} {h h' : Heap} {a : Addr} {o : HO}
theorem bo.lt (x : bo P w H h a o) : a < h.objs.size := by
 cases o with
 | lst xs => obtain ⟨_, _, _, _, e⟩ := x; exact Heap.lt_size e
 | tup xs => obtain ⟨_, _, _, p⟩ := x; exact p.lt
 | dK kvs => obtain ⟨_, _, _, _, o, _, _, e, _⟩ := x; exact Heap.lt_size e
 | dT kvs => obtain ⟨_, _, _, _, o, _, _, e, _⟩ := x; exact Heap.lt_size e
 | set S n => obtain ⟨o, _, _, _, e, _⟩ := x; exact Heap.lt_size e
 | ins C dx fs => obtain ⟨_, _, _, e, _⟩ := x; exact Heap.lt_size e
 | own y => obtain ⟨_, e⟩ := x; exact Heap.lt_size e
 | xd fs => obtain ⟨_, ⟨_, _, _, e, _⟩, _⟩ := x; exact Heap.lt_size e
 | rng lo hi => obtain ⟨_, _, _, e⟩ := x; exact Heap.lt_size e
 | frz ob u => obtain ⟨e, _⟩ := x; exact Heap.lt_size e
 | tbl ps => exact Heap.lt_size (show h.get? a = some _ from x)
 | met f y => exact Heap.lt_size (show h.get? a = some _ from x)
 | ext φ => obtain ⟨_, ⟨_, e⟩, _⟩ := x; exact Heap.lt_size e
theorem Paired.mapP {α β : Type} {F G : α -> β -> Prop} : ∀ {l₁ : List α} {l₂ : List β}, Paired F l₁ l₂ -> (∀ a b, F a b -> G a b) -> Paired G l₁ l₂
 | _, _, .nil, _ => .nil
 | _, _, .cons r t, f => .cons (f _ _ r) (Paired.mapP t f)
theorem bo.stay (x : bo P w H h a o) (k : ∀ b u, (b = a \/ H b = some (.own a)) -> h.get? b = some u -> h'.get? b = some u)
  (ho : ∀ b, H b = some (.own a) -> H' b = some (.own a)) (ht : ∀ b xs, H b = some (.tup xs) -> H' b = some (.tup xs)) : bo P w H' h' a o := by
 induction o with
 | lst xs => obtain ⟨z, its, n, r, e⟩ := x; exact ⟨z, its, n, r, k _ _ (.inl rfl) e⟩
 | tup xs => obtain ⟨z, its, r, ob, e, c⟩ := x; exact ⟨z, its, r, ob, k _ _ (.inl rfl) e, c⟩
 | dK kvs => obtain ⟨z, y, vs, r, ob, es, ep, e, c⟩ := x; exact ⟨z, y, vs, r, ob, es, ep, k _ _ (.inl rfl) e, c⟩
 | dT kvs =>
  obtain ⟨z, y, xs, r, ob, es, ep, e, c⟩ := x
  exact ⟨z, y, xs, Paired.mapP r fun p q z => ⟨z.1, ht _ _ z.2.1, z.2.2⟩, ob, es, ep, k _ _ (.inl rfl) e, c⟩
 | set S n => obtain ⟨ob, es, ep, t, e, c⟩ := x; exact ⟨ob, es, ep, t, k _ _ (.inl rfl) e, c⟩
 | ins C dx fs =>
  obtain ⟨d, z, ne, e, mA, ⟨od, es, ep, e2, c⟩, r⟩ := x
  exact ⟨ho _ d, z, ne, k _ _ (.inl rfl) e, mA, ⟨od, es, ep, k _ _ (.inr d) e2, c⟩, r⟩
 | own y => obtain ⟨ob, e⟩ := x; exact ⟨ob, k _ _ (.inl rfl) e⟩
 | xd fs => obtain ⟨mA, ⟨od, es, ep, e, c⟩, r⟩ := x; exact ⟨mA, ⟨od, es, ep, k _ _ (.inl rfl) e, c⟩, r⟩
 | rng lo hi => obtain ⟨t, u, v, e⟩ := x; exact ⟨t, u, v, k _ _ (.inl rfl) e⟩
 | frz ob u ih => obtain ⟨e, q⟩ := x; exact ⟨k _ _ (.inl rfl) e, ih q⟩
 | tbl ps =>
  have e : h.get? a = some { cls := .none, data := .fields ps } := x
  show h'.get? a = some { cls := .none, data := .fields ps }
  exact k a _ (.inl rfl) e
 | met f y =>
  have e : h.get? a = some (PySem.W.methodObj (.ref f) (.ref y)) := x
  show h'.get? a = some (PySem.W.methodObj (.ref f) (.ref y))
  exact k a _ (.inl rfl) e
 | ext φ => obtain ⟨p, ⟨o, e⟩, st⟩ := x; exact ⟨st _ _ p fun o q => k _ _ (.inl rfl) q, ⟨o, k _ _ (.inl rfl) e⟩, st⟩
theorem HOk.lt (x : HOk P w H h) (e : H a = some o) : a < h.objs.size := (x a o e).lt
theorem HOk.fresh (x : HOk P w H h) (e : h.objs.size <= a) : H a = none := by
 cases q : H a with
 | none => rfl
 | some u => exact absurd (Nat.lt_of_lt_of_le (x.lt q) e) (Nat.lt_irrefl _)
theorem HOk.kept (x : HOk P w H h) (k : ∀ b u, h.get? b = some u -> h'.get? b = some u) : HOk P w H h' := fun a o e =>
 (x a o e).stay (fun b u _ q => k b u q) (fun _ q => q) fun _ _ q => q
theorem HOk.laid (x : HOk P w H h) (k : ∀ b u, h.get? b = some u -> h'.get? b = some u) (hp : h.objs.size <= a) (new : bo P w (upd H a o) h' a o) : HOk P w (upd H a o) h' := fun b u e => by
 have hn := x.fresh hp
 by_cases hb : b = a
 ·subst hb; rw [aw] at e; cases e; exact new
 ·rw [upd_ne hb] at e
  exact (x b u e).stay (fun c v _ q => k c v q) (fun c q => by rw [upd_ne (ne_of_none q hn)]; exact q) fun c xs q => by rw [upd_ne (ne_of_none q hn)]; exact q
end
def Rd (H : Hp) (a : Addr) (u : HO) : Prop := H a = some u \/ ∃ o, H a = some (.frz o u)
theorem Rd.ok {P : Program} {w : World} {H : Hp} {h : Heap} {a : Addr} {u : HO} (r : Rd H a u) (x : HOk P w H h) : bo P w H h a u := by
 rcases r with r | ⟨o, r⟩
 ·exact x a u r
 ·obtain ⟨_, q⟩ := x a _ r
  exact q
def Mut : Option HO -> Prop
 | some (.lst _) => True
 | some (.dK _) => True
 | some (.dT _) => True
 | some (.set _ _) => True
 | some (.ins _ _ _) => True
 | some (.ext _) => True
 | _ => False
section
variable {P : Program} {w : World} {H : Hp} {h h' : Heap} {x e : Addr} {o' : HO}
theorem HOk.write (ok : HOk P w H h) (mu : Mut (H x)) (he : e = x \/ H e = some (.own x)) (k : ∀ b u, b ≠ e -> h.get? b = some u -> h'.get? b = some u) (heo : ∃ u, h'.get? e = some u)
  (new : bo P w (upd H x o') h' x o') : HOk P w (upd H x o') h' := fun b u q => by
 have nown : ∀ c y, H c = some (.own y) -> c ≠ x := fun c y r z => by subst z; rw [r] at mu; exact mu
 have ntup : ∀ c xs, H c = some (.tup xs) -> c ≠ x := fun c xs r z => by subst z; rw [r] at mu; exact mu
 by_cases hb : b = x
 ·subst hb; rw [aw] at q; cases q; exact new
 ·rw [upd_ne hb] at q
  by_cases hbe : b = e
  ·have q' : H b = some (.own x) := by
    rcases he with z | z
    ·exact absurd (hbe.trans z) hb
    ·rw [hbe]; exact z
   rw [q] at q'; cases q'
   obtain ⟨v, hv⟩ := heo
   exact ⟨v, by rw [hbe]; exact hv⟩
  ·refine (ok b u q).stay (fun c v hc r => k c v ?_ r) (fun c r => by rw [upd_ne (nown c b r)]; exact r) fun c xs r => by rw [upd_ne (ntup c xs r)]; exact r
   rcases hc with rfl | hc
   ·exact hbe
   ·rintro rfl
    rcases he with z | z
    ·exact nown c b hc z
    ·rw [hc] at z; cases z; exact hb rfl
end
structure Un (fs ex : List Addr) (H H' : Hp) (h h' : Heap) : Prop where
 keep : ∀ b o, h.get? b = some o -> H b = none -> b ∉ fs -> b ∉ ex -> h'.get? b = some o
 slot : ∀ b o, h.get? b = some o -> H b = none -> b ∈ fs -> b ∉ ex -> ∃ sl, h'.get? b = some { o with slots := sl }
 free : ∀ b o, h.get? b = some o -> H b = none -> b ∉ ex -> H' b = none
 there : ∀ b o, h.get? b = some o -> b ∉ ex -> ∃ o', h'.get? b = some o'
 tups : ∀ b xs, H b = some (.tup xs) -> H' b = some (.tup xs)
 frzs : ∀ b o u, H b = some (.frz o u) -> H' b = some (.frz o u)
 tbls : ∀ b ps, H b = some (.tbl ps) -> ∃ more, H' b = some (.tbl (ps ++ more))
section
variable {fs fs' ex ex' : List Addr} {H H1 H2 : Hp} {h h1 h2 h' : Heap} {a x e : Addr} {o : HO}
theorem Un.any (u : Un fs ex H H1 h h1) {b : Addr} {ob : Obj} (q : h.get? b = some ob) (n : H b = none) (hx : b ∉ ex) : ∃ sl, h1.get? b = some { ob with slots := sl } := by
 by_cases hb : b ∈ fs
 ·exact u.slot b ob q n hb hx
 ·exact ⟨ob.slots, u.keep b ob q n hb hx⟩
theorem Un.trans (a : Un fs ex H H1 h h1) (b : Un fs ex H1 H2 h1 h2) : Un fs ex H H2 h h2 where
 keep := fun c ob q n hc hx => b.keep c ob (a.keep c ob q n hc hx) (a.free c ob q n hx) hc hx
 slot := fun c ob q n hc hx => by
  obtain ⟨sl, e1⟩ := a.slot c ob q n hc hx
  obtain ⟨sl', e2⟩ := b.slot c _ e1 (a.free c ob q n hx) hc hx
  exact ⟨sl', e2⟩
 free := fun c ob q n hx => by
  obtain ⟨o', e1⟩ := a.there c ob q hx
  exact b.free c o' e1 (a.free c ob q n hx) hx
 there := fun c ob q hx => by
  obtain ⟨o', e1⟩ := a.there c ob q hx
  exact b.there c o' e1 hx
 tups := fun c xs q => b.tups c xs (a.tups c xs q)
 frzs := fun c ob xs q => b.frzs c ob xs (a.frzs c ob xs q)
 tbls := fun c ps q => by
  obtain ⟨m1, e1⟩ := a.tbls c ps q
  obtain ⟨m2, e2⟩ := b.tbls c _ e1
  exact ⟨m1 ++ m2, by rw [e2, Array.append_assoc]⟩
theorem Un.kept (k : ∀ b u, h.get? b = some u -> h'.get? b = some u) : Un fs ex H H h h' :=
 ⟨fun b ob q _ _ _ => k b ob q, fun b ob q _ _ _ => ⟨ob.slots, k b ob q⟩, fun _ _ _ n _ => n, fun b ob q _ => ⟨ob, k b ob q⟩, fun _ _ q => q, fun _ _ _ q => q, fun _ ps q => ⟨#[], by rw [q]; simp⟩⟩
theorem Un.refl : Un fs ex H H h h := Un.kept fun _ _ q => q
theorem Un.laid (k : ∀ b u, h.get? b = some u -> h'.get? b = some u) (hp : h.objs.size <= a) (hn : H a = none) : Un fs ex H (upd H a o) h h' where
 keep := fun b u q _ _ _ => k b u q
 slot := fun b u q _ _ _ => ⟨u.slots, k b u q⟩
 free := fun b u q n _ => by rw [upd_ne (Nat.ne_of_lt (Nat.lt_of_lt_of_le (Heap.lt_size q) hp))]; exact n
 there := fun b u q _ => ⟨u, k b u q⟩
 tups := fun b xs q => by rw [upd_ne (ne_of_none q hn)]; exact q
 frzs := fun b u xs q => by rw [upd_ne (ne_of_none q hn)]; exact q
 tbls := fun b ps q => ⟨#[], by rw [upd_ne (ne_of_none q hn), q]; simp⟩
theorem Un.write (mu : Mut (H x)) (he : e = x \/ H e = some (.own x)) (k : ∀ b u, b ≠ e -> h.get? b = some u -> h'.get? b = some u) (heo : ∃ u, h'.get? e = some u) : Un fs ex H (upd H x o) h h' := by
 have hx : ∀ b, H b = none -> b ≠ x := fun b n z => by subst z; rw [n] at mu; exact mu
 have hb : ∀ b, H b = none -> b ≠ e := fun b n z => by
  subst z
  rcases he with r | r
  ·exact hx b n r
  ·rw [n] at r; cases r
 have hm : ∀ b u, H b = some u -> ¬ Mut (some u) -> b ≠ x := fun b u q nm z => by subst z; rw [q] at mu; exact nm mu
 refine ⟨fun b u q n _ _ => k b u (hb b n) q, fun b u q n _ _ => ⟨u.slots, k b u (hb b n) q⟩, fun b u q n _ => by rw [upd_ne (hx b n)]; exact n, fun b u q _ => ?_,
  fun b xs q => by rw [upd_ne (hm b _ q fun z => z)]; exact q, fun b u xs q => by rw [upd_ne (hm b _ q fun z => z)]; exact q, fun b ps q => ⟨#[], by rw [upd_ne (hm b _ q fun z => z), q]; simp⟩⟩
 by_cases hbe : b = e
 ·subst hbe; exact heo
 ·exact ⟨u, k b u hbe q⟩
theorem Un.mono (u : Un fs ex H H1 h h1) (hs : ∀ b ∈ fs, b ∈ fs') (hx : ∀ b ∈ ex, b ∈ ex') : Un fs' ex' H H1 h h1 :=
 ⟨fun b ob q n hb he => u.keep b ob q n (fun z => hb (hs b z)) fun z => he (hx b z), fun _ _ q n _ he => u.any q n fun z => he (hx _ z), fun b ob q n he => u.free b ob q n fun z => he (hx b z), fun b ob q he => u.there b ob q fun z => he (hx b z), u.tups, u.frzs, u.tbls⟩
end
def trk (h : Heap) (H : Hp) : List Addr := (List.range h.objs.size).filter fun a => (H a).isSome
def jc (h : Heap) (H : Hp) : Heap := PySem.W.hideAll h (trk h H)
theorem uu (h : Heap) (H : Hp) : (jc h H).objs.size = h.objs.size := PySem.W.hideAll_size _ _
theorem vN {h : Heap} {H : Hp} {b : Addr} {o : Obj} (e : h.get? b = some o) (n : H b = none) : (jc h H).get? b = some o :=
 PySem.W.hideAll_get _ e fun hm => by
  have q : (H b).isSome = true := (List.mem_filter.mp hm).2
  rw [n] at q; simp at q
theorem zC {h : Heap} {H : Hp} {b : Addr} {o : Obj} (e : (jc h H).get? b = some o) : h.get? b = some o /\ H b = none := by
 have e' : h.get? b = some o := PySem.W.of_hideAll (trk h H) e
 refine ⟨e', ?_⟩
 cases q : H b with
 | none => rfl
 | some x =>
  have hm : b ∈ trk h H := List.mem_filter.mpr ⟨List.mem_range.mpr (Heap.lt_size e'), by simp [q]⟩
  have z : (jc h H).get? b = none := PySem.W.hideAll_none (trk h H) hm
  rw [z] at e; cases e
structure Mod (K : PySem.W.Frag) (mg : Str -> Option Value) (base : Heap) : Prop where
 kin : K.In base
 glob : base.Ns mainGlobals mg
 blt : ∃ mb, base.Ns builtinsNs mb /\ ∀ x : Str, x ≠ "__name__" -> mb x = bootBuiltins x
 nolimit : base.NoLimit
/-- the context: a def's body (or a comprehension's block) running. base: fixed through the whole law; s₀, H₀: the entry; outer: the frames whose slots others may change (a def's callers); stack: all frames that run;
  ex: iterators that were made ahead of the entry and are walked here (a comprehension's); fn: the names whose cells were made at the entry (a def: all; a comprehension's block: its own); calm: not within an except suite; pn: pins that every state bears; xe: what is wanted of an exception that leaves the code -/
structure Cx where
 prog : Program
 w : World
 K : PySem.W.Frag
 mg : Str -> Option Value
 base : Heap
 A : Around
 N : List Str
 s₀ : Shared
 H₀ : Hp
 env : Env
 outer : List Env
 stack : List Env
 ex : List Addr
 fn : Str -> Bool
 calm : Bool
 pn : List (Addr × Obj)
 xe : Value -> Shared -> Prop
def frs (l : List Env) : List Addr := l.filterMap (·.frame)
abbrev Cx.fs (X : Cx) : List Addr := frs X.outer
def Vis (sc : Scope) (x : Str) : Prop := sc.names.lookup x = some .local \/ sc.names.lookup x = some .cell \/ sc.names.lookup x = some .free
def Loc (sc : Scope) (x : Str) : Prop := sc.names.lookup x = some .local \/ sc.names.lookup x = some .cell
def Look (env : Env) (h : Heap) (m : Str -> Option Value) (x : Str) (u : Value) : Prop :=
 (env.kindOf x = some .local /\ m x = some u) \/ ((env.kindOf x = some .cell \/ env.kindOf x = some .free) /\ ∃ c, env.cells.lookup x = some c /\ h.IsCell c (some u))
structure Cx.Ok (X : Cx) : Prop where
 mod : Mod X.K X.mg X.base
 kind : X.env.scope.kind = .function
 glob : X.env.globals = mainGlobals
 blt : X.env.builtins = builtinsNs
 above : X.s₀.heap.objs.size <= X.env.locals
 inj : ∀ x y c, X.env.cells.lookup x = some c -> X.env.cells.lookup y = some c -> x = y
 has : ∀ x, (X.env.kindOf x = some .cell \/ X.env.kindOf x = some .free) -> ∃ c, X.env.cells.lookup x = some c
 cab : ∀ x c, X.fn x = true -> X.env.cells.lookup x = some c -> X.s₀.heap.objs.size <= c
 hd : X.calm = true -> X.A.handled = none
 frames : X.A.frames = some X.stack
 stk : X.stack = X.outer \/ (X.stack = X.env :: X.outer /\ X.env.frame = some X.env.locals)
 exf : ∀ b ∈ X.ex, b ≠ X.env.locals /\ ∀ x c, X.env.cells.lookup x = some c -> c ≠ b
 bs : ∀ b o, X.base.get? b = some o -> X.s₀.heap.get? b = some o /\ X.H₀ b = none
 bsz : X.base.objs.size <= X.s₀.heap.objs.size
 noex : ∀ b o, X.base.get? b = some o -> b ∉ X.ex
 exfs : ∀ b ∈ X.ex, b ∉ X.fs
 funs : X.s₀.heap.FunFrames X.base X.outer
 frf : ∀ b ∈ X.fs, X.H₀ b = none
structure Inv (X : Cx) (pins : List (Addr × Obj)) (σ : List (Option V)) (H : Hp) (s : Shared) : Prop where
 ok : X.Ok
 os : s.os = X.s₀.os
 bare : AllBare s.gens
 base : Un X.fs X.ex X.H₀ H X.s₀.heap s.heap
 loc : ∃ m, s.heap.Ns X.env.locals m /\ ∀ (i : Nat) (x : Str) (v : V), X.N[i]? = some x -> σ[i]? = some (some v) -> Vis X.env.scope x -> ∃ u, aP v u /\ Look X.env s.heap m x u
 cell : ∀ x c, X.env.cells.lookup x = some c -> ∃ v, s.heap.IsCell c v
 free : H X.env.locals = none
 freeC : ∀ x c, X.env.cells.lookup x = some c -> H c = none
 pin : ∀ p ∈ X.pn ++ pins, s.heap.get? p.1 = some p.2 /\ H p.1 = none /\ p.1 ≠ X.env.locals /\ p.1 ∉ X.fs /\ ∀ v, p.2.data ≠ .cell v
 hok : HOk X.prog X.w H s.heap
 len : σ.length = X.N.length
section
variable {X : Cx} {pins : List (Addr × Obj)} {σ : List (Option V)} {H H' : Hp} {s : Shared} {h' : Heap}
theorem Cx.Ok.nofr (ok : X.Ok) {b : Addr} {o : Obj} (e : X.base.get? b = some o) : b ∉ X.fs := fun hb => by
 have := (ok.funs.mem hb).1
 rw [e] at this; cases this
theorem Inv.bs (I : Inv X pins σ H s) : ∀ b o, X.base.get? b = some o -> s.heap.get? b = some o /\ H b = none := fun b o e =>
 ⟨I.base.keep b o (I.ok.bs b o e).1 (I.ok.bs b o e).2 (I.ok.nofr e) (I.ok.noex b o e), I.base.free b o (I.ok.bs b o e).1 (I.ok.bs b o e).2 (I.ok.noex b o e)⟩
theorem Inv.bk (I : Inv X pins σ H s) : ∀ b o, X.base.get? b = some o -> s.heap.get? b = some o := fun b o e => (I.bs b o e).1
theorem Inv.mod (I : Inv X pins σ H s) : Mod X.K X.mg X.base := I.ok.mod
theorem Inv.kIn (I : Inv X pins σ H s) : X.K.In s.heap := I.ok.mod.kin.keeps I.bk
theorem Inv.fr (I : Inv X pins σ H s) : ∃ m, Fr X.base X.env.locals s.heap m :=
 let ⟨m, hn, _⟩ := I.loc
 ⟨m, hn, I.bk, Nat.le_trans I.ok.bsz I.ok.above⟩
theorem Inv.lt (I : Inv X pins σ H s) : X.env.locals < s.heap.objs.size := let ⟨_, hn, _⟩ := I.loc; hn.lt
theorem Inv.sz (I : Inv X pins σ H s) : X.s₀.heap.objs.size <= s.heap.objs.size := Nat.le_trans I.ok.above (Nat.le_of_lt I.lt)
theorem Inv.nofs (I : Inv X pins σ H s) {a : Addr} (h : s.heap.objs.size <= a) : a ∉ X.fs := fun hb => by
 obtain ⟨_, o, ho, _⟩ := I.ok.funs.mem hb
 exact absurd (Nat.lt_of_lt_of_le (Heap.lt_size ho) (Nat.le_trans I.sz h)) (Nat.lt_irrefl _)
theorem Inv.cne (I : Inv X pins σ H s) : ∀ x c, X.env.cells.lookup x = some c -> c ≠ X.env.locals := fun x c e z => by
 obtain ⟨v, o, ho, hd⟩ := I.cell x c e
 obtain ⟨m, ⟨o', es, ep, ho', hd', _⟩, _⟩ := I.loc
 rw [z, ho'] at ho; cases ho; rw [hd'] at hd; cases hd
theorem Inv.funs (I : Inv X pins σ H s) : s.heap.FunFrames X.base X.outer := by
 have all : ∀ (l : List Env), (∀ b ∈ frs l, b ∈ X.fs) -> X.s₀.heap.FunFrames X.base l -> s.heap.FunFrames X.base l := by
  intro l
  induction l with
  | nil => intro _ _; trivial
  | cons env r ih =>
   intro hs hl
   obtain ⟨hk, ⟨L, o, hf, hn, ho, hd⟩, hr⟩ := hl
   have hL : L ∈ X.fs := hs L (by unfold frs; rw [List.filterMap_cons, hf]; exact List.mem_cons_self)
   obtain ⟨sl, e⟩ := I.base.slot L o ho (I.ok.frf L hL) hL fun z => I.ok.exfs L z hL
   exact ⟨hk, ⟨L, _, hf, hn, e, hd⟩, ih (fun b hb => hs b (by unfold frs; rw [List.filterMap_cons, hf]; exact List.mem_cons_of_mem _ hb)) hr⟩
 exact all X.outer (fun _ hb => hb) I.ok.funs
theorem Inv.stack (I : Inv X pins σ H s) : s.heap.FunFrames X.base X.stack := by
 rcases I.ok.stk with e | ⟨e, hf⟩
 ·rw [e]; exact I.funs
 ·rw [e]
  obtain ⟨m, hn, _⟩ := I.loc
  refine .cons (by rw [I.ok.kind]; decide) hf hn ?_ I.funs
  exact Heap.get?_none_of_le (Nat.le_trans I.ok.bsz I.ok.above)
theorem Inv.stkSub (I : Inv X pins σ H s) : ∀ b ∈ frs X.stack, b ∈ X.env.locals :: X.fs := fun b hb => by
 rcases I.ok.stk with e | ⟨e, hf⟩
 ·rw [e] at hb; exact List.mem_cons_of_mem _ hb
 ·rw [e] at hb
  unfold frs at hb
  rw [List.filterMap_cons, hf] at hb
  exact hb
theorem Inv.stkFree (I : Inv X pins σ H s) : ∀ b ∈ frs X.stack, H b = none := fun b hb => by
 rcases List.mem_cons.mp (I.stkSub b hb) with e | hb
 ·rw [e]; exact I.free
 ·obtain ⟨_, o, ho, _⟩ := I.ok.funs.mem hb
  exact I.base.free b o ho (I.ok.frf b hb) fun z => I.ok.exfs b z hb
theorem Inv.step {g' : Array GenState} {t' : Nat} {d' : Drawn} {ch : List Addr} (I : Inv X pins σ H s)
  (hch : ∀ b ∈ ch, (b ∈ X.ex \/ X.s₀.heap.objs.size <= b) /\ b ≠ X.env.locals /\ (∀ x c, X.env.cells.lookup x = some c -> c ≠ b) /\ ∀ p ∈ X.pn ++ pins, p.1 ≠ b)
  (keep : ∀ b o, b ≠ X.env.locals -> b ∉ X.fs -> b ∉ ch -> s.heap.get? b = some o -> H b = none -> h'.get? b = some o)
  (slot : ∀ b o, b ≠ X.env.locals -> b ∈ X.fs -> b ∉ ch -> s.heap.get? b = some o -> H b = none -> ∃ sl, h'.get? b = some { o with slots := sl }) (free : ∀ b o, b ∉ ch -> s.heap.get? b = some o -> H b = none -> H' b = none)
  (there : ∀ b o, b ∉ ch -> s.heap.get? b = some o -> ∃ o', h'.get? b = some o')
  (tups : ∀ b xs, H b = some (.tup xs) -> H' b = some (.tup xs)) (frzs : ∀ b o u, H b = some (.frz o u) -> H' b = some (.frz o u)) (tbls : ∀ b ps, H b = some (.tbl ps) -> ∃ more, H' b = some (.tbl (ps ++ more)))
  (ns : ∀ m, s.heap.Ns X.env.locals m -> h'.Ns X.env.locals m) (hok : HOk X.prog X.w H' h') (hg : AllBare g') :
  Inv X pins σ H' { s with heap := h', gens := g', drawn := d', toks := t' } := by
 have neL : ∀ b o, X.s₀.heap.get? b = some o -> b ≠ X.env.locals := fun b o e => Nat.ne_of_lt (Nat.lt_of_lt_of_le (Heap.lt_size e) I.ok.above)
 have neC : ∀ b o, X.s₀.heap.get? b = some o -> b ∉ X.ex -> b ∉ ch := fun b o e hx hb => by
  rcases (hch b hb).1 with z | z
  ·exact hx z
  ·exact absurd (Nat.lt_of_lt_of_le (Heap.lt_size e) z) (Nat.lt_irrefl _)
 have cellK : ∀ x c, X.env.cells.lookup x = some c -> ∀ v, s.heap.IsCell c v -> h'.IsCell c v := fun x c e v ⟨o, ho, hd⟩ => by
  have nch : c ∉ ch := fun z => (hch c z).2.2.1 x c e rfl
  by_cases hc : c ∈ X.fs
  ·obtain ⟨sl, q⟩ := slot c o (I.cne x c e) hc nch ho (I.freeC x c e)
   exact ⟨_, q, hd⟩
  ·exact ⟨o, keep c o (I.cne x c e) hc nch ho (I.freeC x c e), hd⟩
 refine ⟨I.ok, I.os, hg, ⟨fun b o e n hb hx => ?_, fun b o e n hb hx => ?_, fun b o e n hx => ?_, fun b o e hx => ?_, fun b xs e => tups b xs (I.base.tups b xs e), fun b o xs e => frzs b o xs (I.base.frzs b o xs e), fun b ps e => ?_⟩, ?_, fun x c e => ?_, ?_, fun x c e => ?_, fun p hp => ?_, hok, I.len⟩
 ·exact keep b o (neL b o e) hb (neC b o e hx) (I.base.keep b o e n hb hx) (I.base.free b o e n hx)
 ·obtain ⟨sl, e1⟩ := I.base.slot b o e n hb hx
  obtain ⟨sl', e2⟩ := slot b _ (neL b o e) hb (neC b o e hx) e1 (I.base.free b o e n hx)
  exact ⟨sl', e2⟩
 ·obtain ⟨o', e1⟩ := I.base.there b o e hx
  exact free b o' (neC b o e hx) e1 (I.base.free b o e n hx)
 ·obtain ⟨o', e1⟩ := I.base.there b o e hx
  exact there b o' (neC b o e hx) e1
 ·obtain ⟨m1, e1⟩ := I.base.tbls b ps e
  obtain ⟨m2, e2⟩ := tbls b _ e1
  exact ⟨m1 ++ m2, by rw [e2, Array.append_assoc]⟩
 ·obtain ⟨m, hn, hl⟩ := I.loc
  refine ⟨m, ns m hn, fun i x v e1 e2 e3 => ?_⟩
  obtain ⟨u, r, l⟩ := hl i x v e1 e2 e3
  refine ⟨u, r, ?_⟩
  rcases l with l | ⟨k, c, e, z⟩
  ·exact .inl l
  ·exact .inr ⟨k, c, e, cellK x c e _ z⟩
 ·obtain ⟨v, z⟩ := I.cell x c e
  exact ⟨v, cellK x c e v z⟩
 ·obtain ⟨m, ⟨o, _, _, ho, _⟩, _⟩ := I.loc
  exact free _ o (fun z => (hch _ z).2.1 rfl) ho I.free
 ·obtain ⟨v, o, ho, hd⟩ := I.cell x c e
  exact free c o (fun z => (hch c z).2.2.1 x c e rfl) ho (I.freeC x c e)
 ·obtain ⟨e, n, ne, nf, d⟩ := I.pin p hp
  have nch : p.1 ∉ ch := fun z => (hch p.1 z).2.2.2 p hp rfl
  exact ⟨keep p.1 p.2 ne nf nch e n, free p.1 p.2 nch e n, ne, nf, d⟩
theorem Inv.un {t' : Nat} (I : Inv X pins σ H s) (u : Un X.fs [] H H' s.heap h') (hok : HOk X.prog X.w H' h') : Inv X pins σ H' { s with heap := h', toks := t' } := by
 obtain ⟨m, ⟨o, es, ep, ho, r⟩, _⟩ := id I.loc
 obtain ⟨sl, hL⟩ := u.any ho I.free (by simp)
 exact I.step (g' := s.gens) (d' := s.drawn) (ch := []) (fun _ z => nomatch z) (fun b o _ hb _ e n => u.keep b o e n hb (by simp)) (fun b o _ hb _ e n => u.slot b o e n hb (by simp)) (fun b o _ e n => u.free b o e n (by simp)) (fun b o _ e => u.there b o e (by simp)) u.tups u.frzs u.tbls (fun m' hm => by
  obtain ⟨o', es', ep', ho', r'⟩ := hm
  rw [ho] at ho'; cases ho'
  exact ⟨_, es', ep', hL, r'⟩) hok I.bare
theorem Inv.call {g' : Array GenState} {t' : Nat} {d' : Drawn} {ch : List Addr} (I : Inv X pins σ H s) (u : Un (frs X.stack) ch H H' s.heap h') (hok : HOk X.prog X.w H' h') (hg : AllBare g')
  (hch : ∀ b ∈ ch, (b ∈ X.ex \/ X.s₀.heap.objs.size <= b) /\ b ≠ X.env.locals /\ (∀ x c, X.env.cells.lookup x = some c -> c ≠ b) /\ ∀ p ∈ X.pn ++ pins, p.1 ≠ b) :
  Inv X pins σ H' { s with heap := h', gens := g', drawn := d', toks := t' } := by
 obtain ⟨m, ⟨o, es, ep, ho, r⟩, _⟩ := id I.loc
 obtain ⟨sl, hL⟩ := u.any ho I.free fun z => (hch _ z).2.1 rfl
 exact I.step (ch := ch) hch (fun b o hL hb hc e n => u.keep b o e n (fun z => (List.mem_cons.mp (I.stkSub b z)).elim hL hb) hc) (fun b o _ _ hc e n => u.any e n hc) (fun b o hc e n => u.free b o e n hc) (fun b o hc e => u.there b o e hc) u.tups u.frzs u.tbls (fun m' hm => by
  obtain ⟨o', es', ep', ho', r'⟩ := hm
  rw [ho] at ho'; cases ho'
  exact ⟨_, es', ep', hL, r'⟩) hok hg
theorem Inv.turned {t' : Nat} {it : Addr} (I : Inv X pins σ H s) (k : ∀ b o, b ≠ it -> s.heap.get? b = some o -> h'.get? b = some o) (hn : H it = none) (hL : it ≠ X.env.locals)
  (h1 : it ∈ X.ex \/ X.s₀.heap.objs.size <= it) (h2 : ∀ x c, X.env.cells.lookup x = some c -> c ≠ it) (h3 : ∀ p ∈ X.pn ++ pins, p.1 ≠ it) : Inv X pins σ H { s with heap := h', toks := t' } := by
 have nit : ∀ b u, H b = some u -> b ≠ it := fun b u e z => by rw [z, hn] at e; cases e
 refine I.step (g' := s.gens) (d' := s.drawn) (ch := [it]) (fun b hb => ?_) (fun b o _ _ hc e _ => k b o (fun z => hc (by simp [z])) e) (fun b o _ _ hc e _ => ⟨o.slots, k b o (fun z => hc (by simp [z])) e⟩) (fun _ _ _ _ n => n)
  (fun b o hc e => ⟨o, k b o (fun z => hc (by simp [z])) e⟩) (fun _ _ e => e) (fun _ _ _ e => e) (fun b ps e => ⟨#[], by rw [e]; simp⟩) (fun m hm => ?_) (fun b u e => ?_) I.bare
 ·have e : b = it := by simpa using hb
  subst e
  exact ⟨h1, hL, h2, h3⟩
 ·obtain ⟨o, es, ep, ho, r⟩ := hm
  exact ⟨o, es, ep, k _ o (Ne.symm hL) ho, r⟩
 ·refine (I.hok b u e).stay (fun c v hc q => k c v ?_ q) (fun _ q => q) fun _ _ q => q
  rcases hc with z | z
  ·rw [z]; exact nit b u e
  ·exact nit c _ z
theorem Inv.tok (I : Inv X pins σ H s) (t : Nat) : Inv X pins σ H { s with toks := t } := I.un (h' := s.heap) (t' := t) Un.refl I.hok
theorem Inv.kept {t' : Nat} (I : Inv X pins σ H s) (k : ∀ b u, s.heap.get? b = some u -> h'.get? b = some u) : Inv X pins σ H { s with heap := h', toks := t' } := I.un (Un.kept k) (I.hok.kept k)
theorem Inv.laid {a : Addr} {o : HO} {t' : Nat} (I : Inv X pins σ H s) (k : ∀ b u, s.heap.get? b = some u -> h'.get? b = some u) (hp : s.heap.objs.size <= a) (new : bo X.prog X.w (upd H a o) h' a o) :
  Inv X pins σ (upd H a o) { s with heap := h', toks := t' } := I.un (Un.laid k hp (I.hok.fresh hp)) (I.hok.laid k hp new)
theorem Inv.write {x e : Addr} {o : HO} {t' : Nat} (I : Inv X pins σ H s) (mu : Mut (H x)) (he : e = x \/ H e = some (.own x)) (k : ∀ b u, b ≠ e -> s.heap.get? b = some u -> h'.get? b = some u) (heo : ∃ u, h'.get? e = some u)
  (new : bo X.prog X.w (upd H x o) h' x o) : Inv X pins σ (upd H x o) { s with heap := h', toks := t' } := I.un (Un.write mu he k heo) (I.hok.write mu he k heo new)
theorem Inv.pins_of {pins' : List (Addr × Obj)} (I : Inv X pins σ H s) (h : ∀ p ∈ pins', s.heap.get? p.1 = some p.2 /\ H p.1 = none /\ p.1 ≠ X.env.locals /\ p.1 ∉ X.fs /\ ∀ v, p.2.data ≠ .cell v) : Inv X pins' σ H s :=
 ⟨I.ok, I.os, I.bare, I.base, I.loc, I.cell, I.free, I.freeC, fun p hp => (List.mem_append.mp hp).elim (fun z => I.pin p (List.mem_append_left _ z)) (h p), I.hok, I.len⟩
theorem pj {N : List Str} (hN : N.Nodup) {i j : Nat} {x : Str} (a : N[i]? = some x) (b : N[j]? = some x) : i = j := by
 obtain ⟨h1, e1⟩ := List.getElem?_eq_some_iff.mp a
 obtain ⟨h2, e2⟩ := List.getElem?_eq_some_iff.mp b
 exact (List.getElem_inj hN).mp (e1.trans e2.symm)
theorem nh {M : Model} {A : Around} {E : Value -> Shared -> Prop} {i : Nat} {x : Str} {v : V} {u : Value} {Q : Unit -> Shared -> Prop} (I : Inv X pins σ H s) (hN : X.N.Nodup) (hi : X.N[i]? = some x) (hx : Loc X.env.scope x) (r : aP v u)
  (h : ∀ s', Inv X pins (σ.set i (some v)) H s' -> (∃ a, Heap.SameBut a s.heap s'.heap /\ (a = X.env.locals \/ X.env.cells.lookup x = some a)) -> Q () s') (hf : X.fn x = true \/ X.env.scope.names.lookup x = some .local := by first | exact .inl rfl | exact .inr rfl | assumption) : wpAny M A (storeName X.env x u) Q E s := by
 obtain ⟨m, hn, hl⟩ := id I.loc
 have hcls : (X.env.scope.kind == .class || (X.env.scope.kind == .module && X.env.locals != X.env.globals)) = false := by rw [I.ok.kind]; rfl
 have hiσ : i < σ.length := by rw [I.len]; exact (List.getElem?_eq_some_iff.mp hi).1
 have cne := I.cne
 have tracked : ∀ {a : Addr} {h' : Heap}, (∃ o, s.heap.get? a = some o /\ H a = none) -> Heap.SameBut a s.heap h' -> HOk X.prog X.w H h' := fun {a h'} ha hs b ob e => by
  obtain ⟨_, _, hfree⟩ := ha
  refine (I.hok b ob e).stay (fun c w' hc q => (hs.2 c ?_).trans q) (fun _ q => q) fun _ _ q => q
  rintro rfl
  rcases hc with rfl | hc
  ·rw [hfree] at e; cases e
  ·rw [hfree] at hc; cases hc
 rcases hx with hk | hk
 ·refine wpAny_storeName_local hk hn (fun h' hn' hs => ?_) hcls
  obtain ⟨oL, _, _, hoL, _⟩ := id hn
  refine h _ ⟨I.ok, I.os, I.bare, ⟨fun b o e n hb hx => ?_, fun b o e n hb hx => ?_, I.base.free, fun b o e hx => ?_, I.base.tups, I.base.frzs, I.base.tbls⟩, ⟨_, hn', fun j y v' e1 e2 e3 => ?_⟩, fun y c e => ?_, I.free, I.freeC, fun p hp => ?_, tracked ⟨oL, hoL, I.free⟩ hs, by simpa using I.len⟩ ⟨_, hs, .inl rfl⟩
  ·exact (hs.2 b (Nat.ne_of_lt (Nat.lt_of_lt_of_le (Heap.lt_size e) I.ok.above))).trans (I.base.keep b o e n hb hx)
  ·obtain ⟨sl, e1⟩ := I.base.slot b o e n hb hx
   exact ⟨sl, (hs.2 b (Nat.ne_of_lt (Nat.lt_of_lt_of_le (Heap.lt_size e) I.ok.above))).trans e1⟩
  ·obtain ⟨o', e1⟩ := I.base.there b o e hx
   exact ⟨o', (hs.2 b (Nat.ne_of_lt (Nat.lt_of_lt_of_le (Heap.lt_size e) I.ok.above))).trans e1⟩
  ·by_cases hj : j = i
   ·subst hj
    rw [hi] at e1; cases e1
    rw [List.getElem?_set_self hiσ] at e2
    cases e2
    exact ⟨u, r, .inl ⟨hk, by simp⟩⟩
   ·rw [List.getElem?_set_ne (Ne.symm hj)] at e2
    obtain ⟨u', r', q⟩ := hl j y v' e1 e2 e3
    refine ⟨u', r', ?_⟩
    rcases q with ⟨k, e⟩ | ⟨k, c, e, z⟩
    ·refine .inl ⟨k, ?_⟩
     have : y ≠ x := fun e => hj (pj hN e1 (e ▸ hi))
     simp [this, e]
    ·exact .inr ⟨k, c, e, z.sameBut hs (cne y c e)⟩
  ·obtain ⟨w', z⟩ := I.cell y c e
   exact ⟨w', z.sameBut hs (cne y c e)⟩
  ·obtain ⟨e, n, ne, nf, d⟩ := I.pin p hp
   exact ⟨(hs.2 p.1 ne).trans e, n, ne, nf, d⟩
 ·have hfn : X.fn x = true := by
   rcases hf with z | z
   ·exact z
   ·rw [z] at hk; cases hk
  obtain ⟨c, hc⟩ := I.ok.has x (.inl hk)
  obtain ⟨w', z⟩ := I.cell x c hc
  refine wpAny_storeName_cell I.ok.kind hk hc z (fun h' hc' hs => ?_)
  obtain ⟨oc, hoc, hocd⟩ := id z
  refine h { s with heap := h' } ⟨I.ok, I.os, I.bare, ⟨fun b o e n hb hx => ?_, fun b o e n hb hx => ?_, I.base.free, fun b o e hx => ?_, I.base.tups, I.base.frzs, I.base.tbls⟩, ⟨m, hn.sameBut hs (Ne.symm (cne x c hc)), fun j y v' e1 e2 e3 => ?_⟩, fun y c' e => ?_, I.free, I.freeC, fun p hp => ?_, tracked ⟨oc, hoc, I.freeC x c hc⟩ hs, by simpa using I.len⟩ ⟨c, hs, .inr hc⟩
  ·exact (hs.2 b (Nat.ne_of_lt (Nat.lt_of_lt_of_le (Heap.lt_size e) (I.ok.cab x c hfn hc)))).trans (I.base.keep b o e n hb hx)
  ·obtain ⟨sl, e1⟩ := I.base.slot b o e n hb hx
   exact ⟨sl, (hs.2 b (Nat.ne_of_lt (Nat.lt_of_lt_of_le (Heap.lt_size e) (I.ok.cab x c hfn hc)))).trans e1⟩
  ·obtain ⟨o', e1⟩ := I.base.there b o e hx
   exact ⟨o', (hs.2 b (Nat.ne_of_lt (Nat.lt_of_lt_of_le (Heap.lt_size e) (I.ok.cab x c hfn hc)))).trans e1⟩
  ·by_cases hj : j = i
   ·subst hj
    rw [hi] at e1; cases e1
    rw [List.getElem?_set_self hiσ] at e2
    cases e2
    exact ⟨u, r, .inr ⟨.inl hk, c, hc, hc'⟩⟩
   ·rw [List.getElem?_set_ne (Ne.symm hj)] at e2
    obtain ⟨u', r', q⟩ := hl j y v' e1 e2 e3
    refine ⟨u', r', ?_⟩
    rcases q with q | ⟨k, c', e, z'⟩
    ·exact .inl q
    ·refine .inr ⟨k, c', e, z'.sameBut hs ?_⟩
     rintro rfl
     exact hj (pj hN e1 (I.ok.inj _ _ _ e hc ▸ hi))
  ·by_cases hcc : c' = c
   ·subst hcc; exact ⟨_, hc'⟩
   ·obtain ⟨w2, z2⟩ := I.cell y c' e
    exact ⟨w2, z2.sameBut hs hcc⟩
  ·obtain ⟨e, n, ne, nf, d⟩ := I.pin p hp
   refine ⟨(hs.2 p.1 ?_).trans e, n, ne, nf, d⟩
   intro q
   rw [q, hoc] at e
   have q' : oc = p.2 := Option.some.inj e
   exact d w' (by rw [← q']; exact hocd)
theorem gB {M : Model} {A : Around} {E : Value -> Shared -> Prop} {i : Nat} {x : Str} {v : V} {u : Value} {Q : Unit -> Shared -> Prop} (I : Inv X pins σ H s) (hN : X.N.Nodup) (hi : X.N[i]? = some x) (hx : Loc X.env.scope x) (r : aP v u)
  (h : ∀ s', Inv X pins (σ.set i (some v)) H s' -> Q () s') (hf : X.fn x = true \/ X.env.scope.names.lookup x = some .local := by first | exact .inl rfl | exact .inr rfl | assumption) : wpAny M A (storeName X.env x u) Q E s :=
 nh I hN hi hx r (fun s' I' _ => h s' I') hf
theorem Inv.call' {s' : Shared} {ch : List Addr} (I : Inv X pins σ H s) (ho : s'.os = s.os) (u : Un (frs X.stack) ch H H' s.heap s'.heap) (hok : HOk X.prog X.w H' s'.heap) (hg : AllBare s'.gens)
  (hch : ∀ b ∈ ch, (b ∈ X.ex \/ X.s₀.heap.objs.size <= b) /\ b ≠ X.env.locals /\ (∀ x c, X.env.cells.lookup x = some c -> c ≠ b) /\ ∀ p ∈ X.pn ++ pins, p.1 ≠ b) : Inv X pins σ H' s' := by
 obtain ⟨h', g', d', t', o'⟩ := s'
 have e : o' = s.os := ho
 subst e
 exact I.call (g' := g') (t' := t') (d' := d') u hok hg hch
end
abbrev XK := Value -> Option Addr -> Hp -> Prop
abbrev St := List (Option V)
abbrev VK := V -> Hp -> Prop
abbrev TE := St -> Hp -> VK -> Prop
abbrev TT := St -> Hp -> (Bool -> Hp -> Prop) -> Prop
abbrev TA := St -> Hp -> (List V -> Hp -> Prop) -> Prop
structure Ends where
 nx : St -> Hp -> Prop
 rt : VK
 bk : St -> Hp -> Prop := fun _ _ => False
 ct : St -> Hp -> Prop := fun _ _ => False
abbrev TS := Ends -> St -> Hp -> Prop
def EP (X : Cx) (pins : List (Addr × Obj)) (σ : St) (Q : VK) (u : Value) (s' : Shared) : Prop := ∃ v H', Inv X pins σ H' s' /\ aP v u /\ Q v H'
def TP (X : Cx) (pins : List (Addr × Obj)) (σ : St) (Q : Bool -> Hp -> Prop) (b : Bool) (s' : Shared) : Prop := ∃ H', Inv X pins σ H' s' /\ Q b H'
def AP (X : Cx) (pins : List (Addr × Obj)) (σ : St) (Q : List V -> Hp -> Prop) (us : List Value) (s' : Shared) : Prop := ∃ vs H', Inv X pins σ H' s' /\ ay vs us /\ Q vs H'
def SP (X : Cx) (pins : List (Addr × Obj)) (D : Ends) (f : Flow) (s' : Shared) : Prop :=
 match f with
 | .next => ∃ σ' H', Inv X pins σ' H' s' /\ D.nx σ' H'
 | .brk => ∃ σ' H', Inv X pins σ' H' s' /\ D.bk σ' H'
 | .cont => ∃ σ' H', Inv X pins σ' H' s' /\ D.ct σ' H'
 | .ret u => ∃ v σ' H', Inv X pins σ' H' s' /\ aP v u /\ D.rt v H'
def PE (X : Cx) (e : Expr) (t : TE) : Prop :=
 ∀ (pins : List (Addr × Obj)) (s : Shared) (σ : St) (H : Hp) (Q : VK), Inv X pins σ H s -> t σ H Q -> wpAny (model X.prog X.w) X.A (eval e X.env) (EP X pins σ Q) X.xe s
def PT (X : Cx) (e : Expr) (t : TT) : Prop :=
 ∀ (pins : List (Addr × Obj)) (s : Shared) (σ : St) (H : Hp) (Q : Bool -> Hp -> Prop), Inv X pins σ H s -> t σ H Q -> wpAny (model X.prog X.w) X.A (isTrue e X.env (eval e X.env)) (TP X pins σ Q) X.xe s
def PW (X : Cx) (e : Expr) (t : TT) : Prop :=
 ∀ (whole : Sem Value) (pins : List (Addr × Obj)) (s : Shared) (σ : St) (H : Hp) (Q : Bool -> Hp -> Prop), Inv X pins σ H s -> t σ H Q -> wpAny (model X.prog X.w) X.A (isTrue e X.env whole) (TP X pins σ Q) X.xe s
theorem PW.pt {X : Cx} {e : Expr} {t : TT} (h : PW X e t) : PT X e t := h _
def PA (X : Cx) (es : List Expr) (t : TA) : Prop :=
 ∀ (pos : Pos) (pins : List (Addr × Obj)) (s : Shared) (σ : St) (H : Hp) (Q : List V -> Hp -> Prop), Inv X pins σ H s -> t σ H Q -> wpAny (model X.prog X.w) X.A (spliced (backTo pos (starEach es X.env))) (AP X pins σ Q) X.xe s
def PS (X : Cx) (st : Stmt) (t : TS) : Prop :=
 ∀ (pins : List (Addr × Obj)) (s : Shared) (σ : St) (H : Hp) (D : Ends), Inv X pins σ H s -> t D σ H -> wpAny (model X.prog X.w) X.A (exec st X.env) (SP X pins D) X.xe s
def PSs (X : Cx) (st : List Stmt) (t : TS) : Prop :=
 ∀ (pins : List (Addr × Obj)) (s : Shared) (σ : St) (H : Hp) (D : Ends), Inv X pins σ H s -> t D σ H -> wpAny (model X.prog X.w) X.A (execs st X.env) (SP X pins D) X.xe s
theorem thn {α : Type} {t : Sem α} {Q Q' : α -> Shared -> Prop} {M : Model} {A : Around} {E : Value -> Shared -> Prop} {s : Shared} (h : wpAny M A t Q E s) (hQ : ∀ a s, Q a s -> Q' a s) : wpAny M A t Q' E s := wpAny_mono h hQ fun _ _ x => x
section
variable {X : Cx}
def oS (i : Nat) : TE := fun σ H Q => ∃ v, σ[i]? = some (some v) /\ Q v H
def tC (v : V) : TE := fun _ H Q => Q v H
theorem AS {i : Nat} {x : Str} {pos : Pos} (hN : X.N[i]? = some x) (hv : Vis X.env.scope x) (hd : (x == ("__debug__" : Str)) = false := by decide) (hcd : (x == ("__classdict__" : Str)) = false := by decide) : PE X (.Name x pos) (oS i) := by
 intro pins s σ H Q I h
 obtain ⟨v, e, h⟩ := h
 obtain ⟨m, hn, hl⟩ := I.loc
 obtain ⟨u, r, l⟩ := hl i x v hN e hv
 have fin : EP X pins σ Q u s := ⟨v, H, I, r, h⟩
 rcases l with ⟨hk, hm⟩ | ⟨hk, c, hc, hcell⟩
 ·exact wpAny_Name (wpAny_loadName_local I.ok.kind hk hn hm fin) hd
 ·rcases hk with hk | hk
  ·exact wpAny_Name (wpAny_loadName_cell I.ok.kind hk hc hcell fin) hd
  ·exact wpAny_Name (wpAny_loadName_free I.ok.kind hk hc hcell fin hcd) hd
theorem bA {i j pos} : PE X (.Constant (.int i) j pos) (tC (.int i)) := fun _ _ _ H _ I h => wpAny_Constant_int ⟨.int i, H, I.tok _, ⟨_, rfl⟩, h⟩
theorem Eb {b j pos} : PE X (.Constant (.bool b) j pos) (tC (.bl b)) := fun _ _ _ H _ I h => Constant_bool ⟨.bl b, H, I, rfl, h⟩
theorem AV {j pos} : PE X (.Constant .none j pos) (tC .non) := fun _ _ _ H _ I h => Constant_none ⟨.non, H, I, rfl, h⟩
theorem jJ {x j pos} : PE X (.Constant (.str x) j pos) (tC (.str x)) := fun _ _ _ H _ I h => Calls.Constant_str ⟨.str x, H, I.tok _, ⟨_, rfl⟩, h⟩
def Gl (X : Cx) (x : Str) : Prop := X.env.kindOf x = some .globalImplicit
theorem iA {E : Value -> Shared -> Prop} {pins : List (Addr × Obj)} {s : Shared} {σ : St} {H : Hp} {x : Str} {u : Value} {pos : Pos} {Q : Value -> Shared -> Prop} (I : Inv X pins σ H s) (hg : Gl X x) (hm : X.mg x = some u) (h : Q u s)
  (hd : (x == ("__debug__" : Str)) = false := by decide) : wpAny (model X.prog X.w) X.A (eval (.Name x pos) X.env) Q E s :=
 Calls.Name_function_global I.ok.kind hg (Calls.loadGlobal_global (by rw [I.ok.glob]; exact I.mod.glob.keeps I.bk) hm h) hd
theorem fV {E : Value -> Shared -> Prop} {pins : List (Addr × Obj)} {s : Shared} {σ : St} {H : Hp} {x : Str} {u : Value} {pos : Pos} {Q : Value -> Shared -> Prop} (I : Inv X pins σ H s) (hg : Gl X x) (hm : X.mg x = none) (hv : bootBuiltins x = some u) (h : Q u s)
  (hn : x ≠ "__name__" := by decide) (hd : (x == ("__debug__" : Str)) = false := by decide) : wpAny (model X.prog X.w) X.A (eval (.Name x pos) X.env) Q E s := by
 obtain ⟨mb, h1, h2⟩ := I.mod.blt
 exact Calls.Name_function_global I.ok.kind hg (Calls.loadGlobal_builtin (by rw [I.ok.glob]; exact I.mod.glob.keeps I.bk) hm (by rw [I.ok.blt]; exact h1.keeps I.bk) ((h2 x hn).trans hv) h) hd
theorem zq {x : Str} {v : V} {u : Value} {pos : Pos} (hg : Gl X x) (hm : X.mg x = some u) (r : aP v u) (hd : (x == ("__debug__" : Str)) = false := by decide) : PE X (.Name x pos) (tC v) :=
 fun _ _ _ H _ I h => iA I hg hm ⟨v, H, I, r, h⟩ hd
theorem cB {x : Str} {v : V} {u : Value} {pos : Pos} (hg : Gl X x) (hm : X.mg x = none) (hv : bootBuiltins x = some u) (r : aP v u) (hn : x ≠ "__name__" := by decide) (hd : (x == ("__debug__" : Str)) = false := by decide) : PE X (.Name x pos) (tC v) :=
 fun _ _ _ H _ I h => fV I hg hm hv ⟨v, H, I, r, h⟩ hn hd
variable {a b : Expr} {ta tb : TE} {pos : Pos}
variable {tA tB' : TT} {rest : List Expr}
def tOr (t u : TT) : TT := fun σ H Q => t σ H fun c H1 => if c = true then Q true H1 else u σ H1 Q
def tNot (t : TT) : TT := fun σ H Q => t σ H fun c H1 => Q (!c) H1
theorem AG (ha : PT X a tA) : PW X (.BoolOp .Or [a] pos) tA := by
 intro wh pins s σ H Q I h
 refine isTrue_or (thn (ha pins s σ H Q I h) fun c s1 e => ?_)
 cases c with
 | false => exact isTrue_or_nil e
 | true => exact e
theorem D9 (ha : PT X a tA) (hb : PW X (.BoolOp .Or (b :: rest) pos) tB') : PW X (.BoolOp .Or (a :: b :: rest) pos) (tOr tA tB') := by
 intro wh pins s σ H Q I h
 refine isTrue_or (thn (ha pins s σ H _ I h) fun c s1 ⟨H1, I1, q1⟩ => ?_)
 cases c with
 | true => exact ⟨H1, I1, q1⟩
 | false => exact hb wh pins s1 σ H1 Q I1 q1
theorem AH (ha : PT X a tA) : PT X (.UnaryOp .Not a pos) (tNot tA) := by
 intro pins s σ H Q I h
 exact isTrue_not (ha pins s σ H (fun c H1 => Q (!c) H1) I h)
def D5 (ta tb : TE) : TE := fun σ H Q => ta σ H fun x H1 => ∃ c, x = .bl c /\ if c = true then tb σ H1 Q else Q (.bl false) H1
theorem AU {op} {t : TE} (h : PE X a t) : PE X (.BoolOp op [a] pos) t := fun pins s σ H Q I hw => BoolOp_one (h pins s σ H Q I hw)
theorem AX (ha : PE X a ta) (hb : PE X (.BoolOp .And (b :: rest) pos) tb) : PE X (.BoolOp .And (a :: b :: rest) pos) (D5 ta tb) := by
 intro pins s σ H Q I h
 refine BoolOp_and (thn (ha pins s σ H _ I h) fun v s1 ⟨x, H1, I1, r1, q1⟩ => ?_)
 obtain ⟨c, rfl, q1⟩ := q1
 cases r1
 refine wpAny_truthy_bool ?_
 cases c with
 | true => exact hb pins s1 σ H1 Q I1 q1
 | false => exact ⟨.bl false, H1, I1, rfl, q1⟩
def tIf (t : TT) (ta tb : TE) : TE := fun σ H Q => t σ H fun c H1 => if c = true then ta σ H1 Q else tb σ H1 Q
theorem vj {c : Expr} (hc : PT X c tA) (ha : PE X a ta) (hb : PE X b tb) : PE X (.IfExp c a b pos) (tIf tA ta tb) := by
 intro pins s σ H Q I h
 refine wpAny_IfExp (thn (hc pins s σ H _ I h) fun d s1 ⟨H1, I1, q1⟩ => ?_)
 cases d with
 | true => exact ha pins s1 σ H1 Q I1 q1
 | false => exact hb pins s1 σ H1 Q I1 q1
end
def SqL (K : PySem.W.Frag) (H : Hp) (a : Addr) (xs : List V) : Prop :=
 Rd H a (.lst xs) \/
  ∃ (o : Obj) (its : Array Value) (n : Nat), K.lookup a = some o /\ o.cls = .type "list" /\ o.dict = none /\ o.data = .seq its n /\ its.size <= sizeLine /\ ay xs its.toList
def SqT (K : PySem.W.Frag) (H : Hp) (a : Addr) (xs : List V) : Prop :=
 Rd H a (.tup xs) \/
  ∃ (o : Obj) (its : Array Value) (n : Nat), K.lookup a = some o /\ o.cls = .type "tuple" /\ o.data = .seq its n /\ its.size <= sizeLine /\ ay xs its.toList
def absV : Value -> Option V
 | .none => some .non
 | .bool b => some (.bl b)
 | .int i _ => some (.int i)
 | .str x _ => some (.str x)
 | .bytes b _ => some (.byt b)
 | .float b _ => some (.flt b)
 | .ref a => some (.ref a)
 | .type n => some (.ty n)
 | _ => none
theorem aP.abs {x : V} {u : Value} (r : aP x u) : absV u = some x := by
 cases x with
 | non => cases r; rfl
 | bl _ => cases r; rfl
 | int _ => obtain ⟨t, rfl⟩ := r; rfl
 | str _ => obtain ⟨t, rfl⟩ := r; rfl
 | byt _ => obtain ⟨t, rfl⟩ := r; rfl
 | flt _ => obtain ⟨t, rfl⟩ := r; rfl
 | ref _ => cases r; rfl
 | ty _ => cases r; rfl
theorem aP.inj {x y : V} {u : Value} (r : aP x u) (q : aP y u) : x = y := Option.some.inj (r.abs.symm.trans q.abs)
theorem ay.inj : ∀ {xs ys : List V} {us : List Value}, ay xs us -> ay ys us -> xs = ys
 | _, _, _, .nil, .nil => rfl
 | _, _, _, .cons r t, .cons r' t' => by rw [r.inj r', ay.inj t t']
section
variable {X : Cx} {pins : List (Addr × Obj)} {σ : St} {H : Hp} {s : Shared} {a : Addr} {xs ys : List V}
theorem SqL.of {K : PySem.W.Frag} (h : H a = some (.lst xs)) : SqL K H a xs := .inl (.inl h)
theorem Inv.list (I : Inv X pins σ H s) (h : SqL X.K H a xs) : ∃ its : List Value, ay xs its /\ PlainL s.heap a its.toArray /\ xs.length <= sizeLine := by
 rcases h with h | ⟨o, its, n, hk, hc, hd, hs, hz, r⟩
 ·obtain ⟨z, its, n, r, e⟩ := h.ok I.hok
  exact ⟨its, r, ⟨_, n, e, rfl, rfl, rfl⟩, z⟩
 ·refine ⟨its.toList, r, ⟨o, n, I.kIn a o hk, hc, hd, by simpa using hs⟩, ?_⟩
  have e := r.length
  simp only [Array.length_toList] at e
  omega
theorem Inv.tuple (I : Inv X pins σ H s) (h : SqT X.K H a xs) : ∃ its : List Value, ay xs its /\ IsTup s.heap a its.toArray /\ xs.length <= sizeLine := by
 rcases h with h | ⟨o, its, n, hk, hc, hs, hz, r⟩
 ·obtain ⟨z, its, r, p⟩ := h.ok I.hok
  exact ⟨its, r, p, z⟩
 ·refine ⟨its.toList, r, ⟨o, I.kIn a o hk, hc, n, by simpa using hs⟩, ?_⟩
  have e := r.length
  simp only [Array.length_toList] at e
  omega
theorem Inv.list_inj (I : Inv X pins σ H s) (h : SqL X.K H a xs) (h' : SqL X.K H a ys) : xs = ys := by
 obtain ⟨its, r, ⟨o, n, e, _, _, d⟩, _⟩ := I.list h
 obtain ⟨its', r', ⟨o', n', e', _, _, d'⟩, _⟩ := I.list h'
 rw [e] at e'; cases e'
 rw [d] at d'
 injection d' with d1 _
 have : its = its' := by simpa using congrArg Array.toList d1
 subst this
 exact r.inj r'
theorem Inv.tuple_inj (I : Inv X pins σ H s) (h : SqT X.K H a xs) (h' : SqT X.K H a ys) : xs = ys := by
 obtain ⟨its, r, ⟨o, e, _, n, d⟩, _⟩ := I.tuple h
 obtain ⟨its', r', ⟨o', e', _, n', d'⟩, _⟩ := I.tuple h'
 rw [e] at e'; cases e'
 rw [d] at d'
 injection d' with d1 _
 have : its = its' := by simpa using congrArg Array.toList d1
 subst this
 exact r.inj r'
end
abbrev Cx.wish (X : Cx) (E : Value -> Shared -> Prop) : Cx := { X with xe := E }
abbrev Cx.nox (X : Cx) : Cx := X.wish fun _ _ => False
theorem Cx.Ok.wish {X : Cx} (ok : X.Ok) (E : Value -> Shared -> Prop) : (X.wish E).Ok :=
 ⟨ok.mod, ok.kind, ok.glob, ok.blt, ok.above, ok.inj, ok.has, ok.cab, ok.hd, ok.frames, ok.stk, ok.exf, ok.bs, ok.bsz, ok.noex, ok.exfs, ok.funs, ok.frf⟩
theorem Cx.Ok.unwish {X : Cx} {E : Value -> Shared -> Prop} (ok : (X.wish E).Ok) : X.Ok :=
 ⟨ok.mod, ok.kind, ok.glob, ok.blt, ok.above, ok.inj, ok.has, ok.cab, ok.hd, ok.frames, ok.stk, ok.exf, ok.bs, ok.bsz, ok.noex, ok.exfs, ok.funs, ok.frf⟩
section
variable {X : Cx} {pins : List (Addr × Obj)} {σ : St} {H : Hp} {s : Shared} {E : Value -> Shared -> Prop}
theorem Inv.wish (I : Inv X pins σ H s) (E : Value -> Shared -> Prop) : Inv (X.wish E) pins σ H s := ⟨I.ok.wish E, I.os, I.bare, I.base, I.loc, I.cell, I.free, I.freeC, I.pin, I.hok, I.len⟩
theorem Inv.unwish (I : Inv (X.wish E) pins σ H s) : Inv X pins σ H s := ⟨I.ok.unwish, I.os, I.bare, I.base, I.loc, I.cell, I.free, I.freeC, I.pin, I.hok, I.len⟩
theorem SP.unwish {D : Ends} {f : Flow} {s' : Shared} (h : SP (X.wish E) pins D f s') : SP X pins D f s' := by
 cases f with
 | next => obtain ⟨σ', H', I, q⟩ := h; exact ⟨σ', H', I.unwish, q⟩
 | brk => obtain ⟨σ', H', I, q⟩ := h; exact ⟨σ', H', I.unwish, q⟩
 | cont => obtain ⟨σ', H', I, q⟩ := h; exact ⟨σ', H', I.unwish, q⟩
 | ret u => obtain ⟨v, σ', H', I, r, q⟩ := h; exact ⟨v, σ', H', I.unwish, r, q⟩
theorem PSs.nox {st : List Stmt} {t : TS} (h : PSs X.nox st t) : PSs X st t := fun pins s σ H D I hw =>
 wpAny_mono (h pins s σ H D (I.wish _) hw) (fun _ _ q => q.unwish) fun _ _ z => False.elim z
end
section
variable {X : Cx} {st : Stmt} {rest : List Stmt} {t u : TS} {e : Expr} {te : TE} {pos : Pos}
def D3 : TS := fun D σ H => D.nx σ H
def tSeq (t u : TS) : TS := fun D σ H => t { D with nx := u D } σ H
theorem mz : PSs X [] D3 := fun _ _ σ H _ I h => wpAny_execs_nil ⟨σ, H, I, h⟩
theorem bW (h1 : PS X st t) (h2 : PSs X rest u) : PSs X (st :: rest) (tSeq t u) := by
 intro pins s σ H D I h
 refine wpAny_execs_cons (thn (h1 pins s σ H { D with nx := u D } I h) fun f s1 q => ?_)
 cases f with
 | next =>
  obtain ⟨σ', H', I', q⟩ := q
  exact h2 pins s1 σ' H' D I' q
 | ret v => exact q
 | brk => exact q
 | cont => exact q
theorem dH (h1 : PS X st t) : PSs X [st] t := by
 intro pins s σ H D I h
 refine wpAny_execs_cons (thn (h1 pins s σ H D I h) fun f s1 q => ?_)
 cases f with
 | next => exact wpAny_execs_nil q
 | ret v => exact q
 | brk => exact q
 | cont => exact q
theorem Inv.quiet {pins : List (Addr × Obj)} {σ : St} {H : Hp} {s : Shared} (I : Inv X pins σ H s) : interactive X.env = false := by simp [interactive, I.ok.kind]
def yu (te : TE) : TS := fun D σ H => te σ H fun _ H1 => D.nx σ H1
theorem dI (he : PE X e te) (hs : swapsWith e none pos.line X.env = pure false := by rfl) : PS X (.Expr e pos) (yu te) := by
 intro pins s σ H D I h
 exact wpAny_Expr_any (thn (he pins s σ H _ I h) fun v s1 ⟨x, H1, I1, r1, q1⟩ => ⟨σ, H1, I1, q1⟩) I.quiet hs
def Al (te : TE) : TS := fun D σ H => te σ H D.rt
theorem aB (he : PE X e te) : PS X (.Return (some e) pos) (Al te) := by
 intro pins s σ H D I h
 exact wpAny_Return_some (thn (he pins s σ H _ I h) fun v s1 ⟨x, H1, I1, r1, q1⟩ => ⟨x, σ, H1, I1, r1, q1⟩)
def tIfS (c : TT) (t u : TS) : TS := fun D σ H => c σ H fun b H1 => if b = true then t D σ H1 else u D σ H1
theorem yC {c : Expr} {a b : List Stmt} {tc : TT} (hc : PT X c tc) (ha : PSs X a t) (hb : PSs X b u) : PS X (.If c a b pos) (tIfS tc t u) := by
 intro pins s σ H D I h
 refine wpAny_If (thn (hc pins s σ H _ I h) fun d s1 ⟨H1, I1, q1⟩ => ?_)
 cases d with
 | true => exact ha pins s1 σ H1 D I1 q1
 | false => exact hb pins s1 σ H1 D I1 q1
end
abbrev TG := V -> St -> Hp -> (St -> Hp -> Prop) -> Prop
abbrev TGs := List V -> St -> Hp -> (St -> Hp -> Prop) -> Prop
def PG (X : Cx) (target : Expr) (t : TG) : Prop :=
 ∀ (pins : List (Addr × Obj)) (s : Shared) (σ : St) (H : Hp) (v : V) (u : Value) (Q : St -> Hp -> Prop), Inv X pins σ H s -> aP v u -> t v σ H Q ->
  wpAny (model X.prog X.w) X.A (assign target X.env u) (fun _ s' => ∃ σ' H', Inv X pins σ' H' s' /\ Q σ' H') X.xe s
def PGs (X : Cx) (ts : List Expr) (t : TGs) : Prop :=
 ∀ (pins : List (Addr × Obj)) (s : Shared) (σ : St) (H : Hp) (vs : List V) (us : List Value) (Q : St -> Hp -> Prop), Inv X pins σ H s -> ay vs us -> t vs σ H Q ->
  wpAny (model X.prog X.w) X.A (assignInOrder ((assignEach ts X.env).map (·.2)) us) (fun _ s' => ∃ σ' H', Inv X pins σ' H' s' /\ Q σ' H') X.xe s
abbrev yh := V -> V -> V -> Hp -> (Hp -> Prop) -> Prop
def DO (X : Cx) (t : yh) : Prop :=
 ∀ (pins : List (Addr × Obj)) (s : Shared) (σ : St) (H : Hp) (o i v : V) (ov iv u : Value) (Q : Hp -> Prop), Inv X pins σ H s -> aP o ov -> aP i iv -> aP v u -> t o i v H Q ->
  wpAny (model X.prog X.w) X.A (setItem ov iv u) (fun _ s' => ∃ H', Inv X pins σ H' s' /\ Q H') X.xe s
abbrev TIp := V -> V -> Hp -> VK -> Prop
def PIp (X : Cx) (op : Operator) (t : TIp) : Prop :=
 ∀ (pins : List (Addr × Obj)) (s : Shared) (σ : St) (H : Hp) (x y : V) (v u : Value) (Q : VK), Inv X pins σ H s -> aP x v -> aP y u -> t x y H Q ->
  wpAny (model X.prog X.w) X.A (inplaceOp op v u) (EP X pins σ Q) X.xe s
section
variable {X : Cx} {pos : Pos}
def eQ (i : Nat) : TG := fun v σ H Q => Q (σ.set i (some v)) H
theorem qz {i : Nat} {x : Str} (hN : X.N.Nodup) (hi : X.N[i]? = some x) (hx : Loc X.env.scope x) (hf : X.fn x = true \/ X.env.scope.names.lookup x = some .local := by first | exact .inl rfl | exact .inr rfl | assumption) : PG X (.Name x pos) (eQ i) := by
 intro pins s σ H v u Q I r h
 exact wpAny_assign_Name (gB I hN hi hx r (fun s' I' => ⟨_, H, I', h⟩) hf)
def gNil : TGs := fun vs σ H Q => vs = [] /\ Q σ H
def rR (t : TG) (u : TGs) : TGs := fun vs σ H Q => ∃ v r, vs = v :: r /\ t v σ H fun σ' H' => u r σ' H' Q
theorem dJ : PGs X [] gNil := by
 intro pins s σ H vs us Q I r h
 obtain ⟨e, h⟩ := h
 subst e
 cases r
 exact assignInOrder_nil ⟨σ, H, I, h⟩
theorem bp {e : Expr} {es : List Expr} {t : TG} {u : TGs} (h1 : PG X e t) (h2 : PGs X es u)
  (hs : (assignEach (e :: es) X.env).map (·.2) = assign e X.env :: (assignEach es X.env).map (·.2) := by rfl) : PGs X (e :: es) (rR t u) := by
 intro pins s σ H vs us Q I r h
 obtain ⟨v, vr, e1, h⟩ := h
 subst e1
 cases r with
 | cons r rr =>
  rw [hs]
  refine assignInOrder_cons (thn (h1 pins s σ H _ _ _ I r h) fun _ s1 ⟨σ1, H1, I1, q1⟩ => ?_)
  exact h2 pins s1 σ1 H1 _ _ Q I1 rr q1
def vR (K : PySem.W.Frag) (n : Nat) (t : TGs) : TG := fun v σ H Q => ∃ a xs, v = .ref a /\ SqT K H a xs /\ xs.length = n /\ t xs σ H Q
theorem eF {es : List Expr} {k : Nat} {t : TGs} {n : Nat} (hc : X.calm = true) (h : PGs X es t)
  (hn : (assignEach es X.env).length = n := by rfl) (hst : (assignEach es X.env).findIdx? (·.1) = none := by rfl) : PG X (.Tuple es k pos) (vR X.K n t) := by
 intro pins s σ H v u Q I r hw
 obtain ⟨a, xs, e1, hq, hl, hw⟩ := hw
 subst e1
 cases r
 obtain ⟨its, rv, ht, hz⟩ := I.tuple hq
 refine assign_Tuple_tuple (I.ok.hd hc) ht (by simp [hn, ← hl, rv.length]) hst fun h' hx => ?_
 have I1 : Inv X pins σ H { s with heap := h' } := I.kept (t' := s.toks) fun b o e => hx b o (Nat.ne_of_lt (Heap.lt_size e)) e
 exact h pins _ σ H xs _ Q I1 (by simpa using rv) hw
def Bj (to ti : TE) (t : yh) : TG := fun v σ H Q => to σ H fun o H1 => ti σ H1 fun i H2 => t o i v H2 fun H3 => Q σ H3
theorem lF {o i : Expr} {to ti : TE} {t : yh} (ho : PE X o to) (hi : PE X i ti) (hs : DO X t)
  (ha : ∀ v, assign (.Subscript o i pos) X.env v = (do
   let ov ← holding [v] (eval o X.env)
   let iv ← holding [v, ov] (eval i X.env)
   standAt pos
   holding [v, ov, iv] (setItem ov iv v)
   release [v, ov, iv] []) := by intro _; rfl) : PG X (.Subscript o i pos) (Bj to ti t) := by
 intro pins s σ H v u Q I r h
 rw [ha]
 refine wpAny_bind (wpAny_holding (thn (ho pins s σ H _ I h) fun ov s1 ⟨x, H1, I1, r1, q1⟩ => ?_))
 refine wpAny_bind (wpAny_holding (thn (hi pins s1 σ H1 _ I1 q1) fun iv s2 ⟨y, H2, I2, r2, q2⟩ => ?_))
 refine wpAny_bind (wpAny_standAt (wpAny_bind (wpAny_holding (thn (hs pins s2 σ H2 x y v ov iv u _ I2 r1 r2 r q2) fun _ s3 ⟨H3, I3, q3⟩ => ?_))))
 exact wpAny_release ⟨σ, H3, I3, q3⟩
def jA (te : TE) (g : TG) : TS := fun D σ H => te σ H fun x H1 => g x σ H1 D.nx
theorem lE {tg e : Expr} {te : TE} {g : TG} (he : PE X e te) (hg : PG X tg g) (hs : swapsWithSole [tg] e pos.line X.env = pure false := by rfl) (hw : swappedStores [tg] e X.env = pure none := by rfl)
  (h1 : (assignEach [tg] X.env).map (·.2) = [assign tg X.env] := by rfl) : PS X (.Assign [tg] e pos) (jA te g) := by
 intro pins s σ H D I h
 refine wpAny_Assign_stores (thn (he pins s σ H _ I h) fun v s1 ⟨x, H1, I1, r1, q1⟩ => ?_) hs hw
 rw [h1]
 exact thn (hg pins s1 σ H1 x v _ I1 r1 q1) fun _ s2 q => q
theorem lC {i : Nat} {x : Str} {e : Expr} {te : TE} {pos' : Pos} (hN : X.N.Nodup) (hi : X.N[i]? = some x) (hx : Loc X.env.scope x) (he : PE X e te) (hs : swapsWith e (some (.Name x pos')) pos.line X.env = pure false := by rfl) (hf : X.fn x = true \/ X.env.scope.names.lookup x = some .local := by first | exact .inl rfl | exact .inr rfl | assumption) :
  PS X (.Assign [.Name x pos'] e pos) (jA te (eQ i)) := by
 intro pins s σ H D I h
 refine wpAny_Assign_Name (thn (he pins s σ H _ I h) fun v s1 ⟨y, H1, I1, r1, q1⟩ => ?_) hs
 exact gB I1 hN hi hx r1 (fun s2 I2 => ⟨_, H1, I2, q1⟩) hf
def Am (i j : Nat) (ta : TA) : TS := fun D σ H => ta σ H fun vs H1 => ∃ v w, vs = [v, w] /\ D.nx ((σ.set i (some v)).set j (some w)) H1
theorem AI {i j : Nat} {x y : Str} {a b : Expr} {ta : TA} {px py pt : Pos} {kt k2 pt2} (hc : X.calm = true) (hN : X.N.Nodup) (hi : X.N[i]? = some x) (hj : X.N[j]? = some y) (hij : i ≠ j)
  (hx : X.env.scope.names.lookup x = some .local) (hy : X.env.scope.names.lookup y = some .local) (ha : PA X [a, b] ta)
  (hw : swappedStores [.Tuple [.Name x px, .Name y py] kt pt] (.Tuple [a, b] k2 pt2) X.env = pure (some [x, y]))
  (hs : swapsWithSole [.Tuple [.Name x px, .Name y py] kt pt] (.Tuple [a, b] k2 pt2) pos.line X.env = pure false := by rfl) :
  PS X (.Assign [.Tuple [.Name x px, .Name y py] kt pt] (.Tuple [a, b] k2 pt2) pos) (Am i j ta) := by
 intro pins s σ H D I h
 rw [exec_Assign_arm]
 refine wpAny_bind (wpAny_standAt ?_)
 rw [hs]
 refine wpAny_bind (wpAny_pure ?_)
 rw [if_neg (by decide)]
 refine wpAny_bind (Tuple_ (thn (ha _ pins s σ H _ I h) fun us s1 ⟨vs, H1, I1, r1, q1⟩ => ?_))
 obtain ⟨v, w, e1, q1⟩ := q1
 subst e1
 obtain ⟨u1, u2, rfl, rv, rw'⟩ : ∃ u1 u2, us = [u1, u2] /\ aP v u1 /\ aP w u2 := by
  cases r1 with
  | cons p q =>
   cases q with
   | cons p' q' =>
    cases q'
    exact ⟨_, _, rfl, p, p'⟩
 refine wpAny_newObj_type ?_ (by show 2 <= sizeLine; decide)
 have I2 : Inv X pins σ H1 { s1 with heap := s1.heap.push { cls := .type "tuple", data := .seq [u1, u2].toArray } } := I1.kept (t' := s1.toks) fun b o e => Heap.get?_push_of_some _ e
 rw [hw]
 refine wpAny_bind (wpAny_pure ?_)
 show wpAny (model X.prog X.w) X.A (do rule "assign.swapped-stores"; let items ← unpackItems (.ref s1.heap.objs.size) 2 none; assignInOrder [fun v => bindName X.env y v, fun v => bindName X.env x v] items.reverse; pure Flow.next) _ _ _
 refine wpAny_bind (wpAny_rule (wpAny_bind (unpackItems_tuple (items := #[u1, u2]) (I.ok.hd hc) (IsTup.new s1.heap _) fun h' hx' => ?_)))
 have I3 := I2.kept (h' := h') (t' := s1.toks) fun b o e => hx' b o (Nat.ne_of_lt (Heap.lt_size e)) e
 show wpAny _ _ (assignInOrder [fun v => bindName X.env y v, fun v => bindName X.env x v] [u2, u1] >>= fun _ => pure Flow.next) _ _ _
 refine wpAny_bind (assignInOrder_cons (wpAny_bindName (gB I3 hN hj (.inl hy) rw' (fun s2 I4 => ?_) (.inr hy))))
 refine assignInOrder_cons (wpAny_bindName (gB I4 hN hi (.inl hx) rv (fun s3 I5 => assignInOrder_nil (wpAny_pure ?_)) (.inr hx)))
 rw [List.set_comm _ _ (Ne.symm hij)] at I5
 exact ⟨_, H1, I5, q1⟩
def At (i : Nat) (te : TE) (ti : TIp) : TS := fun D σ H => ∃ x, σ[i]? = some (some x) /\ te σ H fun y H1 => ti x y H1 fun z H2 => D.nx (σ.set i (some z)) H2
theorem lD {i : Nat} {x : Str} {e : Expr} {te : TE} {op : Operator} {ti : TIp} {pos' : Pos} (hN : X.N.Nodup) (hi : X.N[i]? = some x) (hx : Loc X.env.scope x) (he : PE X e te) (ho : PIp X op ti) (hf : X.fn x = true \/ X.env.scope.names.lookup x = some .local := by first | exact .inl rfl | exact .inr rfl | assumption) :
  PS X (.AugAssign (.Name x pos') op e pos) (At i te ti) := by
 intro pins s σ H D I h
 obtain ⟨v, e1, h⟩ := h
 obtain ⟨m, hn, hl⟩ := I.loc
 have vis : Vis X.env.scope x := by rcases hx with k | k; exact .inl k; exact .inr (.inl k)
 obtain ⟨u, r, l⟩ := hl i x v hi e1 vis
 refine wpAny_AugAssign_Name ?_
 have go : wpAny (model X.prog X.w) X.A (eval e X.env) (fun w s₂ => wpAny (model X.prog X.w) X.A (inplaceOp op u w) (fun r s₃ => wpAny (model X.prog X.w) X.A (storeName X.env x r) (fun _ => SP X pins D .next) X.xe s₃) X.xe s₂) X.xe s := by
  refine thn (he pins s σ H _ I h) fun w s1 ⟨y, H1, I1, r1, q1⟩ => ?_
  refine thn (ho pins s1 σ H1 v y u w _ I1 r r1 q1) fun z s2 ⟨zv, H2, I2, r2, q2⟩ => ?_
  exact gB I2 hN hi hx r2 (fun s3 I3 => ⟨_, H2, I3, q2⟩) hf
 rcases l with ⟨hk, hm⟩ | ⟨hk, c, hc, hcell⟩
 ·exact wpAny_loadName_local I.ok.kind hk hn hm go
 ·rcases hk with hk | hk
  ·exact wpAny_loadName_cell I.ok.kind hk hc hcell go
  ·rcases hx with k | k
   ·have : X.env.scope.names.lookup x = some .free := hk
    rw [k] at this; cases this
   ·have : X.env.scope.names.lookup x = some .free := hk
    rw [k] at this; cases this
end
section
variable {X : Cx} {pos : Pos}
def Ak (c : TT) (tb : TS) : TS := fun D σ H => ∃ W : Nat -> St -> Hp -> Prop, (∃ m, W m σ H) /\ ∀ m σ H, W m σ H ->
 c σ H fun b H1 => if b = true then ∃ N : St -> Hp -> Prop, (∀ σ' H', N σ' H' -> ∃ m', m' < m /\ W m' σ' H') /\ tb { D with nx := N, ct := N, bk := D.nx } σ H1 else D.nx σ H1
theorem u7 {c : Expr} {body : List Stmt} {tc : TT} {tb : TS} (hp : PassesOwn (model X.prog X.w) X.A X.env X.xe) (hc : PT X c tc) (hb : PSs X body tb) : PS X (.While c body [] pos) (Ak tc tb) := by
 intro pins s σ H D I h
 obtain ⟨W, ⟨m0, w0⟩, turn⟩ := h
 refine wpAny_While (codeAny_whileLoop (fun n s' => ∃ σ' H', Inv X pins σ' H' s' /\ W n σ' H') ?_ m0 ⟨σ, H, I, w0⟩)
 rintro n s1 ⟨σ1, H1, I1, w1⟩
 refine wpAny_passesOwn hp (thn (hc pins s1 σ1 H1 _ I1 (turn n σ1 H1 w1)) fun b s2 ⟨H2, I2, q2⟩ => ?_)
 cases b with
 | true =>
  obtain ⟨N, hN, q2⟩ := q2
  rw [if_pos rfl]
  refine wpAny_passesOwn hp (thn (hb pins s2 σ1 H2 _ I2 q2) fun f s3 q3 => ?_)
  cases f with
  | next =>
   obtain ⟨σ3, H3, I3, n3⟩ := q3
   obtain ⟨m', hm, w3⟩ := hN σ3 H3 n3
   exact ⟨m', hm, σ3, H3, I3, w3⟩
  | cont =>
   obtain ⟨σ3, H3, I3, n3⟩ := q3
   obtain ⟨m', hm, w3⟩ := hN σ3 H3 n3
   exact ⟨m', hm, σ3, H3, I3, w3⟩
  | brk => exact q3
  | ret v => exact q3
 | false =>
  rw [if_neg Bool.false_ne_true]
  exact wpAny_execs_nil ⟨σ1, H2, I2, q2⟩
end
structure It where
 go : Nat -> Hp -> Prop
 yld : Nat -> Hp -> V -> Hp -> Prop
 stop : Nat -> Hp -> Prop
def dO (X : Cx) (pins : List (Addr × Obj)) (H : Hp) (b : Addr) : Prop :=
 H b = none /\ b ≠ X.env.locals /\ b ∉ X.fs /\ (b ∈ X.ex \/ X.s₀.heap.objs.size <= b) /\ (∀ x c, X.env.cells.lookup x = some c -> c ≠ b) /\ ∀ p ∈ X.pn ++ pins, p.1 ≠ b
theorem Inv.fpOk {X : Cx} {pins : List (Addr × Obj)} {σ : St} {H H' : Hp} {s : Shared} {b : Addr} (I : Inv X pins σ H s) (hb : s.heap.objs.size <= b) (hn : H' b = none) : dO X pins H' b := by
 refine ⟨hn, Nat.ne_of_gt (Nat.lt_of_lt_of_le I.lt hb), I.nofs hb, .inr (Nat.le_trans I.sz hb), fun x c e z => ?_, fun p hp z => ?_⟩
 ·obtain ⟨v, q⟩ := I.cell x c e
  exact absurd (Nat.lt_of_lt_of_le q.lt (by rw [z]; exact hb)) (Nat.lt_irrefl _)
 ·exact absurd (Nat.lt_of_lt_of_le (Heap.lt_size (I.pin p hp).1) (by rw [z]; exact hb)) (Nat.lt_irrefl _)
structure Turn (P : Program) (w : World) (K : PySem.W.Frag) (tg : Expr) (J : It) (fp : List Addr) (it : Addr) (tn : Nat -> Heap -> Prop) : Prop where
 mem : it ∈ fp
 obj : ∀ i h, tn i h -> ∀ b ∈ fp, ∃ o, h.get? b = some o /\ ∀ v, o.data ≠ .cell v
 keep : ∀ i h h', tn i h -> (∀ b ∈ fp, ∀ o, h.get? b = some o -> h'.get? b = some o) -> tn i h'
 item : ∀ (X : Cx), X.prog = P -> X.w = w -> X.K = K -> X.calm = true -> ∀ (i : Nat) (pins : List (Addr × Obj)) (s : Shared) (σ : St) (H : Hp) (E : Value -> Shared -> Prop), Inv X pins σ H s -> (∀ b ∈ fp, dO X pins H b) -> tn i s.heap -> J.go i H ->
  wpAny (model P w) X.A (pyNext (.ref it)) (fun r s1 => ∃ u, r = some u /\
   wpAny (model P w) X.A (letOwnedTupleGo tg (.ref it) u) (fun _ s2 => ∃ x H', Inv X pins σ H' s2 /\ aP x u /\ J.yld i H x H' /\ tn (i + 1) s2.heap /\ ∀ b ∈ fp, H' b = none) E s1) E s
 done : ∀ (X : Cx), X.prog = P -> X.w = w -> X.K = K -> X.calm = true -> ∀ (i : Nat) (pins : List (Addr × Obj)) (s : Shared) (σ : St) (H : Hp) (E : Value -> Shared -> Prop), Inv X pins σ H s -> (∀ b ∈ fp, dO X pins H b) -> tn i s.heap -> J.stop i H ->
  wpAny (model P w) X.A (pyNext (.ref it)) (fun r s1 => r = none /\ Inv X pins σ H s1) E s
 self : ∀ (A : Around) (i : Nat) (s : Shared) (Q : Value -> Shared -> Prop) (E : Value -> Shared -> Prop), tn i s.heap -> Q (.ref it) s -> wpAny (model P w) A (pyIter (.ref it)) Q E s
abbrev TI := St -> Hp -> (It -> Hp -> Prop) -> Prop
def PIE (X : Cx) (pins : List (Addr × Obj)) (σ : St) (tg : Expr) (R : It -> Hp -> Prop) (itv : Value) (s2 : Shared) : Prop :=
 ∃ (it : Addr) (fp : List Addr) (tn : Nat -> Heap -> Prop) (J : It) (H' : Hp), itv = .ref it /\ Inv X pins σ H' s2 /\ Turn X.prog X.w X.K tg J fp it tn /\ tn 0 s2.heap /\ (∀ b ∈ fp, dO X pins H' b) /\ R J H'
def PI (X : Cx) (tg iter : Expr) (wi : TI) : Prop :=
 ∀ (pins : List (Addr × Obj)) (s : Shared) (σ : St) (H : Hp) (R : It -> Hp -> Prop), Inv X pins σ H s -> wi σ H R ->
  wpAny (model X.prog X.w) X.A (eval iter X.env) (fun v s1 => wpAny (model X.prog X.w) X.A (pyIter v) (PIE X pins σ tg R) X.xe s1) X.xe s
theorem rP {M : Model} {A : Around} {E : Value -> Shared -> Prop} {s : Shared} {tg : Expr} {it : Addr} {u : Value} {o : Obj} {n : String} {vs : Array Value} {Q : Unit -> Shared -> Prop} (ho : s.heap.get? it = some o) (hc : o.cls = .type n) (hd : o.data = .fields vs)
  (hn : ["enumerate", "zip", "dict_itemiterator", "dict_reverseitemiterator", "odict_iterator", "itertools.zip_longest", "itertools.pairwise"].contains n = false) (hQ : Q () s) : wpAny M A (letOwnedTupleGo tg (.ref it) u) Q E s := by
 unfold letOwnedTupleGo
 cases tg <;> first
  | exact wpAny_pure hQ
  | (cases u <;> first
    | exact wpAny_pure hQ
    | (refine wpAny_bind (wpAny_load ho ?_)
       rw [hc, hd]
       show wpAny M A (if (["enumerate", "zip", "dict_itemiterator", "dict_reverseitemiterator", "odict_iterator", "itertools.zip_longest", "itertools.pairwise"].contains n && vs[0]? == some (rawInt _)) = true then _ else _) Q E s
       rw [if_neg (by intro h; rw [hn, Bool.false_and] at h; cases h)]
       exact wpAny_pure hQ))
def Itl (K : PySem.W.Frag) (a : Addr) : It :=
 ⟨fun i H => ∃ xs x, SqL K H a xs /\ xs[i]? = some x, fun i H x H' => H' = H /\ ∀ xs, SqL K H a xs -> xs[i]? = some x, fun i H => ∃ xs, SqL K H a xs /\ xs.length <= i⟩
def Itt (K : PySem.W.Frag) (a : Addr) : It :=
 ⟨fun i H => ∃ xs x, SqT K H a xs /\ xs[i]? = some x, fun i H x H' => H' = H /\ ∀ xs, SqT K H a xs -> xs[i]? = some x, fun i H => ∃ xs, SqT K H a xs /\ xs.length <= i⟩
def Itr (lo : Int) (n : Nat) : It := ⟨fun i _ => i < n, fun i H x H' => H' = H /\ x = .int (lo + i), fun i _ => n <= i⟩
theorem ng {P : Program} {w : World} {K : PySem.W.Frag} {tg : Expr} (a it : Addr) : Turn P w K tg (Itl K a) [it] it (fun i h => h.IsListIter it a i) where
 mem := by simp
 obj := fun i h st b hb => by
  have e : b = it := by simpa using hb
  subst e
  obtain ⟨o, e, c, d⟩ := st
  exact ⟨o, e, fun v z => by rw [d] at z; cases z⟩
 keep := fun i h h' st k => st.at fun o e => k it (by simp) o e
 item := by
  intro X hP hw hK hc i pins s σ H E I hf st hg
  subst hP hw hK
  obtain ⟨xs, x, hq, hx⟩ := hg
  obtain ⟨its, rv, p, hz⟩ := I.list hq
  obtain ⟨u, hu, ru⟩ := rv.get hx
  obtain ⟨f0, f1, f2, f3, f4, f5⟩ := hf it (by simp)
  refine wpAny_pyNext_list_item st p.isList (x := u) (by simpa using hu) fun h' st' sb => ?_
  have I1 : Inv X pins σ H { s with heap := h' } := I.turned (t' := s.toks) (fun b o hb e => (sb.2 b hb).trans e) f0 f1 f3 f4 f5
  obtain ⟨o, e, c, d⟩ := id st'
  exact ⟨u, rfl, rP (s := { s with heap := h' }) e c d (by decide) ⟨x, H, I1, ru, ⟨rfl, fun ys hy => by rw [I.list_inj hy hq]; exact hx⟩, st', fun b hb => (hf b hb).1⟩⟩
 done := by
  intro X hP hw hK hc i pins s σ H E I hf st hg
  subst hP hw hK
  obtain ⟨xs, hq, hx⟩ := hg
  obtain ⟨its, rv, p, hz⟩ := I.list hq
  obtain ⟨f0, f1, f2, f3, f4, f5⟩ := hf it (by simp)
  have hl := rv.length
  exact wpAny_pyNext_list_end (I.ok.hd hc) st p.isList (by simp; omega) fun h' eb => ⟨rfl, I.turned (t' := s.toks) (fun b o hb e => eb b o hb e) f0 f1 f3 f4 f5⟩
 self := fun _ _ _ _ _ st h => wpAny_pyIter_listiter st h
theorem q8 {P : Program} {w : World} {K : PySem.W.Frag} {tg : Expr} (a it : Addr) : Turn P w K tg (Itt K a) [it] it (fun i h => h.IsTupleIter it a i) where
 mem := by simp
 obj := fun i h st b hb => by
  have e : b = it := by simpa using hb
  subst e
  obtain ⟨o, e, c, d⟩ := st
  exact ⟨o, e, fun v z => by rw [d] at z; cases z⟩
 keep := fun i h h' st k => st.at fun o e => k it (by simp) o e
 item := by
  intro X hP hw hK hc i pins s σ H E I hf st hg
  subst hP hw hK
  obtain ⟨xs, x, hq, hx⟩ := hg
  obtain ⟨its, rv, p, hz⟩ := I.tuple hq
  obtain ⟨u, hu, ru⟩ := rv.get hx
  obtain ⟨f0, f1, f2, f3, f4, f5⟩ := hf it (by simp)
  refine wpAny_pyNext_tuple_item st (show s.heap.IsTuple a its.toArray from p) (x := u) (by simpa using hu) fun h' st' sb => ?_
  have I1 : Inv X pins σ H { s with heap := h' } := I.turned (t' := s.toks) (fun b o hb e => (sb.2 b hb).trans e) f0 f1 f3 f4 f5
  obtain ⟨o, e, c, d⟩ := id st'
  exact ⟨u, rfl, rP (s := { s with heap := h' }) e c d (by decide) ⟨x, H, I1, ru, ⟨rfl, fun ys hy => by rw [I.tuple_inj hy hq]; exact hx⟩, st', fun b hb => (hf b hb).1⟩⟩
 done := by
  intro X hP hw hK hc i pins s σ H E I hf st hg
  subst hP hw hK
  obtain ⟨xs, hq, hx⟩ := hg
  obtain ⟨its, rv, p, hz⟩ := I.tuple hq
  obtain ⟨f0, f1, f2, f3, f4, f5⟩ := hf it (by simp)
  have hl := rv.length
  exact wpAny_pyNext_tuple_end (I.ok.hd hc) st (show s.heap.IsTuple a its.toArray from p) (by simp; omega) fun h' eb => ⟨rfl, I.turned (t' := s.toks) (fun b o hb e => eb b o hb e) f0 f1 f3 f4 f5⟩
 self := fun _ _ _ _ _ st h => wpAny_pyIter_tupleiter st h
theorem q9 {P : Program} {w : World} {K : PySem.W.Frag} {tg : Expr} (it : Addr) (lo : Int) (n : Nat) : Turn P w K tg (Itr lo n) [it] it (fun i h => IsRangeIter h it (lo + (i : Nat) * 1) ((n : Int) - (i : Nat)) 1) where
 mem := by simp
 obj := fun i h st b hb => by
  have e : b = it := by simpa using hb
  subst e
  exact ⟨_, st, fun v z => by
   have z' : Data.fields _ = Data.cell v := z
   cases z'⟩
 keep := fun i h h' st k => k it (by simp) _ st
 item := by
  intro X hP hw hK hc i pins s σ H E I hf st hg
  subst hP hw hK
  obtain ⟨f0, f1, f2, f3, f4, f5⟩ := hf it (by simp)
  have W := Walks.range (prog := X.prog) (w := X.w) (I.ok.hd hc) it lo 1 n
  refine W.item i s _ _ hg st fun v h' tk hv st' kk => ?_
  obtain ⟨t, rfl⟩ := hv
  have I1 : Inv X pins σ H { s with heap := h', toks := tk } := I.turned (fun b o hb e => kk b o (by simpa using hb) e) f0 f1 f3 f4 f5
  refine ⟨_, rfl, rP (s := { s with heap := h', toks := tk }) (n := "range_iterator") st' rfl rfl (by decide) ⟨.int (lo + i), H, I1, ⟨t, ?_⟩, ⟨rfl, rfl⟩, st', fun b hb => (hf b hb).1⟩⟩
  rw [Int.mul_one]
 done := by
  intro X hP hw hK hc i pins s σ H E I hf st hg
  subst hP hw hK
  obtain ⟨f0, f1, f2, f3, f4, f5⟩ := hf it (by simp)
  exact wpAny_pyNext_range_end (I.ok.hd hc) st (by have : n <= i := hg; omega) fun h' eb => ⟨rfl, I.turned (t' := s.toks) (fun b o hb e => eb b o hb e) f0 f1 f3 f4 f5⟩
 self := fun _ _ _ _ _ st h => wpAny_pyIter_rangeiter st h
section
variable {X : Cx} {tg : Expr}
def Eu (K : PySem.W.Frag) (tl : TE) : TI := fun σ H R => tl σ H fun x H1 => ∃ a, x = .ref a /\ (∃ xs, SqL K H1 a xs) /\ R (Itl K a) H1
theorem zn {l : Expr} {tl : TE} (hl : PE X l tl) : PI X tg l (Eu X.K tl) := by
 intro pins s σ H R I h
 refine thn (hl pins s σ H _ I h) fun v s1 ⟨x, H1, I1, r1, q1⟩ => ?_
 obtain ⟨a, e, ⟨xs, hq⟩, q⟩ := q1
 subst e
 cases r1
 obtain ⟨its, rv, p, hz⟩ := I1.list hq
 refine wpAny_pyIter_list p.isList ?_
 refine ⟨s1.heap.objs.size, [s1.heap.objs.size], _, _, H1, rfl, I1.kept (t' := s1.toks) fun b o e => Heap.get?_push_of_some _ e, ng a _, ⟨_, Heap.get?_push_size _ rfl, rfl, rfl⟩, fun b hb => ?_, q⟩
 have e : b = s1.heap.objs.size := by simpa using hb
 subst e
 exact I1.fpOk (Nat.le_refl _) (I1.hok.fresh (Nat.le_refl _))
theorem pb {pins : List (Addr × Obj)} {σ : St} {H : Hp} {s : Shared} {R : It -> Hp -> Prop} {E : Value -> Shared -> Prop} {lo hi : Int} {t u v : Tok} {tk : Nat} (I : Inv X pins σ H s) (h1 : -(2 ^ 62) <= lo) (h2 : lo < 2 ^ 62) (h3 : -(2 ^ 62) <= hi) (h4 : hi < 2 ^ 62)
  (q : R (Itr lo (hi - lo).toNat) H) : wpAny (model X.prog X.w) X.A (pyIter (.ref s.heap.objs.size)) (PIE X pins σ tg R) E { s with heap := s.heap.push { cls := .type "range", data := .fields #[.int lo t, .int hi u, .int 1 v] }, toks := tk } := by
 refine wpAny_pyIter_range (IsRange.new ..) (small_one h1 h2 h3 h4) ?_
 have I1 : Inv X pins σ H { s with heap := s.heap.push { cls := .type "range", data := .fields #[.int lo t, .int hi u, .int 1 v] }, toks := tk } := I.kept fun b o e => Heap.get?_push_of_some _ e
 refine ⟨(s.heap.push { cls := .type "range", data := .fields #[.int lo t, .int hi u, .int 1 v] }).objs.size, [(s.heap.push { cls := .type "range", data := .fields #[.int lo t, .int hi u, .int 1 v] }).objs.size], _, _, H, rfl,
  I1.kept (t' := tk) fun b o e => Heap.get?_push_of_some _ e, q9 _ lo (hi - lo).toNat, ?_, fun b hb => ?_, q⟩
 ·have e1 : lo + ((0 : Nat) : Int) * 1 = lo := by simp
  have e2 : (((hi - lo).toNat : Nat) : Int) - ((0 : Nat) : Int) = Builtin.Range.rangeSize lo hi 1 := by rw [rangeSize_one]; split <;> omega
  show IsRangeIter _ _ (lo + ((0 : Nat) : Int) * 1) ((((hi - lo).toNat : Nat) : Int) - ((0 : Nat) : Int)) 1
  rw [e1, e2]
  exact Heap.get?_push_size _ rfl
 ·have e : b = (s.heap.push { cls := .type "range", data := .fields #[.int lo t, .int hi u, .int 1 v] }).objs.size := by simpa using hb
  subst e
  exact I1.fpOk (Nat.le_refl _) (I1.hok.fresh (Nat.le_refl _))
def Et (ta : TA) : TI := fun σ H R => ta σ H fun vs H1 => ∃ j : Int, vs = [.int j] /\ -(2 ^ 62) <= j /\ j < 2 ^ 62 /\ R (Itr 0 j.toNat) H1
def Es (ta : TA) : TI := fun σ H R => ta σ H fun vs H1 => ∃ i j : Int, vs = [.int i, .int j] /\ (-(2 ^ 62) <= i /\ i < 2 ^ 62 /\ -(2 ^ 62) <= j /\ j < 2 ^ 62) /\ R (Itr i (j - i).toNat) H1
theorem t6 {a : Expr} {ta : TA} {p pos : Pos} (hg : Gl X "range") (hm : X.mg "range" = none) (ha : PA X [a] ta) (hs : starEach [a] X.env = [(false, eval a X.env)] := by rfl) : PI X tg (.Call (.Name "range" p) [a] [] pos) (Et ta) := by
 intro pins s σ H R I h
 refine Call_ (fV I hg hm boot_range (PyProof.Rows.callWith_type1 (thn (ha pos pins s σ H _ I h) fun us s1 ⟨vs, H1, I1, r1, q1⟩ => ?_) hs rfl))
 obtain ⟨j, e, q1, q2, q⟩ := q1
 subst e
 cases r1 with
 | cons r rr =>
  cases rr
  obtain ⟨t, rfl⟩ := r
  exact call_range_1 (pb I1 (by omega) (by omega) q1 q2 (by simpa using q))
theorem t5 {a b : Expr} {ta : TA} {p pos : Pos} (hg : Gl X "range") (hm : X.mg "range" = none) (ha : PA X [a, b] ta) (hs : starEach [a, b] X.env = [(false, eval a X.env), (false, eval b X.env)] := by rfl) (hs2 : starEach [b] X.env = [(false, eval b X.env)] := by rfl) :
  PI X tg (.Call (.Name "range" p) [a, b] [] pos) (Es ta) := by
 intro pins s σ H R I h
 refine Call_ (fV I hg hm boot_range (PyProof.Rows.callWith_type1 (thn (ha pos pins s σ H _ I h) fun us s1 ⟨vs, H1, I1, r1, q1⟩ => ?_) (by rw [hs, hs2]) (by rw [hs2]; rfl)))
 obtain ⟨i, j, e, ⟨q1, q2, q3, q4⟩, q⟩ := q1
 subst e
 cases r1 with
 | cons r rr =>
  cases rr with
  | cons r' rr =>
   cases rr
   obtain ⟨t, rfl⟩ := r
   obtain ⟨t', rfl⟩ := r'
   exact call_range_2 (pb I1 q1 q2 q3 q4 q)
def Ar (wi : TI) (g : TG) (tb : TS) : TS := fun D σ H => wi σ H fun J H1 => ∃ W : Nat -> Nat -> St -> Hp -> Prop, (∃ m, W 0 m σ H1) /\ ∀ i m σ H, W i m σ H ->
 (J.stop i H /\ D.nx σ H) \/ (J.go i H /\ ∃ N : St -> Hp -> Prop, (∀ σ' H', N σ' H' -> ∃ m', m' < m /\ W (i + 1) m' σ' H') /\ ∀ x H', J.yld i H x H' -> g x σ H' fun σ2 H2 => tb { D with nx := N, ct := N, bk := D.nx } σ2 H2)
def jI (fp : List Addr) (h : Heap) : List (Addr × Obj) := fp.filterMap fun b => (h.get? b).map fun o => (b, o)
theorem gj {fp : List Addr} {h : Heap} {b : Addr} {o : Obj} (hb : b ∈ fp) (e : h.get? b = some o) : (b, o) ∈ jI fp h := List.mem_filterMap.mpr ⟨b, hb, by rw [e]; rfl⟩
theorem ug {fp : List Addr} {h : Heap} {p : Addr × Obj} (hp : p ∈ jI fp h) : p.1 ∈ fp /\ h.get? p.1 = some p.2 := by
 obtain ⟨b, hb, e⟩ := List.mem_filterMap.mp hp
 cases q : h.get? b with
 | none => rw [q] at e; cases e
 | some o =>
  rw [q] at e
  have e' : (b, o) = p := Option.some.inj e
  subst e'
  exact ⟨hb, q⟩
theorem Inv.pinned {pins : List (Addr × Obj)} {σ : St} {H : Hp} {s : Shared} {fp : List Addr} (I : Inv X pins σ H s) (hf : ∀ b ∈ fp, dO X pins H b) (ho : ∀ b ∈ fp, ∃ o, s.heap.get? b = some o /\ ∀ v, o.data ≠ .cell v) : Inv X (pins ++ jI fp s.heap) σ H s :=
 I.pins_of fun p hp => (List.mem_append.mp hp).elim (fun z => I.pin p (List.mem_append_right _ z)) fun z => by
  obtain ⟨hb, e⟩ := ug z
  obtain ⟨f0, f1, f2, _⟩ := hf p.1 hb
  obtain ⟨o, e', d⟩ := ho p.1 hb
  rw [e] at e'; cases e'
  exact ⟨e, f0, f1, f2, d⟩
theorem Inv.unpinned {pins pl : List (Addr × Obj)} {σ : St} {H : Hp} {s : Shared} (I : Inv X (pins ++ pl) σ H s) : Inv X pins σ H s := I.pins_of fun p hp => I.pin p (List.mem_append_right _ (List.mem_append_left _ hp))
theorem bu {iter : Expr} {body : List Stmt} {wi : TI} {g : TG} {tb : TS} {pos : Pos} (hp : PassesOwn (model X.prog X.w) X.A X.env X.xe) (hc : X.calm = true) (hi : PI X tg iter wi) (hg : PG X tg g) (hb : PSs X body tb)
  (hs : ∀ x, foldedSetIterable iter X.env x = pure x := by intro _; rfl) : PS X (.For tg iter body [] pos) (Ar wi g tb) := by
 intro pins s σ H D I h
 refine wpAny_For (thn (hi pins s σ H _ I h) fun v s1 h1 => thn h1 fun itv s2 h2 => ?_) hs
 obtain ⟨it, fp, tn, J, H2, e, I2, T, st2, f2, W, ⟨m0, w0⟩, turn⟩ := h2
 subst e
 -- what stays true of the iterator's objects through the loop
 have stat : ∀ {H' : Hp}, (∀ b ∈ fp, H' b = none) -> ∀ b ∈ fp, dO X pins H' b := fun hn b hb => ⟨hn b hb, (f2 b hb).2⟩
 refine codeAny_forLoop_any (fun n s' => ∃ i σ' H', Inv X pins σ' H' s' /\ tn i s'.heap /\ (∀ b ∈ fp, H' b = none) /\ W i n σ' H') ?_ m0 ⟨0, σ, H2, I2, st2, fun b hb => (f2 b hb).1, w0⟩
 rintro n s3 ⟨i, σ3, H3, I3, st3, fr3, w3⟩
 rcases turn i n σ3 H3 w3 with ⟨stop, qn⟩ | ⟨go, N, hN, step⟩
 ·refine wpAny_passesOwn hp (thn (T.done X rfl rfl rfl hc i pins s3 σ3 H3 X.xe I3 (stat fr3) st3 stop) fun r s4 ⟨hr, I4⟩ => ?_)
  subst hr
  exact wpAny_execs_nil ⟨σ3, H3, I4, qn⟩
 ·refine wpAny_passesOwn hp (thn (T.item X rfl rfl rfl hc i pins s3 σ3 H3 X.xe I3 (stat fr3) st3 go) fun r s4 ⟨u, hr, h4⟩ => ?_)
  subst hr
  refine wpAny_passesOwn hp (thn h4 fun _ s5 ⟨x, H5, I5, r5, y5, st5, fr5⟩ => ?_)
  have I5' := I5.pinned (stat fr5) (T.obj _ _ st5)
  refine wpAny_passesOwn hp (thn (hg _ s5 σ3 H5 x u _ I5' r5 (step x H5 y5)) fun _ s6 ⟨σ6, H6, I6, q6⟩ => ?_)
  refine wpAny_passesOwn hp (thn (hb _ s6 σ6 H6 _ I6 q6) fun f s7 q7 => ?_)
  have again : ∀ {σ7 : St} {H7 : Hp}, Inv X (pins ++ jI fp s5.heap) σ7 H7 s7 -> N σ7 H7 -> ∃ m, m < n /\ ∃ i σ' H', Inv X pins σ' H' s7 /\ tn i s7.heap /\ (∀ b ∈ fp, H' b = none) /\ W i m σ' H' := fun {σ7 H7} I7 n7 => by
   obtain ⟨m', hm, w7⟩ := hN σ7 H7 n7
   refine ⟨m', hm, i + 1, σ7, H7, I7.unpinned, T.keep _ _ _ st5 fun b hb o e => (I7.pin (b, o) (List.mem_append_right _ (List.mem_append_right _ (gj hb e)))).1, fun b hb => ?_, w7⟩
   obtain ⟨o, e, d⟩ := T.obj _ _ st5 b hb
   exact (I7.pin (b, o) (List.mem_append_right _ (List.mem_append_right _ (gj hb e)))).2.1
  cases f with
  | next => obtain ⟨σ7, H7, I7, n7⟩ := q7; exact again I7 n7
  | cont => obtain ⟨σ7, H7, I7, n7⟩ := q7; exact again I7 n7
  | brk => obtain ⟨σ7, H7, I7, q7⟩ := q7; exact ⟨σ7, H7, I7.unpinned, q7⟩
  | ret v => obtain ⟨x7, σ7, H7, I7, r7, q7⟩ := q7; exact ⟨x7, σ7, H7, I7.unpinned, r7, q7⟩
end
abbrev R2 := V -> V -> Hp -> VK -> Prop
def OpR (X : Cx) (f : Value -> Value -> Sem Value) (r : R2) : Prop :=
 ∀ (pins : List (Addr × Obj)) (s : Shared) (σ : St) (H : Hp) (x y : V) (v u : Value) (Q : VK), Inv X pins σ H s -> aP x v -> aP y u -> r x y H Q ->
  wpAny (model X.prog X.w) X.A (f v u) (EP X pins σ Q) X.xe s
def cQ (X : Cx) (f : Value) (r : List V -> Hp -> VK -> Prop) : Prop :=
 ∀ (pins : List (Addr × Obj)) (s : Shared) (σ : St) (H : Hp) (xs : List V) (us : List Value) (Q : VK), Inv X pins σ H s -> ay xs us -> r xs H Q ->
  wpAny (model X.prog X.w) X.A (call f us) (EP X pins σ Q) X.xe s
def TruR (X : Cx) (r : V -> Hp -> (Bool -> Hp -> Prop) -> Prop) : Prop :=
 ∀ (pins : List (Addr × Obj)) (s : Shared) (σ : St) (H : Hp) (x : V) (v : Value) (Q : Bool -> Hp -> Prop), Inv X pins σ H s -> aP x v -> r x H Q ->
  wpAny (model X.prog X.w) X.A (truthy v) (TP X pins σ Q) X.xe s
def tOp (r : R2) (ta tb : TE) : TE := fun σ H Q => ta σ H fun x H1 => tb σ H1 fun y H2 => r x y H2 Q
def rI (C : Int -> Int -> Prop) (g : Int -> Int -> V) : R2 := fun x y H Q => ∃ i j, x = .int i /\ y = .int j /\ C i j /\ Q (g i j) H
def rI0 (g : Int -> Int -> V) : R2 := fun x y H Q => ∃ i j, x = .int i /\ y = .int j /\ Q (g i j) H
section
variable {X : Cx} {a b c : Expr} {ta tb tc : TE} {pos : Pos}
theorem v6 (ha : PE X a ta) (hb : PE X b tb) {pins : List (Addr × Obj)} {s : Shared} {σ : St} {H : Hp} {R : V -> V -> Hp -> Prop} (I : Inv X pins σ H s)
  (h : ta σ H fun x H1 => tb σ H1 fun y H2 => R x y H2) {Q : Value -> Shared -> Prop} {f : Value -> Value -> Sem Value}
  (hf : ∀ v u s2 x y H2, Inv X pins σ H2 s2 -> aP x v -> aP y u -> R x y H2 -> wpAny (model X.prog X.w) X.A (f v u) Q X.xe s2) :
  wpAny (model X.prog X.w) X.A (eval a X.env) (fun v s₁ => wpAny (model X.prog X.w) X.A (eval b X.env) (fun u s₂ => wpAny (model X.prog X.w) X.A (f v u) Q X.xe s₂) X.xe s₁) X.xe s := by
 refine thn (ha pins s σ H _ I h) fun v s1 ⟨x, H1, I1, r1, q1⟩ => ?_
 refine thn (hb pins s1 σ H1 _ I1 q1) fun u s2 ⟨y, H2, I2, r2, q2⟩ => ?_
 exact hf v u s2 x y H2 I2 r1 r2 q2
theorem c9 {op : Operator} {r : R2} (ho : OpR X (binaryOp op) r) (ha : PE X a ta) (hb : PE X b tb) : PE X (.BinOp a op b pos) (tOp r ta tb) := by
 intro pins s σ H Q I h
 exact wpAny_BinOp (v6 ha hb I h fun v u s2 x y H2 I2 rx ry q => ho pins s2 σ H2 x y v u Q I2 rx ry q)
theorem opI {f : Value -> Value -> Sem Value} {C : Int -> Int -> Prop} {g : Int -> Int -> Int}
  (rule : ∀ (i j : Int) (t u : Tok) (s : Shared) (Q : Value -> Shared -> Prop) (E : Value -> Shared -> Prop), C i j -> Q (.int (g i j) s.toks) { s with toks := s.toks + 1 } -> wpAny (model X.prog X.w) X.A (f (.int i t) (.int j u)) Q E s) :
  OpR X f (rI C fun i j => .int (g i j)) := by
 intro pins s σ H x y v u Q I rx ry h
 obtain ⟨i, j, rfl, rfl, hc, q⟩ := h
 obtain ⟨t, rfl⟩ := rx
 obtain ⟨t', rfl⟩ := ry
 exact rule i j t t' s _ _ hc ⟨.int (g i j), H, I.tok _, ⟨_, rfl⟩, q⟩
theorem A3 {f : Value -> Value -> Sem Value} {g : Int -> Int -> Int}
  (rule : ∀ (i j : Int) (t u : Tok) (s : Shared) (Q : Value -> Shared -> Prop) (E : Value -> Shared -> Prop), Q (.int (g i j) s.toks) { s with toks := s.toks + 1 } -> wpAny (model X.prog X.w) X.A (f (.int i t) (.int j u)) Q E s) :
  OpR X f (rI0 fun i j => .int (g i j)) := by
 intro pins s σ H x y v u Q I rx ry h
 obtain ⟨i, j, rfl, rfl, q⟩ := h
 obtain ⟨t, rfl⟩ := rx
 obtain ⟨t', rfl⟩ := ry
 exact rule i j t t' s _ _ ⟨.int (g i j), H, I.tok _, ⟨_, rfl⟩, q⟩
theorem rq {f : Value -> Value -> Sem Value} {g : Int -> Int -> Bool}
  (rule : ∀ (i j : Int) (t u : Tok) (s : Shared) (Q : Value -> Shared -> Prop) (E : Value -> Shared -> Prop), Q (.bool (g i j)) s -> wpAny (model X.prog X.w) X.A (f (.int i t) (.int j u)) Q E s) :
  OpR X f (rI0 fun i j => .bl (g i j)) := by
 intro pins s σ H x y v u Q I rx ry h
 obtain ⟨i, j, rfl, rfl, q⟩ := h
 obtain ⟨t, rfl⟩ := rx
 obtain ⟨t', rfl⟩ := ry
 exact rule i j t t' s _ _ ⟨.bl (g i j), H, I, rfl, q⟩
def CDiv (i j : Int) : Prop := 0 < j /\ j < 1073741824
def DQ (i j : Int) : Prop := 0 <= j /\ j <= 1000000 /\ i.natAbs < 2 ^ 64
def yj (i j : Int) : Prop := (-(2 ^ 64) < i /\ i < 2 ^ 64) \/ (-(2 ^ 64) < j /\ j < 2 ^ 64)
theorem yj.ok {i j : Int} (h : yj i j) : IntMulOk i j := by
 rcases h with ⟨h1, h2⟩ | ⟨h1, h2⟩
 ·exact .of_left (intBits_le_64 h1 h2)
 ·exact .of_right (intBits_le_64 h1 h2)
theorem lI : OpR X (binaryOp .Add) (rI0 fun i j => .int (i + j)) := A3 fun _ _ _ _ _ _ _ q => add_int q
theorem jK : OpR X (binaryOp .Sub) (rI0 fun i j => .int (i - j)) := A3 fun _ _ _ _ _ _ _ q => sub_int q
theorem A0 : OpR X (binaryOp .Mult) (rI yj fun i j => .int (i * j)) := opI fun _ _ _ _ _ _ _ hc q => mul_int q hc.ok
theorem qD : OpR X (binaryOp .FloorDiv) (rI CDiv fun i j => .int (i / j)) := opI fun i j _ _ _ _ _ hc q => by
 have h1 : (0 : Int) < j := hc.1
 have h2 : j < 1073741824 := hc.2
 exact floordiv_int (by omega) (by rw [Int.fdiv_eq_ediv_of_nonneg i (by omega)]; exact q) (.inl (PyProof.noPylong_small (by omega)))
theorem gE : OpR X (binaryOp .Mod) (rI (fun _ j => 0 < j) fun i j => .int (i % j)) := opI fun i j _ _ _ _ _ hc q => by
 have h1 : (0 : Int) < j := hc
 exact mod_int' (by omega) (by rw [Int.fmod_eq_emod_of_nonneg i (by omega)]; exact q)
theorem pf : OpR X (binaryOp .Pow) (rI DQ fun i j => .int (i ^ j.toNat)) := opI fun _ _ _ _ _ _ _ hc q => pow_int_small hc.1 hc.2.1 hc.2.2 q
end
def uY : V -> V -> Bool
 | .non, .non => true | .non, .int _ => true | .int _, .non => true | .non, .bl _ => true | .bl _, .non => true | .non, .str _ => true | .str _, .non => true
 | .int _, .int _ => true | .bl _, .bl _ => true | .str _, .str _ => true | .byt _, .byt _ => true
 | .int _, .str _ => true | .str _, .int _ => true | .bl _, .str _ => true | .str _, .bl _ => true
 | _, _ => false
def rEq : R2 := fun x y H Q => uY x y = true /\ Q (.bl (decide (x = y))) H
def rNe : R2 := fun x y H Q => uY x y = true /\ Q (.bl (!decide (x = y))) H
theorem qR {i j : Int} : decide (V.int i = V.int j) = (i == j) := by
 rw [Bool.eq_iff_iff]
 simp
theorem dec_bl {i j : Bool} : decide (V.bl i = V.bl j) = (i == j) := by
 rw [Bool.eq_iff_iff]
 simp
theorem qQ {i j : Str} : decide (V.str i = V.str j) = (i == j) := by
 rw [Bool.eq_iff_iff]
 simp
theorem qS {i j : Array UInt8} : decide (V.byt i = V.byt j) = (i.toList == j.toList) := by
 rw [Bool.eq_iff_iff]
 cases i
 cases j
 simp
section
variable {X : Cx} {a b c : Expr} {ta tb tc : TE} {pos : Pos}
theorem fin_bl {pins : List (Addr × Obj)} {σ : St} {H : Hp} {s : Shared} {Q : VK} {k k' : Bool} (I : Inv X pins σ H s) (q : Q (.bl k) H) (e : k = k') : EP X pins σ Q (.bool k') s := by
 subst e
 exact ⟨.bl k, H, I, rfl, q⟩
theorem Ed : OpR X (compareOp .Eq) rEq := by
 intro pins s σ H x y v u Q I rx ry h
 obtain ⟨hs, q⟩ := h
 cases x with
 | non =>
  cases rx
  cases y with
  | non => cases ry; exact PySem.EqNone.eq_none_none (fin_bl I q (by simp))
  | bl j => cases ry; exact PySem.EqNone.eq_none_bool (fin_bl I q (by simp))
  | int j => obtain ⟨t', rfl⟩ := ry; exact PySem.EqNone.eq_none_int (fin_bl I q (by simp))
  | str j => obtain ⟨t', rfl⟩ := ry; exact PySem.EqNone.eq_none_str (fin_bl I q (by simp))
  | _ => exact absurd (show false = true from hs) Bool.false_ne_true
 | bl i =>
  cases rx
  cases y with
  | non => cases ry; exact PySem.EqNone.eq_bool_none (fin_bl I q (by simp))
  | bl j => cases ry; exact eq_bool (fin_bl I q dec_bl)
  | str j => obtain ⟨t', rfl⟩ := ry; exact PySem.EqMixed.eq_bool_str (fin_bl I q (by simp))
  | _ => exact absurd (show false = true from hs) Bool.false_ne_true
 | int i =>
  obtain ⟨t, rfl⟩ := rx
  cases y with
  | non => cases ry; exact PySem.EqNone.eq_int_none (fin_bl I q (by simp))
  | int j => obtain ⟨t', rfl⟩ := ry; exact eq_int (fin_bl I q qR)
  | str j => obtain ⟨t', rfl⟩ := ry; exact PySem.EqMixed.eq_int_str (fin_bl I q (by simp))
  | _ => exact absurd (show false = true from hs) Bool.false_ne_true
 | str i =>
  obtain ⟨t, rfl⟩ := rx
  cases y with
  | non => cases ry; exact PySem.EqNone.eq_str_none (fin_bl I q (by simp))
  | bl j => cases ry; exact PySem.EqMixed.eq_str_bool (fin_bl I q (by simp))
  | int j => obtain ⟨t', rfl⟩ := ry; exact PySem.EqMixed.eq_str_int (fin_bl I q (by simp))
  | str j => obtain ⟨t', rfl⟩ := ry; exact eq_str (fin_bl I q qQ)
  | _ => exact absurd (show false = true from hs) Bool.false_ne_true
 | byt i =>
  obtain ⟨t, rfl⟩ := rx
  cases y with
  | byt j => obtain ⟨t', rfl⟩ := ry; exact PySem.W.eq_bytes (fin_bl I q qS)
  | _ => exact absurd (show false = true from hs) Bool.false_ne_true
 | _ => cases y <;> exact absurd (show false = true from hs) Bool.false_ne_true
theorem Ec : OpR X (compareOp .NotEq) rNe := by
 intro pins s σ H x y v u Q I rx ry h
 obtain ⟨hs, q⟩ := h
 cases x with
 | non =>
  cases rx
  cases y with
  | non => cases ry; exact PySem.EqNone.ne_none_none (fin_bl I q (by simp))
  | bl j => cases ry; exact PySem.EqNone.ne_none_bool (fin_bl I q (by simp))
  | int j => obtain ⟨t', rfl⟩ := ry; exact PySem.EqNone.ne_none_int (fin_bl I q (by simp))
  | str j => obtain ⟨t', rfl⟩ := ry; exact PySem.EqNone.ne_none_str (fin_bl I q (by simp))
  | _ => exact absurd (show false = true from hs) Bool.false_ne_true
 | bl i =>
  cases rx
  cases y with
  | non => cases ry; exact PySem.EqNone.ne_bool_none (fin_bl I q (by simp))
  | bl j => cases ry; exact ne_bool (fin_bl I q (congrArg not dec_bl))
  | str j => obtain ⟨t', rfl⟩ := ry; exact PySem.EqMixed.ne_bool_str (fin_bl I q (by simp))
  | _ => exact absurd (show false = true from hs) Bool.false_ne_true
 | int i =>
  obtain ⟨t, rfl⟩ := rx
  cases y with
  | non => cases ry; exact PySem.EqNone.ne_int_none (fin_bl I q (by simp))
  | int j => obtain ⟨t', rfl⟩ := ry; exact ne_int (fin_bl I q (congrArg not qR))
  | str j => obtain ⟨t', rfl⟩ := ry; exact PySem.EqMixed.ne_int_str (fin_bl I q (by simp))
  | _ => exact absurd (show false = true from hs) Bool.false_ne_true
 | str i =>
  obtain ⟨t, rfl⟩ := rx
  cases y with
  | non => cases ry; exact PySem.EqNone.ne_str_none (fin_bl I q (by simp))
  | bl j => cases ry; exact PySem.EqMixed.ne_str_bool (fin_bl I q (by simp))
  | int j => obtain ⟨t', rfl⟩ := ry; exact PySem.EqMixed.ne_str_int (fin_bl I q (by simp))
  | str j => obtain ⟨t', rfl⟩ := ry; exact ne_str (fin_bl I q (congrArg not qQ))
  | _ => exact absurd (show false = true from hs) Bool.false_ne_true
 | byt i =>
  obtain ⟨t, rfl⟩ := rx
  cases y with
  | byt j => obtain ⟨t', rfl⟩ := ry; exact PySem.W.ne_bytes (fin_bl I q (congrArg not qS))
  | _ => exact absurd (show false = true from hs) Bool.false_ne_true
 | _ => cases y <;> exact absurd (show false = true from hs) Bool.false_ne_true
theorem ox : OpR X (compareOp .Lt) (rI0 fun i j => .bl (decide (i < j))) := rq fun _ _ _ _ _ _ _ q => lt_int q
theorem i0 : OpR X (compareOp .LtE) (rI0 fun i j => .bl (decide (i <= j))) := rq fun _ _ _ _ _ _ _ q => le_int q
theorem i5 : OpR X (compareOp .Gt) (rI0 fun i j => .bl (decide (j < i))) := rq fun _ _ _ _ _ _ _ q => gt_int q
theorem rp : OpR X (compareOp .GtE) (rI0 fun i j => .bl (decide (j <= i))) := rq fun _ _ _ _ _ _ _ q => ge_int q
theorem t8 : OpR X (compareOp .Is) (fun x y H Q => y = .non /\ Q (.bl (decide (x = .non))) H) := by
 intro pins s σ H x y v u Q I rx ry h
 obtain ⟨rfl, q⟩ := h
 cases ry
 refine is_none_gen (fin_bl I q ?_)
 cases x <;> first
  | (cases rx; rfl)
  | (obtain ⟨t, rfl⟩ := rx; rfl)
theorem OpR.or {f : Value -> Value -> Sem Value} {r r' : R2} (h : OpR X f r) (h' : OpR X f r') : OpR X f (fun x y H Q => r x y H Q \/ r' x y H Q) := by
 intro pins s σ H x y v u Q I rx ry q
 rcases q with q | q
 ·exact h pins s σ H x y v u Q I rx ry q
 ·exact h' pins s σ H x y v u Q I rx ry q
theorem pi (b : Expr) {op : CmpOp} (h : op ≠ .In := by decide) (h2 : op ≠ .NotIn := by decide) : behindInMarks op b = false := by
 have e1 : (op == CmpOp.In) = false := by cases op <;> first | rfl | exact absurd rfl h
 have e2 : (op == CmpOp.NotIn) = false := by cases op <;> first | rfl | exact absurd rfl h2
 cases b <;> simp [behindInMarks, e1, e2]
theorem zt {op : CmpOp} {r : R2} (ho : OpR X (compareOp op) r) (ha : PE X a ta) (hb : PE X b tb) (hm : behindInMarks op b = false) : PE X (.Compare a [op] [b] pos) (tOp r ta tb) := by
 intro pins s σ H Q I h
 exact wpAny_Compare1 (v6 ha hb I h fun v u s2 x y H2 I2 rx ry q => ho pins s2 σ H2 x y v u Q I2 rx ry q) hm
def yt (t : TE) : TT := fun σ H Q => t σ H fun x H' => ∃ k, x = .bl k /\ Q k H'
theorem qx {op : CmpOp} {r : R2} (ho : OpR X (compareOp op) r) (ha : PE X a ta) (hb : PE X b tb) (hm : behindInMarks op b = false) : PT X (.Compare a [op] [b] pos) (yt (tOp r ta tb)) := by
 intro pins s σ H Q I h
 refine wpAny_isTrue_Compare1 (thn (ha pins s σ H _ I h) fun v s1 ⟨x, H1, I1, r1, q1⟩ => thn (hb pins s1 σ H1 _ I1 q1) fun u s2 ⟨y, H2, I2, r2, q2⟩ =>
  thn (ho pins s2 σ H2 x y v u _ I2 r1 r2 q2) fun c s3 ⟨z, H3, I3, r3, k, e, q3⟩ => ?_) hm
 subst e
 cases r3
 exact wpAny_truthy_bool ⟨H3, I3, q3⟩
def tE (r r' : R2) (ta tb tc : TE) : TE := fun σ H Q => ta σ H fun x H1 => tb σ H1 fun y H2 => r x y H2 fun z H3 => ∃ k, z = .bl k /\
 (if k = true then tc σ H3 fun w' H4 => r' y w' H4 Q else Q (.bl false) H3)
theorem u6 {op op' : CmpOp} {r r' : R2} (ho : OpR X (compareOp op) r) (ho' : OpR X (compareOp op') r') (ha : PE X a ta) (hb : PE X b tb) (hc : PE X c tc)
  (hm : lastMarks [op, op'] [b, c] = false := by with_unfolding_all rfl) : PT X (.Compare a [op, op'] [b, c] pos) (yt (tE r r' ta tb tc)) := by
 intro pins s σ H Q I h
 refine isTrue_chain (thn (ha pins s σ H _ I h) fun v s1 ⟨x, H1, I1, r1, q1⟩ => test_link (thn (hb pins s1 σ H1 _ I1 q1) fun u s2 ⟨y, H2, I2, r2, q2⟩ =>
  thn (ho pins s2 σ H2 x y v u _ I2 r1 r2 q2) fun d s3 ⟨z, H3, I3, r3, k, e, q3⟩ => ?_)) hm
 subst e
 cases r3
 refine wpAny_truthy_bool ?_
 cases k with
 | false =>
  obtain ⟨k', e', q'⟩ := q3
  cases e'
  exact ite_ff ⟨H3, I3, q'⟩
 | true =>
  refine ite_tt (test_last (thn (hc pins s3 σ H3 _ I3 q3) fun w' s4 ⟨z', H4, I4, r4, q4⟩ => thn (ho' pins s4 σ H4 y z' u w' _ I4 r2 r4 q4) fun d' s5 ⟨z2, H5, I5, r5, k2, e2, q5⟩ => ?_))
  subst e2
  cases r5
  exact wpAny_truthy_bool ⟨H5, I5, q5⟩
def yg (K : PySem.W.Frag) (x : V) (H : Hp) (k : Bool) : Prop :=
 match x with
 | .non => k = false
 | .bl b => k = b
 | .int i => k = (i != 0)
 | .str y => y.length <= sizeLine /\ k = ((y.length : Int) != 0)
 | .byt y => y.size <= sizeLine /\ k = ((y.size : Int) != 0)
 | .ref p => (∃ xs, SqL K H p xs /\ k = !xs.isEmpty) \/ (∃ xs, SqT K H p xs /\ k = !xs.isEmpty) \/ ∃ kvs, H p = some (.dK kvs) /\ k = !kvs.isEmpty
 | _ => False
theorem rM {κ : Type} {kvs : List (κ × V)} {vs : List (κ × Value)} (r : KV kvs vs) : (!vs.isEmpty) = !kvs.isEmpty := by
 cases r <;> rfl
theorem lU {xs : List V} {its : List Value} (r : ay xs its) : (!its.toArray.isEmpty) = !xs.isEmpty := by
 cases r <;> simp
theorem jP : (sizeLine : Nat) < 2 ^ 63 := by rw [sizeLine_eq]; decide
theorem Ai : TruR X (fun x H Q => ∃ k, yg X.K x H k /\ Q k H) := by
 intro pins s σ H x v Q I rx h
 obtain ⟨k, e, q⟩ := h
 have hl := jP
 have hs : sizeLine = 16777216 := sizeLine_eq
 cases x with
 | non =>
  cases rx
  have e' : k = false := e
  subst e'
  exact truthy_none ⟨H, I, q⟩
 | bl b =>
  cases rx
  have e' : k = b := e
  subst e'
  exact wpAny_truthy_bool ⟨H, I, q⟩
 | int i =>
  obtain ⟨t, rfl⟩ := rx
  have e' : k = (i != 0) := e
  subst e'
  exact PySem.P.truthy_int ⟨H, I, q⟩
 | str y =>
  obtain ⟨t, rfl⟩ := rx
  obtain ⟨hy, e'⟩ : y.length <= sizeLine /\ k = ((y.length : Int) != 0) := e
  subst e'
  exact PySem.P.truthy_str (by omega) ⟨H, I.tok _, q⟩
 | byt y =>
  obtain ⟨t, rfl⟩ := rx
  obtain ⟨hy, e'⟩ : y.size <= sizeLine /\ k = ((y.size : Int) != 0) := e
  subst e'
  exact PySem.W.truthy_bytes (by omega) ⟨H, I.tok _, q⟩
 | ref p =>
  cases rx
  have e' : (∃ xs, SqL X.K H p xs /\ k = !xs.isEmpty) \/ (∃ xs, SqT X.K H p xs /\ k = !xs.isEmpty) \/ ∃ kvs, H p = some (.dK kvs) /\ k = !kvs.isEmpty := e
  rcases e' with ⟨xs, hx, e'⟩ | ⟨xs, hx, e'⟩ | ⟨kvs, hx, e'⟩
  ·subst e'
   obtain ⟨its, r, pl, hz⟩ := I.list hx
   have hlen := r.length
   exact wpAny_truthy_list pl.isList (by simp only [List.size_toArray]; omega) ⟨H, I.tok _, by rw [lU r]; exact q⟩
  ·subst e'
   obtain ⟨its, r, pl, hz⟩ := I.tuple hx
   have hlen := r.length
   exact truthy_tuple pl (by simp only [List.size_toArray]; omega) ⟨H, I.tok _, by rw [lU r]; exact q⟩
  ·subst e'
   obtain ⟨hz, hS, vs, r, m⟩ : kvs.length <= sizeLine /\ (p == sysModules) = false /\ ∃ vs, KV kvs vs /\ s.heap.DictOf (mI X.prog X.w) p vs := I.hok p _ hx
   have hlen : kvs.length = vs.length := Paired.length r
   exact wpAny_truthy_dict hS m (by omega) ⟨H, I.tok _, by rw [rM r]; exact q⟩
 | _ => exact (show False from e).elim
theorem u5 (ha : PE X a ta) (he : ∀ whole, isTrue a X.env whole = (do let v ← whole; standAt a.pos; holding [v] (truthy v))) :
  PT X a (fun σ H Q => ta σ H fun x H' => ∃ k, yg X.K x H' k /\ Q k H') := by
 intro pins s σ H Q I h
 exact isTrue_plain (thn (ha pins s σ H _ I h) fun v s1 ⟨x, H1, I1, r1, q1⟩ => Ai pins s1 σ H1 x v Q I1 r1 q1) (he _)
theorem iP {x : V} {us : List Value} (r : ay [x] us) : ∃ u, us = [u] /\ aP x u := by
 cases r with
 | cons r1 r2 => cases r2; exact ⟨_, rfl, r1⟩
theorem DW {x y : V} {us : List Value} (r : ay [x, y] us) : ∃ u w', us = [u, w'] /\ aP x u /\ aP y w' := by
 cases r with
 | cons r1 r2 =>
  cases r2 with
  | cons r3 r4 => cases r4; exact ⟨_, _, rfl, r1, r3⟩
theorem kR : cQ X (.builtin "abs") (fun xs H Q => ∃ i, xs = [.int i] /\ Q (.int (if i < 0 then -i else i)) H) := by
 intro pins s σ H xs us Q I r h
 obtain ⟨i, rfl, q⟩ := h
 obtain ⟨u, rfl, t, rfl⟩ := iP r
 exact call_abs_int fun u tk => ⟨.int (if i < 0 then -i else i), H, I.tok _, ⟨_, rfl⟩, q⟩
theorem uK (hc : X.calm = true) : cQ X (.builtin "min") (fun xs H Q => ∃ i j, xs = [.int i, .int j] /\ Q (.int (if j < i then j else i)) H) := by
 intro pins s σ H xs us Q I r h
 obtain ⟨i, j, rfl, q⟩ := h
 obtain ⟨u, w', rfl, ⟨t, rfl⟩, ⟨t', rfl⟩⟩ := DW r
 refine min_two_ints (I.ok.hd hc) fun h' tk k => ⟨_, H, I.kept k, ?_, q⟩
 by_cases hj : j < i
 ·rw [if_pos hj, if_pos hj]; exact ⟨_, rfl⟩
 ·rw [if_neg hj, if_neg hj]; exact ⟨_, rfl⟩
theorem uL : cQ X (.type "int") (fun xs H Q => (∃ i, xs = [.int i] /\ Q (.int i) H) \/ ∃ k, xs = [.bl k] /\ Q (.int (if k then 1 else 0)) H) := by
 intro pins s σ H xs us Q I r h
 rcases h with ⟨i, rfl, q⟩ | ⟨k, rfl, q⟩
 ·obtain ⟨u, rfl, t, rfl⟩ := iP r
  exact call_int_int ⟨.int i, H, I, ⟨_, rfl⟩, q⟩
 ·obtain ⟨u, rfl, r1⟩ := iP r
  cases r1
  exact call_int_bool ⟨.int (if k then 1 else 0), H, I.tok _, ⟨_, rfl⟩, q⟩
end
structure ObjM (h : Heap) (x dx C : Addr) (mA : Str -> Option Value) : Prop where
 obj : h.get? x = some (PySem.W.instObj C dx)
 ns : h.Ns1 dx mA
 ne : dx ≠ x
theorem ui {h : Heap} {dx : Addr} {mA : Str -> Option Value} (n : h.Ns1 dx mA) : ∃ od, h.get? dx = some od /\ ∀ name, PySem.W.lookIn name od = some (mA name) := by
 obtain ⟨o, es, ep, ho, hd, hk, _, hm⟩ := n
 refine ⟨o, ho, fun name => ?_⟩
 have e := hm name
 unfold nsFind findBy at e
 rw [← Array.find?_toList] at e
 unfold PySem.W.lookIn
 rw [hd]
 dsimp only
 split
 ·rename_i y q
  rw [q] at e
  exact congrArg some e
 ·rename_i q
  rw [q] at e
  have a : es.toList.any (·.refKey) = false := by
   rw [List.any_eq_false]
   intro y hy
   obtain ⟨z, t, hkey⟩ := hk y (Array.mem_toList_iff.mp hy)
   simp [DictEntry.refKey, hkey]
  have a' : ¬ es.toList.any (·.refKey) = true := by rw [a]; exact Bool.false_ne_true
  rw [if_neg a']
  exact congrArg some e
theorem ObjM.look {h : Heap} {x dx C : Addr} {mA : Str -> Option Value} (I : ObjM h x dx C mA) : ∃ od, PySem.W.InstAt h x (PySem.W.instObj C dx) C (some od) /\ ∀ name, PySem.W.lookIn name od = some (mA name) :=
 let ⟨od, ho, hl⟩ := ui I.ns
 ⟨od, ⟨I.obj, rfl, rfl, ho⟩, hl⟩
section
variable {prog : Program} {w : World} {A : Around} {E : Value -> Shared -> Prop} {s : Shared} {K : PySem.W.Frag} {x dx C f : Addr} {mA : Str -> Option Value} {name : Str} {v : Value}
theorem zV {expr : Bool} {Q : Value -> Shared -> Prop} (X : K.In s.heap) (I : ObjM s.heap x dx C mA) (hg : PySem.W.plainGet K C name = true) (hh : PySem.W.hasDictIn K C = true)
  (ha : PySem.W.findIn K (.ref C) name = some none) (hv : mA name = some v) (hv' : PySem.W.handedIn v = true) (h : Q v { s with toks := s.toks + 1 }) :
  wpAny (model prog w) A (getAttr (.ref x) name expr) Q E s := by
 obtain ⟨od, J, hl⟩ := I.look
 exact PySem.W.get_value X J (PySem.W.plainGet_of hg).1 (PySem.W.findObj_own hh ha rfl (by rw [hl, hv])) hv' h
theorem vP {pl : Sem Bool} {Q : Value × List Value -> Shared -> Prop} (X : K.In s.heap) (I : ObjM s.heap x dx C mA) (hg : PySem.W.plainGet K C name = true)
  (hf : PySem.W.findIn K (.ref C) name = some (some (.ref f))) (ht : PySem.W.isFn K (.ref f) = true) (hv : mA name = none) (h : Q (.ref f, [.ref x]) s) :
  wpAny (model prog w) A (getMethod (.ref x) name pl) Q E s := by
 obtain ⟨od, J, hl⟩ := I.look
 exact PySem.W.method_fn X J (PySem.W.plainGet_of hg).1 (PySem.W.plainGet_of hg).2 hf (beq_iff_eq.mp ht) (by show (PySem.W.lookIn name od).map (·.isSome) = some false; rw [hl, hv]; rfl) h
theorem ze {ns : List Str} {Q : Unit -> Shared -> Prop} (X : K.In s.heap) (I : ObjM s.heap x dx C mA)
  (hs : PySem.W.findIn K (.ref C) "__setattr__" = some (some (.builtin "object.__setattr__"))) (hp : PySem.W.plainOver K C = true) (ht : PySem.W.takerIn K C name = some none) (hh : PySem.W.hasDictIn K C = true)
  (hw : PySem.Within mA ns) (hsz : ns.length <= sizeLine)
  (h : ∀ h', ObjM h' x dx C (fun y => if y = name then some v else mA y) -> Heap.SameBut dx s.heap h' -> Q () { s with heap := h', toks := s.toks + 2 }) :
  wpAny (model prog w) A (setAttr (.ref x) name v) Q E s := by
 obtain ⟨od, J, hl⟩ := I.look
 refine PySem.W.set_plain X J hs (PySem.W.osa_open (s := { s with toks := s.toks + 1 }) (r := none) X J hp ht fun b => ?_)
 obtain ⟨cd, hc, hd'⟩ := PySem.W.any_some hh
 have hx : s.heap.get? x = some ⟨.ref C, some dx, .plain, #[]⟩ := I.obj
 refine wpAny_bind (wpAny_pure (wpAny_bind (wpAny_bind (wpAny_loadPart hx (wpAny_bind (PySem.W.Looks.here (s := { s with toks := s.toks + 1 }) (PySem.W.looks_clsIn X hc) ?_))))))
 rw [hd']
 refine wpAny_pure (a := some dx) (wpAny_bind (wpAny_pure (wpAny_bind ?_)))
 refine wpAny_nsSet1 (s := { s with toks := s.toks + 1 }) I.ns fun h' hn2 hs2 => ?_
 obtain ⟨oD, esD, epD, hoD, hdD, hcD⟩ := hn2.count (PySem.Within.cons name v hw)
 refine wpAny_bind (wpAny_lookBehind hoD (by rw [hdD]; exact pastItsLine_dict (Nat.le_trans hcD (by rw [List.length_cons]; omega))) ?_)
 exact wpAny_pure (h _ ⟨(hs2.2 _ (Ne.symm I.ne)).trans I.obj, hn2, I.ne⟩ hs2)
theorem vA {R : Result -> Shared -> Prop} {vs : List Value} {kw : List (Str × Value)} (X : K.In s.heap) (hm : PySem.W.makesIn K C = true)
  (hi : PySem.W.findIn K (.ref C) "__init__" = some (some (.ref f))) (hf : PySem.W.typeIn K (.ref f) = some (.type "function"))
  (h : codeAny (model prog w) (A.under (.builtin "type.__call__" ⟨.ref C :: vs, kw⟩)) (.call (.ref f) ⟨.ref (s.heap.objs.size + 1) :: vs, kw⟩) (PySem.W.InitBack (s.heap.objs.size + 1) R)
   { s with heap := (s.heap.push PySem.W.emptyDict).push (PySem.W.instObj C s.heap.objs.size) }) :
  codeAny (model prog w) A (.call (.ref C) ⟨vs, kw⟩) R s := by
 obtain ⟨hh, g, d, t, os⟩ := s
 exact PySem.W.make_core (PySem.W.makes_of X hm) (PySem.W.looks_findIn X hi) (fun self => PySem.W.bind_fn X self hf) (.inl rfl) h
end
def cU (f : Str) (v : V) : List (Str × V) -> List (Str × V)
 | [] => [(f, v)]
 | (g, x) :: r => if g = f then (g, v) :: r else (g, x) :: cU f v r
theorem kA (f g : Str) (v : V) : ∀ fs : List (Str × V), (cU f v fs).lookup g = if g = f then some v else fs.lookup g
 | [] => by
  show List.lookup g [(f, v)] = _
  by_cases h : g = f
  ·have hb : (g == f) = true := beq_iff_eq.mpr h
   simp only [List.lookup, hb, if_pos h]
  ·have hb : (g == f) = false := beq_eq_false_iff_ne.mpr h
   simp only [List.lookup, hb, if_neg h]
 | (k, x) :: r => by
  have ih := kA f g v r
  rw [show cU f v ((k, x) :: r) = (if k = f then (k, v) :: r else (k, x) :: cU f v r) from rfl]
  by_cases hk : k = f
  ·rw [if_pos hk]
   by_cases h : g = k
   ·have hb : (g == k) = true := beq_iff_eq.mpr h
    simp only [List.lookup, hb, if_pos (h.trans hk)]
   ·have hb : (g == k) = false := beq_eq_false_iff_ne.mpr h
    simp only [List.lookup, hb, if_neg (fun e : g = f => h (e.trans hk.symm))]
  ·rw [if_neg hk]
   by_cases h : g = k
   ·have hb : (g == k) = true := beq_iff_eq.mpr h
    simp only [List.lookup, hb, if_neg (fun e : g = f => hk (h.symm.trans e))]
   ·have hb : (g == k) = false := beq_eq_false_iff_ne.mpr h
    simp only [List.lookup, hb]
    exact ih
theorem jR (f : Str) (v : V) : ∀ fs : List (Str × V), f ∈ (cU f v fs).map (·.1) /\ ∀ g, g ∈ fs.map (·.1) -> g ∈ (cU f v fs).map (·.1)
 | [] => ⟨by simp [cU], fun g h => by simp at h⟩
 | (k, x) :: r => by
  obtain ⟨i1, i2⟩ := jR f v r
  rw [show cU f v ((k, x) :: r) = (if k = f then (k, v) :: r else (k, x) :: cU f v r) from rfl]
  by_cases hk : k = f
  ·rw [if_pos hk]
   subst hk
   exact ⟨by simp, fun g h => by simpa using h⟩
  ·rw [if_neg hk]
   refine ⟨?_, fun g h => ?_⟩
   ·rw [List.map_cons]
    exact List.mem_cons_of_mem _ i1
   ·rw [List.map_cons] at h ⊢
    rcases List.mem_cons.mp h with e | e
    ·exact List.mem_cons.mpr (.inl e)
    ·exact List.mem_cons_of_mem _ (i2 g e)
theorem kB (f : Str) (v : V) : ∀ fs : List (Str × V), (cU f v fs).length <= fs.length + 1
 | [] => by simp [cU]
 | (k, x) :: r => by
  have ih := kB f v r
  rw [show cU f v ((k, x) :: r) = (if k = f then (k, v) :: r else (k, x) :: cU f v r) from rfl]
  by_cases hk : k = f
  ·rw [if_pos hk, List.length_cons, List.length_cons]; omega
  ·rw [if_neg hk, List.length_cons, List.length_cons]; omega
theorem ii.some_of {v : V} {o : Option Value} (r : ii (some v) o) : ∃ u, o = some u /\ aP v u := by
 cases o with
 | none => exact (show False from r).elim
 | some u => exact ⟨u, rfl, r⟩
theorem ii.none_of {o : Option Value} (r : ii none o) : o = none := by
 cases o with
 | none => rfl
 | some u => exact (show False from r).elim
theorem uv {v : V} {u : Value} (r : aP v u) : PySem.W.handedIn u = true := by
 cases v with
 | non => cases (show u = Value.none from r); rfl
 | bl b => cases (show u = Value.bool b from r); rfl
 | int i => obtain ⟨t, e⟩ := (show ∃ t, u = Value.int i t from r); cases e; rfl
 | str x => obtain ⟨t, e⟩ := (show ∃ t, u = Value.str x t from r); cases e; rfl
 | byt b => obtain ⟨t, e⟩ := (show ∃ t, u = Value.bytes b t from r); cases e; rfl
 | flt b => obtain ⟨t, e⟩ := (show ∃ t, u = Value.float b t from r); cases e; rfl
 | ref a => cases (show u = Value.ref a from r); rfl
 | ty n => cases (show u = Value.type n from r); rfl
section
variable {P : Program} {w : World} {H H' : Hp} {h h' : Heap} {a C dx : Addr} {fs fs' : List (Str × V)}
theorem iB (hok : HOk P w H h) (e : H a = some (.ins C dx fs)) : ∃ mA, ObjM h a dx C mA /\ (∀ f, ii (fs.lookup f) (mA f)) /\ PySem.Within mA (fs.map (·.1)) /\ fs.length <= 1000 /\ H dx = some (.own a) := by
 obtain ⟨d, z, ne, ob, mA, n, r, q⟩ := (show bo P w H h a (.ins C dx fs) from hok a _ e)
 exact ⟨mA, ⟨ob, n, ne⟩, r, q, z, d⟩
end
structure Cls (K : PySem.W.Frag) (C : Addr) : Prop where
 pg : PySem.W.plainGet K C Str.empty = true
 hd : PySem.W.hasDictIn K C = true
 po : PySem.W.plainOver K C = true
 sa : PySem.W.findIn K (.ref C) "__setattr__" = some (some (.builtin "object.__setattr__"))
theorem Cls.get {K : PySem.W.Frag} {C : Addr} (c : Cls K C) (f : Str) : PySem.W.plainGet K C f = true := c.pg
def cY (K : PySem.W.Frag) (C : Addr) (f : Str) : Prop := PySem.W.findIn K (.ref C) f = some none
theorem cY.taker {K : PySem.W.Frag} {C : Addr} {f : Str} (n : cY K C f) : PySem.W.takerIn K C f = some none := by
 unfold PySem.W.takerIn
 rw [show PySem.W.findIn K (.ref C) f = some none from n]
 rfl
structure Meth (K : PySem.W.Frag) (C : Addr) (m : Str) (f : Addr) : Prop where
 at_ : PySem.W.findIn K (.ref C) m = some (some (.ref f))
 fn : PySem.W.isFn K (.ref f) = true
 kp : PySem.W.keepIn K (.ref f) = true
section
variable {X : Cx} {pins : List (Addr × Obj)} {σ : St} {H : Hp} {s : Shared} {a C dx : Addr} {fs : List (Str × V)} {f : Str} {v : V} {A : Around} {E : Value -> Shared -> Prop}
theorem rQ {b : Bool} {Q : Value -> Shared -> Prop} (I : Inv X pins σ H s) (e : H a = some (.ins C dx fs)) (c : Cls X.K C) (n : cY X.K C f) (l : fs.lookup f = some v)
  (h : ∀ u s', Inv X pins σ H s' -> aP v u -> Q u s') : wpAny (model X.prog X.w) A (getAttr (.ref a) f b) Q E s := by
 obtain ⟨mA, O, r, _, _, _⟩ := iB I.hok e
 obtain ⟨u, hu, ru⟩ := ii.some_of (v := v) (o := mA f) (by rw [← l]; exact r f)
 exact zV I.kIn O (c.get f) c.hd n hu (uv ru) (h u _ (I.tok _) ru)
theorem lZ {m : Str} {g : Addr} {pl : Sem Bool} {Q : Value × List Value -> Shared -> Prop} (I : Inv X pins σ H s) (e : H a = some (.ins C dx fs)) (c : Cls X.K C) (k : Meth X.K C m g) (l : fs.lookup m = none)
  (h : Q (.ref g, [.ref a]) s) : wpAny (model X.prog X.w) A (getMethod (.ref a) m pl) Q E s := by
 obtain ⟨mA, O, r, _, _, _⟩ := iB I.hok e
 have hn : mA m = none := ii.none_of (by rw [← l]; exact r m)
 exact vP I.kIn O (c.get m) k.at_ k.fn hn h
theorem re {y : V} {u : Value} {Q : Unit -> Shared -> Prop} (I : Inv X pins σ H s) (e : H a = some (.ins C dx fs)) (c : Cls X.K C) (n : cY X.K C f) (hl : fs.length < 1000) (ry : aP y u)
  (h : ∀ s', Inv X pins σ (upd H a (.ins C dx (cU f y fs))) s' -> Q () s') : wpAny (model X.prog X.w) A (setAttr (.ref a) f u) Q E s := by
 obtain ⟨mA, O, r, wi, _, ho⟩ := iB I.hok e
 have hz : (fs.map (·.1)).length <= sizeLine := by rw [List.length_map, sizeLine_eq]; omega
 refine ze I.kIn O c.sa c.po n.taker c.hd wi hz fun h' O' sb => h _ ?_
 have hd : ∃ o, h'.get? dx = some o := let ⟨o, _, _, e', _⟩ := O'.ns; ⟨o, e'⟩
 refine I.write (x := a) (e := dx) (by rw [e]; exact True.intro) (.inr ho) (fun b q hb z => (sb.2 b hb).trans z) hd ?_
 refine ⟨by rw [upd_ne O.ne]; exact ho, ?_, O.ne, O'.obj, _, O'.ns, fun g => ?_, fun g hg => ?_⟩
 ·have := kB f y fs; omega
 ·show ii ((cU f y fs).lookup g) (if g = f then some u else mA g)
  rw [kA]
  by_cases q : g = f
  ·rw [if_pos q, if_pos q]; exact ry
  ·rw [if_neg q, if_neg q]; exact r g
 ·by_cases q : g = f
  ·rw [q]; exact (jR f y fs).1
  ·refine (jR f y fs).2 g (wi g fun z => hg ?_)
   show (if g = f then some u else mA g) = none
   rw [if_neg q]; exact z
theorem Inv.made (I : Inv X pins σ H s) : Inv X pins σ (upd (upd H s.heap.objs.size (.own (s.heap.objs.size + 1))) (s.heap.objs.size + 1) (.ins C s.heap.objs.size []))
  { s with heap := (s.heap.push PySem.W.emptyDict).push (PySem.W.instObj C s.heap.objs.size) } := by
 have e1 : (s.heap.push PySem.W.emptyDict).get? s.heap.objs.size = some PySem.W.emptyDict := Heap.get?_push_size s.heap rfl
 have e2 : ((s.heap.push PySem.W.emptyDict).push (PySem.W.instObj C s.heap.objs.size)).get? (s.heap.objs.size + 1) = some (PySem.W.instObj C s.heap.objs.size) := by
  have := Heap.get?_push_size (s.heap.push PySem.W.emptyDict) (o := PySem.W.instObj C s.heap.objs.size) rfl
  rwa [Heap.size_push] at this
 have e3 : (s.heap.push PySem.W.emptyDict).Ns s.heap.objs.size (fun _ => none) := ⟨PySem.W.emptyDict, #[], _, e1, rfl, (fun e he => absurd he (by simp)), fun _ => rfl⟩
 have I1 := I.laid (a := s.heap.objs.size) (o := .own (s.heap.objs.size + 1)) (h' := s.heap.push PySem.W.emptyDict) (t' := s.toks) (fun b u q => Heap.get?_push_of_some _ q) (Nat.le_refl _) ⟨_, e1⟩
 refine I1.laid (a := s.heap.objs.size + 1) (o := .ins C s.heap.objs.size []) (t' := s.toks) (fun b u q => Heap.get?_push_of_some _ q) (Nat.le_of_eq (Heap.size_push _ _)) ?_
 have ne : s.heap.objs.size ≠ s.heap.objs.size + 1 := Nat.ne_of_lt (Nat.lt_succ_self _)
 refine ⟨by rw [upd_ne ne, aw], Nat.zero_le _, ne, e2, fun _ => none, (Heap.Ns1.of_empty e3).at fun o q => Heap.get?_push_of_some _ q, fun _ => True.intro, fun y hy => absurd rfl hy⟩
theorem Ab {prog : Program} {w : World} {env : Env} {e : Expr} {f : Str} {pos : Pos} {s : Shared} {Q : Value -> Shared -> Prop} (hb : attributeBase e f env (eval e env) = eval e env)
  (h : wpAny (model prog w) A (eval e env) (fun o s₁ => wpAny (model prog w) A (getAttr o f true) Q E s₁) E s) : wpAny (model prog w) A (eval (.Attribute e f pos) env) Q E s :=
 Attribute_any_ h (by rw [arm_eval_Attribute, hb])
end
def tFld (K : PySem.W.Frag) (ta : TE) (f : Str) : TE := fun σ H Q => ta σ H fun x H1 => ∃ a C dx fs v, x = .ref a /\ H1 a = some (.ins C dx fs) /\ Cls K C /\ cY K C f /\ fs.lookup f = some v /\ Q v H1
def AD (K : PySem.W.Frag) (ta tv : TE) (f : Str) : TS := fun D σ H => tv σ H fun y H1 => ta σ H1 fun x H2 => ∃ a C dx fs, x = .ref a /\ H2 a = some (.ins C dx fs) /\ Cls K C /\ cY K C f /\ fs.length < 1000 /\
 D.nx σ (upd H2 a (.ins C dx (cU f y fs)))
section
variable {X : Cx} {o e value : Expr} {f : Str} {pos pos' tpos : Pos} {ta tv : TE}
theorem AW (he : PE X e ta) (hb : attributeBase e f X.env (eval e X.env) = eval e X.env) : PE X (.Attribute e f pos) (tFld X.K ta f) := by
 intro pins s σ H Q I h
 refine Ab hb (thn (he pins s σ H _ I h) fun u s1 ⟨x, H1, I1, rx, a, C, dx, fs, v, ex, ea, c, n, l, q⟩ => ?_)
 subst ex
 obtain rfl : u = Value.ref a := rx
 exact rQ I1 ea c n l fun u' s2 I2 ru => ⟨v, H1, I2, ru, q⟩
theorem jH (ha : PE X o ta) (hv : PE X value tv) (hs : swapsWith value (some (.Attribute o f pos')) pos.line X.env = pure false) : PS X (.Assign [.Attribute o f pos'] value pos) (AD X.K ta tv f) := by
 intro pins s σ H D I h
 refine plainObj_wpAny_Assign_Attribute (thn (hv pins s σ H _ I h) fun u s1 ⟨y, H1, I1, ry, q⟩ => thn (ha pins s1 σ H1 _ I1 q) fun ov s2 ⟨x, H2, I2, rx, a, C, dx, fs, ex, ea, c, n, l, q2⟩ => ?_) hs
 subst ex
 obtain rfl : ov = Value.ref a := rx
 exact re I2 ea c n l ry fun s3 I3 => ⟨σ, _, I3, q2⟩
end
section
variable {X : Cx} {pins : List (Addr × Obj)} {σ : St} {H : Hp} {s : Shared} {A : Around} {E : Value -> Shared -> Prop} {Q : Value -> Shared -> Prop} {c : Value} {b : Bool}
inductive TyOf (K : PySem.W.Frag) (H : Hp) : V -> Value -> Prop where
 | non : TyOf K H .non (.type "NoneType")
 | bl (x : Bool) : TyOf K H (.bl x) (.type "bool")
 | int (i : Int) : TyOf K H (.int i) (.type "int")
 | str (x : Str) : TyOf K H (.str x) (.type "str")
 | flt (x : UInt64) : TyOf K H (.flt x) (.type "float")
 | lst {a : Addr} {xs : List V} (e : H a = some (.lst xs)) : TyOf K H (.ref a) (.type "list")
 | frz {a : Addr} {o : Obj} {xs : List V} (e : H a = some (.frz o (.lst xs))) : TyOf K H (.ref a) (.type "list")
 | tup {a : Addr} {xs : List V} (e : H a = some (.tup xs)) : TyOf K H (.ref a) (.type "tuple")
 | dK {a : Addr} {kvs : List (Key × V)} (e : H a = some (.dK kvs)) : TyOf K H (.ref a) (.type "dict")
 | dT {a : Addr} {kvs : List (List Key × V)} (e : H a = some (.dT kvs)) : TyOf K H (.ref a) (.type "dict")
 | ins {a C dx : Addr} {fs : List (Str × V)} (e : H a = some (.ins C dx fs)) (cl : Cls K C) (ha : PySem.W.findIn K (.ref C) "__class__" = some (some (.builtin "object.__class__")))
   (hn : PySem.W.specialIn K (.builtin "object.__class__") "__get__" = some (some (.builtin "getset_descriptor.__get__"))) (htk : PySem.W.takesIn K (.builtin "object.__class__") = some true)
   (hm : PySem.W.mroIn K C (.type "object") = some true) : TyOf K H (.ref a) (.ref C)
theorem uq {x : V} {u t : Value} (I : Inv X pins σ H s) (rx : aP x u) (ty : TyOf X.K H x t) (e : PySem.W.kitOne X.K t c = some b) (h : ∀ tk, Q (.bool b) { s with toks := tk }) :
  wpAny (model X.prog X.w) A (call (.builtin "isinstance") [u, c]) Q E s := by
 cases ty with
 | non => cases (show u = Value.none from rx); exact PySem.W.kia_one PySem.W.kitx_none I.kIn True.intro e (fun z => nomatch z) h
 | bl y => cases (show u = Value.bool y from rx); exact PySem.W.kia_one PySem.W.kitx_bool I.kIn True.intro e (fun z => nomatch z) h
 | int i => obtain ⟨t, q⟩ := (show ∃ t, u = Value.int i t from rx); cases q; exact PySem.W.kia_one PySem.W.kitx_int I.kIn True.intro e (fun z => nomatch z) h
 | str y => obtain ⟨t, q⟩ := (show ∃ t, u = Value.str y t from rx); cases q; exact PySem.W.kia_one PySem.W.kitx_str I.kIn True.intro e (fun z => nomatch z) h
 | flt y => obtain ⟨t, q⟩ := (show ∃ t, u = Value.float y t from rx); cases q; exact PySem.W.kia_one PySem.W.kitx_float I.kIn True.intro e (fun z => nomatch z) h
 | @lst a xs ea =>
  cases (show u = Value.ref a from rx)
  obtain ⟨_, _, n, _, h1⟩ := (show bo X.prog X.w H s.heap a (.lst xs) from I.hok a _ ea)
  exact PySem.W.kia_one PySem.W.kitx_list I.kIn ⟨_, h1, rfl⟩ e (fun z => nomatch z) h
 | @frz a ob xs ea =>
  cases (show u = Value.ref a from rx)
  obtain ⟨_, _, _, n, _, h1⟩ := (show bo X.prog X.w H s.heap a (.frz ob (.lst xs)) from I.hok a _ ea)
  exact PySem.W.kia_one PySem.W.kitx_list I.kIn ⟨_, h1, rfl⟩ e (fun z => nomatch z) h
 | @tup a xs ea =>
  cases (show u = Value.ref a from rx)
  obtain ⟨_, _, _, p⟩ := (show bo X.prog X.w H s.heap a (.tup xs) from I.hok a _ ea)
  obtain ⟨o, h1, h2, _⟩ := p
  exact PySem.W.kia_one PySem.W.kitx_tuple I.kIn ⟨o, h1, h2⟩ e (fun z => nomatch z) h
 | @dK a kvs ea =>
  cases (show u = Value.ref a from rx)
  obtain ⟨_, _, vs, _, p⟩ := (show bo X.prog X.w H s.heap a (.dK kvs) from I.hok a _ ea)
  obtain ⟨o, es, ep, h1, h2, _⟩ := p
  exact PySem.W.kia_one PySem.W.kitx_dict I.kIn ⟨o, h1, h2.1⟩ e (fun z => nomatch z) h
 | @dT a kvs ea =>
  cases (show u = Value.ref a from rx)
  obtain ⟨_, _, xs, _, o, es, ep, h1, h2, _⟩ := (show bo X.prog X.w H s.heap a (.dT kvs) from I.hok a _ ea)
  exact PySem.W.kia_one PySem.W.kitx_dict I.kIn ⟨o, h1, h2.1⟩ e (fun z => nomatch z) h
 | @ins a C dx fs ea cl ha hn htk hm =>
  cases (show u = Value.ref a from rx)
  obtain ⟨mA, O, _⟩ := iB I.hok ea
  obtain ⟨od, J, _⟩ := O.look
  exact PySem.W.kia_one (PySem.W.kitx_own (cl.get _) cl.hd ha hn htk hm) I.kIn J e (fun z => nomatch z) h
end
structure Room (k : Nat) (A : Around) : Prop where
 hd : A.handled = none
 dp : A.depth + 3 * k + 5 < recursionLimit
 un : A.units + 16 * k + 200 < cLine
theorem Room.mono {j k : Nat} {A : Around} (r : Room k A) (h : j <= k) : Room j A := ⟨r.hd, by have := r.dp; omega, by have := r.un; omega⟩
theorem Room.deeper {k : Nat} {A : Around} (r : Room (k + 1) A) (env : Env) : Room k (A.deeper env) :=
 ⟨r.hd, by have := r.dp; show A.depth + 1 + 3 * k + 5 < _; omega, by have := r.un; show A.units + 3 + 16 * k + 200 < _; omega⟩
theorem rH {A : Around} {C : Addr} {us : List Value} {kw : List (Str × Value)} : (A.under (.builtin "type.__call__" ⟨.ref C :: us, kw⟩)).depth = A.depth + 1 := by
 first | rfl | simp [Around.under, Code.weight, Code.isCreation, Code.isGuard, Code.isCaller, Code.frames, Code.isFrame, guardIds]
theorem rG {A : Around} {C : Addr} {us : List Value} {kw : List (Str × Value)} : (A.under (.builtin "type.__call__" ⟨.ref C :: us, kw⟩)).units = A.units + 1 := by
 first | rfl | simp [Around.under, Code.cUnits, Code.frames, Code.isFrame]
theorem Room.make {k : Nat} {A : Around} (r : Room (k + 1) A) (C : Addr) (us : List Value) (kw : List (Str × Value)) : Room k (A.under (.builtin "type.__call__" ⟨.ref C :: us, kw⟩)) :=
 ⟨r.hd, by have := r.dp; rw [rH]; omega, by have := r.un; rw [rG]; omega⟩
theorem Room.depth {k : Nat} {A : Around} (r : Room k A) : A.depth < recursionLimit := by have := r.dp; omega
theorem Room.units {k : Nat} {A : Around} (r : Room k A) : A.units + 64 < cLine := by have := r.un; omega
def uT : TA := fun _ H Q => Q [] H
def yv (ta : TE) (tr : TA) : TA := fun σ H Q => ta σ H fun x H1 => tr σ H1 fun xs H2 => Q (x :: xs) H2
section
variable {X : Cx} {e : Expr} {es : List Expr} {te : TE} {t : TA} {pos : Pos}
theorem dC : PA X [] uT := fun _ _ _ _ H Q I h => Calls.spliced_nil ⟨[], H, I, .nil, h⟩
theorem bf (ha : PE X e te) (hr : PA X es t) (hs : starEach (e :: es) X.env = (false, eval e X.env) :: starEach es X.env := by rfl) : PA X (e :: es) (yv te t) := by
 intro pos pins s σ H Q I h
 rw [hs]
 show wpAny _ _ (spliced ((false, eval e X.env) :: backTo pos (starEach es X.env))) _ _ s
 refine Calls.spliced_cons (thn (ha pins s σ H _ I h) fun u s1 ⟨x, H1, I1, r1, q1⟩ => ?_)
 exact thn (hr pos pins s1 σ H1 _ I1 q1) fun us s2 ⟨xs, H2, I2, r2, q2⟩ => ⟨x :: xs, H2, I2, .cons r1 r2, q2⟩
def tTup (t : TA) : TE := fun σ H Q => t σ H fun xs H1 => xs.length <= sizeLine /\ ∀ p, H1 p = none -> Q (.ref p) (upd H1 p (.tup xs))
def tLst (t : TA) : TE := fun σ H Q => t σ H fun xs H1 => xs.length <= sizeLine /\ ∀ p, H1 p = none -> Q (.ref p) (upd H1 p (.lst xs))
theorem AT {x1} (h : PA X es t) : PE X (.Tuple es x1 pos) (tTup t) := by
 intro pins s σ H Q I hq
 refine wpAny_Tuple_spliced (thn (h pos pins s σ H _ I hq) fun us s1 ⟨xs, H1, I1, r, z, q⟩ => ⟨by rw [← r.length]; exact z, ?_⟩)
 have hf : H1 s1.heap.objs.size = none := I1.hok.fresh (Nat.le_refl _)
 refine ⟨.ref s1.heap.objs.size, upd H1 s1.heap.objs.size (.tup xs), I1.laid (t' := s1.toks) (fun b u e => Heap.get?_push_of_some _ e) (Nat.le_refl _) ?_, rfl, q _ hf⟩
 exact ⟨z, us, r, ⟨_, Heap.get?_push_size _ rfl, rfl, _, rfl⟩⟩
theorem lH (h : PA X es t) : PE X (.List es pos) (tLst t) := by
 intro pins s σ H Q I hq
 refine wpAny_List_spliced (thn (h pos pins s σ H _ I hq) fun us s1 ⟨xs, H1, I1, r, z, q⟩ => ⟨by rw [← r.length]; exact z, ?_⟩)
 have hf : H1 s1.heap.objs.size = none := I1.hok.fresh (Nat.le_refl _)
 refine ⟨.ref s1.heap.objs.size, upd H1 s1.heap.objs.size (.lst xs), I1.laid (t' := s1.toks) (fun b u e => Heap.get?_push_of_some _ e) (Nat.le_refl _) ?_, rfl, q _ hf⟩
 exact ⟨z, us, 0, r, Heap.get?_push_size _ rfl⟩
end
abbrev Sp := List V -> Hp -> VK -> XK -> Prop
abbrev CXT := List Env -> Hp -> Shared -> XK -> Value -> Shared -> Prop
structure Env0 (P : Program) (w : World) (K : PySem.W.Frag) (mg : Str -> Option Value) (base : Heap) (A : Around) (outer : List Env) (s : Shared) (H : Hp) : Prop where
 frames : A.frames = some outer
 mod : Mod K mg base
 bs : ∀ b o, base.get? b = some o -> s.heap.get? b = some o /\ H b = none
 bsz : base.objs.size <= s.heap.objs.size
 funs : s.heap.FunFrames base outer
 frf : ∀ b ∈ frs outer, H b = none
 hok : HOk P w H s.heap
 bare : AllBare s.gens
def CE (outer : List Env) (P : Program) (w : World) (H : Hp) (s : Shared) (Q : VK) (u : Value) (s' : Shared) : Prop :=
 ∃ v H', s'.os = s.os /\ AllBare s'.gens /\ Un (frs outer) [] H H' s.heap s'.heap /\ HOk P w H' s'.heap /\ aP v u /\ Q v H'
def CR (CX : CXT) (outer : List Env) (P : Program) (w : World) (H : Hp) (s : Shared) (Q : VK) (E : XK) (r : Result) (s' : Shared) : Prop :=
 match r with
 | .ok (.ret u) => CE outer P w H s Q u s'
 | .ok _ => False
 | .error e => CX outer H s E e s'
structure FnOk (P : Program) (w : World) (K : PySem.W.Frag) (mg : Str -> Option Value) (base : Heap) (CX : CXT) (k : Nat) (f : Addr) (fd : FuncData) (ps : List Str) (sp : Sp) : Prop where
 len : ∀ vs H Q E, sp vs H Q E -> vs.length = ps.length
 run : ∀ (A : Around) (outer : List Env) (s : Shared) (H : Hp) (args : Args) (us : List Value) (vs : List V) (Q : VK) (E : XK), Room k A -> Env0 P w K mg base A outer s H -> BindsTo s fd args (ps.zip us) -> ay vs us -> sp vs H Q E ->
  codeAny (model P w) A (.call (.ref f) args) (CR CX outer P w H s Q E) s
theorem FnOk.mono {P : Program} {w : World} {K : PySem.W.Frag} {mg : Str -> Option Value} {base : Heap} {CX : CXT} {j k : Nat} {f : Addr} {fd : FuncData} {ps : List Str} {sp : Sp} (F : FnOk P w K mg base CX j f fd ps sp) (h : j <= k) :
  FnOk P w K mg base CX k f fd ps sp := ⟨F.len, fun A outer s H args us vs Q E hr => F.run A outer s H args us vs Q E (hr.mono h)⟩
theorem Env0.make {P : Program} {w : World} {K : PySem.W.Frag} {mg : Str -> Option Value} {base : Heap} {A : Around} {outer : List Env} {s : Shared} {H : Hp} (e : Env0 P w K mg base A outer s H) (C : Addr) (us : List Value) (kw : List (Str × Value)) :
  Env0 P w K mg base (A.under (.builtin "type.__call__" ⟨.ref C :: us, kw⟩)) outer s H := ⟨by first | exact e.frames | (simpa [Around.under, Code.envs, Code.isFrame, pushEnvs] using e.frames), e.mod, e.bs, e.bsz, e.funs, e.frf, e.hok, e.bare⟩
section
variable {X : Cx} {pins : List (Addr × Obj)} {σ : St} {H : Hp} {s s' : Shared}
theorem Inv.env0 (I : Inv X pins σ H s) : Env0 X.prog X.w X.K X.mg X.base X.A X.stack s H :=
 ⟨I.ok.frames, I.ok.mod, I.bs, Nat.le_trans I.ok.bsz I.sz, I.stack, I.stkFree, I.hok, I.bare⟩
theorem Inv.after {Q : VK} {u : Value} (I : Inv X pins σ H s) (h : CE X.stack X.prog X.w H s Q u s') : EP X pins σ Q u s' := by
 obtain ⟨v, H', os, bare, un, hok, r, q⟩ := h
 obtain ⟨hh, g, d, t, os'⟩ := s'
 obtain rfl : os' = s.os := os
 exact ⟨v, H', I.call (h' := hh) (g' := g) (d' := d) (t' := t) (ch := []) un hok bare (fun b z => absurd z (by simp)), r, q⟩
end
def yw (sp : Sp) (dvs : List V) (E : St -> XK) (t : TA) : TE := fun σ H Q => t σ H fun vs H1 => sp (vs ++ dvs) H1 Q (E σ)
def rb (C : Addr) (m : Str) (sp : Sp) (dvs : List V) (E : St -> XK) (ta : TE) (t : TA) : TE := fun σ H Q => ta σ H fun x H1 => ∃ a dx fs, x = .ref a /\ H1 a = some (.ins C dx fs) /\ fs.lookup m = none /\
 t σ H1 fun vs H2 => sp (x :: (vs ++ dvs)) H2 Q (E σ)
def aI (K : PySem.W.Frag) (fd : FuncData) (ps : List Str) (ds : List Value) : Prop :=
 ∀ (s : Shared) (us : List Value), K.In s.heap -> (us ++ ds).length = ps.length -> BindsTo s fd ⟨us, []⟩ (ps.zip (us ++ ds))
theorem aI.all {K : PySem.W.Frag} {fd : FuncData} {ps : List Str} (h : ∀ us : List Value, us.length = ps.length -> bindArgs fd ⟨us, []⟩ = pure (ps.zip us)) : aI K fd ps [] := fun s us _ hl => by
 rw [List.append_nil] at hl ⊢
 exact .of_eq (h us hl)
def cJ (CX : CXT) (X : Cx) (E : St -> XK) : Prop := ∀ (pins : List (Addr × Obj)) (σ : St) (H : Hp) (s : Shared) (e : Value) (s' : Shared), Inv X pins σ H s -> CX X.stack H s (E σ) e s' -> X.xe e s'
section
variable {X : Cx} {CX : CXT} {k : Nat} {f C : Addr} {fd : FuncData} {ps : List Str} {sp : Sp} {dvs : List V} {ds : List Value} {E : St -> XK} {x m : Str} {p pos apos : Pos} {e o : Expr} {es : List Expr} {ta : TE} {t : TA}
theorem lv {pins : List (Addr × Obj)} {σ : St} {H : Hp} {s : Shared} {Q : VK} {us : List Value} {vs : List V} (F : FnOk X.prog X.w X.K X.mg X.base CX k f fd ps sp) (hr : Room k X.A) (hb : aI X.K fd ps ds) (hd : ay dvs ds) (hx : cJ CX X E)
  (I : Inv X pins σ H s) (r : ay vs us) (h : sp (vs ++ dvs) H Q (E σ)) : wpAny (model X.prog X.w) X.A (call (.ref f) us) (EP X pins σ Q) X.xe s := by
 have r2 : ay (vs ++ dvs) (us ++ ds) := r.append hd
 have hl : (us ++ ds).length = ps.length := by rw [← r2.length]; exact F.len _ _ _ _ h
 refine wpAny_call (codeAny_mono (F.run X.A X.stack s H ⟨us, []⟩ (us ++ ds) (vs ++ dvs) Q (E σ) hr I.env0 (hb s us I.kIn hl) r2 h) fun r s' hq => ?_)
 cases r with
 | error e => exact hx pins σ H s e s' I hq
 | ok fl =>
  cases fl with
  | ret u => exact I.after hq
  | next => exact False.elim hq
  | brk => exact False.elim hq
  | cont => exact False.elim hq
theorem qB (F : FnOk X.prog X.w X.K X.mg X.base CX k f fd ps sp) (hr : Room k X.A) (hg : Gl X x) (hm : X.mg x = some (.ref f)) (hk : PySem.W.keepIn X.K (.ref f) = true) (hb : aI X.K fd ps ds) (hd : ay dvs ds) (hx : cJ CX X E)
  (ha : PA X (e :: es) t) (hdb : (x == ("__debug__" : Str)) = false := by decide) (he : starEach (e :: es) X.env = (false, eval e X.env) :: starEach es X.env := by rfl) (hpl : (backTo pos (starEach es X.env)).any (·.1) = false := by rfl) :
  PE X (.Call (.Name x p) (e :: es) [] pos) (yw sp dvs E t) := by
 intro pins s σ H Q I h
 refine wpAny_Call_Name_kw (iA I hg hm ?_ hdb)
 refine PySem.W.callWith_K (h₀ := X.base) I.ok.mod.kin hk (thn (ha pos pins s σ H _ I h) fun us s1 ⟨vs, H1, I1, r, q⟩ => ⟨I1.kIn, ?_⟩) he hpl
 exact lv F hr hb hd hx I1 r q
theorem zp {pl : Sem Bool} (he : PE X o ta) (c : Cls X.K C) (hm : Meth X.K C m f) (F : FnOk X.prog X.w X.K X.mg X.base CX k f fd ps sp) (hr : Room k X.A) (hb : aI X.K fd ps ds) (hd : ay dvs ds) (hx : cJ CX X E) (ha : PA X (e :: es) t)
  (hst : starEach (e :: es) X.env = (false, eval e X.env) :: starEach es X.env := by rfl) (hpl : (backTo pos (starEach es X.env)).any (·.1) = false := by rfl)
  (ht : eval (.Call (.Attribute o m apos) (e :: es) [] pos) X.env = (do
   let ov ← eval o X.env
   standAt apos.atName
   let (f, first) ← holding [ov] (getMethod ov m pl)
   callWith pos f first (backTo pos (starEach (e :: es) X.env)) (backToKw pos (keywordEach [] X.env))) := by rfl) :
  PE X (.Call (.Attribute o m apos) (e :: es) [] pos) (rb C m sp dvs E ta t) := by
 intro pins s σ H Q I h
 refine PySem.W.methodCall_KW (pl := pl) (thn (he pins s σ H _ I h) fun u s1 ⟨x, H1, I1, rx, a, dx, fs, ex, ea, l, q⟩ => ?_) ht
 subst ex
 obtain rfl : u = Value.ref a := rx
 refine lZ I1 ea c hm l ?_
 refine PySem.W.callWith_K (first := [.ref a]) (h₀ := X.base) I.ok.mod.kin hm.kp (thn (ha pos pins s1 σ H1 _ I1 q) fun us s2 ⟨vs, H2, I2, r, q2⟩ => ⟨I2.kIn, ?_⟩) hst hpl
 exact lv (us := .ref a :: us) (vs := .ref a :: vs) F hr hb hd hx I2 (.cons rfl r) q2
theorem vh {pl : Sem Bool} (he : PE X o ta) (c : Cls X.K C) (hm : Meth X.K C m f) (F : FnOk X.prog X.w X.K X.mg X.base CX k f fd ps sp) (hr : Room k X.A) (hb : aI X.K fd ps ds) (hd : ay dvs ds) (hx : cJ CX X E)
  (ht : eval (.Call (.Attribute o m apos) [] [] pos) X.env = (do
   let ov ← eval o X.env
   standAt apos.atName
   let (f, first) ← holding [ov] (getMethod ov m pl)
   callWith pos f first (backTo pos (starEach [] X.env)) (backToKw pos (keywordEach [] X.env))) := by rfl) :
  PE X (.Call (.Attribute o m apos) [] [] pos) (rb C m sp dvs E ta uT) := by
 intro pins s σ H Q I h
 refine PySem.W.methodCall_KW (pl := pl) (thn (he pins s σ H _ I h) fun u s1 ⟨x, H1, I1, rx, a, dx, fs, ex, ea, l, q⟩ => ?_) ht
 subst ex
 obtain rfl : u = Value.ref a := rx
 refine lZ I1 ea c hm l ?_
 exact PySem.W.callWith_K0 (first := [.ref a]) I1.kIn hm.kp (lv (us := [.ref a]) (vs := [.ref a]) F hr hb hd hx I1 (.cons rfl .nil) q)
structure Mk (K : PySem.W.Frag) (C f : Addr) : Prop where
 makes : PySem.W.makesIn K C = true
 init : PySem.W.findIn K (.ref C) "__init__" = some (some (.ref f))
 fn : PySem.W.isFn K (.ref f) = true
 kp : PySem.W.keepIn K (.ref C) = true
end
def PK (X : Cx) (kws : List Keyword) (t : TA) : Prop :=
 ∀ (pos : Pos) (pins : List (Addr × Obj)) (s : Shared) (σ : St) (H : Hp) (Q : List V -> Hp -> Prop), Inv X pins σ H s -> t σ H Q -> wpAny (model X.prog X.w) X.A (evalAll ((backToKw pos (keywordEach kws X.env)).map (·.2))) (AP X pins σ Q) X.xe s
section
variable {X : Cx} {CX : CXT} {k : Nat} {f C : Addr} {fd : FuncData} {ps ks : List Str} {sp : Sp} {E : St -> XK} {x m : Str} {p pos apos kpos : Pos} {e o : Expr} {es : List Expr} {kws : List Keyword} {te ta : TE} {t tk : TA} {nm : Option Str}
theorem AK : PK X [] uT := fun _ _ _ _ H Q I h => wpAny_evalAll_nil ⟨[], H, I, .nil, h⟩
theorem zm (ha : PE X e te) (hr : PK X kws t) : PK X (⟨nm, e, kpos⟩ :: kws) (yv te t) := by
 intro pos pins s σ H Q I h
 show wpAny _ _ (evalAll ((do let v ← eval e X.env; standAt pos; pure v) :: (backToKw pos (keywordEach kws X.env)).map (·.2))) _ _ s
 refine wpAny_evalAll_cons (wpAny_bind (thn (ha pins s σ H _ I h) fun u s1 ⟨x, H1, I1, r1, q1⟩ => wpAny_bind (wpAny_standAt (wpAny_pure ?_))))
 exact thn (hr pos pins s1 σ H1 _ I1 q1) fun us s2 ⟨xs, H2, I2, r2, q2⟩ => ⟨x :: xs, H2, I2, .cons r1 r2, q2⟩
structure KBinds (K : PySem.W.Frag) (fd : FuncData) (ps ks : List Str) (g : List Value -> List Value -> List Value) (gV : List V -> List V -> List V) : Prop where
 to : ∀ (s : Shared) (us ws : List Value), K.In s.heap -> (g us ws).length = ps.length -> BindsTo s fd ⟨us, ks.zip ws⟩ (ps.zip (g us ws))
 rel : ∀ {vs : List V} {us : List Value} {zs : List V} {ws : List Value}, ay vs us -> ay zs ws -> ay (gV vs zs) (g us ws)
variable {g : List Value -> List Value -> List Value} {gV : List V -> List V -> List V}
end
structure FnScope (N P : List Str) (sc : Scope) : Prop where
 kind : sc.kind = .function
 co : sc.isCoroutine = false
 gen : sc.isGenerator = false
 nd : N.Nodup
 pre : N.take P.length = P
 par : ∀ x ∈ P, sc.names.lookup x = some .local \/ sc.names.lookup x = some .cell
 nofree : ∀ y ∈ sc.names, y.2 ≠ .free
theorem nM {kindOf : Str -> Option NameKind} {x : Str} : ∀ {binds : List (Str × Value)} {m : Str -> Option Value}, (∀ v, (x, v) ∉ binds) -> bindL kindOf binds m x = m x
 | [], _, _ => rfl
 | (n, v) :: r, m, h => by
  unfold bindL
  rw [nM fun w hw => h w (List.mem_cons_of_mem _ hw)]
  split
  ·have : x ≠ n := by rintro rfl; exact h v List.mem_cons_self
   simp [this]
  ·rfl
theorem nP {kindOf : Str -> Option NameKind} {x : Str} : ∀ {binds : List (Str × Value)} {m : Str -> Option Value}, (∀ v, (x, v) ∉ binds) -> bindC kindOf binds m x = m x
 | [], _, _ => rfl
 | (n, v) :: r, m, h => by
  unfold bindC
  rw [nP fun w hw => h w (List.mem_cons_of_mem _ hw)]
  split
  ·rfl
  ·have : x ≠ n := by rintro rfl; exact h v List.mem_cons_self
   simp [this]
theorem nN {kindOf : Str -> Option NameKind} {x : Str} {v : Value} : ∀ {P : List Str} {vs : List Value} {i : Nat} {m : Str -> Option Value}, P.Nodup -> P[i]? = some x -> vs[i]? = some v -> kindOf x = some .local ->
  bindL kindOf (P.zip vs) m x = some v
 | [], _, _, _, _, h, _, _ => by simp at h
 | _ :: _, [], _, _, _, _, h, _ => by simp at h
 | p :: P, w :: vs, 0, m, nd, h1, h2, hk => by
  simp at h1 h2; subst h1; subst h2
  show bindL kindOf ((p, w) :: P.zip vs) m p = _
  unfold bindL
  rw [nM fun v hv => (List.nodup_cons.mp nd).1 (List.of_mem_zip hv).1, if_pos hk]
  simp
 | p :: P, w :: vs, i + 1, m, nd, h1, h2, hk => by
  show bindL kindOf ((p, w) :: P.zip vs) m x = _
  unfold bindL
  exact nN (i := i) (List.nodup_cons.mp nd).2 (by simpa using h1) (by simpa using h2) hk
theorem nQ {kindOf : Str -> Option NameKind} {x : Str} {v : Value} : ∀ {P : List Str} {vs : List Value} {i : Nat} {m : Str -> Option Value}, P.Nodup -> P[i]? = some x -> vs[i]? = some v -> kindOf x ≠ some .local ->
  bindC kindOf (P.zip vs) m x = some v
 | [], _, _, _, _, h, _, _ => by simp at h
 | _ :: _, [], _, _, _, _, h, _ => by simp at h
 | p :: P, w :: vs, 0, m, nd, h1, h2, hk => by
  simp at h1 h2; subst h1; subst h2
  show bindC kindOf ((p, w) :: P.zip vs) m p = _
  unfold bindC
  rw [nP fun v hv => (List.nodup_cons.mp nd).1 (List.of_mem_zip hv).1, if_neg hk]
  simp
 | p :: P, w :: vs, i + 1, m, nd, h1, h2, hk => by
  show bindC kindOf ((p, w) :: P.zip vs) m x = _
  unfold bindC
  exact nQ (i := i) (List.nodup_cons.mp nd).2 (by simpa using h1) (by simpa using h2) hk
def dQ (N : List Str) (vs : List V) : St := vs.map some ++ List.replicate (N.length - vs.length) none
def cX (CX : CXT) (P : Program) (w : World) (K : PySem.W.Frag) (mg : Str -> Option Value) (base : Heap) (N : List Str) (qual : Str) (scope : Scope) (f : Addr) (cd : Value) (A : Around) (outer : List Env) (s : Shared) (H : Hp) (E : XK) : Cx where
 prog := P
 w := w
 K := K
 mg := mg
 base := base
 A := A.deeper (envOfC qual scope s.heap.objs.size f cd)
 N := N
 s₀ := s
 H₀ := H
 env := envOfC qual scope s.heap.objs.size f cd
 outer := outer
 stack := envOfC qual scope s.heap.objs.size f cd :: outer
 ex := []
 calm := true
 fn := fun _ => true
 pn := []
 xe := fun e s' => wpAny (model P w) (A.deeper (envOfC qual scope s.heap.objs.size f cd)) (leaving (envOfC qual scope s.heap.objs.size f cd) e) (fun _ s'' => CX outer H s E e s'') (fun e' s'' => CX outer H s E e' s'') s'
theorem pO {sc : Scope} {n : Nat} {x : Str} (h : sc.names.lookup x = some .cell) : ∃ c, (cellsFrom n sc.names []).lookup x = some c := by
 have q := PySem.W.cellsFrom_some sc.names n [] (.inl h)
 exact Option.isSome_iff_exists.mp q
theorem ur {CX : CXT} {P : Program} {w : World} {K : PySem.W.Frag} {mg : Str -> Option Value} {base : Heap} {N ps : List Str} {qual : Str} {scope : Scope} {f : Addr} {cd : Value} {A : Around} {outer : List Env} {s s1 : Shared} {H : Hp} {E : XK} {us : List Value} {vs : List V}
  (S : FnScope N ps scope) (hd : A.handled = none) (e0 : Env0 P w K mg base A outer s H) (hl : vs.length = ps.length) (r : ay vs us)
  (x : InCallC s s.heap.objs.size (bindL (envOfC qual scope s.heap.objs.size f cd).kindOf (ps.zip us) fun _ => none) (cellsFrom (s.heap.objs.size + 1) scope.names []) (bindC (envOfC qual scope s.heap.objs.size f cd).kindOf (ps.zip us) fun _ => none) s1) :
  Inv (cX CX P w K mg base N qual scope f cd A outer s H E) [] (dQ N vs) H s1 := by
 have hpl : ps.length <= N.length := by have := congrArg List.length S.pre; rw [List.length_take] at this; omega
 obtain ⟨h1, tk, rfl, hk⟩ := x.done
 have noA : ∀ b : Addr, b ∉ (cX CX P w K mg base N qual scope f cd A outer s H E).ex := fun b z => absurd (show b ∈ ([] : List Addr) from z) (by simp)
 refine ⟨⟨e0.mod, S.kind, rfl, rfl, Nat.le_refl _, fun y z c h1 h2 => ?_, fun y hy => ?_, fun y c _ h => ?_, fun _ => hd, Around.frames_deeper e0.frames, .inr ⟨rfl, rfl⟩, fun b z => absurd z (noA b), e0.bs, e0.bsz, fun b _ _ => noA b, fun b z => absurd z (noA b), e0.funs, e0.frf⟩,
  rfl, e0.bare, Un.kept hk, ⟨_, x.toInCall.ns, fun i y v h1 h2 h3 => ?_⟩, fun y c h => ⟨_, x.cell y c h⟩, e0.hok.fresh (Nat.le_refl _), fun y c h => ?_, fun p hp => absurd (show p ∈ ([] : List (Addr × Obj)) from hp) (by simp), e0.hok.kept hk, ?_⟩
 ·exact name_of_addr x.apart (PySem.mem_of_lookup h1) (PySem.mem_of_lookup h2)
 ·have hy : scope.names.lookup y = some .cell \/ scope.names.lookup y = some .free := hy
  rcases hy with hy | hy
  ·exact pO hy
  ·exact absurd rfl (S.nofree _ (PySem.mem_of_lookup hy))
 ·exact Nat.le_of_lt (x.above y c (PySem.mem_of_lookup h))
 ·have hi : i < vs.length := by
   unfold dQ at h2
   by_cases hi : i < vs.length
   ·exact hi
   ·rw [List.getElem?_append_right (by simpa using hi)] at h2
    rw [List.getElem?_replicate] at h2
    split at h2 <;> cases h2
  have ha : vs[i]? = some v := by
   unfold dQ at h2
   rw [List.getElem?_append_left (by simpa using hi), List.getElem?_map] at h2
   cases e : vs[i]? with
   | none => rw [e] at h2; cases h2
   | some a => rw [e] at h2; cases h2; rfl
  obtain ⟨u, hu, rv⟩ := r.get ha
  have hp : ps[i]? = some y := by
   rw [← S.pre, List.getElem?_take_of_lt (by omega)]; exact h1
  have ndP : ps.Nodup := by rw [← S.pre]; exact S.nd.sublist (List.take_sublist _ _)
  refine ⟨u, rv, ?_⟩
  rcases S.par y (List.mem_of_getElem? hp) with k | k
  ·exact .inl ⟨k, nN ndP hp hu k⟩
  ·obtain ⟨c, e⟩ := pO (n := s.heap.objs.size + 1) k
   refine .inr ⟨.inl k, c, e, ?_⟩
   have q := x.cell y c e
   rw [nQ ndP hp hu (by show scope.names.lookup y ≠ _; rw [k]; decide)] at q
   exact q
 ·exact e0.hok.fresh (Nat.le_of_lt (x.above y c (PySem.mem_of_lookup h)))
 ·unfold dQ
  show _ = N.length
  rw [List.length_append, List.length_map, List.length_replicate]
  omega
theorem yR {CX : CXT} {P : Program} {w : World} {K : PySem.W.Frag} {mg : Str -> Option Value} {base : Heap} {k : Nat} {f : Addr} {name qual : Str} {params : Arguments} {body : List Stmt} {scope : Scope} {dV kV doc pm cdv ct oc : Value} {an od : Option Addr}
  {osl : Array (Option Value)} {N ps : List Str} {sp : Sp} (lk : K.lookup f = some ⟨oc, od, .func (PySem.W.fnOf name qual params body scope dV kV doc pm an cdv ct), osl⟩) (hcd : PySem.W.codeIn K cdv qual = true) (S : FnScope N ps scope)
  (len : ∀ vs H Q E, sp vs H Q E -> vs.length = ps.length)
  (hbody : ∀ (A : Around) (outer : List Env) (s : Shared) (H : Hp) (vs : List V) (Q : VK) (E : XK), Room k (A.deeper (envOfC qual scope s.heap.objs.size f cdv)) -> sp vs H Q E ->
   ∃ t, PSs (cX CX P w K mg base N qual scope f cdv A outer s H E) body t /\ t { nx := fun _ H' => Q .non H', rt := Q } (dQ N vs) H) :
  FnOk P w K mg base CX (k + 1) f (PySem.W.fnOf name qual params body scope dV kV doc pm an cdv ct) ps sp := by
 refine ⟨len, fun A outer s H args us vs Q E hr e0 hb r hsp => ?_⟩
 have hl := len _ _ _ _ hsp
 have KX : K.In s.heap := e0.mod.kin.keeps fun b o e => (e0.bs b o e).1
 have lim : s.heap.NoLimit := e0.mod.nolimit.keeps fun b o e => (e0.bs b o e).1
 have hkind : ∀ y ∈ ps.zip us, scope.names.lookup y.1 = some .local \/ (scope.names.lookup y.1 = some .cell /\ ((cellsFrom (s.heap.objs.size + 1) scope.names []).lookup y.1).isSome = true) := fun ⟨n, v⟩ hy => by
  rcases S.par n (List.of_mem_zip hy).1 with q | q
  ·exact .inl q
  ·exact .inr ⟨q, PySem.W.cellsFrom_some _ _ _ (.inl q)⟩
 refine codeAny_call_function hr.depth (KX _ _ lk) rfl S.co S.gen rfl (PySem.W.codeRec_of KX hcd) (hb _ _ _ _ ?_)
 refine wpAny_newFunctionEnv_cells S.kind hkind fun env he s1 x => ?_
 subst he
 refine ⟨lim.keeps x.toInCall.keep, codeAny_func ?_⟩
 obtain ⟨t, ht, hq⟩ := hbody A outer s H vs Q E (hr.deeper _) hsp
 have I : Inv (cX CX P w K mg base N qual scope f cdv A outer s H E) [] (dQ N vs) H s1 := ur S hr.hd e0 hl r x
 refine wpAny_mono (ht [] s1 (dQ N vs) H _ I hq) (fun fl s' hs => ?_) fun e s' hs => hs
 have fin : ∀ {σ' : St} {H' : Hp} {v : V} {u : Value}, Inv (cX CX P w K mg base N qual scope f cdv A outer s H E) [] σ' H' s' -> aP v u -> Q v H' -> CE outer P w H s Q u s' :=
  fun {σ' H' v u} J rv q => ⟨v, H', J.os, J.bare, J.base, J.hok, rv, q⟩
 cases fl with
 | ret u =>
  obtain ⟨v, σ', H', J, rv, q⟩ := hs
  exact fin J rv q
 | next =>
  obtain ⟨σ', H', J, q⟩ := hs
  exact fin (v := V.non) (u := Value.none) J rfl q
 | brk =>
  obtain ⟨_, _, _, q⟩ := hs
  exact False.elim q
 | cont =>
  obtain ⟨_, _, _, q⟩ := hs
  exact False.elim q
section
variable {X : Cx} {x : Str} {p pos : Pos} {e : Expr} {es : List Expr} {t : TA} {id T : String} {r : List V -> Hp -> VK -> Prop}
def tCB (r : List V -> Hp -> VK -> Prop) (t : TA) : TE := fun σ H Q => t σ H fun vs H1 => r vs H1 Q
theorem kG (hc : cQ X (.builtin id) r) (hg : Gl X x) (hm : X.mg x = none) (hv : bootBuiltins x = some (.builtin id)) (ha : PA X (e :: es) t) (hn : x ≠ "__name__" := by decide) (hdb : (x == ("__debug__" : Str)) = false := by decide)
  (he : starEach (e :: es) X.env = (false, eval e X.env) :: starEach es X.env := by rfl) (hpl : (backTo pos (starEach es X.env)).any (·.1) = false := by rfl) : PE X (.Call (.Name x p) (e :: es) [] pos) (tCB r t) := by
 intro pins s σ H Q I h
 refine wpAny_Call_Name_kw (fV I hg hm hv ?_ hn hdb)
 exact PyProof.Rows.callWith_builtin1 (thn (ha pos pins s σ H _ I h) fun us s1 ⟨vs, H1, I1, r1, q1⟩ => hc pins s1 σ H1 vs us Q I1 r1 q1) he hpl
theorem t7 (hc : cQ X (.type T) r) (hg : Gl X x) (hm : X.mg x = none) (hv : bootBuiltins x = some (.type T)) (ha : PA X (e :: es) t) (hn : x ≠ "__name__" := by decide) (hdb : (x == ("__debug__" : Str)) = false := by decide)
  (he : starEach (e :: es) X.env = (false, eval e X.env) :: starEach es X.env := by rfl) (hpl : (backTo pos (starEach es X.env)).any (·.1) = false := by rfl) : PE X (.Call (.Name x p) (e :: es) [] pos) (tCB r t) := by
 intro pins s σ H Q I h
 refine wpAny_Call_Name_kw (fV I hg hm hv ?_ hn hdb)
 exact PyProof.Rows.callWith_type1 (thn (ha pos pins s σ H _ I h) fun us s1 ⟨vs, H1, I1, r1, q1⟩ => hc pins s1 σ H1 vs us Q I1 r1 q1) he hpl
end
end L2
namespace HT
open PySem PyProof.Rows
section
open PySem.SeqAt
open PySem.AutoSeq1 (wpAny_loadPart')
open PySem.MeetsSeq PySem.MeetsSeq2 PySem.MeetsSeq3
end
section
variable {prog : Program} {w : World} {A : Around} {E : Value -> Shared -> Prop} {s : Shared}
theorem cat_tup {t b : Addr} {vs ws : List Value} {Q : Value -> Shared -> Prop} (ht : IsTup s.heap t vs.toArray) (hb : IsTup s.heap b ws.toArray) (hv : vs ≠ [])
  (h1 : ws = [] -> Q (.ref t) s) (h2 : ws ≠ [] -> Q (.ref s.heap.objs.size) { s with heap := s.heap.push { cls := .type "tuple", data := .seq (vs ++ ws).toArray } })
  (hsz : vs.length + ws.length <= sizeLine) : wpAny (model prog w) A (binaryOp .Add (.ref t) (.ref b)) Q E s := by
 obtain ⟨⟨cls, dd, data, sl⟩, ho, hc, n, hd⟩ := id ht
 obtain ⟨⟨cls2, dd2, data2, sl2⟩, ho2, hc2, n2, hd2⟩ := id hb
 simp only at hc hd hc2 hd2
 subst hc hd hc2 hd2
 have e : vs.toArray ++ ws.toArray = (vs ++ ws).toArray := by simp
 by_cases hw : ws = []
 ·exact concat_meets ⟨_, ho, rfl⟩ ⟨_, ho2, rfl⟩ noFill_tuple_add seq_tuple_add PySem.F.slot_tuple_add PySem.F.entry_tuple_add (PySem.F.args_tuple_add_2 _ _)
   (tuple_addW1 t b vs.toArray ws.toArray n n2 dd dd2 sl sl2 (by simpa using hv) (by simp [hw])) ⟨ho, ho2, h1 hw⟩
 ·refine concat_meets ⟨_, ho, rfl⟩ ⟨_, ho2, rfl⟩ noFill_tuple_add seq_tuple_add PySem.F.slot_tuple_add PySem.F.entry_tuple_add (PySem.F.args_tuple_add_2 _ _)
   (tuple_addW2 t b vs.toArray ws.toArray n n2 dd dd2 sl sl2 (by simpa using hv) (by simpa using hw) (by rw [List.size_toArray, List.size_toArray]; exact hsz)) ⟨ho, ho2, ?_⟩
  rw [e]
  exact h2 hw
def sIx (n d : Nat) : Option Int -> Nat
 | none => d
 | some v => if v < 0 then (v + (n : Int)).toNat else min v.toNat n
end
end HT
namespace L2
open PySem PySem.Spec PyProof.Rows
abbrev TO := St -> Hp -> (Option Int -> Hp -> Prop) -> Prop
def PO (X : Cx) (e : Option Expr) (t : TO) : Prop :=
 ∀ (pins : List (Addr × Obj)) (s : Shared) (σ : St) (H : Hp) (Q : Option Int -> Hp -> Prop), Inv X pins σ H s -> t σ H Q ->
  wpAny (model X.prog X.w) X.A (evalPart e X.env) (fun u s' => ∃ o H', Inv X pins σ H' s' /\ IsPart u o /\ Q o H') X.xe s
def zc : TO := fun _ H Q => Q none H
def D0 (t : TE) : TO := fun σ H Q => t σ H fun x H1 => ∃ i, x = .int i /\ Q (some i) H1
theorem lX {ns : List Int} : ∀ {us : List Value}, ay (ns.map V.int) us -> IntsAre us ns := by
 induction ns with
 | nil => intro us r; rw [List.map_nil] at r; cases r; exact .nil
 | cons n ns ih =>
  intro us r
  rw [List.map_cons] at r
  cases r with
  | cons r1 r2 =>
   obtain ⟨t, e⟩ := r1
   subst e
   exact .cons n t (ih r2)
section
variable {X : Cx} {e : Expr} {te : TE} {lo hi : Option Expr} {tl th : TO} {pos p2 : Pos}
theorem zj : PO X none zc := by
 intro pins s σ H Q I h
 rw [evalPart_none]
 exact wpAny_pure ⟨none, H, I, .none, h⟩
theorem zi (h : PE X e te) : PO X (some e) (D0 te) := by
 intro pins s σ H Q I hw
 rw [evalPart_some]
 refine thn (h pins s σ H _ I hw) fun u s1 ⟨x, H1, I1, r1, q1⟩ => ?_
 obtain ⟨i, rfl, q⟩ := q1
 obtain ⟨t, rfl⟩ := r1
 exact ⟨some i, H1, I1, .int i t, q⟩
def SlR (X : Cx) (r : V -> Option Int -> Option Int -> Hp -> VK -> Prop) : Prop :=
 ∀ (pins : List (Addr × Obj)) (s : Shared) (σ : St) (H : Hp) (x : V) (v vl vu : Value) (lo hi : Option Int) (sl : Addr) (Q : VK), Inv X pins σ H s -> aP x v -> s.heap.IsSliceOf sl vl vu .none -> IsPart vl lo -> IsPart vu hi -> r x lo hi H Q ->
  ∃ T id, typeLookup (.type T) "__getitem__" = pure (some (.builtin id)) /\ s.TypeIs v T /\ wpAny (model X.prog X.w) X.A (getItem v (.ref sl)) (EP X pins σ Q) X.xe s
def tSl (r : V -> Option Int -> Option Int -> Hp -> VK -> Prop) (te : TE) (tl th : TO) : TE := fun σ H Q => te σ H fun x H1 => tl σ H1 fun l H2 => th σ H2 fun u H3 => r x l u H3 Q
theorem vg {r : V -> Option Int -> Option Int -> Hp -> VK -> Prop} (hr : SlR X r) (he : PE X e te) (hl : PO X lo tl) (hu : PO X hi th) : PE X (.Subscript e (.Slice lo hi none p2) pos) (tSl r te tl th) := by
 intro pins s σ H Q I h
 refine Subscript_ (thn (he pins s σ H _ I h) fun v s1 ⟨x, H1, I1, r1, q1⟩ => ?_)
 refine wpAny_Slice (thn (hl pins s1 σ H1 _ I1 q1) fun vl s2 ⟨l, H2, I2, pl, q2⟩ => thn (hu pins s2 σ H2 _ I2 q2) fun vu s3 ⟨u, H3, I3, pu, q3⟩ => ?_)
 rw [evalPart_none]
 refine wpAny_pure ?_
 have I4 : Inv X pins σ H3 { s3 with heap := s3.heap.push { cls := .type "slice", data := .fields #[vl, vu, .none] } } := I3.kept (t' := s3.toks) fun b ob q => Heap.get?_push_of_some _ q
 obtain ⟨T, id, hT, ht, hg⟩ := hr pins { s3 with heap := s3.heap.push { cls := .type "slice", data := .fields #[vl, vu, .none] } } σ H3 x v vl vu l u s3.heap.objs.size Q I4 r1 (Heap.IsSliceOf.new ..) pl pu q3
 show wpAny (model X.prog X.w) X.A (subscriptTail e (.Slice lo hi none p2) v (.ref s3.heap.objs.size)) (EP X pins σ Q) X.xe { s3 with heap := s3.heap.push { cls := .type "slice", data := .fields #[vl, vu, .none] } }
 exact tail_any (ops := [.ref s3.heap.objs.size, v]) ht hT hg (by with_unfolding_all rfl)
def m5 (xs : List V) (lo hi : Option Int) : List V := (xs.drop (HT.sIx xs.length 0 lo)).take (HT.sIx xs.length xs.length hi - HT.sIx xs.length 0 lo)
theorem qh (xs : List V) (lo hi : Option Int) : (m5 xs lo hi).length <= xs.length := by
 unfold m5
 rw [List.length_take, List.length_drop]
 omega
def rk (K : PySem.W.Frag) : R2 := fun x y H Q => ∃ a b xs ys, x = .ref a /\ y = .ref b /\ SqT K H a xs /\ SqT K H b ys /\ xs ≠ [] /\ xs.length + ys.length <= sizeLine /\
 (ys = [] -> Q (.ref a) H) /\ (ys ≠ [] -> ∀ p, H p = none -> Q (.ref p) (upd H p (.tup (xs ++ ys))))
theorem ay.nil_iff {xs : List V} {us : List Value} (r : ay xs us) : us = [] ↔ xs = [] := by
 cases r with
 | nil => simp
 | cons _ _ => simp
theorem zx : OpR X (binaryOp .Add) (rk X.K) := by
 intro pins s σ H x y v u Q I rx ry h
 obtain ⟨a, b, xs, ys, rfl, rfl, ha, hb, hx, hz, q1, q2⟩ := h
 cases rx
 cases ry
 obtain ⟨its, r1, p1, _⟩ := I.tuple ha
 obtain ⟨its2, r2, p2, _⟩ := I.tuple hb
 refine HT.cat_tup p1 p2 (fun z => hx (r1.nil_iff.mp z)) (fun z => ⟨.ref a, H, I, rfl, q1 (r2.nil_iff.mp z)⟩) (fun z => ?_) (by rw [← r1.length, ← r2.length]; exact hz)
 refine ⟨.ref s.heap.objs.size, _, I.laid (t' := s.toks) (o := .tup (xs ++ ys)) (fun b ob q => Heap.get?_push_of_some _ q) (Nat.le_refl _) ?_, rfl, q2 (fun w => z (r2.nil_iff.mpr w)) _ (I.hok.fresh (Nat.le_refl _))⟩
 exact ⟨by rw [List.length_append]; exact hz, _, r1.append r2, IsTup.new _ _⟩
end
def ixN (n : Nat) (i : Int) : Option Nat := if 0 <= i then (if i < n then some i.toNat else none) else if -(n : Int) <= i then some (i + n).toNat else none
def atI {α : Type} (xs : List α) (i : Int) : Option α := (ixN xs.length i).bind fun j => xs[j]?
theorem qI {n : Nat} {i : Int} {j : Nat} (h : ixN n i = some j) : seqIndex? i n = some j /\ j < n /\ -(n : Int) <= i /\ i < n := by
 unfold ixN at h
 by_cases h0 : 0 <= i
 ·rw [if_pos h0] at h
  by_cases h1 : i < n
  ·rw [if_pos h1] at h
   have e : i.toNat = j := Option.some.inj h
   exact ⟨by rw [seqIndex_of h0 h1, e], by omega, by omega, h1⟩
  ·rw [if_neg h1] at h; cases h
 ·rw [if_neg h0] at h
  by_cases h1 : -(n : Int) <= i
  ·rw [if_pos h1] at h
   have e : (i + n).toNat = j := Option.some.inj h
   exact ⟨by rw [seqIndex_neg (by omega) h1, e], by omega, h1, by omega⟩
  ·rw [if_neg h1] at h; cases h
theorem qU {α : Type} {xs : List α} {i : Int} {v : α} (h : atI xs i = some v) : ∃ j, seqIndex? i xs.length = some j /\ xs[j]? = some v /\ j < xs.length /\ -(xs.length : Int) <= i /\ i < xs.length := by
 unfold atI at h
 cases e : ixN xs.length i with
 | none => rw [e] at h; cases h
 | some j =>
  rw [e] at h
  obtain ⟨h1, h2, h3, h4⟩ := qI e
  exact ⟨j, h1, h, h2, h3, h4⟩
theorem Ac {α : Type} {xs : List α} {j : Nat} {v : α} (h : xs[j]? = some v) : atI xs (j : Int) = some v := by
 have hj : j < xs.length := (List.getElem?_eq_some_iff.mp h).1
 have e : ixN xs.length (j : Int) = some j := by
  unfold ixN
  rw [if_pos (by omega), if_pos (by omega)]; simp
 unfold atI; rw [e]; exact h
def qW (b : Expr) : Prop := ∀ o i, subscripted b false o i = operate [o, i] (getItem o i)
def IxR (X : Cx) (r : R2) : Prop :=
 ∀ (value slice : Expr) (pins : List (Addr × Obj)) (s : Shared) (σ : St) (H : Hp) (x y : V) (v u : Value) (Q : VK), Inv X pins σ H s -> aP x v -> aP y u -> r x y H Q ->
  subscripted slice false v u = operate [v, u] (getItem v u) -> wpAny (model X.prog X.w) X.A (subscriptTail value slice v u) (EP X pins σ Q) X.xe s
section
variable {X : Cx} {a b : Expr} {ta tb : TE} {pos : Pos}
theorem IxR.or {r r' : R2} (h : IxR X r) (h' : IxR X r') : IxR X (fun x y H Q => r x y H Q \/ r' x y H Q) := by
 intro value slice pins s σ H x y v u Q I rx ry q hs
 rcases q with q | q
 ·exact h value slice pins s σ H x y v u Q I rx ry q hs
 ·exact h' value slice pins s σ H x y v u Q I rx ry q hs
theorem gZ {r : R2} (hr : IxR X r) (ha : PE X a ta) (hb : PE X b tb) (hs : qW b) : PE X (.Subscript a b pos) (tOp r ta tb) := by
 intro pins s σ H Q I h
 exact Subscript_ (v6 ha hb I h fun v u s2 x y H2 I2 rx ry q => hr a b pins s2 σ H2 x y v u Q I2 rx ry q (hs _ _))
def rj (K : PySem.W.Frag) : R2 := fun x y H Q => ∃ p xs i v, x = .ref p /\ y = .int i /\ SqL K H p xs /\ atI xs i = some v /\ Q v H
def u4 (K : PySem.W.Frag) : R2 := fun x y H Q => ∃ p xs i v, x = .ref p /\ y = .int i /\ SqT K H p xs /\ atI xs i = some v /\ Q v H
theorem eA : IxR X (rj X.K) := by
 intro value slice pins s σ H x y v u Q I rx ry h hs
 obtain ⟨p, xs, i, z, rfl, rfl, hq, he, q⟩ := h
 cases rx
 obtain ⟨t, rfl⟩ := ry
 obtain ⟨its, r, pl, hz⟩ := I.list hq
 obtain ⟨j, h1, h2, h3, h4, h5⟩ := qU he
 obtain ⟨w, ew, rw'⟩ := r.get h2
 have hl := r.length
 have hn := jP
 have fin : EP X pins σ Q w s := ⟨z, H, I, rw', q⟩
 by_cases h0 : 0 <= i
 ·have hj : i.toNat = j := by
   rw [seqIndex_of h0 h5] at h1
   exact Option.some.inj h1
  exact item_listR pl.isList h0 (by omega) (by rw [hj]; simpa using ew) fin hs
 ·have hj : (i + (its.toArray.size : Int)).toNat = j := by
   rw [seqIndex_neg (by omega) h4] at h1
   rw [List.size_toArray, ← hl]
   exact Option.some.inj h1
  exact subscriptTail_builtinR (x := w) pl.isList.typeIs slot_list_getitem.lookup
   (wpAny_getItem_list_neg (Q := fun r s' => r = w /\ EP X pins σ Q r s') pl.isList (by omega) (by rw [List.size_toArray] <;> omega) (by omega) (by rw [hj]; simpa using ew) ⟨rfl, fin⟩) hs
theorem Bh : IxR X (u4 X.K) := by
 intro value slice pins s σ H x y v u Q I rx ry h hs
 obtain ⟨p, xs, i, z, rfl, rfl, hq, he, q⟩ := h
 cases rx
 obtain ⟨t, rfl⟩ := ry
 obtain ⟨its, r, pl, hz⟩ := I.tuple hq
 obtain ⟨j, h1, h2, h3, h4, h5⟩ := qU he
 obtain ⟨w, ew, rw'⟩ := r.get h2
 have hl := r.length
 have hn := jP
 have fin : EP X pins σ Q w s := ⟨z, H, I, rw', q⟩
 exact subscriptTail_builtinR (x := w) pl.typeIs slot_tuple_getitem.lookup
  (getItem_tuple (j := j) (Q := fun r s' => r = w /\ EP X pins σ Q r s') pl (by omega) (by omega) (by rw [List.size_toArray, ← hl]; exact h1) (by simpa using ew) ⟨rfl, fin⟩) hs
theorem rF (its : List Value) (n j : Nat) (u : Value) : Obj.mapSeq (·.setIfInBounds j u) { cls := .type "list", data := .seq its.toArray n } = { cls := .type "list", data := .seq (its.set j u).toArray n } := by
 simp [Obj.mapSeq]
theorem Inv.lst {pins : List (Addr × Obj)} {σ : St} {H : Hp} {s : Shared} {p : Addr} {xs : List V} (I : Inv X pins σ H s) (h : H p = some (.lst xs)) :
  ∃ (its : List Value) (n : Nat), ay xs its /\ s.heap.get? p = some { cls := .type "list", data := .seq its.toArray n } /\ xs.length <= sizeLine := by
 obtain ⟨z, its, n, r, e⟩ := I.hok p _ h
 exact ⟨its, n, r, e, z⟩
theorem Inv.lstUpd {pins : List (Addr × Obj)} {σ : St} {H : Hp} {s : Shared} {p : Addr} {xs ys : List V} {its its' : List Value} {n n' : Nat} {f : Obj -> Obj} (I : Inv X pins σ H s) (h : H p = some (.lst xs))
  (ho : s.heap.get? p = some { cls := .type "list", data := .seq its.toArray n }) (hf : f { cls := .type "list", data := .seq its.toArray n } = { cls := .type "list", data := .seq its'.toArray n' }) (r : ay ys its') (hz : ys.length <= sizeLine) (t : Nat) :
  Inv X pins σ (upd H p (.lst ys)) { s with heap := s.heap.update p f, toks := t } := by
 have e : (s.heap.update p f).get? p = some { cls := .type "list", data := .seq its'.toArray n' } := by
  rw [Heap.get?_update_self f ho (by rw [hf] <;> rfl), hf]
 refine I.write (x := p) (e := p) (by rw [h]; trivial) (.inl rfl) (fun b u hb q => (Heap.get?_update_other _ _ (Ne.symm hb)).trans q) ⟨_, e⟩ ?_
 exact ⟨hz, its', n', r, e⟩
def yz : V -> V -> V -> Hp -> (Hp -> Prop) -> Prop := fun o i v H Q => ∃ p xs k j, o = .ref p /\ i = .int k /\ H p = some (.lst xs) /\ ixN xs.length k = some j /\ Q (upd H p (.lst (xs.set j v)))
theorem iT : DO X yz := by
 intro pins s σ H o i v ov iv u Q I ro ri rv h
 obtain ⟨p, xs, k, j, rfl, rfl, hp, hj, q⟩ := h
 cases ro
 obtain ⟨t, rfl⟩ := ri
 obtain ⟨its, n, r, ho, hz⟩ := I.lst hp
 obtain ⟨h1, h2, h3, h4⟩ := qI hj
 have hl := r.length
 have hn := jP
 have I' : Inv X pins σ (upd H p (.lst (xs.set j v))) { s with heap := s.heap.update p (Obj.mapSeq (·.setIfInBounds j u)) } :=
  I.lstUpd hp ho (rF its n j u) (r.set rv j) (by rw [List.length_set]; exact hz) s.toks
 by_cases h0 : 0 <= k
 ·have hk : k.toNat = j := by
   rw [seqIndex_of h0 h4] at h1
   exact Option.some.inj h1
  exact PySem.W.ki_setAt ho h0 (by omega) (by rw [List.size_toArray, ← hl]; exact h4) (by rw [hk]; exact ⟨_, I', q⟩)
 ·have hk : (k + (its.toArray.size : Int)).toNat = j := by
   rw [seqIndex_neg (by omega) h3] at h1
   rw [List.size_toArray, ← hl]
   exact Option.some.inj h1
  exact PySem.W.ki_setBack ho (by omega) (by rw [List.size_toArray, ← hl]; exact h3) (by omega) (by rw [hk]; exact ⟨_, I', q⟩)
theorem oY (lo hi : Option Int) (n : Nat) : (sliceBounds lo hi none n).1 = ((HT.sIx n 0 lo : Nat) : Int) /\ (sliceBounds lo hi none n).2.1 = ((HT.sIx n n hi : Nat) : Int) /\ (sliceBounds lo hi none n).2.2 = 1 := by
 refine ⟨?_, ?_, rfl⟩
 ·cases lo with
  | none => simp [sliceBounds, HT.sIx]
  | some i =>
   simp only [sliceBounds, HT.sIx, Option.getD_none, show (1 : Int) > 0 by decide, if_true]
   by_cases h : i < 0
   ·simp only [h, if_true] <;> omega
   ·simp only [h, if_false] <;> omega
 ·cases hi with
  | none => simp [sliceBounds, HT.sIx]
  | some i =>
   simp only [sliceBounds, HT.sIx, Option.getD_none, show (1 : Int) > 0 by decide, if_true]
   by_cases h : i < 0
   ·simp only [h, if_true] <;> omega
   ·simp only [h, if_false] <;> omega
theorem nS (its : List Value) (lo hi : Option Int) : slicePick its.toArray lo hi none = ((its.drop (HT.sIx its.length 0 lo)).take (HT.sIx its.length its.length hi - HT.sIx its.length 0 lo)).toArray := by
 obtain ⟨h1, h2, h3⟩ := oY lo hi its.toArray.size
 unfold slicePick
 rw [h1, h2, h3]
 simp only [sliceRange_one, pick_run, List.size_toArray] <;> rfl
def rSlL (K : PySem.W.Frag) : V -> Option Int -> Option Int -> Hp -> VK -> Prop := fun x lo hi H Q => ∃ a xs, x = .ref a /\ SqL K H a xs /\ ∀ p, H p = none -> Q (.ref p) (upd H p (.lst (m5 xs lo hi)))
theorem zd : SlR X (rSlL X.K) := by
 intro pins s σ H x v vl vu lo hi sl Q I rx hs pl pu h
 obtain ⟨a, xs, rfl, hx, q⟩ := h
 cases rx
 obtain ⟨its, r, ht, hz⟩ := I.list hx
 have hlen := r.length
 refine ⟨"list", _, slot_list_getitem.lookup, ht.isList.typeIs, ?_⟩
 refine wpAny_getItem_list_slice ht.isList hs pl pu .none (by simp) ?_ (by rw [List.size_toArray] <;> omega)
 rw [nS, ← hlen]
 refine ⟨.ref s.heap.objs.size, _, I.laid (t' := s.toks) (o := .lst (m5 xs lo hi)) (fun b ob q => Heap.get?_push_of_some _ q) (Nat.le_refl _) ?_, rfl, q _ (I.hok.fresh (Nat.le_refl _))⟩
 exact ⟨Nat.le_trans (qh xs lo hi) hz, _, 0, (r.drop (HT.sIx xs.length 0 lo)).take (HT.sIx xs.length xs.length hi - HT.sIx xs.length 0 lo), Heap.get?_push_size _ rfl⟩
def fL : V -> Bool
 | .non => true
 | .bl _ => true
 | .int _ => true
 | .str _ => true
 | _ => false
def eqV : V -> V -> Bool
 | .non, .non => true
 | .bl a, .bl b => a == b
 | .bl a, .int b => (if a then 1 else 0) == b
 | .int a, .bl b => a == (if b then 1 else 0)
 | .int a, .int b => a == b
 | .str a, .str b => a == b
 | _, _ => false
theorem Bm {A : Around} {s : Shared} {y x : V} {u v : Value} (ry : aP y u) (rx : aP x v) (fy : fL y = true) (fx : fL x = true) : SeqAt.EqAt A s u v (eqV y x) := by
 cases y with
 | non =>
  cases ry
  cases x with
  | non => cases rx; exact SeqAt.EqAt.same _
  | bl b => cases rx; exact SeqAt.EqAt.none_bool b
  | int b => obtain ⟨t, rfl⟩ := rx; exact SeqAt.EqAt.none_int b t
  | str b => obtain ⟨t, rfl⟩ := rx; exact SeqAt.EqAt.none_str b t
  | _ => exact absurd (show false = true from fx) Bool.false_ne_true
 | bl a =>
  cases ry
  cases x with
  | non => cases rx; exact SeqAt.EqAt.bool_none a
  | bl b => cases rx; exact SeqAt.EqAt.bool_bool a b
  | int b => obtain ⟨t, rfl⟩ := rx; exact SeqAt.EqAt.bool_int a b t
  | str b => obtain ⟨t, rfl⟩ := rx; exact SeqAt.EqAt.bool_str a b t
  | _ => exact absurd (show false = true from fx) Bool.false_ne_true
 | int a =>
  obtain ⟨t', rfl⟩ := ry
  cases x with
  | non => cases rx; exact SeqAt.EqAt.int_none a t'
  | bl b => cases rx; exact SeqAt.EqAt.int_bool a t' b
  | int b => obtain ⟨t, rfl⟩ := rx; exact SeqAt.EqAt.int_int a t' b t
  | str b => obtain ⟨t, rfl⟩ := rx; exact SeqAt.EqAt.int_str a t' b t
  | _ => exact absurd (show false = true from fx) Bool.false_ne_true
 | str a =>
  obtain ⟨t', rfl⟩ := ry
  cases x with
  | non => cases rx; exact SeqAt.EqAt.str_none a t'
  | bl b => cases rx; exact SeqAt.EqAt.str_bool a t' b
  | int b => obtain ⟨t, rfl⟩ := rx; exact SeqAt.EqAt.str_int a t' b t
  | str b => obtain ⟨t, rfl⟩ := rx; exact SeqAt.EqAt.str_str a t' b t
  | _ => exact absurd (show false = true from fx) Bool.false_ne_true
 | _ => exact absurd (show false = true from fy) Bool.false_ne_true
def eqU (x : V) (u : Value) : Bool := match u with
 | .none => eqV .non x
 | .bool b => eqV (.bl b) x
 | .int i _ => eqV (.int i) x
 | .str z _ => eqV (.str z) x
 | _ => false
theorem uB {x y : V} {u : Value} (r : aP y u) (f : fL y = true) : eqU x u = eqV y x := by
 cases y with
 | non => cases r; rfl
 | bl b => cases r; rfl
 | int i => obtain ⟨t, rfl⟩ := r; rfl
 | str z => obtain ⟨t, rfl⟩ := r; rfl
 | _ => exact absurd (show false = true from f) Bool.false_ne_true
theorem iJ {x : V} : ∀ {xs : List V} {us : List Value}, ay xs us -> xs.all fL = true -> us.any (eqU x) = xs.any fun y => eqV y x
 | _, _, .nil, _ => rfl
 | y :: xs, u :: us, .cons r t, f => by
  rw [List.all_cons, Bool.and_eq_true] at f
  rw [List.any_cons, List.any_cons, uB r f.1, iJ t f.2]
theorem gH {A : Around} {s : Shared} {x : V} {v : Value} (rx : aP x v) (fx : fL x = true) : ∀ {xs : List V} {us : List Value}, ay xs us -> xs.all fL = true -> ∀ u ∈ us, SeqAt.EqAt A s u v (eqU x u)
 | _, _, .nil, _ => fun u hu => by cases hu
 | y :: xs, u :: us, .cons r t, f => fun u' hu => by
  rw [List.all_cons, Bool.and_eq_true] at f
  rcases List.mem_cons.mp hu with rfl | hu
  ·rw [uB r f.1]; exact Bm r rx f.1 fx
  ·exact gH rx fx t f.2 u' hu
def inV (x : V) (xs : List V) : Bool := xs.any fun y => eqV y x
def rIn (K : PySem.W.Frag) (neg : Bool) : R2 := fun x y H Q => ∃ p xs, y = .ref p /\ (SqL K H p xs \/ SqT K H p xs) /\ fL x = true /\ xs.all fL = true /\ Q (.bl (if neg then !inV x xs else inV x xs)) H
theorem cZ : OpR X (compareOp .In) (rIn X.K false) := by
 intro pins s σ H x y v u Q I rx ry h
 obtain ⟨p, xs, rfl, hq, fx, fs, q⟩ := h
 cases ry
 rcases hq with hq | hq
 ·obtain ⟨its, r, pl, hz⟩ := I.list hq
  refine SeqAt.in_listAt (eqU x) pl.isList (fun w hw => gH rx fx r fs w (by simpa using hw)) ⟨.bl _, H, I, rfl, ?_⟩
  rw [show its.toArray.any (eqU x) = its.any (eqU x) by simp, iJ r fs]
  exact q
 ·obtain ⟨its, r, pl, hz⟩ := I.tuple hq
  refine SeqAt.in_tupleAt (eqU x) pl (fun w hw => gH rx fx r fs w (by simpa using hw)) ⟨.bl _, H, I, rfl, ?_⟩
  rw [show its.toArray.any (eqU x) = its.any (eqU x) by simp, iJ r fs]
  exact q
theorem jL : OpR X (compareOp .NotIn) (rIn X.K true) := by
 intro pins s σ H x y v u Q I rx ry h
 obtain ⟨p, xs, rfl, hq, fx, fs, q⟩ := h
 cases ry
 rcases hq with hq | hq
 ·obtain ⟨its, r, pl, hz⟩ := I.list hq
  refine SeqAt.notIn_listAt (eqU x) pl.isList (fun w hw => gH rx fx r fs w (by simpa using hw)) ⟨.bl _, H, I, rfl, ?_⟩
  rw [show its.toArray.any (eqU x) = its.any (eqU x) by simp, iJ r fs]
  exact q
 ·obtain ⟨its, r, pl, hz⟩ := I.tuple hq
  refine SeqAt.notIn_tupleAt (eqU x) pl (fun w hw => gH rx fx r fs w (by simpa using hw)) ⟨.bl _, H, I, rfl, ?_⟩
  rw [show its.toArray.any (eqU x) = its.any (eqU x) by simp, iJ r fs]
  exact q
theorem aY : cQ X (.builtin "len") (fun xs H Q => ∃ p ys, xs = [.ref p] /\ (SqL X.K H p ys \/ SqT X.K H p ys) /\ Q (.int ys.length) H) := by
 intro pins s σ H xs us Q I r h
 obtain ⟨p, ys, rfl, hq, q⟩ := h
 obtain ⟨u, rfl, rx⟩ := iP r
 cases rx
 have hn := jP
 rcases hq with hq | hq
 ·obtain ⟨its, r', pl, hz⟩ := I.list hq
  have hlen := r'.length
  exact Calls.call_len_list pl.isList (by simp only [List.size_toArray] <;> omega) ⟨.int ys.length, H, I.tok _, ⟨s.toks + 1, by rw [List.size_toArray, hlen]⟩, q⟩
 ·obtain ⟨its, r', pl, hz⟩ := I.tuple hq
  have hlen := r'.length
  exact len_tuple pl (by simp only [List.size_toArray] <;> omega) ⟨.int ys.length, H, I.tok _, ⟨s.toks + 1, by rw [List.size_toArray, hlen]⟩, q⟩
theorem eU : cQ X (.type "list") (fun xs H Q => ∃ p ys, xs = [.ref p] /\ (SqL X.K H p ys \/ SqT X.K H p ys) /\ ∀ l, H l = none -> Q (.ref l) (upd H l (.lst ys))) := by
 intro pins s σ H xs us Q I r h
 obtain ⟨p, ys, rfl, hq, q⟩ := h
 obtain ⟨u, rfl, rx⟩ := iP r
 cases rx
 have fin : ∀ (its : List Value), ay ys its -> ys.length <= sizeLine -> ∀ (h' : Heap) (c' : Nat), (∀ b o', s.heap.get? b = some o' -> h'.get? b = some o') ->
   h'.get? s.heap.objs.size = some { cls := .type "list", dict := none, data := .seq its.toArray c', slots := #[] } -> EP X pins σ Q (.ref s.heap.objs.size) { s with heap := h' } := fun its r' hz h' c' kp e =>
  ⟨.ref s.heap.objs.size, _, I.laid (t' := s.toks) kp (Nat.le_refl _) (show bo X.prog X.w _ h' _ (.lst ys) from ⟨hz, its, c', r', e⟩), rfl, q _ (I.hok.fresh (Nat.le_refl _))⟩
 rcases hq with hq | hq
 ·obtain ⟨its, r', pl, hz⟩ := I.list hq
  have hlen := r'.length
  obtain ⟨o, ho, hc, n, hd⟩ := pl.isList
  exact call_list_seq p (.inl rfl) ho hc hd (fun h' c' kp e => fin its r' hz h' c' kp e) (by simp only [List.size_toArray] <;> omega)
 ·obtain ⟨its, r', pl, hz⟩ := I.tuple hq
  have hlen := r'.length
  obtain ⟨o, ho, hc, n, hd⟩ := pl
  exact call_list_seq p (.inr rfl) ho hc hd (fun h' c' kp e => fin its r' hz h' c' kp e) (by simp only [List.size_toArray] <;> omega)
theorem oa : cQ X (.type "tuple") (fun xs H Q => ∃ p ys, xs = [.ref p] /\ ((SqL X.K H p ys /\ ∀ l, H l = none -> Q (.ref l) (upd H l (.tup ys))) \/ (SqT X.K H p ys /\ Q (.ref p) H))) := by
 intro pins s σ H xs us Q I r h
 obtain ⟨p, ys, rfl, h⟩ := h
 obtain ⟨u, rfl, rx⟩ := iP r
 cases rx
 rcases h with ⟨hq, q⟩ | ⟨hq, q⟩
 ·obtain ⟨its, r', pl, hz⟩ := I.list hq
  have hlen := r'.length
  refine call_tuple_list pl.isList (fun h' kp => ?_) (by simp only [List.size_toArray] <;> omega)
  have I1 : Inv X pins σ H { s with heap := h' } := I.kept (t' := s.toks) kp
  have I2 : Inv X pins σ (upd H h'.objs.size (.tup ys)) { s with heap := h'.push { cls := .type "tuple", data := .seq its.toArray } } :=
   I1.laid (t' := s.toks) (fun b o e => Heap.get?_push_of_some _ e) (Nat.le_refl _) (show bo X.prog X.w _ _ _ (.tup ys) from ⟨hz, its, r', IsTup.new _ _⟩)
  exact ⟨.ref h'.objs.size, _, I2, rfl, q _ (I1.hok.fresh (Nat.le_refl _))⟩
 ·obtain ⟨its, r', pl, hz⟩ := I.tuple hq
  exact call_tuple_same pl ⟨.ref p, H, I, rfl, q⟩
variable {o e : Expr} {es : List Expr} {to : TE} {t : TA} {name : Str} {apos cpos : Pos} {T id : String} {r : V -> List V -> Hp -> VK -> Prop}
/- xs.append(e), list.index on a module's tuple .. are MtR facts of 06m -/
end
theorem ay.rep {xs : List V} {us : List Value} (h : ay xs us) : ∀ k : Nat, ay (List.replicate k xs).flatten (List.replicate k us).flatten
 | 0 => .nil
 | k + 1 => by
  rw [List.replicate_succ, List.replicate_succ, List.flatten_cons, List.flatten_cons]
  exact ay.append h (ay.rep h k)
theorem nC (its : List Value) : ∀ (k : Nat) (acc : List Value),
  List.foldl (fun x1 x2 => x1 ++ x2) acc.toArray (List.replicate k its.toArray) = (acc ++ (List.replicate k its).flatten).toArray
 | 0, acc => by simp
 | k + 1, acc => by
  have e : acc.toArray ++ its.toArray = (acc ++ its).toArray := by simp
  have e2 : (acc ++ its) ++ (List.replicate k its).flatten = acc ++ (List.replicate (k + 1) its).flatten := by
   rw [List.replicate_succ, List.flatten_cons, List.append_assoc]
  rw [← e2, ← nC its k (acc ++ its), ← e, List.replicate_succ, List.foldl_cons]
section
variable {X : Cx} {pins : List (Addr × Obj)} {σ : St} {H : Hp} {s : Shared} {l b : Addr} {xs ys zs : List V}
theorem Inv.lset {its its' : List Value} {n : Nat} {f : Array Value -> Array Value} {t' : Nat} (I : Inv X pins σ H s) (hH : H l = some (.lst xs))
  (e : s.heap.get? l = some { cls := .type "list", data := .seq its.toArray n }) (hf : f its.toArray = its'.toArray) (hv : ay ys its') (hz : ys.length <= sizeLine) :
  Inv X pins σ (upd H l (.lst ys)) { s with heap := s.heap.update l (Obj.mapSeq f), toks := t' } := by
 have q := PySem.IsL.update e f
 rw [hf] at q
 refine I.write (x := l) (e := l) (by rw [hH]; exact trivial) (.inl rfl) (fun b' u hb hu => (Heap.get?_update_other s.heap (Obj.mapSeq f) (Ne.symm hb)).trans hu) ⟨_, q⟩ ?_
 exact ⟨hz, its', _, hv, q⟩
theorem Inv.lnew {its : List Value} {t' : Nat} (I : Inv X pins σ H s) (hv : ay ys its) (hz : ys.length <= sizeLine) :
  Inv X pins σ (upd H s.heap.objs.size (.lst ys)) { s with heap := s.heap.push { cls := .type "list", data := .seq its.toArray }, toks := t' } :=
 I.laid (fun _ _ q => Heap.get?_push_of_some _ q) (Nat.le_refl _) ⟨hz, its, 0, hv, Heap.get?_push_size _ rfl⟩
theorem Inv.fresh (I : Inv X pins σ H s) : H s.heap.objs.size = none := I.hok.fresh (Nat.le_refl _)
theorem Inv.lstM (I : Inv X pins σ H s) (hH : H l = some (.lst xs)) : xs.length <= sizeLine /\ ∃ (its : List Value) (n : Nat), ay xs its /\ xs.length = its.length /\ s.heap.get? l = some { cls := .type "list", data := .seq its.toArray n } := by
 obtain ⟨z, its, n, r, e⟩ := I.hok l _ hH
 exact ⟨z, its, n, r, r.length, e⟩
theorem vv {n : Nat} (h : n <= sizeLine) : Builtin.List.listTooLong n = false := by
 unfold Builtin.List.listTooLong
 exact decide_eq_false (by omega)
end
section
variable {X : Cx}
def rCat : R2 := fun x y H Q => ∃ l b xs zs, x = .ref l /\ y = .ref b /\ H l = some (.lst xs) /\ H b = some (.lst zs) /\ xs.length + zs.length <= sizeLine /\ ∀ p, H p = none -> Q (.ref p) (upd H p (.lst (xs ++ zs)))
theorem A2 : OpR X (binaryOp .Add) rCat := by
 intro pins s σ H x y v u Q I rx ry h
 obtain ⟨l, b, xs, zs, rfl, rfl, hH, hB, hz, q⟩ := h
 cases rx
 cases ry
 obtain ⟨z, its, n, r, hl, e⟩ := I.lstM hH
 obtain ⟨z2, its2, n2, r2, hl2, e2⟩ := I.lstM hB
 refine PySem.P.add_list e e2 ?_ (by rw [List.size_toArray, List.size_toArray]; omega)
 have ea : its.toArray ++ its2.toArray = (its ++ its2).toArray := by simp
 rw [ea]
 exact ⟨.ref _, _, I.lnew (t' := s.toks) (r.append r2) (by rw [List.length_append]; omega), rfl, q _ I.fresh⟩
def rRep : R2 := fun x y H Q => ∃ l k xs, x = .ref l /\ y = .int k /\ H l = some (.lst xs) /\ -(2 ^ 63) <= k /\ k < 2 ^ 63 /\ xs.length * k.toNat <= sizeLine /\
 ∀ p, H p = none -> Q (.ref p) (upd H p (.lst (List.replicate k.toNat xs).flatten))
theorem zK {α : Type} (xs : List α) (k : Nat) : (List.replicate k xs).flatten.length = k * xs.length := by
 induction k with
 | zero => simp
 | succ k ih => rw [List.replicate_succ, List.flatten_cons, List.length_append, ih, Nat.succ_mul, Nat.add_comm]
theorem AY : OpR X (binaryOp .Mult) rRep := by
 intro pins s σ H x y v u Q I rx ry h
 obtain ⟨l, k, xs, rfl, rfl, hH, h1, h2, hz, q⟩ := h
 cases rx
 obtain ⟨t, rfl⟩ := ry
 obtain ⟨z, its, n, r, hl, e⟩ := I.lstM hH
 have hlen : its.toArray.size * k.toNat <= sizeLine := by rw [List.size_toArray, ← hl]; exact hz
 have hcap : ¬ its.toArray.size * k.toNat > (2 ^ 63 - 1) / 8 := by
  have : (sizeLine : Nat) <= (2 ^ 63 - 1) / 8 := by decide
  omega
 have hfit : ¬ (!Builtin.List.listFitsIndex k) = true := by
  rw [fitsIndex_both h1 h2]
  exact Bool.false_ne_true
 have hlong : ¬ Builtin.List.listTooLong (its.toArray.size * k.toNat) = true := by
  rw [vv hlen]
  exact Bool.false_ne_true
 have hnew : List.foldl (fun x1 x2 => x1 ++ x2) #[] (List.replicate (if its.toArray.isEmpty = true then 0 else k.toNat) its.toArray) = (List.replicate k.toNat its).flatten.toArray := by
  have f0 : ∀ m : Nat, List.foldl (fun x1 x2 => x1 ++ x2) #[] (List.replicate m its.toArray) = (List.replicate m its).flatten.toArray := fun m => by
   have := nC its m []
   rw [List.nil_append] at this
   exact this
  rw [f0]
  cases its with
  | nil => simp
  | cons a r' => rw [if_neg (by simp)]
 refine wpAny_binaryOp_repeat_ref (T := "list") (U := "int") (by decide) ⟨_, e, rfl⟩ (fun s' => typeIs_int s' k t) noFill_list_mul F.fills_int_mul F.slot_int_rmul repeat_list F.slot_int_index.lookup
  (call_meets F.slot_int_rmul (typeIs_int s k t) F.entry_int_rmul (F.args_int_rmul_2 _ _) (int___rmul___int_list k t l its.toArray n)
   ⟨e, rfl, ⟨_, e, rfl⟩, call_meets F.slot_list_mul ⟨_, e, rfl⟩ F.entry_list_mul (F.args_list_mul_2 _ _) (AutoListH.list___mul___list_int_3 l its.toArray n k t hfit hcap hlong) ⟨e, ?_⟩⟩)
 rw [hnew]
 exact ⟨.ref _, _, I.lnew (t' := s.toks) (r.rep k.toNat) (by rw [zK, Nat.mul_comm]; exact hz), rfl, q _ I.fresh⟩
end
section
variable {prog : Program} {w : World} {A : Around} {E : Value -> Shared -> Prop} {s : Shared}
end
section
variable {X : Cx}
end
end L2
namespace Att
open PySem PySem.W PySem.Calls PyProof.Rows
theorem lW {P : Params} {h : Heap} : ∀ (ns : List Int) (vs : List Value), WellAll P h vs (ns.map WData.int) -> IntsAre vs ns := by
 intro ns
 induction ns with
 | nil =>
  intro vs w
  rw [List.map_nil] at w
  cases w
  exact .nil
 | cons n ns ih =>
  intro vs w
  rw [List.map_cons] at w
  cases w with
  | cons a b =>
   cases a
   exact .cons _ _ (ih _ b)
theorem tN {l : OpenLaw} {n : Nat} (hn : l.most = some n) {P : Params} {h : Heap} {args : List WData} {vals : List Value}
  (hpre : l.row.toRowW.claim.pre args = true) (hwl : WellAll P h vals args) :
  ∃ a vs ns, vals = [Value.ref a] /\ args = [WData.list (ns.map WData.int)] /\ h.get? a = some { cls := .type "list", data := .seq vs.toArray } /\ IntsAre vs ns /\ ns.length <= n := by
 have hsh : WShape.hasAll [] args [.list .int] = true := (pre_splitW hpre).1
 have hc : l.pre.holds [] { args := args } = true := (pre_splitW hpre).2
 obtain ⟨d, r, rfl, h1, h2⟩ := hasAllW_cons hsh
 obtain rfl := hasAllW_nil h2
 obtain ⟨xs, rfl, h3⟩ := hasW_list h1
 obtain ⟨ns, rfl⟩ := items_int h3
 have hlen : ns.length <= n := by
  unfold OpenLaw.pre at hc
  have h4 : (WTm.not (.lt (.lit (.int (n : Int))) (.len (.arg 0)))).holds [] { args := [.list (ns.map .int)] } = true := by
   have h4 := (holds_andW hc).1
   rw [hn] at h4
   exact h4
  have h5 := condW_of h4 (w_not (w_lt w_lit (w_len_list (w_arg rfl))))
  rw [List.length_map] at h5
  refine Nat.le_of_not_lt fun q => ?_
  have q' : (n : Int) < ((ns.length : Nat) : Int) := by omega
  first
   | (rw [decide_eq_true q'] at h5; exact absurd h5 (by decide))
   | (simp at h5; omega)
 cases hwl with
 | cons w1 w2 =>
  cases w2
  cases w1 with
  | list ho hall => exact ⟨_, _, ns, rfl, rfl, ho, lW ns _ hall, hlen⟩
theorem tZ (l : OpenLaw) (args : List WData) : l.row.toRowW.claim.post args (.bool true) args = true :=
 postW_of (r := l.row.toRowW) (X := (true == true))
  (show WShape.has [] (.bool true) .bool = true by first | rfl | decide | simp [WShape.has, WShape.arms, WShape.armsAll])
  (show (WTm.eq .res (.lit (.bool true))).value [] { args := args, res := some (.bool true), after := args } = some (.bool (true == true)) from w_eq_bool (w_res rfl) w_lit) rfl
theorem attach_call {l : OpenLaw} {n : Nat} {q : Program} {loose : List Str} {XP : (Str -> Option Value) -> Heap -> Prop} {YP : World -> Heap -> Prop} {d : DefRec}
  (hn : l.most = some n) (hdf : d.params.defaults = [])
  (call : ∀ (w : World) (s₀ s₁ : Shared) (mg mb : Str -> Option Value) (fa : Addr) (o : Obj) (pm cd doc : Value) (a : Addr) (vs : List Value) (ns : List Int),
   Ground q loose [] XP w s₀ mg mb s₁.heap -> YP w s₁.heap ->
   s₁.heap.get? fa = some o -> o.data = .func (docDef d.name d.params d.body d.scope pm cd doc) -> s₁.heap.CodeRec cd d.name -> mg d.name = some (.ref fa) ->
   s₁.heap.get? a = some { cls := .type "list", data := .seq vs.toArray } -> IntsAre vs ns -> ns.length <= n -> s₁.gens = #[] ->
   codeAny (model l.prog w) callerA (.call (.ref fa) ⟨[.ref a], []⟩) (fun r s' => r = .ok (.ret (.bool true)) /\ OldK s₁.heap s'.heap /\ s'.os = s₁.os /\ AllBare s'.gens) s₁) :
  WalkO q loose XP YP l.row.toRowW d [] (fun f vs => PySem.call f vs) := by
 intro w s₀ s₁ mg mb G Y fa o pm cd doc dV kV ho hd hcd hD hmg hg args vals as hpre hlay hrd hwl hlo
 obtain rfl : dV = .none := Dflts.none hD hdf
 obtain rfl : kV = .none := Dflts.noKw hD
 obtain ⟨a, vs, ns, rfl, rfl, hobj, hints, hlen⟩ := tN hn hpre hwl
 refine enter_call (codeAny_mono (call w s₀ s₁ mg mb fa o pm cd doc a vs ns G Y ho (fd_plain hd) hcd hmg hobj hints hlen hg) fun r s' hq => ?_)
 obtain ⟨rfl, h2, h3, h4⟩ := hq
 exact ⟨.inl ⟨.bool true, .bool true, [], rfl, fun _ => rfl, .bool true, tZ l _, fun _ => ⟨List.Pairwise.nil, fun _ hm => (nomatch hm)⟩⟩, h2, h3, h4⟩
section
variable {prog : Program} {w : World} {A : Around} {E : Value -> Shared -> Prop} {s : Shared} {K : Frag}
end
end Att
namespace L2
open PySem PySem.Spec PyProof.Rows
theorem nc : ∀ {vs : List Value} {ns : List Int}, IntsAre vs ns -> ay (ns.map V.int) vs
 | _, _, .nil => .nil
 | _, _, .cons n t h => .cons ⟨t, rfl⟩ (nc h)
def yi (H : Hp) : Prop := ∀ b, H b = none \/ ∃ o xs, H b = some (.frz o (.lst xs))
theorem vH {P : Program} {w : World} {K : PySem.W.Frag} {mg mb : Str -> Option Value} {CX : CXT} {k : Nat} {fa a : Addr} {fd : FuncData} {x : Str} {sp : Sp} {s₁ : Shared} {vs : List Value} {ns : List Int}
  (KX : K.In s₁.heap) (hns : s₁.heap.Ns mainGlobals mg) (hb : s₁.heap.Ns builtinsNs mb) (hbb : ∀ x : Str, x ≠ "__name__" -> mb x = bootBuiltins x) (hlim : s₁.heap.NoLimit) (hg : s₁.gens = #[])
  (ha : s₁.heap.get? a = some { cls := .type "list", data := .seq vs.toArray }) (hi : IntsAre vs ns) (hl : ns.length <= sizeLine) (hr : Room k callerA)
  (F : ∀ base : Heap, K.In base -> base.Ns mainGlobals mg -> FnOk P w K mg base CX k fa fd [x] sp) (hbind : ∀ (s : Shared) (u : Value), BindsTo s fd ⟨[u], []⟩ [(x, u)])
  (hsp : ∀ H : Hp, yi H -> SqL K H a (ns.map V.int) -> sp [.ref a] H (fun v _ => v = .bl true) fun _ _ _ => False)
  (hCX : ∀ H e s', CX [] H s₁ (fun _ _ _ => False) e s' -> False) :
  codeAny (model P w) callerA (.call (.ref fa) ⟨[.ref a], []⟩) (fun r s' => r = .ok (.ret (.bool true)) /\ OldK s₁.heap s'.heap /\ s'.os = s₁.os /\ AllBare s'.gens) s₁ := by
 have rv := nc hi
 have lenV := hi.length
 -- from an abstract heap in which nothing but the script may be tracked
 have core : ∀ H : Hp, yi H -> SqL K H a (ns.map V.int) -> HOk P w H s₁.heap -> (∀ b, H b ≠ none -> b = a) -> (H a ≠ none -> K.lookup a = none) ->
   codeAny (model P w) callerA (.call (.ref fa) ⟨[.ref a], []⟩) (fun r s' => r = .ok (.ret (.bool true)) /\ OldK s₁.heap s'.heap /\ s'.os = s₁.os /\ AllBare s'.gens) s₁ := by
  intro H hO hS hok hA hK
  have base_of : ∀ {b : Addr} {o : Obj}, s₁.heap.get? b = some o -> H b = none -> (jc s₁.heap H).get? b = some o := fun e n => vN e n
  have noA : ∀ {b : Addr} {o : Obj} {es : Array DictEntry} {ep : Nat}, s₁.heap.get? b = some o -> o.data = .dict es ep -> H b = none := fun {b o es ep} e d => by
   cases q : H b with
   | none => rfl
   | some u =>
    have e' : b = a := hA b (by rw [q]; simp)
    subst e'
    rw [ha] at e; cases e
    have d' : Data.seq vs.toArray _ = Data.dict es ep := d
    cases d'
  have nsK : ∀ {b : Addr} {m : Str -> Option Value}, s₁.heap.Ns b m -> (jc s₁.heap H).Ns b m := fun {b m} ⟨o, es, ep, e, d, r⟩ => ⟨o, es, ep, base_of e (noA e d), d, r⟩
  have hKb : K.In (jc s₁.heap H) := fun b o e => base_of (KX b o e) (by
   cases q : H b with
   | none => rfl
   | some u =>
    have e' : b = a := hA b (by rw [q]; simp)
    subst e'
    rw [hK (by rw [q]; simp)] at e; cases e)
  have hM : Mod K mg (jc s₁.heap H) := ⟨hKb, nsK hns, ⟨mb, nsK hb, hbb⟩, let ⟨mc, h1, h2⟩ := hlim; ⟨mc, nsK h1, h2⟩⟩
  have e0 : Env0 P w K mg (jc s₁.heap H) callerA [] s₁ H := ⟨rfl, hM, fun b o e => zC e, Nat.le_of_eq (uu _ _), trivial, fun b hb => absurd (show b ∈ ([] : List Addr) from hb) (by simp), hok, .of_eq hg⟩
  refine codeAny_mono ((F _ hKb (nsK hns)).run callerA [] s₁ H ⟨[.ref a], []⟩ [.ref a] [.ref a] _ _ hr e0 (hbind s₁ (.ref a)) (.cons rfl .nil) (hsp H hO hS)) fun r s' h => ?_
  cases r with
  | error e => exact (hCX H e s' h).elim
  | ok fl =>
   cases fl with
   | next => exact False.elim h
   | brk => exact False.elim h
   | cont => exact False.elim h
   | ret u =>
    obtain ⟨v, H', os, bare, un, hok', r', q⟩ := h
    have q' : v = .bl true := q
    subst q'
    obtain rfl : u = Value.bool true := r'
    refine ⟨rfl, OldK.of_keep fun b o e => ?_, os, bare⟩
    cases q : H b with
    | none => exact un.keep b o e q (by intro z; exact absurd (show b ∈ ([] : List Addr) from z) (by simp)) (by simp)
    | some u =>
     rcases hO b with z | ⟨ob, xs, z⟩
     ·rw [q] at z; cases z
     ·have z2 := un.frzs b ob _ z
      obtain ⟨e1, _⟩ := hok b _ z
      obtain ⟨e2, _⟩ := hok' b _ z2
      rw [e] at e1; cases e1
      exact e2
 cases hk : K.lookup a with
 | some o =>
  -- the script is one of the module's own objects
  have e := KX a o hk
  rw [ha] at e
  cases e
  refine core (fun _ => none) (fun _ => .inl rfl) (.inr ⟨_, vs.toArray, _, hk, rfl, rfl, rfl, by rw [List.size_toArray, lenV]; exact hl, by simpa using rv⟩) (fun b u z => by have z' : (none : Option HO) = some u := z; cases z') (fun b z => absurd rfl z) fun z => absurd rfl z
 | none =>
  refine core (fun b => if b = a then some (.frz { cls := .type "list", data := .seq vs.toArray } (.lst (ns.map V.int))) else none) (fun b => ?_) (.inl (.inr ⟨{ cls := .type "list", data := .seq vs.toArray }, if_pos rfl⟩)) (fun b u z => ?_) (fun b z => ?_) fun _ => hk
  ·by_cases hb : b = a
   ·exact .inr ⟨_, _, if_pos hb⟩
   ·exact .inl (if_neg hb)
  ·by_cases hb : b = a
   ·have z' := (if_pos hb).symm.trans z
    cases z'
    subst hb
    exact ⟨ha, by rw [List.length_map]; exact hl, vs, _, rv, ha⟩
   ·have z' := (if_neg hb).symm.trans z
    cases z'
  ·by_cases hb : b = a
   ·exact hb
   ·exact absurd (if_neg hb) z
theorem walk_of {l : PySem.W.OpenLaw} {n k : Nat} {q : Program} {loose : List Str} {XP : (Str -> Option Value) -> Heap -> Prop} {YP : World -> Heap -> Prop} {d : DefRec} {K : Params -> PySem.W.Frag} {CX : World -> CXT} {sp : World -> Sp} {x : Str}
  (hn : l.most = some n) (hn2 : n <= sizeLine) (hdf : d.params.defaults = []) (hr : Room k callerA)
  (hY : ∀ (w : World) (h : Heap), YP w h -> (K w.params).In h)
  (F : ∀ (w : World) (mg : Str -> Option Value) (fa : Addr) (h : Heap), (K w.params).In h -> h.Ns mainGlobals mg -> mg d.name = some (.ref fa) ->
   ∃ fd : FuncData, (∀ (s : Shared) (u : Value), BindsTo s fd ⟨[u], []⟩ [(x, u)]) /\
    ∀ base : Heap, (K w.params).In base -> base.Ns mainGlobals mg -> FnOk l.prog w (K w.params) mg base (CX w) k fa fd [x] (sp w))
  (hsp : ∀ (w : World) (H : Hp) (a : Addr) (ns : List Int), ns.length <= n -> yi H -> SqL (K w.params) H a (ns.map V.int) -> sp w [.ref a] H (fun v _ => v = .bl true) fun _ _ _ => False)
  (hCX : ∀ (w : World) (H : Hp) (s : Shared) (e : Value) (s' : Shared), CX w [] H s (fun _ _ _ => False) e s' -> False) :
  PySem.W.WalkO q loose XP YP l.row.toRowW d [] (fun f vs => PySem.call f vs) := by
 refine Att.attach_call hn hdf fun w s₀ s₁ mg mb fa o pm cd doc a vs ns G Y ho hd hcd hmg hobj hints hlen hg => ?_
 have KX := hY w _ Y
 obtain ⟨fd, hb, hF⟩ := F w mg fa _ KX G.T.g hmg
 exact vH KX G.T.g G.T.b G.T.builtins G.T.nolimit hg hobj hints (Nat.le_trans hlen hn2) hr hF hb (fun H hO hS => hsp w H a ns hlen hO hS) fun H e s' => hCX w H s₁ e s'
end L2
/- THE LAST THEOREM (shape; LID, My.* are yours):
  My.Adr: a structure of the addresses that your layer names (classes, functions); My.Txt K t: a structure (Prop) of the equations over K;
  My.txt_mk : {K} {implicit addresses ..} (e1 : nsIn K mainGlobals "law" = some (some (.ref f))) (e2 : K.lookup f = some ⟨oc, od, .func (fnOf "law" "law" params body scope dV kV doc pm an cdv ct), sl⟩) (e3 : codeIn K cdv "law" = true) .. : ∃ t, My.Txt K t
set_option maxRecDepth 100000 in
set_option maxHeartbeats 0 in
theorem PySem.Challenge.cw_LID_holds : PySem.Challenge.rw_LID.Holds := by
 w_on; o_law; k_head; (case hw => w_witness2)
 k_fill
 refine L2.walk_of (l := PySem.Challenge.rw_LID) (n := 63) (k := 40) (x := "script") (CX := fun w => ..) (sp := fun _ => My.sp_law) rfl (by decide) rfl ⟨rfl, by decide, by decide⟩ (fun w h Y => PySem.W.kIn_of Y) ?F ?S ?C
 case F =>
  intro w mg fa h KX G hmg
  have T : ∃ t, My.Txt (L2.KOf KX) t := by
   dsimp only [L2.KOf]                          -- K must stand as «<heap const> w.params» for k_is
   refine' My.txt_mk ?e1 ?e2 ?e3 ..
   (case e1 => PySem.W.k_is)                    -- in the order: a name -> its address -> its object -> its parts
   (case e2 => PySem.W.k_is)
   ..
  obtain ⟨t, T⟩ := T
  have e0 := hmg.symm.trans (PySem.W.mg_of KX G T.law)
  cases e0                                       -- fa is the law's own address
  exact ⟨_, fun s u => .of_eq rfl, fun base kb nb => My.law_fn T kb nb⟩     -- if «.of_eq rfl» comes too early: refine' ⟨_, ?b, fun base kb nb => My.law_fn T kb nb⟩; exact fun s u => .of_eq rfl
 case S => exact fun w H a ns hl hO hS => ..
 case C => exact ..
(the tactic k_is has no namespace: write k_is) -/
namespace L2
open PySem PySem.Spec PyProof.Rows
def az (s : Stmt) (j : Nat) : Stmt := match s with
 | .ClassDef _ _ _ body _ _ _ _ _ _ _ => body.getD j (.Pass ⟨0, 0, 0, 0⟩)
 | _ => .Pass ⟨0, 0, 0, 0⟩
def gw (s : Stmt) : Arguments := match s with
 | .FunctionDef _ a _ _ _ _ _ _ _ _ => a
 | _ => { posonlyargs := [], args := [], vararg := none, kwonlyargs := [], kw_defaults := [], kwarg := none, defaults := [] }
def cg (s : Stmt) : List Stmt := match s with
 | .FunctionDef _ _ b _ _ _ _ _ _ _ => b
 | _ => []
def aj (s : Stmt) : Scope := match s with
 | .FunctionDef _ _ _ _ _ _ sc _ _ _ => sc
 | _ => { kind := .function, names := [], isGenerator := false, isCoroutine := false }
abbrev E0 : St -> XK := fun _ _ _ _ => False
structure Fun (K : PySem.W.Frag) (x qual : Str) (st : Stmt) (f : Addr) (fd : FuncData) : Prop where
 ex : ∃ (oc : Value) (od : Option Addr) (kV doc pm : Value) (an : Option Addr) (cdv ct : Value) (osl : Array (Option Value)),
  fd = PySem.W.fnOf x qual (gw st) (cg st) (aj st) .none kV doc pm an cdv ct /\ K.lookup f = some ⟨oc, od, .func fd, osl⟩ /\ PySem.W.codeIn K cdv qual = true
 kp : PySem.W.keepIn K (.ref f) = true
section
variable {P : Program} {w : World} {K : PySem.W.Frag} {mg : Str -> Option Value} {base : Heap}
end
theorem nj {n : Nat} (h : n <= 1000) : n < sizeLine := Nat.lt_of_le_of_lt h (by decide)
section
variable {X : Cx}
theorem pv (i : Nat) {x : Str} {pos : Pos} (hN : X.N[i]? = some x := by rfl) (hv : Vis X.env.scope x := by first | exact Or.inl rfl | exact Or.inr (Or.inl rfl) | exact Or.inr (Or.inr rfl)) (hd : (x == ("__debug__" : Str)) = false := by decide)
  (hcd : (x == ("__classdict__" : Str)) = false := by decide) : PE X (.Name x pos) (oS i) := AS hN hv hd hcd
end
theorem iteT {A B : Prop} (h : A) : if true = true then A else B := by
 rw [if_pos rfl]
 exact h
theorem ite2 {c A B : Prop} [Decidable c] (h1 : c -> A) (h2 : ¬ c -> B) : if c then A else B := by
 by_cases h : c
 ·rw [if_pos h]
  exact h1 h
 ·rw [if_neg h]
  exact h2 h
def bF (H H' : Hp) : Prop := ∀ b o, H b = some o -> H' b = some o
theorem bF.refl (H : Hp) : bF H H := fun _ _ h => h
theorem bF.trans {H H1 H2 : Hp} (a : bF H H1) (b : bF H1 H2) : bF H H2 := fun c o h => b c o (a c o h)
theorem bF.free {H H' : Hp} (e : bF H H') {l : Addr} (h : H' l = Option.none) : H l = Option.none := by
 cases q : H l with
 | none => rfl
 | some o =>
  rw [e l o q] at h
  cases h
theorem cD : ∀ (names : List (Str × NameKind)) (n : Nat) (acc : List (Str × Addr)), cellsFrom n names acc = cellsFrom n names [] ++ acc
 | [], _, _ => rfl
 | (x, k) :: r, n, acc => by
  unfold cellsFrom
  split
  ·rw [cD r (n + 1) ((x, n) :: acc), cD r (n + 1) [(x, n)], List.append_assoc]
   rfl
  ·exact cD r n acc
theorem fY : ∀ {names : List (Str × NameKind)} {n : Nat} {x : Str} {c : Addr}, (x, c) ∈ cellsFrom n names [] -> (x, NameKind.cell) ∈ names
 | [], _, _, _, h => by cases h
 | (y, k) :: r, n, x, c, h => by
  unfold cellsFrom at h
  split at h
  ·rename_i hk
   rw [cD] at h
   rcases List.mem_append.mp h with h | h
   ·exact List.mem_cons_of_mem _ (fY h)
   ·obtain ⟨rfl, _⟩ : x = y /\ c = n := by simpa using h
    obtain rfl : k = .cell := by simpa using hk
    exact List.mem_cons_self
  ·exact List.mem_cons_of_mem _ (fY h)
def cz (cells : List (Str × Addr)) : List (Str × NameKind) -> List (Str × Addr) -> List (Str × Addr)
 | [], acc => acc
 | (x, k) :: r, acc => if k == .free then cz cells r ((x, (cells.lookup x).getD 0) :: acc) else cz cells r acc
theorem mem_cloF {cells : List (Str × Addr)} : ∀ {names : List (Str × NameKind)} {acc : List (Str × Addr)} {x : Str} {c : Addr}, (x, c) ∈ cz cells names acc -> (x, c) ∈ acc \/ ((x, NameKind.free) ∈ names /\ c = (cells.lookup x).getD 0)
 | [], _, _, _, h => .inl h
 | (y, k) :: r, acc, x, c, h => by
  unfold cz at h
  split at h
  ·rename_i hk
   obtain rfl : k = .free := by simpa using hk
   rcases mem_cloF h with h | ⟨h, e⟩
   ·rcases List.mem_cons.mp h with h | h
    ·cases h
     exact .inr ⟨List.mem_cons_self, rfl⟩
    ·exact .inl h
   ·exact .inr ⟨List.mem_cons_of_mem _ h, e⟩
  ·rcases mem_cloF h with h | ⟨h, e⟩
   ·exact .inl h
   ·exact .inr ⟨List.mem_cons_of_mem _ h, e⟩
theorem kQ {cells : List (Str × Addr)} : ∀ {names : List (Str × NameKind)} {acc : List (Str × Addr)} {p : Str × Addr}, p ∈ acc -> p ∈ cz cells names acc
 | [], _, _, h => h
 | (y, k) :: r, acc, p, h => by
  unfold cz
  split
  ·exact kQ (List.mem_cons_of_mem _ h)
  ·exact kQ h
theorem kP {cells : List (Str × Addr)} : ∀ {names : List (Str × NameKind)} {acc : List (Str × Addr)} {x : Str}, (x, NameKind.free) ∈ names -> (x, (cells.lookup x).getD 0) ∈ cz cells names acc
 | [], _, _, h => by cases h
 | (y, k) :: r, acc, x, h => by
  unfold cz
  rcases List.mem_cons.mp h with h | h
  ·cases h
   rw [if_pos (by decide)]
   exact kQ List.mem_cons_self
  ·split
   ·exact kP h
   ·exact kP h
theorem js {α : Type} : ∀ {l : List (Str × α)} {x : Str} {c : α}, (x, c) ∈ l -> ∃ d, l.lookup x = some d
 | [], _, _, h => by cases h
 | (y, d) :: r, x, c, h => by
  rw [List.lookup_cons]
  cases hb : x == y with
  | true => exact ⟨d, rfl⟩
  | false =>
   rcases List.mem_cons.mp h with h | h
   ·cases h
    simp at hb
   ·exact js h
theorem ck {α : Type} : ∀ {l : List (Str × α)} {x : Str} {c : α}, (l.map (·.1)).Nodup -> (x, c) ∈ l -> l.lookup x = some c
 | [], _, _, _, h => by cases h
 | (y, d) :: r, x, c, nd, h => by
  rw [List.map_cons] at nd
  obtain ⟨n1, n2⟩ := List.nodup_cons.mp nd
  rw [List.lookup_cons]
  rcases List.mem_cons.mp h with h | h
  ·cases h
   simp
  ·have : x ≠ y := fun e => n1 (e ▸ List.mem_map_of_mem (f := (·.1)) h)
   rw [beq_eq_false_iff_ne.mpr this]
   exact ck n2 h
theorem m7 {env : Env} (f : Str × NameKind -> List (Str × Addr) -> Sem (ForInStep (List (Str × Addr))))
  (hf : ∀ name kind cs, f (name, kind) cs = if kind == .free then (do let a ← cellOf env name; pure (.yield ((name, a) :: cs))) else pure (.yield cs)) :
  ∀ (names : List (Str × NameKind)) (acc : List (Str × Addr)), (∀ y ∈ names, y.2 = .free -> ∃ c, env.cells.lookup y.1 = some c) -> forIn names acc f = pure (cz env.cells names acc)
 | [], _, _ => by rw [List.forIn_nil]; rfl
 | (x, k) :: r, acc, h => by
  rw [List.forIn_cons, hf]
  unfold cz
  have hr : ∀ y ∈ r, y.2 = .free -> ∃ c, env.cells.lookup y.1 = some c := fun y hy => h y (List.mem_cons_of_mem _ hy)
  by_cases hk : (k == NameKind.free) = true
  ·rw [if_pos hk, if_pos hk]
   obtain ⟨c, hc⟩ := h (x, k) List.mem_cons_self (by simpa using hk)
   have hc' : env.cells.lookup x = some c := hc
   have e : cellOf env x = pure c := by unfold cellOf; rw [hc']
   rw [e, hc']
   simp only [pure_bind]
   exact m7 f hf r _ hr
  ·rw [if_neg hk, if_neg hk]
   simp only [pure_bind]
   exact m7 f hf r _ hr
theorem rS {scope : Scope} {env : Env} (h : ∀ y ∈ scope.names, y.2 = .free -> ∃ c, env.cells.lookup y.1 = some c) : closureFor scope env = pure (cz env.cells scope.names []) := by
 simp only [closureFor]
 rw [m7 (env := env) _ (fun name kind cs => by cases hk : kind == NameKind.free <;> simp [hk]) scope.names [] h]
 rfl
theorem vY {M : Model} {A : Around} {E : Value -> Shared -> Prop} {s : Shared} {scope : Scope} {globals : Addr} {cl : List (Str × Addr)} {qual : Str} {env : Env} {Q : Env -> Shared -> Prop}
  (hQ : ∀ h' : Heap, h'.Ns s.heap.objs.size (fun _ => none) -> (∀ b o, s.heap.get? b = some o -> h'.get? b = some o) ->
   (∀ n c, (n, c) ∈ cellsFrom (s.heap.objs.size + 1) scope.names [] -> h'.IsCell c none /\ s.heap.objs.size + 1 <= c) ->
   ((cellsFrom (s.heap.objs.size + 1) scope.names []).Pairwise fun x y => x.2 ≠ y.2) ->
   Q (newEnv scope s.heap.objs.size globals (cellsFrom (s.heap.objs.size + 1) scope.names cl) qual none .none (some env) builtinsNs) { s with heap := h' }) :
  wpAny M A (newFunctionEnv scope globals cl [] qual none .none (some env)) Q E s := by
 simp only [newFunctionEnv, Option.isSome_some, if_true]
 refine wpAny_bind (wpAny_alloc ?_)
 refine wpAny_bind (wpAny_layCells _ (fun name kind cells => by cases hkc : kind == NameKind.cell <;> simp [hkc]) _ _ _ _ ?_)
 have ok := cellsFrom_ok scope.names (s.heap.push { cls := .type "dict", data := .dict #[] }) (s.heap.objs.size + 1) [] ⟨fun _ _ hm => (nomatch hm), List.Pairwise.nil⟩ (by rw [Heap.size_push]; exact Nat.le_refl _)
 rw [Heap.size_push] at ok
 rw [show ({ s with heap := s.heap.push { cls := .type "dict", data := .dict #[] } } : Shared).heap.objs.size = s.heap.objs.size + 1 from Heap.size_push ..]
 have fin := hQ (pushCells (s.heap.push { cls := .type "dict", data := .dict #[] }) scope.names) ((Heap.Ns.new s.heap (.type "dict")).keeps (pushCells_keeps _ _)) (fun b o e => pushCells_keeps _ _ b o (Heap.get?_push_of_some _ e)) ok.empty ok.apart
 exact wpAny_bind (wpAny_pure (wpAny_pure fin))
abbrev bz (X : Cx) (Nc : List Str) (scope : Scope) (cl : List (Str × Addr)) (C : Addr) (fp : List Addr) (s : Shared) (H : Hp) : Cx :=
 { X with N := Nc, s₀ := s, H₀ := H, env := compEnvC scope cl C X.env, outer := X.stack, stack := X.stack, ex := fp, fn := fun x => scope.names.lookup x != some .free, pn := [], xe := fun _ _ => False }
theorem mem_relabel {scope : Scope} {env : Env} {y : Str × NameKind} (h : y ∈ (relabel scope env).names) : y ∈ scope.names \/ (y.2 = .cell /\ (y.1, NameKind.free) ∈ scope.names) := by
 obtain ⟨⟨n, k⟩, hm, e⟩ := List.mem_map.mp h
 dsimp only at e
 split at e
 ·rename_i hk
  cases e
  simp only [Bool.and_eq_true, beq_iff_eq] at hk
  obtain ⟨⟨hk, _⟩, _⟩ := hk
  subst hk
  exact .inr ⟨rfl, hm⟩
 ·cases e
  exact .inl hm
theorem vL {X : Cx} {pins : List (Addr × Obj)} {σ : St} {H : Hp} {s : Shared} {Nc vars : List Str} {caps : List Nat} {scope : Scope} {fp : List Addr} {h' : Heap} (I : Inv X pins σ H s)
  (hk : scope.kind = .function) (hnd : (scope.names.map (·.1)).Nodup) (hfree : ∀ y ∈ scope.names, y.2 = .free -> X.env.kindOf y.1 = some .cell \/ X.env.kindOf y.1 = some .free)
  (hNc : Nc = vars ++ caps.map (fun j => X.N.getD j Str.empty)) (hcap : ∀ j ∈ caps, j < X.N.length /\ scope.names.lookup (X.N.getD j Str.empty) = some .free)
  (hfp : ∀ b ∈ fp, dO X pins H b) (hfo : ∀ b ∈ fp, ∃ o, s.heap.get? b = some o) (ns : h'.Ns s.heap.objs.size fun _ => none) (keep : ∀ b o, s.heap.get? b = some o -> h'.get? b = some o)
  (ce : ∀ n c, (n, c) ∈ cellsFrom (s.heap.objs.size + 1) scope.names [] -> h'.IsCell c none /\ s.heap.objs.size + 1 <= c) (ca : (cellsFrom (s.heap.objs.size + 1) scope.names []).Pairwise fun x y => x.2 ≠ y.2) :
  Inv (bz X Nc scope (cellsFrom (s.heap.objs.size + 1) scope.names (cz X.env.cells scope.names [])) s.heap.objs.size fp s H) [] (List.replicate vars.length none ++ caps.map (fun j => σ.getD j none)) H { s with heap := h' } := by
 -- the cells
 have old : ∀ {x : Str} {c : Addr}, (x, c) ∈ cz X.env.cells scope.names [] -> X.env.cells.lookup x = some c /\ (x, NameKind.free) ∈ scope.names := fun {x c} h => by
  rcases mem_cloF h with h | ⟨hm, e⟩
  ·cases h
  ·obtain ⟨d, hd⟩ := I.ok.has x (hfree _ hm rfl)
   rw [hd] at e
   exact ⟨by rw [hd, e]; rfl, hm⟩
 have cases2 : ∀ {x : Str} {c : Addr}, (cellsFrom (s.heap.objs.size + 1) scope.names (cz X.env.cells scope.names [])).lookup x = some c ->
   (x, c) ∈ cellsFrom (s.heap.objs.size + 1) scope.names [] \/ (X.env.cells.lookup x = some c /\ (x, NameKind.free) ∈ scope.names) := fun {x c} h => by
  have h := PySem.mem_of_lookup h
  rw [cD] at h
  rcases List.mem_append.mp h with h | h
  ·exact .inl h
  ·exact .inr (old h)
 have freeC : ∀ {x : Str}, (x, NameKind.free) ∈ scope.names -> ∃ c, X.env.cells.lookup x = some c /\ (cellsFrom (s.heap.objs.size + 1) scope.names (cz X.env.cells scope.names [])).lookup x = some c := fun {x} hm => by
  obtain ⟨d, hd⟩ := I.ok.has x (hfree _ hm rfl)
  have e := kP (cells := X.env.cells) (acc := []) hm
  obtain ⟨c, hc⟩ := js (l := cellsFrom (s.heap.objs.size + 1) scope.names (cz X.env.cells scope.names [])) (x := x) (c := (X.env.cells.lookup x).getD 0) (by rw [cD]; exact List.mem_append_right _ e)
  rcases cases2 hc with z | ⟨z, _⟩
  ·have z1 := ck hnd (fY z)
   rw [ck hnd hm] at z1
   cases z1
  ·exact ⟨c, z, hc⟩
 have oldlt : ∀ {x : Str} {c : Addr}, X.env.cells.lookup x = some c -> c < s.heap.objs.size := fun {x c} h => let ⟨v, q⟩ := I.cell x c h; q.lt
 have nofr : H s.heap.objs.size = none := I.hok.fresh (Nat.le_refl _)
 have fsub : ∀ b ∈ frs X.stack, b ∈ X.env.locals :: X.fs := I.stkSub
 refine ⟨⟨I.ok.mod, hk, I.ok.glob, I.ok.blt, Nat.le_refl _, fun x y c h1 h2 => ?_, fun x hx => ?_, fun x c hf h => ?_, I.ok.hd, I.ok.frames, .inl rfl, fun b hb => ⟨?_, fun x c h e => ?_⟩, I.bs, Nat.le_trans I.ok.bsz I.sz, fun b o e hb => ?_, fun b hb hf => ?_, I.stack, I.stkFree⟩,
  rfl, I.bare, Un.kept keep, ⟨_, ns, fun i x v e1 e2 e3 => ?_⟩, fun x c h => ?_, nofr, fun x c h => ?_, fun p hp => absurd hp (by simp), I.hok.kept keep, ?_⟩
 ·rcases cases2 h1 with z1 | ⟨z1, _⟩ <;> rcases cases2 h2 with z2 | ⟨z2, _⟩
  ·exact name_of_addr ca z1 z2
  ·exact absurd (Nat.lt_of_lt_of_le (oldlt z2) (Nat.le_trans (Nat.le_succ _) (ce _ _ z1).2)) (Nat.lt_irrefl _)
  ·exact absurd (Nat.lt_of_lt_of_le (oldlt z1) (Nat.le_trans (Nat.le_succ _) (ce _ _ z2).2)) (Nat.lt_irrefl _)
  ·exact I.ok.inj _ _ _ z1 z2
 ·-- has
  have hx : (relabel scope X.env).names.lookup x = some .cell \/ (relabel scope X.env).names.lookup x = some .free := hx
  have hm : (x, NameKind.cell) ∈ scope.names \/ (x, NameKind.free) ∈ scope.names := by
   rcases hx with hx | hx
   ·rcases mem_relabel (PySem.mem_of_lookup hx) with z | ⟨_, z⟩
    ·exact .inl z
    ·exact .inr z
   ·rcases mem_relabel (PySem.mem_of_lookup hx) with z | ⟨_, z⟩
    ·exact .inr z
    ·exact .inr z
  rcases hm with hm | hm
  ·have q := PySem.W.cellsFrom_some scope.names (s.heap.objs.size + 1) (cz X.env.cells scope.names []) (x := x) (.inl (ck hnd hm))
   exact Option.isSome_iff_exists.mp q
  ·obtain ⟨c, _, hc⟩ := freeC hm
   exact ⟨c, hc⟩
 ·-- cab
  rcases cases2 h with z | ⟨_, z⟩
  ·exact Nat.le_trans (Nat.le_succ _) (ce _ _ z).2
  ·have z' : (scope.names.lookup x != some .free) = true := hf
   rw [ck hnd z] at z'
   exact absurd z' (by decide)
 ·obtain ⟨o, e⟩ := hfo b hb
  exact Nat.ne_of_lt (Heap.lt_size e)
 ·rcases cases2 h with z | ⟨z, _⟩
  ·obtain ⟨o, e'⟩ := hfo b hb
   subst e
   exact absurd (Nat.lt_of_lt_of_le (Heap.lt_size e') (Nat.le_trans (Nat.le_succ _) (ce _ _ z).2)) (Nat.lt_irrefl _)
  ·exact (hfp b hb).2.2.2.2.1 x c z e
 ·obtain ⟨_, _, _, h4, _⟩ := hfp b hb
  rcases h4 with z | z
  ·exact I.ok.noex b o e z
  ·exact absurd (Nat.lt_of_lt_of_le (Heap.lt_size (I.ok.bs b o e).1) z) (Nat.lt_irrefl _)
 ·obtain ⟨_, h2, h3, _⟩ := hfp b hb
  rcases List.mem_cons.mp (fsub b hf) with z | z
  ·exact h2 z
  ·exact h3 z
 ·-- the names' values
  have hi : ¬ i < vars.length := fun hi => by
   rw [List.getElem?_append_left (by simpa using hi), List.getElem?_replicate] at e2
   split at e2 <;> cases e2
  have e1' : (vars ++ caps.map (fun j => X.N.getD j Str.empty))[i]? = some x := by rw [← hNc]; exact e1
  rw [List.getElem?_append_right (by omega)] at e1'
  rw [List.getElem?_append_right (by simpa using hi)] at e2
  rw [List.length_replicate] at e2
  cases q : caps[i - vars.length]? with
  | none => rw [List.getElem?_map, q] at e2; cases e2
  | some j =>
   rw [List.getElem?_map, q] at e1' e2
   have e1'' : X.N.getD j Str.empty = x := Option.some.inj e1'
   have e2' : σ.getD j none = some v := Option.some.inj e2
   obtain ⟨hj, hfr⟩ := hcap j (List.mem_of_getElem? q)
   rw [e1''] at hfr
   obtain ⟨c, hc, hc'⟩ := freeC (PySem.mem_of_lookup hfr)
   have hNj : X.N[j]? = some x := by
    rw [← e1'', List.getD_eq_getElem?_getD, List.getElem?_eq_getElem hj]; rfl
   have hσj : σ[j]? = some (some v) := by
    have hl : j < σ.length := by rw [I.len]; exact hj
    rw [List.getD_eq_getElem?_getD, List.getElem?_eq_getElem hl] at e2'
    rw [List.getElem?_eq_getElem hl]
    exact congrArg some e2'
   have hkx := hfree _ (PySem.mem_of_lookup hfr) rfl
   obtain ⟨m, hn, hl⟩ := I.loc
   obtain ⟨u, r, l⟩ := hl j x v hNj hσj (hkx.elim (fun z => .inr (.inl z)) fun z => .inr (.inr z))
   refine ⟨u, r, .inr ⟨?_, c, hc', ?_⟩⟩
   ·rcases e3 with z | z | z
    ·exfalso
     rcases mem_relabel (PySem.mem_of_lookup z) with y | ⟨y, _⟩
     ·rw [ck hnd y] at hfr; cases hfr
     ·cases y
    ·exact .inl z
    ·exact .inr z
   ·rcases l with ⟨l, _⟩ | ⟨_, c', e, z⟩
    ·exfalso
     rcases hkx with y | y
     ·have y' : X.env.kindOf x = some .cell := y
      rw [l] at y'; cases y'
     ·have y' : X.env.kindOf x = some .free := y
      rw [l] at y'; cases y'
    ·rw [hc] at e
     cases e
     exact z.keeps keep
 ·rcases cases2 h with z | ⟨z, _⟩
  ·exact ⟨none, (ce _ _ z).1⟩
  ·obtain ⟨v, q⟩ := I.cell x c z
   exact ⟨v, q.keeps keep⟩
 ·rcases cases2 h with z | ⟨z, _⟩
  ·exact I.hok.fresh (Nat.le_trans (Nat.le_succ _) (ce _ _ z).2)
  ·exact I.freeC x c z
 ·show _ = Nc.length
  rw [hNc, List.length_append, List.length_append, List.length_replicate, List.length_map, List.length_map]
abbrev TB := St -> Hp -> (St -> Hp -> Prop) -> Prop
def iI (elt : Expr) (gens : List Comprehension) (scope : Scope) (pos : Pos) (d : Nat) (acc : Value) (env : Env) (k : Sem PySem.Fin) : Sem PySem.Fin :=
 match gens[d + 1]? with
 | some g' => do
  let x ← eval g'.iter env
  standAt g'.iter.pos
  let x ← if g'.is_async != 0 then foldedIterable g'.iter x else foldedSetIterable g'.iter env x
  let _ ← runOwn (.compStart (.ListComp elt gens scope pos) (d + 1) (← holding [x] (if g'.is_async != 0 then asyncIter x else pyIter x)) acc env) env
  k
 | none => do
  (do let _ ← call (.builtin "list.append") [acc, ← eval elt env])
  k
theorem pN {elt target iter : Expr} {ifs : List Expr} {gens : List Comprehension} {scope : Scope} {pos : Pos} {d : Nat} {it acc : Value} {env : Env} (hg : gens[d]? = some ⟨target, iter, ifs, 0⟩) :
  compTurn (.ListComp elt gens scope pos) d it acc env = (do
   standAt iter.pos
   match ← pyNext it with
   | none => pure (.done .next)
   | some v =>
    letOwnedTupleGo target it v
    assign target env v
    let mut ok := true
    for c in ifs do
     if ok then ok ← isTrue c env (eval c env)
    if ok then iI elt gens scope pos d acc env (again (.compLoop (.ListComp elt gens scope pos) d it acc env))
    else again (.compLoop (.ListComp elt gens scope pos) d it acc env)) := by
 unfold compTurn iI
 dsimp only
 rw [hg]
 dsimp only
 cases gens[d + 1]? <;> rfl
section
variable {prog : Program} {w : World} {A : Around} {R : Result -> Shared -> Prop} {s : Shared}
theorem vD {elt target iter : Expr} {ifs : List Expr} {gens : List Comprehension} {scope : Scope} {pos : Pos} {d : Nat} {it acc : Value} {env : Env} (hg : gens[d]? = some ⟨target, iter, ifs, 0⟩) (I : Nat -> Shared -> Prop)
  (turn : ∀ n s, I n s -> wpAny (model prog w) A (pyNext it) (fun r s₁ => match r with
   | none => R (.ok .next) s₁
   | some v => wpAny (model prog w) A (letOwnedTupleGo target it v) (fun _ s₁' => wpAny (model prog w) A (assign target env v) (fun _ s₂ =>
     wpAny (model prog w) A (forIn ifs true fun c r => if r = true then do let ok ← isTrue c env (eval c env); pure (ForInStep.yield ok) else pure (ForInStep.yield r)) (fun ok s₃ =>
      if ok = true then ∀ (k : Sem PySem.Fin) (Q' : PySem.Fin -> Shared -> Prop) (E' : Value -> Shared -> Prop), (∀ s₄ m, m < n -> I m s₄ -> wpAny (model prog w) A k Q' E' s₄) -> wpAny (model prog w) A (iI elt gens scope pos d acc env k) Q' E' s₃
      else ∃ m, m < n /\ I m s₃) (fun _ _ => False) s₂) (fun _ _ => False) s₁') (fun _ _ => False) s₁) (fun _ _ => False) s)
  (n : Nat) (h : I n s) :
  codeAny (model prog w) A (.compLoop (.ListComp elt gens scope pos) d it acc env) R s := by
 refine codeAny_loop rfl I (fun n s hI => ?_) n h
 show wpAny _ A ((compTurn (.ListComp elt gens scope pos) d it acc env).onRaise (fun x => do noteFrame x env; theTreesLotGoes x)) _ _ s
 refine wpAny_noted ?_
 rw [pN hg]
 refine wpAny_bind (wpAny_standAt (wpAny_bind (wpAny_mono (turn n s hI) (fun r s₁ h₁ => ?_) fun _ _ h' => h'.elim)))
 cases r with
 | none => exact wpAny_pure h₁
 | some v =>
  refine wpAny_bind (wpAny_mono h₁ (fun _ s₁' h₁' => ?_) fun _ _ h' => h'.elim)
  refine wpAny_bind (wpAny_mono h₁' (fun _ s₂ h₂ => wpAny_bind (wpAny_mono h₂ (fun ok s₃ h₃ => ?_) fun _ _ h' => h'.elim)) fun _ _ h' => h'.elim)
  cases ok with
  | false => exact wpAny_pure ⟨rfl, h₃⟩
  | true => exact h₃ _ _ _ fun s₄ m hm hI => wpAny_pure ⟨rfl, m, hm, hI⟩
theorem tK {elt target iter : Expr} {ifs : List Expr} {gens : List Comprehension} {scope : Scope} {pos : Pos} {d : Nat} {it acc : Value} {env : Env} (hg : gens[d]? = some ⟨target, iter, ifs, 0⟩)
  (h0 : codeAny (model prog w) A (.compLoop (.ListComp elt gens scope pos) d it acc env) R s)
  (h : wpAny (model prog w) A (pyIter it) (fun it' s' => codeAny (model prog w) A (.compLoop (.ListComp elt gens scope pos) d it' acc env) R s') (fun _ _ => False) s) :
  codeAny (model prog w) A (.compStart (.ListComp elt gens scope pos) d it acc env) R s := by
 refine codeAny_of_tree ?_
 show wpAny _ _ ((compStart (.ListComp elt gens scope pos) d it acc env).onRaise (fun x => do noteFrame x env; standAt theWindowsPlace)) _ _ s
 refine wpAny_notedAt ?_
 unfold compStart
 have hg' : (clausesOf (.ListComp elt gens scope pos))[d]? = some ⟨target, iter, ifs, 0⟩ := hg
 generalize (clausesOf (.ListComp elt gens scope pos))[d]? = og at hg' ⊢
 subst hg'
 show wpAny _ _ (ask >>= _) _ _ s
 refine wpAny_bind (wpAny_askSetting (wpAny_ite ?_))
 split
 ·first
   | exact wpAny_bind (wpAny_pure (wpAny_pure (And.intro rfl h0)))
   | exact wpAny_pure (And.intro rfl h0)
 ·first
   | exact wpAny_bind (wpAny_rule (wpAny_bind (wpAny_standAt (wpAny_bind (wpAny_mono h (fun it' s' h' => wpAny_pure (And.intro rfl h')) fun _ _ x => x.elim)))))
   | (refine wpAny_bind (wpAny_rule ?_); show wpAny _ _ (standAt iter.pos >>= _) _ _ s; exact wpAny_bind (wpAny_standAt (wpAny_bind (wpAny_mono h (fun it' s' h' => wpAny_pure (And.intro rfl h')) fun _ _ x => x.elim))))
end
def gb (X : Cx) (ifs : List Expr) (t : TT) : Prop :=
 ∀ (pins : List (Addr × Obj)) (s : Shared) (σ : St) (H : Hp) (Q : Bool -> Hp -> Prop), Inv X pins σ H s -> t σ H Q ->
  wpAny (model X.prog X.w) X.A (forIn ifs true fun c r => if r = true then do let ok ← isTrue c X.env (eval c X.env); pure (ForInStep.yield ok) else pure (ForInStep.yield r)) (TP X pins σ Q) X.xe s
def Aq : TT := fun _ H Q => Q true H
theorem pe {X : Cx} : gb X [] Aq := fun _ _ _ H _ I h => wpAny_pure ⟨H, I, h⟩
theorem ve {X : Cx} {c : Expr} {t : TT} (hc : PT X c t) : gb X [c] t := fun pins s σ H Q I h => by
 simp only [List.forIn_cons, List.forIn_nil, if_true]
 exact wpAny_bind (wpAny_bind (wpAny_mono (hc pins s σ H Q I h) (fun b s' hb => wpAny_pure (wpAny_pure hb)) fun _ _ x => x))
def PB (X : Cx) (elt : Expr) (gens : List Comprehension) (scope : Scope) (pos : Pos) (d : Nat) (D : Addr) (t : TB) : Prop :=
 ∀ (pins : List (Addr × Obj)) (s : Shared) (σ : St) (H : Hp) (Q : St -> Hp -> Prop), Inv X pins σ H s -> t σ H Q ->
  ∀ (k : Sem PySem.Fin) (Q' : PySem.Fin -> Shared -> Prop) (E' : Value -> Shared -> Prop), (∀ s' σ' H', Inv X pins σ' H' s' -> Q σ' H' -> wpAny (model X.prog X.w) X.A k Q' E' s') -> wpAny (model X.prog X.w) X.A (iI elt gens scope pos d (.ref D) X.env k) Q' E' s
def eV (J : It) (g : TG) (tt : TT) (tb : TB) : TB := fun σ H Q => ∃ W : Nat -> Nat -> St -> Hp -> Prop, (∃ m, W 0 m σ H) /\ ∀ i m σ H, W i m σ H ->
 (J.stop i H /\ Q σ H) \/ (J.go i H /\ ∃ N : St -> Hp -> Prop, (∀ σ' H', N σ' H' -> ∃ m', m' < m /\ W (i + 1) m' σ' H') /\ ∀ x H', J.yld i H x H' -> g x σ H' fun σ2 H2 => tt σ2 H2 fun b H3 => if b = true then tb σ2 H3 N else N σ2 H3)
def rV (D : Addr) (te : TE) : TB := fun σ H Q => te σ H fun v H1 => ∃ xs, H1 D = some (.lst xs) /\ xs.length < sizeLine /\ Q σ (upd H1 D (.lst (xs ++ [v])))
def yU (wi : TI) (lp : It -> TB) : TB := fun σ H Q => wi σ H fun J H1 => lp J σ H1 Q
section
variable {X : Cx} {elt target iter : Expr} {ifs : List Expr} {gens : List Comprehension} {scope : Scope} {pos : Pos} {d : Nat} {D : Addr}
theorem nE {g : TG} {tt : TT} {tb : TB} (hg : gens[d]? = some ⟨target, iter, ifs, 0⟩) (hc : X.calm = true) (hxe : X.xe = fun _ _ => False) (hgt : PG X target g) (hts : gb X ifs tt) (hb : PB X elt gens scope pos d D tb)
  {it : Addr} {fp : List Addr} {tn : Nat -> Heap -> Prop} {J : It} {pins : List (Addr × Obj)} {s : Shared} {σ : St} {H : Hp} {Q : St -> Hp -> Prop}
  (I : Inv X pins σ H s) (T : Turn X.prog X.w X.K target J fp it tn) (st : tn 0 s.heap) (hf : ∀ b ∈ fp, dO X pins H b) (h : eV J g tt tb σ H Q) :
  codeAny (model X.prog X.w) X.A (.compStart (.ListComp elt gens scope pos) d (.ref it) (.ref D) X.env) (fun r s' => r = .ok .next /\ ∃ σ' H', Inv X pins σ' H' s' /\ Q σ' H') s := by
 obtain ⟨W, ⟨m0, w0⟩, turn⟩ := h
 have stat : ∀ {H' : Hp}, (∀ b ∈ fp, H' b = none) -> ∀ b ∈ fp, dO X pins H' b := fun hn b hb => ⟨hn b hb, (hf b hb).2⟩
 have loop : codeAny (model X.prog X.w) X.A (.compLoop (.ListComp elt gens scope pos) d (.ref it) (.ref D) X.env) (fun r s' => r = .ok .next /\ ∃ σ' H', Inv X pins σ' H' s' /\ Q σ' H') s := by
  refine vD hg (fun n s' => ∃ i σ' H', Inv X pins σ' H' s' /\ tn i s'.heap /\ (∀ b ∈ fp, H' b = none) /\ W i n σ' H') ?_ m0 ⟨0, σ, H, I, st, fun b hb => (hf b hb).1, w0⟩
  rintro n s3 ⟨i, σ3, H3, I3, st3, fr3, w3⟩
  rcases turn i n σ3 H3 w3 with ⟨stop, qn⟩ | ⟨go, N, hN, step⟩
  ·refine thn (T.done X rfl rfl rfl hc i pins s3 σ3 H3 _ I3 (stat fr3) st3 stop) fun r s4 ⟨hr, I4⟩ => ?_
   subst hr
   exact ⟨rfl, σ3, H3, I4, qn⟩
  ·refine thn (T.item X rfl rfl rfl hc i pins s3 σ3 H3 _ I3 (stat fr3) st3 go) fun r s4 ⟨u, hr, h4⟩ => ?_
   subst hr
   refine thn h4 fun _ s5 ⟨x, H5, I5, r5, y5, st5, fr5⟩ => ?_
   have I5' := I5.pinned (stat fr5) (T.obj _ _ st5)
   have again : ∀ {σ7 : St} {H7 : Hp} {s7 : Shared}, Inv X (pins ++ jI fp s5.heap) σ7 H7 s7 -> N σ7 H7 -> ∃ m, m < n /\ ∃ i σ' H', Inv X pins σ' H' s7 /\ tn i s7.heap /\ (∀ b ∈ fp, H' b = none) /\ W i m σ' H' := fun {σ7 H7 s7} I7 n7 => by
    obtain ⟨m', hm, w7⟩ := hN σ7 H7 n7
    refine ⟨m', hm, i + 1, σ7, H7, I7.unpinned, T.keep _ _ _ st5 fun b hb o e => (I7.pin (b, o) (List.mem_append_right _ (List.mem_append_right _ (gj hb e)))).1, fun b hb => ?_, w7⟩
    obtain ⟨o, e, d⟩ := T.obj _ _ st5 b hb
    exact (I7.pin (b, o) (List.mem_append_right _ (List.mem_append_right _ (gj hb e)))).2.1
   have h6 := hgt _ s5 σ3 H5 x u _ I5' r5 (step x H5 y5)
   rw [hxe] at h6
   refine thn h6 fun _ s6 ⟨σ6, H6, I6, q6⟩ => ?_
   have h7 := hts _ s6 σ6 H6 _ I6 q6
   rw [hxe] at h7
   refine thn h7 fun b s7 ⟨H7, I7, q7⟩ => ?_
   cases b with
   | true =>
    rw [if_pos rfl] at q7 ⊢
    intro k Q' E' hk
    refine hb _ s7 σ6 H7 N I7 q7 k Q' E' fun s8 σ8 H8 I8 n8 => ?_
    obtain ⟨m, hm, z⟩ := again I8 n8
    exact hk s8 m hm z
   | false =>
    rw [if_neg Bool.false_ne_true] at q7 ⊢
    exact again I7 q7
 exact tK hg loop (T.self X.A 0 s _ _ st loop)
theorem bG {te : TE} (hg : gens[d + 1]? = none) (he : PE X elt te) (hxe : X.xe = fun _ _ => False) : PB X elt gens scope pos d D (rV D te) := by
 intro pins s σ H Q I h k Q' E' hk
 unfold iI
 rw [hg]
 have h1 := he pins s σ H _ I h
 rw [hxe] at h1
 refine wpAny_bind (wpAny_bind (wpAny_mono h1 (fun u s1 ⟨v, H1, I1, r, xs, hD, hz, q⟩ => ?_) fun _ _ f => f.elim))
 obtain ⟨z, its, n, rv, hl, e⟩ := I1.lstM hD
 refine wpAny_bind (call_meets F.slot_list_append ⟨_, e, rfl⟩ F.entry_list_append (F.args_list_append_2 _ _) (PySem.list_append D its.toArray n u (by rw [List.size_toArray]; omega)) ⟨e, ?_⟩)
 refine wpAny_pure (hk _ σ _ (I1.lset (its' := its ++ [u]) hD e (by simp) (rv.append (.cons r .nil)) ?_) q)
 rw [List.length_append, List.length_singleton]
 omega
theorem zu {target' iter' : Expr} {ifs' : List Expr} {g : TG} {tt : TT} {tb : TB} {wi : TI} (hg : gens[d + 1]? = some ⟨target', iter', ifs', 0⟩) (hc : X.calm = true) (hxe : X.xe = fun _ _ => False) (hi : PI X target' iter' wi)
  (hgt : PG X target' g) (hts : gb X ifs' tt) (hb : PB X elt gens scope pos (d + 1) D tb) (hs : ∀ x, foldedSetIterable iter' X.env x = pure x := by intro _; rfl) : PB X elt gens scope pos d D (yU wi fun J => eV J g tt tb) := by
 intro pins s σ H Q I h k Q' E' hk
 unfold iI
 rw [hg]
 have h1 := hi pins s σ H _ I h
 rw [hxe] at h1
 refine wpAny_bind (wpAny_mono h1 (fun v s1 h1 => wpAny_bind (wpAny_standAt ?_)) fun _ _ f => f.elim)
 show wpAny _ _ (foldedSetIterable iter' X.env v >>= _) _ _ _
 refine wpAny_bind (wpAny_of_eq (hs v) ?_)
 show wpAny _ _ (holding [v] (pyIter v) >>= _) _ _ _
 refine wpAny_bind (wpAny_holding (wpAny_mono h1 (fun itv s2 h2 => ?_) fun _ _ f => f.elim))
 obtain ⟨it, fp, tn, J, H2, e, I2, T, st2, f2, q⟩ := h2
 subst e
 refine wpAny_bind (wpAny_runOwn (codeAny_mono (nE hg hc hxe hgt hts hb I2 T st2 f2 q) fun r s' ⟨hr, z⟩ => ?_))
 subst hr
 obtain ⟨σ', H', I', q'⟩ := z
 exact hk s' σ' H' I' q'
end
def j0 (vars : List Str) (caps : List Nat) (σ : St) : St := List.replicate vars.length none ++ caps.map (fun j => σ.getD j none)
def oo (vars : List Str) (caps : List Nat) (wi : TI) (lp : Addr -> It -> TB) : TE := fun σ H Q => wi σ H fun J H1 => ∀ D, H1 D = none -> lp D J (j0 vars caps σ) (upd H1 D (.lst [])) fun _ H' => Q (.ref D) H'
structure CmpScope (X : Cx) (scope : Scope) (Nc vars : List Str) (caps : List Nat) : Prop where
 kind : scope.kind = .function
 nd : (scope.names.map (·.1)).Nodup
 free : ∀ y ∈ scope.names, y.2 = .free -> X.env.kindOf y.1 = some .cell \/ X.env.kindOf y.1 = some .free
 names : Nc = vars ++ caps.map (fun j => X.N.getD j Str.empty)
 cap : ∀ j ∈ caps, j < X.N.length /\ scope.names.lookup (X.N.getD j Str.empty) = some .free
section
variable {X : Cx} {elt target iter : Expr} {ifs : List Expr} {rest : List Comprehension} {scope : Scope} {pos : Pos} {Nc vars : List Str} {caps : List Nat} {g : TG} {tt : TT} {tb : Addr -> TB} {wi : TI}
def DP (X : Cx) (pins : List (Addr × Obj)) (H : Hp) (C : Addr) : Prop := H C = none /\ C ≠ X.env.locals /\ X.s₀.heap.objs.size <= C /\ (∀ x c, X.env.cells.lookup x = some c -> c ≠ C) /\ ∀ p ∈ X.pn ++ pins, p.1 ≠ C
theorem nF {pins : List (Addr × Obj)} {σ : St} {H : Hp} {s : Shared} {it : Addr} {fp : List Addr} {tn : Nat -> Heap -> Prop} {J : It} {E : Value -> Shared -> Prop} {QQ : Addr -> Hp -> Prop} {RR : Value -> Addr -> Result -> Shared -> Prop}
  (hc : X.calm = true) (S : CmpScope X scope Nc vars caps)
  (hb : ∀ (cl : List (Str × Addr)) (C : Addr) (fp : List Addr) (s : Shared) (H : Hp), PG (bz X Nc scope cl C fp s H) target g /\ gb (bz X Nc scope cl C fp s H) ifs tt /\ ∀ D, PB (bz X Nc scope cl C fp s H) elt (⟨target, iter, ifs, 0⟩ :: rest) scope pos 0 D (tb D))
  (I : Inv X pins σ H s) (T : Turn X.prog X.w X.K target J fp it tn) (st : tn 0 s.heap) (hf : ∀ b ∈ fp, dO X pins H b)
  (q : ∀ D, H D = none -> eV J g tt (tb D) (j0 vars caps σ) (upd H D (.lst [])) fun _ H' => QQ D H')
  (hRR : ∀ (D C : Addr) (s' : Shared) (H' : Hp) (m : Str -> Option Value), Inv X pins σ H' s' -> s'.heap.Ns C m -> DP X pins H' C -> QQ D H' -> RR (.ref D) C (.ok .next) s') :
  wpAny (model X.prog X.w) X.A (newList []) (fun acc s₃ => wpAny (model X.prog X.w) X.A (newFunctionEnv scope X.env.globals (cz X.env.cells scope.names []) [] X.env.qual none .none (some X.env)) (fun cenv s₄ =>
   codeAny (model X.prog X.w) X.A (.compStart (.ListComp elt (⟨target, iter, ifs, 0⟩ :: rest) scope pos) 0 (.ref it) acc { cenv with scope := relabel scope X.env }) (RR acc cenv.locals) s₄) E s₃) E s := by
 refine wpAny_newObj_type ?_
 have hD : H s.heap.objs.size = none := I.fresh
 have I3 : Inv X pins σ (upd H s.heap.objs.size (.lst [])) { s with heap := s.heap.push { cls := .type "list", data := .seq ([] : List Value).toArray } } := I.lnew (t' := s.toks) .nil (Nat.zero_le _)
 generalize hs3 : ({ s with heap := s.heap.push { cls := .type "list", data := .seq ([] : List Value).toArray } } : Shared) = s3 at I3
 have q3 := q s.heap.objs.size hD
 have kp3 : ∀ b o, s.heap.get? b = some o -> s3.heap.get? b = some o := fun b o e => by rw [← hs3]; exact Heap.get?_push_of_some _ e
 have fo3 : ∀ b ∈ fp, ∃ o, s3.heap.get? b = some o := fun b hb => let ⟨o, e, _⟩ := T.obj _ _ st b hb; ⟨o, kp3 b o e⟩
 have f3 : ∀ b ∈ fp, dO X pins (upd H s.heap.objs.size (.lst [])) b := fun b hb' => ⟨by
  rw [upd_ne]
  ·exact (hf b hb').1
  ·obtain ⟨o, e, _⟩ := T.obj _ _ st b hb'
   exact Nat.ne_of_lt (Heap.lt_size e), (hf b hb').2⟩
 generalize hH3 : upd H s.heap.objs.size (.lst []) = H3 at I3 q3 f3
 generalize s.heap.objs.size = D at hD hH3 q3 ⊢
 refine vY fun h' ns keep ce ca => ?_
 have Ic := vL I3 S.kind S.nd S.free S.names S.cap f3 fo3 ns keep ce ca
 obtain ⟨b1, b2, b3⟩ := hb (cellsFrom (s3.heap.objs.size + 1) scope.names (cz X.env.cells scope.names [])) s3.heap.objs.size fp s3 H3
 have st4 : tn 0 h' := T.keep _ _ _ st fun b hb o e => keep b o (kp3 b o e)
 have f4 : ∀ b ∈ fp, dO (bz X Nc scope (cellsFrom (s3.heap.objs.size + 1) scope.names (cz X.env.cells scope.names [])) s3.heap.objs.size fp s3 H3) [] H3 b := fun b hb' =>
  ⟨(f3 b hb').1, (Ic.ok.exf b hb').1, Ic.ok.exfs b hb', .inl hb', (Ic.ok.exf b hb').2, fun p hp => absurd hp (by simp)⟩
 refine codeAny_mono (nE (X := bz X Nc scope (cellsFrom (s3.heap.objs.size + 1) scope.names (cz X.env.cells scope.names [])) s3.heap.objs.size fp s3 H3) (gens := ⟨target, iter, ifs, 0⟩ :: rest) (d := 0) rfl hc rfl b1 b2 (b3 D) Ic T st4 f4 q3) fun r s' ⟨hr, σ', H', I', q'⟩ => ?_
 subst hr
 obtain ⟨m, hm, _⟩ := I'.loc
 have C1 : X.env.locals < s3.heap.objs.size := I3.lt
 refine hRR D _ s' H' m (I3.call' (ch := fp) I'.os I'.base I'.hok I'.bare fun b hb' => ?_) hm ⟨I'.free, Nat.ne_of_gt C1, I3.sz, fun x c e z => ?_, fun p hp z => ?_⟩ q'
 ·obtain ⟨_, h2, h3, h4, h5, h6⟩ := hf b hb'
  exact ⟨h4, h2, h5, h6⟩
 ·obtain ⟨v, e'⟩ := I3.cell x c e
  exact absurd (z ▸ e'.lt) (Nat.lt_irrefl _)
 ·have := Heap.lt_size (I3.pin p hp).1
  rw [z] at this
  exact absurd this (Nat.lt_irrefl _)
theorem Inv.letgo {pins : List (Addr × Obj)} {σ : St} {H : Hp} {s : Shared} {C : Addr} {h' : Heap} (I : Inv X pins σ H s) (o : DP X pins H C) (hs : Heap.SameBut C s.heap h') : Inv X pins σ H { s with heap := h' } :=
 I.turned (t' := s.toks) (fun b ob hb e => (hs.2 b hb).trans e) o.1 (Ne.symm (Ne.symm o.2.1)) (.inr o.2.2.1) o.2.2.2.1 o.2.2.2.2
theorem CmpScope.clo (S : CmpScope X scope Nc vars caps) (ok : X.Ok) : closureFor scope X.env = pure (cz X.env.cells scope.names []) := rS fun y hy hk => ok.has y.1 (S.free y hy hk)
theorem CmpScope.loc (S : CmpScope X scope Nc vars caps) : ∀ x ∈ scope.names, x.2 = .local -> scope.names.lookup x.1 = some .local := fun x hx hk => ck S.nd (by rw [← hk]; exact hx)
theorem qA (hc : X.calm = true) (S : CmpScope X scope Nc vars caps) (hi : PI X target iter wi)
  (hb : ∀ (cl : List (Str × Addr)) (C : Addr) (fp : List Addr) (s : Shared) (H : Hp), PG (bz X Nc scope cl C fp s H) target g /\ gb (bz X Nc scope cl C fp s H) ifs tt /\ ∀ D, PB (bz X Nc scope cl C fp s H) elt (⟨target, iter, ifs, 0⟩ :: rest) scope pos 0 D (tb D))
  (hs : ∀ x, foldedSetIterable iter X.env x = pure x := by intro _; rfl) : PE X (.ListComp elt (⟨target, iter, ifs, 0⟩ :: rest) scope pos) (oo vars caps wi fun D J => eV J g tt (tb D)) := by
 intro pins s σ H Q I h
 rw [eval_ListComp]
 refine wpAny_comprehension_free (use := none) rfl hs (S.clo I.ok) S.kind S.loc (wpAny_mono (hi pins s σ H _ I h) (fun v s1 h1 => wpAny_mono h1 (fun itv s2 h2 => ?_) fun _ _ x => x) fun _ _ x => x)
 obtain ⟨it, fp, tn, J, H2, e, I2, T, st2, f2, q⟩ := h2
 subst e
 refine nF (RR := fun acc C => compPost (model X.prog X.w) X.A X.xe none _ acc C) hc S hb I2 T st2 f2 q fun D C s' H' m I' ns oc q' => ?_
 exact ⟨m, ns, fun h' hs' => ⟨.ref D, H', I'.letgo oc hs', rfl, q'⟩⟩
theorem qy {i : Nat} {x : Str} {pos' spos : Pos} (hN : X.N.Nodup) (hi' : X.N[i]? = some x) (hx : Loc X.env.scope x) (hc : X.calm = true) (S : CmpScope X scope Nc vars caps) (hi : PI X target iter wi)
  (hb : ∀ (cl : List (Str × Addr)) (C : Addr) (fp : List Addr) (s : Shared) (H : Hp), PG (bz X Nc scope cl C fp s H) target g /\ gb (bz X Nc scope cl C fp s H) ifs tt /\ ∀ D, PB (bz X Nc scope cl C fp s H) elt (⟨target, iter, ifs, 0⟩ :: rest) scope pos 0 D (tb D))
  (hsw : swapsWith (.ListComp elt (⟨target, iter, ifs, 0⟩ :: rest) scope pos) (some (.Name x pos')) spos.line X.env = pure true := by rfl)
  (hs : ∀ x, foldedSetIterable iter X.env x = pure x := by intro _; rfl) (hf : X.fn x = true \/ X.env.scope.names.lookup x = some .local := by first | exact .inl rfl | exact .inr rfl | assumption) :
  PS X (.Assign [.Name x pos'] (.ListComp elt (⟨target, iter, ifs, 0⟩ :: rest) scope pos) spos) (jA (oo vars caps wi fun D J => eV J g tt (tb D)) (eQ i)) := by
 intro pins s σ H D I h
 rw [exec_Assign_Name_used _ _ _ _ hsw]
 refine wpAny_bind (wpAny_standAt (wpAny_bind ?_))
 show wpAny _ X.A (do let _ ← comprehension (.ListComp elt (⟨target, iter, ifs, 0⟩ :: rest) scope pos) scope X.env _ (newList []) false (eval iter X.env) (some (assign (.Name x pos') X.env))) _ _ s
 refine wpAny_bind (wpAny_mono (wpAny_comprehension_free (use := some (assign (.Name x pos') X.env)) (Q := fun _ s' => SP X pins D .next s') rfl hs (S.clo I.ok) S.kind S.loc
  (wpAny_mono (hi pins s σ H _ I h) (fun v s1 h1 => wpAny_mono h1 (fun itv s2 h2 => ?_) fun _ _ e => e) fun _ _ e => e)) (fun _ s' hq => wpAny_pure (wpAny_pure hq)) fun _ _ e => e)
 obtain ⟨it, fp, tn, J, H2, e, I2, T, st2, f2, q⟩ := h2
 subst e
 refine nF (RR := fun acc C => compPost (model X.prog X.w) X.A X.xe (some (assign (.Name x pos') X.env)) _ acc C) hc S hb I2 T st2 f2 q fun A C s' H' m I' ns oc q' => ?_
 show wpAny _ X.A (assign (.Name x pos') X.env (.ref A)) _ _ s'
 refine wpAny_assign_Name (nh I' hN hi' hx (v := .ref A) rfl (fun s2 I2 ⟨a, sb, ha⟩ => ?_) hf)
 have hCa : C ≠ a := by
  rcases ha with rfl | ha
  ·exact oc.2.1
  ·exact fun z => oc.2.2.2.1 x a ha z.symm
 exact ⟨m, ns.sameBut sb hCa, fun h' hs' => ⟨_, H', I2.letgo oc hs', q'⟩⟩
end
end L2
namespace L2
open PySem PySem.Spec
open Sem (wp)
open Builtin Builtin.ObjectAttr
abbrev cq (C : Addr) (dx : Option Addr) (t : Addr) : Obj := { cls := .ref C, dict := dx, data := .fields #[.ref t, .none, .none, .none, .bool false, .none] }
structure XShape (h : Heap) (C : Addr) (bm : List Value) : Prop where
 at_ : ∃ (nm q : Str) (N : Addr) (bs : List Value) (hdct : Bool) (sn : List Str) (sub : List Value) (ab : Bool) (col : Option Bool) (dd : Option Addr) (k0 k1 k2 k3 k5 : Option Value),
  h.get? C = some (excClassObj nm q C N bs bm hdct sn sub ab col dd k0 k1 k2 k3 k5 "ValueError.__new__")
 val : bm.contains (.type "ValueError") = true
 bas : bm.contains (.type "BaseException") = true
 att : bm.contains (.type "AttributeError") = false
 nam : bm.contains (.type "NameError") = false
section
variable {prog : Program} {w : World} {A : Around} {E : Value -> Shared -> Prop} {h : Heap} {g : Array GenState} {d : Drawn} {t : Nat} {os : OsState} {C : Addr} {bm rest : List Value}
theorem z5 {R : Result -> Shared -> Prop} (S : XShape h C bm)
  (hq : R (.ok (.ret (.ref (h.objs.size + 1)))) ⟨(h.push { cls := .type "tuple", data := .seq rest.toArray }).push (cq C none h.objs.size), g, d, t, os⟩) (hrest : rest.length <= sizeLine) :
  codeAny (model prog w) A (.builtin "ValueError.__new__" ⟨.ref C :: rest, []⟩) R ⟨h, g, d, t, os⟩ := by
 obtain ⟨⟨nm, q, N, bs, hdct, sn, sub, ab, col, dd, k0, k1, k2, k3, k5, hC⟩, hV, hB, hA, hN⟩ := S
 have Fv := PySem.F.excBase_ValueError
 have hends := Fv.ends
 have hcB : (Value.ref C :: bm).contains (.type "ValueError") = true := by rw [List.contains_cons, hV, Bool.or_true]
 have hcA : (Value.ref C :: bm).contains (.type "AttributeError") = false := by rw [List.contains_cons, hA]; rfl
 have hcN : (Value.ref C :: bm).contains (.type "NameError") = false := by rw [List.contains_cons, hN]; rfl
 refine codeAny_builtinAt Fv.entry ?_
 unfold Builtin.«BaseException.__new__»
 refine wpAt_bind ?_
 show wpAt _ _ _ (stack >>= _) _ _ _
 refine wpAt_bind (wpAt_stack fun p below => wpAt_of_wpAny ?_)
 wp_walk
 refine wpAt_of_wpAny ?_
 rw [Fv.owner]
 repeat (first | with_reducible refine wpAny_madeHere_exc Fv.canon hC ?_ | with_reducible refine wpAny_loadPart_at hC ?_ | (with_reducible refine wpAny_isSubtype_exc hC ?_; first | rw [hcB] | rw [hcA] | rw [hcN]) | wp_step)
 show R _ _
 rw [Heap.size_push]
 exact hq
theorem n9 {K : PySem.W.Frag} {fI : Addr} {Q : PySem.Fin -> Shared -> Prop} (X : K.In h) (S : XShape h C bm) (hi : PySem.W.findIn K (.ref C) "__init__" = some (some (.ref fI))) (hf : PySem.W.isFn K (.ref fI) = true) (hrest : rest.length <= sizeLine)
  (hq : wpAny (model prog w) A (call (.ref fI) (.ref (h.objs.size + 1) :: rest)) (fun r s' => r = .none /\ Q (.done (.ret (.ref (h.objs.size + 1)))) s') E
   ⟨(h.push { cls := .type "tuple", data := .seq rest.toArray }).push { cls := .ref C, data := .fields #[.ref h.objs.size, .none, .none, .none, .bool false, .none] }, g, d, t, os⟩) :
  wpAny (model prog w) A (Builtin.«type.__call__» ⟨.ref C :: rest, []⟩) Q E ⟨h, g, d, t, os⟩ := by
 have S' := S
 obtain ⟨⟨nm, q, N, bs, hdct, sn, sub, ab, col, dd, k0, k1, k2, k3, k5, hC⟩, hV, hB, hA, hN⟩ := S
 have Fv := PySem.F.excBase_ValueError
 repeat (first | with_reducible refine wpAny_loadPart_at hC ?_ | with_reducible refine wpAny_madeBy_exc hC ?_ | wp_step)
 refine codeAny_call_builtin_code (Code.quiet_builtin _ Fv.quiet) (wpAny_check_new_subU Fv hV (OwnTail.base (bmB := bm)) hC ?_)
 refine z5 S' ?_ hrest
 show wpAny _ _ _ _ _ _
 have keep : ∀ b o, h.get? b = some o -> ((h.push { cls := .type "tuple", data := .seq rest.toArray }).push { cls := .ref C, data := .fields #[.ref h.objs.size, .none, .none, .none, .bool false, .none] }).get? b = some o := fun b o e => Heap.get?_push_of_some _ (Heap.get?_push_of_some _ e)
 have hC1 := keep _ _ hC
 have X1 := X.keeps keep
 have hget : ((h.push { cls := .type "tuple", data := .seq rest.toArray }).push { cls := .ref C, data := .fields #[.ref h.objs.size, .none, .none, .none, .bool false, .none] }).get? (h.objs.size + 1) = some { cls := .ref C, data := .fields #[.ref h.objs.size, .none, .none, .none, .bool false, .none] } := by heap_get
 have hcC : (Value.ref C :: bm).contains (.ref C) = true := by simp
 unfold isInstance
 repeat (first | with_reducible refine wpAny_loadPart_at hget ?_ | (with_reducible refine wpAny_isSubtype_exc hC1 ?_; rw [hcC]) | wp_step)
 show wpAny _ _ (typeLookup (.ref C) _) _ _ _
 refine (PySem.W.looks_findIn X1 hi).here ?_
 refine wpAny_holding (wpAny_bind ((PySem.W.bind_fn X1 (.ref (h.objs.size + 1)) (beq_iff_eq.mp hf)).here ?_))
 refine wpAny_bind (wpAny_mono hq (fun r s' hr => ?_) fun _ _ x => x)
 obtain ⟨rfl, hQ⟩ := hr
 wp_walk
 exact hQ
theorem vW {K : PySem.W.Frag} {fI : Addr} {Q : Value -> Shared -> Prop} (X : K.In h) (S : XShape h C bm) (hi : PySem.W.findIn K (.ref C) "__init__" = some (some (.ref fI))) (hf : PySem.W.isFn K (.ref fI) = true) (hrest : rest.length <= sizeLine)
  (hq : wpAny (model prog w) (A.under (.builtin "type.__call__" ⟨.ref C :: rest, []⟩)) (call (.ref fI) (.ref (h.objs.size + 1) :: rest)) (fun r s' => r = .none /\ Q (.ref (h.objs.size + 1)) s') E
   ⟨(h.push { cls := .type "tuple", data := .seq rest.toArray }).push { cls := .ref C, data := .fields #[.ref h.objs.size, .none, .none, .none, .bool false, .none] }, g, d, t, os⟩) :
  wpAny (model prog w) A (call (.ref C) rest) Q E ⟨h, g, d, t, os⟩ := by
 have S' := S
 obtain ⟨⟨nm, q, N, bs, hdct, sn, sub, ab, col, dd, k0, k1, k2, k3, k5, hC⟩, hV, hB, hA, hN⟩ := S
 have f1 := tc_lookup
 have f2 := tc_bind (.ref C)
 have hT : (⟨h, g, d, t, os⟩ : Shared).TypeIs (.ref C) "type" := ⟨_, hC, rfl⟩
 refine wpAny_call (codeAny_of_tree ?_)
 show wpAny _ _ (callAny (.ref C) _) _ _ _
 repeat (any_goals (first | assumption | with_reducible refine wpAny_loadPart_at hC ?_ | wp_step))
 refine ⟨rfl, ?_⟩
 exact codeAny_call_builtin_at (Code.quiet_builtin _ (by decide +kernel)) entry_typeCall (wpAny_check_type_call_sub hC (n9 X S' hi hf hrest hq))
theorem mX {oe : Obj} {M : Model} {e : Addr} {Q : Unit -> Shared -> Prop} (S : XShape h C bm) (he : h.get? e = some oe) (hcls : oe.cls = .ref C) (hq : Q () ⟨h, g, d, t, os⟩) :
  wpAny M A (checkBuiltinCall "ValueError.__init__" ⟨.ref e :: rest, []⟩) Q E ⟨h, g, d, t, os⟩ := by
 obtain ⟨⟨nm, q, N, bs, hdct, sn, sub, ab, col, dd, k0, k1, k2, k3, k5, hC⟩, hV, hB, hA, hN⟩ := S
 have Fv := PySem.F.excBase_ValueError
 have hcB : (Value.ref C :: bm).contains (.type "ValueError") = true := by rw [List.contains_cons, hV, Bool.or_true]
 have hshort := Fv.noStar
 simp only [checkBuiltinCall, Fv.initKind, Fv.initSplit, Fv.initRow]
 repeat (first | (with_reducible refine wpAny_loadPart_at he ?_; rw [hcls]) | with_reducible refine wpAny_loadPart_at hC ?_ | (with_reducible refine wpAny_isSubtype_exc hC ?_; rw [hcB]) | wp_step)
 refine wpAny_onRaise ?_
 have star : ∀ (a b : String) (n : Nat), Bind.check ⟨.positional, "*", "ValueError", .self, [⟨"args", .varPos, false⟩]⟩ a b n (List.map (fun x => x.fst) ({ pos := Value.ref e :: rest } : Args).kw) = pure () := fun a b n => check_star_args _ _ _ _ _ _
 rw [star]
 exact wpAny_pure hq
theorem uy {dx : Option Addr} {t0 e : Addr} {Q : Value -> Shared -> Prop} (S : XShape h C bm) (he : h.get? e = some (cq C dx t0)) (hrest : rest.length <= sizeLine)
  (hq : ∀ h' : Heap, h'.get? e = some (cq C dx h.objs.size) -> (∀ b o, b ≠ e -> h.get? b = some o -> h'.get? b = some o) -> Q .none ⟨h', g, d, t, os⟩) :
  wpAny (model prog w) A (call (.builtin "ValueError.__init__") (.ref e :: rest)) Q E ⟨h, g, d, t, os⟩ := by
 have Fv := PySem.F.excBase_ValueError
 refine wpAny_call (codeAny_call_builtin Fv.init.plain Fv.initEntry (mX S he rfl ?_))
 have he2 := Heap.get?_push_of_some { cls := .type "tuple", data := .seq rest.toArray } he
 unfold Builtin.«BaseException.__init__»
 dsimp only
 refine wpAny_bind ?_
 refine wpAny_newTuple ?_ hrest
 unfold Builtin.BaseException.bexcPut
 refine wpAny_bind (wpAny_bind (wpAny_field he2 rfl (x := .ref t0) rfl ?_))
 refine wpAny_bind (wpAny_setField he2 rfl (by simp) ?_)
 dsimp only
 refine wpAny_letGo (wpAny_pure ?_)
 refine hq _ ?_ fun b o hb e1 => ?_
 ·rw [Heap.get?_update_self _ he2 rfl]
  rfl
 ·rw [Heap.get?_update_other _ _ (Ne.symm hb)]
  exact Heap.get?_push_of_some _ e1
end
def dN : List Value -> Bool
 | [.type a, .type b, .type c, .type d] => a == "ValueError" && b == "Exception" && c == "BaseException" && d == "object"
 | .ref _ :: r => dN r
 | _ => false
theorem pa (self : Value) : refuseLoop self "__setattr__" [.type "ValueError", .type "Exception", .type "BaseException", .type "object"] = pure () := by kernel_rfl
theorem lA (self : Value) : ∀ {l : List Value}, dN l = true -> refuseLoop self "__setattr__" l = pure ()
 | [.type a, .type b, .type c, .type d], e => by
  simp only [dN, Bool.and_eq_true, beq_iff_eq] at e
  obtain ⟨⟨⟨rfl, rfl⟩, rfl⟩, rfl⟩ := e
  exact pa self
 | .ref c :: r, e => by rw [refuseLoop_ref]; exact lA self (by cases r <;> exact e)
theorem qO : ∀ {l : List Value}, dN l = true -> l.contains (.type "object") = true
 | [.type a, .type b, .type c, .type d], e => by
  simp only [dN, Bool.and_eq_true, beq_iff_eq] at e
  obtain ⟨⟨⟨rfl, rfl⟩, rfl⟩, rfl⟩ := e
  decide
 | .ref c :: r, e => by rw [List.contains_cons, qO (l := r) (by cases r <;> exact e), Bool.or_true]
section
variable {prog : Program} {w : World} {A : Around} {E : Value -> Shared -> Prop} {s : Shared} {C e : Addr} {K : PySem.W.Frag} {cd : ClassData} {name : Str} {v : Value}
theorem vV {R : Result -> Shared -> Prop} {tk : Tok} {oe : Obj} (X : K.In s.heap) (he : s.heap.get? e = some oe) (hcls : oe.cls = .ref C) (hc : PySem.W.clsIn K C = some cd) (hl : dN cd.mro = true) (ht : PySem.W.findIn K (.ref C) name = some none)
  (h : ∀ b, wpAny (model prog w) A.in1 (storeInOwnDict (.ref e) (.ref C) (.str name tk) name v b)
   (fun fin s' => match fin with | .done f => R (.ok f) s' | .again c' => c'.quiet = true /\ codeAny (model prog w) A c' R s') (fun x s' => R (.error x) s') s) :
  codeAny (model prog w) A (.call (.builtin "object.__setattr__") ⟨[.ref e, .str name tk, v], []⟩) R s := by
 have SF := PySem.F.store_object
 have tp : PySem.W.Looks (model prog w) s.heap (typeOf (.ref e)) (.ref C) := by
  have := (PySem.W.Looks.ld (M := model prog w) (part := some headPart) he)
  exact this.andThen (by rw [hcls]; exact .now)
 have ne : cd.mro.isEmpty = false := by cases q : cd.mro with | nil => rw [q] at hl; cases hl | cons _ _ => rfl
 have sub : PySem.W.Looks (model prog w) s.heap (isInstance (.ref e) (.type "object")) true := tp.andThen (PySem.W.looks_mroIn X (by unfold PySem.W.mroIn; rw [hc, Option.bind_some, if_neg (by rw [ne]; decide), qO hl]))
 refine codeAny_call_builtin SF.slot.plain SF.entry (@PySem.W.check_slot (model prog w) _ _ s "object.__setattr__" "object" "__setattr__" (.ref e) [.str name tk, v] [] _ SF.kind SF.split sub (SF.args (.ref e) (.str name tk) v) ?_)
 have hm : PySem.W.Looks (model prog w) s.heap (mroOf (.ref C)) cd.mro := (PySem.W.looks_clsIn X hc).andThen .now
 rw [PySem.W.osa_eq, refuse_eq]
 refine wpAny_bind (wpAny_bind (tp.here (wpAny_bind (hm.here ?_))))
 rw [lA _ hl]
 refine wpAny_pure (wpAny_bind (tp.here (wpAny_bind ((PySem.W.looks_findIn X ht).here (wpAny_bind (wpAny_pure ?_))))))
 exact h _
theorem uA {oe : Obj} {Q : Unit -> Shared -> Prop} (X : K.In s.heap) (he : s.heap.get? e = some oe) (hcls : oe.cls = .ref C) (hs : PySem.W.findIn K (.ref C) "__setattr__" = some (some (.builtin "object.__setattr__")))
  (h : codeAny (model prog w) A (.call (.builtin "object.__setattr__") ⟨[.ref e, .str name s.toks, v], []⟩) (fun r s' => match r with | .ok (.ret _) => Q () s' | .ok _ => False | .error x => E x s') { s with toks := s.toks + 1 }) :
  wpAny (model prog w) A (setAttr (.ref e) name v) Q E s := by
 have tp : PySem.W.Looks (model prog w) s.heap (typeOf (.ref e)) (.ref C) := by
  have := (PySem.W.Looks.ld (M := model prog w) (part := some headPart) he)
  exact this.andThen (by rw [hcls]; exact .now)
 refine wpAny_bind (wpAny_mkText (wpAny_bind (wpAny_bind (wpAny_bind (tp _ _ _ _ (fun _ _ e => e) (PySem.W.looks_findIn X hs _ _ _ _ (fun _ _ e => e) (wpAny_holding ?_)))))))
 rw [PySem.F.store_object.slot.bind]
 refine wpAny_bind (wpAny_pure (wpAny_bind (wpAny_call (codeAny_mono h fun r s' z => ?_))))
 rcases r with x | (v | _ | _ | _) <;> first | exact z | exact wpAny_pure (wpAny_pure z)
theorem vU {t0 : Addr} {Q : Unit -> Shared -> Prop} (X : K.In s.heap) (he : s.heap.get? e = some (cq C none t0))
  (hs : PySem.W.findIn K (.ref C) "__setattr__" = some (some (.builtin "object.__setattr__"))) (hc : PySem.W.clsIn K C = some cd) (hd : cd.hasDict = true) (hl : dN cd.mro = true) (ht : PySem.W.findIn K (.ref C) name = some none)
  (hq : ∀ h' : Heap, h'.get? e = some (cq C (some s.heap.objs.size) t0) -> h'.Ns1 s.heap.objs.size (fun y => if y = name then some v else none) ->
   (∀ b o, b ≠ e -> s.heap.get? b = some o -> h'.get? b = some o) -> Q () { s with heap := h', toks := s.toks + 2 }) :
  wpAny (model prog w) A (setAttr (.ref e) name v) Q E s := by
 refine uA X he rfl hs (vV (s := { s with toks := s.toks + 1 }) X he rfl hc hl ht fun b => ?_)
 refine wpAny_bind (wpAny_pure (wpAny_bind (wpAny_bind (wpAny_loadPart he (wpAny_bind (PySem.W.Looks.here (s := { s with toks := s.toks + 1 }) (PySem.W.looks_clsIn X hc) ?_))))))
 rw [hd]
 refine wpAny_bind (wpAny_alloc ?_)
 have he2 := Heap.get?_push_of_some { cls := .type "dict", data := .dict #[] } he
 refine wpAny_bind (wpAny_update he2 (wpAny_pure ?_))
 have hu : ((s.heap.push { cls := .type "dict", data := .dict #[] }).update e fun o => { o with dict := some s.heap.objs.size }).get? e = some (cq C (some s.heap.objs.size) t0) := Heap.get?_update_self _ he2 rfl
 have hne : s.heap.objs.size ≠ e := Nat.ne_of_gt (Heap.lt_size he)
 have hn : ((s.heap.push { cls := .type "dict", data := .dict #[] }).update e fun o => { o with dict := some s.heap.objs.size }).Ns1 s.heap.objs.size fun _ => none := by
  refine Heap.Ns1.of_empty ((Heap.Ns.new s.heap (.type "dict")).sameBut (Heap.SameBut.update ..) hne)
 refine wpAny_bind (wpAny_pure (wpAny_bind ?_))
 refine wpAny_nsSet1 hn fun h' hn2 hs2 => ?_
 obtain ⟨oD, esD, epD, hoD, hdD, hcD⟩ := hn2.count (PySem.Within.cons name v PySem.Within.nil)
 refine wpAny_bind (wpAny_lookBehind hoD (by rw [hdD]; exact pastItsLine_dict (Nat.le_trans hcD (by show 1 <= sizeLine + 1; decide))) ?_)
 refine wpAny_pure (hq h' ((hs2.2 _ (Ne.symm hne)).trans hu) hn2 fun b o hb e1 => ?_)
 have hbs : b ≠ s.heap.objs.size := Nat.ne_of_lt (Heap.lt_size e1)
 refine (hs2.2 _ hbs).trans ?_
 rw [Heap.get?_update_other _ _ (Ne.symm hb)]
 exact Heap.get?_push_of_some _ e1
theorem uz {bm : List Value} {dx : Option Addr} {t0 : Addr} {env : Env} {M : Model} {x : Sem Value} {Q : Flow -> Shared -> Prop} (hh : A.handled = none)
  (h : wpAny M A x (fun v s₁ => ∃ e t0 dx C bm, v = .ref e /\ XShape s₁.heap C bm /\ s₁.heap.get? e = some (cq C dx t0) /\ E (.ref e) s₁) E s) : wpAny M A (raiseStmt env (some x) none) Q E s := by
 unfold raiseStmt
 refine wpAny_bind (wpAny_mono h (fun v s₁ h₁ => ?_) fun _ _ x => x)
 obtain ⟨e, t0, dx, C, bm, rfl, S, he, hE⟩ := h₁
 obtain ⟨⟨nm, q, N, bs, hdct, sn, sub, ab, col, dd, k0, k1, k2, k3, k5, hC⟩, hV, hB, hA, hN⟩ := S
 have hcB : (Value.ref C :: bm).contains (.type "BaseException") = true := by rw [List.contains_cons, hB, Bool.or_true]
 have he' : s₁.heap.get? e = some { cls := .ref C, dict := dx, data := .fields #[.ref t0, .none, .none, .none, .bool false, .none] } := he
 obtain ⟨hp, g, d, tk, os⟩ := s₁
 repeat (first | with_reducible refine wpAny_loadPart_at he' ?_ | with_reducible refine wpAny_loadPart_at hC ?_ | (with_reducible refine wpAny_isSubtype_exc hC ?_; rw [hcB]) | wp_step)
 exact wpAny_raiseNew_none hh hE
end
end L2
namespace L2
open PySem PySem.Spec PyProof.Rows
def de (C x : Addr) (dx : Option Addr) : HO := .ext fun h => ∃ t, h.get? x = some (cq C dx t)
theorem bo.there {P : Program} {w : World} {H : Hp} {h : Heap} {a : Addr} {o : HO} (x : bo P w H h a o) : ∃ ob, h.get? a = some ob := by
 cases o with
 | lst xs => obtain ⟨_, _, _, _, e⟩ := x; exact ⟨_, e⟩
 | tup xs => obtain ⟨_, _, _, _, e, _⟩ := x; exact ⟨_, e⟩
 | dK kvs => obtain ⟨_, _, _, _, o, _, _, e, _⟩ := x; exact ⟨_, e⟩
 | dT kvs => obtain ⟨_, _, _, _, o, _, _, e, _⟩ := x; exact ⟨_, e⟩
 | set S n => obtain ⟨o, _, _, _, e, _⟩ := x; exact ⟨_, e⟩
 | ins C dx fs => obtain ⟨_, _, _, e, _⟩ := x; exact ⟨_, e⟩
 | own y => exact x
 | xd fs => obtain ⟨_, ⟨_, _, _, e, _⟩, _⟩ := x; exact ⟨_, e⟩
 | rng lo hi => obtain ⟨_, _, _, e⟩ := x; exact ⟨_, e⟩
 | frz ob u => obtain ⟨e, _⟩ := x; exact ⟨_, e⟩
 | tbl ps => exact ⟨_, (show h.get? a = some _ from x)⟩
 | met f y => exact ⟨_, (show h.get? a = some _ from x)⟩
 | ext φ => obtain ⟨_, e, _⟩ := x; exact e
theorem mY {P : Program} {w : World} {H : Hp} {h : Heap} {C x t : Addr} {dx : Option Addr} (e : h.get? x = some (cq C dx t)) : bo P w H h x (de C x dx) :=
 ⟨⟨t, e⟩, ⟨_, e⟩, fun _ _ ⟨t, e1⟩ k => ⟨t, k _ e1⟩⟩
theorem jj {P : Program} {w : World} {H : Hp} {h : Heap} {C x : Addr} {dx : Option Addr} (q : bo P w H h x (de C x dx)) : ∃ t, h.get? x = some (cq C dx t) := q.1
def d8 (H : Hp) (x : Addr) : Hp := fun b => if b = x then none else H b
theorem uE {H : Hp} {x : Addr} : d8 H x x = none := by unfold d8; rw [if_pos rfl]
theorem gv {H : Hp} {x b : Addr} (h : b ≠ x) : d8 H x b = H b := by unfold d8; rw [if_neg h]
theorem uD {H : Hp} {x b : Addr} {o : HO} (h : d8 H x b = some o) : b ≠ x /\ H b = some o := by
 unfold d8 at h
 split at h
 ·cases h
 ·exact ⟨by assumption, h⟩
structure Flown (P : Program) (w : World) (outer : List Env) (H : Hp) (s : Shared) (E : XK) (x C : Addr) (H' : Hp) (s' : Shared) : Prop where
 os : s'.os = s.os
 bare : AllBare s'.gens
 un : Un (frs outer) [] H H' s.heap s'.heap
 hok : HOk P w H' s'.heap
 tr : ∃ (oe : Obj) (vs : Array Value) (T : Addr) (oT : Obj) (ts : Array Value) (a0 : Value), s'.heap.get? x = some oe /\ (oe.cls = .ref C /\ vs[0]? = some a0) /\ oe.data = .fields vs /\ vs[1]? = some (.ref T) /\ T ≠ x /\ s'.heap.get? T = some oT /\ oT.data = .fields ts /\ ts[3]? = some .none /\ H' T = none /\ s.heap.get? T = none
 xn : H' x = none
 xs : s.heap.get? x = none
 wish : E (.ref C) none H'
def CXE (P : Program) (w : World) : CXT := fun outer H s E e s' => ∃ x C H', e = .ref x /\ Flown P w outer H s E x C H' s'
theorem nz {X : Cx} {pins : List (Addr × Obj)} {σ : St} {H H' : Hp} {s s' : Shared} {h' : Heap} {ext : List Addr} {x C : Addr} {a0 : Value} {E : XK} (I : Inv X pins σ H s) (hst : X.stack = X.env :: X.outer) (hfr : X.env.frame = some X.env.locals) (hex : X.ex = [])
  (os : s'.os = X.s₀.os) (bare : AllBare s'.gens) (U0 : Un (frs X.stack) [] X.H₀ H' X.s₀.heap s'.heap) (hok : HOk X.prog X.w H' s'.heap) (hfn : ∀ b ∈ frs X.stack, H' b = none)
  (hext : ∀ b ∈ ext, X.s₀.heap.get? b = none /\ H' b = none) (hx : x ∈ ext) (wish : E (.ref C) none H')
  (L : Heap.LeftW (PySem.W.hideAll s'.heap (ext ++ frs X.stack)) (X.env :: X.outer) x (.ref C) a0 s'.heap h') : Flown X.prog X.w X.outer X.H₀ X.s₀ E x C H' { s' with heap := h' } := by
 obtain ⟨L1, L2, L3, L4⟩ := L
 have fsub : ∀ b ∈ frs X.outer, b ∈ frs X.stack := fun b hb => by
  rw [hst]; unfold frs; rw [List.filterMap_cons, hfr]; exact List.mem_cons_of_mem _ hb
 have fcase : ∀ b ∈ frs X.stack, b = X.env.locals \/ b ∈ frs X.outer := fun b hb => by
  rw [hst] at hb; unfold frs at hb; rw [List.filterMap_cons, hfr] at hb
  exact List.mem_cons.mp hb
 have nel : ∀ b o, X.s₀.heap.get? b = some o -> b ≠ X.env.locals := fun b o e => Nat.ne_of_lt (Nat.lt_of_lt_of_le (Heap.lt_size e) I.ok.above)
 have stay : ∀ b o, s'.heap.get? b = some o -> b ∉ ext -> b ∉ frs X.stack -> h'.get? b = some o := fun b o e h1 h2 =>
  L1 b o (PySem.W.hideAll_get _ e fun hm => (List.mem_append.mp hm).elim h1 h2)
 have nex : ∀ b o, X.s₀.heap.get? b = some o -> b ∉ ext := fun b o e hb => by rw [(hext b hb).1] at e; cases e
 have mem2 : ∀ b ∈ frs X.stack, ∃ o, h'.get? b = some o /\ ∀ vs, o.data ≠ .fields vs := fun b hb => (L2.mem (by rw [← hst]; exact hb)).2
 obtain ⟨oe, vs, T, oT, ts, he, hc, hd, h1, hnT, hTe, hT, hdT, h3⟩ := L3
 have hTT : H' T = none /\ X.s₀.heap.get? T = none := by
  by_cases hm : T ∈ ext ++ frs X.stack
  ·rcases List.mem_append.mp hm with hm | hm
   ·exact ⟨(hext T hm).2, (hext T hm).1⟩
   ·obtain ⟨o, e, nf⟩ := mem2 T hm
    rw [hT] at e; cases e
    exact absurd hdT (nf ts)
  ·have hs : s'.heap.get? T = none := by
    cases q : s'.heap.get? T with
    | none => rfl
    | some o => rw [PySem.W.hideAll_get _ q hm] at hnT; cases hnT
   constructor
   ·cases q : H' T with
    | none => rfl
    | some o => obtain ⟨ob, e⟩ := (hok T o q).there; rw [hs] at e; cases e
   ·cases q : X.s₀.heap.get? T with
    | none => rfl
    | some o => obtain ⟨ob, e⟩ := U0.there T o q (by simp); rw [hs] at e; cases e
 refine ⟨os, bare, ⟨fun b o e n hb _ => ?_, fun b o e n hb _ => ?_, fun b o e n hb => U0.free b o e n hb, fun b o e _ => ?_, U0.tups, U0.frzs, U0.tbls⟩, fun a o e => ?_, ⟨oe, vs, T, oT, ts, a0, he, hc, hd, h1, hTe, hT, hdT, h3, hTT.1, hTT.2⟩, (hext x hx).2, (hext x hx).1, wish⟩
 ·have nf : b ∉ frs X.stack := fun z => (fcase b z).elim (nel b o e) hb
  exact stay b o (U0.keep b o e n nf (by simp)) (nex b o e) nf
 ·obtain ⟨sl, e1⟩ := U0.slot b o e n (fsub b hb) (by simp)
  obtain ⟨_, o', e2, nf⟩ := I.ok.funs.mem hb
  rw [e] at e2; cases e2
  obtain ⟨sl', e3⟩ := L4 b _ e1 nf
  exact ⟨sl', e3⟩
 ·obtain ⟨o', e1⟩ := U0.there b o e (by simp)
  by_cases hb : b ∈ frs X.stack
  ·obtain ⟨o2, e2, _⟩ := mem2 b hb
   exact ⟨o2, e2⟩
  ·exact ⟨o', stay b o' e1 (nex b o e) hb⟩
 ·refine (hok a o e).stay (fun b u hb e1 => ?_) (fun _ q => q) fun _ _ q => q
  have hb' : H' b ≠ none := by
   rcases hb with rfl | hb
   ·rw [e]; simp
   ·rw [hb]; simp
  exact stay b u e1 (fun z => hb' (hext b z).2) fun z => hb' (hfn b z)
theorem nB {h base : Heap} {as : List Addr} {l : List Env} (hl : h.FunFrames base l) (hin : ∀ b ∈ frs l, b ∈ as) : h.FunFrames (PySem.W.hideAll h as) l :=
 PySem.W.funFrames_hide hl fun env he a ha => hin a (by unfold frs; exact List.mem_filterMap.mpr ⟨env, he, ha⟩)
theorem zw {X : Cx} {E E' : XK} (hst : X.stack = X.env :: X.outer) (hfr : X.env.frame = some X.env.locals) (hex : X.ex = []) (hE : ∀ cls dx H, E' cls dx H -> E cls dx H)
  {pins : List (Addr × Obj)} {σ : St} {H : Hp} {s s' : Shared} {e : Value} (I : Inv X pins σ H s) (h : CXE X.prog X.w X.stack H s E' e s') {E1 : Value -> Shared -> Prop} :
  wpAny (model X.prog X.w) X.A (leaving X.env e) (fun _ s'' => CXE X.prog X.w X.outer X.H₀ X.s₀ E e s'') E1 s' := by
 obtain ⟨x, C, H', rfl, os, bare, un, hok, ⟨oe, vs, T, oT, ts, a0, he, hc, hd, h1, hTe, hT, hdT, h3, hTn, hTs⟩, xn, xs, wish⟩ := h
 have nofs : ∀ b ∈ X.fs, b ∈ frs X.stack := fun b hb => by
  rw [hst]; unfold frs; rw [List.filterMap_cons, hfr]; exact List.mem_cons_of_mem _ hb
 have hU : Un (frs X.stack) [] X.H₀ H X.s₀.heap s.heap := by
  have b := I.base
  rw [hex] at b
  exact b.mono nofs fun _ z => z
 have U0 := hU.trans un
 have old : ∀ b, s.heap.get? b = none -> X.s₀.heap.get? b = none := fun b e => by
  cases q : X.s₀.heap.get? b with
  | none => rfl
  | some o => obtain ⟨o', e'⟩ := hU.there b o q (by simp); rw [e] at e'; cases e'
 have hstk := I.stack
 have hfun : s'.heap.FunFrames X.base X.stack := by
  have all : ∀ (l : List Env), (∀ b ∈ frs l, b ∈ frs X.stack) -> s.heap.FunFrames X.base l -> s'.heap.FunFrames X.base l := by
   intro l
   induction l with
   | nil => intro _ _; trivial
   | cons env r ih =>
    intro hs hl
    obtain ⟨hk, ⟨L, o, hf, hn, ho, hdd⟩, hr⟩ := hl
    have hL : L ∈ frs X.stack := hs L (by unfold frs; rw [List.filterMap_cons, hf]; exact List.mem_cons_self)
    obtain ⟨sl, e⟩ := un.slot L o ho (I.stkFree L hL) hL (by simp)
    exact ⟨hk, ⟨L, _, hf, hn, e, hdd⟩, ih (fun b hb => hs b (by unfold frs; rw [List.filterMap_cons, hf]; exact List.mem_cons_of_mem _ hb)) hr⟩
  exact all X.stack (fun _ hb => hb) hstk
 have hfn : ∀ b ∈ frs X.stack, H' b = none := fun b hb => by
  obtain ⟨_, o, ho, _⟩ := hstk.mem hb
  exact un.free b o ho (I.stkFree b hb) (by simp)
 have hin : ∀ b ∈ frs X.stack, b ∈ [x, T] ++ frs X.stack := fun b hb => List.mem_append_right _ hb
 have hF : s'.heap.FunFrames (PySem.W.hideAll s'.heap ([x, T] ++ frs X.stack)) (X.env :: X.outer) := by
  have z := nB hfun hin
  rw [hst] at z ⊢
  exact z
 refine wpAny_leaving_nextW (base := PySem.W.hideAll s'.heap ([x, T] ++ frs X.stack)) (by rw [← hst]; exact I.ok.frames) hF hfr ⟨oe, vs, T, oT, ts, he, hc, hd, h1, PySem.W.hideAll_none _ (by simp), hTe, hT, hdT, h3⟩ (fun b o q => PySem.W.of_hideAll _ q) (PySem.W.hideAll_none _ (by simp)) fun h' L => ?_
 refine ⟨x, C, H', rfl, nz I hst hfr hex (os.trans I.os) bare U0 hok hfn (fun b hb => ?_) (by simp) (hE _ _ _ wish) L⟩
 rcases List.mem_cons.mp hb with rfl | hb
 ·exact ⟨old _ xs, xn⟩
 ·obtain rfl : b = T := by simpa using hb
  exact ⟨old _ hTs, hTn⟩
theorem vm {X : Cx} {E : XK} (hst : X.stack = X.env :: X.outer) (hfr : X.env.frame = some X.env.locals) (hex : X.ex = [])
  {pins : List (Addr × Obj)} {σ : St} {H : Hp} {s : Shared} {x C : Addr} {dx : Option Addr} (I : Inv X pins σ H s) (hH : H x = some (de C x dx)) (h0 : X.H₀ x = none) (wish : E (.ref C) none (d8 H x)) {E1 : Value -> Shared -> Prop} :
  wpAny (model X.prog X.w) X.A (leaving X.env (.ref x)) (fun _ s'' => CXE X.prog X.w X.outer X.H₀ X.s₀ E (.ref x) s'') E1 s := by
 obtain ⟨t, he⟩ := jj (I.hok x _ hH)
 have nofs : ∀ b ∈ X.fs, b ∈ frs X.stack := fun b hb => by
  rw [hst]; unfold frs; rw [List.filterMap_cons, hfr]; exact List.mem_cons_of_mem _ hb
 have hU : Un (frs X.stack) [] X.H₀ H X.s₀.heap s.heap := by
  have b := I.base
  rw [hex] at b
  exact b.mono nofs fun _ z => z
 have xs : X.s₀.heap.get? x = none := by
  cases q : X.s₀.heap.get? x with
  | none => rfl
  | some o => have := hU.free x o q h0 (by simp); rw [hH] at this; cases this
 have ne : ∀ b o, H b = some o -> (∀ φ, o ≠ .ext φ) -> b ≠ x := fun b o e hn z => by subst z; rw [hH] at e; cases e; exact hn _ rfl
 have U0 : Un (frs X.stack) [] X.H₀ (d8 H x) X.s₀.heap s.heap := by
  refine ⟨hU.keep, hU.slot, fun b o e n hb => ?_, hU.there, fun b ys q => ?_, fun b o u q => ?_, fun b ps q => ?_⟩
  ·unfold d8; split
   ·rfl
   ·exact hU.free b o e n hb
  ·have := hU.tups b ys q
   rw [gv (ne b _ this fun _ z => by cases z)]; exact this
  ·have := hU.frzs b o u q
   rw [gv (ne b _ this fun _ z => by cases z)]; exact this
  ·obtain ⟨more, this⟩ := hU.tbls b ps q
   exact ⟨more, by rw [gv (ne b _ this fun _ z => by cases z)]; exact this⟩
 have hok : HOk X.prog X.w (d8 H x) s.heap := fun a o e => by
  obtain ⟨na, e'⟩ := uD e
  refine (I.hok a o e').stay (fun _ _ _ q => q) (fun b q => ?_) fun b ys q => ?_
  ·rw [gv (ne b _ q fun _ z => by cases z)]; exact q
  ·rw [gv (ne b _ q fun _ z => by cases z)]; exact q
 have hstk := I.stack
 have hfn : ∀ b ∈ frs X.stack, d8 H x b = none := fun b hb => by
  unfold d8; split
  ·rfl
  ·exact I.stkFree b hb
 have hF : s.heap.FunFrames (PySem.W.hideAll s.heap ([x] ++ frs X.stack)) (X.env :: X.outer) := by
  have z := nB hstk (as := [x] ++ frs X.stack) fun b hb => List.mem_append_right _ hb
  rw [hst] at z ⊢
  exact z
 refine wpAny_leaving_firstW (base := PySem.W.hideAll s.heap ([x] ++ frs X.stack)) (a0 := .ref t) (by rw [← hst]; exact I.ok.frames) hF hfr he (fun b o q => PySem.W.of_hideAll _ q) (PySem.W.hideAll_none _ (by simp)) rfl rfl rfl fun h' L => ?_
 refine ⟨x, C, d8 H x, rfl, nz (ext := [x]) I hst hfr hex I.os I.bare U0 hok hfn (fun b hb => ?_) (by simp) wish L⟩
 obtain rfl : b = x := by simpa using hb
 exact ⟨xs, uE⟩
section
variable {X : Cx} {pins : List (Addr × Obj)} {σ : St} {H H' : Hp} {s s' : Shared} {E : XK} {x C : Addr}
end
section
variable {X : Cx}
end
section
variable {X : Cx}
end
structure XC (K : PySem.W.Frag) (C : Addr) : Prop where
 sh : ∃ bm, ∀ h : Heap, K.In h -> XShape h C bm
 sa : PySem.W.findIn K (.ref C) "__setattr__" = some (some (.builtin "object.__setattr__"))
 cd : ∃ cd, PySem.W.clsIn K C = some cd /\ cd.hasDict = true /\ dN cd.mro = true
theorem oh {K : PySem.W.Frag} {C N : Addr} {nm q : Str} {bs bm : List Value} {hdct : Bool} {sn : List Str} {sub : List Value} {ab : Bool} {col : Option Bool} {dd : Option Addr} {k0 k1 k2 k3 k5 : Option Value} {cd : ClassData}
  (l : K.lookup C = some (excClassObj nm q C N bs bm hdct sn sub ab col dd k0 k1 k2 k3 k5 "ValueError.__new__")) (sa : PySem.W.findIn K (.ref C) "__setattr__" = some (some (.builtin "object.__setattr__"))) (c : PySem.W.clsIn K C = some cd)
  (h1 : (bm.contains (.type "ValueError") && bm.contains (.type "BaseException") && !bm.contains (.type "AttributeError") && !bm.contains (.type "NameError") && cd.hasDict && dN cd.mro) = true) : XC K C := by
 simp only [Bool.and_eq_true, Bool.not_eq_true'] at h1
 obtain ⟨⟨⟨⟨⟨a, b⟩, c'⟩, d⟩, e⟩, f⟩ := h1
 exact ⟨⟨bm, fun h X => ⟨⟨nm, q, N, bs, hdct, sn, sub, ab, col, dd, k0, k1, k2, k3, k5, X _ _ l⟩, a, b, c', d⟩⟩, sa, cd, c, e, f⟩
structure XMk (K : PySem.W.Frag) (C f : Addr) : Prop where
 xc : XC K C
 init : PySem.W.findIn K (.ref C) "__init__" = some (some (.ref f))
 fn : PySem.W.isFn K (.ref f) = true
 kp : PySem.W.keepIn K (.ref C) = true
section
variable {X : Cx} {CX : CXT} {k : Nat} {f C : Addr} {fd : FuncData} {ps : List Str} {sp : Sp} {dvs : List V} {ds : List Value} {E : St -> XK} {x m : Str} {p pos apos : Pos} {e o : Expr} {es : List Expr} {ta : TE} {t : TA}
def As (C : Addr) (sp : Sp) (dvs : List V) (E : St -> XK) (t : TA) : TE := fun σ H Q => t σ H fun vs H1 => vs.length <= sizeLine /\ ∀ x, H1 x = none ->
 sp (.ref x :: (vs ++ dvs)) (upd H1 x (de C x none)) (fun v H2 => v = .non /\ Q (.ref x) H2) (E σ)
theorem zh {pins : List (Addr × Obj)} {σ : St} {H : Hp} {s : Shared} {Q : VK} {us : List Value} {vs : List V} (M : XMk X.K C f) (F : FnOk X.prog X.w X.K X.mg X.base CX k f fd ps sp) (hr : Room (k + 1) X.A) (hb : aI X.K fd ps ds) (hd : ay dvs ds)
  (hx : cJ CX X E) (I : Inv X pins σ H s) (r : ay vs us) (hz : vs.length <= sizeLine)
  (h : ∀ x, H x = none -> sp (.ref x :: (vs ++ dvs)) (upd H x (de C x none)) (fun v H2 => v = .non /\ Q (.ref x) H2) (E σ)) :
  wpAny (model X.prog X.w) X.A (call (.ref C) us) (EP X pins σ Q) X.xe s := by
 have hq := h (s.heap.objs.size + 1) (I.hok.fresh (Nat.le_succ _))
 obtain ⟨bm, sh⟩ := M.xc.sh
 have I1 : Inv X pins σ H { s with heap := s.heap.push { cls := .type "tuple", data := .seq us.toArray } } := I.kept (t' := s.toks) fun b o q => Heap.get?_push_of_some _ q
 have eX : ((s.heap.push { cls := .type "tuple", data := .seq us.toArray }).push (cq C none s.heap.objs.size)).get? (s.heap.objs.size + 1) = some (cq C none s.heap.objs.size) := by
  have := Heap.get?_push_size (s.heap.push { cls := .type "tuple", data := .seq us.toArray }) (o := cq C none s.heap.objs.size) rfl
  rwa [Heap.size_push] at this
 have I2 : Inv X pins σ (upd H (s.heap.objs.size + 1) (de C (s.heap.objs.size + 1) none)) { s with heap := (s.heap.push { cls := .type "tuple", data := .seq us.toArray }).push (cq C none s.heap.objs.size) } :=
  I1.laid (a := s.heap.objs.size + 1) (o := de C (s.heap.objs.size + 1) none) (t' := s.toks) (fun b u q => Heap.get?_push_of_some _ q) (Nat.le_of_eq (Heap.size_push _ _)) (mY eX)
 have r2 : ay (V.ref (s.heap.objs.size + 1) :: (vs ++ dvs)) (Value.ref (s.heap.objs.size + 1) :: (us ++ ds)) := .cons rfl (r.append hd)
 have hl : (Value.ref (s.heap.objs.size + 1) :: us ++ ds).length = ps.length := by
  have e := r2.length
  rw [F.len _ _ _ _ hq] at e
  exact e.symm
 have hcall : wpAny (model X.prog X.w) (X.A.under (.builtin "type.__call__" ⟨.ref C :: us, []⟩)) (call (.ref f) (.ref (s.heap.objs.size + 1) :: us)) (fun r s' => r = .none /\ EP X pins σ Q (.ref (s.heap.objs.size + 1)) s') X.xe
   { s with heap := (s.heap.push { cls := .type "tuple", data := .seq us.toArray }).push (cq C none s.heap.objs.size) } := by
  refine wpAny_call (codeAny_mono (F.run _ X.stack _ _ ⟨Value.ref (s.heap.objs.size + 1) :: us, []⟩ (Value.ref (s.heap.objs.size + 1) :: (us ++ ds)) _ _ (E σ) (hr.make C us [])
   (I2.env0.make C us []) (hb _ (Value.ref (s.heap.objs.size + 1) :: us) I2.kIn hl) r2 hq) fun r s' hq' => ?_)
  cases r with
  | error e => exact hx pins σ _ _ e s' I2 hq'
  | ok fl =>
   cases fl with
   | ret u =>
    obtain ⟨v, H', I3, rv, ev, q3⟩ := I2.after hq'
    subst ev
    exact ⟨rv, ⟨V.ref (s.heap.objs.size + 1), H', I3, rfl, q3⟩⟩
   | next => exact False.elim hq'
   | brk => exact False.elim hq'
   | cont => exact False.elim hq'
 obtain ⟨hh, g, d, tk, os⟩ := s
 exact vW I.kIn (sh _ I.kIn) M.init M.fn (by rw [← r.length]; exact hz) hcall
theorem fS (M : XMk X.K C f) (F : FnOk X.prog X.w X.K X.mg X.base CX k f fd ps sp) (hr : Room (k + 1) X.A) (hg : Gl X x) (hm : X.mg x = some (.ref C)) (hb : aI X.K fd ps ds) (hd : ay dvs ds) (hx : cJ CX X E)
  (ha : PA X (e :: es) t) (hdb : (x == ("__debug__" : Str)) = false := by decide) (he : starEach (e :: es) X.env = (false, eval e X.env) :: starEach es X.env := by rfl) (hpl : (backTo pos (starEach es X.env)).any (·.1) = false := by rfl) :
  PE X (.Call (.Name x p) (e :: es) [] pos) (As C sp dvs E t) := by
 intro pins s σ H Q I h
 refine wpAny_Call_Name_kw (iA I hg hm ?_ hdb)
 refine PySem.W.callWith_K (h₀ := X.base) I.ok.mod.kin M.kp (thn (ha pos pins s σ H _ I h) fun us s1 ⟨vs, H1, I1, r, hz, q⟩ => ⟨I1.kIn, ?_⟩) he hpl
 exact zh M F hr hb hd hx I1 r hz q
structure ClsFn (K : PySem.W.Frag) (D : Addr) (m : Str) (f : Addr) : Prop where
 ga : PySem.W.specialIn K (.ref D) "__getattribute__" = some (some (.builtin "type.__getattribute__"))
 rd : PySem.W.readsIn K D (.type "type") = true
 fnd : PySem.W.findCls K (.ref D) (.type "type") m = some (.val (.ref f))
 kp : PySem.W.keepIn K (.ref f) = true
theorem gf {D : Addr} {pl : Sem Bool} (c : ClsFn X.K D m f) (F : FnOk X.prog X.w X.K X.mg X.base CX k f fd ps sp) (hr : Room k X.A) (hg : Gl X x) (hm : X.mg x = some (.ref D)) (hb : aI X.K fd ps ds) (hd : ay dvs ds) (hx : cJ CX X E)
  (ha : PA X (e :: es) t) (hdb : (x == ("__debug__" : Str)) = false := by decide) (hst : starEach (e :: es) X.env = (false, eval e X.env) :: starEach es X.env := by rfl) (hpl : (backTo pos (starEach es X.env)).any (·.1) = false := by rfl)
  (ht : eval (.Call (.Attribute (.Name x p) m apos) (e :: es) [] pos) X.env = (do
   let ov ← eval (.Name x p) X.env
   standAt apos.atName
   let (f, first) ← holding [ov] (getMethod ov m pl)
   callWith pos f first (backTo pos (starEach (e :: es) X.env)) (backToKw pos (keywordEach [] X.env))) := by rfl) :
  PE X (.Call (.Attribute (.Name x p) m apos) (e :: es) [] pos) (yw sp dvs E t) := by
 intro pins s σ H Q I h
 refine PySem.W.methodCall_KW (pl := pl) (iA I hg hm ?_ hdb) ht
 refine PySem.W.method_cls I.kIn c.ga (PySem.W.cls_value I.kIn c.rd c.fnd rfl ?_)
 have I1 := I.tok (s.toks + 1)
 refine PySem.W.callWith_K (first := []) (h₀ := X.base) I.ok.mod.kin c.kp (thn (ha pos pins _ σ H _ I1 h) fun us s2 ⟨vs, H2, I2, r, q2⟩ => ⟨I2.kIn, ?_⟩) hst hpl
 exact lv F hr hb hd hx I2 r q2
def tVin (K : PySem.W.Frag) (t : TA) : TE := fun σ H Q => t σ H fun vs H1 => ∃ x C dx rest, vs = .ref x :: rest /\ rest.length <= sizeLine /\ H1 x = some (de C x dx) /\ XC K C /\ Q .non (upd H1 x (de C x dx))
theorem rU {pins : List (Addr × Obj)} {σ : St} {H : Hp} {s : Shared} {Q : VK} {us : List Value} {vs : List V} (I : Inv X pins σ H s) (r : ay vs us)
  (h : ∃ x C dx rest, vs = .ref x :: rest /\ rest.length <= sizeLine /\ H x = some (de C x dx) /\ XC X.K C /\ Q .non (upd H x (de C x dx))) : wpAny (model X.prog X.w) X.A (call (.builtin "ValueError.__init__") us) (EP X pins σ Q) X.xe s := by
 obtain ⟨x, C, dx, rest, rfl, hz, hx, c, q⟩ := h
 cases r with
 | cons r1 r2 =>
  cases r1
  obtain ⟨t0, he⟩ := jj (I.hok x _ hx)
  obtain ⟨bm, sh⟩ := c.sh
  obtain ⟨hh, g, d, tk, os⟩ := s
  refine uy (sh _ I.kIn) he (by rw [← r2.length]; exact hz) fun h' e1 keep => ?_
  have I2 : Inv X pins σ (upd H x (de C x dx)) ⟨h', g, d, tk, os⟩ := I.write (t' := tk) (x := x) (e := x) (by rw [hx]; exact True.intro) (.inl rfl) (fun b u hb q => keep b u hb q) ⟨_, e1⟩ (mY e1)
  exact ⟨.non, _, I2, rfl, q⟩
theorem y0 : typeOf (.type "ValueError") = pure (.type "type") := by kernel_rfl
theorem y6 : Manifest.isStub "ValueError" = false := by decide +kernel
theorem y7 {K : PySem.W.Frag} : PySem.W.findCls K (.type "ValueError") (.type "type") "__init__" = some (.val (.builtin "ValueError.__init__")) := by kernel_rfl
set_option maxHeartbeats 4000000 in
theorem vf {pl : Sem Bool} (hg : Gl X "ValueError") (hm : X.mg "ValueError" = none) (ha : PA X (e :: es) t) (hst : starEach (e :: es) X.env = (false, eval e X.env) :: starEach es X.env := by rfl) (hpl : (backTo pos (starEach es X.env)).any (·.1) = false := by rfl)
  (ht : eval (.Call (.Attribute (.Name "ValueError" p) "__init__" apos) (e :: es) [] pos) X.env = (do
   let ov ← eval (.Name "ValueError" p) X.env
   standAt apos.atName
   let (f, first) ← holding [ov] (getMethod ov "__init__" pl)
   callWith pos f first (backTo pos (starEach (e :: es) X.env)) (backToKw pos (keywordEach [] X.env))) := by rfl) :
  PE X (.Call (.Attribute (.Name "ValueError" p) "__init__" apos) (e :: es) [] pos) (tVin X.K t) := by
 intro pins s σ H Q I h
 obtain ⟨m, F⟩ := I.fr
 refine PySem.W.methodCall_KW (pl := pl) (fV I hg hm PyProof.Rows.Boot.«ValueError» ?_) ht
 refine PySem.W.method_type (v := .builtin "ValueError.__init__") F I.mod.kin y0 y6 y7 rfl ?_
 have I1 := I.tok (s.toks + 1)
 exact PyProof.Rows.callWith_builtin1 (thn (ha pos pins _ σ H _ I1 h) fun us s1 ⟨vs, H1, I2, r1, q1⟩ => rU I2 r1 q1) hst hpl
def AC (K : PySem.W.Frag) (ta tv : TE) (f : Str) : TS := fun D σ H => tv σ H fun y H1 => ta σ H1 fun x H2 => ∃ a C, x = .ref a /\ H2 a = some (de C a none) /\ XC K C /\ PySem.W.findIn K (.ref C) f = some none /\
 ∀ d, H2 d = none -> d ≠ a -> D.nx σ (upd (upd H2 d (.xd [(f, y)])) a (de C a (some d)))
theorem u8 {o value : Expr} {f : Str} {pos' : Pos} {tv : TE} (ha : PE X o ta) (hv : PE X value tv) (hs : swapsWith value (some (.Attribute o f pos')) pos.line X.env = pure false) : PS X (.Assign [.Attribute o f pos'] value pos) (AC X.K ta tv f) := by
 intro pins s σ H D I h
 refine plainObj_wpAny_Assign_Attribute (thn (hv pins s σ H _ I h) fun u s1 h1_ => ?_) hs
 obtain ⟨y, H1, I1, ry, q⟩ := h1_
 refine thn (ha pins s1 σ H1 _ I1 q) fun ov s2 h_ => ?_
 obtain ⟨x, H2, I2, rx, a, C, ex, ea, c, n, q2⟩ := h_
 subst ex
 obtain rfl : ov = Value.ref a := rx
 obtain ⟨t0, he⟩ := jj (I2.hok a _ ea)
 obtain ⟨cd, c1, c2, c3⟩ := c.cd
 refine vU I2.kIn he c.sa c1 c2 c3 n fun h' e1 n1 keep => ?_
 have hd : H2 s2.heap.objs.size = none := I2.fresh
 have hda : s2.heap.objs.size ≠ a := Nat.ne_of_gt (Heap.lt_size he)
 have od : ∃ o, h'.get? s2.heap.objs.size = some o := let ⟨o, _, _, e, _⟩ := n1; ⟨o, e⟩
 have ne2 : ∀ b o, H2 b = some o -> (∀ φ, o ≠ .ext φ) -> b ≠ a := fun b o e hn z => by subst z; rw [ea] at e; cases e; exact hn _ rfl
 refine ⟨σ, _, I2.un (h' := h') (t' := s2.toks + 2) ⟨fun b o e nb _ _ => keep b o (fun z => by subst z; rw [ea] at nb; cases nb) e, fun b o e nb _ _ => ⟨o.slots, keep b o (fun z => by subst z; rw [ea] at nb; cases nb) e⟩, fun b o e nb _ => ?_, fun b o e _ => ?_, fun b ys e => ?_, fun b o ys e => ?_, fun b ys e => ?_⟩ fun b o e => ?_, q2 _ hd hda⟩
 ·rw [upd_ne (fun z => by subst z; rw [ea] at nb; cases nb), upd_ne (Nat.ne_of_lt (Heap.lt_size e))]; exact nb
 ·by_cases z : b = a
  ·subst z; exact ⟨_, e1⟩
  ·exact ⟨o, keep b o z e⟩
 ·rw [upd_ne (ne2 b _ e fun _ z => by cases z), upd_ne (ne_of_none e hd)]; exact e
 ·rw [upd_ne (ne2 b _ e fun _ z => by cases z), upd_ne (ne_of_none e hd)]; exact e
 ·exact ⟨#[], by rw [upd_ne (ne2 b _ e fun _ z => by cases z), upd_ne (ne_of_none e hd), e]; simp⟩
 ·by_cases z : b = a
  ·subst z
   rw [aw] at e; cases e
   exact mY e1
  ·rw [upd_ne z] at e
   by_cases z2 : b = s2.heap.objs.size
   ·subst z2
    rw [aw] at e; cases e
    refine ⟨_, n1, fun g => ?_⟩
    by_cases q : g = f
    ·subst q
     simp only [List.lookup_cons, beq_self_eq_true, if_true]
     exact ry
    ·have hb : (g == f) = false := beq_eq_false_iff_ne.mpr q
     simp only [List.lookup_cons, hb, List.lookup_nil, if_neg q]
     trivial
   ·rw [upd_ne z2] at e
    refine (I2.hok b o e).stay (fun c v hc q => keep c v ?_ q) (fun c q => ?_) fun c ys q => ?_
    ·rcases hc with rfl | hc
     ·exact z
     ·exact ne2 c _ hc fun _ z => by cases z
    ·rw [upd_ne (ne2 c _ q fun _ z => by cases z), upd_ne (ne_of_none q hd)]; exact q
    ·rw [upd_ne (ne2 c _ q fun _ z => by cases z), upd_ne (ne_of_none q hd)]; exact q
end
def tw (H₀ : Hp) (K : PySem.W.Frag) (E : XK) (te : TE) : TS := fun _ σ H => te σ H fun v H1 => ∃ x C dx, v = .ref x /\ H1 x = some (de C x dx) /\ H₀ x = none /\ XC K C /\ E (.ref C) none (d8 H1 x)
section
variable {P : Program} {w : World} {K : PySem.W.Frag} {mg : Str -> Option Value} {base : Heap} {N : List Str} {qual : Str} {scope : Scope} {f : Addr} {cd : Value} {A : Around} {outer : List Env} {s : Shared} {H : Hp} {E : XK}
theorem aC : cJ (CXE P w) (cX (CXE P w) P w K mg base N qual scope f cd A outer s H E) (fun _ => E) := fun pins σ H1 s1 e s' I h => zw (X := cX (CXE P w) P w K mg base N qual scope f cd A outer s H E) rfl rfl rfl (fun _ _ _ z => z) I h
theorem dr {X : Cx} : cJ (CXE P w) X E0 := fun _ _ _ _ _ _ _ h => by
 obtain ⟨_, _, _, _, F⟩ := h
 exact F.wish.elim
theorem bY : PassesOwn (model P w) (A.deeper (envOfC qual scope s.heap.objs.size f cd)) (envOfC qual scope s.heap.objs.size f cd) (cX (CXE P w) P w K mg base N qual scope f cd A outer s H E).xe := PassesOwn.leaving
theorem dB {e : Expr} {pos : Pos} {te : TE} (hd : A.handled = none) (he : PE (cX (CXE P w) P w K mg base N qual scope f cd A outer s H E) e te) : PS (cX (CXE P w) P w K mg base N qual scope f cd A outer s H E) (.Raise (some e) none pos) (tw H K E te) := by
 intro pins s1 σ H1 D I h
 rw [arm_exec_Raise]
 refine wpAny_bind (wpAny_standAt ?_)
 refine uz (env := (cX (CXE P w) P w K mg base N qual scope f cd A outer s H E).env) (bm := []) (dx := none) (t0 := 0) hd ?_
 refine wpAny_bind (thn (he pins s1 σ H1 _ I h) fun u s2 h_ => ?_)
 obtain ⟨v, H2, I2, r, x, C, dx, ev, ex, h0, c, q⟩ := h_
 refine wpAny_bind (wpAny_standAt (wpAny_pure ?_))
 subst ev
 obtain rfl : u = Value.ref x := r
 obtain ⟨t0, hex⟩ := jj (I2.hok x _ ex)
 obtain ⟨bm, sh⟩ := c.sh
 exact ⟨x, t0, dx, C, bm, rfl, sh _ I2.kIn, hex, vm (X := cX (CXE P w) P w K mg base N qual scope f cd A outer s H E) rfl rfl rfl I2 ex h0 q⟩
end
structure FunD (K : PySem.W.Frag) (x qual : Str) (st : Stmt) (f : Addr) (fd : FuncData) : Prop where
 ex : ∃ (oc : Value) (od : Option Addr) (dV kV doc pm : Value) (an : Option Addr) (cdv ct : Value) (osl : Array (Option Value)),
  fd = PySem.W.fnOf x qual (gw st) (cg st) (aj st) dV kV doc pm an cdv ct /\ K.lookup f = some ⟨oc, od, .func fd, osl⟩ /\ PySem.W.codeIn K cdv qual = true
 kp : PySem.W.keepIn K (.ref f) = true
theorem zX {K : PySem.W.Frag} {x qual : Str} {st : Stmt} {f : Addr} {oc dV : Value} {od an : Option Addr} {osl : Array (Option Value)} {kV doc pm cdv ct : Value} (l : K.lookup f = some ⟨oc, od, .func (PySem.W.fnOf x qual (gw st) (cg st) (aj st) dV kV doc pm an cdv ct), osl⟩)
  (c : PySem.W.codeIn K cdv qual = true) (k : PySem.W.keepIn K (.ref f) = true) : FunD K x qual st f (PySem.W.fnOf x qual (gw st) (cg st) (aj st) dV kV doc pm an cdv ct) := ⟨⟨oc, od, dV, kV, doc, pm, an, cdv, ct, osl, rfl, l, c⟩, k⟩
section
variable {P : Program} {w : World} {K : PySem.W.Frag} {mg : Str -> Option Value} {base : Heap}
theorem FunD.okE {x qual : Str} {st : Stmt} {f : Addr} {fd : FuncData} {N ps : List Str} {k : Nat} {sp : Sp} (F : FunD K x qual st f fd) (S : FnScope N ps (aj st)) (len : ∀ vs H Q E, sp vs H Q E -> vs.length = ps.length)
  (hbody : ∀ (cdv : Value) (A : Around) (outer : List Env) (s : Shared) (H : Hp) (vs : List V) (Q : VK) (E : XK), Room k (A.deeper (envOfC qual (aj st) s.heap.objs.size f cdv)) -> sp vs H Q E ->
   ∃ t, PSs (cX (CXE P w) P w K mg base N qual (aj st) f cdv A outer s H E) (cg st) t /\ t { nx := fun _ H' => Q .non H', rt := Q } (dQ N vs) H) : FnOk P w K mg base (CXE P w) (k + 1) f fd ps sp := by
 obtain ⟨oc, od, dV, kV, doc, pm, an, cdv, ct, osl, rfl, lk, hcd⟩ := F.ex
 exact yR lk hcd S len fun A outer s H vs Q E hr hsp => hbody cdv A outer s H vs Q E hr hsp
theorem FunD.ok {x qual : Str} {st : Stmt} {f : Addr} {fd : FuncData} {N ps : List Str} {k : Nat} {sp : Sp} (F : FunD K x qual st f fd) (S : FnScope N ps (aj st)) (len : ∀ vs H Q E, sp vs H Q E -> vs.length = ps.length)
  (hbody : ∀ (cdv : Value) (A : Around) (outer : List Env) (s : Shared) (H : Hp) (vs : List V) (Q : VK) (E : XK), Room k (A.deeper (envOfC qual (aj st) s.heap.objs.size f cdv)) -> sp vs H Q E ->
   ∃ t, PSs (cX (CXE P w) P w K mg base N qual (aj st) f cdv A outer s H E).nox (cg st) t /\ t { nx := fun _ H' => Q .non H', rt := Q } (dQ N vs) H) : FnOk P w K mg base (CXE P w) (k + 1) f fd ps sp := by
 obtain ⟨oc, od, dV, kV, doc, pm, an, cdv, ct, osl, rfl, lk, hcd⟩ := F.ex
 refine yR lk hcd S len fun A outer s H vs Q E hr hsp => ?_
 obtain ⟨t, h, q⟩ := hbody cdv A outer s H vs Q E hr hsp
 exact ⟨t, h.nox, q⟩
end
abbrev TJ := St -> Hp -> Nat -> (Nat -> Hp -> Prop) -> Prop
def PJ (X : Cx) (es : List Expr) (t : TJ) : Prop :=
 ∀ (pins : List (Addr × Obj)) (s : Shared) (σ : St) (H : Hp) (acc : Str) (Q : VK) , Inv X pins σ H s -> acc.length <= sizeLine -> (t σ H acc.length fun n H' => n <= sizeLine /\ ∀ z : Str, z.length <= n -> Q (.str z) H') ->
  wpAny (model X.prog X.w) X.A (joinParts acc (evalEach es X.env)) (EP X pins σ Q) X.xe s
def jNil : TJ := fun _ H n Q => Q n H
def jStr (m : Nat) (t : TJ) : TJ := fun σ H n Q => n + m <= sizeLine /\ t σ H (n + m) Q
def jInt (te : TE) (t : TJ) : TJ := fun σ H n Q => te σ H fun v H1 => ∃ i, v = .int i /\ i.natAbs.log2 < 1920 /\ n + 1921 <= sizeLine /\ ∀ m, m <= n + 1921 -> t σ H1 m Q
def D4 (t : TJ) : TE := fun σ H Q => t σ H 0 fun n H' => n <= sizeLine /\ ∀ z : Str, z.length <= n -> Q (.str z) H'
section
variable {X : Cx} {es : List Expr} {t : TJ} {pos : Pos}
theorem AN : PJ X [] jNil := fun pins s σ H acc Q I hz h => joinParts_nil ⟨.str acc, H, I.tok _, ⟨_, rfl⟩, h.2 acc (Nat.le_refl _)⟩ hz
theorem AM {x : Str} {j : Nat} {p : Pos} (h : PJ X es t) (he : evalEach (.Constant (.str x) j p :: es) X.env = eval (.Constant (.str x) j p) X.env :: evalEach es X.env := by rfl) : PJ X (.Constant (.str x) j p :: es) (jStr x.length t) := by
 intro pins s σ H acc Q I hz hq
 rw [he]
 obtain ⟨h1, h2⟩ := hq
 refine joinParts_cons (Calls.Constant_str ?_)
 have e : (acc ++ x).length = acc.length + x.length := strLen_append acc x
 exact ⟨by rw [e]; exact h1, h pins _ σ H (acc ++ x) Q (I.tok _) (by rw [e]; exact h1) (by rw [e]; exact h2)⟩
theorem AO {v : Expr} {p : Pos} {te : TE} (hv : PE X v te) (h : PJ X es t) (he : evalEach (.FormattedValue v (-1) none p :: es) X.env = eval (.FormattedValue v (-1) none p) X.env :: evalEach es X.env := by rfl) : PJ X (.FormattedValue v (-1) none p :: es) (jInt te t) := by
 intro pins s σ H acc Q I hz hq
 rw [he]
 refine joinParts_cons (FormattedValue_plain (thn (hv pins s σ H _ I hq) fun u s1 ⟨y, H1, I1, r, i, ey, hi, hl, q⟩ => ?_))
 subst ey
 obtain ⟨tk, rfl⟩ := r
 refine wpAny_formatField_int hi ?_
 have e : (acc ++ Str.ofString (toString i)).length = acc.length + (Str.ofString (toString i)).length := strLen_append acc _
 have hb := int_text_len_1921 hi
 have hz2 : (acc ++ Str.ofString (toString i)).length <= sizeLine := by rw [e]; omega
 refine ⟨hz2, h pins _ σ H1 _ Q (I1.tok _) hz2 ?_⟩
 rw [e]
 exact q _ (by omega)
theorem zr {v1 v2 : Expr} {rest : List Expr} (h : PJ X (v1 :: v2 :: rest) t) : PE X (.JoinedStr (v1 :: v2 :: rest) pos) (D4 t) := fun pins s σ H Q I hq =>
 JoinedStr_many (h pins s σ H Str.empty Q I (by decide) hq)
end
section
variable {X : Cx}
theorem nJ (hc : X.calm = true) : cQ X (.builtin "sum") (fun xs H Q => ∃ (a : Addr) (ns : List Int), xs = [.ref a] /\ SqL X.K H a (ns.map V.int) /\ Q (.int ns.sum) H) := by
 intro pins s σ H xs us Q I r h
 obtain ⟨a, ns, rfl, hq, q⟩ := h
 cases r with
 | cons r1 r2 =>
  cases r1
  cases r2
  obtain ⟨its, rv, p, hz⟩ := I.list hq
  have hi := lX rv
  obtain ⟨xs, ex⟩ := hi.allInts.items
  have hl := p.isList
  rw [ex] at hl
  refine sum_intListG (I.ok.hd hc) hl fun h' tk t' hk => ?_
  have e : preSum (numAt xs) xs.size = ns.sum := by
   have e1 := hi.numsOf
   have e2 : its = (intItems xs).toList := by rw [← ex]
   rw [e2, nums_intItems] at e1
   rw [preSum_eq, List.take_of_length_le (by simp), e1]
  rw [e]
  exact ⟨.int ns.sum, H, I.kept hk, ⟨_, rfl⟩, q⟩
def oH (i j : Int) : Prop := 0 < j /\ j.natAbs.log2 < 9000
theorem gF : OpR X (binaryOp .FloorDiv) (rI oH fun i j => .int (i / j)) := opI fun i j _ _ _ _ _ hc q => by
 have h1 : (0 : Int) < j := hc.1
 refine floordiv_int (by omega) ?_ (.inl (PyProof.noPylong_of_log2 hc.2))
 rw [Int.fdiv_eq_ediv_of_nonneg _ (by omega)]
 exact q
def ipC (C : Int -> Int -> Prop) (f : Int -> Int -> Int) : TIp := fun x y H Q => ∃ i j, x = .int i /\ y = .int j /\ C i j /\ Q (.int (f i j)) H
theorem zU : PIp X .FloorDiv (ipC oH fun i j => i / j) := by
 intro pins s σ H x y v u Q I r1 r2 h
 obtain ⟨i, j, rfl, rfl, c, q⟩ := h
 obtain ⟨t, rfl⟩ := r1
 obtain ⟨t', rfl⟩ := r2
 have h1 : (0 : Int) < j := c.1
 refine ifloordiv_int (by omega) ?_ (.inl (PyProof.noPylong_of_log2 c.2))
 rw [Int.fdiv_eq_ediv_of_nonneg _ (by omega)]
 exact ⟨.int _, H, I.tok _, ⟨_, rfl⟩, q⟩
theorem sY : ∀ {cs : List String} {us : List Value}, ay (cs.map V.ty) us -> us = cs.map Value.type
 | [], _, r => by cases r; rfl
 | c :: cs, _, r => by
  cases r with
  | cons r1 r2 =>
   cases r1
   rw [sY r2]
   rfl
end
section
variable {K : PySem.W.Frag}
end
theorem rT {K : PySem.W.Frag} {a : Addr} {xs : List V} {g : TG} {tt : TT} {tb : TB} {σ : St} {H : Hp} {Q : St -> Hp -> Prop} (Pv : Nat -> St -> Hp -> Prop) (h0 : Pv 0 σ H) (hl : ∀ i σ H, i <= xs.length -> Pv i σ H -> SqL K H a xs)
  (turn : ∀ i x σ H, xs[i]? = some x -> Pv i σ H -> g x σ H fun σ2 H2 => tt σ2 H2 fun b H3 => if b = true then tb σ2 H3 (Pv (i + 1)) else Pv (i + 1) σ2 H3) (fin : ∀ σ H, Pv xs.length σ H -> Q σ H) : eV (Itl K a) g tt tb σ H Q := by
 refine ⟨fun i m σ H => i <= xs.length /\ m + i = xs.length /\ Pv i σ H, ⟨xs.length, Nat.zero_le _, by omega, h0⟩, fun i m σ H ⟨hi, hm, hp⟩ => ?_⟩
 by_cases hlt : i < xs.length
 ·refine .inr ⟨⟨xs, xs[i], hl i σ H hi hp, List.getElem?_eq_getElem hlt⟩, Pv (i + 1), fun σ' H' q => ⟨m - 1, by omega, by omega, by omega, q⟩, fun x H' ⟨e, hx⟩ => ?_⟩
  subst e
  exact turn i x σ H' (hx xs (hl i σ H' hi hp)) hp
 ·obtain rfl : i = xs.length := by omega
  exact .inl ⟨⟨xs, hl _ σ H hi hp, Nat.le_refl _⟩, fin σ H hp⟩
theorem CmpScope.plain {X : Cx} {scope : Scope} {vars : List Str} (k : scope.kind = .function) (nd : (scope.names.map (·.1)).Nodup) (f : ∀ y ∈ scope.names, y.2 ≠ .free) : CmpScope X scope vars vars [] :=
 ⟨k, nd, fun y hy e => absurd e (f y hy), by simp, fun j hj => absurd hj (by simp)⟩
def oG (i j : Int) : Prop := i.natAbs < 2 ^ 1000 /\ j.natAbs < 2 ^ 1000
theorem h9 {k : Int} (h : k.natAbs < 2 ^ 1000) : Builtin.Int.intBits k <= 2 ^ 20 := by
 unfold Builtin.Int.intBits
 split
 ·exact Nat.zero_le _
 ·rename_i hk
  have h0 : k.natAbs ≠ 0 := by
   intro z
   have : k = 0 := Int.natAbs_eq_zero.mp z
   subst this
   simp at hk
  have := (Nat.log2_lt h0).mpr h
  have e : (2 : Nat) ^ 20 = 1048576 := by decide
  omega
theorem bh {X : Cx} : OpR X (binaryOp .Mult) (rI oG fun i j => .int (i * j)) := opI fun _ _ _ _ _ _ _ hc q => mul_int q (IntMulOk.of_bits (h9 hc.1) (h9 hc.2))
theorem bF.upd {H : Hp} {a : Addr} {o : HO} (h : H a = none) : bF H (upd H a o) := fun b u e => by rw [upd_ne (ne_of_none e h)]; exact e
end L2
namespace L2.Pu
open PySem PySem.Spec PyProof.Rows
theorem ex6 {α γ ε : Sort _} {P Q R : α -> γ -> ε -> Prop} {C : Prop} (h : ∃ a b c, P a b c /\ Q a b c /\ R a b c) (k : ∀ a b c, P a b c -> Q a b c -> R a b c -> C) : C := by
 obtain ⟨a, b, c, x, y, z⟩ := h
 exact k a b c x y z
theorem ex5 {α γ : Sort _} {P Q R : α -> γ -> Prop} {C : Prop} (h : ∃ a b, P a b /\ Q a b /\ R a b) (k : ∀ a b, P a b -> Q a b -> R a b -> C) : C := by
 obtain ⟨a, b, x, y, z⟩ := h
 exact k a b x y z
inductive D where
 | non | bl (b : Bool) | int (i : Int) | str (x : Str) | ty (n : String) | txt
 | lst (xs : List D) | tup (xs : List D) | scr (xs : List Int) | obj (C : Addr) (ns : List Str) (xs : List D) | bag | adr (a : Addr)
structure Bg where
 cells : List Int
 i : Int
 j : Int
structure Fx where
 A : Addr -> Prop
 bg : Option (Addr × Addr)
def KL (K : PySem.W.Frag) (a : Addr) (xs : List V) : Prop :=
 ∃ (o : Obj) (its : Array Value) (n : Nat), K.lookup a = some o /\ o.cls = .type "list" /\ o.dict = none /\ o.data = .seq its n /\ its.size <= sizeLine /\ ay xs its.toList
def KT (K : PySem.W.Frag) (a : Addr) (xs : List V) : Prop :=
 ∃ (o : Obj) (its : Array Value) (n : Nat), K.lookup a = some o /\ o.cls = .type "tuple" /\ o.data = .seq its n /\ its.size <= sizeLine /\ ay xs its.toList
mutual
def Den (K : PySem.W.Frag) (F : Fx) (H : Hp) : D -> V -> Prop
 | .non, v => v = .non
 | .bl b, v => v = .bl b
 | .int i, v => v = .int i
 | .str x, v => v = .str x
 | .ty n, v => v = .ty n
 | .txt, v => ∃ z, v = .str z
 | .lst ds, v => ∃ a xs, v = .ref a /\ (¬ F.A a /\ Rd H a (.lst xs)) /\ DenL K F H ds xs
 | .scr ns, v => ∃ a, v = .ref a /\ ((¬ F.A a /\ Rd H a (.lst (ns.map V.int))) \/ KL K a (ns.map V.int))
 | .tup ds, v => ∃ a xs, v = .ref a /\ ((¬ F.A a /\ Rd H a (.tup xs)) \/ KT K a xs) /\ DenL K F H ds xs
 | .obj C ns ds, v => ∃ a dx xs, v = .ref a /\ ¬ F.A a /\ H a = some (.ins C dx (ns.zip xs)) /\ ns.length = xs.length /\ DenL K F H ds xs
 | .bag, v => ∃ b l, F.bg = some (b, l) /\ v = .ref b
 | .adr a, v => v = .ref a
def DenL (K : PySem.W.Frag) (F : Fx) (H : Hp) : List D -> List V -> Prop
 | [], xs => xs = []
 | d :: ds, xs => ∃ x r, xs = x :: r /\ Den K F H d x /\ DenL K F H ds r
end
structure Tr (F : Fx) (H : Hp) (F2 : Fx) (H2 : Hp) : Prop where
 av : ∀ a, ¬ F.A a -> H a ≠ none -> ¬ F2.A a
 kp : ∀ a o, ¬ F.A a -> H a = some o -> H2 a = some o
 bg : F2.bg = F.bg
theorem Tr.refl (F : Fx) (H : Hp) : Tr F H F H := ⟨fun _ h _ => h, fun _ _ _ h => h, rfl⟩
theorem Tr.trans {F F1 F2 : Fx} {H H1 H2 : Hp} (a : Tr F H F1 H1) (b : Tr F1 H1 F2 H2) : Tr F H F2 H2 :=
 ⟨fun x h1 h2 => b.av x (a.av x h1 h2) (by
   cases q : H x with
   | none => exact absurd q h2
   | some o => rw [a.kp x o h1 q]; simp),
  fun x o h1 h2 => b.kp x o (a.av x h1 (by rw [h2]; simp)) (a.kp x o h1 h2), b.bg.trans a.bg⟩
theorem Rd.tr {F F2 : Fx} {H H2 : Hp} {a : Addr} {u : HO} (t : Tr F H F2 H2) (h : ¬ F.A a) (r : Rd H a u) : ¬ F2.A a /\ Rd H2 a u := by
 rcases r with r | ⟨o, r⟩
 ·exact ⟨t.av a h (by rw [r]; simp), .inl (t.kp a _ h r)⟩
 ·exact ⟨t.av a h (by rw [r]; simp), .inr ⟨o, t.kp a _ h r⟩⟩
mutual
theorem Den.tr {K : PySem.W.Frag} {F F2 : Fx} {H H2 : Hp} (t : Tr F H F2 H2) : ∀ (d : D) (v : V), Den K F H d v -> Den K F2 H2 d v
 | .non, v, h => h
 | .bl b, v, h => h
 | .int i, v, h => h
 | .str x, v, h => h
 | .ty n, v, h => h
 | .txt, v, h => h
 | .lst ds, v, h => by
  unfold Den at h ⊢
  obtain ⟨a, xs, e, h1, h2⟩ := h
  exact ⟨a, xs, e, Rd.tr t h1.1 h1.2, DenL.tr t ds xs h2⟩
 | .scr ns, v, h => by
  unfold Den at h ⊢
  obtain ⟨a, e, h1⟩ := h
  exact ⟨a, e, h1.imp (fun ⟨p, q⟩ => Rd.tr t p q) id⟩
 | .tup ds, v, h => by
  unfold Den at h ⊢
  obtain ⟨a, xs, e, h1, h2⟩ := h
  exact ⟨a, xs, e, h1.imp (fun ⟨p, q⟩ => Rd.tr t p q) id, DenL.tr t ds xs h2⟩
 | .obj C ns ds, v, h => by
  unfold Den at h ⊢
  obtain ⟨a, dx, xs, e, h1, h2, h3, h4⟩ := h
  exact ⟨a, dx, xs, e, t.av a h1 (by rw [h2]; simp), t.kp a _ h1 h2, h3, DenL.tr t ds xs h4⟩
 | .bag, v, h => by
  unfold Den at h ⊢
  rw [t.bg]; exact h
 | .adr a, v, h => by
  unfold Den at h ⊢
  exact h
theorem DenL.tr {K : PySem.W.Frag} {F F2 : Fx} {H H2 : Hp} (t : Tr F H F2 H2) : ∀ (ds : List D) (xs : List V), DenL K F H ds xs -> DenL K F2 H2 ds xs
 | [], xs, h => h
 | d :: ds, xs, h => by
  unfold DenL at h ⊢
  obtain ⟨x, r, e, h1, h2⟩ := h
  exact ⟨x, r, e, Den.tr t d x h1, DenL.tr t ds r h2⟩
end
section
variable {K : PySem.W.Frag} {F : Fx} {H : Hp}
theorem DenL.nil : DenL K F H [] [] := rfl
theorem DenL.cons {d : D} {ds : List D} {x : V} {xs : List V} (h : Den K F H d x) (t : DenL K F H ds xs) : DenL K F H (d :: ds) (x :: xs) := ⟨x, xs, rfl, h, t⟩
theorem DenL.length : ∀ {ds : List D} {xs : List V}, DenL K F H ds xs -> ds.length = xs.length
 | [], xs, h => by have e : xs = [] := h; subst e; rfl
 | d :: ds, xs, h => by
  obtain ⟨x, r, e, _, h2⟩ := h
  subst e
  rw [List.length_cons, List.length_cons, DenL.length h2]
theorem DenL.get : ∀ {ds : List D} {xs : List V} {i : Nat} {d : D}, DenL K F H ds xs -> ds[i]? = some d -> ∃ x, xs[i]? = some x /\ Den K F H d x
 | [], _, _, _, _, e => by simp at e
 | c :: ds, xs, 0, d, h, e => by
  obtain ⟨x, r, q, h1, h2⟩ := h
  subst q
  simp at e
  subst e
  exact ⟨x, rfl, h1⟩
 | c :: ds, xs, i + 1, d, h, e => by
  obtain ⟨x, r, q, h1, h2⟩ := h
  subst q
  obtain ⟨y, h3, h4⟩ := DenL.get (i := i) (d := d) h2 (by simpa using e)
  exact ⟨y, by simpa using h3, h4⟩
theorem DenL.getV : ∀ {ds : List D} {xs : List V} {i : Nat} {x : V}, DenL K F H ds xs -> xs[i]? = some x -> ∃ d, ds[i]? = some d /\ Den K F H d x
 | [], xs, _, _, h, e => by have q : xs = [] := h; subst q; simp at e
 | c :: ds, xs, 0, d, h, e => by
  obtain ⟨x, r, q, h1, h2⟩ := h
  subst q
  simp at e
  subst e
  exact ⟨c, rfl, h1⟩
 | c :: ds, xs, i + 1, d, h, e => by
  obtain ⟨x, r, q, h1, h2⟩ := h
  subst q
  obtain ⟨y, h3, h4⟩ := DenL.getV (i := i) (x := d) h2 (by simpa using e)
  exact ⟨y, by simpa using h3, h4⟩
theorem DenL.append : ∀ {ds es : List D} {xs ys : List V}, DenL K F H ds xs -> DenL K F H es ys -> DenL K F H (ds ++ es) (xs ++ ys)
 | [], _, xs, _, h, h' => by have q : xs = [] := h; subst q; exact h'
 | c :: ds, es, xs, ys, h, h' => by
  obtain ⟨x, r, q, h1, h2⟩ := h
  subst q
  exact ⟨x, r ++ ys, rfl, h1, DenL.append h2 h'⟩
theorem DenL.set : ∀ {ds : List D} {xs : List V} (i : Nat) {d : D} {x : V}, DenL K F H ds xs -> Den K F H d x -> DenL K F H (ds.set i d) (xs.set i x)
 | [], xs, i, _, _, h, _ => by have q : xs = [] := h; subst q; simp; rfl
 | c :: ds, xs, 0, d, x, h, hd => by
  obtain ⟨y, r, q, h1, h2⟩ := h
  subst q
  exact ⟨x, r, rfl, hd, h2⟩
 | c :: ds, xs, i + 1, d, x, h, hd => by
  obtain ⟨y, r, q, h1, h2⟩ := h
  subst q
  exact ⟨y, r.set i x, rfl, h1, DenL.set i h2 hd⟩
theorem Den.sqL {ds : List D} {v : V} (h : Den K F H (.lst ds) v) : ∃ a xs, v = .ref a /\ SqL K H a xs /\ DenL K F H ds xs := by
 unfold Den at h
 obtain ⟨a, xs, e, h1, h2⟩ := h
 exact ⟨a, xs, e, .inl h1.2, h2⟩
theorem Den.rdL {ds : List D} {v : V} (h : Den K F H (.lst ds) v) : ∃ a xs, v = .ref a /\ Rd H a (.lst xs) /\ DenL K F H ds xs := by
 unfold Den at h
 obtain ⟨a, xs, e, h1, h2⟩ := h
 exact ⟨a, xs, e, h1.2, h2⟩
theorem Den.scr {ns : List Int} {v : V} (h : Den K F H (.scr ns) v) : ∃ a, v = .ref a /\ SqL K H a (ns.map V.int) := by
 unfold Den at h
 obtain ⟨a, e, h1⟩ := h
 exact ⟨a, e, h1.imp (fun p => p.2) id⟩
theorem Den.sqT {ds : List D} {v : V} (h : Den K F H (.tup ds) v) : ∃ a xs, v = .ref a /\ SqT K H a xs /\ DenL K F H ds xs := by
 unfold Den at h
 obtain ⟨a, xs, e, h1, h2⟩ := h
 exact ⟨a, xs, e, h1.imp (fun p => p.2) id, h2⟩
theorem Den.int {i : Int} {v : V} (h : Den K F H (.int i) v) : v = .int i := h
theorem Den.bl {i : Bool} {v : V} (h : Den K F H (.bl i) v) : v = .bl i := h
theorem Den.str {i : Str} {v : V} (h : Den K F H (.str i) v) : v = .str i := h
theorem Den.non {v : V} (h : Den K F H .non v) : v = .non := h
theorem Den.ty {n : String} {v : V} (h : Den K F H (.ty n) v) : v = .ty n := h
theorem DenL.ints : ∀ (ns : List Int) {xs : List V}, DenL K F H (ns.map D.int) xs -> xs = ns.map V.int
 | [], xs, h => h
 | n :: ns, xs, h => by
  obtain ⟨x, r, e, h1, h2⟩ := h
  rw [e, DenL.ints ns h2]
  have q : x = .int n := h1
  rw [q]; rfl
end
structure Fr (F : Fx) (H : Hp) (β : Bg) : Prop where
 occ : ∀ a, F.A a -> H a ≠ none
 bgA : ∀ b l, F.bg = some (b, l) -> F.A b /\ F.A l /\ b ≠ l
 bag : ∀ b l, F.bg = some (b, l) -> H b = some (.lst [.ref l, .int β.i, .int β.j]) /\ H l = some (.lst (β.cells.map V.int))
structure To (F : Fx) (H H' : Hp) (β' : Bg) : Prop where
 kp : ∀ a o, H a = some o -> (∀ b l, F.bg = some (b, l) -> a ≠ b /\ a ≠ l) -> H' a = some o
 fr : Fr F H' β'
theorem To.refl {F : Fx} {H : Hp} {β : Bg} (fr : Fr F H β) : To F H H β := ⟨fun _ _ h _ => h, fr⟩
theorem To.trans {F : Fx} {H H1 H2 : Hp} {β1 β2 : Bg} (a : To F H H1 β1) (b : To F H1 H2 β2) : To F H H2 β2 := ⟨fun x o h n => b.kp x o (a.kp x o h n) n, b.fr⟩
theorem Fr.same {F : Fx} {H H' : Hp} {β : Bg} (fr : Fr F H β) (s : bF H H') : To F H H' β :=
 ⟨fun a o h _ => s a o h, ⟨fun a h q => (by
  cases e : H a with
  | none => exact fr.occ a h e
  | some o => exact absurd ((s a o e).symm.trans q) (by simp)), fr.bgA, fun b l e => ⟨s _ _ (fr.bag b l e).1, s _ _ (fr.bag b l e).2⟩⟩⟩
theorem Fr.upd {F : Fx} {H : Hp} {β : Bg} (fr : Fr F H β) {p : Addr} (o : HO) (h : H p = none) : To F H (upd H p o) β := fr.same (bF.upd h)
theorem Fr.fresh {F : Fx} {H : Hp} {β : Bg} (fr : Fr F H β) {p : Addr} (h : H p = none) : ¬ F.A p := fun q => fr.occ p q h
theorem To.tr {F : Fx} {H H' : Hp} {β β' : Bg} (fr : Fr F H β) (t : To F H H' β') : Tr F H F H' :=
 ⟨fun _ h _ => h, fun a o h e => t.kp a o e fun b l q => ⟨fun z => h (z ▸ (fr.bgA b l q).1), fun z => h (z ▸ (fr.bgA b l q).2.1)⟩, rfl⟩
abbrev Dn := List (Option D)
structure VOk (K : PySem.W.Frag) (F : Fx) (H : Hp) (δ : Dn) (σ : St) : Prop where
 len : δ.length = σ.length
 tell : ∀ (i : Nat) (d : D), δ[i]? = some (some d) -> ∃ v, σ[i]? = some (some v) /\ Den K F H d v
theorem VOk.tr {K : PySem.W.Frag} {F F2 : Fx} {H H2 : Hp} {δ : Dn} {σ : St} (t : Tr F H F2 H2) (h : VOk K F H δ σ) : VOk K F2 H2 δ σ := ⟨h.len, fun i d e => let ⟨v, h1, h2⟩ := h.tell i d e; ⟨v, h1, Den.tr t d v h2⟩⟩
theorem VOk.set {K : PySem.W.Frag} {F : Fx} {H : Hp} {δ : Dn} {σ : St} {i : Nat} {d : D} {v : V} (h : VOk K F H δ σ) (hd : Den K F H d v) : VOk K F H (δ.set i (some d)) (σ.set i (some v)) := by
 refine ⟨by rw [List.length_set, List.length_set, h.len], fun j c e => ?_⟩
 rw [List.getElem?_set] at e
 rw [List.getElem?_set]
 by_cases q : i = j
 ·subst q
  rw [if_pos rfl] at e ⊢
  split at e
  ·rename_i hl
   cases e
   rw [if_pos (by rw [← h.len]; exact hl)]
   exact ⟨v, rfl, hd⟩
  ·cases e
 ·rw [if_neg q] at e ⊢
  exact h.tell j c e
def Sub (δ δ1 : Dn) : Prop := ∀ (i : Nat) (d : D), δ[i]? = some (some d) -> δ1[i]? = some (some d)
theorem VOk.sub {K : PySem.W.Frag} {F : Fx} {H : Hp} {δ δ1 : Dn} {σ : St} (h : VOk K F H δ1 σ) (s : Sub δ δ1) (l : δ.length = δ1.length) : VOk K F H δ σ := ⟨l.trans h.len, fun i d e => h.tell i d (s i d e)⟩
abbrev M (α : Type) := Bg -> Option (Except Addr α × Bg)
def M.ret {α : Type} (a : α) : M α := fun β => some (.ok a, β)
def M.bind {α γ : Type} (m : M α) (k : α -> M γ) : M γ := fun β => match m β with
 | none => none
 | some (.error C, β1) => some (.error C, β1)
 | some (.ok a, β1) => k a β1
def M.ofO {α : Type} (o : Option α) : M α := fun β => match o with
 | some a => some (.ok a, β)
 | none => none
def M.fail {α : Type} : M α := fun _ => none
theorem M.bind_some {α γ : Type} (a : α) (k : α -> M γ) : M.bind (M.ofO (some a)) k = k a := rfl
theorem M.bind_ok {α γ : Type} {m : M α} {k : α -> M γ} {β β1 : Bg} {a : α} (h : m β = some (.ok a, β1)) : M.bind m k β = k a β1 := by unfold M.bind; rw [h]
theorem M.bind_err {α γ : Type} {m : M α} {k : α -> M γ} {β β1 : Bg} {C : Addr} (h : m β = some (.error C, β1)) : M.bind m k β = some (.error C, β1) := by unfold M.bind; rw [h]
def run {α γ : Type} (R : Hp -> α -> γ -> Prop) (F : Fx) (E : St -> XK) (σ : St) (m : M α) (H : Hp) (Q : γ -> Hp -> Prop) (β : Bg) : Prop :=
 ∃ r β', m β = some (r, β') /\ match r with
  | .ok d => ∀ v H', To F H H' β' -> R H' d v -> Q v H'
  | .error C => ∀ H', To F H H' β' -> E σ (.ref C) none H'
theorem run.mono {α γ : Type} {R : Hp -> α -> γ -> Prop} {F : Fx} {E : St -> XK} {σ : St} {m : M α} {H : Hp} {Q Q' : γ -> Hp -> Prop} {β : Bg} (h : run R F E σ m H Q β) (f : ∀ v H', Q v H' -> Q' v H') : run R F E σ m H Q' β := by
 obtain ⟨r, β', e, h⟩ := h
 refine ⟨r, β', e, ?_⟩
 cases r with
 | ok d => exact fun v H' t q => f v H' (h v H' t q)
 | error C => exact h
theorem run.bind {α γ ε ζ : Type} {R : Hp -> α -> γ -> Prop} {R2 : Hp -> ε -> ζ -> Prop} {F : Fx} {E : St -> XK} {σ : St} {m : M α} {k : α -> M ε} {H : Hp} {Q : ζ -> Hp -> Prop} {β : Bg} (h : run R2 F E σ (M.bind m k) H Q β) :
  run R F E σ m H (fun v H1 => ∃ d β1, To F H H1 β1 /\ R H1 d v /\ run R2 F E σ (k d) H1 Q β1) β := by
 obtain ⟨r, β', e, h⟩ := h
 cases q : m β with
 | none => unfold M.bind at e; rw [q] at e; cases e
 | some z =>
  obtain ⟨r1, β1⟩ := z
  refine ⟨r1, β1, q, ?_⟩
  cases r1 with
  | error C =>
   rw [M.bind_err q] at e
   cases e
   exact h
  | ok d =>
   rw [M.bind_ok q] at e
   intro v H1 t hd
   refine ⟨d, β1, t, hd, r, β', e, ?_⟩
   cases r with
   | ok d2 => exact fun v2 H2 t2 h2 => h v2 H2 (t.trans t2) h2
   | error C => exact fun H2 t2 => h H2 (t.trans t2)
theorem run.ret {α γ : Type} {R : Hp -> α -> γ -> Prop} {F : Fx} {E : St -> XK} {σ : St} {a : α} {v : γ} {H : Hp} {Q : γ -> Hp -> Prop} {β : Bg} (fr : Fr F H β) (h : run R F E σ (M.ret a) H Q β) (r : R H a v) : Q v H := by
 obtain ⟨_, _, e, h⟩ := h
 cases e
 exact h v H (To.refl fr) r
theorem run.ofO {α γ : Type} {R : Hp -> α -> γ -> Prop} {F : Fx} {E : St -> XK} {σ : St} {o : Option α} {H : Hp} {Q : γ -> Hp -> Prop} {β : Bg} (h : run R F E σ (M.ofO o) H Q β) : ∃ a, o = some a /\ ∀ v H', To F H H' β -> R H' a v -> Q v H' := by
 obtain ⟨_, _, e, h⟩ := h
 cases o with
 | none => cases e
 | some a => cases e; exact ⟨a, rfl, h⟩
def tV (K : PySem.W.Frag) (f : Dn -> M D) (E : St -> XK) : TE := fun σ H Q => ∃ F δ β, Fr F H β /\ VOk K F H δ σ /\ run (Den K F) F E σ (f δ) H Q β
def tVA (K : PySem.W.Frag) (f : Dn -> M (List D)) (E : St -> XK) : TA := fun σ H Q => ∃ F δ β, Fr F H β /\ VOk K F H δ σ /\ run (DenL K F) F E σ (f δ) H Q β
def tVT (K : PySem.W.Frag) (f : Dn -> M Bool) (E : St -> XK) : TT := fun σ H Q => ∃ F δ β, Fr F H β /\ VOk K F H δ σ /\ run (fun _ (a b : Bool) => b = a) F E σ (f δ) H Q β
theorem _root_.L2.PE.imp {X : Cx} {e : Expr} {t t' : TE} (h : PE X e t) (f : ∀ σ H Q, t' σ H Q -> t σ H Q) : PE X e t' := fun pins s σ H Q I q => h pins s σ H Q I (f σ H Q q)
theorem _root_.L2.PT.imp {X : Cx} {e : Expr} {t t' : TT} (h : PT X e t) (f : ∀ σ H Q, t' σ H Q -> t σ H Q) : PT X e t' := fun pins s σ H Q I q => h pins s σ H Q I (f σ H Q q)
theorem _root_.L2.PW.imp {X : Cx} {e : Expr} {t t' : TT} (h : PW X e t) (f : ∀ σ H Q, t' σ H Q -> t σ H Q) : PW X e t' := fun wh pins s σ H Q I q => h wh pins s σ H Q I (f σ H Q q)
theorem _root_.L2.PA.imp {X : Cx} {e : List Expr} {t t' : TA} (h : PA X e t) (f : ∀ σ H Q, t' σ H Q -> t σ H Q) : PA X e t' := fun pos pins s σ H Q I q => h pos pins s σ H Q I (f σ H Q q)
def aa (i : Nat) : Dn -> M D := fun δ => M.ofO (δ.getD i none)
def fC (d : D) : Dn -> M D := fun _ => M.ret d
def f1 (op : D -> Option D) (f : Dn -> M D) : Dn -> M D := fun δ => M.bind (f δ) fun a => M.ofO (op a)
def f2 (op : D -> D -> Option D) (f g : Dn -> M D) : Dn -> M D := fun δ => M.bind (f δ) fun a => M.bind (g δ) fun b => M.ofO (op a b)
def ah : Dn -> M (List D) := fun _ => M.ret []
def ae (f : Dn -> M D) (g : Dn -> M (List D)) : Dn -> M (List D) := fun δ => M.bind (f δ) fun a => M.bind (g δ) fun as => M.ret (a :: as)
def aq (op : List D -> Option D) (g : Dn -> M (List D)) : Dn -> M D := fun δ => M.bind (g δ) fun as => M.ofO (op as)
def au (m : List D -> M D) (g : Dn -> M (List D)) : Dn -> M D := fun δ => M.bind (g δ) fun as => m as
section
variable {X : Cx} {E : St -> XK} {e a b : Expr} {es : List Expr} {pos : Pos}
theorem ad (i : Nat) {x : Str} (h : PE X (.Name x pos) (oS i)) : PE X (.Name x pos) (tV X.K (aa i) E) := h.imp fun σ H Q h_ => by
 obtain ⟨F, δ, β, fr, vk, r⟩ := h_
 obtain ⟨d, e, r⟩ := run.ofO r
 have e2 : δ[i]? = some (some d) := by
  rw [List.getD_eq_getElem?_getD] at e
  cases q : δ[i]? with
  | none => rw [q] at e; cases e
  | some z => rw [q] at e; simp at e; rw [e]
 obtain ⟨v, h1, h2⟩ := vk.tell i d e2
 exact ⟨v, h1, r v H (To.refl fr) h2⟩
theorem v_c {d : D} {v : V} (h : PE X e (tC v)) (hd : ∀ F H, Den X.K F H d v) : PE X e (tV X.K (fC d) E) := h.imp fun σ H Q h_ => by obtain ⟨F, δ, β, fr, vk, r⟩ := h_; exact run.ret fr r (hd F H)
theorem aD {i j pos} : PE X (.Constant (.int i) j pos) (tV X.K (fC (.int i)) E) := v_c bA fun _ _ => rfl
theorem iQ {i j pos} : PE X (.Constant (.bool i) j pos) (tV X.K (fC (.bl i)) E) := v_c Eb fun _ _ => rfl
theorem yp {j pos} : PE X (.Constant .none j pos) (tV X.K (fC .non) E) := v_c AV fun _ _ => rfl
theorem bR {i j pos} : PE X (.Constant (.str i) j pos) (tV X.K (fC (.str i)) E) := v_c jJ fun _ _ => rfl
theorem ag : PA X [] (tVA X.K ah E) := dC.imp fun σ H Q h_ => by obtain ⟨F, δ, β, fr, vk, r⟩ := h_; exact run.ret fr r DenL.nil
theorem ac {f : Dn -> M D} {g : Dn -> M (List D)} (ha : PE X e (tV X.K f E)) (hr : PA X es (tVA X.K g E)) (hs : starEach (e :: es) X.env = (false, eval e X.env) :: starEach es X.env := by rfl) : PA X (e :: es) (tVA X.K (ae f g) E) :=
 (bf ha hr hs).imp fun σ H Q h_ => ex6 h_ fun F δ β fr vk r => ⟨F, δ, β, fr, vk, (run.bind (R := Den X.K F) r).mono fun v H1 ⟨d, β1, t, hd, r1⟩ =>
  ⟨F, δ, β1, t.fr, vk.tr (t.tr fr), (run.bind (R := DenL X.K F) r1).mono fun vs H2 h_ => ex5 h_ fun ds β2 t2 hds r2 => run.ret t2.fr r2 (DenL.cons (Den.tr (t2.tr t.fr) _ _ hd) hds)⟩⟩
def bj (K : PySem.W.Frag) (r : R2) (op : D -> D -> Option D) : Prop := ∀ (F : Fx) (H : Hp) (β : Bg) (Q : VK) (d1 d2 d : D) (v1 v2 : V), Fr F H β -> Den K F H d1 v1 -> Den K F H d2 v2 -> op d1 d2 = some d ->
 (∀ v H', To F H H' β -> Den K F H' d v -> Q v H') -> r v1 v2 H Q
def dg (K : PySem.W.Frag) (r : List V -> Hp -> VK -> Prop) (op : List D -> Option D) : Prop := ∀ (F : Fx) (H : Hp) (β : Bg) (Q : VK) (ds : List D) (d : D) (vs : List V), Fr F H β -> DenL K F H ds vs -> op ds = some d ->
 (∀ v H', To F H H' β -> Den K F H' d v -> Q v H') -> r vs H Q
theorem kZ {r : R2} {op : D -> D -> Option D} {f g : Dn -> M D} {K : PySem.W.Frag} (l : bj K r op) {σ : St} {H : Hp} {Q : VK} (h : tV K (f2 op f g) E σ H Q) : tOp r (tV K f E) (tV K g E) σ H Q := by
 obtain ⟨F, δ, β, fr, vk, h⟩ := h
 refine ⟨F, δ, β, fr, vk, (run.bind (R := Den K F) h).mono fun v H1 h_ => ex5 h_ fun d β1 t hd r1 => ⟨F, δ, β1, t.fr, vk.tr (t.tr fr), (run.bind (R := Den K F) r1).mono fun v2 H2 h_ => ex5 h_ fun d2 β2 t2 hd2 r2 => ?_⟩⟩
 obtain ⟨d3, e3, k⟩ := run.ofO r2
 exact l F H2 β2 Q d d2 d3 v v2 t2.fr (Den.tr (t2.tr t.fr) _ _ hd) hd2 e3 k
theorem aO {op : Operator} {r : R2} {o : D -> D -> Option D} {f g : Dn -> M D} (ho : OpR X (binaryOp op) r) (l : bj X.K r o) (ha : PE X a (tV X.K f E)) (hb : PE X b (tV X.K g E)) : PE X (.BinOp a op b pos) (tV X.K (f2 o f g) E) :=
 (c9 ho ha hb).imp fun _ _ _ => kZ l
theorem fF {op : CmpOp} {r : R2} {o : D -> D -> Option D} {f g : Dn -> M D} (ho : OpR X (compareOp op) r) (l : bj X.K r o) (ha : PE X a (tV X.K f E)) (hb : PE X b (tV X.K g E)) (hm : behindInMarks op b = false := by first | exact pi _ | rfl) : PE X (.Compare a [op] [b] pos) (tV X.K (f2 o f g) E) :=
 (zt ho ha hb hm).imp fun _ _ _ => kZ l
theorem ci {r : R2} {o : D -> D -> Option D} {f g : Dn -> M D} (hr : IxR X r) (l : bj X.K r o) (ha : PE X a (tV X.K f E)) (hb : PE X b (tV X.K g E)) (hs : qW b := by exact fun _ _ => rfl) : PE X (.Subscript a b pos) (tV X.K (f2 o f g) E) :=
 (gZ hr ha hb hs).imp fun _ _ _ => kZ l
theorem tF {K : PySem.W.Frag} {r : List V -> Hp -> VK -> Prop} {op : List D -> Option D} {g : Dn -> M (List D)} (l : dg K r op) {σ : St} {H : Hp} {Q : VK} (h : tV K (aq op g) E σ H Q) : tCB r (tVA K g E) σ H Q := by
 obtain ⟨F, δ, β, fr, vk, h⟩ := h
 refine ⟨F, δ, β, fr, vk, (run.bind (R := DenL K F) h).mono fun v H1 h_ => ex5 h_ fun d β1 t hd r1 => ?_⟩
 obtain ⟨d3, e3, k⟩ := run.ofO r1
 exact l F H1 β1 Q d d3 v t.fr hd e3 k
theorem aF {x : Str} {p : Pos} {id : String} {r : List V -> Hp -> VK -> Prop} {op : List D -> Option D} {g : Dn -> M (List D)} (hc : cQ X (.builtin id) r) (l : dg X.K r op) (hg : Gl X x) (hm : X.mg x = none) (hv : bootBuiltins x = some (.builtin id)) (ha : PA X (e :: es) (tVA X.K g E)) (hn : x ≠ "__name__" := by decide) (hdb : (x == ("__debug__" : Str)) = false := by decide)
  (he : starEach (e :: es) X.env = (false, eval e X.env) :: starEach es X.env := by rfl) (hpl : (backTo pos (starEach es X.env)).any (·.1) = false := by rfl) : PE X (.Call (.Name x p) (e :: es) [] pos) (tV X.K (aq op g) E) :=
 (kG hc hg hm hv ha hn hdb he hpl).imp fun _ _ _ => tF l
theorem fe {x : Str} {p : Pos} {T : String} {r : List V -> Hp -> VK -> Prop} {op : List D -> Option D} {g : Dn -> M (List D)} (hc : cQ X (.type T) r) (l : dg X.K r op) (hg : Gl X x) (hm : X.mg x = none) (hv : bootBuiltins x = some (.type T)) (ha : PA X (e :: es) (tVA X.K g E)) (hn : x ≠ "__name__" := by decide) (hdb : (x == ("__debug__" : Str)) = false := by decide)
  (he : starEach (e :: es) X.env = (false, eval e X.env) :: starEach es X.env := by rfl) (hpl : (backTo pos (starEach es X.env)).any (·.1) = false := by rfl) : PE X (.Call (.Name x p) (e :: es) [] pos) (tV X.K (aq op g) E) :=
 (t7 hc hg hm hv ha hn hdb he hpl).imp fun _ _ _ => tF l
def cu (ds : List D) : Option D := if ds.length <= sizeLine then some (.tup ds) else none
def dU (ds : List D) : Option D := if ds.length <= sizeLine then some (.lst ds) else none
theorem Den.newT {K : PySem.W.Frag} {F : Fx} {H : Hp} {β : Bg} {p : Addr} {ds : List D} {xs : List V} (fr : Fr F H β) (h : H p = none) (hd : DenL K F H ds xs) : Den K F (upd H p (.tup xs)) (.tup ds) (.ref p) :=
 ⟨p, xs, rfl, .inl ⟨fr.fresh h, .inl aw⟩, DenL.tr ((fr.upd _ h).tr fr) _ _ hd⟩
theorem Den.newL {K : PySem.W.Frag} {F : Fx} {H : Hp} {β : Bg} {p : Addr} {ds : List D} {xs : List V} (fr : Fr F H β) (h : H p = none) (hd : DenL K F H ds xs) : Den K F (upd H p (.lst xs)) (.lst ds) (.ref p) :=
 ⟨p, xs, rfl, ⟨fr.fresh h, .inl aw⟩, DenL.tr ((fr.upd _ h).tr fr) _ _ hd⟩
theorem j6 {x1} {g : Dn -> M (List D)} (h : PA X es (tVA X.K g E)) : PE X (.Tuple es x1 pos) (tV X.K (aq cu g) E) :=
 (AT h).imp fun σ H Q h_ => ex6 h_ fun F δ β fr vk r => ⟨F, δ, β, fr, vk, (run.bind (R := DenL X.K F) r).mono fun vs H1 h_ => by
  obtain ⟨ds, β1, t, hd, r1⟩ := h_
  obtain ⟨d3, e3, k⟩ := run.ofO r1
  unfold cu at e3
  split at e3
  ·cases e3
   exact ⟨by rw [← hd.length]; assumption, fun p hp => k _ _ (t.fr.upd _ hp) (Den.newT t.fr hp hd)⟩
  ·cases e3⟩
theorem yq {g : Dn -> M (List D)} (h : PA X es (tVA X.K g E)) : PE X (.List es pos) (tV X.K (aq dU g) E) :=
 (lH h).imp fun σ H Q h_ => ex6 h_ fun F δ β fr vk r => ⟨F, δ, β, fr, vk, (run.bind (R := DenL X.K F) r).mono fun vs H1 h_ => by
  obtain ⟨ds, β1, t, hd, r1⟩ := h_
  obtain ⟨d3, e3, k⟩ := run.ofO r1
  unfold dU at e3
  split at e3
  ·cases e3
   exact ⟨by rw [← hd.length]; assumption, fun p hp => k _ _ (t.fr.upd _ hp) (Den.newL t.fr hp hd)⟩
  ·cases e3⟩
end
def spF (K : PySem.W.Frag) (n : Nat) (m : List D -> M D) : Sp := fun vs H Q E => vs.length = n /\ ∃ F ds β, Fr F H β /\ DenL K F H ds vs /\ run (Den K F) F (fun _ => E) [] (m ds) H Q β
section
variable {X : Cx} {E : St -> XK} {e : Expr} {es : List Expr} {pos p : Pos} {x : Str} {k n : Nat} {f : Addr} {fd : FuncData} {ps : List Str}
theorem run.toE {α γ : Type} {R : Hp -> α -> γ -> Prop} {F : Fx} {E : St -> XK} {σ : St} {m : M α} {H : Hp} {Q : γ -> Hp -> Prop} {β : Bg} (h : run R F E σ m H Q β) : run R F (fun _ => E σ) [] m H Q β := h
theorem ax {m : List D -> M D} {g : Dn -> M (List D)} (G : FnOk X.prog X.w X.K X.mg X.base (CXE X.prog X.w) k f fd ps (spF X.K n m)) (hr : Room k X.A) (hg : Gl X x) (hm : X.mg x = some (.ref f)) (hk : PySem.W.keepIn X.K (.ref f) = true) (hb : aI X.K fd ps []) (hx : cJ (CXE X.prog X.w) X E)
  (ha : PA X (e :: es) (tVA X.K g E)) (hn : ∀ δ β r β', g δ β = some (.ok r, β') -> r.length = n) (hdb : (x == ("__debug__" : Str)) = false := by decide) (he : starEach (e :: es) X.env = (false, eval e X.env) :: starEach es X.env := by rfl) (hpl : (backTo pos (starEach es X.env)).any (·.1) = false := by rfl) :
  PE X (.Call (.Name x p) (e :: es) [] pos) (tV X.K (au m g) E) :=
 (qB G hr hg hm hk hb .nil hx ha hdb he hpl).imp fun σ H Q h_ => ex6 h_ fun F δ β fr vk r => ⟨F, δ, β, fr, vk, by
  obtain ⟨r0, β0, e0, h0⟩ := run.bind (R := DenL X.K F) r
  refine ⟨r0, β0, e0, ?_⟩
  cases r0 with
  | error C => exact h0
  | ok ds =>
   intro vs H1 t hd
   obtain ⟨d', β1, t1, hd1, r1⟩ := h0 vs H1 t hd
   have hl := hn _ _ _ _ e0
   refine ⟨by rw [List.append_nil, ← hd.length, hl], F, d', β1, t1.fr, by rw [List.append_nil]; exact hd1, run.toE r1⟩⟩
end
theorem yf {δ : Dn} {β β' : Bg} {r : List D} (h : ah δ β = some (.ok r, β')) : r.length = 0 := by cases h; rfl
theorem af {f : Dn -> M D} {g : Dn -> M (List D)} {n : Nat} (hg : ∀ δ β r β', g δ β = some (.ok r, β') -> r.length = n) : ∀ δ β r β', ae f g δ β = some (.ok r, β') -> r.length = n + 1 := by
 intro δ β r β' h
 unfold ae M.bind at h
 split at h
 ·cases h
 ·cases h
 ·dsimp only at h
  split at h
  ·cases h
  ·cases h
  ·rename_i as _ hq
   cases h
   rw [List.length_cons, hg _ _ _ _ hq]
section
variable {X : Cx} {K : PySem.W.Frag}
def opI (g : Int -> Int -> Option D) : D -> D -> Option D
 | .int i, .int j => g i j
 | _, _ => none
theorem i6 {g : Int -> Int -> Option D} {a b d : D} (h : opI g a b = some d) : ∃ i j, a = .int i /\ b = .int j /\ g i j = some d := by
 cases a <;> cases b <;> first | (exact ⟨_, _, rfl, rfl, h⟩) | (cases h)
theorem uk {g : Int -> Int -> Int} : bj K (rI0 fun i j => .int (g i j)) (opI fun i j => some (.int (g i j))) := fun F H β Q d1 d2 d v1 v2 fr h1 h2 e k => by
 obtain ⟨i, j, rfl, rfl, e⟩ := i6 e
 cases e
 exact ⟨i, j, h1, h2, k _ H (To.refl fr) rfl⟩
theorem gl {g : Int -> Int -> Bool} : bj K (rI0 fun i j => .bl (g i j)) (opI fun i j => some (.bl (g i j))) := fun F H β Q d1 d2 d v1 v2 fr h1 h2 e k => by
 obtain ⟨i, j, rfl, rfl, e⟩ := i6 e
 cases e
 exact ⟨i, j, h1, h2, k _ H (To.refl fr) rfl⟩
theorem hG {C : Int -> Int -> Prop} {c : Int -> Int -> Bool} {g : Int -> Int -> Int} (hc : ∀ i j, c i j = true -> C i j) : bj K (rI C fun i j => .int (g i j)) (opI fun i j => if c i j = true then some (.int (g i j)) else none) := fun F H β Q d1 d2 d v1 v2 fr h1 h2 e k => by
 obtain ⟨i, j, rfl, rfl, e2⟩ := i6 e
 split at e2
 ·cases e2
  exact ⟨i, j, h1, h2, hc _ _ (by assumption), k _ H (To.refl fr) rfl⟩
 ·cases e2
def fP (i : Int) : Bool := decide (i.natAbs < 2 ^ 1000)
def iS : D -> D -> Option D := opI fun i j => some (.int (i - j))
def eS : D -> D -> Option D := opI fun i j => if (decide (0 < j) && decide (j.natAbs.log2 < 9000)) = true then some (.int (i / j)) else none
def kI : D -> D -> Option D := opI fun i j => if decide (0 < j) = true then some (.int (i % j)) else none
def vc : D -> D -> Option D := opI fun i j => if (decide (i = 10) && decide (0 <= j) && decide (j <= 60)) = true then some (.int (i ^ j.toNat)) else none
def ltD : D -> D -> Option D := opI fun i j => some (.bl (decide (i < j)))
def leD : D -> D -> Option D := opI fun i j => some (.bl (decide (i <= j)))
def gtD : D -> D -> Option D := opI fun i j => some (.bl (decide (j < i)))
def geD : D -> D -> Option D := opI fun i j => some (.bl (decide (j <= i)))
theorem lQ : bj K (rI0 fun i j => .int (i - j)) iS := uk
theorem rK : bj K (rI0 fun i j => .bl (decide (i < j))) ltD := gl
theorem kJ : bj K (rI0 fun i j => .bl (decide (i <= j))) leD := gl
theorem kK : bj K (rI0 fun i j => .bl (decide (j < i))) gtD := gl
theorem Bb : bj K (rI0 fun i j => .bl (decide (j <= i))) geD := gl
theorem jQ : bj K (rI oH fun i j => .int (i / j)) eS := hG fun i j h => by
 simp only [Bool.and_eq_true, decide_eq_true_eq] at h
 exact h
theorem yH : bj K (rI (fun _ j => 0 < j) fun i j => .int (i % j)) kI := hG fun i j h => of_decide_eq_true h
def rm : R2 := fun x y H Q => ∃ l b xs zs, x = .ref l /\ y = .ref b /\ Rd H l (.lst xs) /\ Rd H b (.lst zs) /\ xs.length + zs.length <= sizeLine /\ ∀ p, H p = none -> Q (.ref p) (upd H p (.lst (xs ++ zs)))
theorem zy : OpR X (binaryOp .Add) rm := by
 intro pins s σ H x y v u Q I rx ry h
 obtain ⟨l, b, xs, zs, rfl, rfl, hH, hB, hz, q⟩ := h
 cases rx
 cases ry
 obtain ⟨z, its, n, r, e⟩ := hH.ok I.hok
 obtain ⟨z2, its2, n2, r2, e2⟩ := hB.ok I.hok
 have l1 := r.length
 have l2 := r2.length
 refine PySem.P.add_list e e2 ?_ (by simp only [List.size_toArray]; omega)
 rw [show its.toArray ++ its2.toArray = (its ++ its2).toArray by simp]
 exact ⟨.ref _, _, I.lnew (t' := s.toks) (r.append r2) (by rw [List.length_append]; omega), rfl, q _ I.fresh⟩
def rn (K : PySem.W.Frag) : R2 := fun x y H Q => ∃ a b ys, x = .ref a /\ y = .ref b /\ SqT K H a [] /\ SqT K H b ys /\ Q (.ref b) H
theorem zz : OpR X (binaryOp .Add) (rn X.K) := by
 intro pins s σ H x y v u Q I rx ry h
 obtain ⟨a, b, ys, rfl, rfl, ha, hb, q⟩ := h
 cases rx
 cases ry
 obtain ⟨its, r1, p1, _⟩ := I.tuple ha
 obtain ⟨its2, r2, p2, _⟩ := I.tuple hb
 cases r1
 obtain ⟨⟨c1, d1, dt1, sl1⟩, ho, hc, n, hd⟩ := p1
 obtain ⟨⟨c2, d2, dt2, sl2⟩, ho2, hc2, n2, hd2⟩ := p2
 simp only at hc hd hc2 hd2
 subst hc hd hc2 hd2
 exact PySem.concat_meets ⟨_, ho, rfl⟩ ⟨_, ho2, rfl⟩ noFill_tuple_add seq_tuple_add PySem.F.slot_tuple_add PySem.F.entry_tuple_add (PySem.F.args_tuple_add_2 _ _) (tuple_addW0 a b _ _ n n2 d1 d2 sl1 sl2 (by simp)) ⟨ho, ho2, ⟨.ref b, H, I, rfl, q⟩⟩
def eY : D -> D -> Option D
 | .int i, .int j => some (.int (i + j))
 | .tup [], .tup b => some (.tup b)
 | .lst a, .lst b => if a.length + b.length <= sizeLine then some (.lst (a ++ b)) else none
 | .tup (c :: a), .tup b => if (c :: a).length + b.length <= sizeLine then some (.tup (c :: a ++ b)) else none
 | _, _ => none
theorem fJ : bj K (fun x y H Q => (rI0 fun i j => .int (i + j)) x y H Q \/ rm x y H Q \/ rk K x y H Q \/ rn K x y H Q) eY := fun F H β Q d1 d2 d v1 v2 fr h1 h2 e k => by
 unfold eY at e
 split at e
 ·cases e
  exact .inl ⟨_, _, h1, h2, k _ H (To.refl fr) rfl⟩
 ·cases e
  obtain ⟨a, xs, rfl, r1, dl1⟩ := Den.sqT h1
  obtain ⟨b, ys, rfl, r2, dl2⟩ := Den.sqT h2
  have q : xs = [] := dl1
  subst q
  exact .inr (.inr (.inr ⟨a, b, ys, rfl, rfl, r1, r2, k _ H (To.refl fr) h2⟩))
 ·split at e
  ·cases e
   obtain ⟨a, xs, rfl, r1, dl1⟩ := Den.rdL h1
   obtain ⟨b, ys, rfl, r2, dl2⟩ := Den.rdL h2
   exact .inr (.inl ⟨a, b, xs, ys, rfl, rfl, r1, r2, by rw [← dl1.length, ← dl2.length]; assumption, fun p hp => k _ _ (fr.upd _ hp) (Den.newL fr hp (dl1.append dl2))⟩)
  ·cases e
 ·split at e
  ·cases e
   obtain ⟨a, xs, rfl, r1, dl1⟩ := Den.sqT h1
   obtain ⟨b, ys, rfl, r2, dl2⟩ := Den.sqT h2
   have n1 := dl1.length
   have n2 := dl2.length
   refine .inr (.inr (.inl ⟨a, b, xs, ys, rfl, rfl, r1, r2, (fun z => by subst z; cases n1), by rw [← n1, ← n2]; assumption, fun z => ?_, fun _ p hp => k _ _ (fr.upd _ hp) (Den.newT fr hp (dl1.append dl2))⟩))
   subst z
   have z2 := List.length_eq_zero_iff.mp n2
   subst z2
   rw [List.append_nil] at k
   exact k _ H (To.refl fr) h1
  ·cases e
 ·cases e
theorem cc : OpR X (binaryOp .Add) (fun x y H Q => (rI0 fun i j => .int (i + j)) x y H Q \/ rm x y H Q \/ rk X.K x y H Q \/ rn X.K x y H Q) := lI.or (zy.or (zx.or zz))
def bb : D -> D -> Option D := opI fun i j => if (fP i && fP j) = true then some (.int (i * j)) else none
theorem bK : bj K (rI oG fun i j => .int (i * j)) bb := hG fun i j h => by
 simp only [Bool.and_eq_true, fP, decide_eq_true_eq] at h
 exact h
def eqS : D -> D -> Option Bool
 | .non, .non => some true
 | .int i, .int j => some (decide (i = j))
 | .bl i, .bl j => some (decide (i = j))
 | .str i, .str j => some (decide (i = j))
 | .int _, .str _ => some false
 | .str _, .int _ => some false
 | .bl _, .str _ => some false
 | .str _, .bl _ => some false
 | .non, .int _ => some false
 | .int _, .non => some false
 | .non, .str _ => some false
 | .str _, .non => some false
 | _, _ => none
theorem uC {F : Fx} {H : Hp} {a b : D} {v w : V} {c : Bool} (h : eqS a b = some c) (h1 : Den K F H a v) (h2 : Den K F H b w) : uY v w = true /\ decide (v = w) = c := by
 unfold eqS at h
 split at h <;> first
  | (cases h; cases h1.int; cases h2.int; exact ⟨rfl, by simp⟩)
  | (cases h; cases h1.bl; cases h2.bl; exact ⟨rfl, by simp⟩)
  | (cases h; cases h1.str; cases h2.str; exact ⟨rfl, by simp⟩)
  | (cases h; cases h1.non; cases h2.non; exact ⟨rfl, by simp⟩)
  | (cases h; cases h1.int; cases h2.str; exact ⟨rfl, rfl⟩)
  | (cases h; cases h1.str; cases h2.int; exact ⟨rfl, rfl⟩)
  | (cases h; cases h1.bl; cases h2.str; exact ⟨rfl, rfl⟩)
  | (cases h; cases h1.str; cases h2.bl; exact ⟨rfl, rfl⟩)
  | (cases h; cases h1.non; cases h2.int; exact ⟨rfl, rfl⟩)
  | (cases h; cases h1.int; cases h2.non; exact ⟨rfl, rfl⟩)
  | (cases h; cases h1.non; cases h2.str; exact ⟨rfl, rfl⟩)
  | (cases h; cases h1.str; cases h2.non; exact ⟨rfl, rfl⟩)
  | cases h
def isN : D -> Bool
 | .non => true
 | _ => false
theorem Bi {F : Fx} {H : Hp} {d : D} {v : V} (h : Den K F H d v) : decide (v = .non) = isN d := by
 cases d with
 | non => cases h.non; rfl
 | bl b => cases h.bl; rfl
 | int b => cases h.int; rfl
 | str b => cases h.str; rfl
 | ty b => cases h.ty; rfl
 | txt => unfold Den at h; obtain ⟨z, rfl⟩ := h; rfl
 | lst ds => obtain ⟨a, xs, rfl, _⟩ := Den.sqL h; rfl
 | tup ds => obtain ⟨a, xs, rfl, _⟩ := Den.sqT h; rfl
 | scr ds => obtain ⟨a, rfl, _⟩ := Den.scr h; rfl
 | obj C ns ds =>
  unfold Den at h
  obtain ⟨a, _, _, rfl, _⟩ := h; rfl
 | bag =>
  unfold Den at h
  obtain ⟨a, _, _, rfl⟩ := h; rfl
 | adr a =>
  unfold Den at h
  obtain rfl := h; rfl
def fZ : D -> D -> Option D
 | a, .non => some (.bl (isN a))
 | _, _ => none
def ke : D -> D -> Option D
 | a, .non => some (.bl (!isN a))
 | _, _ => none
theorem yI : bj K (fun x y H Q => y = .non /\ Q (.bl (decide (x = .non))) H) fZ := fun F H β Q d1 d2 d v1 v2 fr h1 h2 e k => by
 unfold fZ at e
 split at e
 ·cases e
  exact ⟨h2, by rw [Bi h1]; exact k _ H (To.refl fr) rfl⟩
 ·cases e
def dM : D -> Bool
 | .int _ => true | .bl _ => true | .str _ => true | .non => true | _ => false
def eqF : D -> D -> Bool
 | .non, .non => true
 | .bl a, .bl b => a == b
 | .bl a, .int b => (if a then 1 else 0) == b
 | .int a, .bl b => a == (if b then 1 else 0)
 | .int a, .int b => a == b
 | .str a, .str b => a == b
 | _, _ => false
def dR : D -> Option (List D)
 | .lst a => some a
 | .tup a => some a
 | _ => none
def inB (x : D) (ys : List D) : Bool := ys.any fun y => eqF y x
def inD (neg : Bool) (x y : D) : Option D := (dR y).bind fun ys => if (dM x && ys.all dM) = true then some (.bl (if neg then !inB x ys else inB x ys)) else none
theorem mU {F : Fx} {H : Hp} {d : D} {v : V} (f : dM d = true) (h : Den K F H d v) : fL v = true := by
 cases d <;> first | (cases h.int; rfl) | (cases h.bl; rfl) | (cases h.str; rfl) | (cases h.non; rfl) | cases f
theorem Bl {F : Fx} {H : Hp} {a b : D} {v w : V} (fa : dM a = true) (fb : dM b = true) (h1 : Den K F H a v) (h2 : Den K F H b w) : eqV v w = eqF a b := by
 cases a <;> cases b <;> first
  | (cases h1.int; cases h2.int; rfl) | (cases h1.int; cases h2.bl; rfl) | (cases h1.int; cases h2.str; rfl) | (cases h1.int; cases h2.non; rfl)
  | (cases h1.bl; cases h2.int; rfl) | (cases h1.bl; cases h2.bl; rfl) | (cases h1.bl; cases h2.str; rfl) | (cases h1.bl; cases h2.non; rfl)
  | (cases h1.str; cases h2.int; rfl) | (cases h1.str; cases h2.bl; rfl) | (cases h1.str; cases h2.str; rfl) | (cases h1.str; cases h2.non; rfl)
  | (cases h1.non; cases h2.int; rfl) | (cases h1.non; cases h2.bl; rfl) | (cases h1.non; cases h2.str; rfl) | (cases h1.non; cases h2.non; rfl)
  | (exfalso; exact Bool.false_ne_true fa) | (exfalso; exact Bool.false_ne_true fb)
theorem pE {F : Fx} {H : Hp} {x : D} {v : V} (fx : dM x = true) (hx : Den K F H x v) : ∀ {ds : List D} {vs : List V}, ds.all dM = true -> DenL K F H ds vs -> vs.all fL = true /\ inV v vs = inB x ds
 | [], vs, _, h => by have q : vs = [] := h; subst q; exact ⟨rfl, rfl⟩
 | d :: ds, vs, f, h => by
  obtain ⟨y, r, q, h1, h2⟩ := h
  subst q
  rw [List.all_cons, Bool.and_eq_true] at f
  obtain ⟨i1, i2⟩ := pE fx hx f.2 h2
  refine ⟨by rw [List.all_cons, mU f.1 h1, i1]; rfl, ?_⟩
  unfold inV inB at i2 ⊢
  rw [List.any_cons, List.any_cons, i2, Bl f.1 fx h1 hx]
theorem ia {neg : Bool} : bj K (rIn K neg) (inD neg) := fun F H β Q d1 d2 d v1 v2 fr h1 h2 e k => by
 unfold inD at e
 cases q : dR d2 with
 | none => rw [q] at e; cases e
 | some ys =>
  rw [q] at e
  simp only [Option.bind_some] at e
  split at e
  ·rename_i hf
   rw [Bool.and_eq_true] at hf
   cases e
   cases d2 <;> first | (cases q; obtain ⟨a, xs, rfl, r1, dl⟩ := Den.sqL h2; obtain ⟨i1, i2⟩ := pE hf.1 h1 hf.2 dl; exact ⟨a, xs, rfl, .inl r1, mU hf.1 h1, i1, by rw [i2]; exact k _ H (To.refl fr) rfl⟩) | (cases q; obtain ⟨a, xs, rfl, r1, dl⟩ := Den.sqT h2; obtain ⟨i1, i2⟩ := pE hf.1 h1 hf.2 dl; exact ⟨a, xs, rfl, .inr r1, mU hf.1 h1, i1, by rw [i2]; exact k _ H (To.refl fr) rfl⟩) | cases q
  ·cases e
def ixD : D -> D -> Option D
 | .lst xs, .int i => atI xs i
 | .tup xs, .int i => atI xs i
 | _, _ => none
theorem uO {F : Fx} {H : Hp} {ds : List D} {vs : List V} {i : Int} {d : D} (h : DenL K F H ds vs) (e : atI ds i = some d) : ∃ v, atI vs i = some v /\ Den K F H d v := by
 unfold atI at e ⊢
 rw [← h.length]
 cases q : ixN ds.length i with
 | none => rw [q] at e; cases e
 | some j =>
  rw [q] at e
  exact h.get e
theorem cm : bj K (fun x y H Q => rj K x y H Q \/ u4 K x y H Q) ixD := fun F H β Q d1 d2 d v1 v2 fr h1 h2 e k => by
 unfold ixD at e
 split at e
 ·obtain ⟨a, xs, rfl, r1, dl⟩ := Den.sqL h1
  obtain ⟨v, e2, hd⟩ := uO dl e
  exact .inl ⟨a, xs, _, v, rfl, h2, r1, e2, k _ H (To.refl fr) hd⟩
 ·obtain ⟨a, xs, rfl, r1, dl⟩ := Den.sqT h1
  obtain ⟨v, e2, hd⟩ := uO dl e
  exact .inr ⟨a, xs, _, v, rfl, h2, r1, e2, k _ H (To.refl fr) hd⟩
 ·cases e
theorem aX : IxR X (fun x y H Q => rj X.K x y H Q \/ u4 X.K x y H Q) := eA.or Bh
def bE : List D -> Option D
 | [.lst xs] => some (.int xs.length)
 | [.tup xs] => some (.int xs.length)
 | _ => none
theorem DenL.one {F : Fx} {H : Hp} {d : D} {vs : List V} (h : DenL K F H [d] vs) : ∃ v, vs = [v] /\ Den K F H d v := by
 obtain ⟨x, r, e, h1, h2⟩ := h
 have q : r = [] := h2
 subst q
 exact ⟨x, e, h1⟩
theorem DenL.two {F : Fx} {H : Hp} {d c : D} {vs : List V} (h : DenL K F H [d, c] vs) : ∃ v w, vs = [v, w] /\ Den K F H d v /\ Den K F H c w := by
 obtain ⟨x, r, e, h1, h2⟩ := h
 obtain ⟨y, rfl, h3⟩ := DenL.one h2
 exact ⟨x, y, e, h1, h3⟩
theorem dY : dg K (fun xs H Q => ∃ p ys, xs = [.ref p] /\ (SqL K H p ys \/ SqT K H p ys) /\ Q (.int ys.length) H) bE := fun F H β Q ds d vs fr h e k => by
 unfold bE at e
 split at e
 ·cases e
  obtain ⟨v, rfl, g⟩ := DenL.one h
  obtain ⟨a, xs, rfl, r, dl⟩ := Den.sqL g
  exact ⟨a, xs, rfl, .inl r, by rw [← dl.length]; exact k _ H (To.refl fr) rfl⟩
 ·cases e
  obtain ⟨v, rfl, g⟩ := DenL.one h
  obtain ⟨a, xs, rfl, r, dl⟩ := Den.sqT g
  exact ⟨a, xs, rfl, .inr r, by rw [← dl.length]; exact k _ H (To.refl fr) rfl⟩
 ·cases e
def f9 : List D -> Option D
 | [.int i] => some (.int (if i < 0 then -i else i))
 | _ => none
theorem yL : dg K (fun xs H Q => ∃ i, xs = [.int i] /\ Q (.int (if i < 0 then -i else i)) H) f9 := fun F H β Q ds d vs fr h e k => by
 unfold f9 at e
 split at e
 ·cases e
  obtain ⟨v, rfl, g⟩ := DenL.one h
  cases g.int
  exact ⟨_, rfl, k _ H (To.refl fr) rfl⟩
 ·cases e
def pq : List D -> Option D
 | [.int i, .int j] => some (.int (if j < i then j else i))
 | _ => none
theorem Ej : dg K (fun xs H Q => ∃ i j, xs = [.int i, .int j] /\ Q (.int (if j < i then j else i)) H) pq := fun F H β Q ds d vs fr h e k => by
 unfold pq at e
 split at e
 ·cases e
  obtain ⟨v, w, rfl, g, g'⟩ := DenL.two h
  cases g.int
  cases g'.int
  exact ⟨_, _, rfl, k _ H (To.refl fr) rfl⟩
 ·cases e
def dD : List D -> Option (List Int)
 | [] => some []
 | .int i :: r => (dD r).map (i :: ·)
 | _ => none
theorem intsOf_eq : ∀ {ds : List D} {ns : List Int}, dD ds = some ns -> ds = ns.map D.int
 | [], ns, h => by cases h; rfl
 | d :: ds, ns, h => by
  cases d with
  | int i =>
   unfold dD at h
   cases q : dD ds with
   | none => rw [q] at h; cases h
   | some ms => rw [q] at h; cases h; rw [intsOf_eq q]; rfl
  | _ => cases h
def uV : List D -> Option D
 | [.lst xs] => (dD xs).map fun ns => .int ns.sum
 | _ => none
theorem Ei : dg K (fun xs H Q => ∃ (a : Addr) (ns : List Int), xs = [.ref a] /\ SqL K H a (ns.map V.int) /\ Q (.int ns.sum) H) uV := fun F H β Q ds d vs fr h e k => by
 unfold uV at e
 split at e
 ·rename_i xs
  cases q : dD xs with
  | none => rw [q] at e; cases e
  | some ns =>
   rw [q] at e; cases e
   obtain ⟨v, rfl, g⟩ := DenL.one h
   obtain ⟨a, ys, rfl, r, dl⟩ := Den.sqL g
   rw [intsOf_eq q] at dl
   have e2 := DenL.ints ns dl
   subst e2
   exact ⟨a, ns, rfl, r, k _ H (To.refl fr) rfl⟩
 ·cases e
def kf : List D -> Option D
 | [.lst xs] => some (.lst xs)
 | [.tup xs] => some (.lst xs)
 | _ => none
theorem lR : dg K (fun xs H Q => ∃ p ys, xs = [.ref p] /\ (SqL K H p ys \/ SqT K H p ys) /\ ∀ l, H l = none -> Q (.ref l) (upd H l (.lst ys))) kf := fun F H β Q ds d vs fr h e k => by
 unfold kf at e
 split at e
 ·cases e
  obtain ⟨v, rfl, g⟩ := DenL.one h
  obtain ⟨a, xs, rfl, r, dl⟩ := Den.sqL g
  exact ⟨a, xs, rfl, .inl r, fun l hl => k _ _ (fr.upd _ hl) (Den.newL fr hl dl)⟩
 ·cases e
  obtain ⟨v, rfl, g⟩ := DenL.one h
  obtain ⟨a, xs, rfl, r, dl⟩ := Den.sqT g
  exact ⟨a, xs, rfl, .inr r, fun l hl => k _ _ (fr.upd _ hl) (Den.newL fr hl dl)⟩
 ·cases e
def oO : List D -> Option D
 | [.lst xs] => some (.tup xs)
 | [.tup xs] => some (.tup xs)
 | _ => none
theorem zM : dg K (fun xs H Q => ∃ p ys, xs = [.ref p] /\ ((SqL K H p ys /\ ∀ l, H l = none -> Q (.ref l) (upd H l (.tup ys))) \/ (SqT K H p ys /\ Q (.ref p) H))) oO := fun F H β Q ds d vs fr h e k => by
 unfold oO at e
 split at e
 ·cases e
  obtain ⟨v, rfl, g⟩ := DenL.one h
  obtain ⟨a, xs, rfl, r, dl⟩ := Den.sqL g
  exact ⟨a, xs, rfl, .inl ⟨r, fun l hl => k _ _ (fr.upd _ hl) (Den.newT fr hl dl)⟩⟩
 ·cases e
  obtain ⟨v, rfl, g⟩ := DenL.one h
  obtain ⟨a, xs, rfl, r, dl⟩ := Den.sqT g
  exact ⟨a, xs, rfl, .inr ⟨r, k _ H (To.refl fr) g⟩⟩
 ·cases e
end
def asB : D -> Option Bool
 | .bl b => some b
 | _ => none
theorem kU {d : D} {b : Bool} (h : asB d = some b) : d = .bl b := by cases d <;> first | (cases h; rfl) | cases h
def iR : D -> Option Bool
 | .non => some false
 | .bl b => some b
 | .int i => some (i != 0)
 | .lst xs => some (!xs.isEmpty)
 | .tup xs => some (!xs.isEmpty)
 | _ => none
def fB (f : Dn -> M D) : Dn -> M Bool := fun δ => M.bind (f δ) fun d => M.ofO (asB d)
def cW (f : Dn -> M D) : Dn -> M Bool := fun δ => M.bind (f δ) fun d => M.ofO (iR d)
def ki (f g : Dn -> M Bool) : Dn -> M Bool := fun δ => M.bind (f δ) fun c => if c = true then g δ else M.ret false
def da (f g : Dn -> M Bool) : Dn -> M Bool := fun δ => M.bind (f δ) fun c => if c = true then M.ret true else g δ
def cw (f : Dn -> M Bool) : Dn -> M Bool := fun δ => M.bind (f δ) fun c => M.ret (!c)
def ji (f g : Dn -> M D) : Dn -> M D := fun δ => M.bind (f δ) fun d => M.bind (M.ofO (asB d)) fun c => if c = true then g δ else M.ret (.bl false)
def fOr (f g : Dn -> M D) : Dn -> M D := fun δ => M.bind (f δ) fun d => M.bind (M.ofO (asB d)) fun c => if c = true then M.ret (.bl true) else g δ
def mW (f : Dn -> M D) : Dn -> M D := fun δ => M.bind (f δ) fun d => M.bind (M.ofO (asB d)) fun c => M.ret (.bl (!c))
def fIf (t : Dn -> M Bool) (f g : Dn -> M D) : Dn -> M D := fun δ => M.bind (t δ) fun c => if c = true then f δ else g δ
def cn (o o' : D -> D -> Option D) (f g h : Dn -> M D) : Dn -> M D := fun δ => M.bind (f δ) fun a => M.bind (g δ) fun b => M.bind (M.ofO (o a b)) fun z => M.bind (M.ofO (asB z)) fun c => if c = true then M.bind (h δ) (fun w => M.ofO (o' b w)) else M.ret (.bl false)
section
variable {X : Cx} {E : St -> XK} {a b c : Expr} {rest : List Expr} {pos : Pos} {K : PySem.W.Frag}
theorem M.ofO_bind {α γ : Type} {o : Option α} {k : α -> M γ} {β : Bg} {z : Except Addr γ × Bg} (h : M.bind (M.ofO o) k β = some z) : ∃ a, o = some a /\ k a β = some z := by
 cases o with
 | none => cases h
 | some a => exact ⟨a, rfl, h⟩
theorem run.ofO_bind {α γ ζ : Type} {R : Hp -> γ -> ζ -> Prop} {F : Fx} {σ : St} {o : Option α} {k : α -> M γ} {H : Hp} {Q : ζ -> Hp -> Prop} {β : Bg} (h : run R F E σ (M.bind (M.ofO o) k) H Q β) : ∃ a, o = some a /\ run R F E σ (k a) H Q β := by
 obtain ⟨r, β', e, h⟩ := h
 obtain ⟨a, q, e⟩ := M.ofO_bind e
 exact ⟨a, q, r, β', e, h⟩
theorem run.bOk {F : Fx} {σ : St} {d : D} {v : V} {H : Hp} {Q : Bool -> Hp -> Prop} {β : Bg} (fr : Fr F H β) (hd : Den K F H d v) (h : run (fun _ (a b : Bool) => b = a) F E σ (M.ofO (asB d)) H Q β) : ∃ k, v = .bl k /\ Q k H := by
 obtain ⟨b, e, k⟩ := run.ofO h
 rw [kU e] at hd
 exact ⟨b, hd, k b H (To.refl fr) rfl⟩
theorem oU {f : Dn -> M D} {σ : St} {H : Hp} {Q : Bool -> Hp -> Prop} (h : tVT K (fB f) E σ H Q) : tV K f E σ H fun x H' => ∃ k, x = .bl k /\ Q k H' := by
 obtain ⟨F, δ, β, fr, vk, h⟩ := h
 exact ⟨F, δ, β, fr, vk, (run.bind (R := Den K F) h).mono fun v H1 h_ => ex5 h_ fun d β1 t hd r1 => run.bOk t.fr hd r1⟩
theorem aW {op : CmpOp} {r : R2} {o : D -> D -> Option D} {f g : Dn -> M D} (ho : OpR X (compareOp op) r) (l : bj X.K r o) (ha : PE X a (tV X.K f E)) (hb : PE X b (tV X.K g E)) (hm : behindInMarks op b = false := by first | exact pi _ | rfl) : PT X (.Compare a [op] [b] pos) (tVT X.K (fB (f2 o f g)) E) :=
 (qx ho ha hb hm).imp fun σ H Q h => kZ l (oU h)
theorem tB {r r' : R2} {o o' : D -> D -> Option D} {f g h : Dn -> M D} (l : bj K r o) (l' : bj K r' o') {σ : St} {H : Hp} {Q : VK} (hw : tV K (cn o o' f g h) E σ H Q) : tE r r' (tV K f E) (tV K g E) (tV K h E) σ H Q := by
 obtain ⟨F, δ, β, fr, vk, hw⟩ := hw
 refine ⟨F, δ, β, fr, vk, (run.bind (R := Den K F) hw).mono fun v H1 h_ => ex5 h_ fun d β1 t hd r1 => ⟨F, δ, β1, t.fr, vk.tr (t.tr fr), (run.bind (R := Den K F) r1).mono fun v2 H2 h_ => ex5 h_ fun d2 β2 t2 hd2 r2 => ?_⟩⟩
 obtain ⟨z, ez, r3⟩ := run.ofO_bind r2
 obtain ⟨c, ec, r4⟩ := run.ofO_bind r3
 rw [kU ec] at ez
 refine l F H2 β2 _ d d2 _ v v2 t2.fr (Den.tr (t2.tr t.fr) _ _ hd) hd2 ez fun vz H3 t3 hz => ⟨c, hz, ?_⟩
 cases c with
 | true =>
  rw [if_pos rfl] at r4
  refine ⟨F, δ, β2, t3.fr, vk.tr ((t.tr fr).trans ((t2.tr t.fr).trans (t3.tr t2.fr))), ?_⟩
  have r5 : run (Den K F) F E σ (M.bind (h δ) fun w => M.ofO (o' d2 w)) H3 Q β2 := by
   obtain ⟨rr, β', e, q⟩ := r4
   refine ⟨rr, β', e, ?_⟩
   cases rr with
   | ok d => exact fun v H' tt => q v H' (t3.trans tt)
   | error C => exact fun H' tt => q H' (t3.trans tt)
  refine (run.bind (R := Den K F) r5).mono fun w H4 h_ => ex5 h_ fun dw β4 t4 hdw r6 => ?_
  obtain ⟨d3, e3, k⟩ := run.ofO r6
  exact l' F H4 β4 Q d2 dw d3 v2 w t4.fr (Den.tr ((t3.tr t2.fr).trans (t4.tr t3.fr)) _ _ hd2) hdw e3 k
 | false =>
  rw [if_neg Bool.false_ne_true] at r4
  obtain ⟨rr, β', e, q⟩ := r4
  cases e
  exact q _ H3 t3 rfl
theorem ml {op op' : CmpOp} {r r' : R2} {o o' : D -> D -> Option D} {f g h : Dn -> M D} (ho : OpR X (compareOp op) r) (ho' : OpR X (compareOp op') r') (l : bj X.K r o) (l' : bj X.K r' o') (ha : PE X a (tV X.K f E)) (hb : PE X b (tV X.K g E)) (hc : PE X c (tV X.K h E)) (hm : lastMarks [op, op'] [b, c] = false := by with_unfolding_all rfl) :
  PT X (.Compare a [op, op'] [b, c] pos) (tVT X.K (fB (cn o o' f g h)) E) := (u6 ho ho' ha hb hc hm).imp fun σ H Q q => tB l l' (oU q)
theorem y9 {F : Fx} {H : Hp} {d : D} {v : V} {k : Bool} (h : iR d = some k) (hd : Den K F H d v) : yg K v H k := by
 cases d with
 | non => cases h; cases hd.non; rfl
 | bl b => cases h; cases hd.bl; rfl
 | int i => cases h; cases hd.int; rfl
 | lst xs =>
  cases h
  obtain ⟨a, ys, rfl, r, dl⟩ := Den.sqL hd
  refine .inl ⟨ys, r, ?_⟩
  have := dl.length
  cases xs <;> cases ys <;> first | rfl | (simp at this)
 | tup xs =>
  cases h
  obtain ⟨a, ys, rfl, r, dl⟩ := Den.sqT hd
  refine .inr (.inl ⟨ys, r, ?_⟩)
  have := dl.length
  cases xs <;> cases ys <;> first | rfl | (simp at this)
 | _ => cases h
theorem gd {f : Dn -> M D} (ha : PE X a (tV X.K f E)) (he : ∀ whole, isTrue a X.env whole = (do let v ← whole; standAt a.pos; holding [v] (truthy v)) := by intro _; rfl) : PT X a (tVT X.K (cW f) E) :=
 (u5 ha he).imp fun σ H Q h_ => ex6 h_ fun F δ β fr vk h => ⟨F, δ, β, fr, vk, (run.bind (R := Den X.K F) h).mono fun v H1 h_ => by
  obtain ⟨d, β1, t, hd, r1⟩ := h_
  obtain ⟨k, e, q⟩ := run.ofO r1
  exact ⟨k, y9 e hd, q k H1 (To.refl t.fr) rfl⟩⟩
theorem ge {f : Dn -> M Bool} (ha : PT X a (tVT X.K f E)) : PT X (.UnaryOp .Not a pos) (tVT X.K (cw f) E) :=
 (AH ha).imp fun σ H Q h_ => ex6 h_ fun F δ β fr vk h => ⟨F, δ, β, fr, vk, (run.bind (R := fun _ (a b : Bool) => b = a) h).mono fun v H1 h_ => by
  obtain ⟨d, β1, t, hd, r1⟩ := h_
  subst hd
  exact run.ret t.fr r1 rfl⟩
theorem An {f g : Dn -> M Bool} {σ : St} {H : Hp} {Q : Bool -> Hp -> Prop} (h : tVT K (da f g) E σ H Q) : tOr (tVT K f E) (tVT K g E) σ H Q := by
 obtain ⟨F, δ, β, fr, vk, h⟩ := h
 refine ⟨F, δ, β, fr, vk, (run.bind (R := fun _ (a b : Bool) => b = a) h).mono fun v H1 h_ => ex5 h_ fun d β1 t hd r1 => ?_⟩
 subst hd
 cases v with
 | false => rw [if_neg Bool.false_ne_true] at r1 ⊢; exact ⟨F, δ, β1, t.fr, vk.tr (t.tr fr), r1⟩
 | true => rw [if_pos rfl] at r1 ⊢; exact run.ret t.fr r1 rfl
theorem kW {f : Dn -> M Bool} (ha : PT X a (tVT X.K f E)) : PW X (.BoolOp .Or [a] pos) (tVT X.K f E) := AG ha
theorem oN {f g : Dn -> M Bool} (ha : PT X a (tVT X.K f E)) (hb : PW X (.BoolOp .Or (b :: rest) pos) (tVT X.K g E)) : PW X (.BoolOp .Or (a :: b :: rest) pos) (tVT X.K (da f g) E) := (D9 ha hb).imp fun _ _ _ => An
theorem jz {e : Expr} {f : Dn -> M Bool} (h : PW X e (tVT X.K f E)) : PT X e (tVT X.K f E) := PW.pt h
theorem DX {op} {f : Dn -> M D} (h : PE X a (tV X.K f E)) : PE X (.BoolOp op [a] pos) (tV X.K f E) := AU h
theorem run.asB {F : Fx} {σ : St} {d : D} {v : V} {k : Bool -> M D} {H : Hp} {Q : VK} {β : Bg} (hd : Den K F H d v) (h : run (Den K F) F E σ (M.bind (M.ofO (asB d)) k) H Q β) : ∃ c, v = .bl c /\ run (Den K F) F E σ (k c) H Q β := by
 obtain ⟨c, e, h⟩ := run.ofO_bind h
 rw [kU e] at hd
 exact ⟨c, hd, h⟩
theorem DY {f g : Dn -> M D} (ha : PE X a (tV X.K f E)) (hb : PE X (.BoolOp .And (b :: rest) pos) (tV X.K g E)) : PE X (.BoolOp .And (a :: b :: rest) pos) (tV X.K (ji f g) E) :=
 (AX ha hb).imp fun σ H Q h_ => ex6 h_ fun F δ β fr vk h => ⟨F, δ, β, fr, vk, (run.bind (R := Den X.K F) h).mono fun v H1 h_ => by
  obtain ⟨d, β1, t, hd, r1⟩ := h_
  obtain ⟨c, e, r2⟩ := run.asB hd r1
  refine ⟨c, e, ?_⟩
  cases c with
  | true => rw [if_pos rfl] at r2 ⊢; exact ⟨F, δ, β1, t.fr, vk.tr (t.tr fr), r2⟩
  | false => rw [if_neg Bool.false_ne_true] at r2 ⊢; exact run.ret t.fr r2 rfl⟩
theorem qZ {t : Dn -> M Bool} {f g : Dn -> M D} (hc : PT X c (tVT X.K t E)) (ha : PE X a (tV X.K f E)) (hb : PE X b (tV X.K g E)) : PE X (.IfExp c a b pos) (tV X.K (fIf t f g) E) :=
 (vj hc ha hb).imp fun σ H Q h_ => ex6 h_ fun F δ β fr vk h => ⟨F, δ, β, fr, vk, (run.bind (R := fun _ (a b : Bool) => b = a) h).mono fun v H1 h_ => by
  obtain ⟨d, β1, t, hd, r1⟩ := h_
  subst hd
  cases v with
  | true => rw [if_pos rfl] at r1 ⊢; exact ⟨F, δ, β1, t.fr, vk.tr (t.tr fr), r1⟩
  | false => rw [if_neg Bool.false_ne_true] at r1 ⊢; exact ⟨F, δ, β1, t.fr, vk.tr (t.tr fr), r1⟩⟩
def tyD : D -> Option String
 | .non => some "NoneType" | .bl _ => some "bool" | .int _ => some "int" | .str _ => some "str" | .lst _ => some "list" | .tup _ => some "tuple" | _ => none
def ic : String -> String -> Option Bool
 | "int", "str" => some false | "int", "bool" => some false | "int", "list" => some false | "int", "tuple" => some false | "int", "int" => some true
 | "bool", "str" => some false | "bool", "bool" => some true | "bool", "list" => some false | "bool", "tuple" => some false
 | "str", "str" => some true | "str", "bool" => some false | "str", "list" => some false | "str", "tuple" => some false
 | "NoneType", "str" => some false | "NoneType", "bool" => some false | "NoneType", "list" => some false | "NoneType", "tuple" => some false
 | "list", "list" => some true | "list", "tuple" => some false | "list", "str" => some false | "list", "bool" => some false
 | "tuple", "list" => some false | "tuple", "tuple" => some true | "tuple", "str" => some false | "tuple", "bool" => some false
 | _, _ => none
def ib : String -> String -> String -> Option Bool
 | "int", "list", "tuple" => some false | "bool", "list", "tuple" => some false | "str", "list", "tuple" => some false | "NoneType", "list", "tuple" => some false | "list", "list", "tuple" => some true | "tuple", "list", "tuple" => some true
 | "int", "int", "str" => some true | "bool", "int", "str" => some true | "str", "int", "str" => some true | "NoneType", "int", "str" => some false | "list", "int", "str" => some false | "tuple", "int", "str" => some false
 | _, _, _ => none
theorem zO {a b : String} {c : Bool} (h : ic a b = some c) : PySem.W.kitOne K (.type a) (.type b) = some c := by
 unfold ic at h
 split at h <;> first | (cases h; kernel_rfl) | cases h
theorem zN {a b b' : String} {c : Bool} (h : ib a b b' = some c) : PySem.W.kitAny K (.type a) ([b, b'].map Value.type) = some c := by
 unfold ib at h
 split at h <;> first | (cases h; kernel_rfl) | cases h
def TyG (K : PySem.W.Frag) (H : Hp) (x : V) (t : Value) : Prop := TyOf K H x t \/ (∃ a ys, x = .ref a /\ SqL K H a ys /\ t = .type "list") \/ (∃ a ys, x = .ref a /\ SqT K H a ys /\ t = .type "tuple")
def yA (K : PySem.W.Frag) : List V -> Hp -> VK -> Prop := fun xs H Q => ∃ x c t b, xs = [x, .ty c] /\ TyG K H x t /\ PySem.W.kitOne K t (.type c) = some b /\ Q (.bl b) H
theorem c6 : cQ X (.builtin "isinstance") (yA X.K) := by
 intro pins s σ H xs us Q I r h
 obtain ⟨x, c, t, b, rfl, ty, e, q⟩ := h
 cases r with
 | cons r1 r2 =>
  cases r2 with
  | cons r2 r3 =>
   cases r3
   cases r2
   rcases ty with ty | ⟨a, ys, rfl, sq, rfl⟩ | ⟨a, ys, rfl, sq, rfl⟩
   ·exact uq I r1 ty e fun tk => ⟨.bl b, H, I.tok _, rfl, q⟩
   ·cases r1
    obtain ⟨its, _, pl, _⟩ := I.list sq
    obtain ⟨o, ho, hc, _⟩ := pl.isList
    exact PySem.W.kia_one PySem.W.kitx_list I.kIn ⟨o, ho, hc⟩ e (fun z => nomatch z) fun tk => ⟨.bl b, H, I.tok _, rfl, q⟩
   ·cases r1
    obtain ⟨its, _, pl, _⟩ := I.tuple sq
    obtain ⟨o, ho, hc, _⟩ := pl
    exact PySem.W.kia_one PySem.W.kitx_tuple I.kIn ⟨o, ho, hc⟩ e (fun z => nomatch z) fun tk => ⟨.bl b, H, I.tok _, rfl, q⟩
theorem sZ {F : Fx} {H : Hp} {d : D} {v : V} {t : String} (h : tyD d = some t) (hd : Den K F H d v) : TyG K H v (.type t) := by
 cases d with
 | non => cases h; cases hd.non; exact .inl .non
 | bl b => cases h; cases hd.bl; exact .inl (.bl b)
 | int b => cases h; cases hd.int; exact .inl (.int b)
 | str b => cases h; cases hd.str; exact .inl (.str b)
 | lst ds => cases h; obtain ⟨a, xs, rfl, sq, _⟩ := Den.sqL hd; exact .inr (.inl ⟨a, xs, rfl, sq, rfl⟩)
 | tup ds => cases h; obtain ⟨a, xs, rfl, sq, _⟩ := Den.sqT hd; exact .inr (.inr ⟨a, xs, rfl, sq, rfl⟩)
 | _ => cases h
def cb : List D -> Option D
 | [x, .ty c] => (tyD x).bind fun t => (ic t c).map D.bl
 | _ => none
theorem hX : dg K (yA K) cb := fun F H β Q ds d vs fr h e k => by
 unfold cb at e
 split at e
 ·rename_i x c
  cases q : tyD x with
  | none => rw [q] at e; cases e
  | some t =>
   rw [q] at e
   simp only [Option.bind_some] at e
   cases q2 : ic t c with
   | none => rw [q2] at e; cases e
   | some b =>
    rw [q2] at e; cases e
    obtain ⟨v, w, rfl, h1, h2⟩ := DenL.two h
    cases h2.ty
    exact ⟨v, c, _, b, rfl, sZ q h1, zO q2, k _ H (To.refl fr) rfl⟩
 ·cases e
def tW (K : PySem.W.Frag) : List V -> Hp -> VK -> Prop := fun xs H Q => ∃ (x : V) (tp : Addr) (cs : List String) (t : Value) (b : Bool), xs = [x, .ref tp] /\ SqT K H tp (cs.map V.ty) /\ TyG K H x t /\ PySem.W.kitAny K t (cs.map Value.type) = some b /\ Q (.bl b) H
theorem md : cQ X (.builtin "isinstance") (tW X.K) := by
 intro pins s σ H xs us Q I r h
 obtain ⟨x, tp, cs, t, b, rfl, htp, ty, e, q⟩ := h
 cases r with
 | cons r1 r2 =>
  cases r2 with
  | cons r2 r3 =>
   cases r3
   cases r2
   obtain ⟨its, rv, ⟨⟨oc, od, odt, osl⟩, ho, hoc, n, hod⟩, _⟩ := I.tuple htp
   rw [sY rv] at hod
   dsimp only at hoc hod
   subst hoc hod
   have fin : ∀ tk, EP X pins σ Q (.bool b) { s with toks := tk } := fun tk => ⟨.bl b, H, I.tok _, rfl, q⟩
   rcases ty with ty | ⟨a, ys, rfl, sq, rfl⟩ | ⟨a, ys, rfl, sq, rfl⟩
   ·cases ty with
    | non => cases r1; exact PySem.W.kia_tup PySem.W.kitx_none I.kIn True.intro ho e (fun z => nomatch z) fin
    | bl y => cases r1; exact PySem.W.kia_tup PySem.W.kitx_bool I.kIn True.intro ho e (fun z => nomatch z) fin
    | int i => obtain ⟨t, rfl⟩ := r1; exact PySem.W.kia_tup PySem.W.kitx_int I.kIn True.intro ho e (fun z => nomatch z) fin
    | str y => obtain ⟨t, rfl⟩ := r1; exact PySem.W.kia_tup PySem.W.kitx_str I.kIn True.intro ho e (fun z => nomatch z) fin
    | flt y => obtain ⟨t, rfl⟩ := r1; exact PySem.W.kia_tup PySem.W.kitx_float I.kIn True.intro ho e (fun z => nomatch z) fin
    | @lst a xs ea =>
     cases r1
     obtain ⟨_, _, n, _, h1⟩ := (show bo X.prog X.w H s.heap a (.lst xs) from I.hok a _ ea)
     exact PySem.W.kia_tup PySem.W.kitx_list I.kIn ⟨_, h1, rfl⟩ ho e (fun z => nomatch z) fin
    | @frz a ob xs ea =>
     cases r1
     obtain ⟨_, _, _, n, _, h1⟩ := (show bo X.prog X.w H s.heap a (.frz ob (.lst xs)) from I.hok a _ ea)
     exact PySem.W.kia_tup PySem.W.kitx_list I.kIn ⟨_, h1, rfl⟩ ho e (fun z => nomatch z) fin
    | @tup a xs ea =>
     cases r1
     obtain ⟨_, _, _, p⟩ := (show bo X.prog X.w H s.heap a (.tup xs) from I.hok a _ ea)
     obtain ⟨o, h1, h2, _⟩ := p
     exact PySem.W.kia_tup PySem.W.kitx_tuple I.kIn ⟨o, h1, h2⟩ ho e (fun z => nomatch z) fin
    | @dK a kvs ea =>
     cases r1
     obtain ⟨_, _, vs, _, p⟩ := (show bo X.prog X.w H s.heap a (.dK kvs) from I.hok a _ ea)
     obtain ⟨o, es, ep, h1, h2, _⟩ := p
     exact PySem.W.kia_tup PySem.W.kitx_dict I.kIn ⟨o, h1, h2.1⟩ ho e (fun z => nomatch z) fin
    | @dT a kvs ea =>
     cases r1
     obtain ⟨_, _, xs, _, o, es, ep, h1, h2, _⟩ := (show bo X.prog X.w H s.heap a (.dT kvs) from I.hok a _ ea)
     exact PySem.W.kia_tup PySem.W.kitx_dict I.kIn ⟨o, h1, h2.1⟩ ho e (fun z => nomatch z) fin
    | @ins a C dx fs ea cl ha hn htk hm =>
     cases r1
     obtain ⟨mA, O, _⟩ := iB I.hok ea
     obtain ⟨od, J, _⟩ := O.look
     exact PySem.W.kia_tup (PySem.W.kitx_own (cl.get _) cl.hd ha hn htk hm) I.kIn J ho e (fun z => nomatch z) fin
   ·cases r1
    obtain ⟨its, _, pl, _⟩ := I.list sq
    obtain ⟨o, ho', hc, _⟩ := pl.isList
    exact PySem.W.kia_tup PySem.W.kitx_list I.kIn ⟨o, ho', hc⟩ ho e (fun z => nomatch z) fin
   ·cases r1
    obtain ⟨its, _, pl, _⟩ := I.tuple sq
    obtain ⟨o, ho', hc, _⟩ := pl
    exact PySem.W.kia_tup PySem.W.kitx_tuple I.kIn ⟨o, ho', hc⟩ ho e (fun z => nomatch z) fin
def dZ : List D -> Option D
 | [x, .tup [.ty a, .ty b]] => (tyD x).bind fun t => (ib t a b).map D.bl
 | _ => none
theorem uo : dg K (tW K) dZ := fun F H β Q ds d vs fr h e k => by
 unfold dZ at e
 split at e
 ·rename_i x a b
  cases q : tyD x with
  | none => rw [q] at e; cases e
  | some t =>
   rw [q] at e
   simp only [Option.bind_some] at e
   cases q2 : ib t a b with
   | none => rw [q2] at e; cases e
   | some c =>
    rw [q2] at e; cases e
    obtain ⟨v, w, rfl, h1, h2⟩ := DenL.two h
    obtain ⟨p, xs, rfl, sq, dl⟩ := Den.sqT h2
    obtain ⟨y, z, rfl, g1, g2⟩ := DenL.two dl
    cases g1.ty
    cases g2.ty
    exact ⟨v, p, [a, b], _, c, rfl, sq, sZ q h1, zN q2, k _ H (To.refl fr) rfl⟩
 ·cases e
end
def ItD (K : PySem.W.Frag) (J : It) (F : Fx) (H : Hp) (ds : List D) : Prop := ∀ (F2 : Fx) (H2 : Hp) (β2 : Bg), Tr F H F2 H2 -> Fr F2 H2 β2 -> ∀ i, (∀ d, ds[i]? = some d -> J.go i H2 /\ ∀ x H3, J.yld i H2 x H3 -> bF H2 H3 /\ Den K F2 H3 d x) /\ (i = ds.length -> J.stop i H2)
theorem ItD.tr {K : PySem.W.Frag} {J : It} {F F2 : Fx} {H H2 : Hp} {ds : List D} (t : Tr F H F2 H2) (h : ItD K J F H ds) : ItD K J F2 H2 ds := fun F3 H3 β3 t3 fr => h F3 H3 β3 (t.trans t3) fr
def iV (K : PySem.W.Frag) (f : Dn -> M (List D)) (E : St -> XK) : TI := fun σ H R => ∃ F δ β, Fr F H β /\ VOk K F H δ σ /\ run (fun H' (ds : List D) (J : It) => ItD K J F H' ds) F E σ (f δ) H R β
theorem _root_.L2.PI.imp {X : Cx} {tg e : Expr} {t t' : TI} (h : PI X tg e t) (f : ∀ σ H Q, t' σ H Q -> t σ H Q) : PI X tg e t' := fun pins s σ H Q I q => h pins s σ H Q I (f σ H Q q)
section
variable {X : Cx} {E : St -> XK} {tg : Expr} {K : PySem.W.Frag}
def iSeq (K : PySem.W.Frag) (tl : TE) : TI := fun σ H R => tl σ H fun x H1 => (∃ a, x = .ref a /\ (∃ xs, SqL K H1 a xs) /\ R (Itl K a) H1) \/ (∃ a, x = .ref a /\ (∃ xs, SqT K H1 a xs) /\ R (Itt K a) H1)
theorem AR {l : Expr} {tl : TE} (hl : PE X l tl) : PI X tg l (iSeq X.K tl) := by
 intro pins s σ H R I h
 refine thn (hl pins s σ H _ I h) fun v s1 ⟨x, H1, I1, r1, q1⟩ => ?_
 have own : ∀ b ∈ [s1.heap.objs.size], dO X pins H1 b := fun b hb => by
  obtain rfl : b = s1.heap.objs.size := by simpa using hb
  exact I1.fpOk (Nat.le_refl _) (I1.hok.fresh (Nat.le_refl _))
 rcases q1 with ⟨a, e, ⟨xs, hq⟩, q⟩ | ⟨a, e, ⟨xs, hq⟩, q⟩
 ·subst e
  cases r1
  obtain ⟨its, rv, p, hz⟩ := I1.list hq
  exact wpAny_pyIter_list p.isList ⟨s1.heap.objs.size, [s1.heap.objs.size], _, _, H1, rfl, I1.kept (t' := s1.toks) fun b o e => Heap.get?_push_of_some _ e, ng a _, ⟨_, Heap.get?_push_size _ rfl, rfl, rfl⟩, own, q⟩
 ·subst e
  cases r1
  obtain ⟨its, rv, p, hz⟩ := I1.tuple hq
  exact wpAny_pyIter_tuple (show s1.heap.IsTuple a its.toArray from p) ⟨s1.heap.objs.size, [s1.heap.objs.size], _, _, H1, rfl, I1.kept (t' := s1.toks) fun b o e => Heap.get?_push_of_some _ e, q8 a _, ⟨_, Heap.get?_push_size _ rfl, rfl, rfl⟩, own, q⟩
theorem vJ {F : Fx} {H : Hp} {ds : List D} {a : Addr} (h : Den K F H (.lst ds) (.ref a)) : ItD K (Itl K a) F H ds := fun F2 H2 β2 t fr i => by
 have h2 := Den.tr t _ _ h
 obtain ⟨a', xs, e, sq, dl⟩ := Den.sqL h2
 cases e
 refine ⟨fun d hd => ?_, fun hi => ⟨xs, sq, by rw [← dl.length, hi]; exact Nat.le_refl _⟩⟩
 obtain ⟨x, hx, _⟩ := dl.get hd
 refine ⟨⟨xs, x, sq, hx⟩, fun y H3 hy => ?_⟩
 obtain ⟨rfl, hy⟩ := hy
 obtain ⟨d', e', hd'⟩ := dl.getV (hy xs sq)
 rw [hd] at e'
 cases e'
 exact ⟨bF.refl _, hd'⟩
theorem zS {F : Fx} {H : Hp} {ds : List D} {a : Addr} (h : Den K F H (.tup ds) (.ref a)) : ItD K (Itt K a) F H ds := fun F2 H2 β2 t fr i => by
 have h2 := Den.tr t _ _ h
 obtain ⟨a', xs, e, sq, dl⟩ := Den.sqT h2
 cases e
 refine ⟨fun d hd => ?_, fun hi => ⟨xs, sq, by rw [← dl.length, hi]; exact Nat.le_refl _⟩⟩
 obtain ⟨x, hx, _⟩ := dl.get hd
 refine ⟨⟨xs, x, sq, hx⟩, fun y H3 hy => ?_⟩
 obtain ⟨rfl, hy⟩ := hy
 obtain ⟨d', e', hd'⟩ := dl.getV (hy xs sq)
 rw [hd] at e'
 cases e'
 exact ⟨bF.refl _, hd'⟩
def ba (f : Dn -> M D) : Dn -> M (List D) := fun δ => M.bind (f δ) fun d => M.ofO (dR d)
theorem bT {l : Expr} {f : Dn -> M D} (hl : PE X l (tV X.K f E)) : PI X tg l (iV X.K (ba f) E) :=
 (AR hl).imp fun σ H R h_ => ex6 h_ fun F δ β fr vk h => ⟨F, δ, β, fr, vk, (run.bind (R := Den X.K F) h).mono fun v H1 h_ => by
  obtain ⟨d, β1, t, hd, r1⟩ := h_
  obtain ⟨ds, e, k⟩ := run.ofO r1
  cases d <;> first
   | (cases e; obtain ⟨a, xs, rfl, sq, dl⟩ := Den.sqL hd; exact .inl ⟨a, rfl, ⟨xs, sq⟩, k _ H1 (To.refl t.fr) (vJ hd)⟩)
   | (cases e; obtain ⟨a, xs, rfl, sq, dl⟩ := Den.sqT hd; exact .inr ⟨a, rfl, ⟨xs, sq⟩, k _ H1 (To.refl t.fr) (zS hd)⟩)
   | cases e⟩
def br (lo : Int) (n : Nat) : List D := (List.range n).map fun (i : Nat) => .int (lo + (i : Int))
theorem nA {F : Fx} {H : Hp} {lo : Int} {n : Nat} : ItD K (Itr lo n) F H (br lo n) := fun F2 H2 β2 t fr i => by
 refine ⟨fun d hd => ?_, fun hi => ?_⟩
 ·unfold br at hd
  have hi : i < n := by
   have := (List.getElem?_eq_some_iff.mp hd).1
   simpa using this
  rw [List.getElem?_map, List.getElem?_range hi] at hd
  cases hd
  exact ⟨hi, fun x H3 ⟨e1, e2⟩ => by subst e1 e2; exact ⟨bF.refl _, rfl⟩⟩
 ·show n <= i
  rw [hi]
  simp [br]
def fX : List D -> Option (List D)
 | [.int j] => if (decide (-(2 ^ 62) <= j) && decide (j < 2 ^ 62)) = true then some (br 0 j.toNat) else none
 | _ => none
def mx : List D -> Option (List D)
 | [.int i, .int j] => if (decide (-(2 ^ 62) <= i) && decide (i < 2 ^ 62) && decide (-(2 ^ 62) <= j) && decide (j < 2 ^ 62)) = true then some (br i (j - i).toNat) else none
 | _ => none
def bD (op : List D -> Option (List D)) (g : Dn -> M (List D)) : Dn -> M (List D) := fun δ => M.bind (g δ) fun as => M.ofO (op as)
theorem d6 {a : Expr} {g : Dn -> M (List D)} {p pos : Pos} (hg : Gl X "range") (hm : X.mg "range" = none) (ha : PA X [a] (tVA X.K g E)) (hs : starEach [a] X.env = [(false, eval a X.env)] := by rfl) : PI X tg (.Call (.Name "range" p) [a] [] pos) (iV X.K (bD fX g) E) :=
 (t6 hg hm ha hs).imp fun σ H R h_ => ex6 h_ fun F δ β fr vk h => ⟨F, δ, β, fr, vk, (run.bind (R := DenL X.K F) h).mono fun vs H1 h_ => by
  obtain ⟨ds, β1, t, hd, r1⟩ := h_
  obtain ⟨l, e, k⟩ := run.ofO r1
  unfold fX at e
  split at e
  ·split at e
   ·rename_i hj
    cases e
    simp only [Bool.and_eq_true, decide_eq_true_eq] at hj
    obtain ⟨v, rfl, h1⟩ := DenL.one hd
    cases h1.int
    exact ⟨_, rfl, hj.1, hj.2, k _ H1 (To.refl t.fr) nA⟩
   ·cases e
  ·cases e⟩
theorem pG {a b : Expr} {g : Dn -> M (List D)} {p pos : Pos} (hg : Gl X "range") (hm : X.mg "range" = none) (ha : PA X [a, b] (tVA X.K g E)) (hs : starEach [a, b] X.env = [(false, eval a X.env), (false, eval b X.env)] := by rfl) (hs2 : starEach [b] X.env = [(false, eval b X.env)] := by rfl) : PI X tg (.Call (.Name "range" p) [a, b] [] pos) (iV X.K (bD mx g) E) :=
 (t5 hg hm ha hs hs2).imp fun σ H R h_ => ex6 h_ fun F δ β fr vk h => ⟨F, δ, β, fr, vk, (run.bind (R := DenL X.K F) h).mono fun vs H1 h_ => by
  obtain ⟨ds, β1, t, hd, r1⟩ := h_
  obtain ⟨l, e, k⟩ := run.ofO r1
  unfold mx at e
  split at e
  ·split at e
   ·rename_i hj
    cases e
    simp only [Bool.and_eq_true, decide_eq_true_eq] at hj
    obtain ⟨v, w, rfl, h1, h2⟩ := DenL.two hd
    cases h1.int
    cases h2.int
    exact ⟨_, _, rfl, ⟨hj.1.1.1, hj.1.1.2, hj.1.2, hj.2⟩, k _ H1 (To.refl t.fr) nA⟩
   ·cases e
  ·cases e⟩
abbrev TgF := D -> Dn -> Option Dn
abbrev gP := List D -> Dn -> Option Dn
def e8 (K : PySem.W.Frag) (g : TG) (tg : TgF) : Prop := ∀ (F : Fx) (H : Hp) (δ δ1 : Dn) (σ : St) (d : D) (v : V) (Q : St -> Hp -> Prop), VOk K F H δ σ -> Den K F H d v -> tg d δ = some δ1 -> (∀ σ1, VOk K F H δ1 σ1 -> Q σ1 H) -> g v σ H Q
def mj (K : PySem.W.Frag) (g : TGs) (tg : gP) : Prop := ∀ (F : Fx) (H : Hp) (δ δ1 : Dn) (σ : St) (ds : List D) (vs : List V) (Q : St -> Hp -> Prop), VOk K F H δ σ -> DenL K F H ds vs -> tg ds δ = some δ1 -> (∀ σ1, VOk K F H δ1 σ1 -> Q σ1 H) -> g vs σ H Q
def tgC (i : Nat) : TgF := fun d δ => if (δ.getD i (some .non)).isNone then some (δ.set i (some d)) else none
def gA : gP := fun ds δ => match ds with
 | [] => some δ
 | _ => none
def dk (t : TgF) (u : gP) : gP := fun ds δ => match ds with
 | [] => none
 | d :: r => (t d δ).bind fun δ1 => u r δ1
def tgT (t : gP) : TgF := fun d δ => match d with
 | .tup ds => t ds δ
 | _ => none
theorem oR {i : Nat} {d : D} {δ δ1 : Dn} (h : tgC i d δ = some δ1) : δ[i]? = some none /\ δ1 = δ.set i (some d) := by
 unfold tgC at h
 split at h
 ·rename_i q
  cases h
  refine ⟨?_, rfl⟩
  rw [List.getD_eq_getElem?_getD] at q
  cases e : δ[i]? with
  | none => rw [e] at q; cases q
  | some z =>
   rw [e] at q
   cases z with
   | none => rfl
   | some w => cases q
 ·cases h
theorem bi {i : Nat} : e8 K (eQ i) (tgC i) := fun F H δ δ1 σ d v Q vk hd e k => by
 obtain ⟨_, rfl⟩ := oR e
 exact k _ (vk.set hd)
theorem mJ : mj K gNil gA := fun F H δ δ1 σ ds vs Q vk hd e k => by
 cases ds with
 | nil => cases e; exact ⟨hd, k _ vk⟩
 | cons _ _ => cases e
theorem fq {t : TG} {u : TGs} {tf : TgF} {uf : gP} (h1 : e8 K t tf) (h2 : mj K u uf) : mj K (rR t u) (dk tf uf) := fun F H δ δ1 σ ds vs Q vk hd e k => by
 cases ds with
 | nil => cases e
 | cons d r =>
  obtain ⟨x, xr, rfl, hx, hr⟩ := hd
  have e' : (tf d δ).bind (fun δ1 => uf r δ1) = some δ1 := e
  cases q : tf d δ with
  | none => rw [q] at e'; cases e'
  | some δ2 =>
   rw [q] at e'
   exact ⟨x, xr, rfl, h1 F H δ δ2 σ d x _ vk hx q fun σ1 vk1 => h2 F H δ2 δ1 σ1 r xr Q vk1 hr e' k⟩
theorem pz {n : Nat} {t : TGs} {tf : gP} (h : mj K t tf) (hn : ∀ ds δ δ1, tf ds δ = some δ1 -> ds.length = n) : e8 K (vR K n t) (tgT tf) := fun F H δ δ1 σ d v Q vk hd e k => by
 cases d <;> first
  | (obtain ⟨a, xs, rfl, sq, dl⟩ := Den.sqT hd; exact ⟨a, xs, rfl, sq, by rw [← dl.length]; exact hn _ _ _ e, h F H δ δ1 σ _ xs Q vk dl e k⟩)
  | cases e
theorem kE : ∀ ds δ δ1, gA ds δ = some δ1 -> ds.length = 0 := fun ds δ δ1 h => by
 cases ds with
 | nil => rfl
 | cons _ _ => cases h
theorem fh {t : TgF} {u : gP} {n : Nat} (h : ∀ ds δ δ1, u ds δ = some δ1 -> ds.length = n) : ∀ ds δ δ1, dk t u ds δ = some δ1 -> ds.length = n + 1 := fun ds δ δ1 e => by
 cases ds with
 | nil => cases e
 | cons d r =>
  have e' : (t d δ).bind (fun δ1 => u r δ1) = some δ1 := e
  cases q : t d δ with
  | none => rw [q] at e'; cases e'
  | some δ2 => rw [q] at e'; rw [List.length_cons, h _ _ _ e']
def gQ (tg : TgF) : Prop := ∀ d δ δ1, tg d δ = some δ1 -> Sub δ δ1 /\ δ.length = δ1.length
def oC (tg : gP) : Prop := ∀ d δ δ1, tg d δ = some δ1 -> Sub δ δ1 /\ δ.length = δ1.length
theorem bt {i : Nat} : gQ (tgC i) := fun d δ δ1 e => by
 obtain ⟨q, rfl⟩ := oR e
 refine ⟨fun j c ej => ?_, by rw [List.length_set]⟩
 rw [List.getElem?_set]
 by_cases z : i = j
 ·subst z; rw [q] at ej; cases ej
 ·rw [if_neg z]; exact ej
theorem mq : oC gA := fun ds δ δ1 e => by
 cases ds with
 | nil => cases e; exact ⟨fun _ _ h => h, rfl⟩
 | cons _ _ => cases e
theorem fi {t : TgF} {u : gP} (h1 : gQ t) (h2 : oC u) : oC (dk t u) := fun ds δ δ1 e => by
 cases ds with
 | nil => cases e
 | cons d r =>
  have e' : (t d δ).bind (fun δ1 => u r δ1) = some δ1 := e
  cases q : t d δ with
  | none => rw [q] at e'; cases e'
  | some δ2 =>
   rw [q] at e'
   obtain ⟨a1, a2⟩ := h1 _ _ _ q
   obtain ⟨b1, b2⟩ := h2 _ _ _ e'
   exact ⟨fun i c h => b1 i c (a1 i c h), a2.trans b2⟩
theorem oZ {t : gP} (h : oC t) : gQ (tgT t) := fun d δ δ1 e => by
 cases d <;> first | exact h _ _ _ e | cases e
structure ToD (F : Fx) (D : Addr) (H H' : Hp) (β' : Bg) : Prop where
 kp : ∀ a o, H a = some o -> a ≠ D -> (∀ b l, F.bg = some (b, l) -> a ≠ b /\ a ≠ l) -> H' a = some o
 fr : Fr F H' β'
theorem ToD.trans {F : Fx} {D : Addr} {H H1 H2 : Hp} {β1 β2 : Bg} (a : ToD F D H H1 β1) (b : ToD F D H1 H2 β2) : ToD F D H H2 β2 := ⟨fun x o h n m => b.kp x o (a.kp x o h n m) n m, b.fr⟩
theorem To.toD {F : Fx} {H H' : Hp} {β' : Bg} (t : To F H H' β') (D : Addr) : ToD F D H H' β' := ⟨fun a o h _ m => t.kp a o h m, t.fr⟩
theorem ToD.tr {F : Fx} {D : Addr} {H H' : Hp} {β β' : Bg} (fr : Fr F H β) (hD : F.A D) (t : ToD F D H H' β') : Tr F H F H' :=
 ⟨fun _ h _ => h, fun a o h e => t.kp a o e (fun z => h (z ▸ hD)) fun b l q => ⟨fun z => h (z ▸ (fr.bgA b l q).1), fun z => h (z ▸ (fr.bgA b l q).2.1)⟩, rfl⟩
def jn (K : PySem.W.Frag) (D : Addr) (tb : TB) (f : Dn -> M (List Pu.D)) : Prop := ∀ (F : Fx) (H : Hp) (δ : Dn) (β β' : Bg) (σ : St) (acc : List V) (as os : List Pu.D) (Q : St -> Hp -> Prop), Fr F H β -> F.A D -> (∀ b l, F.bg = some (b, l) -> D ≠ b /\ D ≠ l) -> VOk K F H δ σ -> H D = some (.lst acc) -> DenL K F H as acc ->
 f δ β = some (.ok os, β') -> as.length + os.length <= sizeLine -> (∀ σ1 H1 acc1, ToD F D H H1 β' -> VOk K F H1 δ σ1 -> H1 D = some (.lst acc1) -> DenL K F H1 (as ++ os) acc1 -> Q σ1 H1) -> tb σ H Q
def cEm (f : Dn -> M Pu.D) : Dn -> M (List Pu.D) := fun δ => M.bind (f δ) fun d => M.ret [d]
theorem M.bind_inv {α γ : Type} {m : M α} {k : α -> M γ} {β β' : Bg} {r : γ} (h : M.bind m k β = some (.ok r, β')) : ∃ a β1, m β = some (.ok a, β1) /\ k a β1 = some (.ok r, β') := by
 unfold M.bind at h
 split at h
 ·cases h
 ·cases h
 ·rename_i a β1 e
  exact ⟨a, β1, e, h⟩
theorem E0.run {α γ : Type} {R : Hp -> α -> γ -> Prop} {F : Fx} {σ : St} {m : M α} {H : Hp} {Q : γ -> Hp -> Prop} {β β' : Bg} {a : α} (e : m β = some (.ok a, β')) (h : ∀ v H', To F H H' β' -> R H' a v -> Q v H') : run R F E0 σ m H Q β := ⟨.ok a, β', e, h⟩
theorem bS {D : Addr} {f : Dn -> M Pu.D} : jn K D (rV D (tV K f E0)) (cEm f) := fun F H δ β β' σ acc as os Q fr hA hb vk hD hd e hz k => by
 obtain ⟨d, β1, e1, e2⟩ := M.bind_inv e
 cases e2
 refine ⟨F, δ, β, fr, vk, E0.run e1 fun v H1 t hv => ?_⟩
 have hD1 := t.kp D _ hD hb
 have dl := DenL.tr (t.tr fr) _ _ hd
 refine ⟨acc, hD1, by rw [← hd.length]; simp at hz; omega, ?_⟩
 have tD : ToD F D H1 (upd H1 D (.lst (acc ++ [v]))) β' := by
  refine ⟨fun a o h n _ => by rw [upd_ne n]; exact h, fun a h q => ?_, fr.bgA, fun b l q => ?_⟩
  ·by_cases z : a = D
   ·subst z; rw [aw] at q; cases q
   ·rw [upd_ne z] at q; exact t.fr.occ a h q
  ·rw [upd_ne (hb b l q).1.symm, upd_ne (hb b l q).2.symm]
   exact t.fr.bag b l q
 have tt := tD.tr t.fr hA
 exact k σ _ _ ((t.toD D).trans tD) (vk.tr ((t.tr fr).trans tt)) aw (DenL.append (DenL.tr tt _ _ dl) ⟨v, [], rfl, Den.tr tt _ _ hv, rfl⟩)
def cLp (tg : TgF) (tt : Dn -> M Bool) (b : Dn -> M (List Pu.D)) : List Pu.D -> Dn -> M (List Pu.D)
 | [], _ => M.ret []
 | d :: ds, δ => match tg d δ with
  | none => M.fail
  | some δ1 => M.bind (tt δ1) fun c => M.bind (if c = true then b δ1 else M.ret []) fun o => M.bind (cLp tg tt b ds δ) fun os => M.ret (o ++ os)
theorem qG {D : Addr} {J : It} {g : TG} {tg : TgF} {tt : Dn -> M Bool} {tb : TB} {b : Dn -> M (List Pu.D)} (hg : e8 K g tg) (sg : gQ tg) (hb : jn K D tb b) {F : Fx} {H : Hp} {δ : Dn} {β β' : Bg} {σ : St} {acc : List V} {as os ds : List Pu.D} {Q : St -> Hp -> Prop} (fr : Fr F H β) (hA : F.A D) (hn : ∀ b l, F.bg = some (b, l) -> D ≠ b /\ D ≠ l) (vk : VOk K F H δ σ) (hD : H D = some (.lst acc)) (hd : DenL K F H as acc)
  (it : ItD K J F H ds) (e : cLp tg tt b ds δ β = some (.ok os, β')) (hz : as.length + os.length <= sizeLine) (k : ∀ σ1 H1 acc1, ToD F D H H1 β' -> VOk K F H1 δ σ1 -> H1 D = some (.lst acc1) -> DenL K F H1 (as ++ os) acc1 -> Q σ1 H1) : eV J g (tVT K tt E0) tb σ H Q := by
 refine ⟨fun i m σ1 H1 => m + i = ds.length /\ ∃ β1 acc1 as1 os1, ToD F D H H1 β1 /\ VOk K F H1 δ σ1 /\ H1 D = some (.lst acc1) /\ DenL K F H1 as1 acc1 /\ cLp tg tt b (ds.drop i) δ β1 = some (.ok os1, β') /\ as1 ++ os1 = as ++ os,
  ⟨ds.length, by omega, β, acc, as, os, ⟨fun _ _ h _ _ => h, fr⟩, vk, hD, hd, e, rfl⟩, ?_⟩
 rintro i m σ1 H1 ⟨hm, β1, acc1, as1, os1, t1, vk1, hD1, hd1, e1, ea⟩
 have tr1 := t1.tr fr hA
 obtain ⟨iy, is⟩ := it F H1 β1 tr1 t1.fr i
 cases hi : ds[i]? with
 | none =>
  have hl : ds.length <= i := List.getElem?_eq_none_iff.mp hi
  rw [List.drop_eq_nil_of_le hl] at e1
  cases e1
  refine .inl ⟨is (by omega), k σ1 H1 acc1 t1 vk1 hD1 ?_⟩
  rw [← ea, List.append_nil]
  exact hd1
 | some d =>
  have hl : i < ds.length := (List.getElem?_eq_some_iff.mp hi).1
  obtain ⟨go, yl⟩ := iy d hi
  have ed : ds.drop i = d :: ds.drop (i + 1) := by
   rw [List.drop_eq_getElem_cons hl]
   congr 1
   exact Option.some.inj ((List.getElem?_eq_getElem hl).symm.trans hi)
  rw [ed] at e1
  unfold cLp at e1
  cases q : tg d δ with
  | none => rw [q] at e1; cases e1
  | some δ1 =>
   rw [q] at e1
   obtain ⟨c, β2, e2, e3⟩ := M.bind_inv e1
   obtain ⟨o, β3, e4, e5⟩ := M.bind_inv e3
   obtain ⟨os2, β4, e6, e7⟩ := M.bind_inv e5
   cases e7
   obtain ⟨s1, s2⟩ := sg _ _ _ q
   refine .inr ⟨go, fun σ9 H9 => ∃ acc9, ToD F D H H9 β3 /\ VOk K F H9 δ σ9 /\ H9 D = some (.lst acc9) /\ DenL K F H9 (as1 ++ o) acc9, ?_, fun x H2 hy => ?_⟩
   ·rintro σ9 H9 ⟨acc9, t9, vk9, hD9, hd9⟩
    exact ⟨m - 1, by omega, by omega, β3, acc9, as1 ++ o, os2, t9, vk9, hD9, hd9, e6, by rw [List.append_assoc]; exact ea⟩
   ·obtain ⟨sm, dx⟩ := yl x H2 hy
    have t2 : To F H1 H2 β1 := t1.fr.same sm
    have tr2 := t2.tr t1.fr
    refine hg F H2 δ δ1 σ1 d x _ (vk1.tr tr2) dx q fun σ2 vk2 => ⟨F, δ1, β1, t2.fr, vk2, E0.run e2 fun c' H3 t3 ec => ?_⟩
    subst ec
    have hDn := hn
    have hD2 := sm _ _ hD1
    have hD3 := t3.kp D _ hD2 hn
    have tr3 := t3.tr t2.fr
    have d3 := DenL.tr (tr2.trans tr3) _ _ hd1
    have tt3 : ToD F D H H3 β2 := t1.trans ((t2.trans t3).toD D)
    have hle : as1.length + (o ++ os2).length <= sizeLine := by
     have := congrArg List.length ea
     simp only [List.length_append] at this ⊢
     omega
    cases c' with
    | true =>
     rw [if_pos rfl] at e4 ⊢
     refine hb F H3 δ1 β2 β3 σ2 acc1 as1 o _ t3.fr hA hn (vk2.tr tr3) hD3 d3 e4 (by rw [List.length_append] at hle; omega) fun σ4 H4 acc4 t4 vk4 hD4 hd4 => ?_
     exact ⟨acc4, tt3.trans t4, vk4.sub s1 s2, hD4, hd4⟩
    | false =>
     rw [if_neg Bool.false_ne_true] at e4 ⊢
     cases e4
     exact ⟨acc1, tt3, (vk2.tr tr3).sub s1 s2, hD3, by rw [List.append_nil]; exact d3⟩
def cNx (it : Dn -> M (List Pu.D)) (tg : TgF) (tt : Dn -> M Bool) (b : Dn -> M (List Pu.D)) : Dn -> M (List Pu.D) := fun δ => M.bind (it δ) fun ds => cLp tg tt b ds δ
theorem zL {D : Addr} {it : Dn -> M (List Pu.D)} {g : TG} {tg : TgF} {tt : Dn -> M Bool} {tb : TB} {b : Dn -> M (List Pu.D)} (hg : e8 K g tg) (sg : gQ tg) (hb : jn K D tb b) : jn K D (yU (iV K it E0) fun J => eV J g (tVT K tt E0) tb) (cNx it tg tt b) := fun F H δ β β' σ acc as os Q fr hA hn vk hD hd e hz k => by
 obtain ⟨ds, β1, e1, e2⟩ := M.bind_inv e
 refine ⟨F, δ, β, fr, vk, E0.run e1 fun J H1 t hJ => ?_⟩
 exact qG hg sg hb t.fr hA hn (vk.tr (t.tr fr)) (t.kp D _ hD hn) (DenL.tr (t.tr fr) _ _ hd) hJ e2 hz fun σ1 H1 acc1 t1 => k σ1 H1 acc1 ((t.toD D).trans t1)
def cSt (nv : Nat) (caps : List Nat) (δ : Dn) : Dn := List.replicate nv none ++ caps.map fun j => δ.getD j none
def aT (nv : Nat) (caps : List Nat) (it : Dn -> M (List Pu.D)) (tg : TgF) (tt : Dn -> M Bool) (b : Dn -> M (List Pu.D)) : Dn -> M Pu.D := fun δ β => match it δ β with
 | none => none
 | some (.error C, β1) => some (.error C, β1)
 | some (.ok ds, β1) => match cLp tg tt b ds (cSt nv caps δ) β1 with
  | some (.ok os, β2) => if os.length <= sizeLine then some (.ok (.lst os), β2) else none
  | _ => none
theorem uM {F : Fx} {H : Hp} {δ : Dn} {σ : St} {vars : List Str} {caps : List Nat} (vk : VOk K F H δ σ) : VOk K F H (cSt vars.length caps δ) (j0 vars caps σ) := by
 refine ⟨by simp [cSt, j0], fun i d e => ?_⟩
 unfold cSt at e
 unfold j0
 rw [List.getElem?_append] at e ⊢
 rw [List.length_replicate] at e ⊢
 by_cases hi : i < vars.length
 ·rw [if_pos hi, List.getElem?_replicate, if_pos hi] at e
  cases e
 ·rw [if_neg hi, List.getElem?_map] at e ⊢
  cases q : caps[i - vars.length]? with
  | none => rw [q] at e; cases e
  | some j =>
   rw [q] at e
   simp only [Option.map_some, Option.some.injEq] at e ⊢
   rw [List.getD_eq_getElem?_getD] at e
   cases z : δ[j]? with
   | none => rw [z] at e; cases e
   | some w =>
    rw [z] at e
    have ew : w = some d := e
    subst ew
    obtain ⟨v, h1, h2⟩ := vk.tell j d z
    exact ⟨v, by rw [List.getD_eq_getElem?_getD, h1]; rfl, h2⟩
theorem oV {vars : List Str} {caps : List Nat} {it : Dn -> M (List Pu.D)} {g : TG} {tg : TgF} {tt : Dn -> M Bool} {tb : Addr -> TB} {b : Dn -> M (List Pu.D)} (hg : e8 K g tg) (sg : gQ tg) (hb : ∀ D, jn K D (tb D) b) {σ : St} {H : Hp} {Q : VK} (h : tV K (aT vars.length caps it tg tt b) E σ H Q) :
  oo vars caps (iV K it E) (fun D J => eV J g (tVT K tt E0) (tb D)) σ H Q := by
 obtain ⟨F, δ, β, fr, vk, r, β', e, h⟩ := h
 unfold aT at e
 refine ⟨F, δ, β, fr, vk, ?_⟩
 split at e
 ·cases e
 ·rename_i C β1 q
  cases e
  exact ⟨.error C, _, q, h⟩
 ·rename_i ds β1 q
  split at e
  ·rename_i os β2 q2
   split at e
   ·rename_i hz
    cases e
    refine ⟨.ok ds, β1, q, fun J H1 t hJ D hD => ?_⟩
    have hDA : ¬ F.A D := t.fr.fresh hD
    have nb : ∀ b l, F.bg = some (b, l) -> D ≠ b /\ D ≠ l := fun b l z => ⟨fun w => hDA (w ▸ (fr.bgA b l z).1), fun w => hDA (w ▸ (fr.bgA b l z).2.1)⟩
    have t2 := t.fr.upd (.lst []) hD
    have fr2 : Fr ⟨fun a => F.A a \/ a = D, F.bg⟩ (upd H1 D (.lst [])) β1 := by
     refine ⟨fun a ha z => ?_, fun b l z => let ⟨x, y, w⟩ := fr.bgA b l z; ⟨.inl x, .inl y, w⟩, t2.fr.bag⟩
     rcases ha with ha | ha
     ·exact t2.fr.occ a ha z
     ·subst ha; rw [aw] at z; cases z
    have tr2 : Tr F H1 ⟨fun a => F.A a \/ a = D, F.bg⟩ (upd H1 D (.lst [])) := ⟨fun a ha hs z => by
     rcases z with z | z
     ·exact ha z
     ·subst z; exact hs hD, fun a o ha z => by rw [upd_ne (ne_of_none z hD)]; exact z, rfl⟩
    refine qG (D := D) (as := []) (os := os) hg sg (hb D) fr2 (.inr rfl) nb (uM (vk.tr ((t.tr fr).trans tr2))) aw rfl (hJ.tr tr2) q2 (by simpa using hz) fun σ1 H2 acc1 t3 vk3 hD3 hd3 => ?_
    have tf : To F H1 H2 β' := by
     refine ⟨fun a o z n => t3.kp a o (by rw [upd_ne (ne_of_none z hD)]; exact z) (ne_of_none z hD) n, fun a ha z => t3.fr.occ a (Or.inl ha) z, fr.bgA, t3.fr.bag⟩
    refine h _ H2 (t.trans tf) ⟨D, acc1, rfl, ⟨hDA, .inl hD3⟩, DenL.tr (F := ⟨fun a => F.A a \/ a = D, F.bg⟩) ⟨fun a ha _ z => ha (Or.inl z), fun a o _ z => z, rfl⟩ _ _ hd3⟩
   ·cases e
  ·cases e
end
inductive Sl where
 | sh (d : D) | own (ds : List D) | grd (rows : List (List D))
abbrev Ds := List (Option Sl)
inductive Out where
 | nx (δ : Ds) | rt (d : D) | bk (δ : Ds) | ct (δ : Ds) | ex (C : Addr) (δ : Ds) | rg (rows : List (List D))
abbrev G := Ds -> Bg -> Option (Out × Bg)
abbrev Ow := Addr -> Option Nat
def FxB (B : Ow) (bg : Option (Addr × Addr)) : Fx := ⟨fun a => B a ≠ none, bg⟩
def FxA (B : Ow) (bg : Option (Addr × Addr)) : Fx := ⟨fun a => B a = some 0 \/ B a = some 1, bg⟩
def RowL (K : PySem.W.Frag) (F : Fx) (H : Hp) (P : Addr -> Prop) : List (List D) -> List Addr -> Prop
 | [], [] => True
 | ds :: rows, r :: rs => P r /\ (∃ xs, H r = some (.lst xs) /\ DenL K F H ds xs) /\ RowL K F H P rows rs
 | _, _ => False
theorem RowL.tr {K : PySem.W.Frag} {F F2 : Fx} {H H2 : Hp} {P P2 : Addr -> Prop} (t : Tr F H F2 H2) : ∀ {rows : List (List D)} {rs : List Addr}, RowL K F H P rows rs -> (∀ r xs, r ∈ rs -> P r -> H r = some (.lst xs) -> P2 r /\ H2 r = some (.lst xs)) -> RowL K F2 H2 P2 rows rs
 | [], [], _, _ => trivial
 | ds :: rows, r :: rs, h, f => by
  obtain ⟨h1, ⟨xs, h2, h3⟩, h4⟩ := h
  obtain ⟨p, q⟩ := f r xs List.mem_cons_self h1 h2
  exact ⟨p, ⟨xs, q, DenL.tr t _ _ h3⟩, RowL.tr t h4 fun r' xs' hr => f r' xs' (List.mem_cons_of_mem _ hr)⟩
 | [], _ :: _, h, _ => h.elim
 | _ :: _, [], h, _ => h.elim
theorem RowL.all {K : PySem.W.Frag} {F : Fx} {H : Hp} {P : Addr -> Prop} : ∀ {rows : List (List D)} {rs : List Addr}, RowL K F H P rows rs -> ∀ r ∈ rs, P r /\ ∃ xs, H r = some (.lst xs)
 | [], [], _, r, hr => by cases hr
 | ds :: rows, r0 :: rs, h, r, hr => by
  obtain ⟨h1, ⟨xs, h2, h3⟩, h4⟩ := h
  rcases List.mem_cons.mp hr with rfl | hr
  ·exact ⟨h1, xs, h2⟩
  ·exact RowL.all h4 r hr
 | [], _ :: _, h, _, _ => h.elim
 | _ :: _, [], h, _, _ => h.elim
theorem RowL.den {K : PySem.W.Frag} {F F2 : Fx} {H : Hp} {P : Addr -> Prop} (t : Tr F H F2 H) : ∀ {rows : List (List D)} {rs : List Addr}, RowL K F H P rows rs -> (∀ r, r ∈ rs -> P r -> ¬ F2.A r) -> DenL K F2 H (rows.map D.lst) (rs.map V.ref)
 | [], [], _, _ => rfl
 | ds :: rows, r :: rs, h, f => by
  obtain ⟨h1, ⟨xs, h2, h3⟩, h4⟩ := h
  exact DenL.cons ⟨r, xs, rfl, ⟨f r List.mem_cons_self h1, .inl h2⟩, DenL.tr t _ _ h3⟩ (RowL.den t h4 fun r' hr => f r' (List.mem_cons_of_mem _ hr))
 | [], _ :: _, h, _ => h.elim
 | _ :: _, [], h, _ => h.elim
theorem RowL.len {K : PySem.W.Frag} {F : Fx} {H : Hp} {P : Addr -> Prop} : ∀ {rows : List (List D)} {rs : List Addr}, RowL K F H P rows rs -> rows.length = rs.length
 | [], [], _ => rfl
 | ds :: rows, r :: rs, h => by simp [RowL.len h.2.2]
 | [], _ :: _, h => h.elim
 | _ :: _, [], h => h.elim
def pT (K : PySem.W.Frag) (F : Fx) (H0 H : Hp) (rows : List (List D)) (v : V) : Prop := ∃ a rs, v = .ref a /\ H0 a = none /\ H a = some (.lst (rs.map V.ref)) /\ (a :: rs).Nodup /\ RowL K F H (fun r => H0 r = none) rows rs
def DenS (K : PySem.W.Frag) (B : Ow) (bg : Option (Addr × Addr)) (H : Hp) (i : Nat) : Sl -> V -> Prop
 | .sh d, v => Den K (FxB B bg) H d v
 | .own ds, v => ∃ a xs, v = .ref a /\ B a = some (i + 2) /\ H a = some (.lst xs) /\ DenL K (FxB B bg) H ds xs
 | .grd rows, v => ∃ a rs, v = .ref a /\ B a = some (i + 2) /\ H a = some (.lst (rs.map V.ref)) /\ (a :: rs).Nodup /\ RowL K (FxB B bg) H (fun r => B r = some (i + 2)) rows rs
structure SOk (K : PySem.W.Frag) (H₀ : Hp) (B : Ow) (bg : Option (Addr × Addr)) (H : Hp) (δ : Ds) (β : Bg) (σ : St) : Prop where
 fr : Fr (FxB B bg) H β
 bgt : ∀ b l, bg = some (b, l) -> B b = some 1 /\ B l = some 1
 len : δ.length = σ.length
 cov : ∀ a, H₀ a ≠ none -> H a ≠ none
 new : ∀ a k, B a = some (k + 2) -> H₀ a = none
 lst : ∀ a k, B a = some (k + 2) -> ∃ xs, H a = some (.lst xs)
 tell : ∀ (i : Nat) (s : Sl), δ[i]? = some (some s) -> ∃ v, σ[i]? = some (some v) /\ DenS K B bg H i s v
structure Stp (B : Ow) (H : Hp) (B' : Ow) (H' : Hp) : Prop where
 kp : ∀ a o, H a = some o -> (B a = none \/ B a = some 0) -> H' a = some o
 tg : ∀ a, B a = some 0 \/ B a = some 1 -> B' a = B a
 nn : ∀ a o, H a = some o -> B a = none -> B' a = none
 al : ∀ a, H a ≠ none -> H' a ≠ none
theorem Stp.refl (B : Ow) (H : Hp) : Stp B H B H := ⟨fun _ _ h _ => h, fun _ _ => rfl, fun _ _ _ h => h, fun _ h => h⟩
theorem Stp.trans {B B1 B2 : Ow} {H H1 H2 : Hp} (a : Stp B H B1 H1) (b : Stp B1 H1 B2 H2) : Stp B H B2 H2 := by
 refine ⟨fun x o h n => b.kp x o (a.kp x o h n) ?_, fun x h => ?_, fun x o h n => b.nn x o (a.kp x o h (.inl n)) (a.nn x o h n), fun x h => b.al x (a.al x h)⟩
 ·rcases n with n | n
  ·exact .inl (a.nn x o h n)
  ·exact .inr ((a.tg x (.inl n)).trans n)
 ·have e := a.tg x h
  rw [← e] at h
  exact (b.tg x h).trans e
def gr (K : PySem.W.Frag) (H₀ : Hp) (bg : Option (Addr × Addr)) (E : St -> XK) (Dn : Ends) (B : Ow) (H : Hp) (o : Out) (β' : Bg) : Prop := match o with
 | .nx δ' => ∀ σ' B' H', Stp B H B' H' -> SOk K H₀ B' bg H' δ' β' σ' -> Dn.nx σ' H'
 | .bk δ' => ∀ σ' B' H', Stp B H B' H' -> SOk K H₀ B' bg H' δ' β' σ' -> Dn.bk σ' H'
 | .ct δ' => ∀ σ' B' H', Stp B H B' H' -> SOk K H₀ B' bg H' δ' β' σ' -> Dn.ct σ' H'
 | .rt d => ∀ v B' H', Stp B H B' H' -> Fr (FxB B' bg) H' β' -> Den K (FxB B' bg) H' d v -> Dn.rt v H'
 | .rg rows => ∀ v B' H', Stp B H B' H' -> Fr (FxB B' bg) H' β' -> pT K (FxB B' bg) H₀ H' rows v -> Dn.rt v H'
 | .ex C δ' => ∀ σ' B' H', Stp B H B' H' -> SOk K H₀ B' bg H' δ' β' σ' -> E σ' (.ref C) none H'
theorem gr.pre {K : PySem.W.Frag} {H₀ : Hp} {bg : Option (Addr × Addr)} {E : St -> XK} {Dn : Ends} {B B1 : Ow} {H H1 : Hp} {o : Out} {β' : Bg} (s : Stp B H B1 H1) (h : gr K H₀ bg E Dn B H o β') : gr K H₀ bg E Dn B1 H1 o β' := by
 cases o with
 | nx δ => exact fun σ' B' H' t => h σ' B' H' (s.trans t)
 | bk δ => exact fun σ' B' H' t => h σ' B' H' (s.trans t)
 | ct δ => exact fun σ' B' H' t => h σ' B' H' (s.trans t)
 | rt d => exact fun v B' H' t => h v B' H' (s.trans t)
 | rg d => exact fun v B' H' t => h v B' H' (s.trans t)
 | ex C δ => exact fun σ' B' H' t => h σ' B' H' (s.trans t)
def tG (K : PySem.W.Frag) (H₀ : Hp) (g : G) (E : St -> XK) : TS := fun Dn σ H => ∃ B bg δ β o β', SOk K H₀ B bg H δ β σ /\ g δ β = some (o, β') /\ gr K H₀ bg E Dn B H o β'
theorem _root_.L2.PS.imp {X : Cx} {e : Stmt} {t t' : TS} (h : PS X e t) (f : ∀ D σ H, t' D σ H -> t D σ H) : PS X e t' := fun pins s σ H D I q => h pins s σ H D I (f D σ H q)
theorem _root_.L2.PSs.imp {X : Cx} {e : List Stmt} {t t' : TS} (h : PSs X e t) (f : ∀ D σ H, t' D σ H -> t D σ H) : PSs X e t' := fun pins s σ H D I q => h pins s σ H D I (f D σ H q)
def vw (δ : Ds) : Dn := δ.map fun s => match s with
 | some (.sh d) => some d
 | _ => none
def vwA (δ : Ds) : Dn := δ.map fun s => match s with
 | some (.sh d) => some d
 | some (.own ds) => some (.lst ds)
 | some (.grd rows) => some (.lst (rows.map D.lst))
 | none => none
section
variable {K : PySem.W.Frag} {H₀ : Hp} {B : Ow} {bg : Option (Addr × Addr)} {H H' : Hp} {δ : Ds} {β β' : Bg} {σ : St}
theorem DV {i : Nat} {d : D} (e : (vw δ)[i]? = some (some d)) : δ[i]? = some (some (.sh d)) := by
 unfold vw at e
 rw [List.getElem?_map] at e
 cases q : δ[i]? with
 | none => rw [q] at e; cases e
 | some z =>
  rw [q] at e
  cases z with
  | none => cases e
  | some s =>
   cases s with
   | sh c => cases e; rfl
   | own ds => cases e
   | grd rows => cases e
theorem SOk.view (h : SOk K H₀ B bg H δ β σ) : VOk K (FxB B bg) H (vw δ) σ := ⟨by unfold vw; rw [List.length_map, h.len], fun i d e => h.tell i _ (DV e)⟩
theorem trA : Tr (FxB B bg) H (FxA B bg) H := ⟨fun a h _ z => by
 have h' : ¬ (B a ≠ none) := h
 rcases z with z | z
 ·exact h' (by rw [z]; simp)
 ·exact h' (by rw [z]; simp), fun _ _ _ h => h, rfl⟩
theorem SOk.frA (h : SOk K H₀ B bg H δ β σ) : Fr (FxA B bg) H β := ⟨fun a ha => h.fr.occ a (by
 show B a ≠ none
 rcases ha with z | z <;> rw [z] <;> simp), fun b l e => ⟨.inr (h.bgt b l e).1, .inr (h.bgt b l e).2, (h.fr.bgA b l e).2.2⟩, h.fr.bag⟩
theorem SOk.viewA (h : SOk K H₀ B bg H δ β σ) : VOk K (FxA B bg) H (vwA δ) σ := by
 refine ⟨by unfold vwA; rw [List.length_map, h.len], fun i d e => ?_⟩
 unfold vwA at e
 rw [List.getElem?_map] at e
 cases q : δ[i]? with
 | none => rw [q] at e; cases e
 | some z =>
  rw [q] at e
  cases z with
  | none => cases e
  | some s =>
   obtain ⟨v, h1, h2⟩ := h.tell i s q
   cases s with
   | sh c => cases e; exact ⟨v, h1, Den.tr trA _ _ h2⟩
   | own ds =>
    cases e
    obtain ⟨a, xs, e1, e2, e3, e4⟩ := h2
    refine ⟨v, h1, a, xs, e1, ⟨fun z => ?_, .inl e3⟩, DenL.tr trA _ _ e4⟩
    have z' : B a = some 0 \/ B a = some 1 := z
    rw [e2] at z'
    rcases z' with z' | z' <;> cases z'
   | grd rows =>
    cases e
    obtain ⟨a, rs, e1, e2, e3, e4, e5⟩ := h2
    have na : ∀ c, B c = some (i + 2) -> ¬ (FxA B bg).A c := fun c hc z => by
     have z' : B c = some 0 \/ B c = some 1 := z
     rw [hc] at z'
     rcases z' with z' | z' <;> cases z'
    exact ⟨v, h1, a, _, e1, ⟨na a e2, .inl e3⟩, RowL.den trA e5 fun r _ hr => na r hr⟩
theorem SOk.to {F : Fx} (h : SOk K H₀ B bg H δ β σ) (hF : F.bg = bg) (t : To F H H' β') : SOk K H₀ B bg H' δ β' σ /\ Stp B H B H' := by
 have nb : ∀ a, B a ≠ some 1 -> ∀ b l, F.bg = some (b, l) -> a ≠ b /\ a ≠ l := fun a ha b l e => by
  rw [hF] at e
  exact ⟨fun z => ha (z ▸ (h.bgt b l e).1), fun z => ha (z ▸ (h.bgt b l e).2)⟩
 have kp : ∀ a o, H a = some o -> B a ≠ some 1 -> H' a = some o := fun a o e n => t.kp a o e (nb a n)
 have fr : Fr (FxB B bg) H' β' := ⟨fun a ha z => (by
  by_cases hb : B a = some 1
  ·by_cases hh : ∃ b l, bg = some (b, l) /\ (a = b \/ a = l)
   ·obtain ⟨b, l, e, q⟩ := hh
    obtain ⟨z1, z2⟩ := t.fr.bag b l (hF.trans e)
    rcases q with rfl | rfl
    ·rw [z1] at z; cases z
    ·rw [z2] at z; cases z
   ·cases q : H a with
    | none => exact h.fr.occ a ha q
    | some o =>
     rw [t.kp a o q fun b l e => ⟨fun w => hh ⟨b, l, hF.symm.trans e, .inl w⟩, fun w => hh ⟨b, l, hF.symm.trans e, .inr w⟩⟩] at z
     cases z
  ·cases q : H a with
   | none => exact h.fr.occ a ha q
   | some o => rw [kp a o q hb] at z; cases z), h.fr.bgA, fun b l e => t.fr.bag b l (hF.trans e)⟩
 have tr : Tr (FxB B bg) H (FxB B bg) H' := ⟨fun _ n _ => n, fun a o n e => kp a o e (fun z => n (by show B a ≠ none; rw [z]; simp)), rfl⟩
 have al : ∀ a, H a ≠ none -> H' a ≠ none := fun a ha z => by
  by_cases hh : ∃ b l, bg = some (b, l) /\ (a = b \/ a = l)
  ·obtain ⟨b, l, e, q⟩ := hh
   obtain ⟨z1, z2⟩ := t.fr.bag b l (hF.trans e)
   rcases q with rfl | rfl
   ·rw [z1] at z; cases z
   ·rw [z2] at z; cases z
  ·cases q : H a with
   | none => exact ha q
   | some o =>
    rw [t.kp a o q fun b l e => ⟨fun w => hh ⟨b, l, hF.symm.trans e, .inl w⟩, fun w => hh ⟨b, l, hF.symm.trans e, .inr w⟩⟩] at z
    cases z
 refine ⟨⟨fr, h.bgt, h.len, fun a ha => al a (h.cov a ha), h.new, fun c k hc => (let ⟨xs, z⟩ := h.lst c k hc; ⟨xs, kp c _ z (by rw [hc]; intro z; cases z)⟩), fun i s e => ?_⟩, fun a o e n => kp a o e (by rcases n with n | n <;> rw [n] <;> simp), fun _ _ => rfl, fun _ _ _ n => n, al⟩
 obtain ⟨v, h1, h2⟩ := h.tell i s e
 refine ⟨v, h1, ?_⟩
 cases s with
 | sh c => exact Den.tr tr _ _ h2
 | own ds =>
  obtain ⟨a, xs, e1, e2, e3, e4⟩ := h2
  exact ⟨a, xs, e1, e2, kp a _ e3 (by rw [e2]; intro z; cases z), DenL.tr tr _ _ e4⟩
 | grd rows =>
  obtain ⟨a, rs, e1, e2, e3, e4, e5⟩ := h2
  exact ⟨a, rs, e1, e2, kp a _ e3 (by rw [e2]; intro z; cases z), e4, RowL.tr tr e5 fun r xs _ p q => ⟨p, kp r _ q (by rw [p]; intro z; cases z)⟩⟩
theorem SOk.set {i : Nat} {d : D} {v : V} (h : SOk K H₀ B bg H δ β σ) (hd : Den K (FxB B bg) H d v) : SOk K H₀ B bg H (δ.set i (some (.sh d))) β (σ.set i (some v)) := by
 refine ⟨h.fr, h.bgt, by rw [List.length_set, List.length_set, h.len], h.cov, h.new, h.lst, fun j c e => ?_⟩
 rw [List.getElem?_set] at e
 rw [List.getElem?_set]
 by_cases q : i = j
 ·subst q
  rw [if_pos rfl] at e ⊢
  split at e
  ·rename_i hl
   cases e
   rw [if_pos (by rw [← h.len]; exact hl)]
   exact ⟨v, rfl, hd⟩
  ·cases e
 ·rw [if_neg q] at e ⊢
  exact h.tell j c e
end
def gNil : G := fun δ β => some (.nx δ, β)
def ai (g h : G) : G := fun δ β => match g δ β with
 | some (.nx δ1, β1) => h δ1 β1
 | r => r
def aG (i : Nat) (f : Dn -> M D) : G := fun δ β => match f (vw δ) β with
 | some (.ok d, β1) => some (.nx (δ.set i (some (.sh d))), β1)
 | some (.error C, β1) => some (.ex C δ, β1)
 | none => none
def eP (i : Nat) (f : Dn -> M D) : G := fun δ β => match f (vwA δ) β with
 | some (.ok d, β1) => if dM d = true then some (.nx (δ.set i (some (.sh d))), β1) else none
 | some (.error C, β1) => some (.ex C δ, β1)
 | none => none
def dz (f : Dn -> M D) : G := fun δ β => match f (vwA δ) β with
 | some (.ok _, β1) => some (.nx δ, β1)
 | some (.error C, β1) => some (.ex C δ, β1)
 | none => none
def aE (f : Dn -> M D) : G := fun δ β => match f (vwA δ) β with
 | some (.ok d, β1) => some (.rt d, β1)
 | some (.error C, β1) => some (.ex C δ, β1)
 | none => none
def gIf (t : Dn -> M Bool) (g h : G) : G := fun δ β => match t (vwA δ) β with
 | some (.ok true, β1) => g δ β1
 | some (.ok false, β1) => h δ β1
 | some (.error C, β1) => some (.ex C δ, β1)
 | none => none
section
variable {X : Cx} {E : St -> XK} {e : Expr} {st : Stmt} {sts : List Stmt} {pos : Pos}
theorem aZ : PSs X [] (tG X.K X.H₀ gNil E) := mz.imp fun D σ H h_ => by
 obtain ⟨B, bg, δ, β, o, β', ok, e, h⟩ := h_
 cases e
 exact h σ B H (Stp.refl B H) ok
theorem ak {g h : G} (h1 : PS X st (tG X.K X.H₀ g E)) (h2 : PSs X sts (tG X.K X.H₀ h E)) : PSs X (st :: sts) (tG X.K X.H₀ (ai g h) E) := (bW h1 h2).imp fun D σ H h_ => by
 obtain ⟨B, bg, δ, β, o, β', ok, e, q⟩ := h_
 unfold ai at e
 split at e
 ·rename_i δ1 β1 e1
  refine ⟨B, bg, δ, β, .nx δ1, β1, ok, e1, fun σ' B' H' s ok' => ⟨B', bg, δ1, β1, o, β', ok', e, gr.pre s ?_⟩⟩
  exact q
 ·rename_i r hr
  refine ⟨B, bg, δ, β, o, β', ok, e, ?_⟩
  cases o with
  | nx δ1 => exact absurd e (hr δ1 β')
  | _ => exact q
theorem ao {g : G} (h1 : PS X st (tG X.K X.H₀ g E)) : PSs X [st] (tG X.K X.H₀ g E) := dH h1
theorem aL {i : Nat} {x : Str} {pos' : Pos} {f : Dn -> M D} (h : PS X (.Assign [.Name x pos'] e pos) (jA (tV X.K f E) (eQ i))) : PS X (.Assign [.Name x pos'] e pos) (tG X.K X.H₀ (aG i f) E) := h.imp fun D σ H h_ => by
 obtain ⟨B, bg, δ, β, o, β', ok, e, q⟩ := h_
 refine ⟨FxB B bg, vw δ, β, ok.fr, ok.view, ?_⟩
 unfold aG at e
 split at e
 ·rename_i d β1 e1
  cases e
  refine ⟨.ok d, _, e1, fun v H' t hd => ?_⟩
  obtain ⟨ok2, s2⟩ := ok.to rfl t
  exact q _ B H' s2 (ok2.set hd)
 ·rename_i C β1 e1
  cases e
  refine ⟨.error C, _, e1, fun H' t => ?_⟩
  obtain ⟨ok2, s2⟩ := ok.to rfl t
  exact q _ B H' s2 ok2
 ·cases e
theorem vS {K : PySem.W.Frag} {F F2 : Fx} {H : Hp} {d : D} {v : V} (hf : dM d = true) (h : Den K F H d v) : Den K F2 H d v := by
 cases d <;> first | exact h | cases hf
theorem Ay {i : Nat} {x : Str} {pos' : Pos} {f : Dn -> M D} (h : PS X (.Assign [.Name x pos'] e pos) (jA (tV X.K f E) (eQ i))) : PS X (.Assign [.Name x pos'] e pos) (tG X.K X.H₀ (eP i f) E) := h.imp fun D σ H h_ => by
 obtain ⟨B, bg, δ, β, o, β', ok, e, q⟩ := h_
 refine ⟨FxA B bg, vwA δ, β, ok.frA, ok.viewA, ?_⟩
 unfold eP at e
 split at e
 ·rename_i d β1 e1
  split at e
  ·rename_i hf
   cases e
   refine ⟨.ok d, _, e1, fun v H' t hd => ?_⟩
   obtain ⟨ok2, s2⟩ := ok.to rfl t
   exact q _ B H' s2 (ok2.set (vS hf hd))
  ·cases e
 ·rename_i C β1 e1
  cases e
  refine ⟨.error C, _, e1, fun H' t => ?_⟩
  obtain ⟨ok2, s2⟩ := ok.to rfl t
  exact q _ B H' s2 ok2
 ·cases e
theorem lu {f : Dn -> M D} (h : PS X (.Expr e pos) (yu (tV X.K f E))) : PS X (.Expr e pos) (tG X.K X.H₀ (dz f) E) := h.imp fun D σ H h_ => by
 obtain ⟨B, bg, δ, β, o, β', ok, e, q⟩ := h_
 refine ⟨FxA B bg, vwA δ, β, ok.frA, ok.viewA, ?_⟩
 unfold dz at e
 split at e
 ·rename_i d β1 e1
  cases e
  refine ⟨.ok d, _, e1, fun v H' t hd => ?_⟩
  obtain ⟨ok2, s2⟩ := ok.to rfl t
  exact q _ B H' s2 ok2
 ·rename_i C β1 e1
  cases e
  refine ⟨.error C, _, e1, fun H' t => ?_⟩
  obtain ⟨ok2, s2⟩ := ok.to rfl t
  exact q _ B H' s2 ok2
 ·cases e
def ft (B : Ow) : Ow := fun a => if B a = some 0 \/ B a = some 1 then B a else none
theorem A6 {B : Ow} {bg : Option (Addr × Addr)} {H : Hp} : Tr (FxA B bg) H (FxB (ft B) bg) H := ⟨fun a h _ z => by
 have z' : ft B a ≠ none := z
 unfold ft at z'
 split at z'
 ·rename_i q; exact h q
 ·exact z' rfl, fun _ _ _ h => h, rfl⟩
theorem vF {B : Ow} {H : Hp} : Stp B H (ft B) H := ⟨fun _ _ h _ => h, fun a h => by unfold ft; rw [if_pos h], fun a o h n => by unfold ft; rw [n]; simp, fun _ h => h⟩
theorem aM {f : Dn -> M D} (h : PS X (.Return (some e) pos) (Al (tV X.K f E))) : PS X (.Return (some e) pos) (tG X.K X.H₀ (aE f) E) := h.imp fun D σ H h_ => by
 obtain ⟨B, bg, δ, β, o, β', ok, e, q⟩ := h_
 refine ⟨FxA B bg, vwA δ, β, ok.frA, ok.viewA, ?_⟩
 unfold aE at e
 split at e
 ·rename_i d β1 e1
  cases e
  refine ⟨.ok d, _, e1, fun v H' t hd => ?_⟩
  obtain ⟨ok2, s2⟩ := ok.to rfl t
  refine q _ (ft B) H' (s2.trans vF) ⟨fun a ha => ok2.fr.occ a ?_, fun b l e => ?_, ok2.fr.bag⟩ (Den.tr A6 _ _ hd)
  ·have ha' : ft B a ≠ none := ha
   show B a ≠ none
   unfold ft at ha'
   split at ha'
   ·exact ha'
   ·exact absurd rfl ha'
  ·refine ⟨?_, ?_, (ok2.fr.bgA b l e).2.2⟩
   ·show ft B b ≠ none
    unfold ft
    rw [if_pos (.inr (ok.bgt b l e).1), (ok.bgt b l e).1]; simp
   ·show ft B l ≠ none
    unfold ft
    rw [if_pos (.inr (ok.bgt b l e).2), (ok.bgt b l e).2]; simp
 ·rename_i C β1 e1
  cases e
  refine ⟨.error C, _, e1, fun H' t => ?_⟩
  obtain ⟨ok2, s2⟩ := ok.to rfl t
  exact q _ B H' s2 ok2
 ·cases e
theorem bw {c : Expr} {a b : List Stmt} {t : Dn -> M Bool} {g h : G} (hc : PT X c (tVT X.K t E)) (ha : PSs X a (tG X.K X.H₀ g E)) (hb : PSs X b (tG X.K X.H₀ h E)) : PS X (.If c a b pos) (tG X.K X.H₀ (gIf t g h) E) := (yC hc ha hb).imp fun D σ H h_ => by
 obtain ⟨B, bg, δ, β, o, β', ok, e, q⟩ := h_
 refine ⟨FxA B bg, vwA δ, β, ok.frA, ok.viewA, ?_⟩
 unfold gIf at e
 split at e
 ·rename_i β1 e1
  refine ⟨.ok true, _, e1, fun v H' t hd => ?_⟩
  subst hd
  obtain ⟨ok2, s2⟩ := ok.to rfl t
  rw [if_pos rfl]
  exact ⟨B, bg, δ, β1, o, β', ok2, e, gr.pre s2 q⟩
 ·rename_i β1 e1
  refine ⟨.ok false, _, e1, fun v H' t hd => ?_⟩
  subst hd
  obtain ⟨ok2, s2⟩ := ok.to rfl t
  rw [if_neg Bool.false_ne_true]
  exact ⟨B, bg, δ, β1, o, β', ok2, e, gr.pre s2 q⟩
 ·rename_i C β1 e1
  cases e
  refine ⟨.error C, _, e1, fun H' t => ?_⟩
  obtain ⟨ok2, s2⟩ := ok.to rfl t
  exact q _ B H' s2 ok2
 ·cases e
abbrev TgS := D -> Ds -> Option Ds
abbrev j2 := List D -> Ds -> Option Ds
def oE (K : PySem.W.Frag) (g : TG) (tg : TgS) : Prop := ∀ (H₀ : Hp) (B : Ow) (bg : Option (Addr × Addr)) (H : Hp) (δ δ1 : Ds) (β : Bg) (σ : St) (d : D) (v : V) (Q : St -> Hp -> Prop), SOk K H₀ B bg H δ β σ -> Den K (FxB B bg) H d v -> tg d δ = some δ1 -> (∀ σ1, SOk K H₀ B bg H δ1 β σ1 -> Q σ1 H) -> g v σ H Q
def mh (K : PySem.W.Frag) (g : TGs) (tg : j2) : Prop := ∀ (H₀ : Hp) (B : Ow) (bg : Option (Addr × Addr)) (H : Hp) (δ δ1 : Ds) (β : Bg) (σ : St) (ds : List D) (vs : List V) (Q : St -> Hp -> Prop), SOk K H₀ B bg H δ β σ -> DenL K (FxB B bg) H ds vs -> tg ds δ = some δ1 -> (∀ σ1, SOk K H₀ B bg H δ1 β σ1 -> Q σ1 H) -> g vs σ H Q
def sgN (i : Nat) : TgS := fun d δ => some (δ.set i (some (.sh d)))
def eC : j2 := fun ds δ => match ds with
 | [] => some δ
 | _ => none
def cT (t : TgS) (u : j2) : j2 := fun ds δ => match ds with
 | [] => none
 | d :: r => (t d δ).bind fun δ1 => u r δ1
def sgT (t : j2) : TgS := fun d δ => match d with
 | .tup ds => t ds δ
 | _ => none
variable {K : PySem.W.Frag}
theorem aR {i : Nat} : oE K (eQ i) (sgN i) := fun H₀ B bg H δ δ1 β σ d v Q ok hd e k => by
 cases e
 exact k _ (ok.set hd)
theorem gu : mh K L2.gNil eC := fun H₀ B bg H δ δ1 β σ ds vs Q ok hd e k => by
 cases ds with
 | nil => cases e; exact ⟨hd, k _ ok⟩
 | cons _ _ => cases e
theorem bX {t : TG} {u : TGs} {tf : TgS} {uf : j2} (h1 : oE K t tf) (h2 : mh K u uf) : mh K (rR t u) (cT tf uf) := fun H₀ B bg H δ δ1 β σ ds vs Q ok hd e k => by
 cases ds with
 | nil => cases e
 | cons d r =>
  obtain ⟨x, xr, rfl, hx, hr⟩ := hd
  have e' : (tf d δ).bind (fun δ1 => uf r δ1) = some δ1 := e
  cases q : tf d δ with
  | none => rw [q] at e'; cases e'
  | some δ2 =>
   rw [q] at e'
   exact ⟨x, xr, rfl, h1 H₀ B bg H δ δ2 β σ d x _ ok hx q fun σ1 ok1 => h2 H₀ B bg H δ2 δ1 β σ1 r xr Q ok1 hr e' k⟩
theorem fj : ∀ ds δ δ1, eC ds δ = some δ1 -> ds.length = 0 := fun ds δ δ1 h => by
 cases ds with
 | nil => rfl
 | cons _ _ => cases h
theorem bV {t : TgS} {u : j2} {n : Nat} (h : ∀ ds δ δ1, u ds δ = some δ1 -> ds.length = n) : ∀ ds δ δ1, cT t u ds δ = some δ1 -> ds.length = n + 1 := fun ds δ δ1 e => by
 cases ds with
 | nil => cases e
 | cons d r =>
  have e' : (t d δ).bind (fun δ1 => u r δ1) = some δ1 := e
  cases q : t d δ with
  | none => rw [q] at e'; cases e'
  | some δ2 => rw [q] at e'; rw [List.length_cons, h _ _ _ e']
theorem ix {n : Nat} {t : TGs} {tf : j2} (h : mh K t tf) (hn : ∀ ds δ δ1, tf ds δ = some δ1 -> ds.length = n) : oE K (vR K n t) (sgT tf) := fun H₀ B bg H δ δ1 β σ d v Q ok hd e k => by
 cases d <;> first
  | (obtain ⟨a, xs, rfl, sq, dl⟩ := Den.sqT hd; exact ⟨a, xs, rfl, sq, by rw [← dl.length]; exact hn _ _ _ e, h H₀ B bg H δ δ1 β σ _ xs Q ok dl e k⟩)
  | cases e
def mT (f : Dn -> M D) (tg : TgS) : G := fun δ β => match f (vw δ) β with
 | some (.ok d, β1) => (tg d δ).map fun δ1 => (.nx δ1, β1)
 | some (.error C, β1) => some (.ex C δ, β1)
 | none => none
def fD (i j : Nat) (f : Dn -> M (List D)) : G := fun δ β => match f (vw δ) β with
 | some (.ok [c, d], β1) => some (.nx ((δ.set i (some (.sh c))).set j (some (.sh d))), β1)
 | some (.error C, β1) => some (.ex C δ, β1)
 | _ => none
theorem D7 {i j : Nat} {f : Dn -> M (List D)} (h : PS X st (Am i j (tVA X.K f E))) : PS X st (tG X.K X.H₀ (fD i j f) E) := h.imp fun D σ H h_ => by
 obtain ⟨B, bg, δ, β, o, β', ok, e, q⟩ := h_
 refine ⟨FxB B bg, vw δ, β, ok.fr, ok.view, ?_⟩
 unfold fD at e
 split at e
 ·rename_i c d β1 e1
  cases e
  refine ⟨.ok [c, d], _, e1, fun vs H' t hd => ?_⟩
  obtain ⟨ok2, s2⟩ := ok.to rfl t
  obtain ⟨v, w, rfl, h1, h2⟩ := DenL.two hd
  exact ⟨v, w, rfl, q _ B H' s2 ((ok2.set h1).set h2)⟩
 ·rename_i C β1 e1
  cases e
  refine ⟨.error C, _, e1, fun H' t => ?_⟩
  obtain ⟨ok2, s2⟩ := ok.to rfl t
  exact q _ B H' s2 ok2
 ·cases e
def eR (i : Nat) (op : D -> D -> Option D) (f : Dn -> M D) : G := fun δ β => match (vw δ).getD i none with
 | none => none
 | some c => match f (vw δ) β with
  | some (.ok d, β1) => (op c d).map fun z => (.nx (δ.set i (some (.sh z))), β1)
  | some (.error C, β1) => some (.ex C δ, β1)
  | none => none
theorem oq {i : Nat} {ti : TIp} {op : D -> D -> Option D} {f : Dn -> M D} (l : bj X.K ti op) (h : PS X st (At i (tV X.K f E) ti)) : PS X st (tG X.K X.H₀ (eR i op f) E) := h.imp fun D σ H h_ => by
 obtain ⟨B, bg, δ, β, o, β', ok, e, q⟩ := h_
 unfold eR at e
 split at e
 ·cases e
 ·rename_i c ec
  have ec' : (vw δ)[i]? = some (some c) := by
   rw [List.getD_eq_getElem?_getD] at ec
   cases z : (vw δ)[i]? with
   | none => rw [z] at ec; cases ec
   | some w => rw [z] at ec; simp at ec; rw [ec]
  obtain ⟨v, h1, h2⟩ := ok.view.tell i c ec'
  refine ⟨v, h1, FxB B bg, vw δ, β, ok.fr, ok.view, ?_⟩
  split at e
  ·rename_i d β1 e1
   cases q1 : op c d with
   | none => rw [q1] at e; cases e
   | some z =>
    rw [q1] at e
    cases e
    refine ⟨.ok d, _, e1, fun w H' t hd => ?_⟩
    obtain ⟨ok2, s2⟩ := ok.to rfl t
    refine l (FxB B bg) H' β' _ c d z v w t.fr (Den.tr (t.tr ok.fr) _ _ h2) hd q1 fun u H2 t2 hu => ?_
    obtain ⟨ok3, s3⟩ := ok2.to rfl t2
    exact q _ B H2 (s2.trans s3) (ok3.set hu)
  ·rename_i C β1 e1
   cases e
   refine ⟨.error C, _, e1, fun H' t => ?_⟩
   obtain ⟨ok2, s2⟩ := ok.to rfl t
   exact q _ B H' s2 ok2
  ·cases e
end
theorem Stp.tr {B B' : Ow} {H H' : Hp} {bg : Option (Addr × Addr)} (s : Stp B H B' H') : Tr (FxB B bg) H (FxB B' bg) H' :=
 ⟨fun a h hs z => by
  have hn : B a = none := by
   cases q : B a with
   | none => rfl
   | some t => exact absurd (show B a ≠ none by rw [q]; simp) h
  cases q : H a with
  | none => exact hs q
  | some o => exact z (s.nn a o q hn), fun a o h e => s.kp a o e (.inl (by
  cases q : B a with
  | none => rfl
  | some t => exact absurd (show B a ≠ none by rw [q]; simp) h)), rfl⟩
def bv (t : Dn -> M Bool) (g : G) : Nat -> G
 | 0, _, _ => none
 | n + 1, δ, β => match t (vwA δ) β with
  | some (.ok true, β1) => match g δ β1 with
   | some (.nx δ1, β2) => bv t g n δ1 β2
   | some (.ct δ1, β2) => bv t g n δ1 β2
   | some (.bk δ1, β2) => some (.nx δ1, β2)
   | r => r
  | some (.ok false, β1) => some (.nx δ, β1)
  | some (.error C, β1) => some (.ex C δ, β1)
  | none => none
theorem jY {t : Dn -> M Bool} {g : G} : ∀ {n : Nat} {δ : Ds} {β : Bg} {r : Out × Bg}, bv t g n δ β = some r -> bv t g (n + 1) δ β = some r
 | 0, _, _, _, h => by cases h
 | n + 1, δ, β, r, h => by
  have e : ∀ m, bv t g (m + 1) δ β = match t (vwA δ) β with
    | some (.ok true, β1) => match g δ β1 with
     | some (.nx δ1, β2) => bv t g m δ1 β2
     | some (.ct δ1, β2) => bv t g m δ1 β2
     | some (.bk δ1, β2) => some (.nx δ1, β2)
     | r => r
    | some (.ok false, β1) => some (.nx δ, β1)
    | some (.error C, β1) => some (.ex C δ, β1)
    | none => none := fun m => rfl
  rw [e] at h ⊢
  cases q : t (vwA δ) β with
  | none => rw [q] at h; cases h
  | some z =>
   obtain ⟨b, β1⟩ := z
   rw [q] at h
   cases b with
   | error C => exact h
   | ok b =>
    cases b with
    | false => exact h
    | true =>
     dsimp only at h ⊢
     cases q2 : g δ β1 with
     | none => rw [q2] at h; cases h
     | some y =>
      obtain ⟨o, β2⟩ := y
      rw [q2] at h
      cases o with
      | nx δ1 => exact jY h
      | ct δ1 => exact jY h
      | bk δ1 => exact h
      | rt d => exact h
      | rg d => exact h
      | ex C δ1 => exact h
theorem hZ {t : Dn -> M Bool} {g : G} {n m : Nat} {δ : Ds} {β : Bg} {r : Out × Bg} (h : bv t g n δ β = some r) (l : n <= m) : bv t g m δ β = some r := by
 induction m with
 | zero =>
  obtain rfl : n = 0 := by omega
  exact h
 | succ m ih =>
  by_cases q : n = m + 1
  ·subst q; exact h
  ·exact jY (ih (by omega))
open Classical in
noncomputable def gWh (t : Dn -> M Bool) (g : G) : G := fun δ β => if h : ∃ r n, bv t g n δ β = some r then some h.choose else none
theorem uw {t : Dn -> M Bool} {g : G} {n : Nat} {δ : Ds} {β : Bg} {r : Out × Bg} (h : bv t g n δ β = some r) : gWh t g δ β = some r := by
 have hx : ∃ r n, bv t g n δ β = some r := ⟨r, n, h⟩
 unfold gWh
 rw [dif_pos hx]
 obtain ⟨m, hm⟩ := hx.choose_spec
 have h1 := hZ h (Nat.le_max_left n m)
 have h2 := hZ hm (Nat.le_max_right n m)
 rw [h1] at h2
 rw [← Option.some.inj h2]
theorem zW {t : Dn -> M Bool} {g : G} {δ : Ds} {β : Bg} {r : Out × Bg} (h : gWh t g δ β = some r) : ∃ n, bv t g n δ β = some r := by
 unfold gWh at h
 split at h
 ·rename_i hx
  obtain ⟨m, hm⟩ := hx.choose_spec
  cases h
  exact ⟨m, hm⟩
 ·cases h
section
variable {X : Cx} {E : St -> XK} {e : Expr} {st : Stmt} {sts : List Stmt} {pos : Pos} {K : PySem.W.Frag}
theorem qm {c : Expr} {body : List Stmt} {t : Dn -> M Bool} {g : G} (hp : PassesOwn (model X.prog X.w) X.A X.env X.xe) (hc : PT X c (tVT X.K t E)) (hb : PSs X body (tG X.K X.H₀ g E)) : PS X (.While c body [] pos) (tG X.K X.H₀ (gWh t g) E) := (u7 hp hc hb).imp fun D σ H h_ => by
 obtain ⟨B, bg, δ, β, o, β', ok, e, q⟩ := h_
 obtain ⟨n, e⟩ := zW e
 refine ⟨fun m σ1 H1 => ∃ B1 δ1 β1, Stp B H B1 H1 /\ SOk X.K X.H₀ B1 bg H1 δ1 β1 σ1 /\ bv t g m δ1 β1 = some (o, β'), ⟨n, B, δ, β, Stp.refl B H, ok, e⟩, ?_⟩
 rintro m σ1 H1 ⟨B1, δ1, β1, s1, ok1, e1⟩
 refine ⟨FxA B1 bg, vwA δ1, β1, ok1.frA, ok1.viewA, ?_⟩
 cases m with
 | zero => cases e1
 | succ m =>
  unfold bv at e1
  split at e1
  ·rename_i β2 e2
   refine ⟨.ok true, _, e2, fun v H2 tt hd => ?_⟩
   subst hd
   obtain ⟨ok2, s2⟩ := ok1.to rfl tt
   rw [if_pos rfl]
   refine ⟨fun σ3 H3 => ∃ B3 δ3 β3, Stp B H B3 H3 /\ SOk X.K X.H₀ B3 bg H3 δ3 β3 σ3 /\ bv t g m δ3 β3 = some (o, β'), fun σ3 H3 ⟨B3, δ3, β3, z⟩ => ⟨m, Nat.lt_succ_self m, B3, δ3, β3, z⟩, ?_⟩
   split at e1
   ·rename_i δ3 β3 e3
    exact ⟨B1, bg, δ1, β2, .nx δ3, β3, ok2, e3, fun σ4 B4 H4 s4 ok4 => ⟨B4, δ3, β3, s1.trans (s2.trans s4), ok4, e1⟩⟩
   ·rename_i δ3 β3 e3
    exact ⟨B1, bg, δ1, β2, .ct δ3, β3, ok2, e3, fun σ4 B4 H4 s4 ok4 => ⟨B4, δ3, β3, s1.trans (s2.trans s4), ok4, e1⟩⟩
   ·rename_i δ3 β3 e3
    cases e1
    exact ⟨B1, bg, δ1, β2, .bk δ3, _, ok2, e3, fun σ4 B4 H4 s4 ok4 => q σ4 B4 H4 (s1.trans (s2.trans s4)) ok4⟩
   ·rename_i x h1 h2 h3
    refine ⟨B1, bg, δ1, β2, o, β', ok2, e1, ?_⟩
    have q2 := gr.pre (s1.trans s2) q
    cases o with
    | nx δ3 => exact absurd e1 (h1 _ _)
    | ct δ3 => exact absurd e1 (h2 _ _)
    | bk δ3 => exact absurd e1 (h3 _ _)
    | rt d => exact q2
    | rg d => exact q2
    | ex C δ3 => exact q2
  ·rename_i β2 e2
   cases e1
   refine ⟨.ok false, _, e2, fun v H2 tt hd => ?_⟩
   subst hd
   obtain ⟨ok2, s2⟩ := ok1.to rfl tt
   rw [if_neg Bool.false_ne_true]
   exact q _ B1 H2 (s1.trans s2) ok2
  ·rename_i C β2 e2
   cases e1
   refine ⟨.error C, _, e2, fun H2 tt => ?_⟩
   obtain ⟨ok2, s2⟩ := ok1.to rfl tt
   exact q _ B1 H2 (s1.trans s2) ok2
  ·cases e1
def gLp (tg : TgS) (g : G) : List D -> G
 | [], δ, β => some (.nx δ, β)
 | d :: ds, δ, β => match tg d δ with
  | none => none
  | some δ1 => match g δ1 β with
   | some (.nx δ2, β2) => gLp tg g ds δ2 β2
   | some (.ct δ2, β2) => gLp tg g ds δ2 β2
   | some (.bk δ2, β2) => some (.nx δ2, β2)
   | r => r
def bQ (it : Dn -> M (List D)) (tg : TgS) (g : G) : G := fun δ β => match it (vw δ) β with
 | some (.ok ds, β1) => gLp tg g ds δ β1
 | some (.error C, β1) => some (.ex C δ, β1)
 | none => none
theorem bJ {tgt iter : Expr} {body : List Stmt} {it : Dn -> M (List D)} {tgg : TG} {tg : TgS} {g : G} (l : oE X.K tgg tg) (h : PS X (.For tgt iter body [] pos) (Ar (iV X.K it E) tgg (tG X.K X.H₀ g E))) : PS X (.For tgt iter body [] pos) (tG X.K X.H₀ (bQ it tg g) E) := h.imp fun D σ H h_ => by
 obtain ⟨B, bg, δ, β, o, β', ok, e, q⟩ := h_
 refine ⟨FxB B bg, vw δ, β, ok.fr, ok.view, ?_⟩
 unfold bQ at e
 split at e
 ·rename_i ds β1 e1
  refine ⟨.ok ds, _, e1, fun J H1 t hJ => ?_⟩
  obtain ⟨ok1, s1⟩ := ok.to rfl t
  refine ⟨fun i m σ2 H2 => m + i = ds.length /\ ∃ B2 δ2 β2, Stp B H1 B2 H2 /\ SOk X.K X.H₀ B2 bg H2 δ2 β2 σ2 /\ gLp tg g (ds.drop i) δ2 β2 = some (o, β'), ⟨ds.length, by omega, B, δ, β1, Stp.refl B H1, ok1, e⟩, ?_⟩
  rintro i m σ2 H2 ⟨hm, B2, δ2, β2, s2, ok2, e2⟩
  obtain ⟨iy, is⟩ := hJ (FxB B2 bg) H2 β2 s2.tr ok2.fr i
  cases hi : ds[i]? with
  | none =>
   have hl : ds.length <= i := List.getElem?_eq_none_iff.mp hi
   rw [List.drop_eq_nil_of_le hl] at e2
   cases e2
   exact .inl ⟨is (by omega), q σ2 B2 H2 (s1.trans s2) ok2⟩
  | some d =>
   have hl : i < ds.length := (List.getElem?_eq_some_iff.mp hi).1
   obtain ⟨go, yl⟩ := iy d hi
   have ed : ds.drop i = d :: ds.drop (i + 1) := by
    rw [List.drop_eq_getElem_cons hl]
    congr 1
    exact Option.some.inj ((List.getElem?_eq_getElem hl).symm.trans hi)
   rw [ed] at e2
   unfold gLp at e2
   split at e2
   ·cases e2
   ·rename_i δ3 e3
    refine .inr ⟨go, fun σ9 H9 => ∃ B9 δ9 β9, Stp B H1 B9 H9 /\ SOk X.K X.H₀ B9 bg H9 δ9 β9 σ9 /\ gLp tg g (ds.drop (i + 1)) δ9 β9 = some (o, β'), fun σ9 H9 ⟨B9, δ9, β9, z1, z2, z3⟩ => ⟨m - 1, by omega, by omega, B9, δ9, β9, z1, z2, z3⟩, fun x H3 hy => ?_⟩
    obtain ⟨sm, dx⟩ := yl x H3 hy
    obtain ⟨ok3, s3⟩ := ok2.to rfl (ok2.fr.same sm)
    refine l X.H₀ B2 bg H3 δ2 δ3 β2 σ2 d x _ ok3 dx e3 fun σ4 ok4 => ?_
    have s23 := s2.trans s3
    split at e2
    ·rename_i δ5 β5 e5
     exact ⟨B2, bg, δ3, β2, .nx δ5, β5, ok4, e5, fun σ6 B6 H6 s6 ok6 => ⟨B6, δ5, β5, s23.trans s6, ok6, e2⟩⟩
    ·rename_i δ5 β5 e5
     exact ⟨B2, bg, δ3, β2, .ct δ5, β5, ok4, e5, fun σ6 B6 H6 s6 ok6 => ⟨B6, δ5, β5, s23.trans s6, ok6, e2⟩⟩
    ·rename_i δ5 β5 e5
     cases e2
     exact ⟨B2, bg, δ3, β2, .bk δ5, _, ok4, e5, fun σ6 B6 H6 s6 ok6 => q σ6 B6 H6 (s1.trans (s23.trans s6)) ok6⟩
    ·rename_i x h1 h2 h3
     refine ⟨B2, bg, δ3, β2, o, β', ok4, e2, ?_⟩
     have q2 := gr.pre (s1.trans s23) q
     cases o with
     | nx δ5 => exact absurd e2 (h1 _ _)
     | ct δ5 => exact absurd e2 (h2 _ _)
     | bk δ5 => exact absurd e2 (h3 _ _)
     | rt d => exact q2
     | rg d => exact q2
     | ex C δ5 => exact q2
 ·rename_i C β1 e1
  cases e
  refine ⟨.error C, _, e1, fun H' t => ?_⟩
  obtain ⟨ok2, s2⟩ := ok.to rfl t
  exact q _ B H' s2 ok2
 ·cases e
theorem jT {α : Type} {δ : List (Option α)} {i : Nat} {s : α} (h : δ.getD i none = some s) : δ[i]? = some (some s) := by
 rw [List.getD_eq_getElem?_getD] at h
 cases z : δ[i]? with
 | none => rw [z] at h; cases h
 | some w => rw [z] at h; simp at h; rw [h]
def stD (n : Nat) (ds : List D) : Ds := ds.map (fun d => some (Sl.sh d)) ++ List.replicate (n - ds.length) none
def aK (n : Nat) (g : G) : List D -> M D := fun ds β => match g (stD n ds) β with
 | some (.rt d, β') => some (.ok d, β')
 | some (.nx _, β') => some (.ok .non, β')
 | some (.ex C _, β') => some (.error C, β')
 | _ => none
theorem tL {F : Fx} {H : Hp} {β : Bg} {ds : List D} {vs : List V} {N : List Str} (fr : Fr F H β) (hd : DenL K F H ds vs) : ∃ B, SOk K H B F.bg H (stD N.length ds) β (dQ N vs) /\ (∀ a, F.A a -> B a = some 0 \/ B a = some 1) /\ (∀ a, B a = some 1 -> ∃ b l, F.bg = some (b, l) /\ (a = b \/ a = l)) /\ (∀ a, B a ≠ none -> F.A a) := by
 classical
 refine ⟨fun a => if F.A a then (if ∃ b l, F.bg = some (b, l) /\ (a = b \/ a = l) then some 1 else some 0) else none, ⟨⟨fun a ha => fr.occ a ?_, fun b l e => ?_, fr.bag⟩, fun b l e => ?_, ?_, fun _ h => h, fun c k hc => (by
  have hc' : (if F.A c then (if ∃ b l, F.bg = some (b, l) /\ (c = b \/ c = l) then some 1 else some 0) else none) = some (k + 2) := hc
  split at hc'
  ·split at hc' <;> cases hc'
  ·cases hc'), fun c k hc => (by
  have hc' : (if F.A c then (if ∃ b l, F.bg = some (b, l) /\ (c = b \/ c = l) then some 1 else some 0) else none) = some (k + 2) := hc
  split at hc'
  ·split at hc' <;> cases hc'
  ·cases hc'), fun i s e => ?_⟩, fun a ha => ?_, fun a ha => ?_, fun a ha => ?_⟩
 ·have ha' : (if F.A a then (if ∃ b l, F.bg = some (b, l) /\ (a = b \/ a = l) then some 1 else some 0) else none) ≠ (none : Option Nat) := ha
  split at ha'
  ·assumption
  ·exact absurd rfl ha'
 ·obtain ⟨a1, a2, a3⟩ := fr.bgA b l e
  refine ⟨?_, ?_, a3⟩
  ·show (if F.A b then (if ∃ b' l, F.bg = some (b', l) /\ (b = b' \/ b = l) then some 1 else some 0) else none) ≠ (none : Option Nat)
   rw [if_pos a1]; split <;> simp
  ·show (if F.A l then (if ∃ b' l', F.bg = some (b', l') /\ (l = b' \/ l = l') then some 1 else some 0) else none) ≠ (none : Option Nat)
   rw [if_pos a2]; split <;> simp
 ·obtain ⟨a1, a2, a3⟩ := fr.bgA b l e
  exact ⟨by rw [if_pos a1, if_pos ⟨b, l, e, .inl rfl⟩], by rw [if_pos a2, if_pos ⟨b, l, e, .inr rfl⟩]⟩
 ·unfold stD dQ
  rw [List.length_append, List.length_append, List.length_map, List.length_map, List.length_replicate, List.length_replicate, hd.length]
 ·unfold stD at e
  unfold dQ
  rw [List.getElem?_append, List.length_map] at e
  rw [List.getElem?_append, List.length_map, ← hd.length]
  by_cases hi : i < ds.length
  ·rw [if_pos hi, List.getElem?_map] at e
   rw [if_pos hi, List.getElem?_map]
   cases z : ds[i]? with
   | none => rw [z] at e; cases e
   | some d =>
    rw [z] at e
    cases e
    obtain ⟨v, h1, h2⟩ := hd.get z
    refine ⟨v, by rw [h1]; rfl, ?_⟩
    have tr0 : Tr F H (FxB (fun a => if F.A a then (if ∃ b l, F.bg = some (b, l) /\ (a = b \/ a = l) then some 1 else some 0) else none) F.bg) H := by
     refine ⟨fun a ha _ z' => ?_, fun _ _ _ h => h, rfl⟩
     have z2 : (if F.A a then (if ∃ b l, F.bg = some (b, l) /\ (a = b \/ a = l) then some 1 else some 0) else none) ≠ (none : Option Nat) := z'
     rw [if_neg ha] at z2
     exact z2 rfl
    exact Den.tr tr0 _ _ h2
  ·rw [if_neg hi, List.getElem?_replicate] at e
   split at e <;> cases e
 ·simp only [if_pos ha]
  split
  ·exact .inr rfl
  ·exact .inl rfl
 ·simp only at ha
  split at ha
  ·split at ha
   ·assumption
   ·cases ha
  ·cases ha
 ·simp only at ha
  split at ha
  ·assumption
  ·exact absurd rfl ha
end
section
variable {P : Program} {w : World} {K : PySem.W.Frag} {mg : Str -> Option Value} {base : Heap}
theorem zY {x qual : Str} {st : Stmt} {f : Addr} {fd : FuncData} {N ps : List Str} {k : Nat} {g : G} (F : FunD K x qual st f fd) (S : FnScope N ps (aj st))
  (hbody : ∀ (cdv : Value) (A : Around) (outer : List Env) (s : Shared) (H : Hp) (E : XK), Room k (A.deeper (envOfC qual (aj st) s.heap.objs.size f cdv)) ->
   PSs (cX (CXE P w) P w K mg base N qual (aj st) f cdv A outer s H E) (cg st) (tG K H g (fun _ => E))) : FnOk P w K mg base (CXE P w) (k + 1) f fd ps (spF K ps.length (aK N.length g)) := by
 refine F.okE S (fun vs H Q E h => h.1) fun cdv A outer s H vs Q E hr h => ?_
 obtain ⟨hl, F0, ds, β, fr, hd, r, β', e, h⟩ := h
 refine ⟨_, hbody cdv A outer s H E hr, ?_⟩
 obtain ⟨B, ok, hA, h1, hn⟩ := tL (N := N) fr hd
 have toF : ∀ {B' : Ow} {H' : Hp}, Stp B H B' H' -> Fr (FxB B' F0.bg) H' β' -> To F0 H H' β' /\ Tr (FxB B' F0.bg) H' F0 H' := fun {B' H'} s fr' => by
  have hs : ∀ a, F0.A a -> B' a ≠ none := fun a ha => by
   rw [s.tg a (hA a ha)]
   rcases hA a ha with z | z <;> rw [z] <;> simp
  refine ⟨⟨fun a o ha n => s.kp a o ha ?_, fun a ha => fr'.occ a (hs a ha), fun b l e => fr.bgA b l e, fr'.bag⟩, fun a ha _ z => ha (hs a z), fun _ _ _ h => h, rfl⟩
  cases q : B a with
  | none => exact .inl rfl
  | some t =>
   have := hA a (hn a (by rw [q]; simp))
   rcases this with z | z
   ·rw [q] at z; exact .inr z
   ·obtain ⟨b, l, e, w⟩ := h1 a z
    obtain ⟨n1, n2⟩ := n b l e
    rcases w with w | w
    ·exact absurd w n1
    ·exact absurd w n2
 unfold aK at e
 split at e
 ·rename_i d β1 e1
  cases e
  refine ⟨B, F0.bg, stD N.length ds, β, .rt d, β', ok, e1, fun v B' H' s fr' hv => ?_⟩
  obtain ⟨t1, t2⟩ := toF s fr'
  exact h v H' t1 (Den.tr t2 _ _ hv)
 ·rename_i δ' β1 e1
  cases e
  refine ⟨B, F0.bg, stD N.length ds, β, .nx δ', β', ok, e1, fun σ' B' H' s ok' => ?_⟩
  obtain ⟨t1, t2⟩ := toF s ok'.fr
  exact h _ H' t1 rfl
 ·rename_i C δ' β1 e1
  cases e
  refine ⟨B, F0.bg, stD N.length ds, β, .ex C δ', β', ok, e1, fun σ' B' H' s ok' => ?_⟩
  obtain ⟨t1, t2⟩ := toF s ok'.fr
  exact h H' t1
 ·cases e
end
section
variable {prog : Program} {w : World} {A : Around}
theorem Ex (hh : A.handled = none) (it t : Addr) (ne : t ≠ it) (items : Array Value) : Draws prog w A it [it, t] items.size (fun i v => items[i]? = some v) (fun i h => h.IsTupleIter it t i /\ h.IsTuple t items) where
 live := fun _ _ st => let ⟨o, e, _⟩ := st.1; ⟨o, e⟩
 frame := fun _ _ _ st k => ⟨st.1.at fun o e => k it (by simp) o e, by
  obtain ⟨o, e, r⟩ := st.2
  exact ⟨o, k t (by simp) o e, r⟩⟩
 item := fun i s Q E hi st hQ => by
  obtain ⟨o, eo, co, dq⟩ := id st.1
  obtain ⟨ot, et, _, nt, dt⟩ := st.2
  have hx : items[i]? = some items[i] := by simp [hi]
  unfold Builtin.SmallTypes.nextOf; refine wpAny_bind (wpAny_callSpecial?_slot (name := Str.ofString "__next__") st.1.typeIs F.slot_tuple_iterator_next (wpAny_call_entry F.slot_tuple_iterator_next st.1.typeIs F.entry_tuple_iterator_next ?_ (F.args_tuple_iterator_next_1 _)))
  show wpAny _ _ (field (.ref it) 0 >>= _) _ _ _; refine wpAny_bind (wpAny_field eo dq (x := .ref t) rfl ?_)
  show wpAny _ _ (if (Value.ref t == Value.none) = true then _ else _) _ _ _; rw [if_neg (show ¬ ((Value.ref t == Value.none) = true) from Bool.false_ne_true)]
  show wpAny _ _ (field (.ref it) 1 >>= _) _ _ _; refine wpAny_bind (wpAny_field eo dq (x := .int i 0) rfl ?_)
  show wpAny _ _ (seqItems? (.ref t) >>= _) _ _ _; refine wpAny_bind (wpAny_seqItems et dt ?_)
  simp only [Int.toNat_natCast, hx]; refine wpAny_bind (wpAny_setField eo dq (by simp) (wpAny_pure ⟨items[i], rfl, wpAny_pure (hQ _ _ s.toks hx ⟨?_, ?_⟩ (Heap.SameBut.update ..))⟩))
  ·exact ⟨_, Heap.get?_update_self _ eo (Obj.isFreed_of_fields (Obj.data_mapFields dq _)), (Obj.cls_mapFields ..).trans co, by rw [Obj.data_mapFields dq]; simp [rawInt]⟩
  ·exact ⟨ot, (Heap.SameBut.update ..).extBut _ _ ne et, by assumption, nt, dt⟩
 done := fun s Q E st hE => by
  obtain ⟨o, eo, co, dq⟩ := id st.1
  obtain ⟨ot, et, _, nt, dt⟩ := st.2
  have hx : items[items.size]? = none := by simp
  unfold Builtin.SmallTypes.nextOf; refine wpAny_bind (wpAny_callSpecial?_slot (name := Str.ofString "__next__") st.1.typeIs F.slot_tuple_iterator_next (wpAny_call_entry F.slot_tuple_iterator_next st.1.typeIs F.entry_tuple_iterator_next ?_ (F.args_tuple_iterator_next_1 _)))
  show wpAny _ _ (field (.ref it) 0 >>= _) _ _ _; refine wpAny_bind (wpAny_field eo dq (x := .ref t) rfl ?_)
  show wpAny _ _ (if (Value.ref t == Value.none) = true then _ else _) _ _ _; rw [if_neg (show ¬ ((Value.ref t == Value.none) = true) from Bool.false_ne_true)]
  show wpAny _ _ (field (.ref it) 1 >>= _) _ _ _; refine wpAny_bind (wpAny_field eo dq (x := .int items.size 0) rfl ?_)
  show wpAny _ _ (seqItems? (.ref t) >>= _) _ _ _; refine wpAny_bind (wpAny_seqItems et dt ?_)
  simp only [Int.toNat_natCast, hx]; refine wpAny_bind (wpAny_rule (wpAny_bind (wpAny_setField eo dq (by simp) ?_)))
  show wpAny _ _ (newExc (.type "StopIteration") [] >>= _) _ _ _; refine wpAny_bind ?_
  simp only [newExc, newTuple]; refine wpAny_bind (wpAny_newObj_type ?_ (by size_fits))
  refine wpAny_bind (m := firstArgMember _ _) (wpAny_of_eq (a := Value.none) (by first | rfl | (simp only [firstArgMember]; rfl)) ?_); refine wpAny_newObj_type ?_ (by size_fits)
  simp only [raiseNew]; refine wpAny_bind (wpAny_handled ?_)
  first | rw [show A.in1.handled = none from hh] | rw [hh]; skip
  refine wpAny_bind (wpAny_pure (wpAny_throw ?_)); exact hE _ _ (((Heap.SameBut.update ..).extBut.push _).push _) ⟨_, Heap.get?_push_size _ rfl, rfl⟩
end
structure Ap (z TI TO i1 i2 : Addr) (f1 f2 : List Addr) : Prop where
 a1 : TI ≠ z
 a2 : TO ≠ z
 a3 : i1 ≠ z
 a4 : i2 ≠ z
 a5 : TI ≠ TO
 a6 : TI ≠ i1
 a7 : TI ≠ i2
 a8 : TO ≠ i1
 a9 : TO ≠ i2
 b1 : i1 ≠ i2
 c1 : z ∉ f1
 c2 : TO ∉ f1
 c3 : i2 ∉ f1
 d1 : z ∉ f2
 d2 : TO ∉ f2
 d3 : i1 ∉ f2
 m1 : i1 ∈ f1
 m2 : i2 ∈ f2
section
variable {prog : Program} {w : World} {A : Around} {E : Value -> Shared -> Prop} {s : Shared}
theorem bO {it : Addr} {f : List Addr} {h h' : Heap} (sb : Heap.SameBut it h h') (n : it ∉ f) : ∀ b ∈ f, ∀ o, h.get? b = some o -> h'.get? b = some o := fun b hb o e => sb.extBut b o (fun q => n (q ▸ hb)) e
theorem sV {z TI TO i1 i2 : Addr} {f1 f2 : List Addr} {n1 n2 k : Nat} {P1 P2 : Nat -> Value -> Prop} {S1 S2 : Nat -> Heap -> Prop} {a b : Value} {Q : Value -> Shared -> Prop} (D1 : Draws prog w A i1 f1 n1 P1 S1) (D2 : Draws prog w A i2 f2 n2 P2 S2) (ap : Ap z TI TO i1 i2 f1 f2)
  (ez : IsZip s.heap z TI TO .none) (eI : IsPair s.heap TI (.ref i1) (.ref i2)) (eO : IsPair s.heap TO a b) (s1 : S1 k s.heap) (s2 : S2 k s.heap) (k1 : k < n1) (k2 : k < n2)
  (hQ : ∀ h' tk x y, P1 k x -> P2 k y -> IsZip h' z TI TO (rawInt s.heap.objs.size) -> IsPair h' TO x y -> S1 (k + 1) h' -> S2 (k + 1) h' -> IsPair h' s.heap.objs.size x y -> h'.objs.size = s.heap.objs.size + 1 -> (∀ c o, c ≠ z -> c ≠ TO -> c ≠ i1 -> c ≠ i2 -> s.heap.get? c = some o -> h'.get? c = some o) -> Q (.ref s.heap.objs.size) { s with heap := h', toks := tk }) :
  wpAny (model prog w) A (Builtin.«zip.__next__» ⟨[.ref z], []⟩) (fun fin s' => ∃ v, fin = .done (.ret v) /\ Q v s') E s := by
 obtain ⟨hp, gg, dd, tk0, os⟩ := s
 show wpAny _ _ (field (.ref z) 2 >>= _) _ _ _; refine wpAny_bind (wpAny_field ez rfl (x := .bool false) rfl ?_)
 show wpAny _ _ (field (.ref z) 3 >>= _) _ _ _; refine wpAny_bind (wpAny_field ez rfl (x := .ref TI) rfl ?_)
 refine wpAny_bind (wpAny_seqItems eI rfl ?_)
 show wpAny _ _ (Builtin.SmallTypes.ownedTupleIsFree (.ref z) >>= _) _ _ _; refine wpAny_bind ?_
 unfold Builtin.SmallTypes.ownedTupleIsFree; refine wpAny_bind (wpAny_field ez rfl (x := .none) rfl (wpAny_pure ?_))
 simp only [if_true]; refine wpAny_bind (wpAny_rule ?_)
 refine wpAny_bind (wpAny_field ez rfl (x := .ref TO) rfl ?_)
 refine wpAny_bind (wpAny_setField_rec ez (by simp) fun g1 ez1 sb1 => ?_)
 replace ez1 : IsZip g1 z TI TO .ellipsis := ez1
 replace sb1 : Heap.SameBut z hp g1 := sb1
 refine wpAny_bind ?_
 simp only [List.zipIdx_cons, List.zipIdx_nil, List.forIn_cons, List.forIn_nil]; refine wpAny_bind (wpAny_bind (wpAny_onRaise ?_))
 show wpAny _ _ (Builtin.SmallTypes.nextOf (.ref i1) >>= _) _ _ _; refine wpAny_bind (D1.item k _ _ _ k1 (D1.frame _ _ _ s1 (bO sb1 ap.c1)) fun x g2 tk2 px st2 sb2 => wpAny_pure ?_)
 replace sb2 : Heap.SameBut i1 g1 g2 := sb2
 have eO2 : IsPair g2 TO a b := sb2.extBut _ _ ap.a8 (sb1.extBut _ _ ap.a2 eO)
 refine wpAny_bind (wpAny_seqItems eO2 rfl ?_); refine wpAny_bind (wpAny_updateSeq_pair eO2 fun g3 eO3 sb3 => ?_)
 replace eO3 : IsPair g3 TO x b := eO3
 replace sb3 : Heap.SameBut TO g2 g3 := sb3
 refine wpAny_bind (wpAny_letGo (wpAny_pure ?_)); refine wpAny_bind (wpAny_bind (wpAny_onRaise ?_))
 show wpAny _ _ (Builtin.SmallTypes.nextOf (.ref i2) >>= _) _ _ _; refine wpAny_bind (D2.item k _ _ _ k2 (D2.frame _ _ _ (D2.frame _ _ _ (D2.frame _ _ _ s2 (bO sb1 ap.d1)) (bO sb2 ap.d3)) (bO sb3 ap.d2)) fun y g4 tk4 py st4 sb4 => wpAny_pure ?_)
 replace sb4 : Heap.SameBut i2 g3 g4 := sb4
 have eO4 : IsPair g4 TO x b := sb4.extBut _ _ ap.a9 eO3
 refine wpAny_bind (wpAny_seqItems eO4 rfl ?_); refine wpAny_bind (wpAny_updateSeq_pair eO4 fun g5 eO5 sb5 => ?_)
 replace eO5 : IsPair g5 TO x y := eO5
 replace sb5 : Heap.SameBut TO g4 g5 := sb5
 refine wpAny_bind (wpAny_letGo (wpAny_pure (wpAny_pure ?_))); refine wpAny_bind (wpAny_seqItems eO5 rfl ?_)
 refine wpAny_bind (wpAny_newTuple ?_)
 have zs : g5.objs.size = hp.objs.size := by rw [sb5.1, sb4.1, sb3.1, sb2.1, sb1.1]
 have ez5 : IsZip g5 z TI TO .ellipsis := sb5.extBut _ _ ap.a2.symm (sb4.extBut _ _ ap.a4.symm (sb3.extBut _ _ ap.a2.symm (sb2.extBut _ _ ap.a3.symm ez1)))
 have kp5 : ∀ c o, c ≠ z -> c ≠ TO -> c ≠ i1 -> c ≠ i2 -> hp.get? c = some o -> g5.get? c = some o := fun c o n1 n2 n3 n4 e => sb5.extBut _ _ n2 (sb4.extBut _ _ n4 (sb3.extBut _ _ n2 (sb2.extBut _ _ n3 (sb1.extBut _ _ n1 e))))
 have st1 : S1 (k + 1) g5 := D1.frame _ _ _ (D1.frame _ _ _ (D1.frame _ _ _ st2 (bO sb3 ap.c2)) (bO sb4 ap.c3)) (bO sb5 ap.c2)
 have st5 : S2 (k + 1) g5 := D2.frame _ _ _ st4 (bO sb5 ap.d2)
 have zl : z < g5.objs.size := Heap.lt_size ez5
 show wpAny _ _ (Builtin.SmallTypes.ownedTupleHandOut (.ref z) (.ref g5.objs.size) >>= _) _ _ _; refine wpAny_bind ?_
 unfold Builtin.SmallTypes.ownedTupleHandOut; have ez6 : IsZip (g5.push { cls := .type "tuple", data := .seq #[x, y] }) z TI TO .ellipsis := Heap.get?_push_of_some _ ez5
 refine wpAny_bind (wpAny_setField_rec ez6 (by simp) fun g7 ez7 sb7 => ?_)
 replace ez7 : IsZip g7 z TI TO (rawInt g5.objs.size) := ez7
 refine wpAny_setField_rec ez7 (by simp) fun g8 ez8 sb8 => ?_
 replace ez8 : IsZip g8 z TI TO (rawInt g5.objs.size) := ez8
 have up : ∀ c o, c ≠ z -> g5.get? c = some o -> g8.get? c = some o := fun c o n e => sb8.extBut _ _ n (sb7.extBut _ _ n (Heap.get?_push_of_some _ e))
 have eT : IsPair g8 g5.objs.size x y := sb8.extBut _ _ (Nat.ne_of_gt zl) (sb7.extBut _ _ (Nat.ne_of_gt zl) (Heap.get?_push_size _ rfl))
 have z8 : g8.objs.size = g5.objs.size + 1 := by rw [sb8.1, sb7.1, Heap.size_push]
 rw [zs] at ez8 eT z8; refine wpAny_pure ⟨_, rfl, ?_⟩
 show Q (.ref g5.objs.size) ⟨g8, gg, dd, _, os⟩
 rw [zs]; exact hQ g8 _ x y px py ez8 (up _ _ ap.a2 eO5) (D1.frame _ _ _ st1 fun b hb o e => up b o (fun q => ap.c1 (q ▸ hb)) e) (D2.frame _ _ _ st5 fun b hb o e => up b o (fun q => ap.d1 (q ▸ hb)) e) eT z8 fun c o n1 n2 n3 n4 e => up c o n1 (kp5 c o n1 n2 n3 n4 e)
theorem uQ {z TI TO i1 i2 : Addr} {f1 f2 : List Addr} {n1 n2 k : Nat} {P1 P2 : Nat -> Value -> Prop} {S1 S2 : Nat -> Heap -> Prop} {a b : Value} {Q : Fin -> Shared -> Prop} (D1 : Draws prog w A i1 f1 n1 P1 S1) (D2 : Draws prog w A i2 f2 n2 P2 S2) (ap : Ap z TI TO i1 i2 f1 f2)
  (ez : IsZip s.heap z TI TO .none) (eI : IsPair s.heap TI (.ref i1) (.ref i2)) (eO : IsPair s.heap TO a b) (s1 : S1 k s.heap) (s2 : S2 k s.heap) (k1 : k = n1 \/ (k < n1 /\ k = n2))
  (hE : ∀ h' e tk, (∀ c o, c ≠ z -> c ≠ TO -> c ≠ i1 -> c ≠ i2 -> s.heap.get? c = some o -> h'.get? c = some o) -> (∃ o, h'.get? e = some o /\ o.cls = .type "StopIteration") -> E (.ref e) { s with heap := h', toks := tk }) :
  wpAny (model prog w) A (Builtin.«zip.__next__» ⟨[.ref z], []⟩) Q E s := by
 obtain ⟨hp, gg, dd, tk0, os⟩ := s
 show wpAny _ _ (field (.ref z) 2 >>= _) _ _ _; refine wpAny_bind (wpAny_field ez rfl (x := .bool false) rfl ?_)
 show wpAny _ _ (field (.ref z) 3 >>= _) _ _ _; refine wpAny_bind (wpAny_field ez rfl (x := .ref TI) rfl ?_)
 refine wpAny_bind (wpAny_seqItems eI rfl ?_)
 show wpAny _ _ (Builtin.SmallTypes.ownedTupleIsFree (.ref z) >>= _) _ _ _; refine wpAny_bind ?_
 unfold Builtin.SmallTypes.ownedTupleIsFree; refine wpAny_bind (wpAny_field ez rfl (x := .none) rfl (wpAny_pure ?_))
 simp only [if_true]; refine wpAny_bind (wpAny_rule ?_)
 refine wpAny_bind (wpAny_field ez rfl (x := .ref TO) rfl ?_)
 refine wpAny_bind (wpAny_setField_rec ez (by simp) fun g1 ez1 sb1 => ?_)
 replace ez1 : IsZip g1 z TI TO .ellipsis := ez1
 replace sb1 : Heap.SameBut z hp g1 := sb1
 refine wpAny_bind ?_
 simp only [List.zipIdx_cons, List.zipIdx_nil, List.forIn_cons, List.forIn_nil]; refine wpAny_bind (wpAny_bind (wpAny_onRaise ?_))
 show wpAny _ _ (Builtin.SmallTypes.nextOf (.ref i1) >>= _) _ _ _
 rcases k1 with rfl | ⟨k1, rfl⟩
 ·refine wpAny_bind (D1.done _ _ _ (D1.frame _ _ _ s1 (bO sb1 ap.c1)) fun g2 e sb2 he => ?_)
  replace sb2 : Heap.ExtBut i1 g1 g2 := sb2
  obtain ⟨oe, eoe, ce⟩ := he
  have ez2 : IsZip g2 z TI TO .ellipsis := sb2 _ _ ap.a3.symm ez1
  have nez : e ≠ z := fun q => by subst q; rw [ez2] at eoe; cases eoe; simp at ce
  exact wpAny_setField_rec ez2 (by simp) fun g3 _ sb3 => hE g3 e _ (fun c o n1 _ n3 _ q => sb3.extBut _ _ n1 (sb2 _ _ n3 (sb1.extBut _ _ n1 q))) ⟨oe, sb3.extBut _ _ nez eoe, ce⟩
 ·refine wpAny_bind (D1.item k _ _ _ k1 (D1.frame _ _ _ s1 (bO sb1 ap.c1)) fun x g2 tk2 px st2 sb2 => wpAny_pure ?_)
  replace sb2 : Heap.SameBut i1 g1 g2 := sb2
  have eO2 : IsPair g2 TO a b := sb2.extBut _ _ ap.a8 (sb1.extBut _ _ ap.a2 eO)
  refine wpAny_bind (wpAny_seqItems eO2 rfl ?_); refine wpAny_bind (wpAny_updateSeq_pair eO2 fun g3 eO3 sb3 => ?_)
  replace sb3 : Heap.SameBut TO g2 g3 := sb3
  refine wpAny_bind (wpAny_letGo (wpAny_pure ?_)); refine wpAny_bind (wpAny_bind (wpAny_onRaise ?_))
  show wpAny _ _ (Builtin.SmallTypes.nextOf (.ref i2) >>= _) _ _ _; refine wpAny_bind (D2.done _ _ _ (D2.frame _ _ _ (D2.frame _ _ _ (D2.frame _ _ _ s2 (bO sb1 ap.d1)) (bO sb2 ap.d3)) (bO sb3 ap.d2)) fun g4 e sb4 he => ?_)
  replace sb4 : Heap.ExtBut i2 g3 g4 := sb4
  obtain ⟨oe, eoe, ce⟩ := he
  have ez4 : IsZip g4 z TI TO .ellipsis := sb4 _ _ ap.a4.symm (sb3.extBut _ _ ap.a2.symm (sb2.extBut _ _ ap.a3.symm ez1))
  have nez : e ≠ z := fun q => by subst q; rw [ez4] at eoe; cases eoe; simp at ce
  exact wpAny_setField_rec ez4 (by simp) fun g5 _ sb5 => hE g5 e _ (fun c o n1 n2 n3 n4 q => sb5.extBut _ _ n1 (sb4 _ _ n4 (sb3.extBut _ _ n2 (sb2.extBut _ _ n3 (sb1.extBut _ _ n1 q))))) ⟨oe, sb5.extBut _ _ nez eoe, ce⟩
theorem sU {z TI TO i1 i2 : Addr} {f1 f2 : List Addr} {n1 n2 k : Nat} {P1 P2 : Nat -> Value -> Prop} {S1 S2 : Nat -> Heap -> Prop} {a b : Value} {Q : Option Value -> Shared -> Prop} (D1 : ∀ A' : Around, A'.handled = A.handled -> Draws prog w A' i1 f1 n1 P1 S1) (D2 : ∀ A' : Around, A'.handled = A.handled -> Draws prog w A' i2 f2 n2 P2 S2) (ap : Ap z TI TO i1 i2 f1 f2)
  (ez : IsZip s.heap z TI TO .none) (eI : IsPair s.heap TI (.ref i1) (.ref i2)) (eO : IsPair s.heap TO a b) (s1 : S1 k s.heap) (s2 : S2 k s.heap) (k1 : k < n1) (k2 : k < n2)
  (hQ : ∀ h' tk x y, P1 k x -> P2 k y -> IsZip h' z TI TO (rawInt s.heap.objs.size) -> IsPair h' TO x y -> S1 (k + 1) h' -> S2 (k + 1) h' -> IsPair h' s.heap.objs.size x y -> h'.objs.size = s.heap.objs.size + 1 -> (∀ c o, c ≠ z -> c ≠ TO -> c ≠ i1 -> c ≠ i2 -> s.heap.get? c = some o -> h'.get? c = some o) -> Q (some (.ref s.heap.objs.size)) { s with heap := h', toks := tk }) :
  wpAny (model prog w) A (pyNext (.ref z)) Q E s := by
 have ty : s.TypeIs (.ref z) "zip" := ⟨_, ez, rfl⟩
 unfold pyNext; exact wpAny_bind (wpAny_attempt (wpAny_callSpecial?_slot (name := Str.ofString "__next__") ty F.slot_zip_next (wpAny_call_entry F.slot_zip_next ty F.entry_zip_next (sV (D1 _ rfl) (D2 _ rfl) ap ez eI eO s1 s2 k1 k2 fun h' tk x y a1 a2 a3 a4 a5 a6 a7 a8 a9 => wpAny_pure (hQ h' tk x y a1 a2 a3 a4 a5 a6 a7 a8 a9)) (F.args_zip_next_1 _))))
theorem uP {z TI TO i1 i2 : Addr} {f1 f2 : List Addr} {n1 n2 k : Nat} {P1 P2 : Nat -> Value -> Prop} {S1 S2 : Nat -> Heap -> Prop} {a b : Value} {Q : Option Value -> Shared -> Prop} (D1 : ∀ A' : Around, A'.handled = A.handled -> Draws prog w A' i1 f1 n1 P1 S1) (D2 : ∀ A' : Around, A'.handled = A.handled -> Draws prog w A' i2 f2 n2 P2 S2) (ap : Ap z TI TO i1 i2 f1 f2)
  (ez : IsZip s.heap z TI TO .none) (eI : IsPair s.heap TI (.ref i1) (.ref i2)) (eO : IsPair s.heap TO a b) (s1 : S1 k s.heap) (s2 : S2 k s.heap) (k1 : k = n1 \/ (k < n1 /\ k = n2))
  (hQ : ∀ h' tk, (∀ c o, c ≠ z -> c ≠ TO -> c ≠ i1 -> c ≠ i2 -> s.heap.get? c = some o -> h'.get? c = some o) -> Q none { s with heap := h', toks := tk }) : wpAny (model prog w) A (pyNext (.ref z)) Q E s := by
 have ty : s.TypeIs (.ref z) "zip" := ⟨_, ez, rfl⟩
 unfold pyNext; refine wpAny_bind (wpAny_attempt (wpAny_callSpecial?_slot (name := Str.ofString "__next__") ty F.slot_zip_next (wpAny_call_entry F.slot_zip_next ty F.entry_zip_next (uQ (D1 _ rfl) (D2 _ rfl) ap ez eI eO s1 s2 k1 fun h' e tk hk he => ?_) (F.args_zip_next_1 _))))
 obtain ⟨o, eo, ce⟩ := he
 refine wpAny_bind (wpAny_isInstance (T := "StopIteration") (b := true) ⟨o, eo, ce⟩ isSubtype_stop ?_); exact wpAny_pure (hQ _ _ hk)
end
def Src (b : Bool) (h : Heap) (a : Addr) (its : Array Value) : Prop := if b = true then h.IsList a its else h.IsTuple a its
def yP (b : Bool) : String := if b = true then "list_iterator" else "tuple_iterator"
abbrev lT (b : Bool) (a : Addr) : Obj := { cls := .type (yP b), data := .fields #[.ref a, .int 0 0] }
def eZ (b : Bool) (h : Heap) (it a : Addr) (k : Nat) : Prop := if b = true then h.IsListIter it a k else h.IsTupleIter it a k
section
variable {prog : Program} {w : World} {A : Around} {E : Value -> Shared -> Prop} {s : Shared}
theorem Src.keep {b : Bool} {h h' : Heap} {a : Addr} {its : Array Value} (x : Src b h a its) (k : ∀ o, h.get? a = some o -> h'.get? a = some o) : Src b h' a its := by
 unfold Src at x ⊢
 split at x
 ·rename_i q; rw [if_pos q]; exact x.at fun o e => k o e
 ·rename_i q; rw [if_neg q]
  obtain ⟨o, e, r⟩ := x
  exact ⟨o, k o e, r⟩
theorem lB {b : Bool} {a : Addr} {its : Array Value} {Q : Value -> Shared -> Prop} (x : Src b s.heap a its) (h : Q (.ref s.heap.objs.size) { s with heap := s.heap.push (lT b a) }) : wpAny (model prog w) A (pyIter (.ref a)) Q E s := by
 cases b with
 | true => exact wpAny_pyIter_list (show s.heap.IsList a its from x) h
 | false => exact wpAny_pyIter_tuple (show s.heap.IsTuple a its from x) h
theorem oB (b : Bool) (hh : A.handled = none) (it a : Addr) (ne : a ≠ it) (its : Array Value) : Draws prog w A it [it, a] its.size (fun i v => its[i]? = some v) (fun i h => eZ b h it a i /\ Src b h a its) := by
 cases b with
 | true => exact Draws.list hh it a ne its
 | false => exact Ex hh it a ne its
abbrev zH1 (b1 : Bool) (h : Heap) (l1 : Addr) : Heap := h.push (lT b1 l1)
abbrev zH2 (b1 b2 : Bool) (h : Heap) (l1 l2 : Addr) : Heap := (zH1 b1 h l1).push (lT b2 l2)
abbrev zH3 (b1 b2 : Bool) (h : Heap) (l1 l2 : Addr) : Heap := (zH2 b1 b2 h l1 l2).push { cls := .type "tuple", data := .seq #[.ref h.objs.size, .ref (zH1 b1 h l1).objs.size] }
abbrev zH4 (b1 b2 : Bool) (h : Heap) (l1 l2 : Addr) : Heap := (zH3 b1 b2 h l1 l2).push { cls := .type "tuple", data := .seq #[.none, .none] }
abbrev zH5 (b1 b2 : Bool) (h : Heap) (l1 l2 : Addr) : Heap := (zH4 b1 b2 h l1 l2).push { cls := .type "zip", data := .fields #[.none, .bool false, .bool false, .ref (zH2 b1 b2 h l1 l2).objs.size, .ref (zH3 b1 b2 h l1 l2).objs.size] }
theorem rE (b1 b2 : Bool) (l1 l2 : Addr) (xs ys : Array Value) :
  Meets (Builtin.«zip.__new__» ⟨[.type "zip", .ref l1, .ref l2], []⟩) (fun _ R s => Src b1 s.heap l1 xs /\ Src b2 s.heap l2 ys /\ R (.ok (.ret (.ref (zH4 b1 b2 s.heap l1 l2).objs.size))) { s with heap := zH5 b1 b2 s.heap l1 l2 }) :=
 .of_wp fun prog w A R s h => by
  obtain ⟨hp, g, d, tk, os⟩ := s; obtain ⟨e1, e2, q⟩ := h
  have hsub := sub_zip
  have x1 : Src b1 (Shared.heap ⟨hp, g, d, tk, os⟩) l1 xs := e1
  have x2 : Src b2 (Shared.heap ⟨hp.push (lT b1 l1), g, d, tk, os⟩) l2 ys := e2.keep fun o e => Heap.get?_push_of_some _ e
  wp_walk using lB x1, lB x2
  exact ⟨_, rfl, q⟩
theorem uI {b1 b2 : Bool} {l1 l2 : Addr} {xs ys : Array Value} {Q : Value -> Shared -> Prop} (e1 : Src b1 s.heap l1 xs) (e2 : Src b2 s.heap l2 ys)
  (h : ∀ h', IsZip h' (s.heap.objs.size + 4) (s.heap.objs.size + 2) (s.heap.objs.size + 3) .none -> IsPair h' (s.heap.objs.size + 2) (.ref s.heap.objs.size) (.ref (s.heap.objs.size + 1)) -> IsPair h' (s.heap.objs.size + 3) .none .none -> eZ b1 h' s.heap.objs.size l1 0 -> eZ b2 h' (s.heap.objs.size + 1) l2 0 -> h'.objs.size = s.heap.objs.size + 5 -> (∀ c o, s.heap.get? c = some o -> h'.get? c = some o) -> Q (.ref (s.heap.objs.size + 4)) { s with heap := h' }) :
  wpAny (model prog w) A (call (.type "zip") [.ref l1, .ref l2]) Q E s := by
 refine callType_new F.called_zip (by decide) (F.typeCall_zip_2 _ _) (F.newCall_zip_2 _ _) (fun obj => F.args_object_init_3 obj _ _) F.entry_zip_new (rE b1 b2 l1 l2 xs ys) ⟨e1, e2, ?_⟩
 have y1 : (zH1 b1 s.heap l1).objs.size = s.heap.objs.size + 1 := Heap.size_push ..
 have y2 : (zH2 b1 b2 s.heap l1 l2).objs.size = s.heap.objs.size + 2 := by rw [Heap.size_push, y1]
 have y3 : (zH3 b1 b2 s.heap l1 l2).objs.size = s.heap.objs.size + 3 := by rw [Heap.size_push, y2]
 have y4 : (zH4 b1 b2 s.heap l1 l2).objs.size = s.heap.objs.size + 4 := by rw [Heap.size_push, y3]
 have y5 : (zH5 b1 b2 s.heap l1 l2).objs.size = s.heap.objs.size + 5 := by rw [Heap.size_push, y4]
 have g5 : (zH5 b1 b2 s.heap l1 l2).get? (zH4 b1 b2 s.heap l1 l2).objs.size = some _ := Heap.get?_push_size _ rfl
 have g4 : (zH5 b1 b2 s.heap l1 l2).get? (zH3 b1 b2 s.heap l1 l2).objs.size = some _ := Heap.get?_push_of_some _ (Heap.get?_push_size _ rfl)
 have g3 : (zH5 b1 b2 s.heap l1 l2).get? (zH2 b1 b2 s.heap l1 l2).objs.size = some _ := Heap.get?_push_of_some _ (Heap.get?_push_of_some _ (Heap.get?_push_size _ rfl))
 have g2 : (zH5 b1 b2 s.heap l1 l2).get? (zH1 b1 s.heap l1).objs.size = some _ := Heap.get?_push_of_some _ (Heap.get?_push_of_some _ (Heap.get?_push_of_some _ (Heap.get?_push_size _ rfl)))
 have g1 : (zH5 b1 b2 s.heap l1 l2).get? s.heap.objs.size = some _ := Heap.get?_push_of_some _ (Heap.get?_push_of_some _ (Heap.get?_push_of_some _ (Heap.get?_push_of_some _ (Heap.get?_push_size _ rfl))))
 show _ /\ _
 rw [y2, y3, y4] at g5; rw [y1, y2] at g3; rw [y3] at g4; rw [y1] at g2; rw [y4]
 have it0 : ∀ (b : Bool) (h' : Heap) (p a : Addr), h'.get? p = some (lT b a) -> eZ b h' p a 0 := fun b h' p a e => by
  cases b with
  | true => exact ⟨_, e, rfl, rfl⟩
  | false => exact ⟨_, e, rfl, rfl⟩
 exact ⟨⟨_, g5, rfl⟩, h _ g5 g3 g4 (it0 _ _ _ _ g1) (it0 _ _ _ _ g2) y5 fun c o x => Heap.get?_push_of_some _ (Heap.get?_push_of_some _ (Heap.get?_push_of_some _ (Heap.get?_push_of_some _ (Heap.get?_push_of_some _ x))))⟩
end
def SqS (b : Bool) (K : PySem.W.Frag) (H : Hp) (a : Addr) (xs : List V) : Prop := if b = true then SqL K H a xs else SqT K H a xs
def Itz (b1 b2 : Bool) (K : PySem.W.Frag) (l1 l2 : Addr) : It :=
 ⟨fun i H => ∃ xs ys x y, SqS b1 K H l1 xs /\ SqS b2 K H l2 ys /\ xs[i]? = some x /\ ys[i]? = some y,
  fun i H v H' => ∃ p x y, H p = none /\ v = .ref p /\ H' = upd H p (.tup [x, y]) /\ ∀ xs ys, SqS b1 K H l1 xs -> SqS b2 K H l2 ys -> xs[i]? = some x /\ ys[i]? = some y,
  fun i H => ∃ xs ys, SqS b1 K H l1 xs /\ SqS b2 K H l2 ys /\ (xs.length = i \/ (i < xs.length /\ ys.length = i))⟩
section
variable {X : Cx} {pins : List (Addr × Obj)} {σ : St} {H : Hp} {s : Shared}
theorem Inv.src {b : Bool} {a : Addr} {xs : List V} (I : Inv X pins σ H s) (h : SqS b X.K H a xs) : ∃ its : List Value, ay xs its /\ Src b s.heap a its.toArray := by
 cases b with
 | true =>
  obtain ⟨its, r, p, _⟩ := I.list (show SqL X.K H a xs from h)
  exact ⟨its, r, p.isList⟩
 | false =>
  obtain ⟨its, r, p, _⟩ := I.tuple (show SqT X.K H a xs from h)
  exact ⟨its, r, p⟩
theorem Inv.src_inj {b : Bool} {a : Addr} {xs ys : List V} (I : Inv X pins σ H s) (h : SqS b X.K H a xs) (h' : SqS b X.K H a ys) : xs = ys := by
 cases b with
 | true => exact I.list_inj (show SqL X.K H a xs from h) h'
 | false => exact I.tuple_inj (show SqT X.K H a xs from h) h'
theorem eZ.get {b : Bool} {h : Heap} {it a : Addr} {k : Nat} (x : eZ b h it a k) : ∃ o, h.get? it = some o /\ o.cls = .type (yP b) /\ ∃ fs, o.data = .fields fs := by
 cases b with
 | true => obtain ⟨o, e, c, d⟩ := (show h.IsListIter it a k from x); exact ⟨o, e, c, _, d⟩
 | false => obtain ⟨o, e, c, d⟩ := (show h.IsTupleIter it a k from x); exact ⟨o, e, c, _, d⟩
theorem eZ.keep {b : Bool} {h h' : Heap} {it a : Addr} {k : Nat} (x : eZ b h it a k) (q : ∀ o, h.get? it = some o -> h'.get? it = some o) : eZ b h' it a k := by
 cases b with
 | true => exact (show h.IsListIter it a k from x).at fun o e => q o e
 | false => exact (show h.IsTupleIter it a k from x).at fun o e => q o e
end
section
variable {X : Cx} {pins : List (Addr × Obj)} {σ : St} {H : Hp} {s : Shared}
theorem Inv.turnNew {h' : Heap} {t' : Nat} {ch : List Addr} {p : Addr} {o : HO} (I : Inv X pins σ H s) (hf : ∀ b ∈ ch, dO X pins H b) (k : ∀ b u, b ∉ ch -> s.heap.get? b = some u -> h'.get? b = some u) (hp : s.heap.objs.size <= p) (new : bo X.prog X.w (upd H p o) h' p o) : Inv X pins σ (upd H p o) { s with heap := h', toks := t' } := by
 have hn : H p = none := I.hok.fresh hp
 have nt : ∀ b u, H b = some u -> b ∉ ch := fun b u e z => by rw [(hf b z).1] at e; cases e
 refine I.call' (s' := { s with heap := h', toks := t' }) (ch := ch) rfl ⟨fun b u e _ _ hc => k b u hc e, fun b u e _ _ hc => ⟨u.slots, k b u hc e⟩, fun b u e z hc => ?_, fun b u e hc => ⟨u, k b u hc e⟩, fun b ys e => ?_, fun b u ys e => ?_, fun b ys e => ⟨#[], ?_⟩⟩ (fun b u e => ?_) I.bare fun b hb => ?_
 ·rw [upd_ne (Nat.ne_of_lt (Nat.lt_of_lt_of_le (Heap.lt_size e) hp))]; exact z
 ·rw [upd_ne (ne_of_none e hn)]; exact e
 ·rw [upd_ne (ne_of_none e hn)]; exact e
 ·rw [upd_ne (ne_of_none e hn), e]; simp
 ·by_cases z : b = p
  ·subst z; rw [aw] at e; cases e; exact new
  ·rw [upd_ne z] at e
   refine (I.hok b u e).stay (fun c v hc q => k c v ?_ q) (fun c q => by rw [upd_ne (ne_of_none q hn)]; exact q) fun c xs q => by rw [upd_ne (ne_of_none q hn)]; exact q
   rcases hc with rfl | hc
   ·exact nt _ _ e
   ·exact nt _ _ hc
 ·obtain ⟨f0, f1, f2, f3, f4, f5⟩ := hf b hb
  exact ⟨f3, f1, f4, f5⟩
theorem Inv.turnL {h' : Heap} {t' : Nat} {ch : List Addr} (I : Inv X pins σ H s) (hf : ∀ b ∈ ch, dO X pins H b) (k : ∀ b u, b ∉ ch -> s.heap.get? b = some u -> h'.get? b = some u) : Inv X pins σ H { s with heap := h', toks := t' } := by
 have nt : ∀ b u, H b = some u -> b ∉ ch := fun b u e z => by rw [(hf b z).1] at e; cases e
 refine I.call' (s' := { s with heap := h', toks := t' }) (ch := ch) rfl ⟨fun b u e _ _ hc => k b u hc e, fun b u e _ _ hc => ⟨u.slots, k b u hc e⟩, fun b u e z hc => z, fun b u e hc => ⟨u, k b u hc e⟩, fun b ys e => e, fun b u ys e => e, fun b ys e => ⟨#[], by rw [e]; simp⟩⟩ (fun b u e => ?_) I.bare fun b hb => ?_
 ·refine (I.hok b u e).stay (fun c v hc q => k c v ?_ q) (fun c q => q) fun c xs q => q
  rcases hc with rfl | hc
  ·exact nt _ _ e
  ·exact nt _ _ hc
 ·obtain ⟨f0, f1, f2, f3, f4, f5⟩ := hf b hb
  exact ⟨f3, f1, f4, f5⟩
theorem Inv.src_ne {b : Bool} {a c : Addr} {xs : List V} (I : Inv X pins σ H s) (h : SqS b X.K H a xs) (f : dO X pins H c) : a ≠ c := by
 obtain ⟨f0, f1, f2, f3, f4, f5⟩ := f
 have old : ∀ o, X.K.lookup a = some o -> a ≠ c := fun o e z => by
  have e1 := I.ok.mod.kin a o e
  subst z
  rcases f3 with f3 | f3
  ·exact I.ok.noex a o e1 f3
  ·exact absurd (Nat.lt_of_lt_of_le (Heap.lt_size (I.ok.bs a o e1).1) f3) (Nat.lt_irrefl _)
 have rd : ∀ u, Rd H a u -> a ≠ c := fun u r z => by
  subst z
  rcases r with r | ⟨_, r⟩ <;> rw [f0] at r <;> cases r
 cases b with
 | true =>
  rcases (show SqL X.K H a xs from h) with h | ⟨o, _, _, e, _⟩
  ·exact rd _ h
  ·exact old o e
 | false =>
  rcases (show SqT X.K H a xs from h) with h | ⟨o, _, _, e, _⟩
  ·exact rd _ h
  ·exact old o e
end
theorem uS {P : Program} {w : World} {K : PySem.W.Frag} {elts : List Expr} {x1} {pos : Pos} (b1 b2 : Bool) (l1 l2 z TI TO i1 i2 : Addr) (nd : [z, TI, TO, i1, i2].Nodup) :
  Turn P w K (.Tuple elts x1 pos) (Itz b1 b2 K l1 l2) [z, TI, TO, i1, i2] z (fun i h => IsZip h z TI TO .none /\ IsPair h TI (.ref i1) (.ref i2) /\ (∃ a b, IsPair h TO a b) /\ eZ b1 h i1 l1 i /\ eZ b2 h i2 l2 i) where
 mem := by simp
 obj := fun i h st b hb => by
  obtain ⟨ez, eI, ⟨a, b', eO⟩, s1, s2⟩ := st
  simp only [List.mem_cons, List.not_mem_nil, or_false] at hb
  rcases hb with rfl | rfl | rfl | rfl | rfl
  ·exact ⟨_, ez, fun v q => by cases q⟩
  ·exact ⟨_, eI, fun v q => by cases q⟩
  ·exact ⟨_, eO, fun v q => by cases q⟩
  ·obtain ⟨o, e, _, fs, d⟩ := s1.get
   exact ⟨o, e, fun v q => by rw [d] at q; cases q⟩
  ·obtain ⟨o, e, _, fs, d⟩ := s2.get
   exact ⟨o, e, fun v q => by rw [d] at q; cases q⟩
 keep := fun i h h' st k => by
  obtain ⟨ez, eI, ⟨a, b', eO⟩, s1, s2⟩ := st
  exact ⟨k z (by simp) _ ez, k TI (by simp) _ eI, ⟨a, b', k TO (by simp) _ eO⟩, s1.keep fun o e => k i1 (by simp) o e, s2.keep fun o e => k i2 (by simp) o e⟩
 item := by
  intro X hP hw hK hc i pins s σ H E I hf st hg
  subst hP hw hK
  obtain ⟨xs, ys, x, y, q1, q2, hx, hy⟩ := hg
  obtain ⟨ez, eI, ⟨a, b', eO⟩, s1, s2⟩ := st
  obtain ⟨is1, r1, p1⟩ := Inv.src I q1
  obtain ⟨is2, r2, p2⟩ := Inv.src I q2
  have hd := I.ok.hd hc
  simp only [List.nodup_cons, List.mem_cons, List.not_mem_nil, or_false, not_or] at nd
  obtain ⟨⟨z1, z2, z3, z4⟩, ⟨t1, t2, t3⟩, ⟨o1, o2⟩, j1, _⟩ := nd
  have n1 : ∀ c ∈ [z, TI, TO, i1, i2], l1 ≠ c := fun c hc => Inv.src_ne I q1 (hf c hc)
  have n2 : ∀ c ∈ [z, TI, TO, i1, i2], l2 ≠ c := fun c hc => Inv.src_ne I q2 (hf c hc)
  have ap : Ap z TI TO i1 i2 [i1, l1] [i2, l2] := ⟨Ne.symm z1, Ne.symm z2, Ne.symm z3, Ne.symm z4, t1, t2, t3, o1, o2, j1, by simp [z3, (n1 z (by simp)).symm], by simp [o1, (n1 TO (by simp)).symm], by simp [Ne.symm j1, (n1 i2 (by simp)).symm], by simp [z4, (n2 z (by simp)).symm], by simp [o2, (n2 TO (by simp)).symm], by simp [j1, (n2 i1 (by simp)).symm], by simp, by simp⟩
  have k1 : i < is1.toArray.size := by
   rw [List.size_toArray, ← r1.length]; exact (List.getElem?_eq_some_iff.mp hx).1
  have k2 : i < is2.toArray.size := by
   rw [List.size_toArray, ← r2.length]; exact (List.getElem?_eq_some_iff.mp hy).1
  refine sU (fun A' h' => oB b1 (h'.trans hd) i1 l1 (n1 i1 (by simp)) is1.toArray) (fun A' h' => oB b2 (h'.trans hd) i2 l2 (n2 i2 (by simp)) is2.toArray) ap ez eI eO ⟨s1, p1⟩ ⟨s2, p2⟩ k1 k2 fun h' tk u v pu pv fz fO f1 f2 fT sz kp => ?_
  refine ⟨_, rfl, wpAny_letOwnedTupleGo_zip (s := { s with heap := h', toks := tk }) fz fun h'' ez'' sb => ?_⟩
  replace sb : Heap.SameBut z h' h'' := sb
  have zT : s.heap.objs.size ≠ z := Nat.ne_of_gt (Heap.lt_size ez)
  obtain ⟨u', hu, ru⟩ := r1.get hx
  obtain ⟨v', hv, rv⟩ := r2.get hy
  have eu : u = u' := by
   have : is1[i]? = some u := by simpa using pu
   rw [this] at hu; exact Option.some.inj hu
  have ev : v = v' := by
   have : is2[i]? = some v := by simpa using pv
   rw [this] at hv; exact Option.some.inj hv
  subst eu ev
  have kk : ∀ b o, b ∉ [z, TI, TO, i1, i2] -> s.heap.get? b = some o -> h''.get? b = some o := fun b o hb e => by
   simp only [List.mem_cons, List.not_mem_nil, or_false, not_or] at hb
   exact sb.extBut b o hb.1 (kp b o hb.1 hb.2.2.1 hb.2.2.2.1 hb.2.2.2.2 e)
  have I2 : Inv X pins σ (upd H s.heap.objs.size (.tup [x, y])) { s with heap := h'', toks := tk } := by
   refine Inv.turnNew I hf kk (Nat.le_refl _) ⟨by show 2 <= sizeLine; decide, [u, v], .cons ru (.cons rv .nil), _, sb.extBut _ _ zT fT, rfl, _, rfl⟩
  refine ⟨.ref s.heap.objs.size, _, I2, rfl, ⟨s.heap.objs.size, x, y, I.hok.fresh (Nat.le_refl _), rfl, rfl, fun as bs h1 h2 => ⟨by rw [Inv.src_inj I h1 q1]; exact hx, by rw [Inv.src_inj I h2 q2]; exact hy⟩⟩, ⟨ez'', ?_, ⟨u, v, ?_⟩, ?_, ?_⟩, fun b hb => ?_⟩
  ·exact sb.extBut _ _ (Ne.symm z1) (kp TI _ (Ne.symm z1) t1 t2 t3 eI)
  ·exact sb.extBut _ _ (Ne.symm z2) fO
  ·exact f1.1.keep fun o e => sb.extBut _ _ (Ne.symm z3) e
  ·exact f2.1.keep fun o e => sb.extBut _ _ (Ne.symm z4) e
  ·rw [upd_ne]
   ·exact (hf b hb).1
   ·intro q
    have ol : ∃ o, s.heap.get? b = some o := by
     simp only [List.mem_cons, List.not_mem_nil, or_false] at hb
     rcases hb with rfl | rfl | rfl | rfl | rfl
     ·exact ⟨_, ez⟩
     ·exact ⟨_, eI⟩
     ·exact ⟨_, eO⟩
     ·obtain ⟨o, e, _⟩ := s1.get; exact ⟨o, e⟩
     ·obtain ⟨o, e, _⟩ := s2.get; exact ⟨o, e⟩
    obtain ⟨o, e⟩ := ol
    exact absurd (Heap.lt_size e) (by rw [q]; exact Nat.lt_irrefl _)
 done := by
  intro X hP hw hK hc i pins s σ H E I hf st hg
  subst hP hw hK
  obtain ⟨xs, ys, q1, q2, hl⟩ := hg
  obtain ⟨ez, eI, ⟨a, b', eO⟩, s1, s2⟩ := st
  obtain ⟨is1, r1, p1⟩ := Inv.src I q1
  obtain ⟨is2, r2, p2⟩ := Inv.src I q2
  have hd := I.ok.hd hc
  simp only [List.nodup_cons, List.mem_cons, List.not_mem_nil, or_false, not_or] at nd
  obtain ⟨⟨z1, z2, z3, z4⟩, ⟨t1, t2, t3⟩, ⟨o1, o2⟩, j1, _⟩ := nd
  have n1 : ∀ c ∈ [z, TI, TO, i1, i2], l1 ≠ c := fun c hc => Inv.src_ne I q1 (hf c hc)
  have n2 : ∀ c ∈ [z, TI, TO, i1, i2], l2 ≠ c := fun c hc => Inv.src_ne I q2 (hf c hc)
  have ap : Ap z TI TO i1 i2 [i1, l1] [i2, l2] := ⟨Ne.symm z1, Ne.symm z2, Ne.symm z3, Ne.symm z4, t1, t2, t3, o1, o2, j1, by simp [z3, (n1 z (by simp)).symm], by simp [o1, (n1 TO (by simp)).symm], by simp [Ne.symm j1, (n1 i2 (by simp)).symm], by simp [z4, (n2 z (by simp)).symm], by simp [o2, (n2 TO (by simp)).symm], by simp [j1, (n2 i1 (by simp)).symm], by simp, by simp⟩
  have g1 : is1.toArray.size = xs.length := by rw [List.size_toArray, ← r1.length]
  have g2 : is2.toArray.size = ys.length := by rw [List.size_toArray, ← r2.length]
  refine uP (fun A' h' => oB b1 (h'.trans hd) i1 l1 (n1 i1 (by simp)) is1.toArray) (fun A' h' => oB b2 (h'.trans hd) i2 l2 (n2 i2 (by simp)) is2.toArray) ap ez eI eO ⟨s1, p1⟩ ⟨s2, p2⟩ ?_ fun h' tk kp => ⟨rfl, Inv.turnL I hf fun b o hb e => ?_⟩
  ·rw [g1, g2]
   rcases hl with hl | ⟨h1, h2⟩
   ·exact .inl hl.symm
   ·exact .inr ⟨h1, h2.symm⟩
  ·simp only [List.mem_cons, List.not_mem_nil, or_false, not_or] at hb
   exact kp b o hb.1 hb.2.2.1 hb.2.2.2.1 hb.2.2.2.2 e
 self := fun _ _ _ _ _ st h => wpAny_pyIter_zip st.1 h
section
variable {X : Cx} {E : St -> XK} {K : PySem.W.Frag}
def iZp (K : PySem.W.Frag) (ta : TA) : TI := fun σ H R => ta σ H fun vs H1 => ∃ b1 b2 l1 l2 xs ys, vs = [.ref l1, .ref l2] /\ SqS b1 K H1 l1 xs /\ SqS b2 K H1 l2 ys /\ R (Itz b1 b2 K l1 l2) H1
theorem AQ {a b : Expr} {ta : TA} {p pos : Pos} {elts : List Expr} {x1} {tpos : Pos} (hg : Gl X "zip") (hm : X.mg "zip" = none) (ha : PA X [a, b] ta) (hs : starEach [a, b] X.env = [(false, eval a X.env), (false, eval b X.env)] := by rfl) (hs2 : starEach [b] X.env = [(false, eval b X.env)] := by rfl) :
  PI X (.Tuple elts x1 tpos) (.Call (.Name "zip" p) [a, b] [] pos) (iZp X.K ta) := by
 intro pins s σ H R I h
 refine Call_ (fV I hg hm PyProof.Rows.Boot.«zip» (PyProof.Rows.callWith_type1 (thn (ha pos pins s σ H _ I h) fun us s1 ⟨vs, H1, I1, r1, q1⟩ => ?_) (by rw [hs, hs2]) (by rw [hs2]; rfl)))
 obtain ⟨b1, b2, l1, l2, xs, ys, e, q1, q2, q⟩ := q1
 subst e
 cases r1 with
 | cons r rr =>
  cases rr with
  | cons r' rr =>
   cases rr
   cases r
   cases r'
   obtain ⟨is1, v1, p1⟩ := Inv.src I1 q1
   obtain ⟨is2, v2, p2⟩ := Inv.src I1 q2
   refine uI p1 p2 fun h' ez eI eO s1' s2' sz kp => ?_
   refine wpAny_pyIter_zip (s := { s1 with heap := h' }) ez ?_
   have I2 : Inv X pins σ H1 { s1 with heap := h' } := I1.kept (t' := s1.toks) kp
   refine ⟨_, [s1.heap.objs.size + 4, s1.heap.objs.size + 2, s1.heap.objs.size + 3, s1.heap.objs.size, s1.heap.objs.size + 1], _, Itz b1 b2 X.K l1 l2, H1, rfl, I2, uS b1 b2 l1 l2 (s1.heap.objs.size + 4) (s1.heap.objs.size + 2) (s1.heap.objs.size + 3) s1.heap.objs.size (s1.heap.objs.size + 1) (by simp), ⟨ez, eI, ⟨_, _, eO⟩, s1', s2'⟩, fun c hc => ?_, q⟩
   have hge : s1.heap.objs.size <= c := by
    simp only [List.mem_cons, List.not_mem_nil, or_false] at hc
    rcases hc with rfl | rfl | rfl | rfl | rfl
    ·exact Nat.le_add_right _ _
    ·exact Nat.le_add_right _ _
    ·exact Nat.le_add_right _ _
    ·exact Nat.le_refl _
    ·exact Nat.le_add_right _ _
   exact I1.fpOk hge (I1.hok.fresh hge)
def cR : List D -> List D -> List D
 | x :: xs, y :: ys => .tup [x, y] :: cR xs ys
 | _, _ => []
theorem oJ : ∀ (xs ys : List D), (cR xs ys).length = min xs.length ys.length
 | [], ys => by simp [cR]
 | x :: xs, [] => by simp [cR]
 | x :: xs, y :: ys => by
  show (cR xs ys).length + 1 = _
  rw [oJ xs ys, List.length_cons, List.length_cons]
  omega
theorem oK : ∀ {xs ys : List D} {i : Nat} {d : D}, (cR xs ys)[i]? = some d -> ∃ x y, xs[i]? = some x /\ ys[i]? = some y /\ d = .tup [x, y]
 | [], ys, i, d, h => by simp [cR] at h
 | x :: xs, [], i, d, h => by simp [cR] at h
 | x :: xs, y :: ys, 0, d, h => by
  simp [cR] at h
  exact ⟨x, y, rfl, rfl, h.symm⟩
 | x :: xs, y :: ys, i + 1, d, h => by
  have h' : (cR xs ys)[i]? = some d := by simpa [cR] using h
  obtain ⟨a, b, e1, e2, e3⟩ := oK h'
  exact ⟨a, b, by simpa using e1, by simpa using e2, e3⟩
def qY : List D -> Option (List D)
 | [a, b] => (dR a).bind fun xs => (dR b).map fun ys => cR xs ys
 | _ => none
theorem Den.sqS {F : Fx} {H : Hp} {d : D} {v : V} {ds : List D} (h : Den K F H d v) (e : dR d = some ds) : ∃ b a, v = .ref a /\ ∀ F2 H2, Tr F H F2 H2 -> ∃ xs, SqS b K H2 a xs /\ DenL K F2 H2 ds xs := by
 cases d <;> first
  | (cases e; obtain ⟨a, xs, rfl, _⟩ := Den.sqL h; refine ⟨true, a, rfl, fun F2 H2 t => ?_⟩; obtain ⟨a', ys, ea, sq, dl⟩ := Den.sqL (Den.tr t _ _ h); cases ea; exact ⟨ys, sq, dl⟩)
  | (cases e; obtain ⟨a, xs, rfl, _⟩ := Den.sqT h; refine ⟨false, a, rfl, fun F2 H2 t => ?_⟩; obtain ⟨a', ys, ea, sq, dl⟩ := Den.sqT (Den.tr t _ _ h); cases ea; exact ⟨ys, sq, dl⟩)
  | cases e
theorem zR {F : Fx} {H : Hp} {b1 b2 : Bool} {l1 l2 : Addr} {ds es : List D} (h1 : ∀ F2 H2, Tr F H F2 H2 -> ∃ xs, SqS b1 K H2 l1 xs /\ DenL K F2 H2 ds xs) (h2 : ∀ F2 H2, Tr F H F2 H2 -> ∃ xs, SqS b2 K H2 l2 xs /\ DenL K F2 H2 es xs) : ItD K (Itz b1 b2 K l1 l2) F H (cR ds es) := fun F2 H2 β2 t fr i => by
 obtain ⟨xs, s1, d1⟩ := h1 F2 H2 t
 obtain ⟨ys, s2, d2⟩ := h2 F2 H2 t
 refine ⟨fun d hd => ?_, fun hi => ?_⟩
 ·obtain ⟨x, y, e1, e2, rfl⟩ := oK hd
  obtain ⟨u, hu, du⟩ := d1.get e1
  obtain ⟨v, hv, dv⟩ := d2.get e2
  refine ⟨⟨xs, ys, u, v, s1, s2, hu, hv⟩, fun z H3 hz => ?_⟩
  obtain ⟨p, u', v', hp, rfl, rfl, hh⟩ := hz
  obtain ⟨g1, g2⟩ := hh xs ys s1 s2
  rw [hu] at g1
  rw [hv] at g2
  cases g1
  cases g2
  exact ⟨bF.upd hp, Den.newT fr hp (DenL.cons du (DenL.cons dv DenL.nil))⟩
 ·rw [oJ] at hi
  have e1 := d1.length
  have e2 := d2.length
  refine ⟨xs, ys, s1, s2, ?_⟩
  rw [← e1, ← e2]
  omega
def d5 (g : Dn -> M (List D)) : Dn -> M (List D) := bD qY g
theorem rN {a b : Expr} {g : Dn -> M (List D)} {p pos : Pos} {elts : List Expr} {x1} {tpos : Pos} (hg : Gl X "zip") (hm : X.mg "zip" = none) (ha : PA X [a, b] (tVA X.K g E)) (hs : starEach [a, b] X.env = [(false, eval a X.env), (false, eval b X.env)] := by rfl) (hs2 : starEach [b] X.env = [(false, eval b X.env)] := by rfl) :
  PI X (.Tuple elts x1 tpos) (.Call (.Name "zip" p) [a, b] [] pos) (iV X.K (d5 g) E) :=
 (AQ hg hm ha hs hs2).imp fun σ H R h_ => ex6 h_ fun F δ β fr vk h => ⟨F, δ, β, fr, vk, (run.bind (R := DenL X.K F) h).mono fun vs H1 h_ => by
  obtain ⟨ds, β1, t, hd, r1⟩ := h_
  obtain ⟨l, e, k⟩ := run.ofO r1
  unfold qY at e
  split at e
  ·rename_i c d
   obtain ⟨v, w', rfl, h1, h2⟩ := DenL.two hd
   cases q1 : dR c with
   | none => rw [q1] at e; cases e
   | some xs =>
    cases q2 : dR d with
    | none => rw [q1, q2] at e; cases e
    | some ys =>
     rw [q1, q2] at e
     cases e
     obtain ⟨b1, l1, rfl, z1⟩ := Den.sqS h1 q1
     obtain ⟨b2, l2, rfl, z2⟩ := Den.sqS h2 q2
     obtain ⟨us, g1, _⟩ := z1 F H1 (Tr.refl F H1)
     obtain ⟨ws, g2, _⟩ := z2 F H1 (Tr.refl F H1)
     exact ⟨b1, b2, l1, l2, us, ws, rfl, g1, g2, k _ H1 (To.refl t.fr) (zR z1 z2)⟩
  ·cases e⟩
end
def jV (K : PySem.W.Frag) (f : Dn -> M Unit) (c : Nat) (E : St -> XK) : TJ := fun σ H n Q => n + c <= sizeLine /\ ∃ F δ β, Fr F H β /\ VOk K F H δ σ /\ run (fun _ (_ : Unit) (m : Nat) => m <= n + c) F E σ (f δ) H Q β
theorem _root_.L2.PJ.imp {X : Cx} {es : List Expr} {t t' : TJ} (h : PJ X es t) (f : ∀ σ H n Q, t' σ H n Q -> t σ H n Q) : PJ X es t' := fun pins s σ H acc Q I hz hq => h pins s σ H acc Q I hz (f σ H _ _ hq)
def dy : Dn -> M Unit := fun _ => M.ret ()
def bZ (f : Dn -> M D) (g : Dn -> M Unit) : Dn -> M Unit := fun δ => M.bind (f δ) fun d => match d with
 | .int i => if i.natAbs.log2 < 1920 then g δ else M.fail
 | _ => M.fail
section
variable {X : Cx} {E : St -> XK} {es : List Expr} {K : PySem.W.Frag}
theorem i8 : PJ X [] (jV X.K dy 0 E) := AN.imp fun σ H n Q h_ => by obtain ⟨_, F, δ, β, fr, vk, r⟩ := h_; exact run.ret fr r (Nat.le_refl _)
theorem dL {x : Str} {j : Nat} {p : Pos} {g : Dn -> M Unit} {c : Nat} (h : PJ X es (jV X.K g c E)) (he : evalEach (.Constant (.str x) j p :: es) X.env = eval (.Constant (.str x) j p) X.env :: evalEach es X.env := by rfl) : PJ X (.Constant (.str x) j p :: es) (jV X.K g (x.length + c) E) :=
 (AM h he).imp fun σ H n Q h_ => by
  obtain ⟨hz, F, δ, β, fr, vk, r, β', e, k⟩ := h_
  exact ⟨by omega, by omega, F, δ, β, fr, vk, r, β', e, by
   cases r with
   | ok u => exact fun m H' t hm => k m H' t (by omega)
   | error C => exact k⟩
theorem fK {v : Expr} {p : Pos} {f : Dn -> M D} {g : Dn -> M Unit} {c : Nat} (hv : PE X v (tV X.K f E)) (h : PJ X es (jV X.K g c E)) (he : evalEach (.FormattedValue v (-1) none p :: es) X.env = eval (.FormattedValue v (-1) none p) X.env :: evalEach es X.env := by rfl) : PJ X (.FormattedValue v (-1) none p :: es) (jV X.K (bZ f g) (1921 + c) E) :=
 (AO hv h he).imp fun σ H n Q ⟨hz, F, δ, β, fr, vk, r⟩ => ⟨F, δ, β, fr, vk, (run.bind (R := Den X.K F) r).mono fun v H1 h_ => by
  obtain ⟨d, β1, t, hd, r1⟩ := h_
  cases d with
  | int i =>
   by_cases q : i.natAbs.log2 < 1920
   ·simp only [if_pos q] at r1
    refine ⟨i, hd, q, by omega, fun m hm => ⟨by omega, F, δ, β1, t.fr, vk.tr (t.tr fr), ?_⟩⟩
    obtain ⟨rr, β', e, k⟩ := r1
    refine ⟨rr, β', e, ?_⟩
    cases rr with
    | ok u => exact fun m' H' t' hm' => k m' H' t' (by omega)
    | error C => exact k
   ·simp only [if_neg q] at r1
    obtain ⟨rr, β', e, k⟩ := r1
    cases e
  | _ => obtain ⟨rr, β', e, k⟩ := r1; cases e⟩
def cP (f : Dn -> M Unit) : Dn -> M D := fun δ => M.bind (f δ) fun _ => M.ret .txt
theorem gz {v1 v2 : Expr} {rest : List Expr} {pos : Pos} {f : Dn -> M Unit} {c : Nat} (h : PJ X (v1 :: v2 :: rest) (jV X.K f c E)) (hc : c <= sizeLine) : PE X (.JoinedStr (v1 :: v2 :: rest) pos) (tV X.K (cP f) E) :=
 (zr h).imp fun σ H Q h_ => ex6 h_ fun F δ β fr vk r => ⟨by omega, F, δ, β, fr, vk, (run.bind (R := fun _ (_ : Unit) (m : Nat) => m <= 0 + c) r).mono fun m H1 h_ => ex5 h_ fun d β1 t hd r1 => ⟨by omega, fun z hz => run.ret t.fr r1 ⟨z, rfl⟩⟩⟩
def la (C : Addr) (n : Nat) : Sp := fun vs H Q _ => ∃ (x : Addr) (rest : List V), vs = .ref x :: rest /\ rest.length = n /\ H x = some (de C x none) /\
 ∀ (dx : Option Addr) (H' : Hp), H' x = some (de C x dx) -> (∀ b o, H b = some o -> b ≠ x -> H' b = some o) -> Q .non H'
def bN (C : Addr) (f : Dn -> M (List D)) : G := fun δ β => match f (vwA δ) β with
 | some (.ok _, β1) => some (.ex C δ, β1)
 | some (.error C', β1) => some (.ex C' δ, β1)
 | none => none
end
section
variable {P : Program} {w : World} {K : PySem.W.Frag} {mg : Str -> Option Value} {base : Heap} {N : List Str} {qual : Str} {scope : Scope} {f : Addr} {cd : Value} {A : Around} {outer : List Env} {s : Shared} {H : Hp} {E : XK}
theorem em {e : Expr} {pos : Pos} {C : Addr} {n : Nat} {g : Dn -> M (List D)} {E' : St -> XK} (xc : XC K C) (hn : ∀ δ β r β', g δ β = some (.ok r, β') -> r.length = n) (hz : n <= sizeLine)
  (h : PS (cX (CXE P w) P w K mg base N qual scope f cd A outer s H E) (.Raise (some e) none pos) (tw H K E (As C (la C n) [] E' (tVA K g (fun _ => E))))) :
  PS (cX (CXE P w) P w K mg base N qual scope f cd A outer s H E) (.Raise (some e) none pos) (tG K H (bN C g) (fun _ => E)) := h.imp fun D σ H1 h_ => by
 obtain ⟨B, bg, δ, β, o, β', ok, e, q⟩ := h_
 refine ⟨FxA B bg, vwA δ, β, ok.frA, ok.viewA, ?_⟩
 unfold bN at e
 split at e
 ·rename_i ds β1 e1
  cases e
  refine ⟨.ok ds, _, e1, fun vs H2 t hd => ?_⟩
  obtain ⟨ok2, s2⟩ := ok.to rfl t
  have hl : vs.length = n := by rw [← hd.length]; exact hn _ _ _ _ e1
  refine ⟨by rw [hl]; exact hz, fun x hx => ⟨x, vs ++ [], rfl, by rw [List.append_nil]; exact hl, aw, fun dx H' h1 h2 => ⟨rfl, x, C, dx, rfl, h1, ?_, xc, ?_⟩⟩⟩
  ·cases q0 : H x with
   | none => rfl
   | some o => exact absurd hx (ok2.cov x (by rw [q0]; simp))
  ·have sm : ∀ b o, H2 b = some o -> d8 H' x b = some o := fun b o eb => by
    have hb : b ≠ x := ne_of_none eb hx
    rw [gv hb]
    exact h2 b o (by rw [upd_ne hb]; exact eb) hb
   obtain ⟨ok3, s3⟩ := ok2.to rfl (ok2.fr.same sm)
   exact q σ B _ (s2.trans s3) ok3
 ·rename_i C' β1 e1
  cases e
  refine ⟨.error C', _, e1, fun H' t => ?_⟩
  obtain ⟨ok2, s2⟩ := ok.to rfl t
  exact q _ B H' s2 ok2
 ·cases e
end
section
variable {X : Cx} {E : St -> XK} {K : PySem.W.Frag}
abbrev Gh := Addr -> G
def hNo : Gh := fun _ _ _ => none
def mM (K : PySem.W.Frag) (Dc : Addr) (g : G) (r : Gh) : Gh := fun C δ β => match PySem.W.exmOne K (.ref C) (.ref Dc) with
 | some true => g δ β
 | some false => r C δ β
 | none => none
def mR (g : G) (h : Gh) : G := fun δ β => match g δ β with
 | some (.ex C δ1, β1) => h C δ1 β1
 | r => r
end
section
variable {X : Cx} {E : St -> XK} {K : PySem.W.Frag} {elt target iter : Expr} {ifs : List Expr} {rest : List Comprehension} {scope : Scope} {pos : Pos} {Nc vars : List Str} {caps : List Nat} {g : TG} {tb : Addr -> TB}
theorem cI : gb X [] (tVT X.K (fun _ => M.ret true) E0) := fun pins s σ H Q I h_ => by obtain ⟨F, δ, β, fr, vk, r⟩ := h_; exact pe pins s σ H Q I (run.ret fr r rfl)
theorem yS {c : Expr} {t : Dn -> M Bool} (hc : PT X c (tVT X.K t E0)) : gb X [c] (tVT X.K t E0) := ve hc
theorem cS {it : Dn -> M (List D)} {tg : TgF} {tt : Dn -> M Bool} {b : Dn -> M (List D)} (hc : X.calm = true) (S : CmpScope X scope Nc vars caps) (hi : PI X target iter (iV X.K it E))
  (hb : ∀ (cl : List (Str × Addr)) (C : Addr) (fp : List Addr) (s : Shared) (H : Hp), PG (bz X Nc scope cl C fp s H) target g /\ gb (bz X Nc scope cl C fp s H) ifs (tVT X.K tt E0) /\ ∀ D, PB (bz X Nc scope cl C fp s H) elt (⟨target, iter, ifs, 0⟩ :: rest) scope pos 0 D (tb D))
  (lg : e8 X.K g tg) (sg : gQ tg) (lb : ∀ D, jn X.K D (tb D) b) (hs : ∀ x, foldedSetIterable iter X.env x = pure x := by intro _; rfl) : PE X (.ListComp elt (⟨target, iter, ifs, 0⟩ :: rest) scope pos) (tV X.K (aT vars.length caps it tg tt b) E) :=
 (qA hc S hi hb hs).imp fun σ H Q h => oV lg sg lb h
theorem Az {it : Dn -> M (List D)} {tg : TgF} {tt : Dn -> M Bool} {b : Dn -> M (List D)} {i : Nat} {x : Str} {pos' spos : Pos} (hN : X.N.Nodup) (hi' : X.N[i]? = some x) (hx : Loc X.env.scope x) (hc : X.calm = true) (S : CmpScope X scope Nc vars caps) (hi : PI X target iter (iV X.K it E))
  (hb : ∀ (cl : List (Str × Addr)) (C : Addr) (fp : List Addr) (s : Shared) (H : Hp), PG (bz X Nc scope cl C fp s H) target g /\ gb (bz X Nc scope cl C fp s H) ifs (tVT X.K tt E0) /\ ∀ D, PB (bz X Nc scope cl C fp s H) elt (⟨target, iter, ifs, 0⟩ :: rest) scope pos 0 D (tb D))
  (lg : e8 X.K g tg) (sg : gQ tg) (lb : ∀ D, jn X.K D (tb D) b)
  (hsw : swapsWith (.ListComp elt (⟨target, iter, ifs, 0⟩ :: rest) scope pos) (some (.Name x pos')) spos.line X.env = pure true := by rfl)
  (hs : ∀ x, foldedSetIterable iter X.env x = pure x := by intro _; rfl) (hf : X.fn x = true \/ X.env.scope.names.lookup x = some .local := by first | exact .inl rfl | exact .inr rfl | assumption) :
  PS X (.Assign [.Name x pos'] (.ListComp elt (⟨target, iter, ifs, 0⟩ :: rest) scope pos) spos) (tG X.K X.H₀ (aG i (aT vars.length caps it tg tt b)) E) :=
 aL ((qy hN hi' hx hc S hi hb hsw hs hf).imp fun D σ H h => oV lg sg lb h)
def mH : D -> Option D
 | .int i => some (.int (-i))
 | _ => none
theorem yG : bj K (rI DQ fun i j => .int (i ^ j.toNat)) vc := hG fun i j h => by
 simp only [Bool.and_eq_true, decide_eq_true_eq] at h
 obtain ⟨⟨rfl, h1⟩, h2⟩ := h
 exact ⟨h1, by omega, by decide⟩
end
def Bg.ok (β : Bg) : Prop := β.cells ≠ [] /\ β.cells.length <= 64 /\ (∀ c ∈ β.cells, 0 <= c) /\ 0 <= β.j
def Bg.pos (β : Bg) : Nat := (β.i % (β.cells.length : Int)).toNat
def Bg.cell (β : Bg) : Int := β.cells.getD β.pos 0
def Bg.nxt (β : Bg) : Int := (β.j + β.cell % 2147483629 + 77) * 48271 % 2147483629
def gX (β : Bg) (lot : Int) : Int := if 10 ^ 18 <= β.cell then β.cell % lot else β.nxt / 64 % lot
def iY (β : Bg) (lot : Int) : Bg := if 10 ^ 18 <= β.cell then ⟨β.cells.set β.pos (β.cell / lot), β.i, β.j⟩ else ⟨β.cells, β.i + 1, β.nxt⟩
open Classical in
noncomputable def cG : List D -> M D := fun ds β => match ds with
 | [.bag, .int lot] => if β.ok /\ 0 < lot /\ lot < 1073741824 then some (Except.ok (D.int (gX β lot)), iY β lot) else none
 | _ => none
theorem vB {β : Bg} {lot : Int} (h : β.ok) (h0 : 0 < lot) (h1 : lot < 1073741824) : cG [.bag, .int lot] β = some (.ok (.int (gX β lot)), iY β lot) := by
 unfold cG
 exact if_pos ⟨h, h0, h1⟩
theorem uh {ds : List D} {β : Bg} {r : Except Addr D} {β' : Bg} (h : cG ds β = some (r, β')) : ∃ lot, ds = [.bag, .int lot] /\ β.ok /\ 0 < lot /\ lot < 1073741824 /\ r = .ok (.int (gX β lot)) /\ β' = iY β lot := by
 unfold cG at h
 split at h
 ·split at h
  ·rename_i lot q
   cases h
   exact ⟨lot, rfl, q.1, q.2.1, q.2.2, rfl, rfl⟩
  ·cases h
 ·cases h
theorem Bg.ok.at {β : Bg} (h : β.ok) : β.pos < β.cells.length /\ β.cells[β.pos]? = some β.cell /\ 0 <= β.cell /\ β.i % (β.cells.length : Int) = (β.pos : Int) := by
 obtain ⟨c1, c2, c3, c4⟩ := id h
 have hp : 0 < β.cells.length := List.length_pos_iff.mpr c1
 have a1 : 0 <= β.i % (β.cells.length : Int) := Int.emod_nonneg _ (by omega)
 have a2 : β.i % (β.cells.length : Int) < β.cells.length := Int.emod_lt_of_pos _ (by omega)
 have hk : β.pos < β.cells.length := by unfold Bg.pos; omega
 have e : β.cell = β.cells[β.pos] := by
  unfold Bg.cell
  rw [List.getD_eq_getElem?_getD, List.getElem?_eq_getElem hk]; rfl
 refine ⟨hk, by rw [e]; exact List.getElem?_eq_getElem hk, by rw [e]; exact c3 _ (List.getElem_mem hk), ?_⟩
 unfold Bg.pos; omega
theorem qw {β : Bg} {lot : Int} (h : β.ok) (h0 : 0 < lot) : 0 <= gX β lot /\ gX β lot < lot /\ (iY β lot).ok := by
 obtain ⟨hk, _, hc, _⟩ := h.at
 obtain ⟨c1, c2, c3, c4⟩ := id h
 unfold gX iY
 split
 ·refine ⟨Int.emod_nonneg _ (by omega), Int.emod_lt_of_pos _ h0, ?_, by rw [List.length_set]; exact c2, fun c hc' => ?_, c4⟩
  ·intro z
   have := congrArg List.length z
   rw [List.length_set] at this
   exact c1 (List.length_eq_zero_iff.mp this)
  ·rcases List.mem_or_eq_of_mem_set hc' with hc' | rfl
   ·exact c3 c hc'
   ·exact Int.ediv_nonneg hc (by omega)
 ·exact ⟨Int.emod_nonneg _ (by omega), Int.emod_lt_of_pos _ h0, c1, c2, c3, Int.emod_nonneg _ (by decide)⟩
end L2.Pu
namespace L2
open PySem PySem.Spec PyProof.Rows
end L2
namespace L2.Pu
open PySem PySem.Spec PyProof.Rows
section
variable {X : Cx} {E : St -> XK} {K : PySem.W.Frag}
def fM (K : PySem.W.Frag) (mg : Str -> Option Value) (x : Str) (d : D) : Prop := ∃ u v, mg x = some u /\ aP v u /\ ∀ F H, Den K F H d v
theorem gy {x : Str} {d : D} {pos : Pos} (c : fM X.K X.mg x d) (hg : Gl X x := by rfl) (hd : (x == ("__debug__" : Str)) = false := by decide) : PE X (.Name x pos) (tV X.K (fC d) E) := by
 obtain ⟨u, v, h1, h2, h3⟩ := c
 exact v_c (zq hg h1 h2 hd) h3
theorem gt {x : Str} {d : D} {pos : Pos} (c : fM X.K X.mg x d) (hg : Gl X x := by rfl) (hd : (x == ("__debug__" : Str)) = false := by decide) : PE X (.Name x pos) (tV X.K (fC d) E) := gy c hg hd
mutual
def toP : D -> Option PyData
 | .non => some .none
 | .bl b => some (.bool b)
 | .int i => some (.int i)
 | .str x => some (.str x)
 | .lst xs => (toPs xs).map PyData.list
 | .tup xs => (toPs xs).map PyData.tuple
 | _ => none
def toPs : List D -> Option (List PyData)
 | [] => some []
 | x :: xs => match toP x, toPs xs with
  | some p, some ps => some (p :: ps)
  | _, _ => none
end
mutual
theorem iu {F : Fx} {pins : List (Addr × Obj)} {σ : St} {H : Hp} {s : Shared} (I : Inv X pins σ H s) : ∀ (d : D) (v : V) (u : Value) (p : PyData), Den X.K F H d v -> toP d = some p -> aP v u -> ∃ as, Reads s.heap u p as
 | .non, v, u, p, h, e, r => by cases e; cases h.non; cases r; exact ⟨_, .none⟩
 | .bl b, v, u, p, h, e, r => by cases e; cases h.bl; cases r; exact ⟨_, .bool b⟩
 | .int i, v, u, p, h, e, r => by cases e; cases h.int; obtain ⟨t, rfl⟩ := r; exact ⟨_, .int i t⟩
 | .str x, v, u, p, h, e, r => by cases e; cases h.str; obtain ⟨t, rfl⟩ := r; exact ⟨_, .str x t⟩
 | .lst xs, v, u, p, h, e, r => by
  unfold toP at e
  cases q : toPs xs with
  | none => rw [q] at e; cases e
  | some ps =>
   rw [q] at e; cases e
   obtain ⟨a, ys, rfl, sq, dl⟩ := Den.sqL h
   cases r
   obtain ⟨its, rv, pl, _⟩ := I.list sq
   obtain ⟨as, ra⟩ := reads_L I xs ys its ps dl q rv
   obtain ⟨o, ho, hc, n, hd⟩ := pl.isList
   exact ⟨_, .list ho hc hd (by simpa using ra)⟩
 | .tup xs, v, u, p, h, e, r => by
  unfold toP at e
  cases q : toPs xs with
  | none => rw [q] at e; cases e
  | some ps =>
   rw [q] at e; cases e
   obtain ⟨a, ys, rfl, sq, dl⟩ := Den.sqT h
   cases r
   obtain ⟨its, rv, pl, _⟩ := I.tuple sq
   obtain ⟨as, ra⟩ := reads_L I xs ys its ps dl q rv
   obtain ⟨o, ho, hc, n, hd⟩ := pl
   exact ⟨_, .tuple ho hc hd (by simpa using ra)⟩
 | .ty _, _, _, _, _, e, _ => by cases e
 | .txt, _, _, _, _, e, _ => by cases e
 | .scr _, _, _, _, _, e, _ => by cases e
 | .obj _ _ _, _, _, _, _, e, _ => by cases e
 | .bag, _, _, _, _, e, _ => by cases e
 | .adr _, _, _, _, _, e, _ => by cases e
theorem reads_L {F : Fx} {pins : List (Addr × Obj)} {σ : St} {H : Hp} {s : Shared} (I : Inv X pins σ H s) : ∀ (ds : List D) (vs : List V) (us : List Value) (ps : List PyData), DenL X.K F H ds vs -> toPs ds = some ps -> ay vs us -> ∃ as, ReadsAll s.heap us ps as
 | [], vs, us, ps, h, e, r => by
  have q : vs = [] := h
  subst q
  cases e
  cases r
  exact ⟨_, .nil⟩
 | d :: ds, vs, us, ps, h, e, r => by
  obtain ⟨x, xr, rfl, h1, h2⟩ := h
  unfold toPs at e
  split at e
  ·rename_i p pr e1 e2
   cases e
   cases r with
   | cons r1 r2 =>
    obtain ⟨as, z1⟩ := iu I d x _ p h1 e1 r1
    obtain ⟨bs, z2⟩ := reads_L I ds xr _ pr h2 e2 r2
    exact ⟨_, .cons z1 z2⟩
  ·cases e
end
def jm (a b : D) : Option Bool := match toP a, toP b with
 | some p, some q => if (SeqAt.shaped p && SeqAt.shaped q) = true then some (PyData.eqv p q) else none
 | _, _ => none
def cN (a b : D) : Option D := match eqS a b with
 | some c => some (.bl c)
 | none => (jm a b).map D.bl
def cy (a b : D) : Option D := match eqS a b with
 | some c => some (.bl (!c))
 | none => (jm a b).map fun c => D.bl (!c)
def my (X : Cx) (g : Bool -> Bool) : R2 := fun x y H Q => ∃ (F : Fx) (a b : D) (c : Bool), Den X.K F H a x /\ Den X.K F H b y /\ jm a b = some c /\ Q (.bl (g c)) H
theorem nG {a b : D} {c : Bool} (h : jm a b = some c) : ∃ p q, toP a = some p /\ toP b = some q /\ SeqAt.shaped p = true /\ SeqAt.shaped q = true /\ c = PyData.eqv p q := by
 unfold jm at h
 split at h
 ·rename_i p q e1 e2
  split at h
  ·rename_i hs
   rw [Bool.and_eq_true] at hs
   cases h
   exact ⟨p, q, e1, e2, hs.1, hs.2, rfl⟩
  ·cases h
 ·cases h
theorem A1 {k : Nat} (hr : Room k X.A) : OpR X (compareOp .Eq) (my X id) := by
 intro pins s σ H x y v u Q I rx ry h
 obtain ⟨F, a, b, c, d1, d2, e, q⟩ := h
 obtain ⟨p, p', e1, e2, s1, s2, rfl⟩ := nG e
 obtain ⟨as, r1⟩ := iu I a x v p d1 e1 rx
 obtain ⟨bs, r2⟩ := iu I b y u p' d2 e2 ry
 exact eq_dataH r1 r2 s1 s2 hr.units ⟨.bl _, H, I, rfl, q⟩
theorem AZ {k : Nat} (hr : Room k X.A) : OpR X (compareOp .NotEq) (my X not) := by
 intro pins s σ H x y v u Q I rx ry h
 obtain ⟨F, a, b, c, d1, d2, e, q⟩ := h
 obtain ⟨p, p', e1, e2, s1, s2, rfl⟩ := nG e
 obtain ⟨as, r1⟩ := iu I a x v p d1 e1 rx
 obtain ⟨bs, r2⟩ := iu I b y u p' d2 e2 ry
 exact ne_dataH r1 r2 s1 s2 hr.units ⟨.bl _, H, I, rfl, q⟩
theorem eG {k : Nat} (hr : Room k X.A) : OpR X (compareOp .Eq) (fun x y H Q => rEq x y H Q \/ my X id x y H Q) := Ed.or (A1 hr)
theorem fU {k : Nat} (hr : Room k X.A) : OpR X (compareOp .NotEq) (fun x y H Q => rNe x y H Q \/ my X not x y H Q) := Ec.or (AZ hr)
theorem gm : bj X.K (fun x y H Q => rEq x y H Q \/ my X id x y H Q) cN := fun F H β Q d1 d2 d v1 v2 fr h1 h2 e k => by
 unfold cN at e
 split at e
 ·rename_i c q
  cases e
  obtain ⟨s1, s2⟩ := uC q h1 h2
  exact .inl ⟨s1, by rw [s2]; exact k _ H (To.refl fr) rfl⟩
 ·cases q : jm d1 d2 with
  | none => rw [q] at e; cases e
  | some c => rw [q] at e; cases e; exact .inr ⟨F, d1, d2, c, h1, h2, q, k _ H (To.refl fr) rfl⟩
theorem hW : bj X.K (fun x y H Q => rNe x y H Q \/ my X not x y H Q) cy := fun F H β Q d1 d2 d v1 v2 fr h1 h2 e k => by
 unfold cy at e
 split at e
 ·rename_i c q
  cases e
  obtain ⟨s1, s2⟩ := uC q h1 h2
  exact .inl ⟨s1, by rw [s2]; exact k _ H (To.refl fr) rfl⟩
 ·cases q : jm d1 d2 with
  | none => rw [q] at e; cases e
  | some c => rw [q] at e; cases e; exact .inr ⟨F, d1, d2, c, h1, h2, q, k _ H (To.refl fr) rfl⟩
theorem jl (i j : Int) : cN (.int i) (.int j) = some (.bl (decide (i = j))) := rfl
theorem jk (i j : Int) : cy (.int i) (.int j) = some (.bl (!decide (i = j))) := rfl
theorem kq (i j : Bool) : cN (.bl i) (.bl j) = some (.bl (decide (i = j))) := rfl
theorem km (i j : Bool) : cy (.bl i) (.bl j) = some (.bl (!decide (i = j))) := rfl
theorem kn (i j : Str) : cN (.str i) (.str j) = some (.bl (decide (i = j))) := rfl
theorem kl (i j : Str) : cy (.str i) (.str j) = some (.bl (!decide (i = j))) := rfl
mutual
theorem pM : ∀ p : PyData, p.canLay0 = true -> PyData.eqv p p = true
 | .none, _ => rfl
 | .bool b, _ => by simp [PyData.eqv]
 | .int b, _ => by simp [PyData.eqv]
 | .str b, _ => by simp [PyData.eqv]
 | .list xs, h => by
  unfold PyData.eqv
  exact eqv_reflL xs (by simpa [PyData.canLay0] using h)
 | .tuple xs, h => by
  unfold PyData.eqv
  exact eqv_reflL xs (by simpa [PyData.canLay0] using h)
 | .dict _, h => by simp [PyData.canLay0] at h
theorem eqv_reflL : ∀ ps : List PyData, PyData.canLayAll0 ps = true -> PyData.eqvAll ps ps = true
 | [], _ => rfl
 | p :: ps, h => by
  have h' : p.canLay0 = true /\ PyData.canLayAll0 ps = true := by simpa [PyData.canLayAll0] using h
  unfold PyData.eqvAll
  rw [pM p h'.1, eqv_reflL ps h'.2]; rfl
end
def ma (d : D) : Bool := match toP d with
 | some p => SeqAt.shaped p
 | none => false
theorem uH {d : D} (h : ma d = true) : jm d d = some true := by
 unfold ma at h
 unfold jm
 cases q : toP d with
 | none => rw [q] at h; cases h
 | some p =>
  rw [q] at h
  simp only [h, Bool.and_self, if_true]
  rw [pM p (SeqAt.canLay_of_shaped h)]
theorem vX {d : D} {c : Bool} (h : eqS d d = some c) : c = true := by
 cases d <;> first | (cases h; simp) | (cases h; rfl) | cases h
theorem zE {d : D} (h : ma d = true) : cy d d = some (.bl false) := by
 unfold cy
 cases q : eqS d d with
 | none => simp only [uH h]; rfl
 | some c => rw [vX q]; rfl
theorem yJ {C : Int -> Int -> Prop} {c : Int -> Int -> Bool} {g : Int -> Int -> Int} (hc : ∀ i j, c i j = true -> C i j) : bj K (ipC C g) (opI fun i j => if c i j = true then some (.int (g i j)) else none) := fun F H β Q d1 d2 d v1 v2 fr h1 h2 e k => by
 obtain ⟨i, j, rfl, rfl, e2⟩ := i6 e
 split at e2
 ·cases e2
  exact ⟨i, j, h1, h2, hc _ _ (by assumption), k _ H (To.refl fr) rfl⟩
 ·cases e2
def addI : D -> D -> Option D := opI fun i j => some (.int (i + j))
theorem mL : PIp X .Mult (ipC oG fun i j => i * j) := by
 intro pins s σ H x y v u Q I rx ry h
 obtain ⟨i, j, rfl, rfl, c, q⟩ := h
 obtain ⟨t, rfl⟩ := rx
 obtain ⟨t', rfl⟩ := ry
 exact imul_int ⟨.int _, H, I.tok _, ⟨_, rfl⟩, q⟩ (IntMulOk.of_bits (h9 c.1) (h9 c.2))
theorem mK : bj K (ipC oG fun i j => i * j) bb := yJ fun i j h => by
 simp only [Bool.and_eq_true, fP, decide_eq_true_eq] at h
 exact h
theorem vI : bj K (ipC oH fun i j => i / j) eS := yJ fun i j h => by
 simp only [Bool.and_eq_true, decide_eq_true_eq] at h
 exact h
abbrev cr := uV
theorem bH (hc : X.calm = true) : cQ X (.builtin "sum") (fun xs H Q => ∃ (a : Addr) (ns : List Int), xs = [.ref a] /\ SqL X.K H a (ns.map V.int) /\ Q (.int ns.sum) H) := nJ hc
theorem di : dg K (fun xs H Q => ∃ (a : Addr) (ns : List Int), xs = [.ref a] /\ SqL K H a (ns.map V.int) /\ Q (.int ns.sum) H) cr := Ei
def yX (H : Hp) (b l : Addr) : Prop := ∃ (cells : List Int) (i j : Int), H b = some (.lst [.ref l, .int i, .int j]) /\ H l = some (.lst (cells.map V.int)) /\ cells ≠ [] /\ cells.length <= 64 /\ (∀ c ∈ cells, 0 <= c) /\ 0 <= j
theorem zQ {n k : Nat} (h : k < n) : ixN n (k : Int) = some k := by
 unfold ixN
 rw [if_pos (by omega), if_pos (by omega)]
 simp
theorem Ey (ns : List Int) : ∃ ms : List Int, m5 (ns.map V.int) none (some 63) = ms.map V.int /\ ms.length <= 63 := by
 refine ⟨(ns.drop (HT.sIx ns.length 0 none)).take (HT.sIx ns.length ns.length (some 63) - HT.sIx ns.length 0 none), ?_, ?_⟩
 ·unfold m5
  rw [List.length_map, List.map_take, List.map_drop]
 ·rw [List.length_take]
  have : HT.sIx ns.length ns.length (some 63) <= 63 := by
   unfold HT.sIx
   simp
   omega
  omega
def D6 (K : PySem.W.Frag) : Sp := fun vs H Q _ => ∃ (a : Addr) (ns : List Int), vs = [.ref a] /\ SqL K H a (ns.map V.int) /\ ∀ (b l : Addr) (H' : Hp), H b = none -> H l = none -> yX H' b l -> bF H H' -> Q (.ref b) H'
def yx (K : PySem.W.Frag) : Sp := fun vs H Q _ => ∃ (a : Addr) (ns : List Int), vs = [.ref a] /\ SqL K H a (ns.map V.int) /\ ns.length <= 63 /\ ∀ H', Q (.bl true) H'
theorem Aa {H₀ H : Hp} {b l : Addr} {a : Addr} {n : Nat} (sm : bF H₀ H) (hb : H₀ b = none) (hl : H₀ l = none) (B : yX H b l) : ∃ β, β.ok /\ SOk K H₀ (fun c => if c = b \/ c = l then some 1 else none) (some (b, l)) H (none :: some (.sh .bag) :: List.replicate n none) β (some (.ref a) :: some (.ref b) :: List.replicate n none) := by
 obtain ⟨cells, i, j, e1, e2, h1, h2, h3, h4⟩ := B
 have nbl : b ≠ l := Eh e1 e2 (by
  intro z
  cases cells with
  | nil => exact h1 rfl
  | cons c r => simp at z)
 refine ⟨⟨cells, i, j⟩, ⟨h1, h2, h3, h4⟩, ⟨⟨fun c hc => ?_, fun b' l' e => ?_, fun b' l' e => ?_⟩, fun b' l' e => ?_, by simp, fun c hc => ?_, fun c k hc => (by
  have hc' : (if c = b \/ c = l then some 1 else none) = some (k + 2) := hc
  split at hc' <;> cases hc'), fun c k hc => (by
  have hc' : (if c = b \/ c = l then some 1 else none) = some (k + 2) := hc
  split at hc' <;> cases hc'), fun k s e => ?_⟩⟩
 ·have hc' : (if c = b \/ c = l then some 1 else none) ≠ (none : Option Nat) := hc
  split at hc'
  ·rename_i q
   rcases q with rfl | rfl
   ·rw [e1]; simp
   ·rw [e2]; simp
  ·exact absurd rfl hc'
 ·cases e
  refine ⟨?_, ?_, nbl⟩
  ·show (if b = b \/ b = l then some 1 else none) ≠ (none : Option Nat)
   rw [if_pos (.inl rfl)]; simp
  ·show (if l = b \/ l = l then some 1 else none) ≠ (none : Option Nat)
   rw [if_pos (.inr rfl)]; simp
 ·cases e
  exact ⟨e1, e2⟩
 ·cases e
  exact ⟨if_pos (.inl rfl), if_pos (.inr rfl)⟩
 ·cases q : H₀ c with
  | none => exact absurd q hc
  | some o => rw [sm c o q]; simp
 ·match k with
  | 0 => simp at e
  | 1 =>
   simp at e
   subst e
   exact ⟨.ref b, rfl, b, l, rfl, rfl⟩
  | k + 2 =>
   simp only [List.getElem?_cons_succ, List.getElem?_replicate] at e
   split at e <;> cases e
end
section
variable {P : Program} {w : World} {K : PySem.W.Frag} {mg : Str -> Option Value} {base : Heap}
theorem bq {x qual : Str} {st : Stmt} {f : Addr} {fd : FuncData} {N ps : List Str} {k : Nat} (n m : Nat) (g : G) (F : FunD K x qual st f fd) (S : FnScope N ps (aj st)) (hn : ps.length = n) (hm : N.length = m)
  (hbody : ∀ (cdv : Value) (A : Around) (outer : List Env) (s : Shared) (H : Hp) (E : XK), Room k (A.deeper (envOfC qual (aj st) s.heap.objs.size f cdv)) ->
   PSs (cX (CXE P w) P w K mg base N qual (aj st) f cdv A outer s H E) (cg st) (tG K H g (fun _ => E))) : FnOk P w K mg base (CXE P w) (k + 1) f fd ps (spF K n (aK m g)) := by
 subst hn hm
 exact zY F S hbody
end
end L2.Pu
namespace L2
open PySem PySem.Spec PyProof.Rows
theorem CmpScope.ofB {X : Cx} {scope : Scope} {Nc vars : List Str} {caps : List Nat} (k : scope.kind = .function) (nd : (scope.names.map (·.1)).Nodup)
  (fr : (scope.names.all fun y => y.2 != .free || (X.env.scope.names.lookup y.1 == some .cell || X.env.scope.names.lookup y.1 == some .free)) = true) (nm : Nc = vars ++ caps.map (fun j => X.N.getD j Str.empty))
  (cp : (caps.all fun j => decide (j < X.N.length) && scope.names.lookup (X.N.getD j Str.empty) == some .free) = true) : CmpScope X scope Nc vars caps := by
 refine ⟨k, nd, fun y hy e => ?_, nm, fun j hj => ?_⟩
 ·have := List.all_eq_true.mp fr y hy
  rw [e] at this
  simp only [bne_self_eq_false, Bool.false_or, Bool.or_eq_true, beq_iff_eq] at this
  exact this
 ·have := List.all_eq_true.mp cp j hj
  simp only [Bool.and_eq_true, decide_eq_true_eq, beq_iff_eq] at this
  exact this
end L2
namespace L2.Pu
theorem kr (i j : Int) : eY (.int i) (.int j) = some (.int (i + j)) := rfl
theorem iH (i j : Int) : addI (.int i) (.int j) = some (.int (i + j)) := rfl
theorem kj (i j : Int) : iS (.int i) (.int j) = some (.int (i - j)) := rfl
theorem gq (i j : Int) : kI (.int i) (.int j) = if decide (0 < j) = true then some (.int (i % j)) else none := rfl
theorem mZ (i j : Int) : ltD (.int i) (.int j) = some (.bl (decide (i < j))) := rfl
theorem m3 (i j : Int) : leD (.int i) (.int j) = some (.bl (decide (i <= j))) := rfl
theorem ig (i j : Int) : gtD (.int i) (.int j) = some (.bl (decide (j < i))) := rfl
theorem m4 (i j : Int) : geD (.int i) (.int j) = some (.bl (decide (j <= i))) := rfl
end L2.Pu
namespace L2.Pu
open PySem PySem.Spec
def okD : Nat -> D -> Prop
 | _, .int _ => True
 | _, .bl _ => True
 | _, .str _ => True
 | _, .non => True
 | n + 1, .lst xs => xs.length <= sizeLine /\ ∀ x ∈ xs, okD n x
 | n + 1, .tup xs => xs.length <= sizeLine /\ ∀ x ∈ xs, okD n x
 | _, _ => False
noncomputable def h8 (rec : List D -> M D) : G :=
  ai (gIf (cW (aq dZ (ae (aa 1) (ae (aq cu (ae (fC (.ty "list")) (ae (fC (.ty "tuple")) (ah)))) (ah))))) (ai (gIf (da (fB (f2 (cy) (aq cb (ae (aa 1) (ae (fC (.ty "list")) (ah)))) (aq cb (ae (aa 0) (ae (fC (.ty "list")) (ah)))))) (fB (f2 (cy) (aq cb (ae (aa 1) (ae (fC (.ty "tuple")) (ah)))) (aq cb (ae (aa 0) (ae (fC (.ty "tuple")) (ah))))))) (aE (fC (.bl false))) (gNil))
  (ai (gIf (fB (f2 (cy) (aq bE (ae (aa 0) (ah))) (aq bE (ae (aa 1) (ah))))) (aE (fC (.bl false))) (gNil))
  (aE (f2 (inD true) (fC (.bl false)) (aT 2 [] (d5 (ae (aa 0) (ae (aa 1) (ah)))) (tgT (dk (tgC 0) (dk (tgC 1) gA))) (fun _ => M.ret true) (cEm (au rec (ae (aa 0) (ae (aa 1) (ah)))))))))) (gNil))
  (ai (gIf (fB (f2 (fZ) (aa 1) (fC .non))) (aE (f2 (fZ) (aa 0) (fC .non))) (gNil))
  (ai (gIf (da (fB (f2 (cy) (aq cb (ae (aa 1) (ae (fC (.ty "str")) (ah)))) (aq cb (ae (aa 0) (ae (fC (.ty "str")) (ah)))))) (fB (f2 (cy) (aq cb (ae (aa 1) (ae (fC (.ty "bool")) (ah)))) (aq cb (ae (aa 0) (ae (fC (.ty "bool")) (ah))))))) (aE (fC (.bl false))) (gNil))
  (aE (ji (aq dZ (ae (aa 0) (ae (aq cu (ae (fC (.ty "int")) (ae (fC (.ty "str")) (ah)))) (ah)))) (f2 (cN) (aa 0) (aa 1))))))
noncomputable def dW : Nat -> List D -> M D
 | 0 => fun _ => M.fail
 | n + 1 => aK 2 (h8 (dW n))
theorem ff : (0 : Nat) + 1 + 1 <= sizeLine := by decide
theorem ef : (2 : Nat) <= sizeLine := by decide
theorem kS {rec : List D -> M D} {β : Bg} : ∀ xs : List D, (∀ x ∈ xs, rec [x, x] β = some (.ok (.bl true), β)) ->
  cLp (tgT (dk (tgC 0) (dk (tgC 1) gA))) (fun _ => M.ret true) (cEm (au rec (ae (aa 0) (ae (aa 1) (ah))))) (cR xs xs) [none, none] β = some (.ok (List.replicate xs.length (.bl true)), β)
 | [], _ => rfl
 | x :: xs, h => by
  have ih := kS xs fun y hy => h y (List.mem_cons_of_mem _ hy)
  have hx := h x List.mem_cons_self
  unfold cR cLp
  simp only [tgT, dk, gA, tgC, cEm, Option.isNone_none, Option.isNone_some, Option.bind_some, List.set_cons_zero, List.set_cons_succ, List.getD_cons_zero, List.getD_cons_succ, if_true, au, ae, ah, aa, M.bind, M.ret, M.ofO, hx, ih, reduceIte]
  rfl
theorem pR (n : Nat) : (List.replicate n (D.bl true)).all dM = true := by
 induction n with
 | zero => rfl
 | succ n ih => rw [List.replicate_succ, List.all_cons, ih]; rfl
theorem qJ (n : Nat) : inB (.bl false) (List.replicate n (D.bl true)) = false := by
 unfold inB
 induction n with
 | zero => rfl
 | succ n ih => rw [List.replicate_succ, List.any_cons, ih]; rfl
theorem mw : ∀ (n : Nat) (d : D) (β : Bg), okD n d -> dW (n + 1) [d, d] β = some (.ok (.bl true), β)
 | n, .int i, β, _ => by
  unfold dW aK h8
  simp only [ai, aG, eP, dz, aE, gIf, Pu.gNil, mT, fD, eR, mR, bN, mM, hNo, aa, fC, f1, f2, ah, ae, aq, au, fB, cW, ki, da, cw, ji, fOr, mW, fIf, cn, ba, bD, d5, cP, bZ, dy, M.bind, M.ret, M.ofO, M.fail, vw, vwA, stD, List.map_cons, List.map_nil, List.set_cons_zero, List.set_cons_succ, List.getD_cons_zero, List.getD_cons_succ, List.length_cons, List.length_nil, List.replicate_zero, List.replicate_succ, List.append_nil, List.cons_append, List.nil_append, Nat.sub_self, Nat.reduceSub, Nat.reduceAdd, Nat.reduceLT, Nat.reduceLeDiff, Int.reduceLT, Int.reduceLE, kr, iH, kj, gq, mZ, m3, ig, m4, jl, jk, kq, km, kn, kl, beq_self_eq_true, asB, iR, fZ, ke, isN, mH, cu, dU, sgT, cT, eC, sgN, Option.map_some, Option.bind_some, Option.map_none, bE, f9, cb, dZ, tyD, ic, ib, if_true, if_false, reduceIte, Bool.not_true, Bool.not_false, decide_true, decide_false, Bool.false_eq_true, ef, ff]
 | n, .bl i, β, _ => by
  unfold dW aK h8
  simp only [ai, aG, eP, dz, aE, gIf, Pu.gNil, mT, fD, eR, mR, bN, mM, hNo, aa, fC, f1, f2, ah, ae, aq, au, fB, cW, ki, da, cw, ji, fOr, mW, fIf, cn, ba, bD, d5, cP, bZ, dy, M.bind, M.ret, M.ofO, M.fail, vw, vwA, stD, List.map_cons, List.map_nil, List.set_cons_zero, List.set_cons_succ, List.getD_cons_zero, List.getD_cons_succ, List.length_cons, List.length_nil, List.replicate_zero, List.replicate_succ, List.append_nil, List.cons_append, List.nil_append, Nat.sub_self, Nat.reduceSub, Nat.reduceAdd, Nat.reduceLT, Nat.reduceLeDiff, Int.reduceLT, Int.reduceLE, kr, iH, kj, gq, mZ, m3, ig, m4, jl, jk, kq, km, kn, kl, beq_self_eq_true, asB, iR, fZ, ke, isN, mH, cu, dU, sgT, cT, eC, sgN, Option.map_some, Option.bind_some, Option.map_none, bE, f9, cb, dZ, tyD, ic, ib, if_true, if_false, reduceIte, Bool.not_true, Bool.not_false, decide_true, decide_false, Bool.false_eq_true, ef, ff]
 | n, .str i, β, _ => by
  unfold dW aK h8
  simp only [ai, aG, eP, dz, aE, gIf, Pu.gNil, mT, fD, eR, mR, bN, mM, hNo, aa, fC, f1, f2, ah, ae, aq, au, fB, cW, ki, da, cw, ji, fOr, mW, fIf, cn, ba, bD, d5, cP, bZ, dy, M.bind, M.ret, M.ofO, M.fail, vw, vwA, stD, List.map_cons, List.map_nil, List.set_cons_zero, List.set_cons_succ, List.getD_cons_zero, List.getD_cons_succ, List.length_cons, List.length_nil, List.replicate_zero, List.replicate_succ, List.append_nil, List.cons_append, List.nil_append, Nat.sub_self, Nat.reduceSub, Nat.reduceAdd, Nat.reduceLT, Nat.reduceLeDiff, Int.reduceLT, Int.reduceLE, kr, iH, kj, gq, mZ, m3, ig, m4, jl, jk, kq, km, kn, kl, beq_self_eq_true, asB, iR, fZ, ke, isN, mH, cu, dU, sgT, cT, eC, sgN, Option.map_some, Option.bind_some, Option.map_none, bE, f9, cb, dZ, tyD, ic, ib, if_true, if_false, reduceIte, Bool.not_true, Bool.not_false, decide_true, decide_false, Bool.false_eq_true, ef, ff]
 | n, .non, β, _ => by
  unfold dW aK h8
  simp only [ai, aG, eP, dz, aE, gIf, Pu.gNil, mT, fD, eR, mR, bN, mM, hNo, aa, fC, f1, f2, ah, ae, aq, au, fB, cW, ki, da, cw, ji, fOr, mW, fIf, cn, ba, bD, d5, cP, bZ, dy, M.bind, M.ret, M.ofO, M.fail, vw, vwA, stD, List.map_cons, List.map_nil, List.set_cons_zero, List.set_cons_succ, List.getD_cons_zero, List.getD_cons_succ, List.length_cons, List.length_nil, List.replicate_zero, List.replicate_succ, List.append_nil, List.cons_append, List.nil_append, Nat.sub_self, Nat.reduceSub, Nat.reduceAdd, Nat.reduceLT, Nat.reduceLeDiff, Int.reduceLT, Int.reduceLE, kr, iH, kj, gq, mZ, m3, ig, m4, jl, jk, kq, km, kn, kl, beq_self_eq_true, asB, iR, fZ, ke, isN, mH, cu, dU, sgT, cT, eC, sgN, Option.map_some, Option.bind_some, Option.map_none, bE, f9, cb, dZ, tyD, ic, ib, if_true, if_false, reduceIte, Bool.not_true, Bool.not_false, decide_true, decide_false, Bool.false_eq_true, ef, ff]
 | n + 1, .lst xs, β, h => by
  have h' : xs.length <= sizeLine /\ ∀ x ∈ xs, okD n x := h
  have c := kS (rec := dW (n + 1)) (β := β) xs fun x hx => mw n x β (h'.2 x hx)
  have hr : (List.replicate xs.length (D.bl true)).length <= sizeLine := by rw [List.length_replicate]; exact h'.1
  unfold dW aK h8
  simp only [ai, aG, eP, dz, aE, gIf, Pu.gNil, mT, fD, eR, mR, bN, mM, hNo, aa, fC, f1, f2, ah, ae, aq, au, fB, cW, ki, da, cw, ji, fOr, mW, fIf, cn, ba, bD, d5, cP, bZ, dy, M.bind, M.ret, M.ofO, M.fail, vw, vwA, stD, List.map_cons, List.map_nil, List.set_cons_zero, List.set_cons_succ, List.getD_cons_zero, List.getD_cons_succ, List.length_cons, List.length_nil, List.replicate_zero, List.replicate_succ, List.append_nil, List.cons_append, List.nil_append, Nat.sub_self, Nat.reduceSub, Nat.reduceAdd, Nat.reduceLT, Nat.reduceLeDiff, Int.reduceLT, Int.reduceLE, kr, iH, kj, gq, mZ, m3, ig, m4, jl, jk, kq, km, kn, kl, beq_self_eq_true, asB, iR, fZ, ke, isN, mH, cu, dU, sgT, cT, eC, sgN, Option.map_some, Option.bind_some, Option.map_none, bE, f9, cb, dZ, tyD, ic, ib, if_true, if_false, reduceIte, Bool.not_true, Bool.not_false, decide_true, decide_false, Bool.false_eq_true, ef, ff, aT, qY, dR, cSt, c, hr, inD, pR, qJ, dM, Bool.and_self]
 | n + 1, .tup xs, β, h => by
  have h' : xs.length <= sizeLine /\ ∀ x ∈ xs, okD n x := h
  have c := kS (rec := dW (n + 1)) (β := β) xs fun x hx => mw n x β (h'.2 x hx)
  have hr : (List.replicate xs.length (D.bl true)).length <= sizeLine := by rw [List.length_replicate]; exact h'.1
  unfold dW aK h8
  simp only [ai, aG, eP, dz, aE, gIf, Pu.gNil, mT, fD, eR, mR, bN, mM, hNo, aa, fC, f1, f2, ah, ae, aq, au, fB, cW, ki, da, cw, ji, fOr, mW, fIf, cn, ba, bD, d5, cP, bZ, dy, M.bind, M.ret, M.ofO, M.fail, vw, vwA, stD, List.map_cons, List.map_nil, List.set_cons_zero, List.set_cons_succ, List.getD_cons_zero, List.getD_cons_succ, List.length_cons, List.length_nil, List.replicate_zero, List.replicate_succ, List.append_nil, List.cons_append, List.nil_append, Nat.sub_self, Nat.reduceSub, Nat.reduceAdd, Nat.reduceLT, Nat.reduceLeDiff, Int.reduceLT, Int.reduceLE, kr, iH, kj, gq, mZ, m3, ig, m4, jl, jk, kq, km, kn, kl, beq_self_eq_true, asB, iR, fZ, ke, isN, mH, cu, dU, sgT, cT, eC, sgN, Option.map_some, Option.bind_some, Option.map_none, bE, f9, cb, dZ, tyD, ic, ib, if_true, if_false, reduceIte, Bool.not_true, Bool.not_false, decide_true, decide_false, Bool.false_eq_true, ef, ff, aT, qY, dR, cSt, c, hr, inD, pR, qJ, dM, Bool.and_self]
 | 0, .lst _, _, h => h.elim
 | 0, .tup _, _, h => h.elim
 | _, .ty _, _, h => by cases ‹Nat› <;> exact h.elim
 | _, .txt, _, h => by cases ‹Nat› <;> exact h.elim
 | _, .scr _, _, h => by cases ‹Nat› <;> exact h.elim
 | 0, .obj _ _ _, _, h => h.elim
 | _ + 1, .obj _ _ _, _, h => h.elim
 | _, .bag, _, h => by cases ‹Nat› <;> exact h.elim
 | 0, .adr _, _, h => h.elim
 | _ + 1, .adr _, _, h => h.elim
end L2.Pu
namespace L2.Pu
open PySem PySem.Spec
theorem m6 {nv : Nat} {caps : List Nat} {it : Dn -> M (List D)} {tg : TgF} {tt : Dn -> M Bool} {b : Dn -> M (List D)} {δ : Dn} {β β1 β2 : Bg} {ds os : List D} (h1 : it δ β = some (.ok ds, β1)) (h2 : cLp tg tt b ds (cSt nv caps δ) β1 = some (.ok os, β2)) (h3 : os.length <= sizeLine) : aT nv caps it tg tt b δ β = some (.ok (.lst os), β2) := by
 unfold aT
 simp only [h1, h2, h3, if_true]
def plD : Nat -> D -> Prop
 | _, .int _ => True
 | _, .bl _ => True
 | _, .non => True
 | n + 1, .lst xs => ∀ x ∈ xs, plD n x
 | n + 1, .tup xs => ∀ x ∈ xs, plD n x
 | _, _ => False
theorem zk : ∀ (n : Nat) (d : D), plD n d -> ∃ p, toP d = some p /\ p.canLay0 = true /\ p.depth <= n + 1 := by
 have many : ∀ (n : Nat) (xs : List D), (∀ x ∈ xs, ∃ p, toP x = some p /\ p.canLay0 = true /\ p.depth <= n) -> ∃ ps, toPs xs = some ps /\ PyData.canLayAll0 ps = true /\ PyData.depthAll ps <= n := by
  intro n xs
  induction xs with
  | nil => intro _; exact ⟨[], rfl, rfl, by simp [PyData.depthAll]⟩
  | cons x xs ih =>
   intro h
   obtain ⟨p, h1, h2, h3⟩ := h x List.mem_cons_self
   obtain ⟨ps, g1, g2, g3⟩ := ih fun y hy => h y (List.mem_cons_of_mem _ hy)
   refine ⟨p :: ps, ?_, ?_, ?_⟩
   ·unfold toPs; simp only [h1, g1]
   ·simp [PyData.canLayAll0, h2, g2]
   ·simp only [PyData.depthAll]; omega
 intro n
 induction n with
 | zero =>
  intro d h
  cases d with
  | int i => exact ⟨.int i, rfl, rfl, by simp [PyData.depth]⟩
  | bl i => exact ⟨.bool i, rfl, rfl, by simp [PyData.depth]⟩
  | non => exact ⟨.none, rfl, rfl, by simp [PyData.depth]⟩
  | _ => exact h.elim
 | succ n ih =>
  intro d h
  cases d with
  | int i => exact ⟨.int i, rfl, rfl, by simp [PyData.depth]⟩
  | bl i => exact ⟨.bool i, rfl, rfl, by simp [PyData.depth]⟩
  | non => exact ⟨.none, rfl, rfl, by simp [PyData.depth]⟩
  | lst xs =>
   obtain ⟨ps, g1, g2, g3⟩ := many (n + 1) xs fun x hx => ih x (h x hx)
   exact ⟨.list ps, by unfold toP; simp [g1], by simp [PyData.canLay0, g2], by simp only [PyData.depth]; omega⟩
  | tup xs =>
   obtain ⟨ps, g1, g2, g3⟩ := many (n + 1) xs fun x hx => ih x (h x hx)
   exact ⟨.tuple ps, by unfold toP; simp [g1], by simp [PyData.canLay0, g2], by simp only [PyData.depth]; omega⟩
  | _ => exact h.elim
theorem v4 {d : D} (n : Nat) (h : plD n d) (hn : n <= 60) : ma d = true := by
 obtain ⟨p, h1, h2, h3⟩ := zk n d h
 unfold ma
 simp only [h1, SeqAt.shaped, h2, Bool.true_and, decide_eq_true_eq]
 omega
end L2.Pu
namespace L2.Pu
open PySem PySem.Spec PyProof.Rows
section
variable {X : Cx} {E : St -> XK} {K : PySem.W.Frag} {a b : Expr} {es : List Expr} {pos : Pos}
theorem To.none {F : Fx} {H H1 : Hp} {β1 : Bg} {p : Addr} (t : To F H H1 β1) (h : H1 p = none) : H p = none := by
 cases q : H p with
 | none => rfl
 | some o =>
  have : H1 p = some o := t.kp p o q fun b l e => by
   obtain ⟨z1, z2⟩ := t.fr.bag b l e
   exact ⟨fun w => (by subst w; rw [z1] at h; cases h), fun w => (by subst w; rw [z2] at h; cases h)⟩
  rw [this] at h; cases h
def Fx.but (F : Fx) (a : Addr) : Fx := ⟨fun c => F.A c \/ c = a, F.bg⟩
theorem Fx.tr_but {F : Fx} {H H1 : Hp} {β1 : Bg} {p : Addr} (fr : Fr F H β1) (hp : H p = none) (hs : ∀ c o, H c = some o -> H1 c = some o) : Tr F H (F.but p) H1 := ⟨fun c h1 h2 z => by
 rcases z with z | z
 ·exact h1 z
 ·subst z; exact h2 hp, fun c o _ h => hs c o h, rfl⟩
theorem Fx.tr_of {F : Fx} {H : Hp} {p : Addr} : Tr (F.but p) H F H := ⟨fun c h _ z => h (Or.inl z), fun _ _ _ h => h, rfl⟩
def j3 (K : PySem.W.Frag) (F : Fx) (H0 H : Hp) (ds : List D) (v : V) : Prop := ∃ a xs, v = .ref a /\ H0 a = none /\ H a = some (.lst xs) /\ DenL K (F.but a) H ds xs
def tVO (K : PySem.W.Frag) (f : Dn -> M (List D)) (E : St -> XK) : TE := fun σ H Q => ∃ F δ β, Fr F H β /\ VOk K F H δ σ /\ run (j3 K F H) F E σ (f δ) H Q β
def tVG (K : PySem.W.Frag) (f : Dn -> M (List (List D))) (E : St -> XK) : TE := fun σ H Q => ∃ F δ β, Fr F H β /\ VOk K F H δ σ /\ run (pT K F H) F E σ (f δ) H Q β
def szL (ds : List D) : Option (List D) := if ds.length <= sizeLine then some ds else none
theorem j3.new {F : Fx} {H H1 : Hp} {β1 : Bg} {p : Addr} {ds : List D} {xs : List V} (t : To F H H1 β1) (hp : H1 p = none) (hd : DenL K F H1 ds xs) : j3 K F H (upd H1 p (.lst xs)) ds (.ref p) :=
 ⟨p, xs, rfl, t.none hp, aw, DenL.tr (Fx.tr_but t.fr hp fun c o h => by rw [upd_ne (ne_of_none h hp)]; exact h) _ _ hd⟩
theorem DenL.rep {F : Fx} {H : Hp} {ds : List D} {xs : List V} (h : DenL K F H ds xs) : ∀ n : Nat, DenL K F H (List.replicate n ds).flatten (List.replicate n xs).flatten
 | 0 => rfl
 | n + 1 => by
  rw [List.replicate_succ, List.flatten_cons, List.replicate_succ, List.flatten_cons]
  exact DenL.append h (DenL.rep h n)
def o9 (ds : List D) (d : D) : Option (List D) := match d with
 | .int k => if (decide (-(2 ^ 63) <= k) && decide (k < 2 ^ 63) && decide (ds.length <= sizeLine) && decide (ds.length * k.toNat <= sizeLine)) = true then some (List.replicate k.toNat ds).flatten else none
 | _ => none
def rD (g : Dn -> M (List D)) (f : Dn -> M D) : Dn -> M (List D) := fun δ => M.bind (g δ) fun ds => M.bind (M.ofO (szL ds)) fun ds => M.bind (f δ) fun d => M.ofO (o9 ds d)
theorem Ef {g : Dn -> M (List D)} {f : Dn -> M D} {pos' : Pos} (ha : PA X es (tVA X.K g E)) (hb : PE X b (tV X.K f E)) : PE X (.BinOp (.List es pos') .Mult b pos) (tVO X.K (rD g f) E) :=
 (c9 AY (lH ha) hb).imp fun σ H Q h_ => ex6 h_ fun F δ β fr vk r => ⟨F, δ, β, fr, vk, (run.bind (R := DenL X.K F) r).mono fun vs H1 h_ => by
  obtain ⟨ds, β1, t, hd, r1⟩ := h_
  obtain ⟨ds', e3, r2⟩ := run.ofO_bind r1
  unfold szL at e3
  split at e3
  ·rename_i hz
   cases e3
   refine ⟨by rw [← hd.length]; exact hz, fun p hp => ?_⟩
   have t1 := t.fr.upd (.lst vs) hp
   have hA := t.fr.fresh hp
   refine ⟨F, δ, β1, t1.fr, (vk.tr (t.tr fr)).tr (t1.tr t.fr), ?_⟩
   obtain ⟨rr, β2, e, h⟩ := r2
   have r2' : run (j3 X.K F H) F E σ (M.bind (f δ) fun d => M.ofO (o9 ds d)) (upd H1 p (.lst vs)) Q β1 := by
    refine ⟨rr, β2, e, ?_⟩
    cases rr with
    | ok d => exact fun v H' t2 => h v H' (t1.trans t2)
    | error C => exact fun H' t2 => h H' (t1.trans t2)
   refine (run.bind (R := Den X.K F) r2').mono fun w H2 h_ => ex5 h_ fun d β3 t2 hw r3 => ?_
   obtain ⟨os, e4, k⟩ := run.ofO r3
   unfold o9 at e4
   split at e4
   ·split at e4
    ·rename_i kk hk
     cases e4
     simp only [Bool.and_eq_true, decide_eq_true_eq] at hk
     cases hw
     have hp2 : H2 p = some (.lst vs) := t2.kp p _ aw fun b l q => ⟨fun z => hA (z ▸ (fr.bgA b l q).1), fun z => hA (z ▸ (fr.bgA b l q).2.1)⟩
     have tt := t1.trans t2
     exact ⟨p, _, vs, rfl, rfl, hp2, hk.1.1.1, hk.1.1.2, by rw [← hd.length]; exact hk.2, fun q hq => k _ _ (t2.fr.upd _ hq) (j3.new (t.trans tt) hq ((DenL.tr (tt.tr t.fr) _ _ hd).rep _))⟩
    ·cases e4
   ·cases e4
  ·cases e3⟩
def kT (tg : TgF) (tt : Dn -> M Bool) (b : Dn -> M (List (List Pu.D))) : List Pu.D -> Dn -> M (List (List Pu.D))
 | [], _ => M.ret []
 | d :: ds, δ => match tg d δ with
  | none => M.fail
  | some δ1 => M.bind (tt δ1) fun c => M.bind (if c = true then b δ1 else M.ret []) fun o => M.bind (kT tg tt b ds δ) fun os => M.ret (o ++ os)
def RwA (K : PySem.W.Frag) (F : Fx) (D : Addr) (H0 H : Hp) (as : List (List Pu.D)) (acc : List V) : Prop := (∀ c, H0 c ≠ none -> H c ≠ none) /\ ∃ rs, acc = rs.map V.ref /\ (D :: rs).Nodup /\ RowL K F H (fun r => H0 r = none) as rs
theorem RwA.mono {F : Fx} {D : Addr} {H0 H H1 : Hp} {β β1 : Bg} {as : List (List Pu.D)} {acc : List V} (hA : F.A D) (h0 : ∀ b l, F.bg = some (b, l) -> H0 b ≠ none /\ H0 l ≠ none) (fr : Fr F H β) (t : ToD F D H H1 β1) (h : RwA K F D H0 H as acc) : RwA K F D H0 H1 as acc := by
 obtain ⟨cv, rs, e, nd, rl⟩ := h
 refine ⟨fun c hc z => ?_, rs, e, nd, RowL.tr (t.tr fr hA) rl fun r xs hr p q => ⟨p, t.kp r _ q (fun z => ?_) fun b l w => ⟨fun z => ?_, fun z => ?_⟩⟩⟩
 ·cases q : H c with
  | none => exact cv c hc q
  | some o =>
   by_cases hd : c = D
   ·subst hd; exact t.fr.occ _ hA z
   ·by_cases hb : ∃ b l, F.bg = some (b, l) /\ (c = b \/ c = l)
    ·obtain ⟨b, l, w, hcb⟩ := hb
     rcases hcb with rfl | rfl
     ·exact t.fr.occ _ (fr.bgA _ _ w).1 z
     ·exact t.fr.occ _ (fr.bgA _ _ w).2.1 z
    ·rw [t.kp c o q hd fun b l w => ⟨fun y => hb ⟨b, l, w, .inl y⟩, fun y => hb ⟨b, l, w, .inr y⟩⟩] at z
     cases z
 ·subst z; exact (List.nodup_cons.mp nd).1 hr
 ·subst z; exact (h0 _ _ w).1 p
 ·subst z; exact (h0 _ _ w).2 p
def oF (K : PySem.W.Frag) (D : Addr) (tb : TB) (f : Dn -> M (List (List Pu.D))) : Prop := ∀ (F : Fx) (H0 H : Hp) (δ : Dn) (β β' : Bg) (σ : St) (acc : List V) (as os : List (List Pu.D)) (Q : St -> Hp -> Prop), Fr F H β -> F.A D -> (∀ b l, F.bg = some (b, l) -> D ≠ b /\ D ≠ l) -> (∀ b l, F.bg = some (b, l) -> H0 b ≠ none /\ H0 l ≠ none) -> VOk K F H δ σ -> H D = some (.lst acc) -> RwA K F D H0 H as acc ->
 f δ β = some (.ok os, β') -> as.length + os.length <= sizeLine -> (∀ σ1 H1 acc1, ToD F D H H1 β' -> VOk K F H1 δ σ1 -> H1 D = some (.lst acc1) -> RwA K F D H0 H1 (as ++ os) acc1 -> Q σ1 H1) -> tb σ H Q
def pP (f : Dn -> M (List Pu.D)) : Dn -> M (List (List Pu.D)) := fun δ => M.bind (f δ) fun d => M.ret [d]
theorem RowL.snoc {F : Fx} {H : Hp} {P : Addr -> Prop} {ds : List Pu.D} {r : Addr} {xs : List V} (p : P r) (h1 : H r = some (.lst xs)) (h2 : DenL K F H ds xs) : ∀ {rows : List (List Pu.D)} {rs : List Addr}, RowL K F H P rows rs -> RowL K F H P (rows ++ [ds]) (rs ++ [r])
 | [], [], _ => ⟨p, ⟨xs, h1, h2⟩, trivial⟩
 | _ :: _, _ :: _, h => ⟨h.1, h.2.1, RowL.snoc p h1 h2 h.2.2⟩
 | [], _ :: _, h => h.elim
 | _ :: _, [], h => h.elim
theorem zH {D : Addr} {f : Dn -> M (List Pu.D)} : oF K D (rV D (tVO K f E0)) (pP f) := fun F H0 H δ β β' σ acc as os Q fr hA hb h0 vk hD hd e hz k => by
 obtain ⟨d, β1, e1, e2⟩ := M.bind_inv e
 cases e2
 refine ⟨F, δ, β, fr, vk, E0.run e1 fun v H1 t hv => ?_⟩
 have hD1 := t.kp D _ hD hb
 have hd1 := hd.mono hA h0 fr (t.toD D)
 obtain ⟨r, xs, rfl, n0, n1, n2⟩ := hv
 obtain ⟨cv, rs, ea, nd, rl⟩ := hd1
 obtain ⟨cv0, rs0, ea0, nd0, rl0⟩ := hd
 have hlen : acc.length = as.length := by rw [ea, List.length_map, rl.len]
 have ers : rs0 = rs := by
  have : rs0.map V.ref = rs.map V.ref := ea0.symm.trans ea
  exact List.map_inj_right (fun a b q => by cases q; rfl) |>.mp this
 subst ers
 have nD : r ≠ D := fun z => by subst z; rw [hD] at n0; cases n0
 have nr : r ∉ rs0 := fun z => by
  obtain ⟨_, ys, q⟩ := rl0.all r z
  rw [q] at n0; cases n0
 have h0r : H0 r = none := by
  cases q : H0 r with
  | none => rfl
  | some o => exact absurd n0 (cv0 r (by rw [q]; simp))
 refine ⟨acc, hD1, by rw [hlen]; simp at hz; omega, ?_⟩
 have tD : ToD F D H1 (upd H1 D (.lst (acc ++ [.ref r]))) β' := by
  refine ⟨fun a o h n _ => by rw [upd_ne n]; exact h, fun a h q => ?_, fr.bgA, fun b l q => ?_⟩
  ·by_cases z : a = D
   ·subst z; rw [aw] at q; cases q
   ·rw [upd_ne z] at q; exact t.fr.occ a h q
  ·rw [upd_ne (hb b l q).1.symm, upd_ne (hb b l q).2.symm]
   exact t.fr.bag b l q
 have tt := tD.tr t.fr hA
 refine k σ _ _ ((t.toD D).trans tD) (vk.tr ((t.tr fr).trans tt)) aw (RwA.mono hA h0 t.fr tD ⟨cv, rs0 ++ [r], by rw [ea, List.map_append]; rfl, ?_, RowL.snoc h0r n1 (DenL.tr Fx.tr_of _ _ n2) rl⟩)
 rw [← List.cons_append, List.nodup_append]
 refine ⟨nd0, by simp, fun x hx y hy => ?_⟩
 obtain rfl : y = r := by simpa using hy
 rcases List.mem_cons.mp hx with rfl | hx
 ·exact nD.symm
 ·exact fun z => nr (z ▸ hx)
end
section
variable {X : Cx} {E : St -> XK} {K : PySem.W.Frag}
theorem zG {D : Addr} {J : It} {g : TG} {tg : TgF} {tt : Dn -> M Bool} {tb : TB} {b : Dn -> M (List (List Pu.D))} (hg : e8 K g tg) (sg : gQ tg) (hb : oF K D tb b) {F : Fx} {H0 H : Hp} {δ : Dn} {β β' : Bg} {σ : St} {acc : List V} {as os : List (List Pu.D)} {ds : List Pu.D} {Q : St -> Hp -> Prop} (fr : Fr F H β) (hA : F.A D) (hn : ∀ b l, F.bg = some (b, l) -> D ≠ b /\ D ≠ l) (h0 : ∀ b l, F.bg = some (b, l) -> H0 b ≠ none /\ H0 l ≠ none) (vk : VOk K F H δ σ) (hD : H D = some (.lst acc)) (hd : RwA K F D H0 H as acc)
  (it : ItD K J F H ds) (e : kT tg tt b ds δ β = some (.ok os, β')) (hz : as.length + os.length <= sizeLine) (k : ∀ σ1 H1 acc1, ToD F D H H1 β' -> VOk K F H1 δ σ1 -> H1 D = some (.lst acc1) -> RwA K F D H0 H1 (as ++ os) acc1 -> Q σ1 H1) : eV J g (tVT K tt E0) tb σ H Q := by
 refine ⟨fun i m σ1 H1 => m + i = ds.length /\ ∃ β1 acc1 as1 os1, ToD F D H H1 β1 /\ VOk K F H1 δ σ1 /\ H1 D = some (.lst acc1) /\ RwA K F D H0 H1 as1 acc1 /\ kT tg tt b (ds.drop i) δ β1 = some (.ok os1, β') /\ as1 ++ os1 = as ++ os,
  ⟨ds.length, by omega, β, acc, as, os, ⟨fun _ _ h _ _ => h, fr⟩, vk, hD, hd, e, rfl⟩, ?_⟩
 rintro i m σ1 H1 ⟨hm, β1, acc1, as1, os1, t1, vk1, hD1, hd1, e1, ea⟩
 have tr1 := t1.tr fr hA
 obtain ⟨iy, is⟩ := it F H1 β1 tr1 t1.fr i
 cases hi : ds[i]? with
 | none =>
  have hl : ds.length <= i := List.getElem?_eq_none_iff.mp hi
  rw [List.drop_eq_nil_of_le hl] at e1
  cases e1
  refine .inl ⟨is (by omega), k σ1 H1 acc1 t1 vk1 hD1 ?_⟩
  rw [← ea, List.append_nil]
  exact hd1
 | some d =>
  have hl : i < ds.length := (List.getElem?_eq_some_iff.mp hi).1
  obtain ⟨go, yl⟩ := iy d hi
  have ed : ds.drop i = d :: ds.drop (i + 1) := by
   rw [List.drop_eq_getElem_cons hl]
   congr 1
   exact Option.some.inj ((List.getElem?_eq_getElem hl).symm.trans hi)
  rw [ed] at e1
  unfold kT at e1
  cases q : tg d δ with
  | none => rw [q] at e1; cases e1
  | some δ1 =>
   rw [q] at e1
   obtain ⟨c, β2, e2, e3⟩ := M.bind_inv e1
   obtain ⟨o, β3, e4, e5⟩ := M.bind_inv e3
   obtain ⟨os2, β4, e6, e7⟩ := M.bind_inv e5
   cases e7
   obtain ⟨s1, s2⟩ := sg _ _ _ q
   refine .inr ⟨go, fun σ9 H9 => ∃ acc9, ToD F D H H9 β3 /\ VOk K F H9 δ σ9 /\ H9 D = some (.lst acc9) /\ RwA K F D H0 H9 (as1 ++ o) acc9, ?_, fun x H2 hy => ?_⟩
   ·rintro σ9 H9 ⟨acc9, t9, vk9, hD9, hd9⟩
    exact ⟨m - 1, by omega, by omega, β3, acc9, as1 ++ o, os2, t9, vk9, hD9, hd9, e6, by rw [List.append_assoc]; exact ea⟩
   ·obtain ⟨sm, dx⟩ := yl x H2 hy
    have t2 : To F H1 H2 β1 := t1.fr.same sm
    have tr2 := t2.tr t1.fr
    refine hg F H2 δ δ1 σ1 d x _ (vk1.tr tr2) dx q fun σ2 vk2 => ⟨F, δ1, β1, t2.fr, vk2, E0.run e2 fun c' H3 t3 ec => ?_⟩
    subst ec
    have hD2 := sm _ _ hD1
    have hD3 := t3.kp D _ hD2 hn
    have tr3 := t3.tr t2.fr
    have d3 := (hd1.mono hA h0 t1.fr (t2.toD D)).mono hA h0 t2.fr (t3.toD D)
    have tt3 : ToD F D H H3 β2 := t1.trans ((t2.trans t3).toD D)
    have hle : as1.length + (o ++ os2).length <= sizeLine := by
     have := congrArg List.length ea
     simp only [List.length_append] at this ⊢
     omega
    cases c' with
    | true =>
     rw [if_pos rfl] at e4 ⊢
     refine hb F H0 H3 δ1 β2 β3 σ2 acc1 as1 o _ t3.fr hA hn h0 (vk2.tr tr3) hD3 d3 e4 (by rw [List.length_append] at hle; omega) fun σ4 H4 acc4 t4 vk4 hD4 hd4 => ?_
     exact ⟨acc4, tt3.trans t4, vk4.sub s1 s2, hD4, hd4⟩
    | false =>
     rw [if_neg Bool.false_ne_true] at e4 ⊢
     cases e4
     exact ⟨acc1, tt3, (vk2.tr tr3).sub s1 s2, hD3, by rw [List.append_nil]; exact d3⟩
def iF (nv : Nat) (caps : List Nat) (it : Dn -> M (List Pu.D)) (tg : TgF) (tt : Dn -> M Bool) (b : Dn -> M (List (List Pu.D))) : Dn -> M (List (List Pu.D)) := fun δ β => match it δ β with
 | none => none
 | some (.error C, β1) => some (.error C, β1)
 | some (.ok ds, β1) => match kT tg tt b ds (cSt nv caps δ) β1 with
  | some (.ok os, β2) => if os.length <= sizeLine then some (.ok os, β2) else none
  | _ => none
theorem tz {vars : List Str} {caps : List Nat} {it : Dn -> M (List Pu.D)} {g : TG} {tg : TgF} {tt : Dn -> M Bool} {tb : Addr -> TB} {b : Dn -> M (List (List Pu.D))} (hg : e8 K g tg) (sg : gQ tg) (hb : ∀ D, oF K D (tb D) b) {σ : St} {H : Hp} {Q : VK} (h : tVG K (iF vars.length caps it tg tt b) E σ H Q) :
  oo vars caps (iV K it E) (fun D J => eV J g (tVT K tt E0) (tb D)) σ H Q := by
 obtain ⟨F, δ, β, fr, vk, r, β', e, h⟩ := h
 unfold iF at e
 refine ⟨F, δ, β, fr, vk, ?_⟩
 split at e
 ·cases e
 ·rename_i C β1 q
  cases e
  exact ⟨.error C, _, q, h⟩
 ·rename_i ds β1 q
  split at e
  ·rename_i os β2 q2
   split at e
   ·rename_i hz
    cases e
    refine ⟨.ok ds, β1, q, fun J H1 t hJ D hD => ?_⟩
    have hDA : ¬ F.A D := t.fr.fresh hD
    have nb : ∀ b l, F.bg = some (b, l) -> D ≠ b /\ D ≠ l := fun b l z => ⟨fun w => hDA (w ▸ (fr.bgA b l z).1), fun w => hDA (w ▸ (fr.bgA b l z).2.1)⟩
    have t2 := t.fr.upd (.lst []) hD
    have fr2 : Fr ⟨fun a => F.A a \/ a = D, F.bg⟩ (upd H1 D (.lst [])) β1 := by
     refine ⟨fun a ha z => ?_, fun b l z => let ⟨x, y, w⟩ := fr.bgA b l z; ⟨.inl x, .inl y, w⟩, t2.fr.bag⟩
     rcases ha with ha | ha
     ·exact t2.fr.occ a ha z
     ·subst ha; rw [aw] at z; cases z
    have tr2 : Tr F H1 ⟨fun a => F.A a \/ a = D, F.bg⟩ (upd H1 D (.lst [])) := ⟨fun a ha hs z => by
     rcases z with z | z
     ·exact ha z
     ·subst z; exact hs hD, fun a o ha z => by rw [upd_ne (ne_of_none z hD)]; exact z, rfl⟩
    have cv : ∀ c, H c ≠ none -> upd H1 D (.lst []) c ≠ none := fun c hc z => by
     by_cases w : c = D
     ·subst w; rw [aw] at z; cases z
     ·rw [upd_ne w] at z; exact hc (t.none z)
    refine zG (D := D) (H0 := H) (as := []) (os := os) hg sg (hb D) fr2 (.inr rfl) nb (fun b l z => ⟨fr.occ _ (fr.bgA b l z).1, fr.occ _ (fr.bgA b l z).2.1⟩) (uM (vk.tr ((t.tr fr).trans tr2))) aw ⟨cv, [], rfl, by simp, trivial⟩ (hJ.tr tr2) q2 (by simpa using hz) fun σ1 H2 acc1 t3 vk3 hD3 hd3 => ?_
    have tf : To F H1 H2 β' := by
     refine ⟨fun a o z n => t3.kp a o (by rw [upd_ne (ne_of_none z hD)]; exact z) (ne_of_none z hD) n, fun a ha z => t3.fr.occ a (Or.inl ha) z, fr.bgA, t3.fr.bag⟩
    obtain ⟨_, rs, ea, nd, rl⟩ := hd3
    subst ea
    exact h _ H2 (t.trans tf) ⟨D, rs, rfl, t.none hD, hD3, nd, RowL.tr (F := ⟨fun a => F.A a \/ a = D, F.bg⟩) ⟨fun a ha _ z => ha (Or.inl z), fun a o _ z => z, rfl⟩ rl fun r xs _ p q => ⟨p, q⟩⟩
   ·cases e
  ·cases e
section
variable {elt target iter : Expr} {ifs : List Expr} {rest : List Comprehension} {scope : Scope} {pos : Pos} {Nc vars : List Str} {caps : List Nat} {g : TG} {tb : Addr -> TB}
end
mutual
def noL : D -> Bool
 | .int _ => true
 | .bl _ => true
 | .str _ => true
 | .non => true
 | .tup ds => noLs ds
 | _ => false
def noLs : List D -> Bool
 | [] => true
 | d :: ds => noL d && noLs ds
end
mutual
theorem qE {F F2 : Fx} {H : Hp} (hF : ∀ c, F2.A c -> F.A c \/ ∃ xs, H c = some (.lst xs)) : ∀ (d : D) (v : V), noL d = true -> Den K F H d v -> Den K F2 H d v
 | .int i, v, _, h => h
 | .bl i, v, _, h => h
 | .str i, v, _, h => h
 | .non, v, _, h => h
 | .tup ds, v, n, h => by
  obtain ⟨a, xs, e, h1, h2⟩ := h
  refine ⟨a, xs, e, ?_, noLs_den hF ds xs (by simpa [noL] using n) h2⟩
  rcases h1 with ⟨h1, r⟩ | h1
  ·refine .inl ⟨fun z => ?_, r⟩
   rcases hF a z with z | ⟨ys, z⟩
   ·exact h1 z
   ·rcases r with r | ⟨o, r⟩ <;> rw [z] at r <;> cases r
  ·exact .inr h1
 | .lst _, _, n, _ => by simp [noL] at n
 | .scr _, _, n, _ => by simp [noL] at n
 | .ty _, _, n, _ => by simp [noL] at n
 | .txt, _, n, _ => by simp [noL] at n
 | .obj _ _ _, _, n, _ => by simp [noL] at n
 | .bag, _, n, _ => by simp [noL] at n
 | .adr _, _, n, _ => by simp [noL] at n
theorem noLs_den {F F2 : Fx} {H : Hp} (hF : ∀ c, F2.A c -> F.A c \/ ∃ xs, H c = some (.lst xs)) : ∀ (ds : List D) (xs : List V), noLs ds = true -> DenL K F H ds xs -> DenL K F2 H ds xs
 | [], xs, _, h => h
 | d :: ds, xs, n, h => by
  have n' : noL d = true /\ noLs ds = true := by simpa [noLs] using n
  obtain ⟨x, xr, e, h1, h2⟩ := h
  exact ⟨x, xr, e, qE hF d x n'.1 h1, noLs_den hF ds xr n'.2 h2⟩
end
theorem RowL.noL {F F2 : Fx} {H : Hp} {P P2 : Addr -> Prop} (hF : ∀ c, F2.A c -> F.A c \/ ∃ xs, H c = some (.lst xs)) : ∀ {rows : List (List D)} {rs : List Addr}, (∀ ds ∈ rows, noLs ds = true) -> RowL K F H P rows rs -> (∀ r ∈ rs, P2 r) -> RowL K F2 H P2 rows rs
 | [], [], _, _, _ => trivial
 | ds :: rows, r :: rs, n, h, p => by
  obtain ⟨h1, ⟨xs, h2, h3⟩, h4⟩ := h
  exact ⟨p r List.mem_cons_self, ⟨xs, h2, noLs_den hF _ _ (n ds List.mem_cons_self) h3⟩, RowL.noL hF (fun x hx => n x (List.mem_cons_of_mem _ hx)) h4 fun x hx => p x (List.mem_cons_of_mem _ hx)⟩
 | [], _ :: _, _, h, _ => h.elim
 | _ :: _, [], _, h, _ => h.elim
theorem SOk.newGrd {H₀ : Hp} {B : Ow} {bg : Option (Addr × Addr)} {H H' : Hp} {δ : Ds} {β β' : Bg} {σ : St} {i : Nat} {rows : List (List D)} {v : V} (ok : SOk K H₀ B bg H δ β σ) (t : To (FxB B bg) H H' β') (hn : ∀ ds ∈ rows, noLs ds = true) (hv : pT K (FxB B bg) H H' rows v) :
  ∃ B', SOk K H₀ B' bg H' (δ.set i (some (.grd rows))) β' (σ.set i (some v)) /\ Stp B H B' H' := by
 classical
 obtain ⟨a, rs, rfl, n0, n1, nd, rl⟩ := hv
 have hno : ∀ c, c = a \/ c ∈ rs -> H c = none := fun c hc => by
  rcases hc with rfl | hc
  ·exact n0
  ·exact (rl.all c hc).1
 have hB : ∀ c, c = a \/ c ∈ rs -> B c = none := fun c hc => Classical.byContradiction fun z => ok.fr.occ c z (hno c hc)
 have nb : ∀ b l, bg = some (b, l) -> ¬ (b = a \/ b ∈ rs) /\ ¬ (l = a \/ l ∈ rs) := fun b l e => by
  obtain ⟨b1, b2⟩ := ok.bgt b l e
  exact ⟨fun z => (by rw [hB b z] at b1; cases b1), fun z => (by rw [hB l z] at b2; cases b2)⟩
 obtain ⟨ok2, s2⟩ := ok.to rfl t
 have stp : Stp B H (fun c => if c = a \/ c ∈ rs then some (i + 2) else B c) H' := by
  refine ⟨s2.kp, fun c hc => ?_, fun c o h n => ?_, s2.al⟩
  ·have : ¬ (c = a \/ c ∈ rs) := fun z => by rw [hB c z] at hc; rcases hc with hc | hc <;> cases hc
   simp only [if_neg this]
  ·have : ¬ (c = a \/ c ∈ rs) := fun z => by rw [hno c z] at h; cases h
   simp only [if_neg this]; exact n
 have tr : Tr (FxB B bg) H (FxB (fun c => if c = a \/ c ∈ rs then some (i + 2) else B c) bg) H' := stp.tr
 refine ⟨fun c => if c = a \/ c ∈ rs then some (i + 2) else B c, ⟨⟨fun c hc z => ?_, fun b l e => ?_, ok2.fr.bag⟩, fun b l e => ?_, by rw [List.length_set, List.length_set, ok.len], ok2.cov, fun c k hc => (by
  have hc' : (if c = a \/ c ∈ rs then some (i + 2) else B c) = some (k + 2) := hc
  by_cases z : c = a \/ c ∈ rs
  ·cases w : H₀ c with
   | none => rfl
   | some o => exact absurd (hno c z) (ok.cov c (by rw [w]; simp))
  ·rw [if_neg z] at hc'; exact ok.new c k hc'), fun c k hc => (by
  have hc' : (if c = a \/ c ∈ rs then some (i + 2) else B c) = some (k + 2) := hc
  by_cases z : c = a \/ c ∈ rs
  ·rcases z with rfl | z
   ·exact ⟨_, n1⟩
   ·exact (rl.all c z).2
  ·rw [if_neg z] at hc'; exact ok2.lst c k hc'), fun j s e => ?_⟩, stp⟩
 ·by_cases q : c = a \/ c ∈ rs
  ·rcases q with rfl | q
   ·rw [n1] at z; cases z
   ·obtain ⟨_, xs, w⟩ := rl.all c q
    rw [w] at z; cases z
  ·have hc' : (if c = a \/ c ∈ rs then some (i + 2) else B c) ≠ none := hc
   rw [if_neg q] at hc'
   exact ok2.fr.occ c hc' z
 ·obtain ⟨x1, x2⟩ := nb b l e
  obtain ⟨b1, b2⟩ := ok.bgt b l e
  refine ⟨?_, ?_, (ok.fr.bgA b l e).2.2⟩
  ·show (if b = a \/ b ∈ rs then some (i + 2) else B b) ≠ none
   rw [if_neg x1, b1]; simp
  ·show (if l = a \/ l ∈ rs then some (i + 2) else B l) ≠ none
   rw [if_neg x2, b2]; simp
 ·obtain ⟨x1, x2⟩ := nb b l e
  simp only [if_neg x1, if_neg x2]
  exact ok.bgt b l e
 ·rw [List.getElem?_set] at e
  rw [List.getElem?_set]
  by_cases q : i = j
  ·subst q
   rw [if_pos rfl] at e ⊢
   split at e
   ·rename_i hl
    cases e
    rw [if_pos (by rw [← ok.len]; exact hl)]
    refine ⟨_, rfl, a, rs, rfl, if_pos (.inl rfl), n1, nd, RowL.noL (F := FxB B bg) (fun c hc => ?_) hn rl fun r hr => if_pos (.inr hr)⟩
    have hc' : (if c = a \/ c ∈ rs then some (i + 2) else B c) ≠ none := hc
    by_cases w : c = a \/ c ∈ rs
    ·rcases w with rfl | w
     ·exact .inr ⟨_, n1⟩
     ·exact .inr (rl.all c w).2
    ·rw [if_neg w] at hc'
     exact .inl hc'
   ·cases e
  ·rw [if_neg q] at e ⊢
   obtain ⟨w, h1, h2⟩ := ok.tell j s e
   refine ⟨w, h1, ?_⟩
   cases s with
   | sh d => exact Den.tr tr _ _ h2
   | own cs =>
    obtain ⟨c, ys, e1, e2, e3, e4⟩ := h2
    have na : ¬ (c = a \/ c ∈ rs) := fun z => by rw [hno c z] at e3; cases e3
    exact ⟨c, ys, e1, by simp only [if_neg na]; exact e2, t.kp c _ e3 (fun b l z => ⟨fun y => (by subst y; rw [(ok.bgt _ _ z).1] at e2; cases e2), fun y => (by subst y; rw [(ok.bgt _ _ z).2] at e2; cases e2)⟩), DenL.tr tr _ _ e4⟩
   | grd rows2 =>
    obtain ⟨c, qs, e1, e2, e3, e4, e5⟩ := h2
    have na : ∀ c, H c ≠ none -> ¬ (c = a \/ c ∈ rs) := fun c hc z => hc (hno c z)
    have kk : ∀ c o, H c = some o -> B c = some (j + 2) -> H' c = some o := fun c o h1 h2 => t.kp c o h1 (fun b l z => ⟨fun y => (by subst y; rw [(ok.bgt _ _ z).1] at h2; cases h2), fun y => (by subst y; rw [(ok.bgt _ _ z).2] at h2; cases h2)⟩)
    exact ⟨c, qs, e1, by simp only [if_neg (na c (by rw [e3]; simp))]; exact e2, kk c _ e3 e2, e4, RowL.tr tr e5 fun r xs _ p y => ⟨by simp only [if_neg (na r (by rw [y]; simp))]; exact p, kk r _ y p⟩⟩
end
section
variable {X : Cx} {E : St -> XK} {K : PySem.W.Frag} {st : Stmt} {H₀ : Hp} {B : Ow} {bg : Option (Addr × Addr)} {H H' : Hp} {δ : Ds} {β β' : Bg} {σ : St}
def mS (i : Nat) (f : Dn -> M (List (List D))) : G := fun δ β => match f (vw δ) β with
 | some (.ok rows, β1) => if (rows.all noLs) = true then some (.nx (δ.set i (some (.grd rows))), β1) else none
 | some (.error C, β1) => some (.ex C δ, β1)
 | none => none
theorem D8 {i : Nat} {f : Dn -> M (List (List D))} (h : PS X st (jA (tVG X.K f E) (eQ i))) : PS X st (tG X.K X.H₀ (mS i f) E) := h.imp fun D σ H h_ => by
 obtain ⟨B, bg, δ, β, o, β', ok, e, q⟩ := h_
 refine ⟨FxB B bg, vw δ, β, ok.fr, ok.view, ?_⟩
 unfold mS at e
 split at e
 ·rename_i rows β1 e1
  split at e
  ·rename_i hn
   cases e
   refine ⟨.ok rows, _, e1, fun v H' t hd => ?_⟩
   obtain ⟨B', ok2, s2⟩ := ok.newGrd (i := i) t (fun ds hds => List.all_eq_true.mp hn ds hds) hd
   exact q _ _ _ s2 ok2
  ·cases e
 ·rename_i C β1 e1
  cases e
  refine ⟨.error C, _, e1, fun H' t => ?_⟩
  obtain ⟨ok2, s2⟩ := ok.to rfl t
  exact q _ B H' s2 ok2
 ·cases e
theorem RowL.put {F : Fx} {H : Hp} {P : Addr -> Prop} {r : Addr} {xs : List V} {ds : List D} (t : Tr F H F (upd H r (.lst xs))) (hd : DenL K F (upd H r (.lst xs)) ds xs) : ∀ {rows : List (List D)} {rs : List Addr} (j : Nat), RowL K F H P rows rs -> rs.Nodup -> rs[j]? = some r -> RowL K F (upd H r (.lst xs)) P (rows.set j ds) rs
 | d0 :: rows, r0 :: rs, 0, h, nd, e => by
  obtain rfl : r0 = r := by simpa using e
  have ne : ∀ r' ∈ rs, r' ≠ r0 := fun r' hr z => (List.nodup_cons.mp nd).1 (z ▸ hr)
  exact ⟨h.1, ⟨xs, aw, hd⟩, RowL.tr t h.2.2 fun r' ys hr p q => ⟨p, by rw [upd_ne (ne r' hr)]; exact q⟩⟩
 | d0 :: rows, r0 :: rs, j + 1, h, nd, e => by
  have e' : rs[j]? = some r := by simpa using e
  obtain ⟨h1, ⟨ys, h2, h3⟩, h4⟩ := h
  have ne : r0 ≠ r := fun z => (List.nodup_cons.mp nd).1 (z ▸ List.mem_of_getElem? e')
  exact ⟨h1, ⟨ys, by rw [upd_ne ne]; exact h2, DenL.tr t _ _ h3⟩, RowL.put t hd j h4 (List.nodup_cons.mp nd).2 e'⟩
 | [], [], _, _, _, e => by simp at e
 | [], _ :: _, _, h, _, _ => h.elim
 | _ :: _, [], _, h, _, _ => h.elim
theorem RowL.at {F : Fx} {H : Hp} {P : Addr -> Prop} : ∀ {rows : List (List D)} {rs : List Addr} {j : Nat} {ds : List D}, RowL K F H P rows rs -> rows[j]? = some ds -> ∃ r xs, rs[j]? = some r /\ P r /\ H r = some (.lst xs) /\ DenL K F H ds xs
 | d0 :: rows, r0 :: rs, 0, ds, h, e => by
  obtain rfl : d0 = ds := by simpa using e
  obtain ⟨h1, ⟨ys, h2, h3⟩, h4⟩ := h
  exact ⟨r0, ys, rfl, h1, h2, h3⟩
 | d0 :: rows, r0 :: rs, j + 1, ds, h, e => by
  obtain ⟨r, xs, e1, e2⟩ := RowL.at h.2.2 (j := j) (ds := ds) (by simpa using e)
  exact ⟨r, xs, by simpa using e1, e2⟩
 | [], [], _, _, _, e => by simp at e
 | [], _ :: _, _, _, h, _ => h.elim
 | _ :: _, [], _, _, h, _ => h.elim
theorem SOk.writeRow {i j : Nat} {a r : Addr} {rs : List Addr} {rows : List (List D)} {ds : List D} {xs ys : List V} (ok : SOk K H₀ B bg H δ β σ) (hs : σ[i]? = some (some (.ref a))) (hB : B a = some (i + 2)) (ha : H a = some (.lst (rs.map V.ref))) (nd : (a :: rs).Nodup) (rl : RowL K (FxB B bg) H (fun r => B r = some (i + 2)) rows rs) (hj : rs[j]? = some r) (hr : H r = some (.lst ys)) (hd : DenL K (FxB B bg) H ds xs) :
  SOk K H₀ B bg (upd H r (.lst xs)) (δ.set i (some (.grd (rows.set j ds)))) β σ /\ Stp B H B (upd H r (.lst xs)) := by
 have hrs : r ∈ rs := List.mem_of_getElem? hj
 have hBr : B r = some (i + 2) := (rl.all r hrs).1
 have stp : Stp B H B (upd H r (.lst xs)) := by
  refine ⟨fun c o h n => ?_, fun _ _ => rfl, fun _ _ _ n => n, fun c hc => ?_⟩
  ·rw [upd_ne]
   ·exact h
   ·intro z; subst z; rw [hBr] at n; rcases n with n | n <;> cases n
  ·by_cases z : c = r
   ·subst z; rw [aw]; simp
   ·rw [upd_ne z]; exact hc
 have tr : Tr (FxB B bg) H (FxB B bg) (upd H r (.lst xs)) := stp.tr
 refine ⟨⟨⟨fun c hc z => ?_, ok.fr.bgA, fun b l e => ?_⟩, ok.bgt, by rw [List.length_set, ok.len], fun a ha => stp.al a (ok.cov a ha), ok.new, fun c k hc => (by
  by_cases z : c = r
  ·subst z; exact ⟨xs, aw⟩
  ·rw [upd_ne z]; exact ok.lst c k hc), fun k s e => ?_⟩, stp⟩
 ·by_cases q : c = r
  ·subst q; rw [aw] at z; cases z
  ·rw [upd_ne q] at z; exact ok.fr.occ c hc z
 ·obtain ⟨b1, b2⟩ := ok.bgt b l e
  rw [upd_ne (fun z => by subst z; rw [hBr] at b1; cases b1), upd_ne (fun z => by subst z; rw [hBr] at b2; cases b2)]
  exact ok.fr.bag b l e
 ·rw [List.getElem?_set] at e
  by_cases q : i = k
  ·subst q
   rw [if_pos rfl] at e
   split at e
   ·cases e
    have nar : a ≠ r := fun z => (List.nodup_cons.mp nd).1 (z ▸ hrs)
    exact ⟨_, hs, a, rs, rfl, hB, by rw [upd_ne nar]; exact ha, nd, RowL.put tr (DenL.tr tr _ _ hd) j rl (List.nodup_cons.mp nd).2 hj⟩
   ·cases e
  ·rw [if_neg q] at e
   obtain ⟨v, h1, h2⟩ := ok.tell k s e
   refine ⟨v, h1, ?_⟩
   have na : ∀ c, B c = some (k + 2) -> c ≠ r := fun c e2 z => by subst z; rw [hBr] at e2; cases e2; exact q rfl
   cases s with
   | sh d => exact Den.tr tr _ _ h2
   | own cs =>
    obtain ⟨c, zs, e1, e2, e3, e4⟩ := h2
    exact ⟨c, zs, e1, e2, by rw [upd_ne (na c e2)]; exact e3, DenL.tr tr _ _ e4⟩
   | grd rows2 =>
    obtain ⟨c, qs, e1, e2, e3, e4, e5⟩ := h2
    exact ⟨c, qs, e1, e2, by rw [upd_ne (na c e2)]; exact e3, e4, RowL.tr tr e5 fun r zs _ p q => ⟨p, by rw [upd_ne (na r p)]; exact q⟩⟩
end
section
variable {P : Program} {w : World} {K : PySem.W.Frag} {mg : Str -> Option Value} {base : Heap}
end
section
variable {X : Cx} {E : St -> XK} {e : Expr} {es : List Expr} {pos p : Pos} {x : Str} {k n : Nat} {f : Addr} {fd : FuncData} {ps : List Str}
end
section
variable {X : Cx} {E : St -> XK} {K : PySem.W.Frag} {elt target iter : Expr} {ifs : List Expr} {rest : List Comprehension} {scope : Scope} {pos : Pos} {Nc vars : List Str} {caps : List Nat} {g : TG} {tb : Addr -> TB}
theorem AB {it : Dn -> M (List D)} {tg : TgF} {tt : Dn -> M Bool} {b : Dn -> M (List (List D))} {i : Nat} {x : Str} {pos' spos : Pos} (hN : X.N.Nodup) (hi' : X.N[i]? = some x) (hx : Loc X.env.scope x) (hc : X.calm = true) (S : CmpScope X scope Nc vars caps) (hi : PI X target iter (iV X.K it E))
  (hb : ∀ (cl : List (Str × Addr)) (C : Addr) (fp : List Addr) (s : Shared) (H : Hp), PG (bz X Nc scope cl C fp s H) target g /\ gb (bz X Nc scope cl C fp s H) ifs (tVT X.K tt E0) /\ ∀ D, PB (bz X Nc scope cl C fp s H) elt (⟨target, iter, ifs, 0⟩ :: rest) scope pos 0 D (tb D))
  (lg : e8 X.K g tg) (sg : gQ tg) (lb : ∀ D, oF X.K D (tb D) b)
  (hsw : swapsWith (.ListComp elt (⟨target, iter, ifs, 0⟩ :: rest) scope pos) (some (.Name x pos')) spos.line X.env = pure true := by rfl)
  (hs : ∀ x, foldedSetIterable iter X.env x = pure x := by intro _; rfl) (hf : X.fn x = true \/ X.env.scope.names.lookup x = some .local := by first | exact .inl rfl | exact .inr rfl | assumption) :
  PS X (.Assign [.Name x pos'] (.ListComp elt (⟨target, iter, ifs, 0⟩ :: rest) scope pos) spos) (tG X.K X.H₀ (mS i (iF vars.length caps it tg tt b)) E) :=
 D8 ((qy hN hi' hx hc S hi hb hsw hs hf).imp fun D σ H h => tz lg sg lb h)
end
end L2.Pu
namespace L2
open PySem PySem.Spec PyProof.Rows
section
variable {X : Cx}
theorem v5 {bs : List Bool} {its : List Value} (r : ay (bs.map V.bl) its) {i : Nat} {v : Value} (h : its.toArray[i]? = some v) : v = .bool (bs.getD i false) := by
 have h' : its[i]? = some v := by simpa using h
 have hl := r.length
 rw [List.length_map] at hl
 have hi : i < bs.length := by rw [hl]; exact (List.getElem?_eq_some_iff.mp h').1
 obtain ⟨u, hu, ru⟩ := r.get (i := i) (x := V.bl bs[i]) (by rw [List.getElem?_map, List.getElem?_eq_getElem hi]; rfl)
 rw [h'] at hu
 cases hu
 rw [List.getD_eq_getElem?_getD, List.getElem?_eq_getElem hi]
 exact ru
theorem tT {α : Type} (f : Bool -> Bool) (bs : List Bool) : (List.range bs.length).map (fun i => bs.getD i false) = bs := by
 apply List.ext_getElem?
 intro i
 rw [List.getElem?_map]
 by_cases h : i < bs.length
 ·rw [List.getElem?_range h, List.getElem?_eq_getElem h]
  simp [List.getD_eq_getElem?_getD, List.getElem?_eq_getElem h]
 ·rw [List.getElem?_eq_none (by simpa using h), List.getElem?_eq_none (by omega)]; rfl
theorem tU (bs : List Bool) : ((List.range bs.length).any fun i => bs.getD i false) = bs.any id := by
 conv => rhs; rw [← tT (α := Bool) id bs]
 rw [List.any_map]
 rfl
theorem nK (hc : X.calm = true) : cQ X (.builtin "any") (fun xs H Q => ∃ (a : Addr) (bs : List Bool), xs = [.ref a] /\ SqL X.K H a (bs.map V.bl) /\ Q (.bl (bs.any id)) H) := by
 intro pins s σ H xs us Q I r h
 obtain ⟨a, bs, rfl, hq, q⟩ := h
 cases r with
 | cons r1 r2 =>
  cases r1
  cases r2
  obtain ⟨its, rv, p, hz⟩ := I.list hq
  have hl := p.isList
  have hlen : its.toArray.size = bs.length := by rw [List.size_toArray, ← rv.length, List.length_map]
  have hfr : ∀ b o, s.heap.get? b = some o -> b ≠ s.heap.objs.size := fun b o e z => by
   rw [z, Heap.get?_none_of_le (Nat.le_refl _)] at e
   cases e
  have hne : a ≠ s.heap.objs.size := by
   obtain ⟨o, e, _⟩ := hl
   exact hfr a o e
  have W := Walks.list (prog := X.prog) (w := X.w) (A := X.A.in1) (show X.A.in1.handled = none from I.ok.hd hc) s.heap.objs.size a hne its.toArray
  refine call_any_walk (wpAny_pyIter_list hl ⟨s.heap.objs.size, [s.heap.objs.size, a], [s.heap.objs.size], its.toArray.size, _, _, fun i => bs.getD i false, rfl, W, ⟨⟨_, Heap.get?_push_size s.heap rfl, rfl, rfl⟩, hl.push _⟩, fun i v s' Q' E' hv q' => ?_, fun h' tk hk => ?_⟩)
  ·rw [v5 rv hv]
   exact wpAny_truthy_bool q'
  ·rw [hlen, tU]
   exact ⟨.bl (bs.any id), H, I.kept fun b o e => hk b o (fun z => hfr b o e (by simpa using z)) (Heap.get?_push_of_some _ e), rfl, q⟩
end
end L2
namespace L2.Pu
open PySem PySem.Spec PyProof.Rows
def dj : List D -> Option (List Bool)
 | [] => some []
 | .bl b :: r => (dj r).map (b :: ·)
 | _ => none
theorem kD {K : PySem.W.Frag} {F : Fx} {H : Hp} : ∀ {ds : List D} {xs : List V} {bs : List Bool}, dj ds = some bs -> DenL K F H ds xs -> xs = bs.map V.bl
 | [], xs, bs, e, h => by
  cases e
  cases h
  rfl
 | d :: ds, xs, bs, e, h => by
  obtain ⟨x, xr, rfl, h1, h2⟩ := h
  cases d <;> first
   | (rename_i b
      cases q : dj ds with
      | none => simp [dj, q] at e
      | some r =>
      simp [dj, q] at e
      subst e
      cases h1.bl
      rw [kD q h2]
      rfl)
   | simp [dj] at e
def m8 : List D -> Option D
 | [.lst ds] => (dj ds).map fun bs => .bl (bs.any id)
 | _ => none
variable {K : PySem.W.Frag}
theorem yK : dg K (fun xs H Q => ∃ (a : Addr) (bs : List Bool), xs = [.ref a] /\ SqL K H a (bs.map V.bl) /\ Q (.bl (bs.any id)) H) m8 := fun F H β Q ds d vs fr h e k => by
 unfold m8 at e
 split at e
 ·obtain ⟨v, rfl, g⟩ := DenL.one h
  obtain ⟨a, xs, rfl, r, dl⟩ := Den.sqL g
  obtain ⟨bs, q, e⟩ := Option.map_eq_some_iff.mp e
  subst e
  rw [kD q dl] at r
  exact ⟨a, bs, rfl, r, k _ H (To.refl fr) rfl⟩
 ·cases e
end L2.Pu
namespace L2
open PySem PySem.Spec PyProof.Rows
section
variable {X : Cx} {a b c d : Expr} {ta tb tc td : TE} {pos : Pos}
end
end L2
namespace L2.Pu
open PySem PySem.Spec PyProof.Rows
section
variable {X : Cx} {E : St -> XK} {a b c d : Expr} {pos : Pos} {K : PySem.W.Frag}
end
section
variable {X : Cx} {E : St -> XK} {K : PySem.W.Frag} {st : Stmt} {H₀ : Hp} {B : Ow} {bg : Option (Addr × Addr)} {H H' : Hp} {δ : Ds} {β β' : Bg} {σ : St}
end
section
variable {X : Cx} {E : St -> XK} {K : PySem.W.Frag} {st : Stmt} {H₀ : Hp} {B : Ow} {bg : Option (Addr × Addr)} {H H' : Hp} {δ : Ds} {β β' : Bg} {σ : St}
theorem SOk.AtoB (ok : SOk K H₀ B bg H δ β σ) : ∀ c, (FxB B bg).A c -> (FxA B bg).A c \/ ∃ xs, H c = some (.lst xs) := fun c hc => by
 have hc' : B c ≠ none := hc
 cases q : B c with
 | none => exact absurd q hc'
 | some k =>
  match k, q with
  | 0, q => exact .inl (.inl q)
  | 1, q => exact .inl (.inr q)
  | k + 2, q => exact .inr (ok.lst c k q)
theorem SOk.noB {d : D} {v : V} (ok : SOk K H₀ B bg H δ β σ) (hn : noL d = true) (h : Den K (FxA B bg) H d v) : Den K (FxB B bg) H d v := qE ok.AtoB d v hn h
def l8 (i : Nat) (fa fb fv : Dn -> M D) : G := fun δ β => match fv (vwA δ) β with
 | some (.ok d, β1) => match fa (vwA δ) β1 with
  | some (.ok (.int ka), β2) => match fb (vwA δ) β2 with
   | some (.ok (.int kb), β3) => match δ.getD i none with
    | some (.grd rows) => match ixN rows.length ka with
     | some ja => match rows[ja]? with
      | some ds => match ixN ds.length kb with
       | some jb => if noL d = true then some (.nx (δ.set i (some (.grd (rows.set ja (ds.set jb d))))), β3) else none
       | none => none
      | none => none
     | none => none
    | _ => none
   | _ => none
  | _ => none
 | _ => none
theorem AA {i : Nat} {fa fb fv : Dn -> M D} (h : PS X st (jA (tV X.K fv E) (Bj (tOp (rj X.K) (oS i) (tV X.K fa E)) (tV X.K fb E) yz))) : PS X st (tG X.K X.H₀ (l8 i fa fb fv) E) := h.imp fun D σ H h_ => by
 obtain ⟨B, bg, δ, β, o, β', ok, e, q⟩ := h_
 refine ⟨FxA B bg, vwA δ, β, ok.frA, ok.viewA, ?_⟩
 unfold l8 at e
 split at e
 ·rename_i d β1 e1
  refine ⟨.ok d, _, e1, fun v H1 t1 hd => ?_⟩
  obtain ⟨ok1, s1⟩ := ok.to rfl t1
  split at e
  ·rename_i ka β2 e2
   split at e
   ·rename_i kb β3 e3
    split at e
    ·rename_i rows ec
     split at e
     ·rename_i ja ea
      split at e
      ·rename_i ds er
       split at e
       ·rename_i jb eb
        split at e
        ·rename_i hnl
         cases e
         have hd := ok1.noB hnl hd
         obtain ⟨w, h1, a, rs, rfl, hB, ha, nd, rl⟩ := ok1.tell i _ (jT ec)
         refine ⟨_, h1, FxA B bg, vwA δ, β1, ok1.frA, ok1.viewA, .ok (.int ka), β2, e2, fun y H2 t2 hy => ?_⟩
         cases hy
         obtain ⟨ok2, s2⟩ := ok1.to (F := FxA B bg) rfl t2
         obtain ⟨w2, h2, a2, rs2, ew, hB2, ha2, nd2, rl2⟩ := ok2.tell i _ (jT ec)
         rw [h1] at h2
         cases h2
         cases ew
         obtain ⟨r, xs, hr, hp, hx, dl⟩ := rl2.at er
         refine ⟨a, rs2.map V.ref, ka, .ref r, rfl, rfl, SqL.of ha2, ?_, ?_⟩
         ·unfold atI
          rw [List.length_map, ← rl2.len, ea]
          show (rs2.map V.ref)[ja]? = _
          rw [List.getElem?_map, hr]; rfl
         ·refine ⟨FxA B bg, vwA δ, β2, ok2.frA, ok2.viewA, .ok (.int kb), _, e3, fun z H3 t3 hz => ?_⟩
          cases hz
          obtain ⟨ok3, s3⟩ := ok2.to (F := FxA B bg) rfl t3
          obtain ⟨w3, h3, a3, rs3, ew3, hB3, ha3, nd3, rl3⟩ := ok3.tell i _ (jT ec)
          rw [h1] at h3
          cases h3
          cases ew3
          have ers : rs2 = rs3 := by
           have k1 : H3 a = some (.lst (rs2.map V.ref)) := t3.kp a _ ha2 (fun b l y => ⟨fun w => (by subst w; rw [(ok.bgt _ _ y).1] at hB2; cases hB2), fun w => (by subst w; rw [(ok.bgt _ _ y).2] at hB2; cases hB2)⟩)
           rw [ha3] at k1
           have k2 : rs3.map V.ref = rs2.map V.ref := by injection k1 with k1; injection k1
           exact (List.map_inj_right (fun a b q => by cases q; rfl) |>.mp k2).symm
          subst ers
          obtain ⟨r', xs', hr', hp', hx', dl'⟩ := rl3.at er
          rw [hr] at hr'
          cases hr'
          have hv3 : Den X.K (FxB B bg) H3 d v := Den.tr (s3.tr) _ _ (Den.tr (s2.tr) _ _ hd)
          refine ⟨r, xs', kb, jb, rfl, rfl, hx', by rw [← dl'.length]; exact eb, ?_⟩
          obtain ⟨ok4, s4⟩ := ok3.writeRow (ds := ds.set jb d) (xs := xs'.set jb v) h1 hB3 ha3 nd3 rl3 hr hx' (DenL.set jb dl' hv3)
          exact q _ _ _ (s1.trans (s2.trans (s3.trans s4))) ok4
        ·cases e
       ·cases e
      ·cases e
     ·cases e
    ·cases e
   ·cases e
  ·cases e
 ·cases e
end
section
variable {X : Cx} {E : St -> XK} {K : PySem.W.Frag} {a b e : Expr} {es : List Expr} {pos : Pos}
def o2 (op : D -> D -> Option (List D)) (f g : Dn -> M D) : Dn -> M (List D) := fun δ => M.bind (f δ) fun a => M.bind (g δ) fun b => M.ofO (op a b)
end
def Ite (K : PySem.W.Frag) (l : Addr) : It :=
 ⟨fun i H => ∃ xs x, SqL K H l xs /\ xs[i]? = some x,
  fun i H v H' => ∃ p x, H p = none /\ v = .ref p /\ H' = upd H p (.tup [.int (i : Int), x]) /\ ∀ xs, SqL K H l xs -> xs[i]? = some x,
  fun i H => ∃ xs, SqL K H l xs /\ xs.length = i⟩
theorem tj {P : Program} {w : World} {K : PySem.W.Frag} {elts : List Expr} {x1} {pos : Pos} (l e it : Addr) (nei : e ≠ it) :
  Turn P w K (.Tuple elts x1 pos) (Ite K l) [e, it] e (fun i h => (∃ old, IsEnum h e it (i : Int) old) /\ h.IsListIter it l i) where
 mem := by simp
 obj := fun i h st b hb => by
  obtain ⟨⟨old, ee⟩, si⟩ := st
  simp only [List.mem_cons, List.not_mem_nil, or_false] at hb
  rcases hb with rfl | rfl
  ·exact ⟨_, ee, fun v q => by cases q⟩
  ·obtain ⟨o, q, _, d⟩ := si
   exact ⟨o, q, fun v z => by rw [d] at z; cases z⟩
 keep := fun i h h' st k => by
  obtain ⟨⟨old, ee⟩, si⟩ := st
  exact ⟨⟨old, k e (by simp) _ ee⟩, si.at fun o q => k it (by simp) o q⟩
 item := by
  intro X hP hw hK hc i pins s σ H E I hf st hg
  subst hP hw hK
  obtain ⟨xs, x, q1, hx⟩ := hg
  obtain ⟨⟨old, ee⟩, si⟩ := st
  obtain ⟨is1, r1, p1⟩ := Inv.src (b := true) I q1
  have hd := I.ok.hd hc
  have ne : l ≠ e := Inv.src_ne (b := true) I q1 (hf e (by simp))
  have ni : l ≠ it := Inv.src_ne (b := true) I q1 (hf it (by simp))
  have k1 : i < is1.toArray.size := by
   rw [List.size_toArray, ← r1.length]; exact (List.getElem?_eq_some_iff.mp hx).1
  refine wpAny_pyNext_enum_itemD (Draws.list (show (X.A.in1).handled = none from hd) it l ni is1.toArray) ee ⟨si, p1⟩ k1 nei (by simp [nei, ne.symm]) fun u h' tk pu fo f1 fT sz kp => ?_
  refine ⟨_, rfl, wpAny_letOwnedTupleGo_enum (s := { s with heap := h', toks := tk + 1 }) fo fun h'' ez'' sb => ?_⟩
  replace sb : Heap.SameBut e h' h'' := sb
  have zT : s.heap.objs.size ≠ e := Nat.ne_of_gt (Heap.lt_size ee)
  obtain ⟨u', hu, ru⟩ := r1.get hx
  have eu : u = u' := by
   have : is1[i]? = some u := by simpa using pu
   rw [this] at hu; exact Option.some.inj hu
  subst eu
  have kk : ∀ b o, b ∉ [e, it] -> s.heap.get? b = some o -> h''.get? b = some o := fun b o hb q => by
   simp only [List.mem_cons, List.not_mem_nil, or_false, not_or] at hb
   exact sb.extBut b o hb.1 (kp b o hb.1 hb.2 q)
  have I2 : Inv X pins σ (upd H s.heap.objs.size (.tup [.int (i : Int), x])) { s with heap := h'', toks := tk + 1 } := by
   refine Inv.turnNew I hf kk (Nat.le_refl _) ⟨by show 2 <= sizeLine; decide, [.int i tk, u], .cons ⟨_, rfl⟩ (.cons ru .nil), _, sb.extBut _ _ zT fT, rfl, _, rfl⟩
  refine ⟨.ref s.heap.objs.size, _, I2, rfl, ⟨s.heap.objs.size, x, I.hok.fresh (Nat.le_refl _), rfl, rfl, fun as h1 => by rw [Inv.src_inj (b := true) I h1 q1]; exact hx⟩, ⟨⟨_, by simpa using ez''⟩, ?_⟩, fun b hb => ?_⟩
  ·exact f1.1.at fun o q => sb.extBut _ _ nei.symm q
  ·rw [upd_ne]
   ·exact (hf b hb).1
   ·intro q
    have ol : ∃ o, s.heap.get? b = some o := by
     simp only [List.mem_cons, List.not_mem_nil, or_false] at hb
     rcases hb with rfl | rfl
     ·exact ⟨_, ee⟩
     ·obtain ⟨o, z, _⟩ := si; exact ⟨o, z⟩
    obtain ⟨o, z⟩ := ol
    exact absurd (Heap.lt_size z) (by rw [q]; exact Nat.lt_irrefl _)
 done := by
  intro X hP hw hK hc i pins s σ H E I hf st hg
  subst hP hw hK
  obtain ⟨xs, q1, hl⟩ := hg
  obtain ⟨⟨old, ee⟩, si⟩ := st
  obtain ⟨is1, r1, p1⟩ := Inv.src (b := true) I q1
  have hd := I.ok.hd hc
  have ni : l ≠ it := Inv.src_ne (b := true) I q1 (hf it (by simp))
  have g1 : is1.toArray.size = i := by rw [List.size_toArray, ← r1.length, hl]
  refine wpAny_pyNext_enum_endD (n := is1.toArray.size) (Draws.list (show (X.A.in1).handled = none from hd) it l ni is1.toArray) ee (by rw [g1]; exact ⟨si, p1⟩) fun h' kp => ⟨rfl, ?_⟩
  refine Inv.turnL (t' := s.toks) I hf fun b o hb q => ?_
  simp only [List.mem_cons, List.not_mem_nil, or_false, not_or] at hb
  exact kp b o hb.2 q
 self := fun _ _ _ _ _ st h => by
  obtain ⟨⟨old, ee⟩, si⟩ := st
  exact wpAny_pyIter_enum ee h
section
variable {X : Cx} {E : St -> XK} {K : PySem.W.Frag}
def iEn (K : PySem.W.Frag) (ta : TA) : TI := fun σ H R => ta σ H fun vs H1 => ∃ l xs, vs = [.ref l] /\ SqL K H1 l xs /\ R (Ite K l) H1
theorem zo {a : Expr} {ta : TA} {p pos : Pos} {elts : List Expr} {x1} {tpos : Pos} (hg : Gl X "enumerate") (hm : X.mg "enumerate" = none) (ha : PA X [a] ta) (hs : starEach [a] X.env = [(false, eval a X.env)] := by rfl) :
  PI X (.Tuple elts x1 tpos) (.Call (.Name "enumerate" p) [a] [] pos) (iEn X.K ta) := by
 intro pins s σ H R I h
 refine Call_ (fV I hg hm PyProof.Rows.Boot.«enumerate» (PyProof.Rows.callWith_type1 (thn (ha pos pins s σ H _ I h) fun us s1 ⟨vs, H1, I1, r1, q1⟩ => ?_) (by rw [hs]; rfl) (by rfl)))
 obtain ⟨l, xs, e, q1, q⟩ := q1
 subst e
 cases r1 with
 | cons r rr =>
  cases rr
  cases r
  obtain ⟨is1, v1, p1⟩ := Inv.src (b := true) I1 q1
  refine call_enumerate_list p1 fun h' ee si sz kp => ?_
  refine wpAny_pyIter_enum (s := { s1 with heap := h' }) ee ?_
  have I2 : Inv X pins σ H1 { s1 with heap := h' } := I1.kept (t' := s1.toks) kp
  refine ⟨_, [s1.heap.objs.size + 1, s1.heap.objs.size], _, Ite X.K l, H1, rfl, I2, tj l (s1.heap.objs.size + 1) s1.heap.objs.size (Nat.succ_ne_self _), ⟨⟨_, ee⟩, si⟩, fun c hc => ?_, q⟩
  have hge : s1.heap.objs.size <= c := by
   simp only [List.mem_cons, List.not_mem_nil, or_false] at hc
   rcases hc with rfl | rfl
   ·exact Nat.le_add_right _ _
   ·exact Nat.le_refl _
  exact I1.fpOk hge (I1.hok.fresh hge)
def cx : Nat -> List D -> List D
 | _, [] => []
 | n, x :: xs => .tup [.int (n : Int), x] :: cx (n + 1) xs
theorem c5 : ∀ (n : Nat) (xs : List D), (cx n xs).length = xs.length
 | _, [] => rfl
 | n, x :: xs => by
  show (cx (n + 1) xs).length + 1 = xs.length + 1
  rw [c5 (n + 1) xs]
theorem jZ : ∀ {n : Nat} {xs : List D} {i : Nat} {d : D}, (cx n xs)[i]? = some d -> ∃ x, xs[i]? = some x /\ d = .tup [.int ((n + i : Nat) : Int), x]
 | n, [], i, d, h => by simp [cx] at h
 | n, x :: xs, 0, d, h => by
  simp [cx] at h
  exact ⟨x, rfl, by rw [← h]; simp⟩
 | n, x :: xs, i + 1, d, h => by
  have h' : (cx (n + 1) xs)[i]? = some d := by simpa [cx] using h
  obtain ⟨a, e1, e3⟩ := jZ h'
  exact ⟨a, by simpa using e1, by rw [e3, show n + 1 + i = n + (i + 1) by omega]⟩
def yT : List D -> Option (List D)
 | [.lst xs] => some (cx 0 xs)
 | _ => none
theorem vK {F : Fx} {H : Hp} {l : Addr} {ds : List D} (h1 : ∀ F2 H2, Tr F H F2 H2 -> ∃ xs, SqL K H2 l xs /\ DenL K F2 H2 ds xs) : ItD K (Ite K l) F H (cx 0 ds) := fun F2 H2 β2 t fr i => by
 obtain ⟨xs, s1, d1⟩ := h1 F2 H2 t
 refine ⟨fun d hd => ?_, fun hi => ?_⟩
 ·obtain ⟨x, e1, rfl⟩ := jZ hd
  obtain ⟨u, hu, du⟩ := d1.get e1
  refine ⟨⟨xs, u, s1, hu⟩, fun z H3 hz => ?_⟩
  obtain ⟨p, u', hp, rfl, rfl, hh⟩ := hz
  have g1 := hh xs s1
  rw [hu] at g1
  cases g1
  rw [Nat.zero_add]
  exact ⟨bF.upd hp, Den.newT fr hp (DenL.cons rfl (DenL.cons du DenL.nil))⟩
 ·rw [c5] at hi
  exact ⟨xs, s1, by rw [← d1.length, hi]⟩
def i7 (g : Dn -> M (List D)) : Dn -> M (List D) := bD yT g
theorem iC {a : Expr} {g : Dn -> M (List D)} {p pos : Pos} {elts : List Expr} {x1} {tpos : Pos} (hg : Gl X "enumerate") (hm : X.mg "enumerate" = none) (ha : PA X [a] (tVA X.K g E)) (hs : starEach [a] X.env = [(false, eval a X.env)] := by rfl) :
  PI X (.Tuple elts x1 tpos) (.Call (.Name "enumerate" p) [a] [] pos) (iV X.K (i7 g) E) :=
 (zo hg hm ha hs).imp fun σ H R h_ => ex6 h_ fun F δ β fr vk h => ⟨F, δ, β, fr, vk, (run.bind (R := DenL X.K F) h).mono fun vs H1 h_ => by
  obtain ⟨ds, β1, t, hd, r1⟩ := h_
  obtain ⟨l, e, k⟩ := run.ofO r1
  unfold yT at e
  split at e
  ·rename_i xs
   cases e
   obtain ⟨v, rfl, h1⟩ := DenL.one hd
   have z : ∃ a, v = .ref a /\ ∀ F2 H2, Tr F H1 F2 H2 -> ∃ ys, SqL X.K H2 a ys /\ DenL X.K F2 H2 xs ys := by
    obtain ⟨a, ys, rfl, _⟩ := Den.sqL h1
    refine ⟨a, rfl, fun F2 H2 t2 => ?_⟩
    obtain ⟨a', ys', ea, sq, dl⟩ := Den.sqL (Den.tr t2 _ _ h1)
    cases ea
    exact ⟨ys', sq, dl⟩
   obtain ⟨a, rfl, z⟩ := z
   obtain ⟨us, g1, _⟩ := z F H1 (Tr.refl F H1)
   exact ⟨a, us, rfl, g1, k _ H1 (To.refl t.fr) (vK z)⟩
  ·cases e⟩
end
def dA (K : PySem.W.Frag) (fd : FuncData) (ps : List Str) (dd : List D) : Prop := ∃ ds dvs, aI K fd ps ds /\ ay dvs ds /\ ∀ F H, DenL K F H dd dvs
inductive Sr (α : Type) where
 | kw (j : Nat) | df (a : α)
def Sr.pick {α : Type} (z : α) (ws : List α) : Sr α -> α
 | .kw j => ws.getD j z
 | .df a => a
def gK {α : Type} (z : α) (n k : Nat) (src : List (Sr α)) (us ws : List α) : List α := if us.length = n /\ ws.length = k then us ++ src.map (Sr.pick z ws) else []
inductive SrR {α γ : Type} (R : α -> γ -> Prop) : List (Sr α) -> List (Sr γ) -> Prop where
 | nil : SrR R [] []
 | kw {j : Nat} {a : List (Sr α)} {c : List (Sr γ)} : SrR R a c -> SrR R (.kw j :: a) (.kw j :: c)
 | df {x : α} {y : γ} {a : List (Sr α)} {c : List (Sr γ)} : R x y -> SrR R a c -> SrR R (.df x :: a) (.df y :: c)
theorem ay.getD : ∀ {zs : List V} {ws : List Value} (j : Nat), ay zs ws -> aP (zs.getD j .non) (ws.getD j .none)
 | _, _, _, .nil => rfl
 | _, _, 0, .cons r _ => r
 | _, _, j + 1, .cons _ t => ay.getD j t
theorem SrR.vals {zs : List V} {ws : List Value} (r : ay zs ws) : ∀ {a : List (Sr V)} {c : List (Sr Value)}, SrR aP a c -> ay (a.map (Sr.pick .non zs)) (c.map (Sr.pick .none ws))
 | _, _, .nil => .nil
 | _, _, .kw (j := j) h => .cons (ay.getD j r) (SrR.vals r h)
 | _, _, .df q h => .cons q (SrR.vals r h)
theorem DenL.getD {K : PySem.W.Frag} {F : Fx} {H : Hp} : ∀ {ds : List D} {zs : List V} (j : Nat), DenL K F H ds zs -> Den K F H (ds.getD j .non) (zs.getD j .non)
 | [], zs, j, h => by have q : zs = [] := h; subst q; rfl
 | d :: ds, zs, 0, h => by
  obtain ⟨x, r, e, h1, h2⟩ := h
  subst e; exact h1
 | d :: ds, zs, j + 1, h => by
  obtain ⟨x, r, e, h1, h2⟩ := h
  subst e; exact DenL.getD j h2
theorem SrR.den {K : PySem.W.Frag} {F : Fx} {H : Hp} {ds : List D} {zs : List V} (r : DenL K F H ds zs) : ∀ {a : List (Sr D)} {c : List (Sr V)}, SrR (fun d v => ∀ F H, Den K F H d v) a c -> DenL K F H (a.map (Sr.pick .non ds)) (c.map (Sr.pick .non zs))
 | _, _, .nil => DenL.nil
 | _, _, .kw (j := j) h => DenL.cons (DenL.getD j r) (SrR.den r h)
 | _, _, .df q h => DenL.cons (q F H) (SrR.den r h)
theorem SrR.len {α γ : Type} {R : α -> γ -> Prop} : ∀ {a : List (Sr α)} {c : List (Sr γ)}, SrR R a c -> a.length = c.length
 | _, _, .nil => rfl
 | _, _, .kw h => by rw [List.length_cons, List.length_cons, SrR.len h]
 | _, _, .df _ h => by rw [List.length_cons, List.length_cons, SrR.len h]
structure KwOk (K : PySem.W.Frag) (fd : FuncData) (ps ks : List Str) (n : Nat) (src : List (Sr D)) : Prop where
 ex : ∃ (sv : List (Sr Value)) (sx : List (Sr V)), SrR aP sx sv /\ SrR (fun d v => ∀ F H, Den K F H d v) src sx /\ ∀ (s : Shared) (us ws : List Value), K.In s.heap -> us.length = n -> ws.length = ks.length -> BindsTo s fd ⟨us, ks.zip ws⟩ (ps.zip (us ++ sv.map (Sr.pick .none ws)))
 len : ps.length = n + src.length
 pos : 0 < ps.length
theorem KwOk.kb {K : PySem.W.Frag} {fd : FuncData} {ps ks : List Str} {n : Nat} {src : List (Sr D)} (h : KwOk K fd ps ks n src) : ∃ (sv : List (Sr Value)) (sx : List (Sr V)), SrR (fun d v => ∀ F H, Den K F H d v) src sx /\ KBinds K fd ps ks (gK .none n ks.length sv) (gK .non n ks.length sx) := by
 obtain ⟨sv, sx, r1, r2, b⟩ := h.ex
 refine ⟨sv, sx, r2, fun s us ws KX hl => ?_, fun {vs us zs ws} h1 h2 => ?_⟩
 ·unfold gK at hl ⊢
  split at hl
  ·rename_i q
   rw [if_pos q]
   exact b s us ws KX q.1 q.2
  ·exact absurd hl (by have := h.pos; simp; omega)
 ·unfold gK
  by_cases q : vs.length = n /\ zs.length = ks.length
  ·rw [if_pos q, if_pos (by rw [← h1.length, ← h2.length]; exact q)]
   exact h1.append (SrR.vals h2 r1)
  ·rw [if_neg q, if_neg (by rw [← h1.length, ← h2.length]; exact q)]
   exact .nil
section
variable {X : Cx} {E : St -> XK} {e : Expr} {es : List Expr} {pos p kpos : Pos} {x : Str} {k n : Nat} {f : Addr} {fd : FuncData} {ps ks : List Str} {kws : List Keyword} {nm : Option Str}
theorem Ah : PK X [] (tVA X.K ah E) := fun pos pins s σ H Q I h_ => by obtain ⟨F, δ, β, fr, vk, r⟩ := h_; exact AK pos pins s σ H Q I (run.ret fr r DenL.nil)
theorem yZ {f : Dn -> M D} {g : Dn -> M (List D)} (ha : PE X e (tV X.K f E)) (hr : PK X kws (tVA X.K g E)) : PK X (⟨nm, e, kpos⟩ :: kws) (tVA X.K (ae f g) E) := fun pos pins s σ H Q I ⟨F, δ, β, fr, vk, r⟩ =>
 zm ha hr pos pins s σ H Q I ⟨F, δ, β, fr, vk, (run.bind (R := Den X.K F) r).mono fun v H1 ⟨d, β1, t, hd, r1⟩ =>
  ⟨F, δ, β1, t.fr, vk.tr (t.tr fr), (run.bind (R := DenL X.K F) r1).mono fun vs H2 h_ => ex5 h_ fun ds β2 t2 hds r2 => run.ret t2.fr r2 (DenL.cons (Den.tr (t2.tr t.fr) _ _ hd) hds)⟩⟩
end
section
variable {X : Cx} {E : St -> XK} {e : Expr} {es : List Expr} {pos p kpos : Pos} {x : Str} {k n : Nat} {f : Addr} {fd : FuncData} {ps ks : List Str}
end
section
variable {X : Cx} {E : St -> XK} {K : PySem.W.Frag} {st : Stmt}
end
def Gw (g : G) (δ : Ds) (β : Bg) (Q : Out -> Bg -> Prop) : Prop := ∃ o β', g δ β = some (o, β') /\ Q o β'
section
variable {g h a b g1 g2 : G} {δ δ1 : Ds} {β β1 β2 β3 : Bg} {Q R : Out -> Bg -> Prop} {i : Nat} {f fa fb fv : Dn -> M D} {fl : Dn -> M (List D)} {fg : Dn -> M (List (List D))} {d x y z : D} {ds as : List D} {t : Dn -> M Bool} {c : Bool} {C : Addr} {K : PySem.W.Frag}
theorem Gw.mono (k : Gw g δ β R) (q : ∀ o β, R o β -> Q o β) : Gw g δ β Q := let ⟨o, β', e, r⟩ := k; ⟨o, β', e, q _ _ r⟩
theorem zf : ai g gNil = g := by
 funext δ β
 unfold ai gNil
 split
 ·rename_i δ1 β1 e; exact e.symm
 ·rfl
theorem ar (k : Gw (ai g gNil) δ β Q) : Gw g δ β Q := by rw [zf] at k; exact k
theorem aV (q : Q (.nx δ) β) : Gw gNil δ β Q := ⟨_, _, rfl, q⟩
theorem fE (e : g δ β = some (.nx δ1, β1)) (k : Gw h δ1 β1 Q) : Gw (ai g h) δ β Q := by
 obtain ⟨o, β', e', q⟩ := k
 exact ⟨o, β', by unfold ai; rw [e]; exact e', q⟩
theorem aQ (k : Gw h δ β Q) : Gw (ai gNil h) δ β Q := fE rfl k
theorem aJ (e : f (vw δ) β = some (.ok d, β1)) (k : Gw h (δ.set i (some (.sh d))) β1 Q) : Gw (ai (aG i f) h) δ β Q := fE (by unfold aG; rw [e]) k
theorem Ag (e : f (vwA δ) β = some (.ok d, β1)) (k : Gw h (δ.set i (some (.sh d))) β1 Q) (hf : dM d = true := by rfl) : Gw (ai (eP i f) h) δ β Q := fE (by unfold eP; simp only [e, hf, if_true]) k
theorem Af (e : g δ β = some (.ex C δ1, β1)) (q : Q (.ex C δ1) β1) : Gw (ai g h) δ β Q := ⟨_, _, by unfold ai; rw [e], q⟩
theorem kX (e : f (vwA δ) β = some (.ok d, β1)) (k : Gw h δ β1 Q) : Gw (ai (dz f) h) δ β Q := fE (by unfold dz; rw [e]) k
theorem fc (e : t (vwA δ) β = some (.ok c, β1)) (k : Gw (ai (if c = true then g1 else g2) h) δ β1 Q) : Gw (ai (gIf t g1 g2) h) δ β Q := by
 obtain ⟨o, β', e', q⟩ := k
 refine ⟨o, β', ?_, q⟩
 rw [← e']
 unfold ai gIf
 rw [e]
 cases c <;> rfl
theorem eB (e : t (vwA δ) β = some (.ok true, β1)) (k : Gw (ai g1 h) δ β1 Q) : Gw (ai (gIf t g1 g2) h) δ β Q := fc e k
theorem aU (e : t (vwA δ) β = some (.ok false, β1)) (k : Gw (ai g2 h) δ β1 Q) : Gw (ai (gIf t g1 g2) h) δ β Q := fc e k
theorem aN (e : f (vwA δ) β = some (.ok d, β1)) (q : Q (.rt d) β1) : Gw (ai (aE f) h) δ β Q := ⟨_, _, by unfold ai aE; rw [e], q⟩
theorem gs (e : fl (vwA δ) β = some (.ok ds, β1)) (q : Q (.ex C δ) β1) : Gw (ai (bN C fl) h) δ β Q := Af (by unfold bN; rw [e]) q
theorem DU {rows : List (List D)} (e : fg (vw δ) β = some (.ok rows, β1)) (hn : rows.all noLs = true) (k : Gw h (δ.set i (some (.grd rows))) β1 Q) : Gw (ai (mS i fg) h) δ β Q := fE (by unfold mS; simp only [e, hn, if_true]) k
theorem DT {rows : List (List D)} {ka kb : Int} {ja jb : Nat} (e1 : fv (vwA δ) β = some (.ok d, β1)) (e2 : fa (vwA δ) β1 = some (.ok (.int ka), β2)) (e3 : fb (vwA δ) β2 = some (.ok (.int kb), β3)) (eg : δ.getD i none = some (.grd rows))
  (h1 : ixN rows.length ka = some ja) (h2 : rows[ja]? = some ds) (h3 : ixN ds.length kb = some jb) (hn : noL d = true) (k : Gw h (δ.set i (some (.grd (rows.set ja (ds.set jb d))))) β3 Q) : Gw (ai (l8 i fa fb fv) h) δ β Q :=
 fE (by unfold l8; simp only [e1, e2, e3, eg, h1, h2, h3, hn, if_true]) k
def Tn (I : Ds -> Bg -> Prop) (h : G) (Q : Out -> Bg -> Prop) : Out -> Bg -> Prop := fun o β => match o with
 | .nx δ => I δ β
 | .ct δ => I δ β
 | .bk δ => Gw h δ β Q
 | o => Q o β
theorem bI {it : Dn -> M (List D)} {tg : TgS} (e : it (vw δ) β = some (.ok ds, β1)) (Iv : Nat -> Ds -> Bg -> Prop) (h0 : Iv 0 δ β1) (step : ∀ i d δ β, ds[i]? = some d -> Iv i δ β -> ∃ δ1, tg d δ = some δ1 /\ Gw g δ1 β (Tn (Iv (i + 1)) h Q)) (k : ∀ δ β, Iv ds.length δ β -> Gw h δ β Q) :
  Gw (ai (bQ it tg g) h) δ β Q := by
 have gen : ∀ (es : List D) (j : Nat) (δ : Ds) (β : Bg), es = ds.drop j -> j + es.length = ds.length -> Iv j δ β -> Gw (ai (gLp tg g es) h) δ β Q := by
  intro es
  induction es with
  | nil =>
   intro j δ β _ hl hv
   simp at hl
   exact fE (g := gLp tg g []) rfl (k δ β (hl ▸ hv))
  | cons d es ih =>
   intro j δ β he hl hv
   have hj : ds[j]? = some d := by
    have := congrArg (fun l => l[0]?) he
    simpa [List.getElem?_drop] using this.symm
   obtain ⟨δ1, e1, o, β2, e2, q⟩ := step j d δ β hj hv
   have he' : es = ds.drop (j + 1) := by
    have := congrArg List.tail he
    simpa [List.tail_drop] using this
   have go : ∀ δ2, Iv (j + 1) δ2 β2 -> Gw (ai (gLp tg g es) h) δ2 β2 Q := fun δ2 hv2 => ih (j + 1) δ2 β2 he' (by simp at hl; omega) hv2
   have lift : ∀ {r : G} {δ2 : Ds}, Gw (ai r h) δ2 β2 Q -> gLp tg g (d :: es) δ β = r δ2 β2 -> Gw (ai (gLp tg g (d :: es)) h) δ β Q := fun {r δ2} ⟨o', β', e', q'⟩ er => ⟨o', β', by rw [← e']; unfold ai; rw [er], q'⟩
   cases o with
   | nx δ2 => exact lift (r := gLp tg g es) (go δ2 q) (by rw [gLp]; simp only [e1, e2])
   | ct δ2 => exact lift (r := gLp tg g es) (go δ2 q) (by rw [gLp]; simp only [e1, e2])
   | bk δ2 => exact lift (r := gNil) (aQ q) (by rw [gLp]; simp only [e1, e2]; rfl)
   | rt d' => exact ⟨_, β2, by unfold ai; rw [gLp]; simp only [e1, e2], q⟩
   | rg d' => exact ⟨_, β2, by unfold ai; rw [gLp]; simp only [e1, e2], q⟩
   | ex C δ2 => exact ⟨_, β2, by unfold ai; rw [gLp]; simp only [e1, e2], q⟩
 obtain ⟨o, β', e', q⟩ := gen ds 0 δ β1 (by simp) (by simp) h0
 refine ⟨o, β', ?_, q⟩
 rw [← e']
 unfold ai bQ
 rw [e]
theorem me {n : Nat} {S : Except Addr D -> Bg -> Prop} (k : Gw g (stD n ds) β (fun o β' => match o with | .rt d => S (.ok d) β' | .nx _ => S (.ok .non) β' | .ex C _ => S (.error C) β' | _ => False)) : ∃ r β', aK n g ds β = some (r, β') /\ S r β' := by
 obtain ⟨o, β', e, q⟩ := k
 cases o with
 | rt d => exact ⟨.ok d, β', by unfold aK; rw [e], q⟩
 | nx δ => exact ⟨.ok .non, β', by unfold aK; rw [e], q⟩
 | ex C δ => exact ⟨.error C, β', by unfold aK; rw [e], q⟩
 | _ => exact q.elim
theorem aS {n : Nat} {r : Except Addr D} (k : Gw g (stD n ds) β (fun o β' => β' = β /\ (match o with | .rt d => r = .ok d | .nx _ => r = .ok .non | .ex C _ => r = .error C | _ => False))) : aK n g ds β = some (r, β) := by
 obtain ⟨r', β', e, q1, q2⟩ := me (S := fun r' β' => β' = β /\ r = r') (n := n) (ds := ds) (β := β) (k.mono fun o β' h => by
  cases o <;> first | exact h | exact h.2)
 subst q1 q2
 exact e
theorem aA {m : List D -> M D} {r : Except Addr D × Bg} {δ : Dn} (e1 : fl δ β = some (.ok as, β1)) (e2 : m as β1 = some r) : au m fl δ β = some r := by unfold au M.bind; rw [e1]; exact e2
theorem x_2 {op : D -> D -> Option D} {δ : Dn} (e1 : fa δ β = some (.ok x, β1)) (e2 : fb δ β1 = some (.ok y, β2)) (e3 : op x y = some z) : f2 op fa fb δ β = some (.ok z, β2) := by unfold f2 M.bind; rw [e1]; simp only [e2, M.ofO, e3]
theorem x_1 {op : D -> Option D} {δ : Dn} (e1 : fa δ β = some (.ok x, β1)) (e3 : op x = some z) : f1 op fa δ β = some (.ok z, β1) := by unfold f1 M.bind; rw [e1]; simp only [M.ofO, e3]
theorem bc {op : List D -> Option D} {δ : Dn} (e1 : fl δ β = some (.ok as, β1)) (e3 : op as = some z) : aq op fl δ β = some (.ok z, β1) := by unfold aq M.bind; rw [e1]; simp only [M.ofO, e3]
theorem am {δ : Dn} (e1 : fa δ β = some (.ok x, β1)) (e2 : fl δ β1 = some (.ok as, β2)) : ae fa fl δ β = some (.ok (x :: as), β2) := by unfold ae M.bind; rw [e1]; simp only [e2, M.ret]
theorem cA {op : List D -> Option (List D)} {δ : Dn} (e1 : fl δ β = some (.ok as, β1)) (e2 : op as = some ds) : bD op fl δ β = some (.ok ds, β1) := by unfold bD M.bind; rw [e1]; simp only [e2, M.ofO]
theorem gx {δ : Dn} (e1 : fa δ β = some (.ok x, β1)) (e2 : dR x = some ds) : ba fa δ β = some (.ok ds, β1) := by unfold ba M.bind; rw [e1]; simp only [e2, M.ofO]
theorem x_B {δ : Dn} (e1 : fa δ β = some (.ok (.bl c), β1)) : fB fa δ β = some (.ok c, β1) := by unfold fB M.bind; rw [e1]; rfl
theorem iN {δ : Dn} (e1 : fa δ β = some (.ok x, β1)) (e2 : iR x = some c) : cW fa δ β = some (.ok c, β1) := by unfold cW M.bind; rw [e1]; simp only [M.ofO, e2]
theorem gc {δ : Dn} (e1 : t δ β = some (.ok c, β1)) : cw t δ β = some (.ok (!c), β1) := by unfold cw M.bind; rw [e1]; rfl
theorem cV (ok : β.ok) {lot : Int} (h0 : 0 < lot) (h1 : lot < 1073741824) : ∃ v β', cG [.bag, .int lot] β = some (.ok (.int v), β') /\ 0 <= v /\ v < lot /\ β'.ok := by
 obtain ⟨a0, a1, ok1⟩ := qw ok h0
 exact ⟨_, _, vB ok h0 h1, a0, a1, ok1⟩
theorem pC {n : Nat} {k : Int} (h0 : 0 <= k) (h1 : k < n) : ixN n k = some k.toNat := by unfold ixN; rw [if_pos h0, if_pos h1]
theorem lS {xs : List D} {k : Int} {d : D} (h0 : 0 <= k) (h : xs[k.toNat]? = some d) : ixD (.lst xs) (.int k) = some d := by
 have hl : k.toNat < xs.length := (List.getElem?_eq_some_iff.mp h).1
 show atI xs k = some d
 unfold atI
 rw [pC h0 (by omega)]
 exact h
theorem rL {x y : D} : ixD (.tup [x, y]) (.int 0) = some x := rfl
theorem pB {x y : D} : ixD (.tup [x, y]) (.int 1) = some y := rfl
end
section
variable {β β1 β2 : Bg} {f g h i : Dn -> M D} {t u : Dn -> M Bool} {δ : Dn} {c e : Bool} {x y z w : Int} {d : D}
theorem DS (e1 : t δ β = some (.ok c, β)) (e2 : u δ β = some (.ok e, β)) : da t u δ β = some (.ok (c || e), β) := by
 unfold da M.bind; rw [e1]; cases c <;> simp [M.ret, e2]
theorem yn (e1 : t δ β = some (.ok false, β1)) (e2 : u δ β1 = some (.ok e, β2)) : da t u δ β = some (.ok e, β2) := by
 unfold da M.bind; rw [e1]; simp [e2]
theorem le_int : leD (.int x) (.int y) = some (.bl (decide (x <= y))) := rfl
theorem lt_int : ltD (.int x) (.int y) = some (.bl (decide (x < y))) := rfl
theorem gt_int : gtD (.int x) (.int y) = some (.bl (decide (y < x))) := rfl
theorem qi (e1 : f δ β = some (.ok (.int x), β)) (e2 : g δ β = some (.ok (.int y), β)) (e3 : h δ β = some (.ok (.int z), β)) : cn leD leD f g h δ β = some (.ok (.bl (decide (x <= y) && decide (y <= z))), β) := by
 unfold cn M.bind
 rw [e1]
 simp only [e2, le_int, M.ofO, asB]
 by_cases q : x <= y
 ·simp only [q, decide_true, if_true, e3, le_int, Bool.true_and]
 ·simp only [q, decide_false, Bool.false_eq_true, if_false, M.ret, Bool.false_and]
theorem uj {x : Int} (h0 : -1000000 <= x) (h1 : x <= 1000000) : x.natAbs.log2 < 1920 := by
 have h : x.natAbs < 2 ^ 20 := by omega
 by_cases z : x.natAbs = 0
 ·rw [z]; decide
 ·have := (Nat.log2_lt z).mpr h
  omega
theorem iO {j : Dn -> M Unit} (e1 : f δ β = some (.ok (.int x), β)) (h0 : -1000000 <= x) (h1 : x <= 1000000) (e2 : j δ β = some (.ok (), β)) : bZ f j δ β = some (.ok (), β) := by
 unfold bZ M.bind
 rw [e1]
 simp only [uj h0 h1, if_true, e2]
theorem jx {j : Dn -> M Unit} (e1 : j δ β = some (.ok (), β)) : cP j δ β = some (.ok .txt, β) := by
 unfold cP M.bind; rw [e1]; rfl
end
theorem yo {g h : G} {δ : Ds} {β : Bg} {Q : Out -> Bg -> Prop} (P : Ds -> Bg -> Prop) (k1 : Gw g δ β (fun o β1 => ∃ δ1, o = .nx δ1 /\ P δ1 β1)) (k2 : ∀ δ1 β1, P δ1 β1 -> Gw h δ1 β1 Q) : Gw (ai g h) δ β Q := by
 obtain ⟨o, β1, e, δ1, rfl, p⟩ := k1
 exact fE e (k2 δ1 β1 p)
theorem kY {δ : Ds} {β : Bg} {P : Ds -> Bg -> Prop} (p : P δ β) : Gw gNil δ β (fun o β1 => ∃ δ1, o = .nx δ1 /\ P δ1 β1) := aV ⟨_, rfl, p⟩
abbrev gI (rows : List (List Int)) : List (List D) := rows.map fun r => r.map D.int
abbrev lG (rows : List (List D)) : D := .lst (rows.map D.lst)
abbrev bL (rows : List (List Int)) : D := lG (gI rows)
def Shp {α : Type} (r c : Nat) (m : List (List α)) : Prop := m.length = r /\ ∀ row ∈ m, row.length = c
def tot (rows : List (List Int)) : Int := (rows.map List.sum).sum
theorem dX {n : Nat} (h : n <= 1000) : n <= sizeLine := Nat.le_trans h (by decide)
theorem nw : ∀ r : List Int, noLs (r.map D.int) = true
 | [] => rfl
 | x :: r => by
  show (noL (.int x) && noLs (r.map D.int)) = true
  rw [nw r]; rfl
theorem Shp.set {α : Type} {r c i j : Nat} {m : List (List α)} {row : List α} {v : α} (h : Shp r c m) (hr : m[i]? = some row) : Shp r c (m.set i (row.set j v)) := ⟨by rw [List.length_set, h.1], fun x hx => by
 rcases List.mem_or_eq_of_mem_set hx with hx | rfl
 ·exact h.2 x hx
 ·rw [List.length_set]; exact h.2 row (List.mem_of_getElem? hr)⟩
theorem Shp.at {α : Type} {r c i : Nat} {m : List (List α)} (h : Shp r c m) (hi : i < r) : ∃ row, m[i]? = some row /\ row.length = c := by
 have hl : i < m.length := by rw [h.1]; exact hi
 exact ⟨m[i], List.getElem?_eq_getElem hl, h.2 _ (List.getElem_mem hl)⟩
theorem yV {α : Type} {l : List α} {i : Nat} (h : i < l.length) : ∃ x, l[i]? = some x := ⟨l[i], List.getElem?_eq_getElem h⟩
theorem mn : ∀ {xs : List Int} {j : Nat} {x v : Int}, xs[j]? = some x -> (xs.set j v).sum = xs.sum - x + v
 | [], j, x, v, h => by simp at h
 | y :: xs, 0, x, v, h => by
  simp at h; subst h
  simp only [List.set_cons_zero, List.sum_cons]; omega
 | y :: xs, j + 1, x, v, h => by
  have h' : xs[j]? = some x := by simpa using h
  simp only [List.set_cons_succ, List.sum_cons, mn h']; omega
theorem zb {rows : List (List Int)} {i j : Nat} {row : List Int} {x v : Int} (h1 : rows[i]? = some row) (h2 : row[j]? = some x) : tot (rows.set i (row.set j v)) = tot rows - x + v := by
 unfold tot
 rw [List.map_set, mn (x := row.sum) (by rw [List.getElem?_map, h1]; rfl), mn h2]
 omega
theorem A5 {rows : List (List Int)} {i j : Nat} {row : List Int} {v : Int} (h : ∀ r ∈ rows, ∀ x ∈ r, 0 <= x) (hr : rows[i]? = some row) (hv : 0 <= v) : ∀ r ∈ rows.set i (row.set j v), ∀ x ∈ r, 0 <= x := fun r hr' x hx => by
 rcases List.mem_or_eq_of_mem_set hr' with hr' | rfl
 ·exact h r hr' x hx
 ·rcases List.mem_or_eq_of_mem_set hx with hx | rfl
  ·exact h row (List.mem_of_getElem? hr) x hx
  ·exact hv
theorem k9 : ∀ {xs : List Int}, (∀ x ∈ xs, 0 <= x) -> 0 <= xs.sum
 | [], _ => by simp
 | y :: xs, h => by
  have := k9 (xs := xs) fun x hx => h x (List.mem_cons_of_mem _ hx)
  have := h y List.mem_cons_self
  simp only [List.sum_cons]; omega
structure Tab (r c : Nat) (rows : List (List Int)) : Prop where
 shp : Shp r c rows
 nn : ∀ row ∈ rows, ∀ x ∈ row, 0 <= x
 tot : tot rows <= 40
 r0 : 1 <= r
 r1 : r <= 4
 c0 : 1 <= c
 c1 : c <= 6
theorem ik (ns : List Int) : cr [.lst (ns.map D.int)] = some (.int ns.sum) := by
 show ((dD (ns.map D.int)).map fun l => D.int l.sum) = _
 have : ∀ ns : List Int, dD (ns.map D.int) = some ns := fun ns => by
  induction ns with
  | nil => rfl
  | cons n ns ih => simp [dD, ih]
 rw [this]; rfl
theorem rg1 {n : Int} (h0 : 0 <= n) (h : n <= 10 ^ 9) : fX [.int n] = some (br 0 n.toNat) := by
 have q : (decide (-(2 ^ 62) <= n) && decide (n < 2 ^ 62)) = true := by
  simp only [Bool.and_eq_true, decide_eq_true_eq]
  omega
 show (if (decide (-(2 ^ 62) <= n) && decide (n < 2 ^ 62)) = true then some (br 0 n.toNat) else none) = _
 rw [if_pos q]
theorem ou {n k : Nat} {d : D} (h : (br 0 n)[k]? = some d) : k < n /\ d = .int (k : Int) := by
 unfold br at h
 have hk : k < n := by
  have := (List.getElem?_eq_some_iff.mp h).1
  simpa using this
 rw [List.getElem?_map, List.getElem?_range hk] at h
 exact ⟨hk, by cases h; simp⟩
theorem d9 {α : Type} {nv : Nat} {caps : List Nat} {it : Dn -> M (List D)} {tg : TgF} {f : Dn -> M D} {δ : Dn} {β : Bg} (xs : List α) (u v : α -> D) (h1 : it δ β = some (.ok (xs.map u), β))
  (h2 : ∀ x ∈ xs, ∃ δ1, tg (u x) (cSt nv caps δ) = some δ1 /\ f δ1 β = some (.ok (v x), β)) (h3 : xs.length <= sizeLine) : aT nv caps it tg (fun _ => M.ret true) (cEm f) δ β = some (.ok (.lst (xs.map v)), β) := by
 refine m6 h1 ?_ (by rw [List.length_map]; exact h3)
 have gen : ∀ xs : List α, (∀ x ∈ xs, ∃ δ1, tg (u x) (cSt nv caps δ) = some δ1 /\ f δ1 β = some (.ok (v x), β)) -> cLp tg (fun _ => M.ret true) (cEm f) (xs.map u) (cSt nv caps δ) β = some (.ok (xs.map v), β) := by
  intro xs
  induction xs with
  | nil => intro _; rfl
  | cons x xs ih =>
   intro h
   obtain ⟨δ1, e1, e2⟩ := h x List.mem_cons_self
   have e3 := ih fun y hy => h y (List.mem_cons_of_mem _ hy)
   rw [List.map_cons, cLp]
   simp only [e1, M.bind, M.ret, reduceIte, cEm, e2, e3, List.map_cons, List.cons_append, List.nil_append]
 exact gen xs h2
theorem uG {α : Type} {nv : Nat} {caps : List Nat} {it : Dn -> M (List D)} {tg : TgF} {f : Dn -> M (List D)} {δ : Dn} {β : Bg} (xs : List α) (u : α -> D) (v : α -> List D) (h1 : it δ β = some (.ok (xs.map u), β))
  (h2 : ∀ x ∈ xs, ∃ δ1, tg (u x) (cSt nv caps δ) = some δ1 /\ f δ1 β = some (.ok (v x), β)) (h3 : xs.length <= sizeLine) : iF nv caps it tg (fun _ => M.ret true) (pP f) δ β = some (.ok (xs.map v), β) := by
 have gen : ∀ xs : List α, (∀ x ∈ xs, ∃ δ1, tg (u x) (cSt nv caps δ) = some δ1 /\ f δ1 β = some (.ok (v x), β)) -> kT tg (fun _ => M.ret true) (pP f) (xs.map u) (cSt nv caps δ) β = some (.ok (xs.map v), β) := by
  intro xs
  induction xs with
  | nil => intro _; rfl
  | cons x xs ih =>
   intro h
   obtain ⟨δ1, e1, e2⟩ := h x List.mem_cons_self
   have e3 := ih fun y hy => h y (List.mem_cons_of_mem _ hy)
   rw [List.map_cons, kT]
   simp only [e1, M.bind, M.ret, reduceIte, pP, e2, e3, List.map_cons, List.cons_append, List.nil_append]
 unfold iF
 simp only [h1, gen xs h2, List.length_map, h3, if_true]
theorem AE {ds : List D} {c : Nat} (h1 : ds.length <= sizeLine) (h2 : ds.length * c <= sizeLine) (hc : c <= 1000000) : o9 ds (.int (c : Int)) = some (List.replicate c ds).flatten := by
 have q : (decide (-(2 ^ 63) <= (c : Int)) && decide ((c : Int) < 2 ^ 63) && decide (ds.length <= sizeLine) && decide (ds.length * (c : Int).toNat <= sizeLine)) = true := by
  simp only [Bool.and_eq_true, decide_eq_true_eq]
  exact ⟨⟨⟨by omega, by omega⟩, h1⟩, by rw [Int.toNat_natCast]; exact h2⟩
 unfold o9
 simp only [q, if_true]
 rw [Int.toNat_natCast]
theorem pJ {α : Type} (x : α) : ∀ c : Nat, (List.replicate c [x]).flatten = List.replicate c x
 | 0 => rfl
 | c + 1 => by rw [List.replicate_succ, List.flatten_cons, pJ x c]; rfl
theorem Eg {f : Dn -> M D} {g : Dn -> M D} {x : D} {c : Nat} {δ : Dn} {β : Bg} (e1 : f δ β = some (.ok x, β)) (e2 : g δ β = some (.ok (.int (c : Int)), β)) (hc : c <= 1000) : rD (ae f ah) g δ β = some (.ok (List.replicate c x), β) := by
 have l1 : [x].length <= sizeLine := by rw [List.length_singleton]; decide
 have l2 : [x].length * c <= sizeLine := by rw [List.length_singleton, Nat.one_mul]; exact dX hc
 have r := AE (ds := [x]) (c := c) l1 l2 (by omega)
 rw [pJ] at r
 have s : szL [x] = some [x] := by
  unfold szL
  rw [if_pos l1]
 have e3 : ae f ah δ β = some (.ok [x], β) := am e1 rfl
 unfold rD
 rw [M.bind_ok e3, s, M.bind_some, M.bind_ok e2, r]
 rfl
theorem uN (bs : List Bool) : dj (bs.map D.bl) = some bs := by
 induction bs with
 | nil => rfl
 | cons b bs ih => simp [dj, ih]
theorem any_map {α : Type} (xs : List α) (p : α -> Bool) : m8 [.lst (xs.map fun x => D.bl (p x))] = some (.bl (xs.any p)) := by
 show (dj _).map _ = _
 rw [show (xs.map fun x => D.bl (p x)) = (xs.map p).map D.bl by rw [List.map_map]; rfl, uN]
 simp only [Option.map_some, List.any_map]
 rfl
theorem iz {xs : List D} {r : Nat} (h : xs.length = r) : bE [.lst xs] = some (.int (r : Int)) := by subst h; rfl
theorem A7 {rows : List (List D)} {r : Nat} (h : rows.length = r) : bE [lG rows] = some (.int (r : Int)) := iz (by rw [List.length_map, h])
theorem yO {rows : List (List D)} {k : Nat} {row : List D} (h : rows[k]? = some row) : ixD (lG rows) (.int (k : Int)) = some (.lst row) := lS (by omega) (by rw [Int.toNat_natCast, List.getElem?_map, h]; rfl)
theorem kg {xs : List D} {k : Nat} {d : D} (h : xs[k]? = some d) : ixD (.lst xs) (.int (k : Int)) = some d := lS (by omega) (by rw [Int.toNat_natCast]; exact h)
theorem oP {x y : D} : cu [x, y] = some (.tup [x, y]) := by
 unfold cu
 rw [if_pos (show [x, y].length <= sizeLine by rw [List.length_cons, List.length_singleton]; decide)]
theorem eq_int {x y : Int} : cN (.int x) (.int y) = some (.bl (decide (x = y))) := by rw [jl]
theorem ne_int {x y : Int} : cy (.int x) (.int y) = some (.bl (!decide (x = y))) := by rw [jk]
theorem iG {xs : List D} {i : Nat} {d : D} (h : (cx 0 xs)[i]? = some d) : ∃ x, xs[i]? = some x /\ d = .tup [.int (i : Int), x] := by
 obtain ⟨x, h1, h2⟩ := jZ h
 rw [Nat.zero_add] at h2
 exact ⟨x, h1, h2⟩
theorem eK {α γ : Type} {f : α -> γ} {xs : List α} {i : Nat} {d : γ} (h : (xs.map f)[i]? = some d) : ∃ x, xs[i]? = some x /\ d = f x := by
 rw [List.getElem?_map] at h
 cases q : xs[i]? with
 | none => rw [q] at h; cases h
 | some x => rw [q] at h; exact ⟨x, rfl, by cases h; rfl⟩
structure PairOk (p : Int × Int) : Prop where
 l : 0 <= p.1
 m : p.1 <= p.2
 h : p.2 <= 40
theorem z6 {α : Type} {nv : Nat} {caps : List Nat} {it : Dn -> M (List D)} {tg : TgF} {b : Dn -> M (List D)} {δ : Dn} {β : Bg} (xs : List α) (u : α -> D) (o : α -> List D) (h1 : it δ β = some (.ok (xs.map u), β))
  (h2 : ∀ x ∈ xs, ∃ δ1, tg (u x) (cSt nv caps δ) = some δ1 /\ b δ1 β = some (.ok (o x), β)) (h3 : (xs.flatMap o).length <= sizeLine) : aT nv caps it tg (fun _ => M.ret true) b δ β = some (.ok (.lst (xs.flatMap o)), β) := by
 refine m6 h1 ?_ h3
 have gen : ∀ xs : List α, (∀ x ∈ xs, ∃ δ1, tg (u x) (cSt nv caps δ) = some δ1 /\ b δ1 β = some (.ok (o x), β)) -> cLp tg (fun _ => M.ret true) b (xs.map u) (cSt nv caps δ) β = some (.ok (xs.flatMap o), β) := by
  intro xs
  induction xs with
  | nil => intro _; rfl
  | cons x xs ih =>
   intro h
   obtain ⟨δ1, e1, e2⟩ := h x List.mem_cons_self
   have e3 := ih fun y hy => h y (List.mem_cons_of_mem _ hy)
   rw [List.map_cons, cLp]
   simp only [e1, M.bind, M.ret, reduceIte, e2, e3, List.flatMap_cons]
 exact gen xs h2
theorem ux {α γ : Type} {f : α -> List γ} {n : Nat} : ∀ {l : List α}, (∀ x ∈ l, (f x).length <= n) -> (l.flatMap f).length <= n * l.length
 | [], _ => by simp
 | x :: l, h => by
  have h1 := h x List.mem_cons_self
  have h2 := ux (l := l) fun y hy => h y (List.mem_cons_of_mem _ hy)
  rw [List.flatMap_cons, List.length_append, List.length_cons, Nat.mul_add]
  omega
theorem oI {α γ : Type} (u : α -> D) (v : γ -> D) : ∀ (xs : List α) (ys : List γ), cR (xs.map u) (ys.map v) = (xs.zip ys).map fun p => D.tup [u p.1, v p.2]
 | [], ys => by simp [cR]
 | x :: xs, [] => by simp [cR]
 | x :: xs, y :: ys => by simp [cR, oI u v xs ys]
def iK : List D -> List Value -> Prop
 | [], [] => True
 | .int i :: ds, .int j _ :: vs => i = j /\ iK ds vs
 | .str x :: ds, .str y _ :: vs => x = y /\ iK ds vs
 | .bl x :: ds, .bool y :: vs => x = y /\ iK ds vs
 | .non :: ds, .none :: vs => iK ds vs
 | _, _ => False
theorem fW {K : PySem.W.Frag} : ∀ {ds : List D} {vs : List Value}, iK ds vs -> ∃ xs, ay xs vs /\ ∀ F H, DenL K F H ds xs
 | [], [], _ => ⟨[], .nil, fun _ _ => DenL.nil⟩
 | .int i :: ds, .int j t :: vs, h => by
  obtain ⟨e, h⟩ := h
  subst e
  obtain ⟨xs, h1, h2⟩ := fW (K := K) h
  exact ⟨.int i :: xs, .cons ⟨t, rfl⟩ h1, fun F H => DenL.cons rfl (h2 F H)⟩
 | .str i :: ds, .str j t :: vs, h => by
  obtain ⟨e, h⟩ := h
  subst e
  obtain ⟨xs, h1, h2⟩ := fW (K := K) h
  exact ⟨.str i :: xs, .cons ⟨t, rfl⟩ h1, fun F H => DenL.cons rfl (h2 F H)⟩
 | .bl i :: ds, .bool j :: vs, h => by
  obtain ⟨e, h⟩ := h
  subst e
  obtain ⟨xs, h1, h2⟩ := fW (K := K) h
  exact ⟨.bl i :: xs, .cons rfl h1, fun F H => DenL.cons rfl (h2 F H)⟩
 | .non :: ds, .none :: vs, h => by
  obtain ⟨xs, h1, h2⟩ := fW (K := K) (ds := ds) (vs := vs) h
  exact ⟨.non :: xs, .cons rfl h1, fun F H => DenL.cons rfl (h2 F H)⟩
def VIs (K : PySem.W.Frag) (d : D) (u : Value) : Prop := ∃ v, aP v u /\ ∀ F H, Den K F H d v
theorem mk {K : PySem.W.Frag} {i : Int} {t : Tok} : VIs K (.int i) (.int i t) := ⟨.int i, ⟨t, rfl⟩, fun _ _ => rfl⟩
theorem j5 {K : PySem.W.Frag} {p : Addr} {q1 : Value} {q2 : Option Addr} {q3 : Array Value} {q4 : Nat} {q5 : Array (Option Value)} {ds : List D} (hl : K.lookup p = some ⟨q1, q2, .seq q3 q4, q5⟩) (hc : q1 = .type "tuple") (hz : q3.size <= sizeLine) (hv : iK ds q3.toList) : VIs K (.tup ds) (.ref p) := by
 obtain ⟨xs, h1, h2⟩ := fW (K := K) hv
 exact ⟨.ref p, rfl, fun F H => ⟨p, xs, rfl, .inr ⟨_, q3, q4, hl, hc, rfl, hz, h1⟩, h2 F H⟩⟩
theorem gO {K : PySem.W.Frag} {mg : Str -> Option Value} {x : Str} {d : D} {u : Value} (h : mg x = some u) (v : VIs K d u) : fM K mg x d := let ⟨w, h1, h2⟩ := v; ⟨u, w, h, h1, h2⟩
inductive KSr (K : PySem.W.Frag) : List (Sr D) -> List (Sr Value) -> Prop where
 | nil : KSr K [] []
 | kw {j : Nat} {a : List (Sr D)} {c : List (Sr Value)} : KSr K a c -> KSr K (.kw j :: a) (.kw j :: c)
 | df {x : D} {y : Value} {a : List (Sr D)} {c : List (Sr Value)} : VIs K x y -> KSr K a c -> KSr K (.df x :: a) (.df y :: c)
theorem KSr.mid {K : PySem.W.Frag} : ∀ {a : List (Sr D)} {c : List (Sr Value)}, KSr K a c -> ∃ b : List (Sr V), SrR aP b c /\ SrR (fun d v => ∀ F H, Den K F H d v) a b
 | _, _, .nil => ⟨[], .nil, .nil⟩
 | _, _, .kw (j := j) h => let ⟨b, h1, h2⟩ := KSr.mid h; ⟨.kw j :: b, .kw h1, .kw h2⟩
 | _, _, .df v h => let ⟨b, h1, h2⟩ := KSr.mid h; let ⟨w, g1, g2⟩ := v; ⟨.df w :: b, .df g1 h1, .df g2 h2⟩
theorem Ek {K : PySem.W.Frag} {fd : FuncData} {ps ks : List Str} {n : Nat} {src : List (Sr D)} {sv : List (Sr Value)} (h : KSr K src sv) (hl : ps.length = n + src.length) (h0 : 0 < ps.length) (b : ∀ (s : Shared) (us ws : List Value), K.In s.heap -> us.length = n -> ws.length = ks.length -> BindsTo s fd ⟨us, ks.zip ws⟩ (ps.zip (us ++ sv.map (Sr.pick .none ws)))) : KwOk K fd ps ks n src :=
 ⟨let ⟨sx, h1, h2⟩ := h.mid; ⟨sv, sx, h1, h2, b⟩, hl, h0⟩
section
variable {X : Cx} {E : St -> XK} {K : PySem.W.Frag} {st : Stmt}
end
section
variable {h : G} {δ : Ds} {β β1 β2 β3 : Bg} {Q : Out -> Bg -> Prop} {i : Nat} {fa fb fv : Dn -> M D} {fl : Dn -> M (List D)} {d d0 d1 : D} {ds : List D} {op : D -> D -> Option D}
end
theorem oi {t : Dn -> M Bool} {f g : Dn -> M D} {δ : Dn} {β β1 : Bg} {r : Except Addr D × Bg} (e1 : t δ β = some (.ok true, β1)) (e2 : f δ β1 = some r) : fIf t f g δ β = some r := by
 unfold fIf M.bind; rw [e1]; exact e2
theorem oj {t : Dn -> M Bool} {f g : Dn -> M D} {δ : Dn} {β β1 : Bg} {r : Except Addr D × Bg} (e1 : t δ β = some (.ok false, β1)) (e2 : g δ β1 = some r) : fIf t f g δ β = some r := by
 unfold fIf M.bind; rw [e1]; exact e2
theorem j4 {n : Nat} {d : D} {δ : Dn} {β : Bg} (e : δ.getD n none = some d) : aa n δ β = some (.ok d, β) := by unfold aa; rw [e]; rfl
section
variable {β β1 β2 : Bg} {f g h : Dn -> M D} {δ : Dn} {x y z : Int}
theorem sW (e1 : f δ β = some (.ok (.int x), β)) (e2 : g δ β = some (.ok (.int y), β)) (e3 : h δ β = some (.ok (.int z), β)) : cn leD ltD f g h δ β = some (.ok (.bl (decide (x <= y) && decide (y < z))), β) := by
 unfold cn M.bind
 rw [e1]
 simp only [e2, le_int, M.ofO, asB]
 by_cases q : x <= y
 ·simp only [q, decide_true, if_true, e3, lt_int, Bool.true_and]
 ·simp only [q, decide_false, Bool.false_eq_true, if_false, M.ret, Bool.false_and]
end
theorem lN {K : PySem.W.Frag} {F : Fx} {H : Hp} {f : Str} {d : D} : ∀ {ns : List Str} {ds : List D} {xs : List V}, DenL K F H ds xs -> (ns.zip ds).lookup f = some d -> ∃ v, (ns.zip xs).lookup f = some v /\ Den K F H d v
 | [], ds, xs, h, e => by simp at e
 | n :: ns, [], xs, h, e => by simp at e
 | n :: ns, c :: ds, xs, h, e => by
  obtain ⟨x, r, q, h1, h2⟩ := h
  subst q
  rw [List.zip_cons_cons, List.lookup_cons] at e ⊢
  split at e
  ·rename_i z
   cases e
   exact ⟨x, rfl, h1⟩
  ·rename_i z
   exact lN h2 e
theorem ny {α : Type} {m : Str} : ∀ {ns : List Str} {xs : List α}, m ∉ ns -> (ns.zip xs).lookup m = none
 | [], xs, _ => by simp
 | n :: ns, [], _ => by simp
 | n :: ns, x :: xs, h => by
  rw [List.zip_cons_cons, List.lookup_cons]
  have h1 : m ≠ n := fun z => h (by rw [z]; exact List.mem_cons_self)
  have h2 : m ∉ ns := fun z => h (List.mem_cons_of_mem _ z)
  rw [show (m == n) = false by simpa using h1]
  exact ny h2
theorem dA.nil {K : PySem.W.Frag} {fd : FuncData} {ps : List Str} (b : aI K fd ps []) : dA K fd ps [] := ⟨[], [], b, .nil, fun _ _ => DenL.nil⟩
section
variable {X : Cx} {E : St -> XK} {o e : Expr} {es : List Expr} {pos p apos kpos : Pos} {x m : Str} {k n : Nat} {f C : Addr} {fd : FuncData} {ps ks : List Str} {kws : List Keyword}
def cM (C : Addr) (f : Str) : D -> Option D
 | .obj C' ns ds => if C' = C then (ns.zip ds).lookup f else none
 | _ => none
theorem dF {f : Str} {g : Dn -> M D} (c : Cls X.K C) (n : cY X.K C f) (he : PE X e (tV X.K g E)) (hb : attributeBase e f X.env (eval e X.env) = eval e X.env := by rfl) : PE X (.Attribute e f pos) (tV X.K (f1 (cM C f) g) E) :=
 (AW he hb).imp fun σ H Q h_ => ex6 h_ fun F δ β fr vk h => ⟨F, δ, β, fr, vk, (run.bind (R := Den X.K F) h).mono fun v H1 h_ => by
  obtain ⟨d, β1, t, hd, r1⟩ := h_
  obtain ⟨d3, e3, k⟩ := run.ofO r1
  cases d <;> first | cases e3 | skip
  rename_i C' ns ds
  unfold cM at e3
  simp only at e3
  split at e3
  ·rename_i z
   subst z
   unfold Den at hd
   obtain ⟨a, dx, xs, rfl, h1, h2, h3, h4⟩ := hd
   obtain ⟨w, hw, dw⟩ := lN h4 e3
   exact ⟨a, C', dx, _, w, rfl, h2, c, n, hw, k w H1 (To.refl t.fr) dw⟩
  ·cases e3⟩
def db (C : Addr) (m : Str) (mf : List D -> M D) (fo : Dn -> M D) (g : Dn -> M (List D)) (dd : List D) : Dn -> M D := fun δ => M.bind (fo δ) fun d => match d with
 | .obj C' ns _ => if C' = C /\ m ∉ ns then M.bind (g δ) fun as => mf (d :: (as ++ dd)) else M.fail
 | _ => M.fail
theorem pw {mf : List D -> M D} {fo : Dn -> M D} {g : Dn -> M (List D)} {dd : List D} {K : PySem.W.Frag} {R : Sp} {dvs : List V} {σ : St} {H : Hp} {Q : VK} (hR : ∀ vs H Q E, spF K n mf vs H Q E -> R vs H Q E) (rd : ∀ F H, DenL K F H dd dvs) (hn : ∀ δ β r β', g δ β = some (.ok r, β') -> r.length + dd.length + 1 = n) (h : tV K (db C m mf fo g dd) E σ H Q) : rb C m R dvs E (tV K fo E) (tVA K g E) σ H Q := by
 obtain ⟨F, δ, β, fr, vk, h⟩ := h
 refine ⟨F, δ, β, fr, vk, (run.bind (R := Den K F) h).mono fun v H1 h_ => ex5 h_ fun d β1 t hd r1 => ?_⟩
 have fail : ∀ {mm : M D}, mm = M.fail -> run (Den K F) F E σ mm H1 Q β1 -> False := fun {mm} e r => by
  obtain ⟨r, β', e', _⟩ := r
  rw [e] at e'; cases e'
 cases d <;> first | exact (fail rfl r1).elim | skip
 rename_i C' ns ds
 simp only at r1
 split at r1
 ·rename_i z
  obtain ⟨rfl, hm⟩ := z
  have hd' := hd
  unfold Den at hd
  obtain ⟨a, dx, xs, rfl, h1, h2, h3, h4⟩ := hd
  refine ⟨a, dx, _, rfl, h2, ny hm, F, δ, β1, t.fr, vk.tr (t.tr fr), ?_⟩
  obtain ⟨r0, β0, e0, h0⟩ := run.bind (R := DenL K F) r1
  refine ⟨r0, β0, e0, ?_⟩
  cases r0 with
  | error C => exact h0
  | ok as =>
   intro vs H2 t2 hds
   obtain ⟨d', β2, t3, hd3, r3⟩ := h0 vs H2 t2 hds
   have hl := hn _ _ _ _ e0
   have hz := (rd F H2).length
   refine hR _ _ _ _ ⟨by rw [List.length_cons, List.length_append, ← hds.length, ← hz, hl], F, _ :: (d' ++ dd), β2, t3.fr, DenL.cons (Den.tr (t3.tr t.fr) _ _ hd') (DenL.append hd3 (rd F H2)), run.toE r3⟩
 ·exact (fail rfl r1).elim
theorem fN {mf : List D -> M D} {fo : Dn -> M D} {g : Dn -> M (List D)} {dd : List D} {pl : Sem Bool} (c : Cls X.K C) (hm : Meth X.K C m f) (G : FnOk X.prog X.w X.K X.mg X.base (CXE X.prog X.w) k f fd ps (spF X.K n mf)) (hr : Room k X.A) (hb : dA X.K fd ps dd) (hx : cJ (CXE X.prog X.w) X E)
  (ho : PE X o (tV X.K fo E)) (ha : PA X (e :: es) (tVA X.K g E)) (hn : ∀ δ β r β', g δ β = some (.ok r, β') -> r.length + dd.length + 1 = n)
  (hst : starEach (e :: es) X.env = (false, eval e X.env) :: starEach es X.env := by rfl) (hpl : (backTo pos (starEach es X.env)).any (·.1) = false := by rfl)
  (ht : eval (.Call (.Attribute o m apos) (e :: es) [] pos) X.env = (do
   let ov ← eval o X.env
   standAt apos.atName
   let (f, first) ← holding [ov] (getMethod ov m pl)
   callWith pos f first (backTo pos (starEach (e :: es) X.env)) (backToKw pos (keywordEach [] X.env))) := by rfl) :
  PE X (.Call (.Attribute o m apos) (e :: es) [] pos) (tV X.K (db C m mf fo g dd) E) := by
 obtain ⟨ds, dvs, b, rv, rd⟩ := hb
 exact (zp (pl := pl) ho c hm G hr b rv hx ha hst hpl ht).imp fun σ H Q h => pw (fun _ _ _ _ z => z) rd hn h
theorem qk {mf : List D -> M D} {fo : Dn -> M D} {dd : List D} {pl : Sem Bool} (c : Cls X.K C) (hm : Meth X.K C m f) (G : FnOk X.prog X.w X.K X.mg X.base (CXE X.prog X.w) k f fd ps (spF X.K n mf)) (hr : Room k X.A) (hb : dA X.K fd ps dd) (hx : cJ (CXE X.prog X.w) X E)
  (ho : PE X o (tV X.K fo E)) (hn : dd.length + 1 = n)
  (ht : eval (.Call (.Attribute o m apos) [] [] pos) X.env = (do
   let ov ← eval o X.env
   standAt apos.atName
   let (f, first) ← holding [ov] (getMethod ov m pl)
   callWith pos f first (backTo pos (starEach [] X.env)) (backToKw pos (keywordEach [] X.env))) := by rfl) :
  PE X (.Call (.Attribute o m apos) [] [] pos) (tV X.K (db C m mf fo ah dd) E) := by
 obtain ⟨ds, dvs, b, rv, rd⟩ := hb
 refine (vh (pl := pl) ho c hm G hr b rv hx ht).imp fun σ H Q h => ?_
 obtain ⟨F, δ, β, fr, vk, h⟩ := pw (fun _ _ _ _ z => z) rd (fun δ β r β' e => by cases e; simpa using hn) h
 refine ⟨F, δ, β, fr, vk, h.mono fun v H1 ⟨a, dx, fs, ev, ha, hl, F2, δ2, β2, fr2, vk2, r2⟩ => ⟨a, dx, fs, ev, ha, hl, ?_⟩⟩
 exact run.ret fr2 r2 DenL.nil
end
structure ToX (F : Fx) (x : Addr) (H H' : Hp) (β' : Bg) : Prop where
 kp : ∀ a o, a ≠ x -> H a = some o -> (∀ b l, F.bg = some (b, l) -> a ≠ b /\ a ≠ l) -> H' a = some o
 fr : Fr F H' β'
def spI (K : PySem.W.Frag) (C : Addr) (ns : List Str) (n : Nat) (mi : List D -> M (List D)) : Sp := fun vs H Q E => ∃ x rest F ds β dx, vs = .ref x :: rest /\ rest.length = n /\ Fr F H β /\ F.A x /\ (∀ b l, F.bg = some (b, l) -> x ≠ b /\ x ≠ l) /\ H x = some (.ins C dx []) /\ DenL K F H ds rest /\
 ∃ r β', mi ds β = some (r, β') /\ match r with
  | .ok es => ∀ H' xs, ToX F x H H' β' -> H' x = some (.ins C dx (ns.zip xs)) -> ns.length = xs.length -> DenL K F H' es xs -> Q .non H'
  | .error Ce => ∀ H', ToX F x H H' β' -> E (.ref Ce) none H'
section
variable {X : Cx} {E : St -> XK} {e : Expr} {es : List Expr} {pos p kpos : Pos} {x : Str} {k n : Nat} {f C : Addr} {fd : FuncData} {ps ks ns : List Str} {kws : List Keyword}
theorem vy {K : PySem.W.Frag} {mi : List D -> M (List D)} {F : Fx} {H2 : Hp} {β2 : Bg} {σ : St} {Q : VK} {ds : List D} {vs : List V} (fr : Fr F H2 β2) (hl : vs.length = n) (hd : DenL K F H2 ds vs) (r : run (Den K F) F E σ (M.bind (mi ds) fun fs => M.ret (.obj C ns fs)) H2 Q β2) :
  ∀ x dx, H2 x = none -> H2 dx = none -> dx ≠ x -> spI K C ns n mi (.ref x :: vs) (upd (upd H2 dx (.own x)) x (.ins C dx [])) (fun v H3 => v = .non /\ Q (.ref x) H3) (E σ) := by
 intro x dx hx hdx ne
 have hA : ¬ F.A x := fr.fresh hx
 have same : bF H2 (upd (upd H2 dx (.own x)) x (.ins C dx [])) := fun a o h => by
  rw [upd_ne (ne_of_none h hx), upd_ne (ne_of_none h hdx)]; exact h
 have t := fr.same same
 have frx : Fr (F.but x) (upd (upd H2 dx (.own x)) x (.ins C dx [])) β2 := ⟨fun a ha z => (by
  rcases ha with ha | ha
  ·exact t.fr.occ a ha z
  ·subst ha; rw [aw] at z; cases z), fun b l q => let ⟨z1, z2, z3⟩ := fr.bgA b l q; ⟨.inl z1, .inl z2, z3⟩, t.fr.bag⟩
 have nb : ∀ b l, F.bg = some (b, l) -> x ≠ b /\ x ≠ l := fun b l q => ⟨fun z => hA (z ▸ (fr.bgA b l q).1), fun z => hA (z ▸ (fr.bgA b l q).2.1)⟩
 have tr1 : Tr F H2 (F.but x) (upd (upd H2 dx (.own x)) x (.ins C dx [])) := ⟨fun a h1 h2 z => by
  rcases z with z | z
  ·exact h1 z
  ·subst z; exact h2 hx, fun a o _ h => same a o h, rfl⟩
 obtain ⟨rr, β', er, h⟩ := r
 refine ⟨x, vs, F.but x, ds, β2, dx, rfl, hl, frx, .inr rfl, nb, aw, DenL.tr tr1 _ _ hd, ?_⟩
 have toF : ∀ {H' : Hp} {β' : Bg}, ToX (F.but x) x (upd (upd H2 dx (.own x)) x (.ins C dx [])) H' β' -> To F H2 H' β' := fun {H' β'} tx => ⟨fun a o ha n => tx.kp a o (ne_of_none ha hx) (same a o ha) n, ⟨fun a ha => tx.fr.occ a (.inl ha), fr.bgA, tx.fr.bag⟩⟩
 cases q : mi ds β2 with
 | none => unfold M.bind at er; rw [q] at er; cases er
 | some z =>
  obtain ⟨r1, β1⟩ := z
  refine ⟨r1, β1, rfl, ?_⟩
  cases r1 with
  | error Ce =>
   rw [M.bind_err q] at er
   cases er
   exact fun H' tx => h H' (toF tx)
  | ok fs =>
   rw [M.bind_ok q] at er
   cases er
   refine fun H' xs tx hx' hlen hden => ⟨rfl, h (.ref x) H' (toF tx) ⟨x, dx, xs, rfl, hA, hx', hlen, DenL.tr Fx.tr_of _ _ hden⟩⟩
def pL (C : Addr) (ns : List Str) (mi : List D -> M (List D)) (g gk : Dn -> M (List D)) (src : List (Sr D)) : Dn -> M D := fun δ => M.bind (g δ) fun as => M.bind (gk δ) fun ks => M.bind (mi (as ++ src.map (Sr.pick .non ks))) fun fs => M.ret (.obj C ns fs)
def Ao (C : Addr) (sp : Sp) (gV : List V -> List V -> List V) (E : St -> XK) (t tk : TA) : TE := fun σ H Q => t σ H fun vs H1 => tk σ H1 fun zs H2 => ∀ x dx, H2 x = none -> H2 dx = none -> dx ≠ x ->
 sp (gV (.ref x :: vs) zs) (upd (upd H2 dx (.own x)) x (.ins C dx [])) (fun v H3 => v = .non /\ Q (.ref x) H3) (E σ)
theorem vi {CX : CXT} {sp : Sp} {t tk : TA} {g : List Value -> List Value -> List Value} {gV : List V -> List V -> List V} (M : Mk X.K C f) (F : FnOk X.prog X.w X.K X.mg X.base CX k f fd ps sp) (hr : Room (k + 1) X.A) (hg : Gl X x) (hm : X.mg x = some (.ref C)) (hb : KBinds X.K fd ps ks g gV) (hx : cJ CX X E)
  (ha : PA X (e :: es) t) (hkw : PK X kws tk) (hall : (backToKw pos (keywordEach kws X.env)).all (·.1.isSome) = true := by rfl) (hks : (backToKw pos (keywordEach kws X.env)).filterMap (·.1) = ks := by rfl)
  (hdb : (x == ("__debug__" : Str)) = false := by decide) (he : starEach (e :: es) X.env = (false, eval e X.env) :: starEach es X.env := by rfl)
  (hpl : ((backTo pos (starEach (e :: es) X.env)).any (·.1) || (backToKw pos (keywordEach kws X.env)).any (·.1.isNone)) = false := by rfl) :
  PE X (.Call (.Name x p) (e :: es) kws pos) (Ao C sp gV E t tk) := by
 intro pins s σ H Q I h
 refine wpAny_Call_Name_kw (iA I hg hm ?_ hdb)
 refine PySem.W.callWith_KW (h₀ := X.base) I.ok.mod.kin M.kp hall (thn (ha pos pins s σ H _ I h) fun us s1 ⟨vs, H1, I1, r, q⟩ => ?_) hpl he
 refine thn (hkw pos pins s1 σ H1 _ I1 q) fun ws s2 ⟨zs, H2, I2, rz, q2⟩ => ⟨I2.kIn, ?_⟩
 rw [hks]
 have hq := q2 (s2.heap.objs.size + 1) s2.heap.objs.size (I2.hok.fresh (Nat.le_succ _)) (I2.hok.fresh (Nat.le_refl _)) (Nat.ne_of_lt (Nat.lt_succ_self _))
 have I3 := Inv.made (C := C) I2
 have r2 := hb.rel (.cons (show aP (V.ref (s2.heap.objs.size + 1)) (Value.ref (s2.heap.objs.size + 1)) from rfl) r) rz
 have hl : (g (Value.ref (s2.heap.objs.size + 1) :: us) ws).length = ps.length := by rw [← r2.length]; exact F.len _ _ _ _ hq
 refine wpAny_call (vA (f := f) I2.kIn M.makes M.init (beq_iff_eq.mp M.fn) (codeAny_mono (F.run _ X.stack _ _ ⟨Value.ref (s2.heap.objs.size + 1) :: us, ks.zip ws⟩ (g (Value.ref (s2.heap.objs.size + 1) :: us) ws) _ _ (E σ) (hr.make C us (ks.zip ws))
  (I3.env0.make C us (ks.zip ws)) (hb.to _ (Value.ref (s2.heap.objs.size + 1) :: us) ws I3.kIn hl) r2 hq) fun r s' hq' => ?_))
 cases r with
 | error e => exact hx pins σ _ _ e s' I3 hq'
 | ok fl =>
  cases fl with
  | ret u =>
   obtain ⟨v, H', I4, rv, ev, q4⟩ := I3.after hq'
   subst ev
   exact ⟨rv, ⟨V.ref (s2.heap.objs.size + 1), H', I4, rfl, q4⟩⟩
  | next => exact False.elim hq'
  | brk => exact False.elim hq'
  | cont => exact False.elim hq'
theorem y8 {mi : List D -> M (List D)} {g gk : Dn -> M (List D)} {src : List (Sr D)} {n1 : Nat} (Mm : Mk X.K C f) (G : FnOk X.prog X.w X.K X.mg X.base (CXE X.prog X.w) k f fd ps (spI X.K C ns n mi)) (hr : Room (k + 1) X.A) (hg : Gl X x) (hm : X.mg x = some (.ref C)) (hb : KwOk X.K fd ps ks (n1 + 1) src) (hx : cJ (CXE X.prog X.w) X E)
  (ha : PA X (e :: es) (tVA X.K g E)) (hkw : PK X kws (tVA X.K gk E)) (hn : ∀ δ β r β', g δ β = some (.ok r, β') -> r.length = n1) (hn2 : ∀ δ β r β', gk δ β = some (.ok r, β') -> r.length = ks.length) (h3 : n1 + src.length = n)
  (hall : (backToKw pos (keywordEach kws X.env)).all (·.1.isSome) = true := by rfl) (hks : (backToKw pos (keywordEach kws X.env)).filterMap (·.1) = ks := by rfl)
  (hdb : (x == ("__debug__" : Str)) = false := by decide) (he : starEach (e :: es) X.env = (false, eval e X.env) :: starEach es X.env := by rfl)
  (hpl : ((backTo pos (starEach (e :: es) X.env)).any (·.1) || (backToKw pos (keywordEach kws X.env)).any (·.1.isNone)) = false := by rfl) :
  PE X (.Call (.Name x p) (e :: es) kws pos) (tV X.K (pL C ns mi g gk src) E) := by
 obtain ⟨sv, sx, rd, kb⟩ := hb.kb
 refine (vi Mm G hr hg hm kb hx ha hkw hall hks hdb he hpl).imp fun σ H Q h_ => ex6 h_ fun F δ β fr vk r => ⟨F, δ, β, fr, vk, ?_⟩
 obtain ⟨r0, β0, e0, h0⟩ := run.bind (R := DenL X.K F) r
 refine ⟨r0, β0, e0, ?_⟩
 cases r0 with
 | error C => exact h0
 | ok as =>
  intro vs H1 t hd
  obtain ⟨d', β1, t1, hd1, r1⟩ := h0 vs H1 t hd
  refine ⟨F, δ, β1, t1.fr, vk.tr (t1.tr fr), ?_⟩
  obtain ⟨q0, β2, e2, h2⟩ := run.bind (R := DenL X.K F) r1
  refine ⟨q0, β2, e2, ?_⟩
  cases q0 with
  | error C => exact h2
  | ok bs =>
   intro zs H2 t2 hz
   obtain ⟨d2, β3, t3, hd2, r3⟩ := h2 zs H2 t2 hz
   have l1 := hn _ _ _ _ e0
   have l2 := hn2 _ _ _ _ e2
   have hda : DenL X.K F H2 d' vs := DenL.tr (t3.tr t1.fr) _ _ hd1
   intro y dx
   have g1 : gK V.non (n1 + 1) ks.length sx (.ref y :: vs) zs = .ref y :: (vs ++ sx.map (Sr.pick .non zs)) := if_pos ⟨by rw [List.length_cons, ← hd.length, l1], by rw [← hz.length, l2]⟩
   rw [g1]
   exact vy t3.fr (by rw [List.length_append, List.length_map, ← hd.length, l1, ← rd.len, h3]) (DenL.append hda (SrR.den hd2 rd)) r3 y dx
end
abbrev IP := Ds -> List D -> Bg -> Option (Except Addr (List D) × Bg)
def yQ : IP := fun _ done β => some (.ok done, β)
def i9 (g : G) (ip : IP) : IP := fun δ done β => match g δ β with
 | some (.nx δ1, β1) => match δ[0]?, δ1[0]? with
  | some (some (Sl.sh (D.adr x))), some (some (Sl.sh (D.adr y))) => if x = y then ip δ1 done β1 else none
  | _, _ => none
 | some (.ex C _, β1) => some (.error C, β1)
 | _ => none
def gp (f : Dn -> M D) (ip : IP) : IP := fun δ done β => match f (vw δ) β with
 | some (.ok d, β1) => ip δ (done ++ [d]) β1
 | some (.error C, β1) => some (.error C, β1)
 | none => none
structure StpX (x : Addr) (B : Ow) (H : Hp) (B' : Ow) (H' : Hp) : Prop where
 kp : ∀ a o, a ≠ x -> H a = some o -> (B a = none \/ B a = some 0) -> H' a = some o
 tg : ∀ a, B a = some 0 \/ B a = some 1 -> B' a = B a
 nn : ∀ a o, a ≠ x -> H a = some o -> B a = none -> B' a = none
 al : ∀ a, H a ≠ none -> H' a ≠ none
theorem Stp.x {x : Addr} {B B' : Ow} {H H' : Hp} (s : Stp B H B' H') : StpX x B H B' H' := ⟨fun a o _ => s.kp a o, s.tg, fun a o _ => s.nn a o, s.al⟩
theorem StpX.trans {x : Addr} {B B1 B2 : Ow} {H H1 H2 : Hp} (a : StpX x B H B1 H1) (b : StpX x B1 H1 B2 H2) : StpX x B H B2 H2 := by
 refine ⟨fun c o ne h n => b.kp c o ne (a.kp c o ne h n) ?_, fun c h => ?_, fun c o ne h n => b.nn c o ne (a.kp c o ne h (.inl n)) (a.nn c o ne h n), fun c h => b.al c (a.al c h)⟩
 ·rcases n with n | n
  ·exact .inl (a.nn c o ne h n)
  ·exact .inr ((a.tg c (.inl n)).trans n)
 ·have e := a.tg c h
  rw [← e] at h
  exact (b.tg c h).trans e
def iM (K : PySem.W.Frag) (bg : Option (Addr × Addr)) (E : St -> XK) (Dn : Ends) (B : Ow) (H : Hp) (x C dx : Addr) (all : List Str) (r : Except Addr (List D)) (β' : Bg) : Prop := match r with
 | .ok ds => ∀ σ' B' H' vs, StpX x B H B' H' -> Fr (FxB B' bg) H' β' -> H' x = some (.ins C dx (all.zip vs)) -> all.length = vs.length -> DenL K (FxB B' bg) H' ds vs -> Dn.nx σ' H'
 | .error Ce => ∀ σ' B' H', StpX x B H B' H' -> Fr (FxB B' bg) H' β' -> E σ' (.ref Ce) none H'
theorem iM.pre {K : PySem.W.Frag} {bg : Option (Addr × Addr)} {E : St -> XK} {Dn : Ends} {B B1 : Ow} {H H1 : Hp} {x C dx : Addr} {all : List Str} {r : Except Addr (List D)} {β' : Bg} (s : StpX x B H B1 H1) (h : iM K bg E Dn B H x C dx all r β') : iM K bg E Dn B1 H1 x C dx all r β' := by
 cases r with
 | ok ds => exact fun σ' B' H' vs t => h σ' B' H' vs (s.trans t)
 | error Ce => exact fun σ' B' H' t => h σ' B' H' (s.trans t)
def tI (K : PySem.W.Frag) (H₀ : Hp) (C : Addr) (ns0 names : List Str) (ip : IP) (E : St -> XK) : TS := fun Dn σ H => ∃ B bg δ β x dx vs0 ds0 r β', SOk K H₀ B bg H δ β σ /\ δ[0]? = some (some (.sh (.adr x))) /\ B x = some 0 /\ H x = some (.ins C dx (ns0.zip vs0)) /\ ns0.length = vs0.length /\ DenL K (FxB B bg) H ds0 vs0 /\ ip δ ds0 β = some (r, β') /\ iM K bg E Dn B H x C dx (ns0 ++ names) r β'
theorem nq {f : Str} {y : V} : ∀ {ns : List Str} {vs : List V}, ns.length = vs.length -> f ∉ ns -> cU f y (ns.zip vs) = (ns ++ [f]).zip (vs ++ [y])
 | [], [], _, _ => rfl
 | n :: ns, v :: vs, h, hf => by
  have h1 : ¬ n = f := fun z => hf (by rw [z]; exact List.mem_cons_self)
  show (if n = f then (n, y) :: ns.zip vs else (n, v) :: cU f y (ns.zip vs)) = _
  rw [if_neg h1, nq (by simpa using h) fun z => hf (List.mem_cons_of_mem _ z)]
  rfl
 | [], _ :: _, h, _ => by simp at h
 | _ :: _, [], h, _ => by simp at h
theorem SOk.upd0 {K : PySem.W.Frag} {H₀ : Hp} {B : Ow} {bg : Option (Addr × Addr)} {H : Hp} {δ : Ds} {β : Bg} {σ : St} {x : Addr} {o : HO} (ok : SOk K H₀ B bg H δ β σ) (hx : B x = some 0) : SOk K H₀ B bg (upd H x o) δ β σ /\ StpX x B H B (upd H x o) := by
 have al : ∀ c, H c ≠ none -> upd H x o c ≠ none := fun c hc => by
  by_cases z : c = x
  ·subst z; rw [aw]; simp
  ·rw [upd_ne z]; exact hc
 have nb : ∀ b l, bg = some (b, l) -> b ≠ x /\ l ≠ x := fun b l e => by
  obtain ⟨b1, b2⟩ := ok.bgt b l e
  exact ⟨fun z => (by rw [z, hx] at b1; cases b1), fun z => (by rw [z, hx] at b2; cases b2)⟩
 have tr : Tr (FxB B bg) H (FxB B bg) (upd H x o) := ⟨fun _ h _ => h, fun c u hc e => by
  rw [upd_ne]
  ·exact e
  ·intro z; subst z; exact hc (by show B c ≠ none; rw [hx]; simp), rfl⟩
 refine ⟨⟨⟨fun c hc => al c (ok.fr.occ c hc), ok.fr.bgA, fun b l e => ?_⟩, ok.bgt, ok.len, fun c hc => al c (ok.cov c hc), ok.new, fun c k hc => ?_, fun i s e => ?_⟩, fun c u ne h _ => by rw [upd_ne ne]; exact h, fun _ _ => rfl, fun _ _ _ _ n => n, al⟩
 ·obtain ⟨z1, z2⟩ := ok.fr.bag b l e
  obtain ⟨n1, n2⟩ := nb b l e
  exact ⟨by rw [upd_ne n1]; exact z1, by rw [upd_ne n2]; exact z2⟩
 ·obtain ⟨xs, h⟩ := ok.lst c k hc
  exact ⟨xs, by rw [upd_ne]; exact h; intro z; subst z; rw [hx] at hc; cases hc⟩
 ·obtain ⟨v, h1, h2⟩ := ok.tell i s e
  refine ⟨v, h1, ?_⟩
  cases s with
  | sh d => exact Den.tr tr _ _ h2
  | own ds =>
   obtain ⟨a, xs, rfl, hB, ha, hd⟩ := h2
   exact ⟨a, xs, rfl, hB, (by rw [upd_ne]; exact ha; intro z; subst z; rw [hx] at hB; cases hB), DenL.tr tr _ _ hd⟩
  | grd rows =>
   obtain ⟨a, rs, rfl, hB, ha, nd, rl⟩ := h2
   refine ⟨a, rs, rfl, hB, (by rw [upd_ne]; exact ha; intro z; subst z; rw [hx] at hB; cases hB), nd, RowL.tr tr rl fun r xs _ p q => ⟨p, ?_⟩⟩
   rw [upd_ne]
   ·exact q
   ·intro z; subst z
    have p' : B r = some (i + 2) := p
    rw [hx] at p'; cases p'
section
variable {X : Cx} {E : St -> XK} {st : Stmt} {sts : List Stmt} {C : Addr} {ns0 names : List Str} {ip : IP}
theorem Er : PSs X [] (tI X.K X.H₀ C ns0 [] yQ E) := mz.imp fun Dn σ H h_ => by
 obtain ⟨B, bg, δ, β, x, dx, vs0, ds0, r, β', ok, h0, hx, hH, hl, hd, e, k⟩ := h_
 cases e
 rw [List.append_nil] at k
 exact k σ B H vs0 (Stp.refl B H).x ok.fr hH hl hd
theorem rO {g : G} (h1 : PS X st (tG X.K X.H₀ g E)) (h2 : PSs X sts (tI X.K X.H₀ C ns0 names ip E)) : PSs X (st :: sts) (tI X.K X.H₀ C ns0 names (i9 g ip) E) := (bW h1 h2).imp fun Dn σ H h_ => by
 obtain ⟨B, bg, δ, β, x, dx, vs0, ds0, r, β', ok, h0, hx, hH, hl, hd, e, k⟩ := h_
 unfold i9 at e
 split at e
 ·rename_i δ1 β1 e1
  split at e
  ·rename_i x1 y1 q1 q2
   split at e
   ·rename_i z
    subst z
    rw [h0] at q1
    cases q1
    refine ⟨B, bg, δ, β, .nx δ1, β1, ok, e1, fun σ' B' H' s ok' => ?_⟩
    exact ⟨B', bg, δ1, β1, x, dx, vs0, ds0, r, β', ok', q2, (s.tg x (.inl hx)).trans hx, s.kp x _ hH (.inr hx), hl, DenL.tr s.tr _ _ hd, e, iM.pre s.x k⟩
   ·cases e
  ·cases e
 ·rename_i Ce δ1 β1 e1
  cases e
  exact ⟨B, bg, δ, β, .ex Ce δ1, _, ok, e1, fun σ' B' H' s ok' => k σ' B' H' s.x ok'.fr⟩
 ·cases e
theorem lY {f : Str} {fv : Dn -> M D} (c : Cls X.K C) (n : cY X.K C f) (hf : f ∉ ns0) (hlen : ns0.length < 1000) (h1 : PS X st (AD X.K (oS 0) (tV X.K fv E) f)) (h2 : PSs X sts (tI X.K X.H₀ C (ns0 ++ [f]) names ip E)) : PSs X (st :: sts) (tI X.K X.H₀ C ns0 (f :: names) (gp fv ip) E) := (bW h1 h2).imp fun Dn σ H h_ => by
 obtain ⟨B, bg, δ, β, x, dx, vs0, ds0, r, β', ok, h0, hx, hH, hl, hd, e, k⟩ := h_
 refine ⟨FxB B bg, vw δ, β, ok.fr, ok.view, ?_⟩
 unfold gp at e
 split at e
 ·rename_i d β1 e1
  refine ⟨.ok d, β1, e1, fun y H1 t1 hy => ?_⟩
  obtain ⟨ok1, s1⟩ := ok.to rfl t1
  obtain ⟨v, g1, g2⟩ := ok1.tell 0 _ h0
  have hv : v = .ref x := g2
  subst hv
  have hH1 := s1.kp x _ hH (.inr hx)
  refine ⟨_, g1, x, C, dx, _, rfl, hH1, c, n, ?_, ?_⟩
  ·rw [List.length_zip]; omega
  obtain ⟨ok2, s2⟩ := ok1.upd0 (o := .ins C dx (cU f y (ns0.zip vs0))) hx
  have trx : Tr (FxB B bg) H1 (FxB B bg) (upd H1 x (.ins C dx (cU f y (ns0.zip vs0)))) := ⟨fun _ h _ => h, fun a u ha e => by
   rw [upd_ne]
   ·exact e
   ·intro z; subst z; exact ha (by show B a ≠ none; rw [hx]; simp), rfl⟩
  refine ⟨B, bg, δ, β1, x, dx, vs0 ++ [y], ds0 ++ [d], r, β', ok2, h0, hx, by rw [aw, nq hl hf], by simp [hl], DenL.append (DenL.tr trx _ _ (DenL.tr s1.tr _ _ hd)) (DenL.cons (Den.tr trx _ _ hy) DenL.nil), e, ?_⟩
  rw [List.append_assoc]
  exact iM.pre (s1.x.trans s2) k
 ·rename_i Ce β1 e1
  cases e
  refine ⟨.error Ce, _, e1, fun H1 t1 => ?_⟩
  obtain ⟨ok1, s1⟩ := ok.to rfl t1
  exact k σ B H1 s1.x ok1.fr
 ·cases e
end
open Classical in
noncomputable def kh (m : Nat) (ip : IP) : List D -> M (List D) := fun ds β => if h : ∃ r, ∀ x, ip (stD m (.adr x :: ds)) [] β = some r then some h.choose else none
theorem vM {m : Nat} {ip : IP} {ds : List D} {β : Bg} {r : Except Addr (List D) × Bg} (h : ∀ x, ip (stD m (.adr x :: ds)) [] β = some r) : kh m ip ds β = some r := by
 have hx : ∃ r, ∀ x, ip (stD m (.adr x :: ds)) [] β = some r := ⟨r, h⟩
 unfold kh
 rw [dif_pos hx]
 have := hx.choose_spec 0
 rw [h 0] at this
 exact this.symm
theorem ut {m : Nat} {ip : IP} {ds : List D} {β : Bg} {r : Except Addr (List D) × Bg} (h : kh m ip ds β = some r) : ∀ x, ip (stD m (.adr x :: ds)) [] β = some r := by
 unfold kh at h
 split at h
 ·rename_i hx
  have := hx.choose_spec
  cases h
  exact this
 ·cases h
section
variable {P : Program} {w : World} {K : PySem.W.Frag} {mg : Str -> Option Value} {base : Heap}
theorem zZ {x qual : Str} {st : Stmt} {f C : Addr} {fd : FuncData} {N ps names : List Str} {k : Nat} (n m : Nat) (ip : IP) (F : FunD K x qual st f fd) (S : FnScope N ps (aj st)) (hn' : ps.length = n + 1) (hm' : N.length = m)
  (hbody : ∀ (cdv : Value) (A : Around) (outer : List Env) (s : Shared) (H : Hp) (E : XK), Room k (A.deeper (envOfC qual (aj st) s.heap.objs.size f cdv)) ->
   PSs (cX (CXE P w) P w K mg base N qual (aj st) f cdv A outer s H E) (cg st) (tI K H C [] names ip (fun _ => E))) : FnOk P w K mg base (CXE P w) (k + 1) f fd ps (spI K C names n (kh m ip)) := by
 subst hm'
 refine F.okE S (fun vs H Q E h => ?_) fun cdv A outer s H vs Q E hr h => ?_
 ·obtain ⟨y, rest, F0, ds, β, dx, rfl, hl, _⟩ := h
  rw [List.length_cons, hl, hn']
 obtain ⟨y, rest, F0, ds, β, dx, rfl, hl, fr, hA0, nb, hH, hd, r, β', e, h⟩ := h
 refine ⟨_, hbody cdv A outer s H E hr, ?_⟩
 have hd' : DenL K F0 H (.adr y :: ds) (.ref y :: rest) := DenL.cons rfl hd
 obtain ⟨B, ok, hA, h1, hn⟩ := tL (N := N) fr hd'
 have hy : B y = some 0 := by
  rcases hA y hA0 with z | z
  ·exact z
  ·obtain ⟨b, l, q, w⟩ := h1 y z
   obtain ⟨n1, n2⟩ := nb b l q
   rcases w with w | w
   ·exact absurd w n1
   ·exact absurd w n2
 have toF : ∀ {B' : Ow} {H' : Hp} {β' : Bg}, StpX y B H B' H' -> Fr (FxB B' F0.bg) H' β' -> ToX F0 y H H' β' /\ Tr (FxB B' F0.bg) H' F0 H' := fun {B' H' β'} s fr' => by
  have hs : ∀ a, F0.A a -> B' a ≠ none := fun a ha => by
   rw [s.tg a (hA a ha)]
   rcases hA a ha with z | z <;> rw [z] <;> simp
  refine ⟨⟨fun a o ne ha n => s.kp a o ne ha ?_, fun a ha => fr'.occ a (hs a ha), fun b l e => fr.bgA b l e, fr'.bag⟩, fun a ha _ z => ha (hs a z), fun _ _ _ h => h, rfl⟩
  cases q : B a with
  | none => exact .inl rfl
  | some t =>
   have := hA a (hn a (by rw [q]; simp))
   rcases this with z | z
   ·rw [q] at z; exact .inr z
   ·obtain ⟨b, l, e, w⟩ := h1 a z
    obtain ⟨n1, n2⟩ := n b l e
    rcases w with w | w
    ·exact absurd w n1
    ·exact absurd w n2
 refine ⟨B, F0.bg, stD N.length (.adr y :: ds), β, y, dx, [], [], r, β', ok, rfl, hy, hH, rfl, DenL.nil, ut e y, ?_⟩
 cases r with
 | ok es =>
  intro σ' B' H' vs s fr' hx' hlen hden
  obtain ⟨t1, t2⟩ := toF s fr'
  exact h H' vs t1 hx' hlen (DenL.tr t2 _ _ hden)
 | error Ce =>
  intro σ' B' H' s fr'
  exact h H' (toF s fr').1
end
section
variable {X : Cx} {E : St -> XK} {K : PySem.W.Frag} {st : Stmt}
end
section
variable {h : G} {δ : Ds} {β β1 : Bg} {Q : Out -> Bg -> Prop} {i : Nat} {f : Dn -> M D}
end
section
variable {C Ce : Addr} {m : Str} {ns : List Str} {mf : List D -> M D} {mi : List D -> M (List D)} {fo : Dn -> M D} {g gk : Dn -> M (List D)} {dd fs as ks : List D} {src : List (Sr D)} {δ : Dn} {β β1 β2 β3 : Bg} {r : Except Addr D × Bg} {d : D} {f : Str} {h : G} {Q : Out -> Bg -> Prop} {i : Nat} {δs : Ds}
theorem dP (e1 : fo δ β = some (.ok (.obj C ns fs), β1)) (e2 : g δ β1 = some (.ok as, β2)) (e3 : mf (.obj C ns fs :: (as ++ dd)) β2 = some r) (hm : m ∉ ns := by decide) : db C m mf fo g dd δ β = some r := by
 unfold db
 rw [M.bind_ok e1]
 simp only [hm, not_false_eq_true, and_self, if_true]
 rw [M.bind_ok e2]
 exact e3
theorem bn {x : Dn -> M D} (e1 : x δ β = some (.ok (.obj C ns fs), β1)) (e2 : (ns.zip fs).lookup f = some d) : f1 (cM C f) x δ β = some (.ok d, β1) := by
 refine x_1 e1 ?_
 unfold cM
 simp only [if_true]
 exact e2
theorem pD {g : G} {ip : IP} {δ δ1 : Ds} {done : List D} {x : Addr} {r : Except Addr (List D) × Bg} (e : g δ β = some (.nx δ1, β1)) (h0 : δ[0]? = some (some (.sh (.adr x)))) (h1 : δ1[0]? = some (some (.sh (.adr x)))) (k : ip δ1 done β1 = some r) : i9 g ip δ done β = some r := by
 unfold i9
 simp only [e, h0, h1, if_true]
 exact k
theorem jS {f : Dn -> M D} {ip : IP} {δ : Ds} {done : List D} {d : D} {r : Except Addr (List D) × Bg} (e : f (vw δ) β = some (.ok d, β1)) (k : ip δ (done ++ [d]) β1 = some r) : gp f ip δ done β = some r := by
 unfold gp
 rw [e]
 exact k
end
def tpA {α : Type} (d : α) (c : Nat) (rows : List (List α)) : List (List α) := (List.range c).map fun j => rows.map fun row => row.getD j d
abbrev tp (c : Nat) (rows : List (List Int)) : List (List Int) := tpA 0 c rows
theorem vQ {α γ : Type} (f : α -> γ) (d : α) (l : List α) (j : Nat) : f (l.getD j d) = (l.map f).getD j (f d) := by
 rw [List.getD_eq_getElem?_getD, List.getD_eq_getElem?_getD, List.getElem?_map]
 cases l[j]? <;> rfl
theorem za {α γ : Type} (f : α -> γ) (d : α) (c : Nat) (rows : List (List α)) : (tpA d c rows).map (fun r => r.map f) = tpA (f d) c (rows.map fun r => r.map f) := by
 unfold tpA
 rw [List.map_map]
 refine List.map_congr_left fun j _ => ?_
 show (rows.map fun row => row.getD j d).map f = _
 rw [List.map_map, List.map_map]
 refine List.map_congr_left fun row _ => ?_
 exact vQ f d row j
theorem j8 {α : Type} {d : α} {r c : Nat} {rows : List (List α)} (h : rows.length = r) : Shp c r (tpA d c rows) := ⟨by simp [tpA], fun row hr => by
 obtain ⟨j, _, rfl⟩ := List.mem_map.mp hr
 rw [List.length_map, h]⟩
theorem rh {d : Int} : ∀ (row : List Int), (List.range row.length).map (fun j => row.getD j d) = row := fun row => by
 refine List.ext_getElem? fun i => ?_
 rw [List.getElem?_map]
 by_cases h : i < row.length
 ·rw [List.getElem?_range h]
  show some (row.getD i d) = _
  rw [List.getD_eq_getElem?_getD, List.getElem?_eq_getElem h]; rfl
 ·rw [List.getElem?_eq_none (by simpa using h), List.getElem?_eq_none (by omega)]; rfl
theorem ql {α : Type} (f g : α -> Int) : ∀ l : List α, (l.map fun x => f x + g x).sum = (l.map f).sum + (l.map g).sum
 | [] => by simp
 | x :: l => by
  simp only [List.map_cons, List.sum_cons, ql f g l]; omega
theorem oW {α : Type} : ∀ l : List α, (l.map fun _ => (0 : Int)).sum = 0
 | [] => rfl
 | x :: l => by simp only [List.map_cons, List.sum_cons, oW l]; rfl
theorem tm {c : Nat} : ∀ {rows : List (List Int)}, (∀ row ∈ rows, row.length = c) -> tot (tp c rows) = tot rows
 | [], _ => by
  show ((tpA 0 c []).map List.sum).sum = 0
  unfold tpA
  rw [List.map_map]
  exact oW (List.range c)
 | row :: rows, h => by
  have ih := tm (c := c) (rows := rows) fun x hx => h x (List.mem_cons_of_mem _ hx)
  have hl := h row List.mem_cons_self
  unfold tot tp tpA at ih ⊢
  rw [List.map_map] at ih ⊢
  have e : (fun j => (List.sum ((row :: rows).map fun row => row.getD j 0))) = fun j => row.getD j 0 + (rows.map fun row => row.getD j 0).sum := by
   funext j
   rw [List.map_cons, List.sum_cons]
  show ((List.range c).map fun j => (List.sum ((row :: rows).map fun row => row.getD j 0))).sum = _
  rw [e, ql, ← hl, rh, hl, List.map_cons, List.sum_cons]
  congr 1
theorem DZ {c : Nat} {rows : List (List Int)} (h : ∀ row ∈ rows, ∀ x ∈ row, 0 <= x) : ∀ row ∈ tp c rows, ∀ x ∈ row, 0 <= x := fun row hr x hx => by
 obtain ⟨j, _, rfl⟩ := List.mem_map.mp hr
 obtain ⟨q, hq, rfl⟩ := List.mem_map.mp hx
 rw [List.getD_eq_getElem?_getD]
 cases e : q[j]? with
 | none => exact Int.le_refl 0
 | some y => exact h q hq y (List.mem_of_getElem? e)
end L2.Pu
namespace L2.Pu
open PySem PySem.Spec PyProof PyProof.Rows
section
variable {X : Cx}
end
section
variable {prog : Program} {w : World} {A : Around} {E : Value -> Shared -> Prop} {s : Shared} {l : Addr} {xs : Array (Int × Tok)}
end
section
variable {X : Cx} {K : PySem.W.Frag}
end
end L2.Pu
namespace L2
open PySem PySem.Spec PyProof.Rows
def jTxt (te : TE) (t : TJ) : TJ := fun σ H n Q => te σ H fun v H1 => ∃ x : Str, v = .str x /\ n + x.length <= sizeLine /\ t σ H1 (n + x.length) Q
theorem AL {X : Cx} {es : List Expr} {t : TJ} {v : Expr} {p : Pos} {te : TE} (hv : PE X v te) (h : PJ X es t) (he : evalEach (.FormattedValue v (-1) none p :: es) X.env = eval (.FormattedValue v (-1) none p) X.env :: evalEach es X.env := by rfl) : PJ X (.FormattedValue v (-1) none p :: es) (jTxt te t) := by
 intro pins s σ H acc Q I hz hq
 rw [he]
 refine joinParts_cons (FormattedValue_plain (thn (hv pins s σ H _ I hq) fun u s1 ⟨y, H1, I1, r, x, ey, hl, q⟩ => ?_))
 subst ey
 obtain ⟨tk, rfl⟩ := r
 refine formatField_str (fun t' k => ?_) (by omega)
 have e : (acc ++ x).length = acc.length + x.length := strLen_append acc x
 have hz2 : (acc ++ x).length <= sizeLine := by rw [e]; omega
 refine ⟨hz2, h pins _ σ H1 _ Q (I1.tok _) hz2 ?_⟩
 rw [e]
 exact q
end L2
namespace L2.Pu
open PySem PySem.Spec PyProof.Rows
def yN (f : Dn -> M D) (g : Dn -> M Unit) : Dn -> M Unit := fun δ => M.bind (f δ) fun d => match d with
 | .str x => if x.length <= 100 then g δ else M.fail
 | _ => M.fail
theorem Ep {X : Cx} {E : St -> XK} {es : List Expr} {v : Expr} {p : Pos} {f : Dn -> M D} {g : Dn -> M Unit} {c : Nat} (hv : PE X v (tV X.K f E)) (h : PJ X es (jV X.K g c E)) (he : evalEach (.FormattedValue v (-1) none p :: es) X.env = eval (.FormattedValue v (-1) none p) X.env :: evalEach es X.env := by rfl) : PJ X (.FormattedValue v (-1) none p :: es) (jV X.K (yN f g) (100 + c) E) :=
 (AL hv h he).imp fun σ H n Q ⟨hz, F, δ, β, fr, vk, r⟩ => ⟨F, δ, β, fr, vk, (run.bind (R := Den X.K F) r).mono fun v H1 h_ => by
  obtain ⟨d, β1, t, hd, r1⟩ := h_
  cases d with
  | str x =>
   by_cases q : x.length <= 100
   ·simp only [if_pos q] at r1
    refine ⟨x, hd, by omega, ⟨by omega, F, δ, β1, t.fr, vk.tr (t.tr fr), ?_⟩⟩
    obtain ⟨rr, β', e, k⟩ := r1
    refine ⟨rr, β', e, ?_⟩
    cases rr with
    | ok u => exact fun m' H' t' hm' => k m' H' t' (by omega)
    | error C => exact k
   ·simp only [if_neg q] at r1
    obtain ⟨rr, β', e, k⟩ := r1
    cases e
  | _ => obtain ⟨rr, β', e, k⟩ := r1; cases e⟩
section
variable {X : Cx} {E : St -> XK} {K : PySem.W.Frag} {elt target iter : Expr} {ifs : List Expr} {rest : List Comprehension} {scope : Scope} {pos : Pos} {Nc vars : List Str} {caps : List Nat} {g : TG} {tb : Addr -> TB}
end
section
variable {X : Cx} {E : St -> XK} {K : PySem.W.Frag} {st : Stmt} {H₀ : Hp} {B : Ow} {bg : Option (Addr × Addr)} {H H' : Hp} {δ : Ds} {β β' : Bg} {σ : St}
end
theorem lU1 {us : List Value} (h : us.length = 1) : ∃ a0, us = [a0] := List.length_eq_one_iff.mp h
theorem lU2 {us : List Value} (h : us.length = 2) : ∃ a0 a1, us = [a0, a1] := by
 obtain ⟨a, l, rfl⟩ := List.exists_cons_of_length_eq_add_one h
 obtain ⟨b, rfl⟩ := lU1 (us := l) (by simpa using h)
 exact ⟨_, _, rfl⟩
theorem lU3 {us : List Value} (h : us.length = 3) : ∃ a0 a1 a2, us = [a0, a1, a2] := by
 obtain ⟨a, l, rfl⟩ := List.exists_cons_of_length_eq_add_one h
 obtain ⟨b, c, rfl⟩ := lU2 (us := l) (by simpa using h)
 exact ⟨_, _, _, rfl⟩
theorem lU4 {us : List Value} (h : us.length = 4) : ∃ a0 a1 a2 a3, us = [a0, a1, a2, a3] := by
 obtain ⟨a, l, rfl⟩ := List.exists_cons_of_length_eq_add_one h
 obtain ⟨b, c, d, rfl⟩ := lU3 (us := l) (by simpa using h)
 exact ⟨_, _, _, _, rfl⟩
theorem lU5 {us : List Value} (h : us.length = 5) : ∃ a0 a1 a2 a3 a4, us = [a0, a1, a2, a3, a4] := by
 obtain ⟨a, l, rfl⟩ := List.exists_cons_of_length_eq_add_one h
 obtain ⟨b, c, d, e, rfl⟩ := lU4 (us := l) (by simpa using h)
 exact ⟨_, _, _, _, _, rfl⟩
end L2.Pu
namespace L2
open PySem PySem.Spec PyProof.Rows
section
variable {prog : Program} {w : World} {A : Around} {E : Value -> Shared -> Prop} {s : Shared} {K : PySem.W.Frag}
end
section
variable {X : Cx}
end
namespace Pu
section
variable {X : Cx} {E : St -> XK}
end
end Pu
end L2
namespace L2.Pu
open PySem PySem.Spec PyProof.Rows
section
variable {X : Cx} {E : St -> XK} {a b : Expr} {pos : Pos} {k : Nat} {f C : Addr} {fd : FuncData} {ps : List Str} {K : PySem.W.Frag}
structure IsC (K : PySem.W.Frag) (C : Addr) : Prop where
 cl : Cls K C
 ha : PySem.W.findIn K (.ref C) "__class__" = some (some (.builtin "object.__class__"))
 hn : PySem.W.specialIn K (.builtin "object.__class__") "__get__" = some (some (.builtin "getset_descriptor.__get__"))
 htk : PySem.W.takesIn K (.builtin "object.__class__") = some true
 hm : PySem.W.mroIn K C (.type "object") = some true
end
section
variable {X : Cx} {E : St -> XK} {a : Expr} {p1 p2 pos1 pos2 : Pos} {K : PySem.W.Frag}
end
abbrev nI (l : List Nat) : List Int := l.map fun (i : Nat) => (i : Int)
abbrev nL (l : List Nat) : D := .lst ((nI l).map D.int)
theorem v3 {α : Type} {nv : Nat} {caps : List Nat} {it : Dn -> M (List D)} {tg : TgF} {tt : Dn -> M Bool} {f : Dn -> M D} {δ : Dn} {β : Bg} (xs : List α) (u v : α -> D) (p : α -> Bool) (h1 : it δ β = some (.ok (xs.map u), β))
  (h2 : ∀ x ∈ xs, ∃ δ1, tg (u x) (cSt nv caps δ) = some δ1 /\ tt δ1 β = some (.ok (p x), β) /\ (p x = true -> f δ1 β = some (.ok (v x), β))) (h3 : xs.length <= sizeLine) : aT nv caps it tg tt (cEm f) δ β = some (.ok (.lst ((xs.filter p).map v)), β) := by
 refine m6 h1 ?_ (by rw [List.length_map]; exact Nat.le_trans (List.length_filter_le _ _) h3)
 have gen : ∀ xs : List α, (∀ x ∈ xs, ∃ δ1, tg (u x) (cSt nv caps δ) = some δ1 /\ tt δ1 β = some (.ok (p x), β) /\ (p x = true -> f δ1 β = some (.ok (v x), β))) -> cLp tg tt (cEm f) (xs.map u) (cSt nv caps δ) β = some (.ok ((xs.filter p).map v), β) := by
  intro xs
  induction xs with
  | nil => intro _; rfl
  | cons x xs ih =>
   intro h
   obtain ⟨δ1, e1, e2, e3⟩ := h x List.mem_cons_self
   have e4 := ih fun y hy => h y (List.mem_cons_of_mem _ hy)
   rw [List.map_cons, cLp, List.filter_cons]
   cases q : p x with
   | true =>
    rw [q] at e2
    simp only [e1, M.bind, M.ret, e2, cEm, e3 q, e4, if_pos, List.map_cons, List.cons_append, List.nil_append]
   | false =>
    rw [q] at e2
    simp only [e1, M.bind, M.ret, e2, e4, Bool.false_eq_true, if_false, List.nil_append]
 exact gen xs h2
section
variable {X : Cx} {E : St -> XK} {o e : Expr} {es : List Expr} {pos p apos : Pos} {x m : Str} {k n : Nat} {f C : Addr} {fd : FuncData} {ps ks ns : List Str} {kws : List Keyword} {st : Stmt} {sts : List Stmt}
variable {ns0 names : List Str} {ip : IP}
end
section
variable {P : Program} {w : World} {K : PySem.W.Frag} {mg : Str -> Option Value} {base : Heap}
end
def oz : List D -> Option D
 | [.bl k] => some (.int (if k then 1 else 0))
 | _ => none
theorem Ba {K : PySem.W.Frag} : dg K (fun xs H Q => (∃ i, xs = [.int i] /\ Q (.int i) H) \/ ∃ k, xs = [.bl k] /\ Q (.int (if k then 1 else 0)) H) oz := fun F H β Q ds d vs fr h e k => by
 unfold oz at e
 split at e
 ·rename_i b
  cases e
  obtain ⟨v, rfl, h1⟩ := DenL.one h
  cases (show v = V.bl b from h1)
  exact .inr ⟨b, rfl, k _ _ (To.refl fr) rfl⟩
 ·cases e
section
variable {X : Cx} {E : St -> XK} {o : Expr} {pos apos : Pos} {m : Str} {k : Nat} {f C : Addr} {fd : FuncData} {ps : List Str}
end
section
variable {δ : Dn} {β β1 β2 : Bg}
end
end L2.Pu
namespace L2.Pu
open PySem PySem.Spec PyProof PyProof.Rows
section
variable {X : Cx} {K : PySem.W.Frag}
end
section
variable {X : Cx} {K : PySem.W.Frag} {E : St -> XK} {o e : Expr} {apos cpos : Pos}
end
end L2.Pu
namespace L2.Pu
open PySem PySem.Spec PyProof.Rows
section
variable {prog : Program} {w : World} {A : Around} {E : Value -> Shared -> Prop} {s : Shared} {l : Addr} {xs : Array (Int × Tok)}
theorem uU {Q : Value -> Shared -> Prop} (hh : A.handled = none) (hl : s.heap.IsTuple l (intItems xs))
  (h : ∀ h' tk t', (∀ b o, s.heap.get? b = some o -> h'.get? b = some o) -> Q (.int (preSum (numAt xs) xs.size) t') { s with heap := h', toks := tk }) :
  wpAny (model prog w) A (call (.builtin "sum") [.ref l]) Q E s := by
 have hlt : l < s.heap.objs.size := by obtain ⟨_, e, _⟩ := hl; exact Heap.lt_size e
 refine call_sum_walkG (wpAny_pyIter_tuple hl ⟨_, _, _, _, _, _, numAt xs, rfl, Walks.tuple (A := A.in1) hh _ l (Nat.ne_of_lt hlt) (intItems xs), ⟨⟨_, Heap.get?_push_size _ rfl, rfl, rfl⟩, hl.at fun o e => Heap.get?_push_of_some _ e⟩, fun b hb => ?_, (fun _ _ => intItems_at), fun h' tk t' hk => ?_⟩)
 ·show b < (s.heap.push _).objs.size
  rw [Heap.size_push]
  rcases List.mem_cons.mp hb with rfl | hb
  ·exact Nat.lt_succ_self _
  ·rcases List.mem_cons.mp hb with rfl | hb
   ·exact Nat.lt_succ_of_lt hlt
   ·cases hb
 ·have := h h' tk t' fun b o e => hk b o (fun hm => by
   rcases List.mem_cons.mp hm with e1 | hm
   ·exact absurd (e1 ▸ Heap.lt_size e) (Nat.lt_irrefl _)
   ·cases hm) (Heap.get?_push_of_some _ e)
  simpa [intItems] using this
end
section
variable {X : Cx} {K : PySem.W.Frag}
abbrev yy (K : PySem.W.Frag) : List V -> Hp -> VK -> Prop := fun xs H Q => ∃ (p : Addr) (ns : List Int), xs = [.ref p] /\ (SqL K H p (ns.map V.int) \/ SqT K H p (ns.map V.int)) /\ Q (.int ns.sum) H
theorem uJ (hc : X.calm = true) : cQ X (.builtin "sum") (yy X.K) := by
 intro pins s σ H xs us Q I r h
 obtain ⟨p, ns, rfl, hq | hq, q⟩ := h
 ·exact nJ hc pins s σ H _ us Q I r ⟨p, ns, rfl, hq, q⟩
 ·obtain ⟨u, rfl, rx⟩ := iP r
  cases rx
  obtain ⟨its, rv, pl, hz⟩ := I.tuple hq
  have hi := lX rv
  obtain ⟨xs, ex⟩ := hi.allInts.items
  have e1 := hi.numsOf
  have e2 : its = (intItems xs).toList := by rw [← ex]
  rw [e2, nums_intItems] at e1
  rw [ex] at pl
  refine uU (I.ok.hd hc) pl fun h' tk t' hk => ?_
  have e : preSum (numAt xs) xs.size = ns.sum := by rw [preSum_eq, List.take_of_length_le (by simp), e1]
  rw [e]
  exact ⟨.int ns.sum, H, I.kept hk, ⟨_, rfl⟩, q⟩
def kc : List D -> Option D
 | [.lst xs] => (dD xs).map fun ns => .int ns.sum
 | [.tup xs] => (dD xs).map fun ns => .int ns.sum
 | _ => none
theorem A9 : dg K (yy K) kc := fun F H β Q ds d vs fr h e k => by
 unfold kc at e
 split at e
 ·rename_i xs
  obtain ⟨ns, q, rfl⟩ := Option.map_eq_some_iff.mp e
  obtain ⟨v, rfl, g⟩ := DenL.one h
  obtain ⟨a, ys, rfl, r, dl⟩ := Den.sqL g
  rw [intsOf_eq q] at dl
  have e2 := DenL.ints ns dl
  subst e2
  exact ⟨a, ns, rfl, .inl r, k _ H (To.refl fr) rfl⟩
 ·rename_i xs
  obtain ⟨ns, q, rfl⟩ := Option.map_eq_some_iff.mp e
  obtain ⟨v, rfl, g⟩ := DenL.one h
  obtain ⟨a, ys, rfl, r, dl⟩ := Den.sqT g
  rw [intsOf_eq q] at dl
  have e2 := DenL.ints ns dl
  subst e2
  exact ⟨a, ns, rfl, .inr r, k _ H (To.refl fr) rfl⟩
 ·cases e
theorem Av (ns : List Int) : kc [.lst (ns.map D.int)] = some (.int ns.sum) := ik ns
theorem Au (ns : List Int) : kc [.tup (ns.map D.int)] = some (.int ns.sum) := ik ns
end
end L2.Pu
namespace L2.Pu
open PySem
def facN : Nat -> Nat
 | 0 => 1
 | n + 1 => facN n * (n + 1)
def pr (l : List Nat) : Nat := l.foldr (· * ·) 1
theorem tX : pr [] = 1 := rfl
theorem tY (l m : List Nat) : pr (l ++ m) = pr l * pr m := by
 induction l with
 | nil => simp [pr]
 | cons x l ih =>
  show x * pr (l ++ m) = x * pr l * pr m
  rw [ih, Nat.mul_assoc]
theorem ij {α : Type} {l : List α} {i : Nat} {x : α} (h : l[i]? = some x) : l.take (i + 1) = l.take i ++ [x] := by
 rw [List.take_succ, h]; rfl
theorem fm {α : Type} {f : α -> Nat} {l : List α} {i : Nat} {x : α} (h : l[i]? = some x) : pr ((l.take (i + 1)).map f) = pr ((l.take i).map f) * f x := by
 rw [ij h, List.map_append, tY]
 simp [pr]
theorem mo {α : Type} {f : α -> Nat} {l : List α} {i : Nat} {x : α} (h : l[i]? = some x) : ((l.take (i + 1)).map f).sum = ((l.take i).map f).sum + f x := by
 rw [ij h, List.map_append, List.sum_append]
 simp
theorem rc {α : Type} {f : α -> Nat} {l : List α} (i : Nat) : ((l.take i).map f).sum <= (l.map f).sum := by
 have e : (l.map f).sum = ((l.take i).map f).sum + ((l.drop i).map f).sum := by rw [← List.sum_append, ← List.map_append, List.take_append_drop]
 omega
theorem mV : ∀ n, 0 < facN n
 | 0 => by decide
 | n + 1 => Nat.mul_pos (mV n) (by omega)
theorem vT : ∀ {n m : Nat}, n <= m -> facN n <= facN m := by
 intro n m h
 induction h with
 | refl => exact Nat.le_refl _
 | step h ih => exact Nat.le_trans ih (Nat.le_mul_of_pos_right _ (by omega))
theorem Ew : facN 40 <= 2 ^ 160 := by decide +kernel
theorem iE {n : Nat} (h : n <= 40) : facN n <= 2 ^ 160 := Nat.le_trans (vT h) Ew
theorem AJ {l : List Nat} (h : ∀ x ∈ l, 0 < x) : 0 < pr l := by
 induction l with
 | nil => decide
 | cons x l ih => exact Nat.mul_pos (h x List.mem_cons_self) (ih fun y hy => h y (List.mem_cons_of_mem _ hy))
theorem yD {l : List Nat} {m : Nat} (h : ∀ x ∈ l, x <= 2 ^ m) : pr l <= 2 ^ (m * l.length) := by
 induction l with
 | nil => exact Nat.one_le_two_pow
 | cons x l ih =>
  show x * pr l <= _
  rw [List.length_cons, Nat.mul_succ, Nat.add_comm, Nat.pow_add]
  exact Nat.mul_le_mul (h x List.mem_cons_self) (ih fun y hy => h y (List.mem_cons_of_mem _ hy))
theorem Ea {n : Nat} (h : n <= 40) : n ^ n <= 2 ^ (6 * n) := by
 rw [Nat.pow_mul]
 exact Nat.pow_le_pow_left (by omega) n
theorem yE {l : List Nat} (h : ∀ x ∈ l, x <= 40) : pr (l.map fun n => n ^ n) <= 2 ^ (6 * l.sum) := by
 induction l with
 | nil => decide
 | cons x l ih =>
  show x ^ x * pr (l.map _) <= _
  rw [List.sum_cons, Nat.mul_add, Nat.pow_add]
  exact Nat.mul_le_mul (Ea (h x List.mem_cons_self)) (ih fun y hy => h y (List.mem_cons_of_mem _ hy))
theorem en {l : List Nat} {x : Nat} (h : x ∈ l) : x <= l.sum := by
 induction l with
 | nil => cases h
 | cons y l ih =>
  rw [List.sum_cons]
  rcases List.mem_cons.mp h with rfl | h
  ·omega
  ·have := ih h; omega
theorem bM {t m : Nat} (h : t <= 2 ^ m) (hm : m <= 999) : t < 2 ^ 1000 := Nat.lt_of_le_of_lt (Nat.le_trans h (Nat.pow_le_pow_right (by decide) hm)) (Nat.pow_lt_pow_right (by decide) (by decide))
theorem cK {t n : Nat} (h1 : t < 2 ^ 1000) (h2 : n < 2 ^ 1000) : bb (.int (t : Int)) (.int (n : Int)) = some (.int ((t * n : Nat) : Int)) := by
 have e1 : fP (t : Int) = true := decide_eq_true (by rw [Int.natAbs_natCast]; exact h1)
 have e2 : fP (n : Int) = true := decide_eq_true (by rw [Int.natAbs_natCast]; exact h2)
 show (if (fP (t : Int) && fP (n : Int)) = true then _ else _) = _
 simp only [e1, e2, Bool.and_self, if_true]
 rfl
theorem l9 {t g : Nat} (h0 : 0 < g) (h1 : g < 2 ^ 1000) : eS (.int (t : Int)) (.int (g : Int)) = some (.int ((t / g : Nat) : Int)) := by
 have e1 : decide ((0 : Int) < (g : Int)) = true := decide_eq_true (by omega)
 have e2 : decide (((g : Int)).natAbs.log2 < 9000) = true := decide_eq_true (by
  rw [Int.natAbs_natCast]
  have := (Nat.log2_lt (n := g) (k := 1000) (by omega)).mpr h1
  omega)
 show (if (decide ((0 : Int) < (g : Int)) && decide (((g : Int)).natAbs.log2 < 9000)) = true then _ else _) = _
 simp only [e1, e2, Bool.and_self, if_true]
 rfl
theorem sS {t n : Nat} : eY (.int (t : Int)) (.int (n : Int)) = some (.int ((t + n : Nat) : Int)) := by
 rw [Int.natCast_add]; rfl
theorem jO (l : List Nat) : (nI l).sum = ((l.sum : Nat) : Int) := by
 induction l with
 | nil => rfl
 | cons x l ih =>
  show (x : Int) + (nI l).sum = _
  rw [ih, List.sum_cons, Int.natCast_add]
theorem gh {l : List Nat} {i : Nat} {d : D} (h : ((nI l).map D.int)[i]? = some d) : ∃ n, l[i]? = some n /\ d = .int (n : Int) := by
 obtain ⟨x, hx, rfl⟩ := eK h
 obtain ⟨n, hn, rfl⟩ := eK hx
 exact ⟨n, hn, rfl⟩
theorem eJ (l : List Nat) : ((nI l).map D.int).length = l.length := by rw [List.length_map, List.length_map]
def Sq (l : List Nat) (d : D) : Prop := d = nL l \/ d = .tup ((nI l).map D.int)
theorem Sq.seq {l : List Nat} {d : D} (h : Sq l d) : dR d = some ((nI l).map D.int) := by rcases h with rfl | rfl <;> rfl
theorem rg2' {i j : Int} (h0 : 0 <= i) (h1 : i <= 10 ^ 9) (h2 : 0 <= j) (h3 : j <= 10 ^ 9) : mx [.int i, .int j] = some (br i (j - i).toNat) := by
 have q : (decide (-(2 ^ 62) <= i) && decide (i < 2 ^ 62) && decide (-(2 ^ 62) <= j) && decide (j < 2 ^ 62)) = true := by
  simp only [Bool.and_eq_true, decide_eq_true_eq]
  omega
 show (if (decide (-(2 ^ 62) <= i) && decide (i < 2 ^ 62) && decide (-(2 ^ 62) <= j) && decide (j < 2 ^ 62)) = true then some (br i (j - i).toNat) else none) = _
 rw [if_pos q]
theorem rg2 {n : Nat} (h : n <= 1000) : mx [.int 2, .int ((n : Int) + 1)] = some (br 2 (n - 1)) := by
 rw [rg2' (by decide) (by decide) (by omega) (by omega), show ((n : Int) + 1 - 2).toNat = n - 1 by omega]
def lcS (t n : Nat) : Nat := t * n / Nat.gcd t n
def lcF (l : List Nat) : Nat := l.foldl lcS 1
theorem qF (l : List Nat) (n : Nat) : lcF (l ++ [n]) = lcS (lcF l) n := by unfold lcF; rw [List.foldl_append]; rfl
theorem um {l : List Nat} (h : ∀ n ∈ l, 1 <= n /\ n <= 2 ^ 11) : 1 <= lcF l /\ lcF l <= 2 ^ (11 * l.length) := by
 have gen : ∀ (l : List Nat) (t m : Nat), (∀ n ∈ l, 1 <= n /\ n <= 2 ^ 11) -> 1 <= t -> t <= 2 ^ m -> 1 <= l.foldl lcS t /\ l.foldl lcS t <= 2 ^ (m + 11 * l.length) := by
  intro l
  induction l with
  | nil => intro t m _ h1 h2; exact ⟨h1, h2⟩
  | cons n l ih =>
   intro t m h h1 h2
   obtain ⟨n1, n2⟩ := h n List.mem_cons_self
   have hg0 : 0 < Nat.gcd t n := Nat.gcd_pos_of_pos_left _ h1
   have hg1 : Nat.gcd t n <= t * n := Nat.le_trans (Nat.gcd_le_left _ h1) (Nat.le_mul_of_pos_right _ n1)
   have := ih (lcS t n) (m + 11) (fun x hx => h x (List.mem_cons_of_mem _ hx)) (Nat.div_pos hg1 hg0) (Nat.le_trans (Nat.div_le_self _ _) (by rw [Nat.pow_add]; exact Nat.mul_le_mul h2 n2))
   rw [List.length_cons, Nat.mul_succ, show m + (11 * l.length + 11) = m + 11 + 11 * l.length by omega]
   exact this
 have := gen l 1 0 h (Nat.le_refl _) (by decide)
 rwa [Nat.zero_add] at this
end L2.Pu
namespace L2.Pu
open PySem PySem.W
section
variable {tb : String -> Option Builtin} {p : Program} {w : World} {n₀ : Nat} {ann : Option Value} {env : Env} {q : Pos}
theorem jd (k : Nat) {n N : Nat} {s s' r : Shared} {b : List Stmt} {c : Code} {pos p' : Pos} (h : segRun tb p w n₀ ann 1 n s (piecesOf (b.take k) env c pos [topFrame q]) = some (.next, s', c, p'))
  (k' : topRun tb p w n₀ ann N s' (restOf (b.drop k) env c p' [topFrame q]) = some r) : topRun tb p w n₀ ann (n + N) s (restOf b env c pos [topFrame q]) = some r := by
 have := piece_app h k'
 rwa [List.take_append_drop] at this
theorem vO {N : Nat} {s r : Shared} {b : List Stmt} {c : Code} {pos : Pos} (e : b = []) (k : topRun tb p w n₀ ann N s ⟨doneF .next, c, pos, [topFrame q]⟩ = some r) : topRun tb p w n₀ ann N s (restOf b env c pos [topFrame q]) = some r := by
 subst e
 exact piece_nil k
end
end L2.Pu
set_option maxHeartbeats 8000000
namespace L2.Pu
open PySem PySem.Spec PyProof.Rows
theorem pgN {X : Cx} (i : Nat) {x : Str} {pos : Pos} (hN : X.N.Nodup) (hi : X.N[i]? = some x := by rfl) (hx : Loc X.env.scope x := by first | exact Or.inl rfl | exact Or.inr rfl) (hf : X.fn x = true \/ X.env.scope.names.lookup x = some .local := by first | exact .inl rfl | exact .inr rfl | assumption) : PG X (.Name x pos) (eQ i) := qz hN hi hx hf
theorem psS {X : Cx} (i : Nat) {x : Str} {e : Expr} {te : TE} {pos pos' : Pos} (hN : X.N.Nodup) (he : PE X e te) (hi : X.N[i]? = some x := by rfl) (hx : Loc X.env.scope x := by first | exact Or.inl rfl | exact Or.inr rfl) (hs : swapsWith e (some (.Name x pos')) pos.line X.env = pure false := by rfl) (hf : X.fn x = true \/ X.env.scope.names.lookup x = some .local := by first | exact .inl rfl | exact .inr rfl | assumption) : PS X (.Assign [.Name x pos'] e pos) (jA te (eQ i)) := lC hN hi hx he hs hf
theorem aN0 (δ : Dn) (β : Bg) (r : List D) (β' : Bg) (h : ah δ β = some (.ok r, β')) : r.length = 0 := yf h
end L2.Pu
namespace Law
open PySem L2 L2.Pu
def top (i : Nat) : Stmt := PySem.Challenge.pw_edgetally_k29_parts_go_together.main.body.getD i (.Pass ⟨0, 0, 0, 0⟩)
abbrev jE : Stmt := top 10
abbrev jr : Stmt := top 11
abbrev jF : Stmt := top 12
abbrev jp : Stmt := top 13
abbrev ky : Stmt := top 15
abbrev qo : Stmt := top 16
abbrev tR : Stmt := top 17
abbrev gU : Stmt := top 18
abbrev im : Stmt := top 24
abbrev jD : Stmt := top 25
abbrev jo : Stmt := top 26
abbrev li : Stmt := top 27
abbrev qr : Stmt := top 30
abbrev o5 : Stmt := top 31
abbrev o4 : Stmt := top 32
abbrev ln : Stmt := top 33
abbrev kx : Stmt := top 34
abbrev iq : Stmt := top 35
abbrev lr : Stmt := top 36
abbrev jq : Stmt := top 37
abbrev o3 : Stmt := top 38
abbrev lm : Stmt := top 39
abbrev qq : Stmt := top 40
abbrev o6 : Stmt := top 41
abbrev np : Stmt := top 42
abbrev o7 : Stmt := top 43
abbrev io : Stmt := top 44
abbrev lq : Stmt := top 45
abbrev qp : Stmt := top 46
abbrev nk : Stmt := top 47
abbrev ls : Stmt := top 48
abbrev nl : Stmt := top 49
abbrev qt : Stmt := top 50
abbrev fR : Stmt := az (top 28) 0
abbrev gW : Stmt := az (top 28) 5
abbrev ir : Stmt := az (top 28) 3
abbrev gD : Stmt := az (top 28) 7
abbrev fQ : Stmt := az (top 28) 4
abbrev jG : Stmt := az (top 28) 6
abbrev lj : Stmt := top 51
abbrev jB : Stmt := az (top 1) 0
abbrev k6 : Stmt := az (top 2) 0
abbrev k7 : Stmt := az (top 3) 0
abbrev k8 : Stmt := az (top 4) 0
abbrev jC : Stmt := az (top 5) 0
set_option genSizeOf false in
set_option genInjectivity false in
structure Ad where
 C_EdgeError : Addr
 x_EdgeError : Addr
 y_EdgeError : FuncData
 C_BadSums : Addr
 x_BadSums : Addr
 y_BadSums : FuncData
 C_BadRule : Addr
 x_BadRule : Addr
 y_BadRule : FuncData
 C_BadCell : Addr
 x_BadCell : Addr
 y_BadCell : FuncData
 C_BadNumber : Addr
 x_BadNumber : Addr
 y_BadNumber : FuncData
 C_Measure : Addr
 f_check_sums : Addr
 d_check_sums : FuncData
 f_check_there : Addr
 d_check_there : FuncData
 f_check_cell : Addr
 d_check_cell : FuncData
 f_rows_turned : Addr
 d_rows_turned : FuncData
 f_factorial : Addr
 d_factorial : FuncData
 f_power : Addr
 d_power : FuncData
 f_ways : Addr
 d_ways : FuncData
 f_common_factor : Addr
 d_common_factor : FuncData
 f_least_common : Addr
 d_least_common : FuncData
 f_power_part : Addr
 d_power_part : FuncData
 f_square_part : Addr
 d_square_part : FuncData
 f_off_part : Addr
 d_off_part : FuncData
 f_l_bag : Addr
 d_l_bag : FuncData
 f_l_pull : Addr
 d_l_pull : FuncData
 f_l_same : Addr
 d_l_same : FuncData
 f_l_turned : Addr
 d_l_turned : FuncData
 f_l_rowsums : Addr
 d_l_rowsums : FuncData
 f_l_columnsums : Addr
 d_l_columnsums : FuncData
 f_l_copied : Addr
 d_l_copied : FuncData
 f_l_factorial : Addr
 d_l_factorial : FuncData
 f_l_ways : Addr
 d_l_ways : FuncData
 f_l_weight : Addr
 d_l_weight : FuncData
 f_l_gcd : Addr
 d_l_gcd : FuncData
 f_l_kind : Addr
 d_l_kind : FuncData
 f_l_place : Addr
 d_l_place : FuncData
 f_l_even : Addr
 d_l_even : FuncData
 f_l_self_power : Addr
 d_l_self_power : FuncData
 f_l_square : Addr
 d_l_square : FuncData
 f_l_off : Addr
 d_l_off : FuncData
 f_l_value : Addr
 d_l_value : FuncData
 f_l_beyond : Addr
 d_l_beyond : FuncData
 f_l_scale : Addr
 d_l_scale : FuncData
 f_l_any : Addr
 d_l_any : FuncData
 f_Measure___init__ : Addr
 d_Measure___init__ : FuncData
 f_Measure_begun : Addr
 d_Measure_begun : FuncData
 f_Measure_part : Addr
 d_Measure_part : FuncData
 f_Measure_beyond : Addr
 d_Measure_beyond : FuncData
 f_Measure_together : Addr
 d_Measure_together : FuncData
 f_Measure_of : Addr
 d_Measure_of : FuncData
 f_law : Addr
 d_law : FuncData
structure Fns (K : PySem.W.Frag) (mg : Str -> Option Value) (a : Ad) : Prop where
 n_ValueError : mg "ValueError" = none
 n_abs : mg "abs" = none
 n_any : mg "any" = none
 n_bool : mg "bool" = none
 n_enumerate : mg "enumerate" = none
 n_int : mg "int" = none
 n_isinstance : mg "isinstance" = none
 n_len : mg "len" = none
 n_list : mg "list" = none
 n_min : mg "min" = none
 n_range : mg "range" = none
 n_str : mg "str" = none
 n_sum : mg "sum" = none
 n_tuple : mg "tuple" = none
 n_zip : mg "zip" = none
 g_BY_PLACE : fM K mg "BY_PLACE" (.tup [.str (Str.ofString "most"), .str (Str.ofString "least")])
 g_BY_PRODUCT : fM K mg "BY_PRODUCT" (.tup [.str (Str.ofString "rare"), .str (Str.ofString "power")])
 g_KINDS : fM K mg "KINDS" (.tup [.str (Str.ofString "rare"), .str (Str.ofString "square"), .str (Str.ofString "power"), .str (Str.ofString "off"), .str (Str.ofString "most"), .str (Str.ofString "least")])
 g_LESS_IS_STRANGER : fM K mg "LESS_IS_STRANGER" (.tup [.str (Str.ofString "rare"), .str (Str.ofString "least")])
 g_MOST : fM K mg "MOST" (.int 40)
 g_MOST_COLUMNS : fM K mg "MOST_COLUMNS" (.int 6)
 g_MOST_ROWS : fM K mg "MOST_ROWS" (.int 4)
 F_check_sums : FunD K "check_sums" "check_sums" jE a.f_check_sums a.d_check_sums
 m_check_sums : mg "check_sums" = some (.ref a.f_check_sums)
 b_check_sums : aI K a.d_check_sums ["rowsums", "columnsums"] []
 F_check_there : FunD K "check_there" "check_there" jr a.f_check_there a.d_check_there
 m_check_there : mg "check_there" = some (.ref a.f_check_there)
 b_check_there : aI K a.d_check_there ["place", "many"] []
 F_check_cell : FunD K "check_cell" "check_cell" jF a.f_check_cell a.d_check_cell
 m_check_cell : mg "check_cell" = some (.ref a.f_check_cell)
 b_check_cell : aI K a.d_check_cell ["row", "column", "rows", "columns"] []
 F_rows_turned : FunD K "rows_turned" "rows_turned" jp a.f_rows_turned a.d_rows_turned
 m_rows_turned : mg "rows_turned" = some (.ref a.f_rows_turned)
 b_rows_turned : aI K a.d_rows_turned ["rows"] []
 F_factorial : FunD K "factorial" "factorial" ky a.f_factorial a.d_factorial
 m_factorial : mg "factorial" = some (.ref a.f_factorial)
 b_factorial : aI K a.d_factorial ["number"] []
 F_power : FunD K "power" "power" qo a.f_power a.d_power
 m_power : mg "power" = some (.ref a.f_power)
 b_power : aI K a.d_power ["base", "many"] []
 F_ways : FunD K "ways" "ways" tR a.f_ways a.d_ways
 m_ways : mg "ways" = some (.ref a.f_ways)
 b_ways : aI K a.d_ways ["parts"] []
 F_common_factor : FunD K "common_factor" "common_factor" gU a.f_common_factor a.d_common_factor
 m_common_factor : mg "common_factor" = some (.ref a.f_common_factor)
 b_common_factor : aI K a.d_common_factor ["one", "other"] []
 F_least_common : FunD K "least_common" "least_common" im a.f_least_common a.d_least_common
 m_least_common : mg "least_common" = some (.ref a.f_least_common)
 b_least_common : aI K a.d_least_common ["numbers"] []
 F_power_part : FunD K "power_part" "power_part" jD a.f_power_part a.d_power_part
 m_power_part : mg "power_part" = some (.ref a.f_power_part)
 b_power_part : aI K a.d_power_part ["counts"] []
 F_square_part : FunD K "square_part" "square_part" jo a.f_square_part a.d_square_part
 m_square_part : mg "square_part" = some (.ref a.f_square_part)
 b_square_part : aI K a.d_square_part ["counts", "products", "even"] []
 F_off_part : FunD K "off_part" "off_part" li a.f_off_part a.d_off_part
 m_off_part : mg "off_part" = some (.ref a.f_off_part)
 b_off_part : aI K a.d_off_part ["counts", "products", "things"] []
 F_l_bag : FunD K "_law_bag" "_law_bag" qr a.f_l_bag a.d_l_bag
 m_l_bag : mg "_law_bag" = some (.ref a.f_l_bag)
 b_l_bag : aI K a.d_l_bag ["_law_script"] []
 F_l_pull : FunD K "_law_pull" "_law_pull" o5 a.f_l_pull a.d_l_pull
 m_l_pull : mg "_law_pull" = some (.ref a.f_l_pull)
 b_l_pull : aI K a.d_l_pull ["_law_bag_here", "_law_lot"] []
 F_l_same : FunD K "_law_same" "_law_same" o4 a.f_l_same a.d_l_same
 m_l_same : mg "_law_same" = some (.ref a.f_l_same)
 b_l_same : aI K a.d_l_same ["_law_found", "_law_due"] []
 F_l_turned : FunD K "_law_turned" "_law_turned" ln a.f_l_turned a.d_l_turned
 m_l_turned : mg "_law_turned" = some (.ref a.f_l_turned)
 b_l_turned : aI K a.d_l_turned ["_law_block"] []
 F_l_rowsums : FunD K "_law_rowsums" "_law_rowsums" kx a.f_l_rowsums a.d_l_rowsums
 m_l_rowsums : mg "_law_rowsums" = some (.ref a.f_l_rowsums)
 b_l_rowsums : aI K a.d_l_rowsums ["_law_grid"] []
 F_l_columnsums : FunD K "_law_columnsums" "_law_columnsums" iq a.f_l_columnsums a.d_l_columnsums
 m_l_columnsums : mg "_law_columnsums" = some (.ref a.f_l_columnsums)
 b_l_columnsums : aI K a.d_l_columnsums ["_law_grid"] []
 F_l_copied : FunD K "_law_copied" "_law_copied" lr a.f_l_copied a.d_l_copied
 m_l_copied : mg "_law_copied" = some (.ref a.f_l_copied)
 b_l_copied : aI K a.d_l_copied ["_law_block"] []
 F_l_factorial : FunD K "_law_factorial" "_law_factorial" jq a.f_l_factorial a.d_l_factorial
 m_l_factorial : mg "_law_factorial" = some (.ref a.f_l_factorial)
 b_l_factorial : aI K a.d_l_factorial ["_law_lot"] []
 F_l_ways : FunD K "_law_ways" "_law_ways" o3 a.f_l_ways a.d_l_ways
 m_l_ways : mg "_law_ways" = some (.ref a.f_l_ways)
 b_l_ways : aI K a.d_l_ways ["_law_parts"] []
 F_l_weight : FunD K "_law_weight" "_law_weight" lm a.f_l_weight a.d_l_weight
 m_l_weight : mg "_law_weight" = some (.ref a.f_l_weight)
 b_l_weight : aI K a.d_l_weight ["_law_columns"] []
 F_l_gcd : FunD K "_law_gcd" "_law_gcd" qq a.f_l_gcd a.d_l_gcd
 m_l_gcd : mg "_law_gcd" = some (.ref a.f_l_gcd)
 b_l_gcd : aI K a.d_l_gcd ["_law_one", "_law_other"] []
 F_l_kind : FunD K "_law_kind" "_law_kind" o6 a.f_l_kind a.d_l_kind
 m_l_kind : mg "_law_kind" = some (.ref a.f_l_kind)
 b_l_kind : aI K a.d_l_kind ["_law_bag_here"] []
 F_l_place : FunD K "_law_place" "_law_place" np a.f_l_place a.d_l_place
 m_l_place : mg "_law_place" = some (.ref a.f_l_place)
 b_l_place : aI K a.d_l_place ["_law_bag_here", "_law_grid"] []
 F_l_even : FunD K "_law_even" "_law_even" o7 a.f_l_even a.d_l_even
 m_l_even : mg "_law_even" = some (.ref a.f_l_even)
 b_l_even : aI K a.d_l_even ["_law_rowsums_here", "_law_columnsums_here"] []
 F_l_self_power : FunD K "_law_self_power" "_law_self_power" io a.f_l_self_power a.d_l_self_power
 m_l_self_power : mg "_law_self_power" = some (.ref a.f_l_self_power)
 b_l_self_power : aI K a.d_l_self_power ["_law_count"] []
 F_l_square : FunD K "_law_square" "_law_square" lq a.f_l_square a.d_l_square
 m_l_square : mg "_law_square" = some (.ref a.f_l_square)
 b_l_square : aI K a.d_l_square ["_law_rowsums_here", "_law_columnsums_here", "_law_columns"] []
 F_l_off : FunD K "_law_off" "_law_off" qp a.f_l_off a.d_l_off
 m_l_off : mg "_law_off" = some (.ref a.f_l_off)
 b_l_off : aI K a.d_l_off ["_law_rowsums_here", "_law_columnsums_here", "_law_columns"] []
 F_l_value : FunD K "_law_value" "_law_value" nk a.f_l_value a.d_l_value
 m_l_value : mg "_law_value" = some (.ref a.f_l_value)
 b_l_value : aI K a.d_l_value ["_law_kind_here", "_law_rowsums_here", "_law_columnsums_here", "_law_where", "_law_columns"] []
 F_l_beyond : FunD K "_law_beyond" "_law_beyond" ls a.f_l_beyond a.d_l_beyond
 m_l_beyond : mg "_law_beyond" = some (.ref a.f_l_beyond)
 b_l_beyond : aI K a.d_l_beyond ["_law_kind_here", "_law_value_here", "_law_seen"] []
 F_l_scale : FunD K "_law_scale" "_law_scale" nl a.f_l_scale a.d_l_scale
 m_l_scale : mg "_law_scale" = some (.ref a.f_l_scale)
 b_l_scale : aI K a.d_l_scale ["_law_kind_here", "_law_grid", "_law_where"] []
 F_l_any : FunD K "_law_any" "_law_any" qt a.f_l_any a.d_l_any
 m_l_any : mg "_law_any" = some (.ref a.f_l_any)
 b_l_any : aI K a.d_l_any ["_law_bag_here"] []
 F_Measure___init__ : FunD K "__init__" "Measure.__init__" fR a.f_Measure___init__ a.d_Measure___init__
 mk_Measure : Mk K a.C_Measure a.f_Measure___init__
 kb_place_Measure___init__ : KwOk K a.d_Measure___init__ ["self", "kind", "rowsums", "columnsums", "place"] ["place"] 4 [.kw 0]
 F_Measure_begun : FunD K "begun" "Measure.begun" gW a.f_Measure_begun a.d_Measure_begun
 mt_Measure_begun : Meth K a.C_Measure "begun" a.f_Measure_begun
 b_Measure_begun : aI K a.d_Measure_begun ["self"] []
 F_Measure_part : FunD K "part" "Measure.part" ir a.f_Measure_part a.d_Measure_part
 mt_Measure_part : Meth K a.C_Measure "part" a.f_Measure_part
 b_Measure_part : aI K a.d_Measure_part ["self", "column", "counts"] []
 F_Measure_beyond : FunD K "beyond" "Measure.beyond" gD a.f_Measure_beyond a.d_Measure_beyond
 mt_Measure_beyond : Meth K a.C_Measure "beyond" a.f_Measure_beyond
 b_Measure_beyond : aI K a.d_Measure_beyond ["self", "value", "seen"] []
 F_Measure_together : FunD K "together" "Measure.together" fQ a.f_Measure_together a.d_Measure_together
 mt_Measure_together : Meth K a.C_Measure "together" a.f_Measure_together
 b_Measure_together : aI K a.d_Measure_together ["self", "one", "other"] []
 F_Measure_of : FunD K "of" "Measure.of" jG a.f_Measure_of a.d_Measure_of
 mt_Measure_of : Meth K a.C_Measure "of" a.f_Measure_of
 b_Measure_of : aI K a.d_Measure_of ["self", "rows"] []
 cl_Measure : Cls K a.C_Measure
 m_Measure : mg "Measure" = some (.ref a.C_Measure)
 na_Measure_column_list : cY K a.C_Measure "column_list"
 na_Measure_even : cY K a.C_Measure "even"
 na_Measure_kind : cY K a.C_Measure "kind"
 na_Measure_place : cY K a.C_Measure "place"
 na_Measure_row_list : cY K a.C_Measure "row_list"
 FX_EdgeError : FunD K "__init__" "EdgeError.__init__" jB a.x_EdgeError a.y_EdgeError
 b_EdgeError : aI K a.y_EdgeError ["self", "word", "why"] []
 m_EdgeError : mg "EdgeError" = some (.ref a.C_EdgeError)
 FX_BadSums : FunD K "__init__" "BadSums.__init__" k6 a.x_BadSums a.y_BadSums
 b_BadSums : aI K a.y_BadSums ["self", "why"] []
 m_BadSums : mg "BadSums" = some (.ref a.C_BadSums)
 xm_BadSums : XMk K a.C_BadSums a.x_BadSums
 w_BadSums : PySem.W.findIn K (.ref a.C_BadSums) "word" = some none
 FX_BadRule : FunD K "__init__" "BadRule.__init__" k7 a.x_BadRule a.y_BadRule
 b_BadRule : aI K a.y_BadRule ["self", "why"] []
 m_BadRule : mg "BadRule" = some (.ref a.C_BadRule)
 xm_BadRule : XMk K a.C_BadRule a.x_BadRule
 w_BadRule : PySem.W.findIn K (.ref a.C_BadRule) "word" = some none
 FX_BadCell : FunD K "__init__" "BadCell.__init__" k8 a.x_BadCell a.y_BadCell
 b_BadCell : aI K a.y_BadCell ["self", "why"] []
 m_BadCell : mg "BadCell" = some (.ref a.C_BadCell)
 xm_BadCell : XMk K a.C_BadCell a.x_BadCell
 w_BadCell : PySem.W.findIn K (.ref a.C_BadCell) "word" = some none
 FX_BadNumber : FunD K "__init__" "BadNumber.__init__" jC a.x_BadNumber a.y_BadNumber
 b_BadNumber : aI K a.y_BadNumber ["self", "why"] []
 m_BadNumber : mg "BadNumber" = some (.ref a.C_BadNumber)
 xm_BadNumber : XMk K a.C_BadNumber a.x_BadNumber
 w_BadNumber : PySem.W.findIn K (.ref a.C_BadNumber) "word" = some none
 cE : ClsFn K a.C_EdgeError "__init__" a.x_EdgeError
section
variable {P : Program} {w : World} {K : PySem.W.Frag} {mg : Str -> Option Value} {base : Heap} {a : Ad}
def Ax (K : PySem.W.Frag) : Sp := fun vs H Q _ => ∃ (x C : Addr) (wd y : V), vs = [.ref x, wd, y] /\ H x = some (de C x none) /\ XC K C /\ PySem.W.findIn K (.ref C) "word" = some none /\ ∀ (d : Addr) (H' : Hp), H' x = some (de C x (some d)) -> (∀ b o, H b = some o -> b ≠ x -> H' b = some o) -> Q .non H'
theorem nT : FnScope ["self", "word", "why"] ["self", "word", "why"] (aj jB) := ⟨rfl, rfl, rfl, by decide +kernel, rfl, by decide +kernel, by decide +kernel⟩
theorem kd (N : Fns K mg a) : FnOk P w K mg base (CXE P w) 1 a.x_EdgeError a.y_EdgeError ["self", "word", "why"] (Ax K) := by
 refine N.FX_EdgeError.ok nT (fun vs H Q E h => ?_) (fun cdv A outer s H vs Q E hr h => ?_)
 ·obtain ⟨x, C, wd, y, rfl, _⟩ := h
  rfl
 ·obtain ⟨x, C, wd, y, rfl, hx, c, hf, k⟩ := h
  refine ⟨_, bW (dI (vf rfl N.n_ValueError (bf (pv 0) (bf (pv 2) dC)))) (dH (u8 (pv 0) (pv 1) rfl)), ?_⟩
  refine ⟨_, rfl, _, rfl, x, C, none, _, rfl, (by show 1 <= sizeLine; decide), hx, c, ?_⟩
  refine ⟨_, rfl, _, rfl, x, C, rfl, aw, c, hf, fun d hd hda => ?_⟩
  refine k d _ aw fun b o e hb => ?_
  have hdn : H d = none := by rw [upd_ne hda] at hd; exact hd
  rw [upd_ne hb, upd_ne (ne_of_none e hdn), upd_ne hb]
  exact e
theorem pV : FnScope ["self", "why"] ["self", "why"] (aj k6) := ⟨rfl, rfl, rfl, by decide +kernel, rfl, by decide +kernel, by decide +kernel⟩
theorem p8 (N : Fns K mg a) : FnOk P w K mg base (CXE P w) 2 a.x_BadSums a.y_BadSums ["self", "why"] (la a.C_BadSums 1) := by
 have GE := kd (P := P) (w := w) (base := base) N
 refine N.FX_BadSums.ok pV (fun vs H Q E h => ?_) (fun cdv A outer s H vs Q E hr h => ?_)
 ·obtain ⟨x, rest, rfl, hl, _⟩ := h
  show rest.length + 1 = 2
  rw [hl]
 ·obtain ⟨x, rest, rfl, hl, hx, k⟩ := h
  obtain ⟨y, rfl⟩ : ∃ y, rest = [y] := List.length_eq_one_iff.mp hl
  refine ⟨_, dH (dI (gf N.cE GE hr rfl N.m_EdgeError N.b_EdgeError .nil dr (bf (pv 0) (bf jJ (bf (pv 1) dC))))), ?_⟩
  exact ⟨_, rfl, _, rfl, x, a.C_BadSums, _, y, rfl, hx, N.xm_BadSums.xc, N.w_BadSums, fun d H' h1 h2 => k _ H' h1 h2⟩
theorem pW : FnScope ["self", "why"] ["self", "why"] (aj k7) := ⟨rfl, rfl, rfl, by decide +kernel, rfl, by decide +kernel, by decide +kernel⟩
theorem p9 (N : Fns K mg a) : FnOk P w K mg base (CXE P w) 2 a.x_BadRule a.y_BadRule ["self", "why"] (la a.C_BadRule 1) := by
 have GE := kd (P := P) (w := w) (base := base) N
 refine N.FX_BadRule.ok pW (fun vs H Q E h => ?_) (fun cdv A outer s H vs Q E hr h => ?_)
 ·obtain ⟨x, rest, rfl, hl, _⟩ := h
  show rest.length + 1 = 2
  rw [hl]
 ·obtain ⟨x, rest, rfl, hl, hx, k⟩ := h
  obtain ⟨y, rfl⟩ : ∃ y, rest = [y] := List.length_eq_one_iff.mp hl
  refine ⟨_, dH (dI (gf N.cE GE hr rfl N.m_EdgeError N.b_EdgeError .nil dr (bf (pv 0) (bf jJ (bf (pv 1) dC))))), ?_⟩
  exact ⟨_, rfl, _, rfl, x, a.C_BadRule, _, y, rfl, hx, N.xm_BadRule.xc, N.w_BadRule, fun d H' h1 h2 => k _ H' h1 h2⟩
theorem pX : FnScope ["self", "why"] ["self", "why"] (aj k8) := ⟨rfl, rfl, rfl, by decide +kernel, rfl, by decide +kernel, by decide +kernel⟩
theorem qa (N : Fns K mg a) : FnOk P w K mg base (CXE P w) 2 a.x_BadCell a.y_BadCell ["self", "why"] (la a.C_BadCell 1) := by
 have GE := kd (P := P) (w := w) (base := base) N
 refine N.FX_BadCell.ok pX (fun vs H Q E h => ?_) (fun cdv A outer s H vs Q E hr h => ?_)
 ·obtain ⟨x, rest, rfl, hl, _⟩ := h
  show rest.length + 1 = 2
  rw [hl]
 ·obtain ⟨x, rest, rfl, hl, hx, k⟩ := h
  obtain ⟨y, rfl⟩ : ∃ y, rest = [y] := List.length_eq_one_iff.mp hl
  refine ⟨_, dH (dI (gf N.cE GE hr rfl N.m_EdgeError N.b_EdgeError .nil dr (bf (pv 0) (bf jJ (bf (pv 1) dC))))), ?_⟩
  exact ⟨_, rfl, _, rfl, x, a.C_BadCell, _, y, rfl, hx, N.xm_BadCell.xc, N.w_BadCell, fun d H' h1 h2 => k _ H' h1 h2⟩
theorem nU : FnScope ["self", "why"] ["self", "why"] (aj jC) := ⟨rfl, rfl, rfl, by decide +kernel, rfl, by decide +kernel, by decide +kernel⟩
theorem nX (N : Fns K mg a) : FnOk P w K mg base (CXE P w) 2 a.x_BadNumber a.y_BadNumber ["self", "why"] (la a.C_BadNumber 1) := by
 have GE := kd (P := P) (w := w) (base := base) N
 refine N.FX_BadNumber.ok nU (fun vs H Q E h => ?_) (fun cdv A outer s H vs Q E hr h => ?_)
 ·obtain ⟨x, rest, rfl, hl, _⟩ := h
  show rest.length + 1 = 2
  rw [hl]
 ·obtain ⟨x, rest, rfl, hl, hx, k⟩ := h
  obtain ⟨y, rfl⟩ : ∃ y, rest = [y] := List.length_eq_one_iff.mp hl
  refine ⟨_, dH (dI (gf N.cE GE hr rfl N.m_EdgeError N.b_EdgeError .nil dr (bf (pv 0) (bf jJ (bf (pv 1) dC))))), ?_⟩
  exact ⟨_, rfl, _, rfl, x, a.C_BadNumber, _, y, rfl, hx, N.xm_BadNumber.xc, N.w_BadNumber, fun d H' h1 h2 => k _ H' h1 h2⟩
theorem gS : FnScope ["_law_bag_here", "_law_lot", "_law_cells", "_law_at", "_law_cell"] ["_law_bag_here", "_law_lot"] (aj o5) := ⟨rfl, rfl, rfl, by decide +kernel, rfl, by decide +kernel, by decide +kernel⟩
theorem g0 (N : Fns K mg a) : FnOk P w K mg base (CXE P w) 2 a.f_l_pull a.d_l_pull ["_law_bag_here", "_law_lot"] (spF K 2 cG) := by
 refine N.F_l_pull.ok (k := 1) gS (fun vs H Q E h => h.1) (fun cdv A outer s H vs Q E hr h => ?_)
 obtain ⟨_, F, ds, β, fr, hd, r, β', e, k⟩ := h
 obtain ⟨lot, rfl, ok, h0, h1, rfl, rfl⟩ := uh e
 obtain ⟨v, w', rfl, d1, d2⟩ := DenL.two hd
 unfold Den at d1
 obtain ⟨b, l, ebg, rfl⟩ := d1
 cases d2.int
 obtain ⟨hb, hl⟩ := fr.bag b l ebg
 obtain ⟨ab, al, nbl⟩ := fr.bgA b l ebg
 obtain ⟨hk, hck, hc0, ek⟩ := ok.at
 obtain ⟨_, _, hcp, _⟩ := qw ok h0
 have len : ((β.cells.map V.int).length : Int) = (β.cells.length : Int) := by rw [List.length_map]
 have hat : atI (β.cells.map V.int) (β.pos : Int) = some (.int β.cell) := Ac (by rw [List.getElem?_map, hck]; rfl)
 refine ⟨_, bW (lC (i := 2) gS.nd rfl (Or.inl rfl) (gZ eA (pv 0) bA (fun _ _ => rfl)))
  (bW (lC (i := 3) gS.nd rfl (Or.inl rfl) (c9 gE (gZ eA (pv 0) bA (fun _ _ => rfl)) (kG aY (by rfl) N.n_len PySem.boot_len (bf (pv 2) dC))))
  (bW (lC (i := 4) gS.nd rfl (Or.inl rfl) (gZ eA (pv 2) (pv 3) (fun _ _ => rfl)))
  (bW (yC (qx rp (pv 4) (c9 pf bA bA) (pi _))
   (bW (lE (c9 qD (pv 4) (pv 1)) (lF (pv 2) (pv 3) iT)) (dH (aB (c9 gE (pv 4) (pv 1))))) mz)
  (bW (lE (c9 lI (gZ eA (pv 0) bA (fun _ _ => rfl)) bA) (lF (pv 0) bA iT))
  (bW (lE (c9 gE (c9 A0 (c9 lI (c9 lI (gZ eA (pv 0) bA (fun _ _ => rfl)) (c9 gE (pv 4) bA)) bA) bA) bA) (lF (pv 0) bA iT))
  (dH (aB (c9 gE (c9 qD (gZ eA (pv 0) bA (fun _ _ => rfl)) bA) (pv 1))))))))), ?_⟩
 refine ⟨_, rfl, b, _, _, _, rfl, rfl, SqL.of hb, rfl, ?_⟩
 refine ⟨_, rfl, b, _, _, _, rfl, rfl, SqL.of hb, rfl, _, rfl, l, _, rfl, .inl (SqL.of hl), _, _, rfl, rfl, ?_, ?_⟩
 ·have := hk
  rw [len]
  omega
 refine ⟨_, rfl, _, rfl, l, _, _, _, rfl, rfl, SqL.of hl, by rw [len, ek]; exact hat, ?_⟩
 refine ⟨_, rfl, _, _, rfl, rfl, ⟨by decide, by decide, by decide⟩, _, _, rfl, rfl, _, rfl, ?_⟩
 have occ : ∀ {H' : Hp} {p : Addr} {o : HO}, (∀ c, F.A c -> H' c ≠ none) -> ∀ c, F.A c -> upd H' p o c ≠ none := fun {H' p o} f c hc z => by
  by_cases q : c = p
  ·subst q; rw [aw] at z; cases z
  ·rw [upd_ne q] at z; exact f c hc z
 refine ite2 (fun hbig => ?_) (fun hbig => ?_)
 ·have big : (10 : Int) ^ 18 <= β.cell := of_decide_eq_true hbig
  refine ⟨_, rfl, _, rfl, _, _, rfl, rfl, ⟨h0, h1⟩, _, rfl, _, rfl, l, _, _, β.pos, rfl, rfl, hl, ?_, ?_⟩
  ·rw [len, ek, List.length_map]
   exact zQ hk
  refine ⟨_, rfl, _, rfl, _, _, rfl, rfl, h0, ?_⟩
  have e1 : gX β lot = β.cell % lot := if_pos big
  have e2 : iY β lot = ⟨β.cells.set β.pos (β.cell / lot), β.i, β.j⟩ := if_pos big
  rw [e1, e2] at k
  refine k _ _ ⟨fun c o hc n => by rw [upd_ne (n b l ebg).2]; exact hc, occ fr.occ, fr.bgA, fun b' l' e' => ?_⟩ rfl
  rw [ebg] at e'
  cases e'
  exact ⟨by rw [upd_ne nbl]; exact hb, by rw [aw, List.map_set]⟩
 ·have big : ¬ (10 : Int) ^ 18 <= β.cell := fun q => hbig (decide_eq_true q)
  refine ⟨_, rfl, b, _, _, _, rfl, rfl, SqL.of hb, rfl, _, _, rfl, rfl, _, rfl, b, _, _, 1, rfl, rfl, hb, rfl, ?_⟩
  have hb1 : (upd H b (.lst [.ref l, .int (β.i + 1), .int β.j])) b = some (.lst [.ref l, .int (β.i + 1), .int β.j]) := aw
  refine ⟨_, rfl, b, _, _, _, rfl, rfl, SqL.of hb1, rfl, _, rfl, _, _, rfl, rfl, (by show (0 : Int) < 2147483629; decide), _, _, rfl, rfl, _, _, rfl, rfl, _, _, rfl, rfl, .inr ⟨by decide, by decide⟩, _, _, rfl, rfl, (by show (0 : Int) < 2147483629; decide), _, rfl, b, _, _, 2, rfl, rfl, hb1, rfl, ?_⟩
  have hb2 : (upd (upd H b (.lst [.ref l, .int (β.i + 1), .int β.j])) b (.lst [.ref l, .int (β.i + 1), .int β.nxt])) b = some (.lst [.ref l, .int (β.i + 1), .int β.nxt]) := aw
  refine ⟨_, rfl, b, _, _, _, rfl, rfl, SqL.of hb2, rfl, _, _, rfl, rfl, ⟨by decide, by decide⟩, _, rfl, _, _, rfl, rfl, h0, ?_⟩
  have e1 : gX β lot = β.nxt / 64 % lot := if_neg big
  have e2 : iY β lot = ⟨β.cells, β.i + 1, β.nxt⟩ := if_neg big
  rw [e1, e2] at k
  refine k _ _ ⟨fun c o hc n => by rw [upd_ne (n b l ebg).1, upd_ne (n b l ebg).1]; exact hc, occ (occ fr.occ), fr.bgA, fun b' l' e' => ?_⟩ rfl
  rw [ebg] at e'
  cases e'
  exact ⟨hb2, by rw [upd_ne nbl.symm, upd_ne nbl.symm]; exact hl⟩
theorem uZ : FnScope ["_law_script"] ["_law_script"] (aj qr) := ⟨rfl, rfl, rfl, by decide +kernel, rfl, by decide +kernel, by decide +kernel⟩
theorem nd1 : (["_law_cell"] : List Str).Nodup := by decide +kernel
theorem vq (N : Fns K mg a) : FnOk P w K mg base (CXE P w) 1 a.f_l_bag a.d_l_bag ["_law_script"] (D6 K) := by
 refine N.F_l_bag.ok uZ (fun vs H Q E h => ?_) (fun cdv A outer s H vs Q E hr h => ?_)
 ·obtain ⟨a, ns, rfl, _⟩ := h
  rfl
 ·obtain ⟨a, ns, rfl, hS, k⟩ := h
  refine ⟨_, dH (aB (lH (bf (c9 A2 (qA rfl (vars := ["_law_cell"]) (CmpScope.plain rfl (by decide +kernel) (by decide +kernel)) (zn (vg zd (pv 0) zj (zi bA)))
   (fun cl C fp s H => ⟨qz (i := 0) nd1 rfl (Or.inl rfl), pe, fun D => bG rfl (kG kR (by rfl) N.n_abs PyProof.Rows.Boot.«abs» (bf (pv 0) dC)) rfl⟩)) (lH (bf bA dC))) (bf bA (bf bA dC))))), ?_⟩
  obtain ⟨ms, ems, lms⟩ := Ey ns
  refine ⟨_, rfl, 63, rfl, a, _, rfl, hS, fun p hp => ?_⟩
  rw [ems]
  have s1 : bF H (upd H p (.lst (ms.map V.int))) := bF.upd hp
  refine ⟨p, rfl, ⟨_, SqL.of aw⟩, fun D hD => ?_⟩
  have nDp : D ≠ p := fun z => by subst z; rw [aw] at hD; cases hD
  refine rT (xs := ms.map V.int) (fun i σ H2 => ∃ cs : List Int, (∃ v, σ = [v]) /\ cs.length = i /\ (∀ c ∈ cs, 0 <= c) /\ H2 D = some (.lst (cs.map V.int)) /\ H2 p = some (.lst (ms.map V.int)) /\ bF H H2) ⟨[], ⟨_, rfl⟩, rfl, (fun _ h => nomatch h), aw, by rw [upd_ne nDp.symm, aw], s1.trans (bF.upd hD)⟩
   (fun i σ H2 _ ⟨_, _, _, _, _, e, _⟩ => SqL.of e) ?_ ?_
  ·rintro i x σ H2 hi ⟨cs, ⟨v, rfl⟩, hcl, hc0, hDc, hp2, s2⟩
   have hil : i < ms.length := by have := (List.getElem?_eq_some_iff.mp hi).1; rwa [List.length_map] at this
   obtain ⟨z, rfl⟩ : ∃ z, x = V.int z := by
    rw [List.getElem?_map] at hi
    cases e : ms[i]? with
    | none => rw [e] at hi; cases hi
    | some z => rw [e] at hi; exact ⟨z, (Option.some.inj hi).symm⟩
   unfold eQ Aq
   refine iteT ?_
   refine ⟨_, rfl, _, rfl, cs.map V.int, hDc, by rw [List.length_map]; exact nj (by omega), cs ++ [if z < 0 then -z else z], ⟨_, rfl⟩, by rw [List.length_append, hcl]; rfl, fun c hc => ?_, by rw [aw, List.map_append]; rfl, by rw [upd_ne nDp.symm]; exact hp2, fun b o e => ?_⟩
   ·rcases List.mem_append.mp hc with hc | hc
    ·exact hc0 c hc
    ·obtain rfl : c = _ := by simpa using hc
     split <;> omega
   ·rw [upd_ne (ne_of_none e (s1.free hD))]
    exact s2 b o e
  ·rintro σ H2 ⟨cs, ⟨v, rfl⟩, hcl, hc0, hDc, hp2, s2⟩
   rw [List.length_map] at hcl
   refine ⟨by decide, fun p2 hp2' => ⟨D, p2, _, _, rfl, rfl, by rw [upd_ne (ne_of_none hDc hp2')]; exact hDc, aw, by rw [List.length_map]; exact Nat.le_of_lt (nj (by simp; omega)), fun p3 hp3 => ⟨(by show 3 <= sizeLine; decide), fun p4 hp4 => ?_⟩⟩⟩
   have s3 : bF H2 (upd H2 p2 (.lst [V.int 1])) := bF.upd hp2'
   have s4 := s3.trans (bF.upd (o := .lst (cs.map V.int ++ [V.int 1])) hp3)
   have n34 : p3 ≠ p4 := fun z => by subst z; rw [aw] at hp4; cases hp4
   refine k p4 p3 _ ((s2.trans s4).free hp4) ((s2.trans s3).free hp3) ⟨cs ++ [1], 0, 0, aw, by rw [upd_ne n34, aw, List.map_append]; rfl, by simp, by rw [List.length_append]; simp; omega, fun c hc => ?_, by decide⟩ ((s2.trans s4).trans (bF.upd hp4))
   rcases List.mem_append.mp hc with hc | hc
   ·exact hc0 c hc
   ·obtain rfl : c = 1 := by simpa using hc
    decide
theorem nV : FnScope ["rowsums", "columnsums"] ["rowsums", "columnsums"] (aj jE) := ⟨rfl, rfl, rfl, by decide +kernel, rfl, by decide +kernel, by decide +kernel⟩
noncomputable def gL (K : PySem.W.Frag) (a : Ad) : G :=
  ai (gIf (cw (fB (cn leD leD (fC (.int 1)) (aq bE (ae (aa 0) (ah))) (fC (.int 4))))) (bN a.C_BadSums (ae (cP (bZ (fC (.int 4)) (bZ (aq bE (ae (aa 0) (ah))) (dy)))) (ah))) (gNil))
  (ai (gIf (cw (fB (cn leD leD (fC (.int 1)) (aq bE (ae (aa 1) (ah))) (fC (.int 6))))) (bN a.C_BadSums (ae (cP (bZ (fC (.int 6)) (bZ (aq bE (ae (aa 1) (ah))) (dy)))) (ah))) (gNil))
  (ai (gIf (da (cW (aq m8 (ae (aT 1 [] (ba (aa 0)) (tgC 0) (fun _ => M.ret true) (cEm (f2 (ltD) (aa 0) (fC (.int 0))))) (ah)))) (cW (aq m8 (ae (aT 1 [] (ba (aa 1)) (tgC 0) (fun _ => M.ret true) (cEm (f2 (ltD) (aa 0) (fC (.int 0))))) (ah))))) (bN a.C_BadSums (ae (fC (.str (Str.ofString "a sum is below nought"))) (ah))) (gNil))
  (ai (gIf (fB (f2 (cy) (aq cr (ae (aa 0) (ah))) (aq cr (ae (aa 1) (ah))))) (bN a.C_BadSums (ae (cP (bZ (aq cr (ae (aa 0) (ah))) (bZ (aq cr (ae (aa 1) (ah))) (dy)))) (ah))) (gNil))
  (gIf (fB (f2 (gtD) (aq cr (ae (aa 0) (ah))) (fC (.int 40)))) (bN a.C_BadSums (ae (cP (bZ (fC (.int 40)) (dy))) (ah))) (gNil)))))
noncomputable def m_check_sums (K : PySem.W.Frag) (a : Ad) : List D -> M D := aK 2 (gL K a)
theorem nZ (N : Fns K mg a) : FnOk P w K mg base (CXE P w) 4 a.f_check_sums a.d_check_sums ["rowsums", "columnsums"] (spF K 2 (m_check_sums K a)) := by
 have X_BadSums := p8 (P := P) (w := w) (base := base) N
 unfold m_check_sums
 exact bq (k := 3) 2 2 (gL K a) N.F_check_sums nV rfl rfl fun cdv A outer s H E hr => ak (bw (ge (ml i0 i0 kJ kJ (aD) (aF aY dY (by rfl) N.n_len PySem.boot_len (ac (ad 0 (pv 0)) (ag))) (gy N.g_MOST_ROWS))) (ao (em N.xm_BadSums.xc (af aN0) (by decide) (dB hr.hd (fS N.xm_BadSums X_BadSums (hr.mono (by decide)) rfl N.m_BadSums N.b_BadSums .nil dr (ac (gz (c := ((Str.ofString "there are 1 to ").length + (1921 + ((Str.ofString " row sums, not ").length + (1921 + 0))))) (dL (fK (gy N.g_MOST_ROWS) (dL (fK (aF aY dY (by rfl) N.n_len PySem.boot_len (ac (ad 0 (pv 0)) (ag))) (i8))))) (by decide +kernel)) (ag)))))) (aZ))
   (ak (bw (ge (ml i0 i0 kJ kJ (aD) (aF aY dY (by rfl) N.n_len PySem.boot_len (ac (ad 1 (pv 1)) (ag))) (gy N.g_MOST_COLUMNS))) (ao (em N.xm_BadSums.xc (af aN0) (by decide) (dB hr.hd (fS N.xm_BadSums X_BadSums (hr.mono (by decide)) rfl N.m_BadSums N.b_BadSums .nil dr (ac (gz (c := ((Str.ofString "there are 1 to ").length + (1921 + ((Str.ofString " column sums, not ").length + (1921 + 0))))) (dL (fK (gy N.g_MOST_COLUMNS) (dL (fK (aF aY dY (by rfl) N.n_len PySem.boot_len (ac (ad 1 (pv 1)) (ag))) (i8))))) (by decide +kernel)) (ag)))))) (aZ))
   (ak (bw (jz (oN (gd (aF (nK rfl) yK (by rfl) N.n_any PyProof.Rows.Boot.«any» (ac (cS rfl (CmpScope.ofB (Nc := ["many"]) (vars := ["many"]) (caps := []) rfl (by decide +kernel) (by rfl) (by rfl) (by rfl)) (bT (ad 0 (pv 0))) (fun cl C fp s H => ⟨(pgN 0 (show (["many"] : List Str).Nodup by decide +kernel)), cI, fun D => bG rfl (fF ox rK (ad 0 (pv 0)) (aD)) rfl⟩) bi bt (fun D => bS)) (ag)))) (kW (gd (aF (nK rfl) yK (by rfl) N.n_any PyProof.Rows.Boot.«any» (ac (cS rfl (CmpScope.ofB (Nc := ["many"]) (vars := ["many"]) (caps := []) rfl (by decide +kernel) (by rfl) (by rfl) (by rfl)) (bT (ad 1 (pv 1))) (fun cl C fp s H => ⟨(pgN 0 (show (["many"] : List Str).Nodup by decide +kernel)), cI, fun D => bG rfl (fF ox rK (ad 0 (pv 0)) (aD)) rfl⟩) bi bt (fun D => bS)) (ag))))))) (ao (em N.xm_BadSums.xc (af aN0) (by decide) (dB hr.hd (fS N.xm_BadSums X_BadSums (hr.mono (by decide)) rfl N.m_BadSums N.b_BadSums .nil dr (ac (bR) (ag)))))) (aZ))
   (ak (bw (aW (fU hr) hW (aF (bH rfl) di (by rfl) N.n_sum PyProof.Rows.Boot.«sum» (ac (ad 0 (pv 0)) (ag))) (aF (bH rfl) di (by rfl) N.n_sum PyProof.Rows.Boot.«sum» (ac (ad 1 (pv 1)) (ag)))) (ao (em N.xm_BadSums.xc (af aN0) (by decide) (dB hr.hd (fS N.xm_BadSums X_BadSums (hr.mono (by decide)) rfl N.m_BadSums N.b_BadSums .nil dr (ac (gz (c := ((Str.ofString "the rows have ").length + (1921 + ((Str.ofString " things, the columns ").length + (1921 + 0))))) (dL (fK (aF (bH rfl) di (by rfl) N.n_sum PyProof.Rows.Boot.«sum» (ac (ad 0 (pv 0)) (ag))) (dL (fK (aF (bH rfl) di (by rfl) N.n_sum PyProof.Rows.Boot.«sum» (ac (ad 1 (pv 1)) (ag))) (i8))))) (by decide +kernel)) (ag)))))) (aZ))
   (ao (bw (aW i5 kK (aF (bH rfl) di (by rfl) N.n_sum PyProof.Rows.Boot.«sum» (ac (ad 0 (pv 0)) (ag))) (gy N.g_MOST)) (ao (em N.xm_BadSums.xc (af aN0) (by decide) (dB hr.hd (fS N.xm_BadSums X_BadSums (hr.mono (by decide)) rfl N.m_BadSums N.b_BadSums .nil dr (ac (gz (c := ((Str.ofString "a table has at most ").length + (1921 + ((Str.ofString " things").length + 0)))) (dL (fK (gy N.g_MOST) (dL (i8)))) (by decide +kernel)) (ag)))))) (aZ))))))
theorem mv : FnScope ["place", "many"] ["place", "many"] (aj jr) := ⟨rfl, rfl, rfl, by decide +kernel, rfl, by decide +kernel, by decide +kernel⟩
noncomputable def f8 (K : PySem.W.Frag) (a : Ad) : G :=
  gIf (cw (fB (cn leD ltD (fC (.int 0)) (aa 0) (aa 1)))) (bN a.C_BadCell (ae (cP (bZ (aa 0) (bZ (aa 1) (dy)))) (ah))) (gNil)
noncomputable def m_check_there (K : PySem.W.Frag) (a : Ad) : List D -> M D := aK 2 (f8 K a)
theorem mG (N : Fns K mg a) : FnOk P w K mg base (CXE P w) 4 a.f_check_there a.d_check_there ["place", "many"] (spF K 2 (m_check_there K a)) := by
 have X_BadCell := qa (P := P) (w := w) (base := base) N
 unfold m_check_there
 exact bq (k := 3) 2 2 (f8 K a) N.F_check_there mv rfl rfl fun cdv A outer s H E hr => ao (bw (ge (ml i0 ox kJ rK (aD) (ad 0 (pv 0)) (ad 1 (pv 1)))) (ao (em N.xm_BadCell.xc (af aN0) (by decide) (dB hr.hd (fS N.xm_BadCell X_BadCell (hr.mono (by decide)) rfl N.m_BadCell N.b_BadCell .nil dr (ac (gz (c := ((Str.ofString "there is no number ").length + (1921 + ((Str.ofString " among ").length + (1921 + 0))))) (dL (fK (ad 0 (pv 0)) (dL (fK (ad 1 (pv 1)) (i8))))) (by decide +kernel)) (ag)))))) (aZ))
theorem nW : FnScope ["row", "column", "rows", "columns"] ["row", "column", "rows", "columns"] (aj jF) := ⟨rfl, rfl, rfl, by decide +kernel, rfl, by decide +kernel, by decide +kernel⟩
noncomputable def gM (K : PySem.W.Frag) (a : Ad) : G :=
  ai (dz (au (m_check_there K a) (ae (aa 0) (ae (aa 2) (ah)))))
  (dz (au (m_check_there K a) (ae (aa 1) (ae (aa 3) (ah)))))
noncomputable def m_check_cell (K : PySem.W.Frag) (a : Ad) : List D -> M D := aK 4 (gM K a)
theorem n5 (N : Fns K mg a) : FnOk P w K mg base (CXE P w) 5 a.f_check_cell a.d_check_cell ["row", "column", "rows", "columns"] (spF K 4 (m_check_cell K a)) := by
 have G_check_there := mG (P := P) (w := w) (base := base) N
 unfold m_check_cell
 exact bq (k := 4) 4 4 (gM K a) N.F_check_cell nW rfl rfl fun cdv A outer s H E hr => ak (lu (dI (ax G_check_there (hr.mono (by decide)) (by rfl) N.m_check_there N.F_check_there.kp N.b_check_there aC (ac (ad 0 (pv 0)) (ac (ad 2 (pv 2)) (ag))) (af (af aN0)))))
   (ao (lu (dI (ax G_check_there (hr.mono (by decide)) (by rfl) N.m_check_there N.F_check_there.kp N.b_check_there aC (ac (ad 1 (pv 1)) (ac (ad 3 (pv 3)) (ag))) (af (af aN0))))))
theorem mt : FnScope ["rows"] ["rows"] (aj jp) := ⟨rfl, rfl, rfl, by decide +kernel, rfl, by decide +kernel, by decide +kernel⟩
noncomputable def jt (K : PySem.W.Frag) (a : Ad) : G :=
  aE (aT 1 [0] (bD fX (ae (aq bE (ae (f2 ixD (aa 0) (fC (.int 0))) (ah))) (ah))) (tgC 0) (fun _ => M.ret true) (cEm (aT 1 [0] (ba (aa 1)) (tgC 0) (fun _ => M.ret true) (cEm (f2 ixD (aa 0) (aa 1))))))
noncomputable def m_rows_turned (K : PySem.W.Frag) (a : Ad) : List D -> M D := aK 1 (jt K a)
theorem mE (N : Fns K mg a) : FnOk P w K mg base (CXE P w) 2 a.f_rows_turned a.d_rows_turned ["rows"] (spF K 1 (m_rows_turned K a)) := by
 unfold m_rows_turned
 exact bq (k := 1) 1 1 (jt K a) N.F_rows_turned mt rfl rfl fun cdv A outer s H E hr => ao (aM (aB (cS rfl (CmpScope.ofB (Nc := ["column", "rows"]) (vars := ["column"]) (caps := [0]) rfl (by decide +kernel) (by rfl) (by rfl) (by rfl)) (d6 (by rfl) N.n_range (ac (aF aY dY (by rfl) N.n_len PySem.boot_len (ac (ci aX cm (ad 0 (pv 0)) (aD)) (ag))) (ag))) (fun cl C fp s H => ⟨(pgN 0 (show (["column", "rows"] : List Str).Nodup by decide +kernel)), cI, fun D => bG rfl (cS rfl (CmpScope.ofB (Nc := ["cells", "column"]) (vars := ["cells"]) (caps := [0]) rfl (by decide +kernel) (by rfl) (by rfl) (by rfl)) (bT (ad 1 (pv 1))) (fun cl C fp s H => ⟨(pgN 0 (show (["cells", "column"] : List Str).Nodup by decide +kernel)), cI, fun D => bG rfl (ci aX cm (ad 0 (pv 0)) (ad 1 (pv 1))) rfl⟩) bi bt (fun D => bS)) rfl⟩) bi bt (fun D => bS))))
theorem eE : FnScope ["number", "product", "factor"] ["number"] (aj ky) := ⟨rfl, rfl, rfl, by decide +kernel, rfl, by decide +kernel, by decide +kernel⟩
noncomputable def ie (K : PySem.W.Frag) (a : Ad) : G :=
  ai (aG 1 (fC (.int 1)))
  (ai (bQ (bD mx (ae (fC (.int 2)) (ae (f2 eY (aa 0) (fC (.int 1))) (ah)))) (sgN 2) (eR 1 bb (aa 2)))
  (aE (aa 1)))
noncomputable def m_factorial (K : PySem.W.Frag) (a : Ad) : List D -> M D := aK 3 (ie K a)
theorem ph (N : Fns K mg a) : FnOk P w K mg base (CXE P w) 2 a.f_factorial a.d_factorial ["number"] (spF K 1 (m_factorial K a)) := by
 unfold m_factorial
 exact bq (k := 1) 1 3 (ie K a) N.F_factorial eE rfl rfl fun cdv A outer s H E hr => ak (aL (psS 1 eE.nd (aD)))
   (ak (bJ aR (bu bY rfl (pG (by rfl) N.n_range (ac (aD) (ac (aO cc fJ (ad 0 (pv 0)) (aD)) (ag)))) (pgN 2 eE.nd) (ao (oq mK (lD (i := 1) eE.nd rfl (by first | exact Or.inl rfl | exact Or.inr rfl) (ad 2 (pv 2)) mL)))))
   (ao (aM (aB (ad 1 (pv 1))))))
theorem iU : FnScope ["base", "many", "product", "factor"] ["base", "many"] (aj qo) := ⟨rfl, rfl, rfl, by decide +kernel, rfl, by decide +kernel, by decide +kernel⟩
noncomputable def mN (K : PySem.W.Frag) (a : Ad) : G :=
  ai (aG 2 (fC (.int 1)))
  (ai (bQ (bD fX (ae (aa 1) (ah))) (sgN 3) (eR 2 bb (aa 0)))
  (aE (aa 2)))
noncomputable def m_power (K : PySem.W.Frag) (a : Ad) : List D -> M D := aK 4 (mN K a)
theorem vn (N : Fns K mg a) : FnOk P w K mg base (CXE P w) 2 a.f_power a.d_power ["base", "many"] (spF K 2 (m_power K a)) := by
 unfold m_power
 exact bq (k := 1) 2 4 (mN K a) N.F_power iU rfl rfl fun cdv A outer s H E hr => ak (aL (psS 2 iU.nd (aD)))
   (ak (bJ aR (bu bY rfl (d6 (by rfl) N.n_range (ac (ad 1 (pv 1)) (ag))) (pgN 3 iU.nd) (ao (oq mK (lD (i := 2) iU.nd rfl (by first | exact Or.inl rfl | exact Or.inr rfl) (ad 0 (pv 0)) mL)))))
   (ao (aM (aB (ad 2 (pv 2))))))
theorem il : FnScope ["parts", "part", "told"] ["parts"] (aj tR) := ⟨rfl, rfl, rfl, by decide +kernel, rfl, by decide +kernel, by decide +kernel⟩
noncomputable def pI (K : PySem.W.Frag) (a : Ad) : G :=
  ai (bQ (ba (aa 0)) (sgN 1) (gIf (fB (f2 (ltD) (aa 1) (fC (.int 0)))) (bN a.C_BadNumber (ae (cP (bZ (aa 1) (dy))) (ah))) (gNil)))
  (ai (aG 2 (au (m_factorial K a) (ae (aq kc (ae (aa 0) (ah))) (ah))))
  (ai (bQ (ba (aa 0)) (sgN 1) (eR 2 eS (au (m_factorial K a) (ae (aa 1) (ah)))))
  (aE (aa 2))))
noncomputable def m_ways (K : PySem.W.Frag) (a : Ad) : List D -> M D := aK 3 (pI K a)
theorem zA (N : Fns K mg a) : FnOk P w K mg base (CXE P w) 4 a.f_ways a.d_ways ["parts"] (spF K 1 (m_ways K a)) := by
 have G_factorial := ph (P := P) (w := w) (base := base) N
 have X_BadNumber := nX (P := P) (w := w) (base := base) N
 unfold m_ways
 exact bq (k := 3) 1 3 (pI K a) N.F_ways il rfl rfl fun cdv A outer s H E hr => ak (bJ aR (bu bY rfl (bT (ad 0 (pv 0))) (pgN 1 il.nd) (ao (bw (aW ox rK (ad 1 (pv 1)) (aD)) (ao (em N.xm_BadNumber.xc (af aN0) (by decide) (dB hr.hd (fS N.xm_BadNumber X_BadNumber (hr.mono (by decide)) rfl N.m_BadNumber N.b_BadNumber .nil dr (ac (gz (c := ((Str.ofString "a part of ").length + (1921 + ((Str.ofString " is below nought").length + 0)))) (dL (fK (ad 1 (pv 1)) (dL (i8)))) (by decide +kernel)) (ag)))))) (aZ)))))
   (ak (aL (psS 2 il.nd (ax G_factorial (hr.mono (by decide)) (by rfl) N.m_factorial N.F_factorial.kp N.b_factorial aC (ac (aF (uJ rfl) A9 (by rfl) N.n_sum PyProof.Rows.Boot.«sum» (ac (ad 0 (pv 0)) (ag))) (ag)) (af aN0))))
   (ak (bJ aR (bu bY rfl (bT (ad 0 (pv 0))) (pgN 1 il.nd) (ao (oq vI (lD (i := 2) il.nd rfl (by first | exact Or.inl rfl | exact Or.inr rfl) (ax G_factorial (hr.mono (by decide)) (by rfl) N.m_factorial N.F_factorial.kp N.b_factorial aC (ac (ad 1 (pv 1)) (ag)) (af aN0)) zU)))))
   (ao (aM (aB (ad 2 (pv 2)))))))
theorem gC : FnScope ["one", "other"] ["one", "other"] (aj gU) := ⟨rfl, rfl, rfl, by decide +kernel, rfl, by decide +kernel, by decide +kernel⟩
noncomputable def eM (K : PySem.W.Frag) (a : Ad) : G :=
  ai (gWh (fB (f2 (gtD) (aa 1) (fC (.int 0)))) (fD 0 1 (ae (aa 1) (ae (f2 kI (aa 0) (aa 1)) (ah)))))
  (aE (aa 0))
noncomputable def m_common_factor (K : PySem.W.Frag) (a : Ad) : List D -> M D := aK 2 (eM K a)
theorem kH (N : Fns K mg a) : FnOk P w K mg base (CXE P w) 2 a.f_common_factor a.d_common_factor ["one", "other"] (spF K 2 (m_common_factor K a)) := by
 unfold m_common_factor
 exact bq (k := 1) 2 2 (eM K a) N.F_common_factor gC rfl rfl fun cdv A outer s H E hr => ak (qm bY (aW i5 kK (ad 1 (pv 1)) (aD)) (ao (D7 (AI (i := 0) (j := 1) rfl gC.nd rfl rfl (by decide) rfl rfl (ac (ad 1 (pv 1)) (ac (aO gE yH (ad 0 (pv 0)) (ad 1 (pv 1))) (ag))) rfl))))
   (ao (aM (aB (ad 0 (pv 0)))))
theorem dm : FnScope ["numbers", "told", "number"] ["numbers"] (aj im) := ⟨rfl, rfl, rfl, by decide +kernel, rfl, by decide +kernel, by decide +kernel⟩
noncomputable def fu (K : PySem.W.Frag) (a : Ad) : G :=
  ai (aG 1 (fC (.int 1)))
  (ai (bQ (ba (aa 0)) (sgN 2) (aG 1 (f2 eS (f2 bb (aa 1) (aa 2)) (au (m_common_factor K a) (ae (aa 1) (ae (aa 2) (ah)))))))
  (aE (aa 1)))
noncomputable def m_least_common (K : PySem.W.Frag) (a : Ad) : List D -> M D := aK 3 (fu K a)
theorem lK (N : Fns K mg a) : FnOk P w K mg base (CXE P w) 3 a.f_least_common a.d_least_common ["numbers"] (spF K 1 (m_least_common K a)) := by
 have G_common_factor := kH (P := P) (w := w) (base := base) N
 unfold m_least_common
 exact bq (k := 2) 1 3 (fu K a) N.F_least_common dm rfl rfl fun cdv A outer s H E hr => ak (aL (psS 1 dm.nd (aD)))
   (ak (bJ aR (bu bY rfl (bT (ad 0 (pv 0))) (pgN 2 dm.nd) (ao (aL (psS 1 dm.nd (aO gF jQ (aO bh bK (ad 1 (pv 1)) (ad 2 (pv 2))) (ax G_common_factor (hr.mono (by decide)) (by rfl) N.m_common_factor N.F_common_factor.kp N.b_common_factor aC (ac (ad 1 (pv 1)) (ac (ad 2 (pv 2)) (ag))) (af (af aN0)))))))))
   (ao (aM (aB (ad 1 (pv 1))))))
theorem dS : FnScope ["counts", "told", "count"] ["counts"] (aj jD) := ⟨rfl, rfl, rfl, by decide +kernel, rfl, by decide +kernel, by decide +kernel⟩
noncomputable def gJ (K : PySem.W.Frag) (a : Ad) : G :=
  ai (aG 1 (fC (.int 1)))
  (ai (bQ (ba (aa 0)) (sgN 2) (eR 1 bb (au (m_power K a) (ae (aa 2) (ae (aa 2) (ah))))))
  (aE (aa 1)))
noncomputable def m_power_part (K : PySem.W.Frag) (a : Ad) : List D -> M D := aK 3 (gJ K a)
theorem nY (N : Fns K mg a) : FnOk P w K mg base (CXE P w) 3 a.f_power_part a.d_power_part ["counts"] (spF K 1 (m_power_part K a)) := by
 have G_power := vn (P := P) (w := w) (base := base) N
 unfold m_power_part
 exact bq (k := 2) 1 3 (gJ K a) N.F_power_part dS rfl rfl fun cdv A outer s H E hr => ak (aL (psS 1 dS.nd (aD)))
   (ak (bJ aR (bu bY rfl (bT (ad 0 (pv 0))) (pgN 2 dS.nd) (ao (oq mK (lD (i := 1) dS.nd rfl (by first | exact Or.inl rfl | exact Or.inr rfl) (ax G_power (hr.mono (by decide)) (by rfl) N.m_power N.F_power.kp N.b_power aC (ac (ad 2 (pv 2)) (ac (ad 2 (pv 2)) (ag))) (af (af aN0))) mL)))))
   (ao (aM (aB (ad 1 (pv 1))))))
theorem mr : FnScope ["counts", "products", "even"] ["counts", "products", "even"] (aj jo) := ⟨rfl, rfl, rfl, by decide +kernel, rfl, by decide +kernel, by decide +kernel⟩
noncomputable def f6 (K : PySem.W.Frag) (a : Ad) : G :=
  aE (aq cr (ae (aT 2 [2] (d5 (ae (aa 0) (ae (aa 1) (ah)))) (tgT (dk (tgC 0) (dk (tgC 1) gA))) (fB (f2 (gtD) (aa 1) (fC (.int 0)))) (cEm (f2 eS (f2 bb (f2 bb (aa 0) (aa 0)) (aa 2)) (aa 1)))) (ah)))
noncomputable def m_square_part (K : PySem.W.Frag) (a : Ad) : List D -> M D := aK 3 (f6 K a)
theorem mC (N : Fns K mg a) : FnOk P w K mg base (CXE P w) 2 a.f_square_part a.d_square_part ["counts", "products", "even"] (spF K 3 (m_square_part K a)) := by
 unfold m_square_part
 exact bq (k := 1) 3 3 (f6 K a) N.F_square_part mr rfl rfl fun cdv A outer s H E hr => ao (aM (aB (aF (bH rfl) di (by rfl) N.n_sum PyProof.Rows.Boot.«sum» (ac (cS rfl (CmpScope.ofB (Nc := ["count", "product", "even"]) (vars := ["count", "product"]) (caps := [2]) rfl (by decide +kernel) (by rfl) (by rfl) (by rfl)) (rN (by rfl) N.n_zip (ac (ad 0 (pv 0)) (ac (ad 1 (pv 1)) (ag)))) (fun cl C fp s H => ⟨(eF rfl (bp (pgN 0 (show (["count", "product", "even"] : List Str).Nodup by decide +kernel)) (bp (pgN 1 (show (["count", "product", "even"] : List Str).Nodup by decide +kernel)) dJ))), yS (aW i5 kK (ad 1 (pv 1)) (aD)), fun D => bG rfl (aO gF jQ (aO bh bK (aO bh bK (ad 0 (pv 0)) (ad 0 (pv 0))) (ad 2 (pv 2))) (ad 1 (pv 1))) rfl⟩) (pz (fq bi (fq bi mJ)) (fh (fh kE))) (oZ (fi bt (fi bt mq))) (fun D => bS)) (ag)))))
theorem pY : FnScope ["counts", "products", "things"] ["counts", "products", "things"] (aj li) := ⟨rfl, rfl, rfl, by decide +kernel, rfl, by decide +kernel, by decide +kernel⟩
noncomputable def je (K : PySem.W.Frag) (a : Ad) : G :=
  aE (aq cr (ae (aT 2 [2] (d5 (ae (aa 0) (ae (aa 1) (ah)))) (tgT (dk (tgC 0) (dk (tgC 1) gA))) (fun _ => M.ret true) (cEm (aq f9 (ae (f2 iS (f2 bb (aa 0) (aa 2)) (aa 1)) (ah))))) (ah)))
noncomputable def m_off_part (K : PySem.W.Frag) (a : Ad) : List D -> M D := aK 3 (je K a)
theorem qc (N : Fns K mg a) : FnOk P w K mg base (CXE P w) 2 a.f_off_part a.d_off_part ["counts", "products", "things"] (spF K 3 (m_off_part K a)) := by
 unfold m_off_part
 exact bq (k := 1) 3 3 (je K a) N.F_off_part pY rfl rfl fun cdv A outer s H E hr => ao (aM (aB (aF (bH rfl) di (by rfl) N.n_sum PyProof.Rows.Boot.«sum» (ac (cS rfl (CmpScope.ofB (Nc := ["count", "product", "things"]) (vars := ["count", "product"]) (caps := [2]) rfl (by decide +kernel) (by rfl) (by rfl) (by rfl)) (rN (by rfl) N.n_zip (ac (ad 0 (pv 0)) (ac (ad 1 (pv 1)) (ag)))) (fun cl C fp s H => ⟨(eF rfl (bp (pgN 0 (show (["count", "product", "things"] : List Str).Nodup by decide +kernel)) (bp (pgN 1 (show (["count", "product", "things"] : List Str).Nodup by decide +kernel)) dJ))), cI, fun D => bG rfl (aF kR yL (by rfl) N.n_abs PyProof.Rows.Boot.«abs» (ac (aO jK lQ (aO bh bK (ad 0 (pv 0)) (ad 2 (pv 2))) (ad 1 (pv 1))) (ag))) rfl⟩) (pz (fq bi (fq bi mJ)) (fh (fh kE))) (oZ (fi bt (fi bt mq))) (fun D => bS)) (ag)))))
theorem tP : FnScope ["_law_found", "_law_due"] ["_law_found", "_law_due"] (aj o4) := ⟨rfl, rfl, rfl, by decide +kernel, rfl, by decide +kernel, by decide +kernel⟩
noncomputable def kM (K : PySem.W.Frag) (a : Ad) (rec : List D -> M D) : G :=
  ai (gIf (cW (aq dZ (ae (aa 1) (ae (aq cu (ae (fC (.ty "list")) (ae (fC (.ty "tuple")) (ah)))) (ah))))) (ai (gIf (da (fB (f2 (cy) (aq cb (ae (aa 1) (ae (fC (.ty "list")) (ah)))) (aq cb (ae (aa 0) (ae (fC (.ty "list")) (ah)))))) (fB (f2 (cy) (aq cb (ae (aa 1) (ae (fC (.ty "tuple")) (ah)))) (aq cb (ae (aa 0) (ae (fC (.ty "tuple")) (ah))))))) (aE (fC (.bl false))) (gNil))
  (ai (gIf (fB (f2 (cy) (aq bE (ae (aa 0) (ah))) (aq bE (ae (aa 1) (ah))))) (aE (fC (.bl false))) (gNil))
  (aE (f2 (inD true) (fC (.bl false)) (aT 2 [] (d5 (ae (aa 0) (ae (aa 1) (ah)))) (tgT (dk (tgC 0) (dk (tgC 1) gA))) (fun _ => M.ret true) (cEm (au rec (ae (aa 0) (ae (aa 1) (ah)))))))))) (gNil))
  (ai (gIf (fB (f2 (fZ) (aa 1) (fC .non))) (aE (f2 (fZ) (aa 0) (fC .non))) (gNil))
  (ai (gIf (da (fB (f2 (cy) (aq cb (ae (aa 1) (ae (fC (.ty "str")) (ah)))) (aq cb (ae (aa 0) (ae (fC (.ty "str")) (ah)))))) (fB (f2 (cy) (aq cb (ae (aa 1) (ae (fC (.ty "bool")) (ah)))) (aq cb (ae (aa 0) (ae (fC (.ty "bool")) (ah))))))) (aE (fC (.bl false))) (gNil))
  (aE (ji (aq dZ (ae (aa 0) (ae (aq cu (ae (fC (.ty "int")) (ae (fC (.ty "str")) (ah)))) (ah)))) (f2 (cN) (aa 0) (aa 1))))))
noncomputable def m_l_same (K : PySem.W.Frag) (a : Ad) : Nat -> List D -> M D
 | 0 => fun _ => M.fail
 | n + 1 => aK 2 (kM K a (m_l_same K a n))
theorem lJ (N : Fns K mg a) : ∀ n, FnOk P w K mg base (CXE P w) (n + 1) a.f_l_same a.d_l_same ["_law_found", "_law_due"] (spF K 2 (m_l_same K a n))
 | 0 => ⟨fun vs H Q E h => h.1, fun A outer s H args us vs Q E hr e0 hb r h => by
   obtain ⟨_, F, ds, β, _, _, rr, β1, e, _⟩ := h
   cases e⟩
 | n + 1 => by
  have GREC := lJ N n
  unfold m_l_same
  exact bq (k := n + 1) 2 2 (kM K a (m_l_same K a n)) N.F_l_same tP rfl rfl fun cdv A outer s H E hr => ak (bw (gd (aF md uo (by rfl) N.n_isinstance PyProof.Rows.Boot.«isinstance» (ac (ad 1 (pv 1)) (ac (j6 (ac (v_c (cB (v := .ty "list") (by rfl) N.n_list PyProof.Rows.Boot.«list» rfl) (fun _ _ => rfl)) (ac (v_c (cB (v := .ty "tuple") (by rfl) N.n_tuple PyProof.Rows.Boot.«tuple» rfl) (fun _ _ => rfl)) (ag)))) (ag))))) (ak (bw (jz (oN (aW (fU hr) hW (aF c6 hX (by rfl) N.n_isinstance PyProof.Rows.Boot.«isinstance» (ac (ad 1 (pv 1)) (ac (v_c (cB (v := .ty "list") (by rfl) N.n_list PyProof.Rows.Boot.«list» rfl) (fun _ _ => rfl)) (ag)))) (aF c6 hX (by rfl) N.n_isinstance PyProof.Rows.Boot.«isinstance» (ac (ad 0 (pv 0)) (ac (v_c (cB (v := .ty "list") (by rfl) N.n_list PyProof.Rows.Boot.«list» rfl) (fun _ _ => rfl)) (ag))))) (kW (aW (fU hr) hW (aF c6 hX (by rfl) N.n_isinstance PyProof.Rows.Boot.«isinstance» (ac (ad 1 (pv 1)) (ac (v_c (cB (v := .ty "tuple") (by rfl) N.n_tuple PyProof.Rows.Boot.«tuple» rfl) (fun _ _ => rfl)) (ag)))) (aF c6 hX (by rfl) N.n_isinstance PyProof.Rows.Boot.«isinstance» (ac (ad 0 (pv 0)) (ac (v_c (cB (v := .ty "tuple") (by rfl) N.n_tuple PyProof.Rows.Boot.«tuple» rfl) (fun _ _ => rfl)) (ag)))))))) (ao (aM (aB (iQ)))) (aZ))
   (ak (bw (aW (fU hr) hW (aF aY dY (by rfl) N.n_len PySem.boot_len (ac (ad 0 (pv 0)) (ag))) (aF aY dY (by rfl) N.n_len PySem.boot_len (ac (ad 1 (pv 1)) (ag)))) (ao (aM (aB (iQ)))) (aZ))
   (ao (aM (aB (fF jL (ia (neg := true)) (iQ) (cS rfl (CmpScope.ofB (Nc := ["_law_one", "_law_other"]) (vars := ["_law_one", "_law_other"]) (caps := []) rfl (by decide +kernel) (by rfl) (by rfl) (by rfl)) (rN (by rfl) N.n_zip (ac (ad 0 (pv 0)) (ac (ad 1 (pv 1)) (ag)))) (fun cl C fp s H => ⟨(eF rfl (bp (pgN 0 (show (["_law_one", "_law_other"] : List Str).Nodup by decide +kernel)) (bp (pgN 1 (show (["_law_one", "_law_other"] : List Str).Nodup by decide +kernel)) dJ))), cI, fun D => bG rfl (ax GREC (hr.mono (Nat.le_refl _)) (by rfl) N.m_l_same N.F_l_same.kp N.b_l_same dr (ac (ad 0 (pv 0)) (ac (ad 1 (pv 1)) (ag))) (af (af aN0))) rfl⟩) (pz (fq bi (fq bi mJ)) (fh (fh kE))) (oZ (fi bt (fi bt mq))) (fun D => bS)))))))) (aZ))
   (ak (bw (aW t8 yI (ad 1 (pv 1)) (yp)) (ao (aM (aB (fF t8 yI (ad 0 (pv 0)) (yp))))) (aZ))
   (ak (bw (jz (oN (aW (fU hr) hW (aF c6 hX (by rfl) N.n_isinstance PyProof.Rows.Boot.«isinstance» (ac (ad 1 (pv 1)) (ac (v_c (cB (v := .ty "str") (by rfl) N.n_str PyProof.Rows.Boot.«str» rfl) (fun _ _ => rfl)) (ag)))) (aF c6 hX (by rfl) N.n_isinstance PyProof.Rows.Boot.«isinstance» (ac (ad 0 (pv 0)) (ac (v_c (cB (v := .ty "str") (by rfl) N.n_str PyProof.Rows.Boot.«str» rfl) (fun _ _ => rfl)) (ag))))) (kW (aW (fU hr) hW (aF c6 hX (by rfl) N.n_isinstance PyProof.Rows.Boot.«isinstance» (ac (ad 1 (pv 1)) (ac (v_c (cB (v := .ty "bool") (by rfl) N.n_bool PyProof.Rows.Boot.«bool» rfl) (fun _ _ => rfl)) (ag)))) (aF c6 hX (by rfl) N.n_isinstance PyProof.Rows.Boot.«isinstance» (ac (ad 0 (pv 0)) (ac (v_c (cB (v := .ty "bool") (by rfl) N.n_bool PyProof.Rows.Boot.«bool» rfl) (fun _ _ => rfl)) (ag)))))))) (ao (aM (aB (iQ)))) (aZ))
   (ao (aM (aB (DY (aF md uo (by rfl) N.n_isinstance PyProof.Rows.Boot.«isinstance» (ac (ad 0 (pv 0)) (ac (j6 (ac (v_c (cB (v := .ty "int") (by rfl) N.n_int PyProof.Rows.Boot.«int» rfl) (fun _ _ => rfl)) (ac (v_c (cB (v := .ty "str") (by rfl) N.n_str PyProof.Rows.Boot.«str» rfl) (fun _ _ => rfl)) (ag)))) (ag)))) (DX (fF (eG hr) gm (ad 0 (pv 0)) (ad 1 (pv 1))))))))))
theorem ub (N : Fns K mg a) : FnOk P w K mg base (CXE P w) 7 a.f_l_same a.d_l_same ["_law_found", "_law_due"] (spF K 2 (m_l_same K a 5)) := (lJ N 5).mono (by decide)
theorem pZ : FnScope ["_law_block"] ["_law_block"] (aj ln) := ⟨rfl, rfl, rfl, by decide +kernel, rfl, by decide +kernel, by decide +kernel⟩
noncomputable def l5 (K : PySem.W.Frag) (a : Ad) : G :=
  aE (aT 1 [0] (bD fX (ae (aq bE (ae (f2 ixD (aa 0) (fC (.int 0))) (ah))) (ah))) (tgC 0) (fun _ => M.ret true) (cEm (aT 1 [0] (ba (aa 1)) (tgC 0) (fun _ => M.ret true) (cEm (f2 ixD (aa 0) (aa 1))))))
noncomputable def m_l_turned (K : PySem.W.Frag) (a : Ad) : List D -> M D := aK 1 (l5 K a)
theorem kz (N : Fns K mg a) : FnOk P w K mg base (CXE P w) 2 a.f_l_turned a.d_l_turned ["_law_block"] (spF K 1 (m_l_turned K a)) := by
 unfold m_l_turned
 exact bq (k := 1) 1 1 (l5 K a) N.F_l_turned pZ rfl rfl fun cdv A outer s H E hr => ao (aM (aB (cS rfl (CmpScope.ofB (Nc := ["_law_to", "_law_block"]) (vars := ["_law_to"]) (caps := [0]) rfl (by decide +kernel) (by rfl) (by rfl) (by rfl)) (d6 (by rfl) N.n_range (ac (aF aY dY (by rfl) N.n_len PySem.boot_len (ac (ci aX cm (ad 0 (pv 0)) (aD)) (ag))) (ag))) (fun cl C fp s H => ⟨(pgN 0 (show (["_law_to", "_law_block"] : List Str).Nodup by decide +kernel)), cI, fun D => bG rfl (cS rfl (CmpScope.ofB (Nc := ["_law_row", "_law_to"]) (vars := ["_law_row"]) (caps := [0]) rfl (by decide +kernel) (by rfl) (by rfl) (by rfl)) (bT (ad 1 (pv 1))) (fun cl C fp s H => ⟨(pgN 0 (show (["_law_row", "_law_to"] : List Str).Nodup by decide +kernel)), cI, fun D => bG rfl (ci aX cm (ad 0 (pv 0)) (ad 1 (pv 1))) rfl⟩) bi bt (fun D => bS)) rfl⟩) bi bt (fun D => bS))))
theorem o0 : FnScope ["_law_grid"] ["_law_grid"] (aj kx) := ⟨rfl, rfl, rfl, by decide +kernel, rfl, by decide +kernel, by decide +kernel⟩
noncomputable def kC (K : PySem.W.Frag) (a : Ad) : G :=
  aE (aT 1 [] (ba (aa 0)) (tgC 0) (fun _ => M.ret true) (cEm (aq cr (ae (aa 0) (ah)))))
noncomputable def m_l_rowsums (K : PySem.W.Frag) (a : Ad) : List D -> M D := aK 1 (kC K a)
theorem jM (N : Fns K mg a) : FnOk P w K mg base (CXE P w) 2 a.f_l_rowsums a.d_l_rowsums ["_law_grid"] (spF K 1 (m_l_rowsums K a)) := by
 unfold m_l_rowsums
 exact bq (k := 1) 1 1 (kC K a) N.F_l_rowsums o0 rfl rfl fun cdv A outer s H E hr => ao (aM (aB (cS rfl (CmpScope.ofB (Nc := ["_law_row"]) (vars := ["_law_row"]) (caps := []) rfl (by decide +kernel) (by rfl) (by rfl) (by rfl)) (bT (ad 0 (pv 0))) (fun cl C fp s H => ⟨(pgN 0 (show (["_law_row"] : List Str).Nodup by decide +kernel)), cI, fun D => bG rfl (aF (bH rfl) di (by rfl) N.n_sum PyProof.Rows.Boot.«sum» (ac (ad 0 (pv 0)) (ag))) rfl⟩) bi bt (fun D => bS))))
theorem lh : FnScope ["_law_grid"] ["_law_grid"] (aj iq) := ⟨rfl, rfl, rfl, by decide +kernel, rfl, by decide +kernel, by decide +kernel⟩
noncomputable def iD (K : PySem.W.Frag) (a : Ad) : G :=
  aE (aT 1 [] (ba (au (m_l_turned K a) (ae (aa 0) (ah)))) (tgC 0) (fun _ => M.ret true) (cEm (aq cr (ae (aa 0) (ah)))))
noncomputable def m_l_columnsums (K : PySem.W.Frag) (a : Ad) : List D -> M D := aK 1 (iD K a)
theorem g6 (N : Fns K mg a) : FnOk P w K mg base (CXE P w) 3 a.f_l_columnsums a.d_l_columnsums ["_law_grid"] (spF K 1 (m_l_columnsums K a)) := by
 have G_l_turned := kz (P := P) (w := w) (base := base) N
 unfold m_l_columnsums
 exact bq (k := 2) 1 1 (iD K a) N.F_l_columnsums lh rfl rfl fun cdv A outer s H E hr => ao (aM (aB (cS rfl (CmpScope.ofB (Nc := ["_law_column"]) (vars := ["_law_column"]) (caps := []) rfl (by decide +kernel) (by rfl) (by rfl) (by rfl)) (bT (ax G_l_turned (hr.mono (by decide)) (by rfl) N.m_l_turned N.F_l_turned.kp N.b_l_turned aC (ac (ad 0 (pv 0)) (ag)) (af aN0))) (fun cl C fp s H => ⟨(pgN 0 (show (["_law_column"] : List Str).Nodup by decide +kernel)), cI, fun D => bG rfl (aF (bH rfl) di (by rfl) N.n_sum PyProof.Rows.Boot.«sum» (ac (ad 0 (pv 0)) (ag))) rfl⟩) bi bt (fun D => bS))))
theorem p0 : FnScope ["_law_block"] ["_law_block"] (aj lr) := ⟨rfl, rfl, rfl, by decide +kernel, rfl, by decide +kernel, by decide +kernel⟩
noncomputable def l7 (K : PySem.W.Frag) (a : Ad) : G :=
  aE (aT 1 [] (ba (aa 0)) (tgC 0) (fun _ => M.ret true) (cEm (aq kf (ae (aa 0) (ah)))))
noncomputable def m_l_copied (K : PySem.W.Frag) (a : Ad) : List D -> M D := aK 1 (l7 K a)
theorem qf (N : Fns K mg a) : FnOk P w K mg base (CXE P w) 2 a.f_l_copied a.d_l_copied ["_law_block"] (spF K 1 (m_l_copied K a)) := by
 unfold m_l_copied
 exact bq (k := 1) 1 1 (l7 K a) N.F_l_copied p0 rfl rfl fun cdv A outer s H E hr => ao (aM (aB (cS rfl (CmpScope.ofB (Nc := ["_law_row"]) (vars := ["_law_row"]) (caps := []) rfl (by decide +kernel) (by rfl) (by rfl) (by rfl)) (bT (ad 0 (pv 0))) (fun cl C fp s H => ⟨(pgN 0 (show (["_law_row"] : List Str).Nodup by decide +kernel)), cI, fun D => bG rfl (fe eU lR (by rfl) N.n_list PyProof.Rows.Boot.«list» (ac (ad 0 (pv 0)) (ag))) rfl⟩) bi bt (fun D => bS))))
theorem dG : FnScope ["_law_lot", "_law_found", "_law_k"] ["_law_lot"] (aj jq) := ⟨rfl, rfl, rfl, by decide +kernel, rfl, by decide +kernel, by decide +kernel⟩
noncomputable def f7 (K : PySem.W.Frag) (a : Ad) : G :=
  ai (aG 1 (fC (.int 1)))
  (ai (bQ (bD mx (ae (fC (.int 2)) (ae (f2 eY (aa 0) (fC (.int 1))) (ah)))) (sgN 2) (aG 1 (f2 bb (aa 1) (aa 2))))
  (aE (aa 1)))
noncomputable def m_l_factorial (K : PySem.W.Frag) (a : Ad) : List D -> M D := aK 3 (f7 K a)
theorem mF (N : Fns K mg a) : FnOk P w K mg base (CXE P w) 2 a.f_l_factorial a.d_l_factorial ["_law_lot"] (spF K 1 (m_l_factorial K a)) := by
 unfold m_l_factorial
 exact bq (k := 1) 1 3 (f7 K a) N.F_l_factorial dG rfl rfl fun cdv A outer s H E hr => ak (aL (psS 1 dG.nd (aD)))
   (ak (bJ aR (bu bY rfl (pG (by rfl) N.n_range (ac (aD) (ac (aO cc fJ (ad 0 (pv 0)) (aD)) (ag)))) (pgN 2 dG.nd) (ao (aL (psS 1 dG.nd (aO bh bK (ad 1 (pv 1)) (ad 2 (pv 2))))))))
   (ao (aM (aB (ad 1 (pv 1))))))
theorem gR : FnScope ["_law_parts", "_law_under", "_law_part"] ["_law_parts"] (aj o3) := ⟨rfl, rfl, rfl, by decide +kernel, rfl, by decide +kernel, by decide +kernel⟩
noncomputable def kL (K : PySem.W.Frag) (a : Ad) : G :=
  ai (aG 1 (fC (.int 1)))
  (ai (bQ (ba (aa 0)) (sgN 2) (aG 1 (f2 bb (aa 1) (au (m_l_factorial K a) (ae (aa 2) (ah))))))
  (aE (f2 eS (au (m_l_factorial K a) (ae (aq cr (ae (aa 0) (ah))) (ah))) (aa 1))))
noncomputable def m_l_ways (K : PySem.W.Frag) (a : Ad) : List D -> M D := aK 3 (kL K a)
theorem ua (N : Fns K mg a) : FnOk P w K mg base (CXE P w) 3 a.f_l_ways a.d_l_ways ["_law_parts"] (spF K 1 (m_l_ways K a)) := by
 have G_l_factorial := mF (P := P) (w := w) (base := base) N
 unfold m_l_ways
 exact bq (k := 2) 1 3 (kL K a) N.F_l_ways gR rfl rfl fun cdv A outer s H E hr => ak (aL (psS 1 gR.nd (aD)))
   (ak (bJ aR (bu bY rfl (bT (ad 0 (pv 0))) (pgN 2 gR.nd) (ao (aL (psS 1 gR.nd (aO bh bK (ad 1 (pv 1)) (ax G_l_factorial (hr.mono (by decide)) (by rfl) N.m_l_factorial N.F_l_factorial.kp N.b_l_factorial aC (ac (ad 2 (pv 2)) (ag)) (af aN0))))))))
   (ao (aM (aB (aO gF jQ (ax G_l_factorial (hr.mono (by decide)) (by rfl) N.m_l_factorial N.F_l_factorial.kp N.b_l_factorial aC (ac (aF (bH rfl) di (by rfl) N.n_sum PyProof.Rows.Boot.«sum» (ac (ad 0 (pv 0)) (ag))) (ag)) (af aN0)) (ad 1 (pv 1)))))))
theorem fG : FnScope ["_law_columns", "_law_found", "_law_column"] ["_law_columns"] (aj lm) := ⟨rfl, rfl, rfl, by decide +kernel, rfl, by decide +kernel, by decide +kernel⟩
noncomputable def jf (K : PySem.W.Frag) (a : Ad) : G :=
  ai (aG 1 (fC (.int 1)))
  (ai (bQ (ba (aa 0)) (sgN 2) (aG 1 (f2 bb (aa 1) (au (m_l_ways K a) (ae (aa 2) (ah))))))
  (aE (aa 1)))
noncomputable def m_l_weight (K : PySem.W.Frag) (a : Ad) : List D -> M D := aK 3 (jf K a)
theorem qd (N : Fns K mg a) : FnOk P w K mg base (CXE P w) 4 a.f_l_weight a.d_l_weight ["_law_columns"] (spF K 1 (m_l_weight K a)) := by
 have G_l_ways := ua (P := P) (w := w) (base := base) N
 unfold m_l_weight
 exact bq (k := 3) 1 3 (jf K a) N.F_l_weight fG rfl rfl fun cdv A outer s H E hr => ak (aL (psS 1 fG.nd (aD)))
   (ak (bJ aR (bu bY rfl (bT (ad 0 (pv 0))) (pgN 2 fG.nd) (ao (aL (psS 1 fG.nd (aO bh bK (ad 1 (pv 1)) (ax G_l_ways (hr.mono (by decide)) (by rfl) N.m_l_ways N.F_l_ways.kp N.b_l_ways aC (ac (ad 2 (pv 2)) (ag)) (af aN0))))))))
   (ao (aM (aB (ad 1 (pv 1))))))
theorem iW : FnScope ["_law_one", "_law_other", "_law_kept"] ["_law_one", "_law_other"] (aj qq) := ⟨rfl, rfl, rfl, by decide +kernel, rfl, by decide +kernel, by decide +kernel⟩
noncomputable def mP (K : PySem.W.Frag) (a : Ad) : G :=
  ai (gWh (fB (f2 (gtD) (aa 1) (fC (.int 0)))) (ai (aG 2 (f2 kI (aa 0) (aa 1)))
  (ai (aG 0 (aa 1))
  (aG 1 (aa 2)))))
  (aE (aa 0))
noncomputable def m_l_gcd (K : PySem.W.Frag) (a : Ad) : List D -> M D := aK 3 (mP K a)
theorem vp (N : Fns K mg a) : FnOk P w K mg base (CXE P w) 2 a.f_l_gcd a.d_l_gcd ["_law_one", "_law_other"] (spF K 2 (m_l_gcd K a)) := by
 unfold m_l_gcd
 exact bq (k := 1) 2 3 (mP K a) N.F_l_gcd iW rfl rfl fun cdv A outer s H E hr => ak (qm bY (aW i5 kK (ad 1 (pv 1)) (aD)) (ak (aL (psS 2 iW.nd (aO gE yH (ad 0 (pv 0)) (ad 1 (pv 1)))))
   (ak (aL (psS 0 iW.nd (ad 1 (pv 1))))
   (ao (aL (psS 1 iW.nd (ad 2 (pv 2))))))))
   (ao (aM (aB (ad 0 (pv 0)))))
theorem tQ : FnScope ["_law_bag_here"] ["_law_bag_here"] (aj o6) := ⟨rfl, rfl, rfl, by decide +kernel, rfl, by decide +kernel, by decide +kernel⟩
noncomputable def kN (K : PySem.W.Frag) (a : Ad) : G :=
  aE (f2 ixD (aq dU (ae (fC (.str (Str.ofString "rare"))) (ae (fC (.str (Str.ofString "square"))) (ae (fC (.str (Str.ofString "power"))) (ae (fC (.str (Str.ofString "off"))) (ae (fC (.str (Str.ofString "most"))) (ae (fC (.str (Str.ofString "least"))) (ah)))))))) (au cG (ae (aa 0) (ae (fC (.int 6)) (ah)))))
noncomputable def m_l_kind (K : PySem.W.Frag) (a : Ad) : List D -> M D := aK 1 (kN K a)
theorem uc (N : Fns K mg a) : FnOk P w K mg base (CXE P w) 3 a.f_l_kind a.d_l_kind ["_law_bag_here"] (spF K 1 (m_l_kind K a)) := by
 have G_l_pull := g0 (P := P) (w := w) (base := base) N
 unfold m_l_kind
 exact bq (k := 2) 1 1 (kN K a) N.F_l_kind tQ rfl rfl fun cdv A outer s H E hr => ao (aM (aB (ci aX cm (yq (ac (bR) (ac (bR) (ac (bR) (ac (bR) (ac (bR) (ac (bR) (ag)))))))) (ax G_l_pull (hr.mono (by decide)) (by rfl) N.m_l_pull N.F_l_pull.kp N.b_l_pull aC (ac (ad 0 (pv 0)) (ac (aD) (ag))) (af (af aN0))))))
theorem lf : FnScope ["_law_bag_here", "_law_grid", "_law_at"] ["_law_bag_here", "_law_grid"] (aj np) := ⟨rfl, rfl, rfl, by decide +kernel, rfl, by decide +kernel, by decide +kernel⟩
noncomputable def jX (K : PySem.W.Frag) (a : Ad) : G :=
  ai (aG 2 (au cG (ae (aa 0) (ae (aq bE (ae (aa 1) (ah))) (ah)))))
  (aE (aq cu (ae (aa 2) (ae (au cG (ae (aa 0) (ae (aq bE (ae (f2 ixD (aa 1) (fC (.int 0))) (ah))) (ah)))) (ah)))))
noncomputable def m_l_place (K : PySem.W.Frag) (a : Ad) : List D -> M D := aK 3 (jX K a)
theorem rC (N : Fns K mg a) : FnOk P w K mg base (CXE P w) 3 a.f_l_place a.d_l_place ["_law_bag_here", "_law_grid"] (spF K 2 (m_l_place K a)) := by
 have G_l_pull := g0 (P := P) (w := w) (base := base) N
 unfold m_l_place
 exact bq (k := 2) 2 3 (jX K a) N.F_l_place lf rfl rfl fun cdv A outer s H E hr => ak (aL (psS 2 lf.nd (ax G_l_pull (hr.mono (by decide)) (by rfl) N.m_l_pull N.F_l_pull.kp N.b_l_pull aC (ac (ad 0 (pv 0)) (ac (aF aY dY (by rfl) N.n_len PySem.boot_len (ac (ad 1 (pv 1)) (ag))) (ag))) (af (af aN0)))))
   (ao (aM (aB (j6 (ac (ad 2 (pv 2)) (ac (ax G_l_pull (hr.mono (by decide)) (by rfl) N.m_l_pull N.F_l_pull.kp N.b_l_pull aC (ac (ad 0 (pv 0)) (ac (aF aY dY (by rfl) N.n_len PySem.boot_len (ac (ci aX cm (ad 1 (pv 1)) (aD)) (ag))) (ag))) (af (af aN0))) (ag)))))))
theorem ei : FnScope ["_law_rowsums_here", "_law_columnsums_here", "_law_found", "_law_one", "_law_other", "_law_both"] ["_law_rowsums_here", "_law_columnsums_here"] (aj o7) := ⟨rfl, rfl, rfl, by decide +kernel, rfl, by decide +kernel, by decide +kernel⟩
noncomputable def kO (K : PySem.W.Frag) (a : Ad) : G :=
  ai (aG 2 (fC (.int 1)))
  (ai (bQ (ba (aa 0)) (sgN 3) (bQ (ba (aa 1)) (sgN 4) (ai (aG 5 (f2 bb (aa 3) (aa 4)))
  (gIf (fB (f2 (gtD) (aa 5) (fC (.int 0)))) (aG 2 (f2 eS (f2 bb (aa 2) (aa 5)) (au (m_l_gcd K a) (ae (aa 2) (ae (aa 5) (ah)))))) (gNil)))))
  (aE (aa 2)))
noncomputable def m_l_even (K : PySem.W.Frag) (a : Ad) : List D -> M D := aK 6 (kO K a)
theorem ud (N : Fns K mg a) : FnOk P w K mg base (CXE P w) 3 a.f_l_even a.d_l_even ["_law_rowsums_here", "_law_columnsums_here"] (spF K 2 (m_l_even K a)) := by
 have G_l_gcd := vp (P := P) (w := w) (base := base) N
 unfold m_l_even
 exact bq (k := 2) 2 6 (kO K a) N.F_l_even ei rfl rfl fun cdv A outer s H E hr => ak (aL (psS 2 ei.nd (aD)))
   (ak (bJ aR (bu bY rfl (bT (ad 0 (pv 0))) (pgN 3 ei.nd) (ao (bJ aR (bu bY rfl (bT (ad 1 (pv 1))) (pgN 4 ei.nd) (ak (aL (psS 5 ei.nd (aO bh bK (ad 3 (pv 3)) (ad 4 (pv 4)))))
   (ao (bw (aW i5 kK (ad 5 (pv 5)) (aD)) (ao (aL (psS 2 ei.nd (aO gF jQ (aO bh bK (ad 2 (pv 2)) (ad 5 (pv 5))) (ax G_l_gcd (hr.mono (by decide)) (by rfl) N.m_l_gcd N.F_l_gcd.kp N.b_l_gcd aC (ac (ad 2 (pv 2)) (ac (ad 5 (pv 5)) (ag))) (af (af aN0))))))) (aZ)))))))))
   (ao (aM (aB (ad 2 (pv 2))))))
theorem dn : FnScope ["_law_count", "_law_found", "_law_k"] ["_law_count"] (aj io) := ⟨rfl, rfl, rfl, by decide +kernel, rfl, by decide +kernel, by decide +kernel⟩
noncomputable def fw (K : PySem.W.Frag) (a : Ad) : G :=
  ai (aG 1 (fC (.int 1)))
  (ai (bQ (bD fX (ae (aa 0) (ah))) (sgN 2) (aG 1 (f2 bb (aa 1) (aa 0))))
  (aE (aa 1)))
noncomputable def m_l_self_power (K : PySem.W.Frag) (a : Ad) : List D -> M D := aK 3 (fw K a)
theorem lL (N : Fns K mg a) : FnOk P w K mg base (CXE P w) 2 a.f_l_self_power a.d_l_self_power ["_law_count"] (spF K 1 (m_l_self_power K a)) := by
 unfold m_l_self_power
 exact bq (k := 1) 1 3 (fw K a) N.F_l_self_power dn rfl rfl fun cdv A outer s H E hr => ak (aL (psS 1 dn.nd (aD)))
   (ak (bJ aR (bu bY rfl (d6 (by rfl) N.n_range (ac (ad 0 (pv 0)) (ag))) (pgN 2 dn.nd) (ao (aL (psS 1 dn.nd (aO bh bK (ad 1 (pv 1)) (ad 0 (pv 0))))))))
   (ao (aM (aB (ad 1 (pv 1))))))
theorem bP : FnScope ["_law_rowsums_here", "_law_columnsums_here", "_law_columns", "_law_even_here", "_law_found", "_law_to", "_law_column", "_law_at", "_law_count", "_law_both"] ["_law_rowsums_here", "_law_columnsums_here", "_law_columns"] (aj lq) := ⟨rfl, rfl, rfl, by decide +kernel, rfl, by decide +kernel, by decide +kernel⟩
noncomputable def jg (K : PySem.W.Frag) (a : Ad) : G :=
  ai (aG 3 (au (m_l_even K a) (ae (aa 0) (ae (aa 1) (ah)))))
  (ai (aG 4 (fC (.int 0)))
  (ai (bQ (i7 (ae (aa 2) (ah))) (sgT (cT (sgN 5) (cT (sgN 6) eC))) (bQ (i7 (ae (aa 6) (ah))) (sgT (cT (sgN 7) (cT (sgN 8) eC))) (ai (aG 9 (f2 bb (f2 ixD (aa 0) (aa 7)) (f2 ixD (aa 1) (aa 5))))
  (gIf (fB (f2 (gtD) (aa 9) (fC (.int 0)))) (aG 4 (f2 eY (aa 4) (f2 eS (f2 bb (f2 bb (aa 8) (aa 8)) (aa 3)) (aa 9)))) (gNil)))))
  (aE (aa 4))))
noncomputable def m_l_square (K : PySem.W.Frag) (a : Ad) : List D -> M D := aK 10 (jg K a)
theorem qe (N : Fns K mg a) : FnOk P w K mg base (CXE P w) 4 a.f_l_square a.d_l_square ["_law_rowsums_here", "_law_columnsums_here", "_law_columns"] (spF K 3 (m_l_square K a)) := by
 have G_l_even := ud (P := P) (w := w) (base := base) N
 unfold m_l_square
 exact bq (k := 3) 3 10 (jg K a) N.F_l_square bP rfl rfl fun cdv A outer s H E hr => ak (aL (psS 3 bP.nd (ax G_l_even (hr.mono (by decide)) (by rfl) N.m_l_even N.F_l_even.kp N.b_l_even aC (ac (ad 0 (pv 0)) (ac (ad 1 (pv 1)) (ag))) (af (af aN0)))))
   (ak (aL (psS 4 bP.nd (aD)))
   (ak (bJ (ix (bX aR (bX aR gu)) (bV (bV fj))) (bu bY rfl (iC (by rfl) N.n_enumerate (ac (ad 2 (pv 2)) (ag))) (eF rfl (bp (pgN 5 bP.nd) (bp (pgN 6 bP.nd) dJ))) (ao (bJ (ix (bX aR (bX aR gu)) (bV (bV fj))) (bu bY rfl (iC (by rfl) N.n_enumerate (ac (ad 6 (pv 6)) (ag))) (eF rfl (bp (pgN 7 bP.nd) (bp (pgN 8 bP.nd) dJ))) (ak (aL (psS 9 bP.nd (aO bh bK (ci aX cm (ad 0 (pv 0)) (ad 7 (pv 7))) (ci aX cm (ad 1 (pv 1)) (ad 5 (pv 5))))))
   (ao (bw (aW i5 kK (ad 9 (pv 9)) (aD)) (ao (aL (psS 4 bP.nd (aO cc fJ (ad 4 (pv 4)) (aO gF jQ (aO bh bK (aO bh bK (ad 8 (pv 8)) (ad 8 (pv 8))) (ad 3 (pv 3))) (ad 9 (pv 9))))))) (aZ)))))))))
   (ao (aM (aB (ad 4 (pv 4)))))))
theorem c7 : FnScope ["_law_rowsums_here", "_law_columnsums_here", "_law_columns", "_law_found", "_law_whole", "_law_to", "_law_column", "_law_at", "_law_count", "_law_both"] ["_law_rowsums_here", "_law_columnsums_here", "_law_columns"] (aj qp) := ⟨rfl, rfl, rfl, by decide +kernel, rfl, by decide +kernel, by decide +kernel⟩
noncomputable def mO (K : PySem.W.Frag) (a : Ad) : G :=
  ai (aG 3 (fC (.int 0)))
  (ai (aG 4 (aq cr (ae (aa 0) (ah))))
  (ai (bQ (i7 (ae (aa 2) (ah))) (sgT (cT (sgN 5) (cT (sgN 6) eC))) (bQ (i7 (ae (aa 6) (ah))) (sgT (cT (sgN 7) (cT (sgN 8) eC))) (ai (aG 9 (f2 bb (f2 ixD (aa 0) (aa 7)) (f2 ixD (aa 1) (aa 5))))
  (aG 3 (f2 eY (aa 3) (aq f9 (ae (f2 iS (f2 bb (aa 8) (aa 4)) (aa 9)) (ah))))))))
  (aE (aa 3))))
noncomputable def m_l_off (K : PySem.W.Frag) (a : Ad) : List D -> M D := aK 10 (mO K a)
theorem vo (N : Fns K mg a) : FnOk P w K mg base (CXE P w) 2 a.f_l_off a.d_l_off ["_law_rowsums_here", "_law_columnsums_here", "_law_columns"] (spF K 3 (m_l_off K a)) := by
 unfold m_l_off
 exact bq (k := 1) 3 10 (mO K a) N.F_l_off c7 rfl rfl fun cdv A outer s H E hr => ak (aL (psS 3 c7.nd (aD)))
   (ak (aL (psS 4 c7.nd (aF (bH rfl) di (by rfl) N.n_sum PyProof.Rows.Boot.«sum» (ac (ad 0 (pv 0)) (ag)))))
   (ak (bJ (ix (bX aR (bX aR gu)) (bV (bV fj))) (bu bY rfl (iC (by rfl) N.n_enumerate (ac (ad 2 (pv 2)) (ag))) (eF rfl (bp (pgN 5 c7.nd) (bp (pgN 6 c7.nd) dJ))) (ao (bJ (ix (bX aR (bX aR gu)) (bV (bV fj))) (bu bY rfl (iC (by rfl) N.n_enumerate (ac (ad 6 (pv 6)) (ag))) (eF rfl (bp (pgN 7 c7.nd) (bp (pgN 8 c7.nd) dJ))) (ak (aL (psS 9 c7.nd (aO bh bK (ci aX cm (ad 0 (pv 0)) (ad 7 (pv 7))) (ci aX cm (ad 1 (pv 1)) (ad 5 (pv 5))))))
   (ao (aL (psS 3 c7.nd (aO cc fJ (ad 3 (pv 3)) (aF kR yL (by rfl) N.n_abs PyProof.Rows.Boot.«abs» (ac (aO jK lQ (aO bh bK (ad 8 (pv 8)) (ad 4 (pv 4))) (ad 9 (pv 9))) (ag)))))))))))))
   (ao (aM (aB (ad 3 (pv 3)))))))
theorem eD : FnScope ["_law_kind_here", "_law_rowsums_here", "_law_columnsums_here", "_law_where", "_law_columns", "_law_found", "_law_column", "_law_count"] ["_law_kind_here", "_law_rowsums_here", "_law_columnsums_here", "_law_where", "_law_columns"] (aj nk) := ⟨rfl, rfl, rfl, by decide +kernel, rfl, by decide +kernel, by decide +kernel⟩
noncomputable def jU (K : PySem.W.Frag) (a : Ad) : G :=
  ai (gIf (fB (f2 (cN) (aa 0) (fC (.str (Str.ofString "rare"))))) (aE (au (m_l_weight K a) (ae (aa 4) (ah)))) (gNil))
  (ai (gIf (fB (f2 (cN) (aa 0) (fC (.str (Str.ofString "square"))))) (aE (au (m_l_square K a) (ae (aa 1) (ae (aa 2) (ae (aa 4) (ah)))))) (gNil))
  (ai (gIf (fB (f2 (cN) (aa 0) (fC (.str (Str.ofString "off"))))) (aE (au (m_l_off K a) (ae (aa 1) (ae (aa 2) (ae (aa 4) (ah)))))) (gNil))
  (ai (gIf (fB (f2 (cy) (aa 0) (fC (.str (Str.ofString "power"))))) (aE (f2 ixD (f2 ixD (aa 4) (f2 ixD (aa 3) (fC (.int 1)))) (f2 ixD (aa 3) (fC (.int 0))))) (gNil))
  (ai (aG 5 (fC (.int 1)))
  (ai (bQ (ba (aa 4)) (sgN 6) (bQ (ba (aa 6)) (sgN 7) (aG 5 (f2 bb (aa 5) (au (m_l_self_power K a) (ae (aa 7) (ah)))))))
  (aE (aa 5)))))))
noncomputable def m_l_value (K : PySem.W.Frag) (a : Ad) : List D -> M D := aK 8 (jU K a)
theorem rA (N : Fns K mg a) : FnOk P w K mg base (CXE P w) 5 a.f_l_value a.d_l_value ["_law_kind_here", "_law_rowsums_here", "_law_columnsums_here", "_law_where", "_law_columns"] (spF K 5 (m_l_value K a)) := by
 have G_l_weight := qd (P := P) (w := w) (base := base) N
 have G_l_square := qe (P := P) (w := w) (base := base) N
 have G_l_off := vo (P := P) (w := w) (base := base) N
 have G_l_self_power := lL (P := P) (w := w) (base := base) N
 unfold m_l_value
 exact bq (k := 4) 5 8 (jU K a) N.F_l_value eD rfl rfl fun cdv A outer s H E hr => ak (bw (aW (eG hr) gm (ad 0 (pv 0)) (bR)) (ao (aM (aB (ax G_l_weight (hr.mono (by decide)) (by rfl) N.m_l_weight N.F_l_weight.kp N.b_l_weight aC (ac (ad 4 (pv 4)) (ag)) (af aN0))))) (aZ))
   (ak (bw (aW (eG hr) gm (ad 0 (pv 0)) (bR)) (ao (aM (aB (ax G_l_square (hr.mono (by decide)) (by rfl) N.m_l_square N.F_l_square.kp N.b_l_square aC (ac (ad 1 (pv 1)) (ac (ad 2 (pv 2)) (ac (ad 4 (pv 4)) (ag)))) (af (af (af aN0))))))) (aZ))
   (ak (bw (aW (eG hr) gm (ad 0 (pv 0)) (bR)) (ao (aM (aB (ax G_l_off (hr.mono (by decide)) (by rfl) N.m_l_off N.F_l_off.kp N.b_l_off aC (ac (ad 1 (pv 1)) (ac (ad 2 (pv 2)) (ac (ad 4 (pv 4)) (ag)))) (af (af (af aN0))))))) (aZ))
   (ak (bw (aW (fU hr) hW (ad 0 (pv 0)) (bR)) (ao (aM (aB (ci aX cm (ci aX cm (ad 4 (pv 4)) (ci aX cm (ad 3 (pv 3)) (aD))) (ci aX cm (ad 3 (pv 3)) (aD)))))) (aZ))
   (ak (aL (psS 5 eD.nd (aD)))
   (ak (bJ aR (bu bY rfl (bT (ad 4 (pv 4))) (pgN 6 eD.nd) (ao (bJ aR (bu bY rfl (bT (ad 6 (pv 6))) (pgN 7 eD.nd) (ao (aL (psS 5 eD.nd (aO bh bK (ad 5 (pv 5)) (ax G_l_self_power (hr.mono (by decide)) (by rfl) N.m_l_self_power N.F_l_self_power.kp N.b_l_self_power aC (ac (ad 7 (pv 7)) (ag)) (af aN0)))))))))))
   (ao (aM (aB (ad 5 (pv 5))))))))))
theorem p7 : FnScope ["_law_kind_here", "_law_value_here", "_law_seen"] ["_law_kind_here", "_law_value_here", "_law_seen"] (aj ls) := ⟨rfl, rfl, rfl, by decide +kernel, rfl, by decide +kernel, by decide +kernel⟩
noncomputable def jh (K : PySem.W.Frag) (a : Ad) : G :=
  ai (gIf (fB (f2 (inD false) (aa 0) (aq cu (ae (fC (.str (Str.ofString "rare"))) (ae (fC (.str (Str.ofString "least"))) (ah)))))) (aE (f2 (leD) (aa 1) (aa 2))) (gNil))
  (aE (f2 (geD) (aa 1) (aa 2)))
noncomputable def m_l_beyond (K : PySem.W.Frag) (a : Ad) : List D -> M D := aK 3 (jh K a)
theorem qg (N : Fns K mg a) : FnOk P w K mg base (CXE P w) 2 a.f_l_beyond a.d_l_beyond ["_law_kind_here", "_law_value_here", "_law_seen"] (spF K 3 (m_l_beyond K a)) := by
 unfold m_l_beyond
 exact bq (k := 1) 3 3 (jh K a) N.F_l_beyond p7 rfl rfl fun cdv A outer s H E hr => ak (bw (aW cZ (ia (neg := false)) (ad 0 (pv 0)) (j6 (ac (bR) (ac (bR) (ag))))) (ao (aM (aB (fF i0 kJ (ad 1 (pv 1)) (ad 2 (pv 2)))))) (aZ))
   (ao (aM (aB (fF rp Bb (ad 1 (pv 1)) (ad 2 (pv 2))))))
theorem jw : FnScope ["self", "kind", "rowsums", "columnsums", "place"] ["self", "kind", "rowsums", "columnsums", "place"] (aj fR) := ⟨rfl, rfl, rfl, by decide +kernel, rfl, by decide +kernel, by decide +kernel⟩
noncomputable def lV (K : PySem.W.Frag) (a : Ad) : IP :=
  i9 (dz (au (m_check_sums K a) (ae (aa 2) (ae (aa 3) (ah)))))
  (i9 (gIf (fB (f2 (inD true) (aa 1) (fC (.tup [.str (Str.ofString "rare"), .str (Str.ofString "square"), .str (Str.ofString "power"), .str (Str.ofString "off"), .str (Str.ofString "most"), .str (Str.ofString "least")])))) (bN a.C_BadRule (ae (cP (yN (aa 1) (dy))) (ah))) (gNil))
  (i9 (gIf (fB (f2 (inD false) (aa 1) (fC (.tup [.str (Str.ofString "most"), .str (Str.ofString "least")])))) (dz (au (m_check_cell K a) (ae (f2 ixD (aa 4) (fC (.int 0))) (ae (f2 ixD (aa 4) (fC (.int 1))) (ae (aq bE (ae (aa 2) (ah))) (ae (aq bE (ae (aa 3) (ah))) (ah))))))) (gNil))
  (gp (aa 1)
  (gp (aq kf (ae (aa 2) (ah)))
  (gp (aq kf (ae (aa 3) (ah)))
  (gp (aa 4)
  (gp (au (m_least_common K a) (ae (aT 2 [3] (ba (aa 2)) (tgC 0) (fun _ => M.ret true) (cNx (ba (aa 2)) (tgC 1) (fB (f2 (gtD) (f2 bb (aa 0) (aa 1)) (fC (.int 0)))) (cEm (f2 bb (aa 0) (aa 1))))) (ah)))
  (yQ))))))))
noncomputable def gi (K : PySem.W.Frag) (a : Ad) : List D -> M (List D) := kh 5 (lV K a)
theorem qb (N : Fns K mg a) : FnOk P w K mg base (CXE P w) 6 a.f_Measure___init__ a.d_Measure___init__ ["self", "kind", "rowsums", "columnsums", "place"] (spI K a.C_Measure ["kind", "row_list", "column_list", "place", "even"] 4 (gi K a)) := by
 have G_least_common := lK (P := P) (w := w) (base := base) N
 have G_check_cell := n5 (P := P) (w := w) (base := base) N
 have G_check_sums := nZ (P := P) (w := w) (base := base) N
 have X_BadRule := p9 (P := P) (w := w) (base := base) N
 unfold gi
 exact zZ (k := 5) 4 5 (lV K a) N.F_Measure___init__ jw rfl rfl fun cdv A outer s H E hr => rO (lu (dI (ax G_check_sums (hr.mono (by decide)) (by rfl) N.m_check_sums N.F_check_sums.kp N.b_check_sums aC (ac (ad 2 (pv 2)) (ac (ad 3 (pv 3)) (ag))) (af (af aN0)))))
   (rO (bw (aW jL (ia (neg := true)) (ad 1 (pv 1)) (gt N.g_KINDS)) (ao (em N.xm_BadRule.xc (af aN0) (by decide) (dB hr.hd (fS N.xm_BadRule X_BadRule (hr.mono (by decide)) rfl N.m_BadRule N.b_BadRule .nil dr (ac (gz (c := ((Str.ofString "there is no measure ").length + (100 + 0))) (dL (Ep (ad 1 (pv 1)) (i8))) (by decide +kernel)) (ag)))))) (aZ))
   (rO (bw (aW cZ (ia (neg := false)) (ad 1 (pv 1)) (gt N.g_BY_PLACE)) (ao (lu (dI (ax G_check_cell (hr.mono (by decide)) (by rfl) N.m_check_cell N.F_check_cell.kp N.b_check_cell aC (ac (ci aX cm (ad 4 (pv 4)) (aD)) (ac (ci aX cm (ad 4 (pv 4)) (aD)) (ac (aF aY dY (by rfl) N.n_len PySem.boot_len (ac (ad 2 (pv 2)) (ag))) (ac (aF aY dY (by rfl) N.n_len PySem.boot_len (ac (ad 3 (pv 3)) (ag))) (ag))))) (af (af (af (af aN0)))))))) (aZ))
   (lY N.cl_Measure N.na_Measure_kind (by decide) (by decide) (jH (pv 0) (ad 1 (pv 1)) rfl)
   (lY N.cl_Measure N.na_Measure_row_list (by decide) (by decide) (jH (pv 0) (fe eU lR (by rfl) N.n_list PyProof.Rows.Boot.«list» (ac (ad 2 (pv 2)) (ag))) rfl)
   (lY N.cl_Measure N.na_Measure_column_list (by decide) (by decide) (jH (pv 0) (fe eU lR (by rfl) N.n_list PyProof.Rows.Boot.«list» (ac (ad 3 (pv 3)) (ag))) rfl)
   (lY N.cl_Measure N.na_Measure_place (by decide) (by decide) (jH (pv 0) (ad 4 (pv 4)) rfl)
   (lY N.cl_Measure N.na_Measure_even (by decide) (by decide) (jH (pv 0) (ax G_least_common (hr.mono (by decide)) (by rfl) N.m_least_common N.F_least_common.kp N.b_least_common aC (ac (cS rfl (CmpScope.ofB (Nc := ["across", "down", "columnsums"]) (vars := ["across", "down"]) (caps := [3]) rfl (by decide +kernel) (by rfl) (by rfl) (by rfl)) (bT (ad 2 (pv 2))) (fun cl C fp s H => ⟨(pgN 0 (show (["across", "down", "columnsums"] : List Str).Nodup by decide +kernel)), cI, fun D => zu rfl rfl rfl (bT (ad 2 (pv 2))) (pgN 1 (show (["across", "down", "columnsums"] : List Str).Nodup by decide +kernel)) (yS (aW i5 kK (aO bh bK (ad 0 (pv 0)) (ad 1 (pv 1))) (aD))) (bG rfl (aO bh bK (ad 0 (pv 0)) (ad 1 (pv 1))) rfl)⟩) bi bt (fun D => zL bi bt (bS))) (ag)) (af aN0)) rfl)
   (Er))))))))
theorem rf : FnScope ["_law_kind_here", "_law_grid", "_law_where"] ["_law_kind_here", "_law_grid", "_law_where"] (aj nl) := ⟨rfl, rfl, rfl, by decide +kernel, rfl, by decide +kernel, by decide +kernel⟩
noncomputable def jW (K : PySem.W.Frag) (a : Ad) : G :=
  aE (pL a.C_Measure ["kind", "row_list", "column_list", "place", "even"] (gi K a) (ae (aa 0) (ae (au (m_l_rowsums K a) (ae (aa 1) (ah))) (ae (au (m_l_columnsums K a) (ae (aa 1) (ah))) (ah)))) (ae (aa 2) (ah)) [.kw 0])
noncomputable def m_l_scale (K : PySem.W.Frag) (a : Ad) : List D -> M D := aK 3 (jW K a)
theorem rB (N : Fns K mg a) : FnOk P w K mg base (CXE P w) 8 a.f_l_scale a.d_l_scale ["_law_kind_here", "_law_grid", "_law_where"] (spF K 3 (m_l_scale K a)) := by
 have G_l_columnsums := g6 (P := P) (w := w) (base := base) N
 have G_l_rowsums := jM (P := P) (w := w) (base := base) N
 have GI_Measure := qb (P := P) (w := w) (base := base) N
 unfold m_l_scale
 exact bq (k := 7) 3 3 (jW K a) N.F_l_scale rf rfl rfl fun cdv A outer s H E hr => ao (aM (aB (y8 N.mk_Measure GI_Measure (hr.mono (by decide)) (by rfl) N.m_Measure N.kb_place_Measure___init__ aC (ac (ad 0 (pv 0)) (ac (ax G_l_rowsums (hr.mono (by decide)) (by rfl) N.m_l_rowsums N.F_l_rowsums.kp N.b_l_rowsums aC (ac (ad 1 (pv 1)) (ag)) (af aN0)) (ac (ax G_l_columnsums (hr.mono (by decide)) (by rfl) N.m_l_columnsums N.F_l_columnsums.kp N.b_l_columnsums aC (ac (ad 1 (pv 1)) (ag)) (af aN0)) (ag)))) (yZ (ad 2 (pv 2)) (Ah)) (af (af (af aN0))) (af aN0) rfl)))
theorem c8 : FnScope ["_law_bag_here", "_law_block", "_law_columns", "_law_left", "_law_utmost", "_law_grid", "_law_at", "_law_to"] ["_law_bag_here"] (aj qt) := ⟨rfl, rfl, rfl, by decide +kernel, rfl, by decide +kernel, by decide +kernel⟩
noncomputable def mQ (K : PySem.W.Frag) (a : Ad) : G :=
  ai (aG 1 (f2 eY (fC (.int 1)) (au cG (ae (aa 0) (ae (fC (.int 4)) (ah))))))
  (ai (aG 2 (f2 eY (fC (.int 1)) (au cG (ae (aa 0) (ae (fC (.int 6)) (ah))))))
  (ai (aG 3 (au cG (ae (aa 0) (ae (fC (.int 41)) (ah)))))
  (ai (aG 4 (f2 ixD (aq dU (ae (fC (.int 12)) (ae (fC (.int 12)) (ae (fC (.int 12)) (ae (fC (.int 12)) (ae (fC (.int 12)) (ae (fC (.int 40)) (ah)))))))) (au cG (ae (aa 0) (ae (fC (.int 6)) (ah))))))
  (ai (mS 5 (iF 1 [2] (bD fX (ae (aa 1) (ah))) (tgC 0) (fun _ => M.ret true) (pP (rD (ae (fC (.int 0)) (ah)) (aa 1)))))
  (ai (bQ (bD fX (ae (aa 1) (ah))) (sgN 6) (bQ (bD fX (ae (aa 2) (ah))) (sgN 7) (ai (l8 5 (aa 6) (aa 7) (au cG (ae (aa 0) (ae (f2 eY (aq pq (ae (aa 3) (ae (aa 4) (ah)))) (fC (.int 1))) (ah)))))
  (eP 3 (f2 iS (aa 3) (f2 ixD (f2 ixD (aa 5) (aa 6)) (aa 7)))))))
  (aE (aa 5)))))))
noncomputable def m_l_any (K : PySem.W.Frag) (a : Ad) : List D -> M D := aK 8 (mQ K a)
theorem vt (N : Fns K mg a) : FnOk P w K mg base (CXE P w) 3 a.f_l_any a.d_l_any ["_law_bag_here"] (spF K 1 (m_l_any K a)) := by
 have G_l_pull := g0 (P := P) (w := w) (base := base) N
 unfold m_l_any
 exact bq (k := 2) 1 8 (mQ K a) N.F_l_any c8 rfl rfl fun cdv A outer s H E hr => ak (aL (psS 1 c8.nd (aO cc fJ (aD) (ax G_l_pull (hr.mono (by decide)) (by rfl) N.m_l_pull N.F_l_pull.kp N.b_l_pull aC (ac (ad 0 (pv 0)) (ac (aD) (ag))) (af (af aN0))))))
   (ak (aL (psS 2 c8.nd (aO cc fJ (aD) (ax G_l_pull (hr.mono (by decide)) (by rfl) N.m_l_pull N.F_l_pull.kp N.b_l_pull aC (ac (ad 0 (pv 0)) (ac (aD) (ag))) (af (af aN0))))))
   (ak (aL (psS 3 c8.nd (ax G_l_pull (hr.mono (by decide)) (by rfl) N.m_l_pull N.F_l_pull.kp N.b_l_pull aC (ac (ad 0 (pv 0)) (ac (aD) (ag))) (af (af aN0)))))
   (ak (aL (psS 4 c8.nd (ci aX cm (yq (ac (aD) (ac (aD) (ac (aD) (ac (aD) (ac (aD) (ac (aD) (ag)))))))) (ax G_l_pull (hr.mono (by decide)) (by rfl) N.m_l_pull N.F_l_pull.kp N.b_l_pull aC (ac (ad 0 (pv 0)) (ac (aD) (ag))) (af (af aN0))))))
   (ak (AB (i := 5) c8.nd rfl (by first | exact Or.inl rfl | exact Or.inr rfl) rfl (CmpScope.ofB (Nc := ["_law_at", "_law_columns"]) (vars := ["_law_at"]) (caps := [2]) rfl (by decide +kernel) (by rfl) (by rfl) (by rfl)) (d6 (by rfl) N.n_range (ac (ad 1 (pv 1)) (ag))) (fun cl C fp s H => ⟨(pgN 0 (show (["_law_at", "_law_columns"] : List Str).Nodup by decide +kernel)), cI, fun D => bG rfl (Ef (ac (aD) (ag)) (ad 1 (pv 1))) rfl⟩) bi bt (fun D => zH))
   (ak (bJ aR (bu bY rfl (d6 (by rfl) N.n_range (ac (ad 1 (pv 1)) (ag))) (pgN 6 c8.nd) (ao (bJ aR (bu bY rfl (d6 (by rfl) N.n_range (ac (ad 2 (pv 2)) (ag))) (pgN 7 c8.nd) (ak (AA (lE (ax G_l_pull (hr.mono (by decide)) (by rfl) N.m_l_pull N.F_l_pull.kp N.b_l_pull aC (ac (ad 0 (pv 0)) (ac (aO cc fJ (aF (uK rfl) Ej (by rfl) N.n_min PyProof.Rows.Boot.«min» (ac (ad 3 (pv 3)) (ac (ad 4 (pv 4)) (ag)))) (aD)) (ag))) (af (af aN0))) (lF (gZ eA (pv 5) (ad 6 (pv 6)) (fun _ _ => rfl)) (ad 7 (pv 7)) iT)))
   (ao (Ay (psS 3 c8.nd (aO jK lQ (ad 3 (pv 3)) (ci aX cm (ci aX cm (ad 5 (pv 5)) (ad 6 (pv 6))) (ad 7 (pv 7)))))))))))))
   (ao (aM (aB (ad 5 (pv 5))))))))))
theorem kF : FnScope ["self"] ["self"] (aj gW) := ⟨rfl, rfl, rfl, by decide +kernel, rfl, by decide +kernel, by decide +kernel⟩
noncomputable def eN (K : PySem.W.Frag) (a : Ad) : G :=
  aE (fIf (fB (f2 (inD false) (f1 (cM a.C_Measure "kind") (aa 0)) (fC (.tup [.str (Str.ofString "rare"), .str (Str.ofString "power")])))) (fC (.int 1)) (fC (.int 0)))
noncomputable def cF (K : PySem.W.Frag) (a : Ad) : List D -> M D := aK 1 (eN K a)
theorem gG (N : Fns K mg a) : FnOk P w K mg base (CXE P w) 2 a.f_Measure_begun a.d_Measure_begun ["self"] (spF K 1 (cF K a)) := by
 unfold cF
 exact bq (k := 1) 1 1 (eN K a) N.F_Measure_begun kF rfl rfl fun cdv A outer s H E hr => ao (aM (aB (qZ (aW cZ (ia (neg := false)) (dF N.cl_Measure N.na_Measure_kind (ad 0 (pv 0))) (gt N.g_BY_PRODUCT)) (aD) (aD))))
theorem gT : FnScope ["self", "column", "counts", "products"] ["self", "column", "counts"] (aj ir) := ⟨rfl, rfl, rfl, by decide +kernel, rfl, by decide +kernel, by decide +kernel⟩
noncomputable def fA (K : PySem.W.Frag) (a : Ad) : G :=
  ai (gIf (fB (f2 (cN) (f1 (cM a.C_Measure "kind") (aa 0)) (fC (.str (Str.ofString "rare"))))) (aE (au (m_ways K a) (ae (aa 2) (ah)))) (gNil))
  (ai (gIf (fB (f2 (cN) (f1 (cM a.C_Measure "kind") (aa 0)) (fC (.str (Str.ofString "power"))))) (aE (au (m_power_part K a) (ae (aa 2) (ah)))) (gNil))
  (ai (gIf (fB (f2 (inD false) (f1 (cM a.C_Measure "kind") (aa 0)) (fC (.tup [.str (Str.ofString "most"), .str (Str.ofString "least")])))) (aE (fIf (fB (f2 (cN) (aa 1) (f2 ixD (f1 (cM a.C_Measure "place") (aa 0)) (fC (.int 1))))) (f2 ixD (aa 2) (f2 ixD (f1 (cM a.C_Measure "place") (aa 0)) (fC (.int 0)))) (fC (.int 0)))) (gNil))
  (ai (aG 3 (aT 1 [0, 1] (ba (f1 (cM a.C_Measure "row_list") (aa 0))) (tgC 0) (fun _ => M.ret true) (cEm (f2 bb (aa 0) (f2 ixD (f1 (cM a.C_Measure "column_list") (aa 1)) (aa 2))))))
  (ai (gIf (fB (f2 (cN) (f1 (cM a.C_Measure "kind") (aa 0)) (fC (.str (Str.ofString "square"))))) (aE (au (m_square_part K a) (ae (aa 2) (ae (aa 3) (ae (f1 (cM a.C_Measure "even") (aa 0)) (ah)))))) (gNil))
  (aE (au (m_off_part K a) (ae (aa 2) (ae (aa 3) (ae (aq cr (ae (f1 (cM a.C_Measure "row_list") (aa 0)) (ah))) (ah))))))))))
noncomputable def cf (K : PySem.W.Frag) (a : Ad) : List D -> M D := aK 4 (fA K a)
theorem g9 (N : Fns K mg a) : FnOk P w K mg base (CXE P w) 5 a.f_Measure_part a.d_Measure_part ["self", "column", "counts"] (spF K 3 (cf K a)) := by
 have G_ways := zA (P := P) (w := w) (base := base) N
 have G_power_part := nY (P := P) (w := w) (base := base) N
 have G_square_part := mC (P := P) (w := w) (base := base) N
 have G_off_part := qc (P := P) (w := w) (base := base) N
 unfold cf
 exact bq (k := 4) 3 4 (fA K a) N.F_Measure_part gT rfl rfl fun cdv A outer s H E hr => ak (bw (aW (eG hr) gm (dF N.cl_Measure N.na_Measure_kind (ad 0 (pv 0))) (bR)) (ao (aM (aB (ax G_ways (hr.mono (by decide)) (by rfl) N.m_ways N.F_ways.kp N.b_ways aC (ac (ad 2 (pv 2)) (ag)) (af aN0))))) (aZ))
   (ak (bw (aW (eG hr) gm (dF N.cl_Measure N.na_Measure_kind (ad 0 (pv 0))) (bR)) (ao (aM (aB (ax G_power_part (hr.mono (by decide)) (by rfl) N.m_power_part N.F_power_part.kp N.b_power_part aC (ac (ad 2 (pv 2)) (ag)) (af aN0))))) (aZ))
   (ak (bw (aW cZ (ia (neg := false)) (dF N.cl_Measure N.na_Measure_kind (ad 0 (pv 0))) (gt N.g_BY_PLACE)) (ao (aM (aB (qZ (aW (eG hr) gm (ad 1 (pv 1)) (ci aX cm (dF N.cl_Measure N.na_Measure_place (ad 0 (pv 0))) (aD))) (ci aX cm (ad 2 (pv 2)) (ci aX cm (dF N.cl_Measure N.na_Measure_place (ad 0 (pv 0))) (aD))) (aD))))) (aZ))
   (ak (Az (i := 3) gT.nd rfl (by first | exact Or.inl rfl | exact Or.inr rfl) rfl (CmpScope.ofB (Nc := ["across", "self", "column"]) (vars := ["across"]) (caps := [0, 1]) rfl (by decide +kernel) (by rfl) (by rfl) (by rfl)) (bT (dF N.cl_Measure N.na_Measure_row_list (ad 0 (pv 0)))) (fun cl C fp s H => ⟨(pgN 0 (show (["across", "self", "column"] : List Str).Nodup by decide +kernel)), cI, fun D => bG rfl (aO bh bK (ad 0 (pv 0)) (ci aX cm (dF N.cl_Measure N.na_Measure_column_list (ad 1 (pv 1))) (ad 2 (pv 2)))) rfl⟩) bi bt (fun D => bS))
   (ak (bw (aW (eG hr) gm (dF N.cl_Measure N.na_Measure_kind (ad 0 (pv 0))) (bR)) (ao (aM (aB (ax G_square_part (hr.mono (by decide)) (by rfl) N.m_square_part N.F_square_part.kp N.b_square_part aC (ac (ad 2 (pv 2)) (ac (ad 3 (pv 3)) (ac (dF N.cl_Measure N.na_Measure_even (ad 0 (pv 0))) (ag)))) (af (af (af aN0))))))) (aZ))
   (ao (aM (aB (ax G_off_part (hr.mono (by decide)) (by rfl) N.m_off_part N.F_off_part.kp N.b_off_part aC (ac (ad 2 (pv 2)) (ac (ad 3 (pv 3)) (ac (aF (bH rfl) di (by rfl) N.n_sum PyProof.Rows.Boot.«sum» (ac (dF N.cl_Measure N.na_Measure_row_list (ad 0 (pv 0))) (ag))) (ag)))) (af (af (af aN0)))))))))))
theorem ku : FnScope ["self", "value", "seen"] ["self", "value", "seen"] (aj gD) := ⟨rfl, rfl, rfl, by decide +kernel, rfl, by decide +kernel, by decide +kernel⟩
noncomputable def d7 (K : PySem.W.Frag) (a : Ad) : G :=
  aE (fIf (fB (f2 (inD false) (f1 (cM a.C_Measure "kind") (aa 0)) (fC (.tup [.str (Str.ofString "rare"), .str (Str.ofString "least")])))) (f2 (leD) (aa 1) (aa 2)) (f2 (geD) (aa 1) (aa 2)))
noncomputable def cj (K : PySem.W.Frag) (a : Ad) : List D -> M D := aK 3 (d7 K a)
theorem kv (N : Fns K mg a) : FnOk P w K mg base (CXE P w) 2 a.f_Measure_beyond a.d_Measure_beyond ["self", "value", "seen"] (spF K 3 (cj K a)) := by
 unfold cj
 exact bq (k := 1) 3 3 (d7 K a) N.F_Measure_beyond ku rfl rfl fun cdv A outer s H E hr => ao (aM (aB (qZ (aW cZ (ia (neg := false)) (dF N.cl_Measure N.na_Measure_kind (ad 0 (pv 0))) (gt N.g_LESS_IS_STRANGER)) (fF i0 kJ (ad 1 (pv 1)) (ad 2 (pv 2))) (fF rp Bb (ad 1 (pv 1)) (ad 2 (pv 2))))))
theorem jv : FnScope ["self", "one", "other"] ["self", "one", "other"] (aj fQ) := ⟨rfl, rfl, rfl, by decide +kernel, rfl, by decide +kernel, by decide +kernel⟩
noncomputable def dE (K : PySem.W.Frag) (a : Ad) : G :=
  aE (fIf (fB (f2 (inD false) (f1 (cM a.C_Measure "kind") (aa 0)) (fC (.tup [.str (Str.ofString "rare"), .str (Str.ofString "power")])))) (f2 bb (aa 1) (aa 2)) (f2 eY (aa 1) (aa 2)))
noncomputable def bB (K : PySem.W.Frag) (a : Ad) : List D -> M D := aK 3 (dE K a)
theorem e9 (N : Fns K mg a) : FnOk P w K mg base (CXE P w) 2 a.f_Measure_together a.d_Measure_together ["self", "one", "other"] (spF K 3 (bB K a)) := by
 unfold bB
 exact bq (k := 1) 3 3 (dE K a) N.F_Measure_together jv rfl rfl fun cdv A outer s H E hr => ao (aM (aB (qZ (aW cZ (ia (neg := false)) (dF N.cl_Measure N.na_Measure_kind (ad 0 (pv 0))) (gt N.g_BY_PRODUCT)) (aO bh bK (ad 1 (pv 1)) (ad 2 (pv 2))) (aO cc fJ (ad 1 (pv 1)) (ad 2 (pv 2))))))
theorem dh : FnScope ["self", "rows", "gathered", "column", "counts"] ["self", "rows"] (aj jG) := ⟨rfl, rfl, rfl, by decide +kernel, rfl, by decide +kernel, by decide +kernel⟩
noncomputable def gN (K : PySem.W.Frag) (a : Ad) : G :=
  ai (aG 2 (db a.C_Measure "begun" (cF K a) (aa 0) ah []))
  (ai (bQ (i7 (ae (au (m_rows_turned K a) (ae (aa 1) (ah))) (ah))) (sgT (cT (sgN 3) (cT (sgN 4) eC))) (aG 2 (db a.C_Measure "together" (bB K a) (aa 0) (ae (aa 2) (ae (db a.C_Measure "part" (cf K a) (aa 0) (ae (aa 3) (ae (aa 4) (ah))) []) (ah))) [])))
  (aE (aa 2)))
noncomputable def eL (K : PySem.W.Frag) (a : Ad) : List D -> M D := aK 5 (gN K a)
theorem n6 (N : Fns K mg a) : FnOk P w K mg base (CXE P w) 6 a.f_Measure_of a.d_Measure_of ["self", "rows"] (spF K 2 (eL K a)) := by
 have G_Measure_begun := gG (P := P) (w := w) (base := base) N
 have G_rows_turned := mE (P := P) (w := w) (base := base) N
 have G_Measure_part := g9 (P := P) (w := w) (base := base) N
 have G_Measure_together := e9 (P := P) (w := w) (base := base) N
 unfold eL
 exact bq (k := 5) 2 5 (gN K a) N.F_Measure_of dh rfl rfl fun cdv A outer s H E hr => ak (aL (psS 2 dh.nd (qk N.cl_Measure N.mt_Measure_begun G_Measure_begun (hr.mono (by decide)) (dA.nil N.b_Measure_begun) aC (ad 0 (pv 0)) rfl)))
   (ak (bJ (ix (bX aR (bX aR gu)) (bV (bV fj))) (bu bY rfl (iC (by rfl) N.n_enumerate (ac (ax G_rows_turned (hr.mono (by decide)) (by rfl) N.m_rows_turned N.F_rows_turned.kp N.b_rows_turned aC (ac (ad 1 (pv 1)) (ag)) (af aN0)) (ag))) (eF rfl (bp (pgN 3 dh.nd) (bp (pgN 4 dh.nd) dJ))) (ao (aL (psS 2 dh.nd (fN N.cl_Measure N.mt_Measure_together G_Measure_together (hr.mono (by decide)) (dA.nil N.b_Measure_together) aC (ad 0 (pv 0)) (ac (ad 2 (pv 2)) (ac (fN N.cl_Measure N.mt_Measure_part G_Measure_part (hr.mono (by decide)) (dA.nil N.b_Measure_part) aC (ad 0 (pv 0)) (ac (ad 3 (pv 3)) (ac (ad 4 (pv 4)) (ag))) (fun δ β r β' h => by rw [(af (af aN0)) δ β r β' h]; rfl)) (ag))) (fun δ β r β' h => by rw [(af (af aN0)) δ β r β' h]; rfl)))))))
   (ao (aM (aB (ad 2 (pv 2))))))
theorem bC : FnScope ["_law_script", "_law_bag_here", "_law_block", "_law_where", "_law_kind_here", "_law_rowsums_here", "_law_columnsums_here", "_law_scale_here", "_law_so_far", "_law_to", "_law_column", "_law_handed", "_law_part", "_law_due", "_law_value_here", "_law_seen"] ["_law_script"] (aj lj) := ⟨rfl, rfl, rfl, by decide +kernel, rfl, by decide +kernel, by decide +kernel⟩
noncomputable def l3 (K : PySem.W.Frag) (a : Ad) : G :=
  ai (aG 2 (au (m_l_any K a) (ae (aa 1) (ah))))
  (ai (aG 3 (au (m_l_place K a) (ae (aa 1) (ae (aa 2) (ah)))))
  (ai (aG 4 (au (m_l_kind K a) (ae (aa 1) (ah))))
  (ai (aG 5 (au (m_l_rowsums K a) (ae (aa 2) (ah))))
  (ai (aG 6 (au (m_l_columnsums K a) (ae (aa 2) (ah))))
  (ai (aG 7 (au (m_l_scale K a) (ae (aa 4) (ae (aa 2) (ae (aa 3) (ah))))))
  (ai (aG 8 (db a.C_Measure "begun" (cF K a) (aa 7) ah []))
  (ai (gIf (cw (cW (au (m_l_same K a 5) (ae (aa 8) (ae (aq oz (ae (f2 (inD false) (aa 4) (aq cu (ae (fC (.str (Str.ofString "rare"))) (ae (fC (.str (Str.ofString "power"))) (ah))))) (ah))) (ah)))))) (aE (fC (.bl false))) (gNil))
  (ai (bQ (i7 (ae (au (m_l_turned K a) (ae (aa 2) (ah))) (ah))) (sgT (cT (sgN 9) (cT (sgN 10) eC))) (ai (aG 11 (aq kf (ae (aa 10) (ah))))
  (ai (aG 12 (db a.C_Measure "part" (cf K a) (aa 7) (ae (aa 9) (ae (aa 11) (ah))) []))
  (ai (gIf (da (fB (f2 (cy) (aa 11) (aa 10))) (cw (cW (au (m_l_same K a 5) (ae (db a.C_Measure "part" (cf K a) (aa 7) (ae (aa 9) (ae (aq oO (ae (aa 10) (ah))) (ah))) []) (ae (aa 12) (ah))))))) (aE (fC (.bl false))) (gNil))
  (ai (aG 13 (f2 eY (aa 8) (aa 12)))
  (ai (gIf (fB (f2 (inD false) (aa 4) (aq cu (ae (fC (.str (Str.ofString "rare"))) (ae (fC (.str (Str.ofString "power"))) (ah)))))) (aG 13 (f2 bb (aa 8) (aa 12))) (gNil))
  (ai (gIf (cw (cW (au (m_l_same K a 5) (ae (db a.C_Measure "together" (bB K a) (aa 7) (ae (aa 8) (ae (aa 12) (ah))) []) (ae (aa 13) (ah)))))) (aE (fC (.bl false))) (gNil))
  (aG 8 (aa 13)))))))))
  (ai (aG 14 (au (m_l_value K a) (ae (aa 4) (ae (aa 5) (ae (aa 6) (ae (aa 3) (ae (au (m_l_turned K a) (ae (aa 2) (ah))) (ah))))))))
  (ai (gIf (da (cw (cW (au (m_l_same K a 5) (ae (aa 8) (ae (aa 14) (ah)))))) (cw (cW (au (m_l_same K a 5) (ae (db a.C_Measure "of" (eL K a) (aa 7) (ae (au (m_l_copied K a) (ae (aa 2) (ah))) (ah)) []) (ae (aa 14) (ah))))))) (aE (fC (.bl false))) (gNil))
  (ai (aG 15 (f2 iS (f2 eY (aa 14) (au cG (ae (aa 1) (ae (fC (.int 5)) (ah))))) (fC (.int 2))))
  (ai (gIf (fB (f2 (cN) (au cG (ae (aa 1) (ae (fC (.int 4)) (ah)))) (fC (.int 0)))) (aG 15 (f2 iS (f2 bb (au cG (ae (aa 1) (ae (fC (.int 2)) (ah)))) (f2 vc (fC (.int 10)) (fC (.int 12)))) (f2 vc (fC (.int 10)) (fC (.int 11))))) (gNil))
  (ai (gIf (cw (cW (au (m_l_same K a 5) (ae (db a.C_Measure "beyond" (cj K a) (aa 7) (ae (aa 14) (ae (aa 15) (ah))) []) (ae (au (m_l_beyond K a) (ae (aa 4) (ae (aa 14) (ae (aa 15) (ah))))) (ah)))))) (aE (fC (.bl false))) (gNil))
  (aE (au (m_l_same K a 5) (ae (db a.C_Measure "beyond" (cj K a) (aa 7) (ae (aa 15) (ae (aa 14) (ah))) []) (ae (au (m_l_beyond K a) (ae (aa 4) (ae (aa 15) (ae (aa 14) (ah))))) (ah))))))))))))))))))
theorem A4 {f : Addr} {fd : FuncData} (F : FunD K "law" "law" lj f fd) (N : Fns K mg a) (T : ∀ β : Bg, β.ok -> ∃ β', l3 K a [none, some (.sh .bag), none, none, none, none, none, none, none, none, none, none, none, none, none, none] β = some (.rt (.bl true), β')) :
  FnOk P w K mg base (CXE P w) 9 f fd ["_law_script"] (yx K) := by
 have G_l_bag := vq (P := P) (w := w) (base := base) N
 have G_l_any := vt (P := P) (w := w) (base := base) N
 have G_l_place := rC (P := P) (w := w) (base := base) N
 have G_l_kind := uc (P := P) (w := w) (base := base) N
 have G_l_rowsums := jM (P := P) (w := w) (base := base) N
 have G_l_columnsums := g6 (P := P) (w := w) (base := base) N
 have G_l_scale := rB (P := P) (w := w) (base := base) N
 have G_Measure_begun := gG (P := P) (w := w) (base := base) N
 have G_l_same := ub (P := P) (w := w) (base := base) N
 have G_l_turned := kz (P := P) (w := w) (base := base) N
 have G_Measure_part := g9 (P := P) (w := w) (base := base) N
 have G_Measure_together := e9 (P := P) (w := w) (base := base) N
 have G_l_value := rA (P := P) (w := w) (base := base) N
 have G_l_copied := qf (P := P) (w := w) (base := base) N
 have G_Measure_of := n6 (P := P) (w := w) (base := base) N
 have G_l_pull := g0 (P := P) (w := w) (base := base) N
 have G_l_beyond := qg (P := P) (w := w) (base := base) N
 have G_Measure_beyond := kv (P := P) (w := w) (base := base) N
 refine F.okE (k := 8) bC (fun vs H Q E h => ?_) (fun cdv A outer s H vs Q E hr h => ?_)
 ·obtain ⟨a, ns, rfl, _⟩ := h
  rfl
 ·obtain ⟨a1, ns, rfl, hS, hlen, k⟩ := h
  have rest : PSs (cX (CXE P w) P w K mg base ["_law_script", "_law_bag_here", "_law_block", "_law_where", "_law_kind_here", "_law_rowsums_here", "_law_columnsums_here", "_law_scale_here", "_law_so_far", "_law_to", "_law_column", "_law_handed", "_law_part", "_law_due", "_law_value_here", "_law_seen"] "law" (aj lj) f cdv A outer s H E) (cg lj).tail (tG K H (l3 K a) (fun _ => E)) := ak (aL (psS 2 bC.nd (ax G_l_any (hr.mono (by decide)) (by rfl) N.m_l_any N.F_l_any.kp N.b_l_any aC (ac (ad 1 (pv 1)) (ag)) (af aN0))))
   (ak (aL (psS 3 bC.nd (ax G_l_place (hr.mono (by decide)) (by rfl) N.m_l_place N.F_l_place.kp N.b_l_place aC (ac (ad 1 (pv 1)) (ac (ad 2 (pv 2)) (ag))) (af (af aN0)))))
   (ak (aL (psS 4 bC.nd (ax G_l_kind (hr.mono (by decide)) (by rfl) N.m_l_kind N.F_l_kind.kp N.b_l_kind aC (ac (ad 1 (pv 1)) (ag)) (af aN0))))
   (ak (aL (psS 5 bC.nd (ax G_l_rowsums (hr.mono (by decide)) (by rfl) N.m_l_rowsums N.F_l_rowsums.kp N.b_l_rowsums aC (ac (ad 2 (pv 2)) (ag)) (af aN0))))
   (ak (aL (psS 6 bC.nd (ax G_l_columnsums (hr.mono (by decide)) (by rfl) N.m_l_columnsums N.F_l_columnsums.kp N.b_l_columnsums aC (ac (ad 2 (pv 2)) (ag)) (af aN0))))
   (ak (aL (psS 7 bC.nd (ax G_l_scale (hr.mono (by decide)) (by rfl) N.m_l_scale N.F_l_scale.kp N.b_l_scale aC (ac (ad 4 (pv 4)) (ac (ad 2 (pv 2)) (ac (ad 3 (pv 3)) (ag)))) (af (af (af aN0))))))
   (ak (aL (psS 8 bC.nd (qk N.cl_Measure N.mt_Measure_begun G_Measure_begun (hr.mono (by decide)) (dA.nil N.b_Measure_begun) aC (ad 7 (pv 7)) rfl)))
   (ak (bw (ge (gd (ax G_l_same (hr.mono (by decide)) (by rfl) N.m_l_same N.F_l_same.kp N.b_l_same aC (ac (ad 8 (pv 8)) (ac (fe uL Ba (by rfl) N.n_int PyProof.Rows.Boot.«int» (ac (fF cZ (ia (neg := false)) (ad 4 (pv 4)) (j6 (ac (bR) (ac (bR) (ag))))) (ag))) (ag))) (af (af aN0))))) (ao (aM (aB (iQ)))) (aZ))
   (ak (bJ (ix (bX aR (bX aR gu)) (bV (bV fj))) (bu bY rfl (iC (by rfl) N.n_enumerate (ac (ax G_l_turned (hr.mono (by decide)) (by rfl) N.m_l_turned N.F_l_turned.kp N.b_l_turned aC (ac (ad 2 (pv 2)) (ag)) (af aN0)) (ag))) (eF rfl (bp (pgN 9 bC.nd) (bp (pgN 10 bC.nd) dJ))) (ak (aL (psS 11 bC.nd (fe eU lR (by rfl) N.n_list PyProof.Rows.Boot.«list» (ac (ad 10 (pv 10)) (ag)))))
   (ak (aL (psS 12 bC.nd (fN N.cl_Measure N.mt_Measure_part G_Measure_part (hr.mono (by decide)) (dA.nil N.b_Measure_part) aC (ad 7 (pv 7)) (ac (ad 9 (pv 9)) (ac (ad 11 (pv 11)) (ag))) (fun δ β r β' h => by rw [(af (af aN0)) δ β r β' h]; rfl))))
   (ak (bw (jz (oN (aW (fU hr) hW (ad 11 (pv 11)) (ad 10 (pv 10))) (kW (ge (gd (ax G_l_same (hr.mono (by decide)) (by rfl) N.m_l_same N.F_l_same.kp N.b_l_same aC (ac (fN N.cl_Measure N.mt_Measure_part G_Measure_part (hr.mono (by decide)) (dA.nil N.b_Measure_part) aC (ad 7 (pv 7)) (ac (ad 9 (pv 9)) (ac (fe oa zM (by rfl) N.n_tuple PyProof.Rows.Boot.«tuple» (ac (ad 10 (pv 10)) (ag))) (ag))) (fun δ β r β' h => by rw [(af (af aN0)) δ β r β' h]; rfl)) (ac (ad 12 (pv 12)) (ag))) (af (af aN0)))))))) (ao (aM (aB (iQ)))) (aZ))
   (ak (aL (psS 13 bC.nd (aO cc fJ (ad 8 (pv 8)) (ad 12 (pv 12)))))
   (ak (bw (aW cZ (ia (neg := false)) (ad 4 (pv 4)) (j6 (ac (bR) (ac (bR) (ag))))) (ao (aL (psS 13 bC.nd (aO bh bK (ad 8 (pv 8)) (ad 12 (pv 12)))))) (aZ))
   (ak (bw (ge (gd (ax G_l_same (hr.mono (by decide)) (by rfl) N.m_l_same N.F_l_same.kp N.b_l_same aC (ac (fN N.cl_Measure N.mt_Measure_together G_Measure_together (hr.mono (by decide)) (dA.nil N.b_Measure_together) aC (ad 7 (pv 7)) (ac (ad 8 (pv 8)) (ac (ad 12 (pv 12)) (ag))) (fun δ β r β' h => by rw [(af (af aN0)) δ β r β' h]; rfl)) (ac (ad 13 (pv 13)) (ag))) (af (af aN0))))) (ao (aM (aB (iQ)))) (aZ))
   (ao (aL (psS 8 bC.nd (ad 13 (pv 13)))))))))))))
   (ak (aL (psS 14 bC.nd (ax G_l_value (hr.mono (by decide)) (by rfl) N.m_l_value N.F_l_value.kp N.b_l_value aC (ac (ad 4 (pv 4)) (ac (ad 5 (pv 5)) (ac (ad 6 (pv 6)) (ac (ad 3 (pv 3)) (ac (ax G_l_turned (hr.mono (by decide)) (by rfl) N.m_l_turned N.F_l_turned.kp N.b_l_turned aC (ac (ad 2 (pv 2)) (ag)) (af aN0)) (ag)))))) (af (af (af (af (af aN0))))))))
   (ak (bw (jz (oN (ge (gd (ax G_l_same (hr.mono (by decide)) (by rfl) N.m_l_same N.F_l_same.kp N.b_l_same aC (ac (ad 8 (pv 8)) (ac (ad 14 (pv 14)) (ag))) (af (af aN0))))) (kW (ge (gd (ax G_l_same (hr.mono (by decide)) (by rfl) N.m_l_same N.F_l_same.kp N.b_l_same aC (ac (fN N.cl_Measure N.mt_Measure_of G_Measure_of (hr.mono (by decide)) (dA.nil N.b_Measure_of) aC (ad 7 (pv 7)) (ac (ax G_l_copied (hr.mono (by decide)) (by rfl) N.m_l_copied N.F_l_copied.kp N.b_l_copied aC (ac (ad 2 (pv 2)) (ag)) (af aN0)) (ag)) (fun δ β r β' h => by rw [(af aN0) δ β r β' h]; rfl)) (ac (ad 14 (pv 14)) (ag))) (af (af aN0)))))))) (ao (aM (aB (iQ)))) (aZ))
   (ak (aL (psS 15 bC.nd (aO jK lQ (aO cc fJ (ad 14 (pv 14)) (ax G_l_pull (hr.mono (by decide)) (by rfl) N.m_l_pull N.F_l_pull.kp N.b_l_pull aC (ac (ad 1 (pv 1)) (ac (aD) (ag))) (af (af aN0)))) (aD))))
   (ak (bw (aW (eG hr) gm (ax G_l_pull (hr.mono (by decide)) (by rfl) N.m_l_pull N.F_l_pull.kp N.b_l_pull aC (ac (ad 1 (pv 1)) (ac (aD) (ag))) (af (af aN0))) (aD)) (ao (aL (psS 15 bC.nd (aO jK lQ (aO bh bK (ax G_l_pull (hr.mono (by decide)) (by rfl) N.m_l_pull N.F_l_pull.kp N.b_l_pull aC (ac (ad 1 (pv 1)) (ac (aD) (ag))) (af (af aN0))) (aO pf yG (aD) (aD))) (aO pf yG (aD) (aD)))))) (aZ))
   (ak (bw (ge (gd (ax G_l_same (hr.mono (by decide)) (by rfl) N.m_l_same N.F_l_same.kp N.b_l_same aC (ac (fN N.cl_Measure N.mt_Measure_beyond G_Measure_beyond (hr.mono (by decide)) (dA.nil N.b_Measure_beyond) aC (ad 7 (pv 7)) (ac (ad 14 (pv 14)) (ac (ad 15 (pv 15)) (ag))) (fun δ β r β' h => by rw [(af (af aN0)) δ β r β' h]; rfl)) (ac (ax G_l_beyond (hr.mono (by decide)) (by rfl) N.m_l_beyond N.F_l_beyond.kp N.b_l_beyond aC (ac (ad 4 (pv 4)) (ac (ad 14 (pv 14)) (ac (ad 15 (pv 15)) (ag)))) (af (af (af aN0)))) (ag))) (af (af aN0))))) (ao (aM (aB (iQ)))) (aZ))
   (ao (aM (aB (ax G_l_same (hr.mono (by decide)) (by rfl) N.m_l_same N.F_l_same.kp N.b_l_same aC (ac (fN N.cl_Measure N.mt_Measure_beyond G_Measure_beyond (hr.mono (by decide)) (dA.nil N.b_Measure_beyond) aC (ad 7 (pv 7)) (ac (ad 15 (pv 15)) (ac (ad 14 (pv 14)) (ag))) (fun δ β r β' h => by rw [(af (af aN0)) δ β r β' h]; rfl)) (ac (ax G_l_beyond (hr.mono (by decide)) (by rfl) N.m_l_beyond N.F_l_beyond.kp N.b_l_beyond aC (ac (ad 4 (pv 4)) (ac (ad 15 (pv 15)) (ac (ad 14 (pv 14)) (ag)))) (af (af (af aN0)))) (ag))) (af (af aN0)))))))))))))))))))
  refine ⟨_, bW (rest := (cg lj).tail) (psS 1 bC.nd (qB G_l_bag (hr.mono (by decide)) rfl N.m_l_bag N.F_l_bag.kp N.b_l_bag .nil dr (bf (pv 0) dC))) rest, ?_⟩
  refine ⟨_, rfl, a1, ns, rfl, hS, fun b l H1 hb1 hl1 B1 s1 => ?_⟩
  obtain ⟨β, ok, sok⟩ := Aa (K := K) (a := a1) (n := ["_law_script", "_law_bag_here", "_law_block", "_law_where", "_law_kind_here", "_law_rowsums_here", "_law_columnsums_here", "_law_scale_here", "_law_so_far", "_law_to", "_law_column", "_law_handed", "_law_part", "_law_due", "_law_value_here", "_law_seen"].length - 2) s1 hb1 hl1 B1
  obtain ⟨β', e⟩ := T β ok
  exact ⟨_, _, _, β, _, β', sok, e, fun v B' H' s fr hv => by cases hv.bl; exact k H'⟩
end
end Law
set_option maxHeartbeats 4000000
namespace Law
open PySem L2 L2.Pu
section
variable {K : PySem.W.Frag} {a : Ad}
abbrev ye (r c l u : Int) (g : List (List D)) (s6 s7 : Option Sl) : Ds := [some (.sh .bag), some (.sh (.int r)), some (.sh (.int c)), some (.sh (.int l)), some (.sh (.int u)), some (.grd g), s6, s7]
def DR (r c : Nat) (u : Int) (s6 : Option Sl) (δ : Ds) (β : Bg) : Prop := β.ok /\ ∃ (rows : List (List Int)) (l : Int) (s7 : Option Sl), δ = ye r c l u (gI rows) s6 s7 /\ Shp r c rows /\ (∀ row ∈ rows, ∀ x ∈ row, 0 <= x) /\ 0 <= l /\ tot rows + l <= 40
theorem Ae {β : Bg} (ok : β.ok) : ∃ (rows : List (List Int)) (r c : Nat) (β' : Bg), m_l_any K a [.bag] β = some (.ok (bL rows), β') /\ Tab r c rows /\ β'.ok := by
 suffices h : ∃ g β', m_l_any K a [.bag] β = some (g, β') /\ (∃ (rows : List (List Int)) (r c : Nat), g = .ok (bL rows) /\ Tab r c rows /\ β'.ok) by
  obtain ⟨g, β', e, rows, r, c, rfl, h1, h2⟩ := h
  exact ⟨rows, r, c, β', e, h1, h2⟩
 refine me ?_
 unfold mQ
 obtain ⟨r0, β1, p1, a0, a1, ok1⟩ := cV ok (lot := 4) (by decide) (by decide)
 refine aJ (d := .int (1 + r0)) (β1 := β1) (x_2 rfl (aA rfl p1) rfl) ?_
 obtain ⟨c0, β2, p2, b0, b1, ok2⟩ := cV ok1 (lot := 6) (by decide) (by decide)
 refine aJ (d := .int (1 + c0)) (β1 := β2) (x_2 rfl (aA rfl p2) rfl) ?_
 obtain ⟨l0, β3, p3, d0, d1, ok3⟩ := cV ok2 (lot := 41) (by decide) (by decide)
 refine aJ (d := .int l0) (β1 := β3) (aA rfl p3) ?_
 obtain ⟨u0, β4, p4, e0, e1, ok4⟩ := cV ok3 (lot := 6) (by decide) (by decide)
 have hu : ∃ u : Int, ixD (.lst [.int 12, .int 12, .int 12, .int 12, .int 12, .int 40]) (.int u0) = some (.int u) /\ 0 <= u /\ u <= 40 := by
  obtain rfl | rfl | rfl | rfl | rfl | rfl : u0 = 0 \/ u0 = 1 \/ u0 = 2 \/ u0 = 3 \/ u0 = 4 \/ u0 = 5 := by omega
  ·exact ⟨12, rfl, by decide, by decide⟩
  ·exact ⟨12, rfl, by decide, by decide⟩
  ·exact ⟨12, rfl, by decide, by decide⟩
  ·exact ⟨12, rfl, by decide, by decide⟩
  ·exact ⟨12, rfl, by decide, by decide⟩
  ·exact ⟨40, rfl, by decide, by decide⟩
 obtain ⟨u, hu, u0', u1'⟩ := hu
 refine aJ (d := .int u) (β1 := β4) (x_2 (bc rfl rfl) (aA rfl p4) hu) ?_
 obtain ⟨r, hr⟩ : ∃ r : Nat, (r : Int) = 1 + r0 := ⟨(1 + r0).toNat, by omega⟩
 obtain ⟨c, hc⟩ : ∃ c : Nat, (c : Int) = 1 + c0 := ⟨(1 + c0).toNat, by omega⟩
 rw [← hr, ← hc]
 refine DU (rows := (List.range r).map fun _ => List.replicate c (D.int 0)) (β1 := β4) (uG (List.range r) (fun i => D.int (0 + (i : Int))) _ (cA (ds := br 0 r) rfl (rg1 (by omega) (by omega))) (fun x _ => ⟨_, rfl, Eg (x := .int 0) (c := c) rfl rfl (by omega)⟩) (dX (by rw [List.length_range]; omega))) ?_ ?_
 ·rw [List.all_eq_true]
  intro x hx
  obtain ⟨_, _, rfl⟩ := List.mem_map.mp hx
  rw [← List.map_replicate (f := D.int)]
  exact nw _
 have hg : (List.range r).map (fun _ => List.replicate c (D.int 0)) = gI (List.replicate r (List.replicate c 0)) := by
  show _ = List.map _ _
  rw [List.map_replicate, List.map_const', List.map_replicate, List.length_range]
 rw [hg]
 refine bI (ds := br 0 r) (β1 := β4) (cA rfl (rg1 (by omega) (by omega))) (fun _ δ β => ∃ s6, DR r c u s6 δ β) ⟨none, ok4, List.replicate r (List.replicate c 0), l0, none, rfl, ⟨by simp, fun row h => ?_⟩, fun row h x hx => ?_, d0, ?_⟩ ?_ ?_
 ·rw [(List.mem_replicate.mp h).2]; simp
 ·rw [(List.mem_replicate.mp h).2] at hx
  rw [(List.mem_replicate.mp hx).2]; exact Int.le_refl _
 ·have : tot (List.replicate r (List.replicate c 0)) = 0 := by
   unfold tot
   rw [List.map_replicate]
   have z : ∀ n : Nat, (List.replicate n (0 : Int)).sum = 0 := fun n => by
    induction n with
    | zero => rfl
    | succ n ih => rw [List.replicate_succ, List.sum_cons, ih]; rfl
   rw [z, z]
  omega
 ·rintro i d δ β' hd ⟨s6, okA, rows, l, s7, rfl, sh, nn, hl, ht⟩
  obtain ⟨hi, rfl⟩ := ou hd
  refine ⟨ye r c l u (gI rows) (some (.sh (.int i))) s7, rfl, ar ?_⟩
  refine bI (ds := br 0 c) (β1 := β') (cA rfl (rg1 (by omega) (by omega))) (fun _ => DR r c u (some (.sh (.int i)))) ⟨okA, rows, l, s7, rfl, sh, nn, hl, ht⟩ ?_ (fun δ β h => aV ⟨_, h⟩)
  rintro j d δ β2 hd ⟨okB, rows, l, s7, rfl, sh, nn, hl, ht⟩
  obtain ⟨hj, rfl⟩ := ou hd
  refine ⟨ye r c l u (gI rows) (some (.sh (.int i))) (some (.sh (.int j))), rfl, ?_⟩
  obtain ⟨v, β5, p5, v0, v1, ok5⟩ := cV okB (lot := min l u + 1) (by omega) (by omega)
  obtain ⟨row, hrow, lrow⟩ := sh.at hi
  obtain ⟨x, hx⟩ := yV (l := row) (i := j) (by omega)
  refine DT (d := .int v) (β1 := β5) (β2 := β5) (β3 := β5) (rows := gI rows) (ds := row.map D.int) (ka := i) (kb := j) (ja := i) (jb := j) (aA (as := [.bag, .int (min l u + 1)]) (β1 := β2) ?_ p5) rfl rfl rfl ?_ ?_ ?_ rfl ?_
  ·refine am rfl (am (x_2 (x := .int (min l u)) (bc (as := [.int l, .int u]) rfl ?_) rfl rfl) rfl)
   show pq [.int l, .int u] = some (.int (min l u))
   unfold pq
   simp only
   congr 2
   split <;> omega
  ·rw [List.length_map, sh.1]; exact pC (by omega) (by omega)
  ·rw [List.getElem?_map, hrow]; rfl
  ·rw [List.length_map, lrow]; exact pC (by omega) (by omega)
  have hset : (gI rows).set i ((row.map D.int).set j (.int v)) = gI (rows.set i (row.set j v)) := by
   show _ = List.map _ _
   rw [List.map_set, List.map_set]
  rw [hset]
  have hl' : v <= l := by omega
  refine ar (Ag (d := .int (l - v)) (β1 := β5) ?_ (aV ⟨ok5, rows.set i (row.set j v), l - v, _, rfl, sh.set hrow, A5 nn hrow v0, by omega, ?_⟩) rfl)
  ·refine x_2 (y := .int v) rfl (x_2 (x := .lst ((row.set j v).map D.int)) (x_2 rfl rfl ?_) rfl ?_) rfl
   ·refine lS (by omega) ?_
    rw [List.getElem?_map, List.getElem?_map, Int.toNat_natCast, List.getElem?_set, if_pos rfl, if_pos (by rw [sh.1]; omega)]; rfl
   ·refine lS (by omega) ?_
    rw [List.getElem?_map, Int.toNat_natCast, List.getElem?_set, if_pos rfl, if_pos (by rw [lrow]; omega)]; rfl
  ·have := zb (v := v) hrow hx
   have := nn row (List.mem_of_getElem? hrow) x (List.mem_of_getElem? hx)
   omega
 ·rintro δ β' ⟨s6, okA, rows, l, s7, rfl, sh, nn, hl, ht⟩
  exact ar (aN rfl ⟨rows, r, c, rfl, ⟨sh, nn, by omega, by omega, by omega, by omega, by omega⟩, okA⟩)
end
section
variable {K : PySem.W.Frag} {a : Ad} {β : Bg}
theorem Aj {r c : Nat} {rows : List (List Int)} (sh : Shp r c rows) (r0 : 1 <= r) (r1 : r <= 30) (c1 : c <= 30) {δ : Dn} (hδ : δ.getD 0 none = some (bL rows)) : aT 1 [0] (bD fX (ae (aq bE (ae (f2 ixD (aa 0) (fC (.int 0))) (ah))) (ah))) (tgC 0) (fun _ => M.ret true) (cEm (aT 1 [0] (ba (aa 1)) (tgC 0) (fun _ => M.ret true) (cEm (f2 ixD (aa 0) (aa 1))))) δ β = some (.ok (bL (tp c rows)), β) := by
 obtain ⟨row0, hrow0, lrow0⟩ := sh.at (i := 0) (by omega)
 have hr0 : (gI rows)[0]? = some (row0.map D.int) := by rw [List.getElem?_map, hrow0]; rfl
 have el : aq bE (ae (f2 ixD (aa 0) (fC (.int 0))) (ah)) δ β = some (.ok (.int (c : Int)), β) := bc (am (x := .lst (row0.map D.int)) (x_2 (x := bL rows) (j4 hδ) rfl (yO hr0)) rfl) (iz (by rw [List.length_map, lrow0]))
 have e := d9 (nv := 1) (caps := [0]) (it := bD fX (ae (aq bE (ae (f2 ixD (aa 0) (fC (.int 0))) (ah))) (ah))) (tg := tgC 0) (f := aT 1 [0] (ba (aa 1)) (tgC 0) (fun _ => M.ret true) (cEm (f2 ixD (aa 0) (aa 1)))) (δ := δ) (β := β) (List.range c) (fun i => D.int (0 + (i : Int))) (fun j => D.lst (rows.map fun row => D.int (row.getD j 0))) (cA (ds := br 0 c) (am el rfl) (rg1 (by omega) (by omega))) ?_ (dX (by rw [List.length_range]; omega))
 ·rw [e]
  unfold tp tpA
  show _ = some (Except.ok (D.lst (List.map D.lst (List.map _ (List.map _ _)))), β)
  rw [List.map_map, List.map_map]
  congr 4
  refine List.map_congr_left fun j _ => ?_
  show _ = D.lst ((rows.map fun row => row.getD j 0).map D.int)
  rw [List.map_map]; rfl
 ·intro j hj
  have hjc := List.mem_range.mp hj
  have hcs : cSt 1 [0] δ = [none, some (bL rows)] := by
   unfold cSt
   simp only [List.map_cons, List.map_nil, hδ]; rfl
  refine ⟨[some (.int (0 + (j : Int))), some (bL rows)], by rw [hcs]; rfl, ?_⟩
  have hm : (gI rows).map D.lst = rows.map fun row => D.lst (row.map D.int) := by rw [List.map_map]; rfl
  refine d9 (nv := 1) (caps := [0]) rows (fun row => D.lst (row.map D.int)) _ (by show some (Except.ok ((gI rows).map D.lst), β) = _; rw [hm]) (fun row hr => ⟨_, rfl, x_2 (x := .lst (row.map D.int)) (y := .int (0 + (j : Int))) rfl rfl ?_⟩) (dX (by rw [sh.1]; omega))
  have hl := sh.2 row hr
  obtain ⟨x, hx⟩ := yV (l := row) (i := j) (by omega)
  rw [Int.zero_add]
  refine kg ?_
  rw [List.getElem?_map, hx, List.getD_eq_getElem?_getD, hx]; rfl
theorem s0 {r c : Nat} {rows : List (List Int)} (sh : Shp r c rows) (r0 : 1 <= r) (r1 : r <= 30) (c1 : c <= 30) : m_rows_turned K a [bL rows] β = some (.ok (bL (tp c rows)), β) :=
 aS (ar (aN (Aj sh r0 r1 c1 rfl) ⟨rfl, rfl⟩))
theorem lM {r c : Nat} {rows : List (List Int)} (sh : Shp r c rows) (r0 : 1 <= r) (r1 : r <= 30) (c1 : c <= 30) : m_l_turned K a [bL rows] β = some (.ok (bL (tp c rows)), β) :=
 aS (ar (aN (Aj sh r0 r1 c1 rfl) ⟨rfl, rfl⟩))
end
section
variable {K : PySem.W.Frag} {a : Ad} {β : Bg}
abbrev iL (xs : List Int) : D := .lst (xs.map D.int)
theorem tH {rows : List (List Int)} (h : rows.length <= 1000) {f : Dn -> M D} {δ : Dn} (e : f δ β = some (.ok (bL rows), β)) : aT 1 [] (ba f) (tgC 0) (fun _ => M.ret true) (cEm (aq cr (ae (aa 0) (ah)))) δ β = some (.ok (iL (rows.map List.sum)), β) := by
 have hm : (gI rows).map D.lst = rows.map fun row => D.lst (row.map D.int) := by rw [List.map_map]; rfl
 have := d9 (nv := 1) (caps := []) (it := ba f) (tg := tgC 0) (f := aq cr (ae (aa 0) (ah))) (δ := δ) (β := β) rows (fun row => D.lst (row.map D.int)) (fun row => D.int row.sum) (by rw [← hm]; exact gx e rfl) (fun row _ => ⟨_, rfl, bc rfl (ik row)⟩) (dX h)
 rw [this]
 show _ = some (Except.ok (D.lst ((rows.map List.sum).map D.int)), β)
 rw [List.map_map]; rfl
theorem lw {rows : List (List Int)} (h : rows.length <= 1000) : m_l_rowsums K a [bL rows] β = some (.ok (iL (rows.map List.sum)), β) :=
 aS (ar (aN (tH h rfl) ⟨rfl, rfl⟩))
theorem ju {r c : Nat} {rows : List (List Int)} (sh : Shp r c rows) (r0 : 1 <= r) (r1 : r <= 30) (c1 : c <= 30) : m_l_columnsums K a [bL rows] β = some (.ok (iL ((tp c rows).map List.sum)), β) :=
 aS (ar (aN (tH (by rw [(j8 (d := (0 : Int)) (c := c) sh.1).1]; omega) (aA rfl (lM sh r0 r1 c1))) ⟨rfl, rfl⟩))
end
section
variable {K : PySem.W.Frag} {a : Ad} {β : Bg}
def j9 (xs ys : List Int) : Bool := (decide (1 <= (xs.length : Int)) && decide ((xs.length : Int) <= 4)) && (decide (1 <= (ys.length : Int)) && decide ((ys.length : Int) <= 6)) && !((xs.any fun x => decide (x < 0)) || (ys.any fun x => decide (x < 0))) && decide (xs.sum = ys.sum) && !decide (40 < xs.sum)
def Sm (xs : List Int) : Prop := xs.length <= 30 /\ ∀ x ∈ xs, -1000 <= x /\ x <= 1000
theorem tJ : ∀ {xs : List Int}, (∀ x ∈ xs, -1000 <= x /\ x <= 1000) -> -1000 * (xs.length : Int) <= xs.sum /\ xs.sum <= 1000 * (xs.length : Int)
 | [], _ => by simp
 | x :: xs, h => by
  have h1 := h x List.mem_cons_self
  have h2 := tJ (xs := xs) fun y hy => h y (List.mem_cons_of_mem _ hy)
  simp only [List.sum_cons, List.length_cons]
  omega
theorem Sm.bd {xs : List Int} (h : Sm xs) : -30000 <= xs.sum /\ xs.sum <= 30000 := by
 have := tJ h.2
 have := h.1
 omega
theorem yF {xs : List Int} (h : xs.length <= 1000) {n : Nat} {δ : Dn} (e : δ.getD n none = some (iL xs)) : cW (aq m8 (ae (aT 1 [] (ba (aa n)) (tgC 0) (fun _ => M.ret true) (cEm (f2 (ltD) (aa 0) (fC (.int 0))))) (ah))) δ β = some (.ok (xs.any fun x => decide (x < 0)), β) := by
 have e1 := d9 (nv := 1) (caps := []) (it := ba (aa n)) (tg := tgC 0) (f := f2 (ltD) (aa 0) (fC (.int 0))) (δ := δ) (β := β) xs D.int (fun x => D.bl (decide (x < 0))) (gx (j4 e) rfl) (fun x _ => ⟨_, rfl, rfl⟩) (dX h)
 exact iN (bc (am e1 rfl) (any_map _ _)) rfl
theorem vZ {xs ys : List Int} (hx : Sm xs) (hy : Sm ys) : m_check_sums K a [iL xs, iL ys] β = some (if j9 xs ys = true then .ok .non else .error a.C_BadSums, β) := by
 have lx := hx.1
 have ly := hy.1
 have bx := hx.bd
 have by' := hy.bd
 refine aS ?_
 unfold gL
 have el : ∀ {n : Nat} {zs : List Int} {δ : Dn}, δ.getD n none = some (iL zs) -> aq bE (ae (aa n) ah) δ β = some (.ok (.int (zs.length : Int)), β) := fun {n zs δ} e => bc (am (j4 e) rfl) (iz (by rw [List.length_map]))
 have es : ∀ {n : Nat} {zs : List Int} {δ : Dn}, δ.getD n none = some (iL zs) -> aq cr (ae (aa n) ah) δ β = some (.ok (.int zs.sum), β) := fun {n zs δ} e => bc (am (j4 e) rfl) (ik zs)
 refine fc (c := !(decide (1 <= (xs.length : Int)) && decide ((xs.length : Int) <= 4))) (β1 := β) (gc (x_B (qi rfl (el rfl) rfl))) ?_
 unfold j9
 cases q1 : (decide (1 <= (xs.length : Int)) && decide ((xs.length : Int) <= 4)) with
 | false => exact gs (am (jx (iO rfl (by decide) (by decide) (iO (el rfl) (by omega) (by omega) rfl))) rfl) ⟨rfl, rfl⟩
 | true =>
 refine aQ ?_
 refine fc (c := !(decide (1 <= (ys.length : Int)) && decide ((ys.length : Int) <= 6))) (β1 := β) (gc (x_B (qi rfl (el rfl) rfl))) ?_
 cases q2 : (decide (1 <= (ys.length : Int)) && decide ((ys.length : Int) <= 6)) with
 | false => exact gs (am (jx (iO rfl (by decide) (by decide) (iO (el rfl) (by omega) (by omega) rfl))) rfl) ⟨rfl, rfl⟩
 | true =>
 refine aQ ?_
 refine fc (c := (xs.any fun x => decide (x < 0)) || (ys.any fun x => decide (x < 0))) (β1 := β) (DS (yF (by omega) rfl) (yF (by omega) rfl)) ?_
 cases q3 : ((xs.any fun x => decide (x < 0)) || (ys.any fun x => decide (x < 0))) with
 | true =>
  rw [if_pos rfl]
  exact gs rfl ⟨rfl, rfl⟩
 | false =>
 refine aQ ?_
 refine fc (c := !decide (xs.sum = ys.sum)) (β1 := β) (x_B (x_2 (es rfl) (es rfl) ne_int)) ?_
 cases q4 : decide (xs.sum = ys.sum) with
 | false => exact gs (am (jx (iO (es rfl) (by omega) (by omega) (iO (es rfl) (by omega) (by omega) rfl))) rfl) ⟨rfl, rfl⟩
 | true =>
 refine aQ (ar ?_)
 refine fc (c := decide (40 < xs.sum)) (β1 := β) (x_B (x_2 (es rfl) rfl gt_int)) ?_
 cases q5 : decide (40 < xs.sum) with
 | true =>
  rw [if_pos rfl]
  exact gs (am (jx (iO rfl (by decide) (by decide) rfl)) rfl) ⟨rfl, rfl⟩
 | false => exact aQ (aV ⟨rfl, rfl⟩)
end
section
variable {K : PySem.W.Frag} {a : Ad} {β : Bg}
theorem oQ {i n : Int} (h0 : -1000 <= i) (h1 : i <= 1000) (h2 : -1000 <= n) (h3 : n <= 1000) : m_check_there K a [.int i, .int n] β = some (if 0 <= i /\ i < n then .ok .non else .error a.C_BadCell, β) := by
 refine aS ?_
 unfold f8
 refine ar (fc (c := !(decide (0 <= i) && decide (i < n))) (β1 := β) (gc (x_B (sW rfl rfl rfl))) ?_)
 by_cases q : 0 <= i /\ i < n
 ·have e : (decide (0 <= i) && decide (i < n)) = true := by simpa using q
  rw [e, Bool.not_true, if_neg Bool.false_ne_true, if_pos q]
  exact aQ (aV ⟨rfl, rfl⟩)
 ·have e : (decide (0 <= i) && decide (i < n)) = false := by
   rw [Bool.eq_false_iff]
   simpa using q
  rw [e, Bool.not_false, if_pos rfl, if_neg q]
  exact gs (am (jx (iO rfl (by omega) (by omega) (iO rfl (by omega) (by omega) rfl))) rfl) ⟨rfl, rfl⟩
end
section
variable {K : PySem.W.Frag} {a : Ad} {β : Bg}
theorem uF {rows : List (List D)} (h : rows.length <= 1000) : m_l_copied K a [lG rows] β = some (.ok (lG rows), β) :=
 aS (ar (aN (d9 rows D.lst D.lst rfl (fun x _ => ⟨_, rfl, rfl⟩) (dX h)) ⟨rfl, rfl⟩))
end
section
variable {K : PySem.W.Frag} {a : Ad} {β : Bg}
theorem zg (n : Nat) : m_l_same K a n = dW n := by
 induction n with
 | zero => rfl
 | succ n ih =>
  show aK 2 (kM K a (m_l_same K a n)) = aK 2 (h8 (dW n))
  rw [ih]; rfl
theorem iX {d : D} (h : okD 4 d) : m_l_same K a 5 [d, d] β = some (.ok (.bl true), β) := by
 rw [zg]
 exact mw 4 d β h
theorem iw (n : Nat) (i : Int) : okD n (.int i) := by cases n <;> trivial
theorem ue (n : Nat) (i : Bool) : okD n (.bl i) := by cases n <;> trivial
end
end Law
set_option maxHeartbeats 4000000
namespace Law
open PySem L2 L2.Pu
section
variable {K : PySem.W.Frag} {a : Ad} {β : Bg}
theorem om {i : Nat} {op : D -> D -> Option D} {f : Dn -> M D} {c d z : D} {h : G} {δ : Ds} {β β1 : Bg} {Q : Out -> Bg -> Prop} (e0 : (vw δ).getD i none = some c) (e : f (vw δ) β = some (.ok d, β1)) (e2 : op c d = some z) (k : Gw h (δ.set i (some (.sh z))) β1 Q) : Gw (ai (eR i op f) h) δ β Q := fE (by unfold eR; simp only [e0, e, e2, Option.map_some]) k
theorem tS {m i : Nat} {d : D} (h : (br 2 m)[i]? = some d) : i < m /\ d = .int ((i + 2 : Nat) : Int) := by
 obtain ⟨x, hx, rfl⟩ := eK (f := fun (i : Nat) => D.int (2 + (i : Int))) (xs := List.range m) h
 have hi := (List.getElem?_eq_some_iff.mp hx).1
 rw [List.length_range] at hi
 rw [List.getElem?_range hi] at hx
 cases hx
 exact ⟨hi, by congr 1; omega⟩
theorem lz (lo : Int) (m : Nat) : (br lo m).length = m := by unfold br; rw [List.length_map, List.length_range]
theorem sm {n : Nat} (h : n <= 2 ^ 11) : n < 2 ^ 1000 := bM h (by decide)
theorem qN (n : Nat) : facN (n - 1 + 1) = facN n := by cases n <;> rfl
theorem qL {n : Nat} (h : n <= 40) : m_factorial K a [.int (n : Int)] β = some (.ok (.int ((facN n : Nat) : Int)), β) := by
 refine aS ?_
 unfold ie
 refine aJ (d := .int 1) (β1 := β) rfl ?_
 refine bI (ds := br 2 (n - 1)) (β1 := β) (cA (am rfl (am (x_2 rfl rfl rfl) rfl)) (rg2 (by omega))) (fun i δ β' => β = β' /\ ∃ s2, δ = [some (.sh (.int (n : Int))), some (.sh (.int ((facN (i + 1) : Nat) : Int))), s2]) ⟨rfl, none, rfl⟩ ?_ ?_
 ·rintro i d δ _ hd ⟨rfl, s2, rfl⟩
  obtain ⟨hi, rfl⟩ := tS hd
  exact ⟨_, rfl, ar (om rfl rfl (cK (bM (iE (by omega)) (by decide)) (sm (by omega))) (aV ⟨rfl, _, rfl⟩))⟩
 ·rintro δ _ ⟨rfl, s2, rfl⟩
  rw [lz, qN]
  exact ar (aN rfl ⟨rfl, rfl⟩)
theorem pA {n : Nat} (h : n <= 40) : m_l_factorial K a [.int (n : Int)] β = some (.ok (.int ((facN n : Nat) : Int)), β) := by
 refine aS ?_
 unfold f7
 refine aJ (d := .int 1) (β1 := β) rfl ?_
 refine bI (ds := br 2 (n - 1)) (β1 := β) (cA (am rfl (am (x_2 rfl rfl rfl) rfl)) (rg2 (by omega))) (fun i δ β' => β = β' /\ ∃ s2, δ = [some (.sh (.int (n : Int))), some (.sh (.int ((facN (i + 1) : Nat) : Int))), s2]) ⟨rfl, none, rfl⟩ ?_ ?_
 ·rintro i d δ _ hd ⟨rfl, s2, rfl⟩
  obtain ⟨hi, rfl⟩ := tS hd
  exact ⟨_, rfl, ar (aJ (x_2 rfl rfl (cK (bM (iE (by omega)) (by decide)) (sm (by omega)))) (aV ⟨rfl, _, rfl⟩))⟩
 ·rintro δ _ ⟨rfl, s2, rfl⟩
  rw [lz, qN]
  exact ar (aN rfl ⟨rfl, rfl⟩)
def wayN (l : List Nat) : Nat := facN l.sum / pr (l.map facN)
theorem DN {l : List Nat} {d : D} (h : Sq l d) : kc [d] = some (.int ((l.sum : Nat) : Int)) := by
 rw [← jO]
 rcases h with rfl | rfl
 ·exact Av _
 ·exact Au _
theorem jN (l : List Nat) : cr [nL l] = some (.int ((l.sum : Nat) : Int)) := by rw [← jO]; exact ik _
theorem d4 {l : List Nat} {i n : Nat} (h : l.sum <= 40) (hn : l[i]? = some n) : n <= 40 := Nat.le_trans (en (List.mem_of_getElem? hn)) h
theorem yY {l : List Nat} {cd : D} (hs : Sq l cd) (h : l.sum <= 40) : m_ways K a [cd] β = some (.ok (.int ((wayN l : Nat) : Int)), β) := by
 refine aS ?_
 unfold pI
 refine bI (ds := (nI l).map D.int) (β1 := β) (gx rfl hs.seq) (fun i δ β' => β = β' /\ ∃ s1, δ = [some (.sh cd), s1, none]) ⟨rfl, none, rfl⟩ ?_ ?_
 ·rintro i d δ _ hd ⟨rfl, s1, rfl⟩
  obtain ⟨n, hn, rfl⟩ := gh hd
  exact ⟨_, rfl, ar (aU (β1 := β) (x_B (x_2 rfl rfl (by show some (D.bl (decide ((n : Int) < 0))) = _; rw [decide_eq_false (by omega)]))) (aQ (aV ⟨rfl, _, rfl⟩)))⟩
 rintro δ _ ⟨rfl, s1, rfl⟩
 refine aJ (d := .int ((facN l.sum : Nat) : Int)) (β1 := β) (aA (am (bc rfl (DN hs)) rfl) (qL h)) ?_
 refine bI (ds := (nI l).map D.int) (β1 := β) (gx rfl hs.seq) (fun i δ β' => β = β' /\ ∃ s1, δ = [some (.sh cd), s1, some (.sh (.int ((facN l.sum / pr ((l.take i).map facN) : Nat) : Int)))]) ⟨rfl, s1, by rw [List.take_zero, List.map_nil, tX, Nat.div_one]; rfl⟩ ?_ ?_
 ·rintro i d δ _ hd ⟨rfl, s1, rfl⟩
  obtain ⟨n, hn, rfl⟩ := gh hd
  refine ⟨_, rfl, ar (om rfl (aA rfl (qL (d4 h hn))) (l9 (mV n) (bM (iE (d4 h hn)) (by decide))) (aV ⟨rfl, some (.sh (.int (n : Int))), ?_⟩))⟩
  rw [fm hn, Nat.div_div_eq_div_mul]; rfl
 ·rintro δ _ ⟨rfl, s1, rfl⟩
  rw [eJ, List.take_length]
  exact ar (aN rfl ⟨rfl, rfl⟩)
theorem qM {l : List Nat} {i : Nat} (h : l.sum <= 40) (hl : l.length <= 4) : pr ((l.take i).map facN) <= 2 ^ 640 := by
 refine Nat.le_trans (yD (m := 160) fun x hx => ?_) (Nat.pow_le_pow_right (by decide) ?_)
 ·obtain ⟨n, hn, rfl⟩ := List.mem_map.mp hx
  exact iE (Nat.le_trans (en (List.mem_of_mem_take hn)) h)
 ·rw [List.length_map, List.length_take]; omega
theorem vC {l : List Nat} (h : l.sum <= 40) (hl : l.length <= 4) : m_l_ways K a [nL l] β = some (.ok (.int ((wayN l : Nat) : Int)), β) := by
 refine aS ?_
 unfold kL
 refine aJ (d := .int 1) (β1 := β) rfl ?_
 refine bI (ds := (nI l).map D.int) (β1 := β) rfl (fun i δ β' => β = β' /\ ∃ s2, δ = [some (.sh (nL l)), some (.sh (.int ((pr ((l.take i).map facN) : Nat) : Int))), s2]) ⟨rfl, none, rfl⟩ ?_ ?_
 ·rintro i d δ _ hd ⟨rfl, s2, rfl⟩
  obtain ⟨n, hn, rfl⟩ := gh hd
  refine ⟨_, rfl, ar (aJ (x_2 rfl (aA rfl (pA (d4 h hn))) (cK (bM (qM h hl) (by decide)) (bM (iE (d4 h hn)) (by decide)))) (aV ⟨rfl, some (.sh (.int (n : Int))), ?_⟩))⟩
  rw [fm hn]; rfl
 ·rintro δ _ ⟨rfl, s2, rfl⟩
  rw [eJ, List.take_length]
  have f := qM (i := l.length) h hl
  rw [List.take_length] at f
  exact ar (aN (x_2 (aA (am (bc rfl (jN l)) rfl) (pA h)) rfl (l9 (AJ fun x hx => by obtain ⟨n, _, rfl⟩ := List.mem_map.mp hx; exact mV n) (bM f (by decide)))) ⟨rfl, rfl⟩)
theorem oM {l : List Nat} (h : l.sum <= 40) : wayN l <= 2 ^ 160 := Nat.le_trans (Nat.div_le_self _ _) (iE h)
theorem qj {cs : List (List Nat)} {i : Nat} (h : ∀ l ∈ cs, l.sum <= 40) (hl : cs.length <= 6) : pr ((cs.take i).map wayN) <= 2 ^ 960 := by
 refine Nat.le_trans (yD (m := 160) fun x hx => ?_) (Nat.pow_le_pow_right (by decide) ?_)
 ·obtain ⟨n, hn, rfl⟩ := List.mem_map.mp hx
  exact oM (h n (List.mem_of_mem_take hn))
 ·rw [List.length_map, List.length_take]; omega
abbrev cL (cs : List (List Nat)) : D := .lst (cs.map nL)
theorem sX {cs : List (List Nat)} (h : ∀ l ∈ cs, l.sum <= 40 /\ l.length <= 4) (hl : cs.length <= 6) : m_l_weight K a [cL cs] β = some (.ok (.int ((pr (cs.map wayN) : Nat) : Int)), β) := by
 refine aS ?_
 unfold jf
 refine aJ (d := .int 1) (β1 := β) rfl ?_
 refine bI (ds := cs.map nL) (β1 := β) rfl (fun i δ β' => β = β' /\ ∃ s2, δ = [some (.sh (cL cs)), some (.sh (.int ((pr ((cs.take i).map wayN) : Nat) : Int))), s2]) ⟨rfl, none, rfl⟩ ?_ ?_
 ·rintro i d δ _ hd ⟨rfl, s2, rfl⟩
  obtain ⟨l, hn, rfl⟩ := eK hd
  obtain ⟨l1, l2⟩ := h l (List.mem_of_getElem? hn)
  refine ⟨_, rfl, ar (aJ (x_2 rfl (aA rfl (vC l1 l2)) (cK (bM (qj (fun l hl => (h l hl).1) hl) (by decide)) (bM (oM l1) (by decide)))) (aV ⟨rfl, some (.sh (nL l)), ?_⟩))⟩
  rw [fm hn]; rfl
 ·rintro δ _ ⟨rfl, s2, rfl⟩
  rw [List.length_map, List.take_length]
  exact ar (aN rfl ⟨rfl, rfl⟩)
theorem ow {n i : Nat} (h : n <= 40) (hi : i <= 40) : n ^ i < 2 ^ 1000 := bM (m := 240) (Nat.le_trans (Nat.pow_le_pow_left (show n <= 2 ^ 6 by omega) i) (by rw [← Nat.pow_mul]; exact Nat.pow_le_pow_right (by decide) (by omega))) (by decide)
theorem vb {n : Nat} (h : n <= 40) : m_power K a [.int (n : Int), .int (n : Int)] β = some (.ok (.int ((n ^ n : Nat) : Int)), β) := by
 refine aS ?_
 unfold mN
 refine aJ (d := .int 1) (β1 := β) rfl ?_
 refine bI (ds := br 0 n) (β1 := β) (cA rfl (rg1 (by omega) (by omega))) (fun i δ β' => β = β' /\ i <= n /\ ∃ s3, δ = [some (.sh (.int (n : Int))), some (.sh (.int (n : Int))), some (.sh (.int ((n ^ i : Nat) : Int))), s3]) ⟨rfl, by omega, none, rfl⟩ ?_ ?_
 ·rintro i d δ _ hd ⟨rfl, _, s3, rfl⟩
  obtain ⟨hi, rfl⟩ := ou hd
  exact ⟨_, rfl, ar (om rfl rfl (cK (ow h (by omega)) (sm (by omega))) (aV ⟨rfl, by omega, _, rfl⟩))⟩
 ·rintro δ _ ⟨rfl, _, s3, rfl⟩
  rw [lz]
  exact ar (aN rfl ⟨rfl, rfl⟩)
theorem uW {n : Nat} (h : n <= 40) : m_l_self_power K a [.int (n : Int)] β = some (.ok (.int ((n ^ n : Nat) : Int)), β) := by
 refine aS ?_
 unfold fw
 refine aJ (d := .int 1) (β1 := β) rfl ?_
 refine bI (ds := br 0 n) (β1 := β) (cA rfl (rg1 (by omega) (by omega))) (fun i δ β' => β = β' /\ i <= n /\ ∃ s2, δ = [some (.sh (.int (n : Int))), some (.sh (.int ((n ^ i : Nat) : Int))), s2]) ⟨rfl, by omega, none, rfl⟩ ?_ ?_
 ·rintro i d δ _ hd ⟨rfl, _, s2, rfl⟩
  obtain ⟨hi, rfl⟩ := ou hd
  exact ⟨_, rfl, ar (aJ (x_2 rfl rfl (cK (ow h (by omega)) (sm (by omega)))) (aV ⟨rfl, by omega, _, rfl⟩))⟩
 ·rintro δ _ ⟨rfl, _, s2, rfl⟩
  rw [lz]
  exact ar (aN rfl ⟨rfl, rfl⟩)
def pwN (l : List Nat) : Nat := pr (l.map fun n => n ^ n)
theorem pd {l : List Nat} {i : Nat} (h : l.sum <= 40) : pr ((l.take i).map fun n => n ^ n) <= 2 ^ (6 * (l.take i).sum) := yE fun x hx => Nat.le_trans (en (List.mem_of_mem_take hx)) h
theorem yr {l : List Nat} (i : Nat) : (l.take i).sum <= l.sum := by
 have := rc (f := fun n : Nat => n) (l := l) i
 simpa using this
theorem va {l : List Nat} {cd : D} (hs : Sq l cd) (h : l.sum <= 40) : m_power_part K a [cd] β = some (.ok (.int ((pwN l : Nat) : Int)), β) := by
 refine aS ?_
 unfold gJ
 refine aJ (d := .int 1) (β1 := β) rfl ?_
 refine bI (ds := (nI l).map D.int) (β1 := β) (gx rfl hs.seq) (fun i δ β' => β = β' /\ ∃ s2, δ = [some (.sh cd), some (.sh (.int ((pr ((l.take i).map fun n => n ^ n) : Nat) : Int))), s2]) ⟨rfl, none, rfl⟩ ?_ ?_
 ·rintro i d δ _ hd ⟨rfl, s2, rfl⟩
  obtain ⟨n, hn, rfl⟩ := gh hd
  refine ⟨_, rfl, ar (om rfl (aA rfl (vb (d4 h hn))) (cK (bM (pd h) (by have := yr (l := l) i; omega)) (ow (d4 h hn) (d4 h hn))) (aV ⟨rfl, some (.sh (.int (n : Int))), ?_⟩))⟩
  rw [fm (f := fun n => n ^ n) hn]; rfl
 ·rintro δ _ ⟨rfl, s2, rfl⟩
  rw [eJ, List.take_length]
  exact ar (aN rfl ⟨rfl, rfl⟩)
end
section
variable {K : PySem.W.Frag} {a : Ad}
theorem z7 : ∀ (y x : Nat) (β : Bg), bv (fB (f2 (gtD) (aa 1) (fC (.int 0)))) (fD 0 1 (ae (aa 1) (ae (f2 kI (aa 0) (aa 1)) (ah)))) (y + 1) [some (.sh (.int x)), some (.sh (.int y))] β = some (.nx [some (.sh (.int (Nat.gcd x y : Nat))), some (.sh (.int 0))], β) := by
 intro y
 induction y using Nat.strongRecOn with
 | ind y ih =>
  intro x β
  by_cases hy : y = 0
  ·subst hy
   unfold bv
   simp only [ai, aE, fD, aa, fC, f2, ah, ae, fB, M.bind, M.ret, M.ofO, vw, vwA, stD, List.map_cons, List.map_nil, List.set_cons_zero, List.set_cons_succ, List.getD_cons_zero, List.getD_cons_succ, List.length_cons, List.length_nil, List.replicate_zero, List.replicate_succ, List.append_nil, List.cons_append, List.nil_append, Nat.sub_self, Nat.reduceSub, Nat.reduceAdd, Int.reduceLT, gq, ig, asB, Option.map_some, Option.bind_some, if_true, if_false, reduceIte, decide_true, decide_false, Bool.false_eq_true, Int.natCast_zero, Int.lt_irrefl, Nat.gcd_zero_right]
  ·have h0 : (0 : Int) < (y : Int) := by omega
   have hm : (x : Int) % (y : Int) = ((x % y : Nat) : Int) := by simp
   have step := hZ (ih (x % y) (Nat.mod_lt _ (by omega)) y β) (show x % y + 1 <= y from Nat.mod_lt _ (by omega))
   have eg : Nat.gcd y (x % y) = Nat.gcd x y := by rw [Nat.gcd_comm x y, Nat.gcd_rec y x, Nat.gcd_comm]
   rw [eg] at step
   unfold bv
   simp only [ai, aE, fD, aa, fC, f2, ah, ae, fB, M.bind, M.ret, M.ofO, vw, vwA, stD, List.map_cons, List.map_nil, List.set_cons_zero, List.set_cons_succ, List.getD_cons_zero, List.getD_cons_succ, List.length_cons, List.length_nil, List.replicate_zero, List.replicate_succ, List.append_nil, List.cons_append, List.nil_append, Nat.sub_self, Nat.reduceSub, Nat.reduceAdd, Int.reduceLT, gq, ig, asB, Option.map_some, Option.bind_some, if_true, if_false, reduceIte, decide_true, decide_false, Bool.false_eq_true, h0, hm, step]
theorem Ez {β : Bg} (x y : Nat) : m_common_factor K a [.int x, .int y] β = some (.ok (.int (Nat.gcd x y : Nat)), β) := by
 have l := uw (z7 y x β)
 unfold m_common_factor aK eM
 simp only [ai, aE, fD, aa, fC, f2, ah, ae, fB, M.bind, M.ret, M.ofO, vw, vwA, stD, List.map_cons, List.map_nil, List.set_cons_zero, List.set_cons_succ, List.getD_cons_zero, List.getD_cons_succ, List.length_cons, List.length_nil, List.replicate_zero, List.replicate_succ, List.append_nil, List.cons_append, List.nil_append, Nat.sub_self, Nat.reduceSub, Nat.reduceAdd, Int.reduceLT, gq, ig, asB, Option.map_some, Option.bind_some, if_true, if_false, reduceIte, decide_true, decide_false, Bool.false_eq_true, l]
end
section
variable {K : PySem.W.Frag} {a : Ad} {β : Bg}
theorem oA {g : G} {δ : Ds} {o : Out} (h : Gw g δ β (fun o' β' => o' = o /\ β' = β)) : g δ β = some (o, β) := by
 obtain ⟨o', β', e, rfl, rfl⟩ := h
 exact e
theorem ul : ∀ (y x : Nat) (s2 : Option Sl) (β : Bg), ∃ s2', bv (fB (f2 (gtD) (aa 1) (fC (.int 0)))) (ai (aG 2 (f2 kI (aa 0) (aa 1))) (ai (aG 0 (aa 1)) (aG 1 (aa 2)))) (y + 1) [some (.sh (.int x)), some (.sh (.int y)), s2] β = some (.nx [some (.sh (.int (Nat.gcd x y : Nat))), some (.sh (.int 0)), s2'], β) := by
 intro y
 induction y using Nat.strongRecOn with
 | ind y ih =>
  intro x s2 β
  by_cases hy : y = 0
  ·subst hy
   refine ⟨s2, ?_⟩
   unfold bv
   simp only [aa, fC, f2, fB, M.bind, M.ret, M.ofO, vw, vwA, List.map_cons, List.map_nil, List.getD_cons_zero, List.getD_cons_succ, ig, asB, Int.natCast_zero, Int.lt_irrefl, decide_false, Nat.gcd_zero_right]
  ·have h0 : (0 : Int) < (y : Int) := by omega
   have hm : (x : Int) % (y : Int) = ((x % y : Nat) : Int) := by simp
   obtain ⟨s2', step⟩ := ih (x % y) (Nat.mod_lt _ (by omega)) y (some (.sh (.int ((x % y : Nat) : Int)))) β
   have step := hZ step (show x % y + 1 <= y from Nat.mod_lt _ (by omega))
   have eg : Nat.gcd y (x % y) = Nat.gcd x y := by rw [Nat.gcd_comm x y, Nat.gcd_rec y x, Nat.gcd_comm]
   rw [eg] at step
   refine ⟨s2', ?_⟩
   unfold bv
   have t1 : fB (f2 (gtD) (aa 1) (fC (.int 0))) (vwA [some (.sh (.int x)), some (.sh (.int y)), s2]) β = some (.ok true, β) := x_B (x_2 rfl rfl (by rw [gt_int, decide_eq_true h0]))
   have t2 : ai (aG 2 (f2 kI (aa 0) (aa 1))) (ai (aG 0 (aa 1)) (aG 1 (aa 2))) [some (.sh (.int x)), some (.sh (.int y)), s2] β = some (.nx [some (.sh (.int (y : Int))), some (.sh (.int ((x % y : Nat) : Int))), some (.sh (.int ((x % y : Nat) : Int)))], β) := oA (aJ (d := .int ((x % y : Nat) : Int)) (β1 := β) (x_2 rfl rfl (by show (if decide ((0 : Int) < (y : Int)) = true then _ else _) = _; rw [decide_eq_true h0, if_pos rfl, hm])) (aJ (d := .int (y : Int)) (β1 := β) rfl (ar (aJ (d := .int ((x % y : Nat) : Int)) (β1 := β) rfl (aV ⟨rfl, rfl⟩)))))
   simp only [t1, t2, step]
theorem zJ (x y : Nat) : m_l_gcd K a [.int x, .int y] β = some (.ok (.int (Nat.gcd x y : Nat)), β) := by
 obtain ⟨s2, l⟩ := ul y x none β
 refine aS ?_
 unfold mP
 exact fE (uw l) (ar (aN rfl ⟨rfl, rfl⟩))
theorem oy {l : List Nat} (h : ∀ n ∈ l, 1 <= n /\ n <= 2 ^ 11) (hl : l.length <= 24) : 1 <= lcF l /\ lcF l < 2 ^ 1000 := ⟨(um h).1, bM (um h).2 (by omega)⟩
theorem lO {t n : Nat} (h1 : 1 <= t) (h2 : t < 2 ^ 1000) : 0 < Nat.gcd t n /\ Nat.gcd t n < 2 ^ 1000 := ⟨Nat.gcd_pos_of_pos_left _ h1, Nat.lt_of_le_of_lt (Nat.gcd_le_left _ h1) h2⟩
theorem A8 {ns : List Nat} (h : ∀ n ∈ ns, 1 <= n /\ n <= 2 ^ 11) (hl : ns.length <= 24) : m_least_common K a [nL ns] β = some (.ok (.int ((lcF ns : Nat) : Int)), β) := by
 refine aS ?_
 unfold fu
 refine aJ (d := .int 1) (β1 := β) rfl ?_
 refine bI (ds := (nI ns).map D.int) (β1 := β) rfl (fun i δ β' => β = β' /\ ∃ s2, δ = [some (.sh (nL ns)), some (.sh (.int ((lcF (ns.take i) : Nat) : Int))), s2]) ⟨rfl, none, rfl⟩ ?_ ?_
 ·rintro i d δ _ hd ⟨rfl, s2, rfl⟩
  obtain ⟨n, hn, rfl⟩ := gh hd
  obtain ⟨n1, n2⟩ := h n (List.mem_of_getElem? hn)
  obtain ⟨t1, t2⟩ := oy (l := ns.take i) (fun x hx => h x (List.mem_of_mem_take hx)) (by rw [List.length_take]; omega)
  refine ⟨_, rfl, ar (aJ (x_2 (x_2 rfl rfl (cK t2 (sm n2))) (aA rfl (Ez _ n)) (l9 (lO t1 t2).1 (lO t1 t2).2)) (aV ⟨rfl, some (.sh (.int (n : Int))), ?_⟩))⟩
  rw [ij hn, qF]; rfl
 ·rintro δ _ ⟨rfl, s2, rfl⟩
  rw [eJ, List.take_length]
  exact ar (aN rfl ⟨rfl, rfl⟩)
def fk (x : Nat) (ys : List Nat) : List Nat := (ys.filter fun y => decide (0 < x * y)).map fun y => x * y
def prodN (xs ys : List Nat) : List Nat := xs.flatMap fun x => fk x ys
theorem pp {x y : Nat} (hx : x <= 40) (hy : y <= 40) : x * y <= 1600 := Nat.mul_le_mul hx hy
theorem qv {x : Nat} {ys : List Nat} (hx : x <= 40) (hy : ∀ y ∈ ys, y <= 40) : ∀ n ∈ fk x ys, 1 <= n /\ n <= 2 ^ 11 := fun n hn => by
 obtain ⟨y, h1, rfl⟩ := List.mem_map.mp hn
 have := (List.mem_filter.mp h1).2
 rw [decide_eq_true_eq] at this
 have := pp hx (hy y (List.mem_filter.mp h1).1)
 omega
theorem o8 {x : Nat} {ys : List Nat} : (fk x ys).length <= ys.length := by unfold fk; rw [List.length_map]; exact List.length_filter_le _ _
theorem iZ {xs ys : List Nat} (hx : ∀ x ∈ xs, x <= 40) (hy : ∀ y ∈ ys, y <= 40) : ∀ n ∈ prodN xs ys, 1 <= n /\ n <= 2 ^ 11 := fun n hn => by
 obtain ⟨x, h1, h2⟩ := List.mem_flatMap.mp hn
 exact qv (hx x h1) hy n h2
theorem gY {xs ys : List Nat} (hy : ys.length <= 6) : (prodN xs ys).length <= xs.length * 6 := by
 unfold prodN
 induction xs with
 | nil => simp
 | cons x xs ih =>
  rw [List.flatMap_cons, List.length_append, List.length_cons]
  have := o8 (x := x) (ys := ys)
  omega
structure Ok2 (xs ys : List Nat) : Prop where
 lx : xs.length <= 4
 ly : ys.length <= 6
 hx : ∀ x ∈ xs, x <= 40
 hy : ∀ y ∈ ys, y <= 40
theorem u9 {xs ys : List Nat} (o : Ok2 xs ys) {i j x : Nat} (hx : x <= 40) (hi : i <= 3) : (∀ n ∈ prodN (xs.take i) ys ++ fk x (ys.take j), 1 <= n /\ n <= 2 ^ 11) /\ (prodN (xs.take i) ys ++ fk x (ys.take j)).length <= 24 := by
 refine ⟨fun n hn => ?_, ?_⟩
 ·rcases List.mem_append.mp hn with h | h
  ·exact iZ (fun x hx => o.hx x (List.mem_of_mem_take hx)) o.hy n h
  ·exact qv hx (fun y hy => o.hy y (List.mem_of_mem_take hy)) n h
 ·rw [List.length_append]
  have h1 := gY (xs := xs.take i) o.ly
  have h2 := o8 (x := x) (ys := ys.take j)
  rw [List.length_take] at h1 h2
  have := o.ly
  omega
theorem vE {xs ys : List Nat} (o : Ok2 xs ys) : m_l_even K a [nL xs, nL ys] β = some (.ok (.int ((lcF (prodN xs ys) : Nat) : Int)), β) := by
 have lx := o.lx
 refine aS ?_
 unfold kO
 refine aJ (d := .int 1) (β1 := β) rfl ?_
 refine bI (ds := (nI xs).map D.int) (β1 := β) rfl (fun i δ β' => β = β' /\ ∃ s3 s4 s5, δ = [some (.sh (nL xs)), some (.sh (nL ys)), some (.sh (.int ((lcF (prodN (xs.take i) ys) : Nat) : Int))), s3, s4, s5]) ⟨rfl, none, none, none, rfl⟩ ?_ ?_
 ·rintro i d δ _ hd ⟨rfl, s3, s4, s5, rfl⟩
  obtain ⟨x, hx, rfl⟩ := gh hd
  have hx40 := o.hx x (List.mem_of_getElem? hx)
  have hi : i < xs.length := (List.getElem?_eq_some_iff.mp hx).1
  refine ⟨[some (.sh (nL xs)), some (.sh (nL ys)), some (.sh (.int ((lcF (prodN (xs.take i) ys) : Nat) : Int))), some (.sh (.int (x : Int))), s4, s5], rfl, ar ?_⟩
  refine bI (ds := (nI ys).map D.int) (β1 := β) rfl (fun j δ β' => β = β' /\ ∃ s4 s5, δ = [some (.sh (nL xs)), some (.sh (nL ys)), some (.sh (.int ((lcF (prodN (xs.take i) ys ++ fk x (ys.take j)) : Nat) : Int))), some (.sh (.int (x : Int))), s4, s5]) ⟨rfl, s4, s5, by rw [List.take_zero]; show _ = [_, _, some (Sl.sh (D.int ((lcF (prodN (xs.take i) ys ++ []) : Nat) : Int))), _, _, _]; rw [List.append_nil]⟩ ?_ ?_
  ·rintro j d δ _ hd ⟨rfl, s4, s5, rfl⟩
   obtain ⟨y, hy, rfl⟩ := gh hd
   have hy40 := o.hy y (List.mem_of_getElem? hy)
   have hxy := pp hx40 hy40
   obtain ⟨p1, p2⟩ := u9 o (i := i) (j := j) hx40 (by omega)
   obtain ⟨t1, t2⟩ := oy p1 p2
   have er : ∀ (q : Bool), decide (0 < x * y) = q -> prodN (xs.take i) ys ++ fk x (ys.take (j + 1)) = (prodN (xs.take i) ys ++ fk x (ys.take j)) ++ if q = true then [x * y] else [] := fun q hq => by
    unfold fk
    rw [ij hy, List.filter_append, List.map_append, List.append_assoc]
    cases q <;> simp [hq]
   refine ⟨[some (.sh (nL xs)), some (.sh (nL ys)), some (.sh (.int ((lcF (prodN (xs.take i) ys ++ fk x (ys.take j)) : Nat) : Int))), some (.sh (.int (x : Int))), some (.sh (.int (y : Int))), s5], rfl, ?_⟩
   refine aJ (d := .int ((x * y : Nat) : Int)) (β1 := β) (x_2 rfl rfl (cK (sm (by omega)) (sm (by omega)))) (ar (fc (c := decide (0 < x * y)) (β1 := β) (x_B (x_2 rfl rfl (gt_int.trans (by congr 2; simp only [decide_eq_decide]; omega)))) ?_))
   cases q : decide (0 < x * y) with
   | true =>
    rw [if_pos rfl, er true q]
    refine aJ (x_2 (x_2 rfl rfl (cK t2 (sm (by omega)))) (aA rfl (zJ _ (x * y))) (l9 (lO t1 t2).1 (lO t1 t2).2)) (aV ⟨rfl, some (.sh (.int (y : Int))), some (.sh (.int ((x * y : Nat) : Int))), ?_⟩)
    rw [if_pos rfl, qF]; rfl
   | false =>
    rw [if_neg Bool.false_ne_true, er false q]
    refine aQ (aV ⟨rfl, some (.sh (.int (y : Int))), some (.sh (.int ((x * y : Nat) : Int))), ?_⟩)
    rw [if_neg Bool.false_ne_true, List.append_nil]; rfl
  ·rintro δ _ ⟨rfl, s4, s5, rfl⟩
   rw [eJ, List.take_length]
   refine aV ⟨rfl, some (.sh (.int (x : Int))), s4, s5, ?_⟩
   have : prodN (xs.take (i + 1)) ys = prodN (xs.take i) ys ++ fk x ys := by
    unfold prodN
    rw [ij hx, List.flatMap_append]
    simp
   rw [this]
 ·rintro δ _ ⟨rfl, s3, s4, s5, rfl⟩
  rw [eJ, List.take_length]
  exact ar (aN rfl ⟨rfl, rfl⟩)
end
end Law
set_option maxHeartbeats 4000000
namespace Law
open PySem L2 L2.Pu
section
variable {K : PySem.W.Frag} {a : Ad} {β : Bg}
abbrev zsN (l xs : List Nat) (y : Nat) : List (Nat × Nat) := l.zip (xs.map fun x => x * y)
def sqF (e : Nat) (z : Nat × Nat) : Nat := if 0 < z.2 then z.1 * z.1 * e / z.2 else 0
def offF (T : Nat) (z : Nat × Nat) : Nat := (((z.1 * T : Nat) : Int) - (z.2 : Int)).natAbs
def sqN (e : Nat) (l xs : List Nat) (y : Nat) : Nat := ((zsN l xs y).map (sqF e)).sum
def offN (T : Nat) (l xs : List Nat) (y : Nat) : Nat := ((zsN l xs y).map (offF T)).sum
theorem qX {l xs : List Nat} {y : Nat} {z : Nat × Nat} (hl : l.sum <= 40) (hx : ∀ x ∈ xs, x <= 40) (hy : y <= 40) (h : z ∈ zsN l xs y) : z.1 <= 40 /\ z.2 <= 1600 := by
 have h1 := List.of_mem_zip h
 obtain ⟨x, hx', e⟩ := List.mem_map.mp h1.2
 exact ⟨Nat.le_trans (en h1.1) hl, by rw [← e]; exact pp (hx x hx') hy⟩
theorem Aw {e : Nat} {n p : Nat} (he : e < 2 ^ 1000) (hn : n <= 40) (hp : p <= 1600) (h0 : 0 < p) {f g h : Dn -> M D} {δ : Dn} (e1 : f δ β = some (.ok (.int (n : Int)), β)) (e2 : g δ β = some (.ok (.int (e : Int)), β)) (e3 : h δ β = some (.ok (.int (p : Int)), β)) :
  f2 eS (f2 bb (f2 bb f f) g) h δ β = some (.ok (.int ((sqF e (n, p) : Nat) : Int)), β) := by
 have hnn := pp hn hn
 unfold sqF
 rw [if_pos h0]
 exact x_2 (x_2 (x_2 e1 e1 (cK (sm (by omega)) (sm (by omega)))) e2 (cK (sm (by omega)) he)) e3 (l9 h0 (sm (by omega)))
theorem yW {T n p : Nat} (hT : T <= 40) (hn : n <= 40) {f g h : Dn -> M D} {δ : Dn} (e1 : f δ β = some (.ok (.int (n : Int)), β)) (e2 : g δ β = some (.ok (.int (T : Int)), β)) (e3 : h δ β = some (.ok (.int (p : Int)), β)) :
  aq f9 (ae (f2 iS (f2 bb f g) h) ah) δ β = some (.ok (.int ((offF T (n, p) : Nat) : Int)), β) := by
 refine bc (am (x_2 (x_2 e1 e2 (cK (sm (by omega)) (sm (by omega)))) e3 rfl) rfl) ?_
 show some (D.int (if _ then _ else _)) = some (D.int (((((n * T : Nat) : Int) - (p : Int)).natAbs : Nat) : Int))
 congr 2
 by_cases q : ((n * T : Nat) : Int) - (p : Int) < 0
 ·rw [if_pos q]; omega
 ·rw [if_neg q]; omega
theorem ym {l m : List Nat} {cd : D} (hs : Sq l cd) {f g : Dn -> M D} {δ : Dn} (e1 : f δ β = some (.ok cd, β)) (e2 : g δ β = some (.ok (nL m), β)) : d5 (ae f (ae g ah)) δ β = some (.ok ((l.zip m).map fun z => D.tup [.int (z.1 : Int), .int (z.2 : Int)]), β) := by
 have h : d5 (ae f (ae g ah)) δ β = some (.ok (cR ((nI l).map D.int) ((nI m).map D.int)), β) := by
  rcases hs with rfl | rfl
  ·exact cA (am e1 (am e2 rfl)) rfl
  ·exact cA (am e1 (am e2 rfl)) rfl
 rw [h, List.map_map, List.map_map]
 exact congrArg (fun z => some (Except.ok z, β)) (oI ..)
theorem pK {α : Type} {p : α -> Bool} {g : α -> Nat} : ∀ l : List α, ((l.filter p).map g).sum = (l.map fun x => if p x = true then g x else 0).sum
 | [] => rfl
 | x :: l => by
  rw [List.filter_cons, List.map_cons, List.sum_cons, ← pK l]
  by_cases q : p x = true
  ·rw [if_pos q, if_pos q, List.map_cons, List.sum_cons]
  ·rw [if_neg q, if_neg q, Nat.zero_add]
theorem pk {α : Type} (g : α -> Nat) (l : List α) : D.lst (l.map fun x => D.int ((g x : Nat) : Int)) = nL (l.map g) := by
 show _ = D.lst (((l.map g).map _).map _)
 rw [List.map_map, List.map_map]; rfl
theorem sT {l xs : List Nat} {y : Nat} (h : l.length <= 1000) : (zsN l xs y).length <= 1000 := by rw [List.length_zip]; omega
theorem tM {e : Nat} {l xs : List Nat} {y : Nat} {cd : D} (hs : Sq l cd) (hl : l.sum <= 40) (ll : l.length <= 4) (hx : ∀ x ∈ xs, x <= 40) (hy : y <= 40) (he : e < 2 ^ 1000) : m_square_part K a [cd, nL (xs.map fun x => x * y), .int (e : Int)] β = some (.ok (.int ((sqN e l xs y : Nat) : Int)), β) := by
 refine aS ?_
 unfold f6
 have c := v3 (nv := 2) (caps := [2]) (it := d5 (ae (aa 0) (ae (aa 1) (ah)))) (tg := tgT (dk (tgC 0) (dk (tgC 1) gA))) (tt := fB (f2 (gtD) (aa 1) (fC (.int 0)))) (f := f2 eS (f2 bb (f2 bb (aa 0) (aa 0)) (aa 2)) (aa 1)) (δ := [some cd, some (nL (xs.map fun x => x * y)), some (.int (e : Int))]) (β := β) (zsN l xs y) (fun z => D.tup [.int (z.1 : Int), .int (z.2 : Int)]) (fun z => D.int ((sqF e z : Nat) : Int)) (fun z => decide (0 < z.2)) (ym hs rfl rfl)
  (fun z hz => ⟨[some (.int (z.1 : Int)), some (.int (z.2 : Int)), some (.int (e : Int))], rfl, x_B (x_2 rfl rfl (gt_int.trans (by congr 2; simp only [decide_eq_decide]; omega))), fun q => Aw he (qX hl hx hy hz).1 (qX hl hx hy hz).2 (of_decide_eq_true q) rfl rfl rfl⟩) (dX (sT (by omega)))
 rw [pk] at c
 refine ar (aN (bc (am c rfl) (jN _)) ⟨rfl, ?_⟩)
 rw [pK]
 unfold sqN
 congr 4
 refine List.map_congr_left fun z _ => ?_
 unfold sqF
 by_cases q : 0 < z.2
 ·simp [q]
 ·simp [q]
theorem zB {T : Nat} {l xs : List Nat} {y : Nat} {cd : D} (hs : Sq l cd) (hl : l.sum <= 40) (ll : l.length <= 4) (hx : ∀ x ∈ xs, x <= 40) (hy : y <= 40) (hT : T <= 40) : m_off_part K a [cd, nL (xs.map fun x => x * y), .int (T : Int)] β = some (.ok (.int ((offN T l xs y : Nat) : Int)), β) := by
 refine aS ?_
 unfold je
 have c := d9 (nv := 2) (caps := [2]) (it := d5 (ae (aa 0) (ae (aa 1) (ah)))) (tg := tgT (dk (tgC 0) (dk (tgC 1) gA))) (f := aq f9 (ae (f2 iS (f2 bb (aa 0) (aa 2)) (aa 1)) (ah))) (δ := [some cd, some (nL (xs.map fun x => x * y)), some (.int (T : Int))]) (β := β) (zsN l xs y) (fun z => D.tup [.int (z.1 : Int), .int (z.2 : Int)]) (fun z => D.int ((offF T z : Nat) : Int)) (ym hs rfl rfl)
  (fun z hz => ⟨[some (.int (z.1 : Int)), some (.int (z.2 : Int)), some (.int (T : Int))], rfl, yW hT (qX hl hx hy hz).1 rfl rfl rfl⟩) (dX (sT (by omega)))
 rw [pk] at c
 exact ar (aN (bc (am c rfl) (jN _)) ⟨rfl, rfl⟩)
structure Cols (r c : Nat) (xs ys : List Nat) (cs : List (List Nat)) : Prop where
 ok : Ok2 xs ys
 lx : xs.length = r
 ly : ys.length = c
 lc : cs.length = c
 len : ∀ l ∈ cs, l.length = r
 le : ∀ l ∈ cs, l.sum <= 40
 tot : (cs.map List.sum).sum <= 40
 tx : xs.sum <= 40
abbrev RS (f : Nat -> Nat) (n : Nat) : Nat := ((List.range n).map f).sum
abbrev RP (f : Nat -> Nat) (n : Nat) : Nat := pr ((List.range n).map f)
theorem m9 (f : Nat -> Nat) (n : Nat) : RS f (n + 1) = RS f n + f n := by unfold RS; rw [List.range_succ, List.map_append, List.sum_append]; simp
theorem qV (f : Nat -> Nat) (n : Nat) : RP f (n + 1) = RP f n * f n := by unfold RP; rw [List.range_succ, List.map_append, tY]; simp [pr]
theorem bU {α : Type} {l : List α} {i : Nat} {x d : α} (h : l[i]? = some x) : l.getD i d = x := by rw [List.getD_eq_getElem?_getD, h]; rfl
theorem gn {l : List Nat} {i n : Nat} (h : l[i]? = some n) : ixD (nL l) (.int (i : Int)) = some (.int (n : Int)) := kg (by rw [List.getElem?_map, List.getElem?_map, h]; rfl)
theorem qP {l : List Nat} {i : Nat} {d : D} (h : (cx 0 ((nI l).map D.int))[i]? = some d) : ∃ n, l[i]? = some n /\ d = .tup [.int (i : Int), .int (n : Int)] := by
 obtain ⟨x, hx, rfl⟩ := iG h
 obtain ⟨n, hn, rfl⟩ := gh hx
 exact ⟨n, hn, rfl⟩
theorem yk {l xs : List Nat} {i n x y : Nat} (h1 : l[i]? = some n) (h2 : xs[i]? = some x) : (zsN l xs y)[i]? = some (n, x * y) := by
 rw [List.getElem?_zip_eq_some]
 exact ⟨h1, by rw [List.getElem?_map, h2]; rfl⟩
theorem eW {α : Type} {l : List α} {i : Nat} (h : i < l.length) : ∃ x, l[i]? = some x := ⟨_, List.getElem?_eq_getElem h⟩
abbrev sqS (xs ys : List Nat) (cs : List (List Nat)) (e t : Nat) (s5 s6 s7 s8 s9 : Option Sl) : Ds := [some (.sh (nL xs)), some (.sh (nL ys)), some (.sh (cL cs)), some (.sh (.int (e : Int))), some (.sh (.int (t : Int))), s5, s6, s7, s8, s9]
theorem rJ {r c : Nat} {xs ys : List Nat} {cs : List (List Nat)} (C : Cols r c xs ys cs) : m_l_square K a [nL xs, nL ys, cL cs] β = some (.ok (.int ((RS (fun j => sqN (lcF (prodN xs ys)) (cs.getD j []) xs (ys.getD j 0)) c : Nat) : Int)), β) := by
 have he := oy (iZ C.ok.hx C.ok.hy) (by have := gY (xs := xs) C.ok.ly; have := C.ok.lx; omega)
 refine aS ?_
 unfold jg
 refine aJ (d := .int ((lcF (prodN xs ys) : Nat) : Int)) (β1 := β) (aA rfl (vE C.ok)) ?_
 generalize lcF (prodN xs ys) = e at he
 refine aJ (d := .int 0) (β1 := β) rfl ?_
 refine bI (ds := cx 0 (cs.map nL)) (β1 := β) rfl (fun j δ β' => β = β' /\ ∃ s5 s6 s7 s8 s9, δ = sqS xs ys cs e (RS (fun j => sqN e (cs.getD j []) xs (ys.getD j 0)) j) s5 s6 s7 s8 s9) ⟨rfl, none, none, none, none, none, rfl⟩ ?_ ?_
 ·rintro j d δ _ hd ⟨rfl, s5, s6, s7, s8, s9, rfl⟩
  obtain ⟨d', hd', rfl⟩ := iG hd
  obtain ⟨l, hl, rfl⟩ := eK hd'
  have hj : j < c := by rw [← C.lc]; exact (List.getElem?_eq_some_iff.mp hl).1
  obtain ⟨y, hy⟩ := eW (l := ys) (i := j) (by rw [C.ly]; exact hj)
  have hlm := List.mem_of_getElem? hl
  have hy40 := C.ok.hy y (List.mem_of_getElem? hy)
  refine ⟨sqS xs ys cs e (RS (fun j => sqN e (cs.getD j []) xs (ys.getD j 0)) j) (some (.sh (.int (j : Int)))) (some (.sh (nL l))) s7 s8 s9, rfl, ar ?_⟩
  rw [m9, bU hl, bU hy]
  refine bI (ds := cx 0 ((nI l).map D.int)) (β1 := β) rfl (fun i δ β' => β = β' /\ ∃ s7 s8 s9, δ = sqS xs ys cs e (RS (fun j => sqN e (cs.getD j []) xs (ys.getD j 0)) j + (((zsN l xs y).take i).map (sqF e)).sum) (some (.sh (.int (j : Int)))) (some (.sh (nL l))) s7 s8 s9) ⟨rfl, s7, s8, s9, by rw [List.take_zero, List.map_nil, List.sum_nil, Nat.add_zero]⟩ ?_ ?_
  ·rintro i d δ _ hd ⟨rfl, s7, s8, s9, rfl⟩
   obtain ⟨n, hn, rfl⟩ := qP hd
   have hi : i < r := by rw [← C.len l hlm]; exact (List.getElem?_eq_some_iff.mp hn).1
   obtain ⟨x, hx⟩ := eW (l := xs) (i := i) (by rw [C.lx]; exact hi)
   have hx40 := C.ok.hx x (List.mem_of_getElem? hx)
   have hxy := pp hx40 hy40
   have hn40 := d4 (C.le l hlm) hn
   rw [mo (f := sqF e) (yk hn hx), ← Nat.add_assoc]
   generalize RS (fun j => sqN e (cs.getD j []) xs (ys.getD j 0)) j + (((zsN l xs y).take i).map (sqF e)).sum = t
   refine ⟨sqS xs ys cs e t (some (.sh (.int (j : Int)))) (some (.sh (nL l))) (some (.sh (.int (i : Int)))) (some (.sh (.int (n : Int)))) s9, rfl, ?_⟩
   refine aJ (d := .int ((x * y : Nat) : Int)) (β1 := β) (x_2 (x_2 rfl rfl (gn hx)) (x_2 rfl rfl (gn hy)) (cK (sm (by omega)) (sm (by omega)))) (ar (fc (c := decide (0 < x * y)) (β1 := β) (x_B (x_2 rfl rfl (gt_int.trans (by congr 2; simp only [decide_eq_decide]; omega)))) ?_))
   by_cases q : 0 < x * y
   ·rw [if_pos (decide_eq_true q)]
    exact aJ (x_2 rfl (Aw he.2 hn40 (by omega) q rfl rfl rfl) sS) (aV ⟨rfl, _, _, _, rfl⟩)
   ·rw [if_neg (by simpa using q)]
    refine aQ (aV ⟨rfl, some (.sh (.int (i : Int))), some (.sh (.int (n : Int))), some (.sh (.int ((x * y : Nat) : Int))), ?_⟩)
    unfold sqF
    rw [if_neg q, Nat.add_zero]; rfl
  ·rintro δ _ ⟨rfl, s7, s8, s9, rfl⟩
   refine aV ⟨rfl, some (.sh (.int (j : Int))), some (.sh (nL l)), s7, s8, s9, ?_⟩
   rw [c5, eJ, List.take_of_length_le (by rw [List.length_zip]; omega)]; rfl
 ·rintro δ _ ⟨rfl, s5, s6, s7, s8, s9, rfl⟩
  rw [c5, List.length_map, C.lc]
  exact ar (aN rfl ⟨rfl, rfl⟩)
abbrev ofS (xs ys : List Nat) (cs : List (List Nat)) (t T : Nat) (s5 s6 s7 s8 s9 : Option Sl) : Ds := [some (.sh (nL xs)), some (.sh (nL ys)), some (.sh (cL cs)), some (.sh (.int (t : Int))), some (.sh (.int (T : Int))), s5, s6, s7, s8, s9]
theorem zI {r c : Nat} {xs ys : List Nat} {cs : List (List Nat)} (C : Cols r c xs ys cs) : m_l_off K a [nL xs, nL ys, cL cs] β = some (.ok (.int ((RS (fun j => offN xs.sum (cs.getD j []) xs (ys.getD j 0)) c : Nat) : Int)), β) := by
 refine aS ?_
 unfold mO
 refine aJ (d := .int 0) (β1 := β) rfl ?_
 refine aJ (d := .int ((xs.sum : Nat) : Int)) (β1 := β) (bc rfl (jN xs)) ?_
 have hT := C.tx
 generalize xs.sum = T at hT
 refine bI (ds := cx 0 (cs.map nL)) (β1 := β) rfl (fun j δ β' => β = β' /\ ∃ s5 s6 s7 s8 s9, δ = ofS xs ys cs (RS (fun j => offN T (cs.getD j []) xs (ys.getD j 0)) j) T s5 s6 s7 s8 s9) ⟨rfl, none, none, none, none, none, rfl⟩ ?_ ?_
 ·rintro j d δ _ hd ⟨rfl, s5, s6, s7, s8, s9, rfl⟩
  obtain ⟨d', hd', rfl⟩ := iG hd
  obtain ⟨l, hl, rfl⟩ := eK hd'
  have hj : j < c := by rw [← C.lc]; exact (List.getElem?_eq_some_iff.mp hl).1
  obtain ⟨y, hy⟩ := eW (l := ys) (i := j) (by rw [C.ly]; exact hj)
  have hlm := List.mem_of_getElem? hl
  have hy40 := C.ok.hy y (List.mem_of_getElem? hy)
  refine ⟨ofS xs ys cs (RS (fun j => offN T (cs.getD j []) xs (ys.getD j 0)) j) T (some (.sh (.int (j : Int)))) (some (.sh (nL l))) s7 s8 s9, rfl, ar ?_⟩
  rw [m9, bU hl, bU hy]
  refine bI (ds := cx 0 ((nI l).map D.int)) (β1 := β) rfl (fun i δ β' => β = β' /\ ∃ s7 s8 s9, δ = ofS xs ys cs (RS (fun j => offN T (cs.getD j []) xs (ys.getD j 0)) j + (((zsN l xs y).take i).map (offF T)).sum) T (some (.sh (.int (j : Int)))) (some (.sh (nL l))) s7 s8 s9) ⟨rfl, s7, s8, s9, by rw [List.take_zero, List.map_nil, List.sum_nil, Nat.add_zero]⟩ ?_ ?_
  ·rintro i d δ _ hd ⟨rfl, s7, s8, s9, rfl⟩
   obtain ⟨n, hn, rfl⟩ := qP hd
   have hi : i < r := by rw [← C.len l hlm]; exact (List.getElem?_eq_some_iff.mp hn).1
   obtain ⟨x, hx⟩ := eW (l := xs) (i := i) (by rw [C.lx]; exact hi)
   have hx40 := C.ok.hx x (List.mem_of_getElem? hx)
   have hn40 := d4 (C.le l hlm) hn
   rw [mo (f := offF T) (yk hn hx), ← Nat.add_assoc]
   generalize RS (fun j => offN T (cs.getD j []) xs (ys.getD j 0)) j + (((zsN l xs y).take i).map (offF T)).sum = t
   refine ⟨ofS xs ys cs t T (some (.sh (.int (j : Int)))) (some (.sh (nL l))) (some (.sh (.int (i : Int)))) (some (.sh (.int (n : Int)))) s9, rfl, ?_⟩
   exact aJ (d := .int ((x * y : Nat) : Int)) (β1 := β) (x_2 (x_2 rfl rfl (gn hx)) (x_2 rfl rfl (gn hy)) (cK (sm (by omega)) (sm (by omega)))) (ar (aJ (x_2 rfl (yW hT hn40 rfl rfl rfl) sS) (aV ⟨rfl, _, _, _, rfl⟩)))
  ·rintro δ _ ⟨rfl, s7, s8, s9, rfl⟩
   refine aV ⟨rfl, some (.sh (.int (j : Int))), some (.sh (nL l)), s7, s8, s9, ?_⟩
   rw [c5, eJ, List.take_of_length_le (by rw [List.length_zip]; omega)]; rfl
 ·rintro δ _ ⟨rfl, s5, s6, s7, s8, s9, rfl⟩
  rw [c5, List.length_map, C.lc]
  exact ar (aN rfl ⟨rfl, rfl⟩)
end
end Law
set_option maxHeartbeats 4000000
namespace Law
open PySem L2 L2.Pu
inductive Kd where | rare | square | power | off | most | least
def Kd.nm : Kd -> Str
 | .rare => Str.ofString "rare" | .square => Str.ofString "square" | .power => Str.ofString "power" | .off => Str.ofString "off" | .most => Str.ofString "most" | .least => Str.ofString "least"
def Kd.isP : Kd -> Bool
 | .rare => true | .power => true | _ => false
def Kd.less : Kd -> Bool
 | .rare => true | .least => true | _ => false
def Kd.pl : Kd -> Bool
 | .most => true | .least => true | _ => false
section
variable {K : PySem.W.Frag} {a : Ad} {β : Bg}
def partF (k : Kd) (xs ys : List Nat) (p q j : Nat) (l : List Nat) : Nat := match k with
 | .rare => wayN l | .power => pwN l | .square => sqN (lcF (prodN xs ys)) l xs (ys.getD j 0) | .off => offN xs.sum l xs (ys.getD j 0) | _ => if j = q then l.getD p 0 else 0
def comb (k : Kd) (t n : Nat) : Nat := if k.isP = true then t * n else t + n
def totF (k : Kd) (f : Nat -> Nat) (n : Nat) : Nat := if k.isP = true then RP f n else RS f n
theorem jy (k : Kd) (f : Nat -> Nat) (n : Nat) : totF k f (n + 1) = comb k (totF k f n) (f n) := by
 unfold totF comb
 by_cases h : k.isP = true
 ·rw [if_pos h, if_pos h, if_pos h, qV]
 ·rw [if_neg h, if_neg h, if_neg h, m9]
abbrev pF (k : Kd) (xs ys : List Nat) (p q : Nat) (cs : List (List Nat)) : Nat -> Nat := fun j => partF k xs ys p q j (cs.getD j [])
theorem pS {cs : List (List Nat)} {g : List Nat -> Nat} {c n : Nat} (hc : cs.length = c) (hn : n <= c) : RP (fun j => g (cs.getD j [])) n = pr ((cs.take n).map g) := by
 induction n with
 | zero => rfl
 | succ n ih =>
  obtain ⟨l, hl⟩ := eW (l := cs) (i := n) (by omega)
  rw [qV, ih (by omega), fm hl, bU hl]
theorem AF {cs : List (List Nat)} (h : ∀ l ∈ cs, l.sum <= 40) : pr (cs.map pwN) <= 2 ^ (6 * (cs.map List.sum).sum) := by
 induction cs with
 | nil => decide
 | cons l cs ih =>
  show pwN l * pr (cs.map pwN) <= _
  rw [List.map_cons, List.sum_cons, Nat.mul_add, Nat.pow_add]
  refine Nat.mul_le_mul ?_ (ih fun x hx => h x (List.mem_cons_of_mem _ hx))
  exact yE fun x hx => Nat.le_trans (en hx) (h l List.mem_cons_self)
theorem yB {cs : List (List Nat)} (h : ∀ l ∈ cs, l.sum <= 40) (i : Nat) : pr ((cs.take i).map pwN) <= 2 ^ (6 * ((cs.take i).map List.sum).sum) := AF fun x hx => h x (List.mem_of_mem_take hx)
theorem kEq (k : Kd) : cN (.str k.nm) (.str (Str.ofString "rare")) = some (.bl (match k with | .rare => true | _ => false)) /\ cN (.str k.nm) (.str (Str.ofString "square")) = some (.bl (match k with | .square => true | _ => false)) /\ cN (.str k.nm) (.str (Str.ofString "off")) = some (.bl (match k with | .off => true | _ => false)) /\ cN (.str k.nm) (.str (Str.ofString "power")) = some (.bl (match k with | .power => true | _ => false)) /\ cy (.str k.nm) (.str (Str.ofString "power")) = some (.bl (match k with | .power => false | _ => true)) := by
 cases k <;> exact ⟨by kernel_rfl, by kernel_rfl, by kernel_rfl, by kernel_rfl, by kernel_rfl⟩
theorem kIn (k : Kd) : inD false (.str k.nm) (.tup [.str (Str.ofString "rare"), .str (Str.ofString "power")]) = some (.bl k.isP) /\ inD false (.str k.nm) (.tup [.str (Str.ofString "rare"), .str (Str.ofString "least")]) = some (.bl k.less) /\ inD false (.str k.nm) (.tup [.str (Str.ofString "most"), .str (Str.ofString "least")]) = some (.bl k.pl) /\ inD true (.str k.nm) (.tup [.str (Str.ofString "rare"), .str (Str.ofString "square"), .str (Str.ofString "power"), .str (Str.ofString "off"), .str (Str.ofString "most"), .str (Str.ofString "least")]) = some (.bl false) := by
 cases k <;> exact ⟨by kernel_rfl, by kernel_rfl, by kernel_rfl, by kernel_rfl⟩
theorem nu {xs ys : List Nat} {p q : Nat} {cs : List (List Nat)} {k : Kd} (hk : k.pl = true) (n : Nat) : totF k (pF k xs ys p q cs) n = if q < n then (cs.getD q []).getD p 0 else 0 := by
 have hp : k.isP = false := by cases k <;> first | rfl | cases hk
 have e : ∀ j, pF k xs ys p q cs j = if j = q then (cs.getD j []).getD p 0 else 0 := fun j => by cases k <;> first | rfl | cases hk
 induction n with
 | zero =>
  unfold totF
  rw [if_neg (by rw [hp]; exact Bool.false_ne_true), if_neg (by omega)]; rfl
 | succ n ih =>
  rw [jy, ih, e]
  unfold comb
  rw [if_neg (by rw [hp]; exact Bool.false_ne_true)]
  by_cases h : n = q
  ·subst h
   rw [if_neg (by omega), if_pos rfl, if_pos (by omega), Nat.zero_add]
  ·rw [if_neg h, Nat.add_zero]
   by_cases h2 : q < n
   ·rw [if_pos h2, if_pos (by omega)]
   ·rw [if_neg h2, if_neg (by omega)]
theorem uR {r c p q : Nat} {xs ys : List Nat} {cs : List (List Nat)} (C : Cols r c xs ys cs) (hp : p < r) (hq : q < c) (k : Kd) : m_l_value K a [.str k.nm, nL xs, nL ys, .tup [.int (p : Int), .int (q : Int)], cL cs] β = some (.ok (.int ((totF k (pF k xs ys p q cs) c : Nat) : Int)), β) := by
 obtain ⟨k1, k2, k3, k4, k5⟩ := kEq k
 have lc : cs.length <= 6 := by have := C.ok.ly; have := C.ly; have := C.lc; omega
 have full : ∀ g : List Nat -> Nat, RP (fun j => g (cs.getD j [])) c = pr (cs.map g) := fun g => by rw [pS C.lc (Nat.le_refl _), List.take_of_length_le (by rw [C.lc]; exact Nat.le_refl _)]
 refine aS ?_
 unfold jU
 cases k with
 | rare => exact eB (x_B (x_2 rfl rfl k1)) (aN (aA rfl (sX (fun l hl => ⟨C.le l hl, by rw [C.len l hl]; have := C.ok.lx; have := C.lx; omega⟩) lc)) ⟨rfl, by show _ = Except.ok (D.int ((pr (cs.map wayN) : Nat) : Int)); rw [← full wayN]; rfl⟩)
 | square => exact aU (x_B (x_2 rfl rfl k1)) (aQ (eB (x_B (x_2 rfl rfl k2)) (aN (aA rfl (rJ C)) ⟨rfl, rfl⟩)))
 | off => exact aU (x_B (x_2 rfl rfl k1)) (aQ (aU (x_B (x_2 rfl rfl k2)) (aQ (eB (x_B (x_2 rfl rfl k3)) (aN (aA rfl (zI C)) ⟨rfl, rfl⟩)))))
 | most =>
  obtain ⟨l, hl⟩ := eW (l := cs) (i := q) (by rw [C.lc]; exact hq)
  obtain ⟨n, hn⟩ := eW (l := l) (i := p) (by rw [C.len l (List.mem_of_getElem? hl)]; exact hp)
  refine aU (x_B (x_2 rfl rfl k1)) (aQ (aU (x_B (x_2 rfl rfl k2)) (aQ (aU (x_B (x_2 rfl rfl k3)) (aQ (eB (x_B (x_2 rfl rfl k5)) (aN (x_2 (x_2 rfl (x_2 rfl rfl pB) (kg (d := nL l) (by rw [List.getElem?_map, hl]; rfl))) (x_2 rfl rfl rL) (gn hn)) ⟨rfl, ?_⟩)))))))
  rw [nu rfl, if_pos hq, bU hl, bU hn]
 | least =>
  obtain ⟨l, hl⟩ := eW (l := cs) (i := q) (by rw [C.lc]; exact hq)
  obtain ⟨n, hn⟩ := eW (l := l) (i := p) (by rw [C.len l (List.mem_of_getElem? hl)]; exact hp)
  refine aU (x_B (x_2 rfl rfl k1)) (aQ (aU (x_B (x_2 rfl rfl k2)) (aQ (aU (x_B (x_2 rfl rfl k3)) (aQ (eB (x_B (x_2 rfl rfl k5)) (aN (x_2 (x_2 rfl (x_2 rfl rfl pB) (kg (d := nL l) (by rw [List.getElem?_map, hl]; rfl))) (x_2 rfl rfl rL) (gn hn)) ⟨rfl, ?_⟩)))))))
  rw [nu rfl, if_pos hq, bU hl, bU hn]
 | power =>
  refine aU (x_B (x_2 rfl rfl k1)) (aQ (aU (x_B (x_2 rfl rfl k2)) (aQ (aU (x_B (x_2 rfl rfl k3)) (aQ (aU (x_B (x_2 rfl rfl k5)) (aQ ?_)))))))
  refine aJ (d := .int 1) (β1 := β) rfl ?_
  refine bI (ds := cs.map nL) (β1 := β) rfl (fun j δ β' => β = β' /\ ∃ s6 s7, δ = [some (.sh (.str Kd.power.nm)), some (.sh (nL xs)), some (.sh (nL ys)), some (.sh (.tup [.int (p : Int), .int (q : Int)])), some (.sh (cL cs)), some (.sh (.int ((pr ((cs.take j).map pwN) : Nat) : Int))), s6, s7]) ⟨rfl, none, none, rfl⟩ ?_ ?_
  ·rintro j d δ _ hd ⟨rfl, s6, s7, rfl⟩
   obtain ⟨l, hl, rfl⟩ := eK hd
   have h40 := C.le l (List.mem_of_getElem? hl)
   have bd := yB C.le j
   have b2 := rc (f := List.sum) (l := cs) (j + 1)
   rw [mo hl] at b2
   have t40 := C.tot
   refine ⟨_, rfl, ar ?_⟩
   refine bI (ds := (nI l).map D.int) (β1 := β) rfl (fun i δ β' => β = β' /\ ∃ s7, δ = [some (.sh (.str Kd.power.nm)), some (.sh (nL xs)), some (.sh (nL ys)), some (.sh (.tup [.int (p : Int), .int (q : Int)])), some (.sh (cL cs)), some (.sh (.int ((pr ((cs.take j).map pwN) * pr ((l.take i).map fun n => n ^ n) : Nat) : Int))), some (.sh (nL l)), s7]) ⟨rfl, s7, by rw [List.take_zero, List.map_nil, tX, Nat.mul_one]; rfl⟩ ?_ ?_
   ·rintro i d δ _ hd ⟨rfl, s7, rfl⟩
    obtain ⟨n, hn, rfl⟩ := gh hd
    have b3 := Nat.mul_le_mul bd (pd (i := i) h40)
    rw [← Nat.pow_add] at b3
    have := yr (l := l) i
    refine ⟨_, rfl, ar (aJ (x_2 rfl (aA rfl (uW (d4 h40 hn))) (cK (bM b3 (by omega)) (ow (d4 h40 hn) (d4 h40 hn)))) (aV ⟨rfl, some (.sh (.int (n : Int))), ?_⟩))⟩
    rw [fm (f := fun n => n ^ n) hn, ← Nat.mul_assoc]; rfl
   ·rintro δ _ ⟨rfl, s7, rfl⟩
    refine aV ⟨rfl, some (.sh (nL l)), s7, ?_⟩
    rw [eJ, List.take_length, fm hl]; rfl
  ·rintro δ _ ⟨rfl, s6, s7, rfl⟩
   rw [List.length_map, List.take_length]
   refine ar (aN rfl ⟨rfl, ?_⟩)
   rw [← full pwN]; rfl
theorem zD {α : Type} {it : Dn -> M (List D)} {tg : TgF} {tt : Dn -> M Bool} {f : Dn -> M D} {δ : Dn} (xs : List α) (u v : α -> D) (c : α -> Bool) (h1 : it δ β = some (.ok (xs.map u), β))
  (h2 : ∀ x ∈ xs, ∃ δ1, tg (u x) δ = some δ1 /\ tt δ1 β = some (.ok (c x), β) /\ f δ1 β = some (.ok (v x), β)) : cNx it tg tt (cEm f) δ β = some (.ok ((xs.filter c).map v), β) := by
 have gen : ∀ xs : List α, (∀ x ∈ xs, ∃ δ1, tg (u x) δ = some δ1 /\ tt δ1 β = some (.ok (c x), β) /\ f δ1 β = some (.ok (v x), β)) -> cLp tg tt (cEm f) (xs.map u) δ β = some (.ok ((xs.filter c).map v), β) := by
  intro xs
  induction xs with
  | nil => intro _; rfl
  | cons x xs ih =>
   intro h
   obtain ⟨δ1, e1, e0, e2⟩ := h x List.mem_cons_self
   have e3 := ih fun y hy => h y (List.mem_cons_of_mem _ hy)
   rw [List.map_cons, cLp]
   cases q : c x with
   | true =>
    rw [q] at e0
    simp only [e1, e0, M.bind, M.ret, reduceIte, cEm, e2, e3, List.filter_cons, q, List.map_cons, List.cons_append, List.nil_append]
   | false =>
    rw [q] at e0
    simp only [e1, e0, M.bind, M.ret, reduceIte, cEm, e2, e3, List.filter_cons, q, Bool.false_eq_true, List.map_cons, List.cons_append, List.nil_append]
 unfold cNx
 rw [M.bind_ok h1]
 exact gen xs h2
abbrev mNs : List Str := ["kind", "row_list", "column_list", "place", "even"]
abbrev mFs (k : Kd) (xs ys : List Nat) (p q : Nat) : List D := [.str k.nm, nL xs, nL ys, .tup [.int (p : Int), .int (q : Int)], .int ((lcF (prodN xs ys) : Nat) : Int)]
theorem Bk {xs ys : List Nat} (o : Ok2 xs ys) {δ : Dn} (h2 : δ.getD 2 none = some (nL xs)) (h3 : δ.getD 3 none = some (nL ys)) : au (m_least_common K a) (ae (aT 2 [3] (ba (aa 2)) (tgC 0) (fun _ => M.ret true) (cNx (ba (aa 2)) (tgC 1) (fB (f2 (gtD) (f2 bb (aa 0) (aa 1)) (fC (.int 0)))) (cEm (f2 bb (aa 0) (aa 1))))) (ah)) δ β = some (.ok (.int ((lcF (prodN xs ys) : Nat) : Int)), β) := by
 have hcs : cSt 2 [3] δ = [none, none, some (nL ys)] := by
  unfold cSt
  simp only [List.map_cons, List.map_nil, h3]; rfl
 have mu : ∀ x ∈ xs, ∀ y ∈ ys, bb (.int (x : Int)) (.int (y : Int)) = some (.int ((x * y : Nat) : Int)) := fun x hx y hy => cK (sm (by have := o.hx x hx; omega)) (sm (by have := o.hy y hy; omega))
 have e : aT 2 [3] (ba (aa 2)) (tgC 0) (fun _ => M.ret true) (cNx (ba (aa 2)) (tgC 1) (fB (f2 (gtD) (f2 bb (aa 0) (aa 1)) (fC (.int 0)))) (cEm (f2 bb (aa 0) (aa 1)))) δ β = some (.ok (.lst (xs.flatMap fun x => (ys.filter fun y => decide (0 < x * y)).map fun y => D.int ((x * y : Nat) : Int))), β) := by
  refine z6 (nv := 2) (caps := [3]) xs (fun x => D.int (x : Int)) _ (gx (j4 h2) (by show some _ = _; rw [List.map_map]; rfl)) (fun x hx => ⟨[some (.int (x : Int)), none, some (nL ys)], by rw [hcs]; rfl, zD ys (fun y => D.int (y : Int)) _ _ (by show some (Except.ok ((nI ys).map D.int), β) = _; rw [List.map_map]; rfl) (fun y hy => ⟨[some (.int (x : Int)), some (.int (y : Int)), some (nL ys)], rfl, x_B (x_2 (x_2 rfl rfl (mu x hx y hy)) rfl (gt_int.trans (by congr 2; simp only [decide_eq_decide]; omega))), x_2 rfl rfl (mu x hx y hy)⟩)⟩) (dX ?_)
  have := ux (f := fun x : Nat => (ys.filter fun y => decide (0 < x * y)).map fun y => D.int ((x * y : Nat) : Int)) (n := 6) (l := xs) fun x _ => by
   rw [List.length_map]
   have := List.length_filter_le (fun y => decide (0 < x * y)) ys
   have := o.ly
   omega
  have := o.lx
  omega
 have e2 : D.lst (xs.flatMap fun x => (ys.filter fun y => decide (0 < x * y)).map fun y => D.int ((x * y : Nat) : Int)) = nL (prodN xs ys) := by
  show _ = D.lst (((prodN xs ys).map _).map _)
  unfold prodN fk
  rw [List.map_map, List.map_flatMap]
  congr 2
  funext x
  rw [List.map_map]; rfl
 rw [e2] at e
 exact aA (am e rfl) (A8 (iZ o.hx o.hy) (by have := gY (xs := xs) o.ly; have := o.lx; omega))
theorem z9 {p q r c : Nat} (hp : p < r) (hq : q < c) (hr : r <= 1000) (hc : c <= 1000) : m_check_cell K a [.int (p : Int), .int (q : Int), .int (r : Int), .int (c : Int)] β = some (.ok .non, β) := by
 refine aS ?_
 unfold gM
 refine kX (β1 := β) (d := .non) (aA rfl (by rw [oQ (by omega) (by omega) (by omega) (by omega), if_pos (by omega)])) (ar ?_)
 exact kX (β1 := β) (d := .non) (aA rfl (by rw [oQ (by omega) (by omega) (by omega) (by omega), if_pos (by omega)])) (aV ⟨rfl, rfl⟩)
theorem zF {xs ys : List Nat} {p q : Nat} (o : Ok2 xs ys) (hx : Sm (nI xs)) (hy : Sm (nI ys)) (hs : j9 (nI xs) (nI ys) = true) (hp : p < xs.length) (hq : q < ys.length) (k : Kd) : gi K a [.str k.nm, nL xs, nL ys, .tup [.int (p : Int), .int (q : Int)]] β = some (.ok (mFs k xs ys p q), β) := by
 have lx := o.lx
 have ly := o.ly
 obtain ⟨i1, i2, i3, i4⟩ := kIn k
 have e1 := vZ (K := K) (a := a) (β := β) hx hy
 rw [if_pos hs] at e1
 let δ0 : Addr -> Ds := fun x => [some (.sh (.adr x)), some (.sh (.str k.nm)), some (.sh (nL xs)), some (.sh (nL ys)), some (.sh (.tup [.int (p : Int), .int (q : Int)]))]
 have el : ∀ {n : Nat} {zs : List Nat} {δ : Dn}, δ.getD n none = some (nL zs) -> aq bE (ae (aa n) ah) δ β = some (.ok (.int (zs.length : Int)), β) := fun {n zs δ} e => bc (am (j4 e) rfl) (iz (by rw [List.length_map, List.length_map]))
 refine vM fun x => pD (x := x) (δ1 := δ0 x) (β1 := β) (oA (ar (kX (β1 := β) (d := .non) (aA rfl e1) (aV ⟨rfl, rfl⟩)))) rfl rfl (pD (x := x) (δ1 := δ0 x) (β1 := β) (oA (ar (aU (β1 := β) (x_B (x_2 rfl rfl i4)) (aQ (aV ⟨rfl, rfl⟩))))) rfl rfl (pD (x := x) (δ1 := δ0 x) (β1 := β) (oA (ar (fc (c := k.pl) (β1 := β) (x_B (x_2 rfl rfl i3)) ?_))) rfl rfl ?_))
 ·cases k.pl with
  | true => exact kX (β1 := β) (d := .non) (aA (am (x_2 rfl rfl rL) (am (x_2 rfl rfl pB) (am (el rfl) (am (el rfl) rfl)))) (z9 hp hq (by omega) (by omega))) (aV ⟨rfl, rfl⟩)
  | false => exact aQ (aV ⟨rfl, rfl⟩)
 ·exact jS (d := .str k.nm) (β1 := β) rfl (jS (d := nL xs) (β1 := β) rfl (jS (d := nL ys) (β1 := β) rfl (jS (d := .tup [.int (p : Int), .int (q : Int)]) (β1 := β) rfl (jS (d := .int ((lcF (prodN xs ys) : Nat) : Int)) (β1 := β) (Bk o rfl rfl) rfl))))
abbrev mD (a : Ad) (k : Kd) (xs ys : List Nat) (p q : Nat) : D := .obj a.C_Measure mNs (mFs k xs ys p q)
theorem pQ {xs ys : List Nat} {p q : Nat} (k : Kd) : cF K a [mD a k xs ys p q] β = some (.ok (.int ((totF k (fun _ => 0) 0 : Nat) : Int)), β) := by
 obtain ⟨i1, i2, i3, i4⟩ := kIn k
 refine aS ?_
 unfold eN totF
 cases h : k.isP with
 | true => exact ar (aN (oi (x_B (x_2 (bn rfl rfl) rfl (by rw [i1, h]))) rfl) ⟨rfl, rfl⟩)
 | false => exact ar (aN (oj (x_B (x_2 (bn rfl rfl) rfl (by rw [i1, h]))) rfl) ⟨rfl, rfl⟩)
theorem pU {xs ys : List Nat} {p q t n : Nat} (k : Kd) (h1 : k.isP = true -> t < 2 ^ 1000 /\ n < 2 ^ 1000) : bB K a [mD a k xs ys p q, .int (t : Int), .int (n : Int)] β = some (.ok (.int ((comb k t n : Nat) : Int)), β) := by
 obtain ⟨i1, i2, i3, i4⟩ := kIn k
 refine aS ?_
 unfold dE comb
 cases h : k.isP with
 | true => exact ar (aN (oi (x_B (x_2 (bn rfl rfl) rfl (by rw [i1, h]))) (x_2 rfl rfl (cK (h1 h).1 (h1 h).2))) ⟨rfl, rfl⟩)
 | false => exact ar (aN (oj (x_B (x_2 (bn rfl rfl) rfl (by rw [i1, h]))) (x_2 rfl rfl sS)) ⟨rfl, rfl⟩)
theorem mB {r c p q j y : Nat} {xs ys l : List Nat} {cs : List (List Nat)} {cd : D} (C : Cols r c xs ys cs) (hs : Sq l cd) (hl : cs[j]? = some l) (hp : p < r) (k : Kd) : cf K a [mD a k xs ys p q, .int (j : Int), cd] β = some (.ok (.int ((partF k xs ys p q j l : Nat) : Int)), β) := by
 obtain ⟨k1, k2, k3, k4, k5⟩ := kEq k
 obtain ⟨i1, i2, i3, i4⟩ := kIn k
 have hlm := List.mem_of_getElem? hl
 have h40 := C.le l hlm
 have hj : j < c := by rw [← C.lc]; exact (List.getElem?_eq_some_iff.mp hl).1
 obtain ⟨y, hy⟩ := eW (l := ys) (i := j) (by rw [C.ly]; exact hj)
 have hy40 := C.ok.hy y (List.mem_of_getElem? hy)
 have l4 : l.length <= 4 := by rw [C.len l hlm]; have := C.ok.lx; have := C.lx; omega
 have he := oy (iZ C.ok.hx C.ok.hy) (by have := gY (xs := xs) C.ok.ly; have := C.ok.lx; omega)
 have pc : aT 1 [0, 1] (ba (f1 (cM a.C_Measure "row_list") (aa 0))) (tgC 0) (fun _ => M.ret true) (cEm (f2 bb (aa 0) (f2 ixD (f1 (cM a.C_Measure "column_list") (aa 1)) (aa 2)))) [some (mD a k xs ys p q), some (.int (j : Int)), some cd, none] β = some (.ok (nL (xs.map fun x => x * y)), β) := by
  rw [← pk]
  exact d9 (nv := 1) (caps := [0, 1]) xs (fun x => D.int (x : Int)) _ (gx (bn rfl rfl) (by show some _ = _; rw [List.map_map]; rfl)) (fun x hx => ⟨[some (.int (x : Int)), some (mD a k xs ys p q), some (.int (j : Int))], rfl, x_2 rfl (x_2 (bn rfl rfl) rfl (gn hy)) (cK (sm (by have := C.ok.hx x hx; omega)) (sm (by omega)))⟩) (dX (by have := C.ok.lx; omega))
 have place : k.pl = true -> partF k xs ys p q j l = (if j = q then l.getD p 0 else 0) := fun z => by cases k <;> first | rfl | cases z
 refine aS ?_
 unfold fA
 have pl : k.pl = true -> ∀ {h : G}, Gw (ai (aE (fIf (fB (f2 (cN) (aa 1) (f2 ixD (f1 (cM a.C_Measure "place") (aa 0)) (fC (.int 1))))) (f2 ixD (aa 2) (f2 ixD (f1 (cM a.C_Measure "place") (aa 0)) (fC (.int 0)))) (fC (.int 0)))) h) (stD 4 [mD a k xs ys p q, .int (j : Int), cd]) β (fun o β' => β' = β /\ (match o with | .rt d => (Except.ok (D.int ((partF k xs ys p q j l : Nat) : Int)) : Except Addr D) = .ok d | .nx _ => (Except.ok (D.int ((partF k xs ys p q j l : Nat) : Int)) : Except Addr D) = .ok .non | .ex C _ => (Except.ok (D.int ((partF k xs ys p q j l : Nat) : Int)) : Except Addr D) = .error C | _ => False)) := fun z h => by
  rw [place z]
  by_cases w : j = q
  ·obtain ⟨n, hn⟩ := eW (l := l) (i := p) (by rw [C.len l hlm]; exact hp)
   refine aN (oi (x_B (x_2 rfl (x_2 (bn rfl rfl) rfl pB) (eq_int.trans (by rw [decide_eq_true (by omega)])))) (x_2 rfl (x_2 (bn rfl rfl) rfl rL) ?_)) ⟨rfl, by rw [if_pos w, bU hn]⟩
   rcases hs with rfl | rfl
   ·exact gn hn
   ·exact gn hn
  ·exact aN (oj (x_B (x_2 rfl (x_2 (bn rfl rfl) rfl pB) (eq_int.trans (by rw [decide_eq_false (by omega)])))) rfl) ⟨rfl, by rw [if_neg w]; rfl⟩
 cases k with
 | rare => exact eB (x_B (x_2 (bn rfl rfl) rfl k1)) (aN (aA rfl (yY hs h40)) ⟨rfl, rfl⟩)
 | power => exact aU (x_B (x_2 (bn rfl rfl) rfl k1)) (aQ (eB (x_B (x_2 (bn rfl rfl) rfl k4)) (aN (aA rfl (va hs h40)) ⟨rfl, rfl⟩)))
 | most => exact aU (x_B (x_2 (bn rfl rfl) rfl k1)) (aQ (aU (x_B (x_2 (bn rfl rfl) rfl k4)) (aQ (eB (x_B (x_2 (bn rfl rfl) rfl i3)) (pl rfl)))))
 | least => exact aU (x_B (x_2 (bn rfl rfl) rfl k1)) (aQ (aU (x_B (x_2 (bn rfl rfl) rfl k4)) (aQ (eB (x_B (x_2 (bn rfl rfl) rfl i3)) (pl rfl)))))
 | square =>
  refine aU (x_B (x_2 (bn rfl rfl) rfl k1)) (aQ (aU (x_B (x_2 (bn rfl rfl) rfl k4)) (aQ (aU (x_B (x_2 (bn rfl rfl) rfl i3)) (aQ ?_)))))
  refine aJ (d := nL (xs.map fun x => x * y)) (β1 := β) pc (eB (x_B (x_2 (bn rfl rfl) rfl k2)) (aN (aA (am rfl (am rfl (am (bn rfl rfl) rfl))) (tM hs h40 l4 C.ok.hx hy40 he.2)) ⟨rfl, ?_⟩))
  show Except.ok (D.int ((sqN _ l xs (ys.getD j 0) : Nat) : Int)) = _
  rw [bU hy]
 | off =>
  refine aU (x_B (x_2 (bn rfl rfl) rfl k1)) (aQ (aU (x_B (x_2 (bn rfl rfl) rfl k4)) (aQ (aU (x_B (x_2 (bn rfl rfl) rfl i3)) (aQ ?_)))))
  refine aJ (d := nL (xs.map fun x => x * y)) (β1 := β) pc (aU (x_B (x_2 (bn rfl rfl) rfl k2)) (aQ (ar (aN (aA (am rfl (am rfl (am (bc (am (bn rfl rfl) rfl) (jN xs)) rfl))) (zB hs h40 l4 C.ok.hx hy40 C.tx)) ⟨rfl, ?_⟩))))
  show Except.ok (D.int ((offN _ l xs (ys.getD j 0) : Nat) : Int)) = _
  rw [bU hy]
theorem tq {r c p q : Nat} {xs ys : List Nat} {cs : List (List Nat)} (C : Cols r c xs ys cs) {k : Kd} (h : k.isP = true) {n : Nat} (hn : n <= c) : totF k (pF k xs ys p q cs) n < 2 ^ 1000 := by
 have lc : cs.length <= 6 := by have := C.ok.ly; have := C.ly; have := C.lc; omega
 unfold totF
 rw [if_pos h]
 cases k with
 | rare => exact (pS (g := wayN) C.lc hn) ▸ bM (qj C.le lc) (by decide)
 | power => exact (pS (g := pwN) C.lc hn) ▸ bM (yB C.le n) (by have := rc (f := List.sum) (l := cs) n; have := C.tot; omega)
 | _ => cases h
theorem qC {r c p q j : Nat} {xs ys l : List Nat} {cs : List (List Nat)} (C : Cols r c xs ys cs) {k : Kd} (h : k.isP = true) (hl : cs[j]? = some l) : partF k xs ys p q j l < 2 ^ 1000 := by
 have h40 := C.le l (List.mem_of_getElem? hl)
 cases k with
 | rare => exact bM (oM h40) (by decide)
 | power =>
  have := pd (i := l.length) h40
  rw [List.take_length] at this
  exact bM this (by omega)
 | _ => cases h
theorem tu {r c p q j : Nat} {xs ys l : List Nat} {cs : List (List Nat)} (C : Cols r c xs ys cs) (hl : cs[j]? = some l) (k : Kd) : bB K a [mD a k xs ys p q, .int ((totF k (pF k xs ys p q cs) j : Nat) : Int), .int ((partF k xs ys p q j l : Nat) : Int)] β = some (.ok (.int ((totF k (pF k xs ys p q cs) (j + 1) : Nat) : Int)), β) := by
 have hj : j < c := by rw [← C.lc]; exact (List.getElem?_eq_some_iff.mp hl).1
 have e : pF k xs ys p q cs j = partF k xs ys p q j l := by show partF k xs ys p q j (cs.getD j []) = _; rw [bU hl]
 rw [pU k fun h => ⟨tq C h (by omega), qC C h hl⟩, jy, e]
theorem Ee {r c p q : Nat} {xs ys : List Nat} {cs : List (List Nat)} {d : D} (C : Cols r c xs ys cs) (hp : p < r) (ht : ∀ β, m_rows_turned K a [d] β = some (.ok (cL cs), β)) (k : Kd) : eL K a [mD a k xs ys p q, d] β = some (.ok (.int ((totF k (pF k xs ys p q cs) c : Nat) : Int)), β) := by
 refine aS ?_
 unfold gN
 refine aJ (d := .int ((totF k (pF k xs ys p q cs) 0 : Nat) : Int)) (β1 := β) (dP rfl rfl (pQ k)) ?_
 refine bI (ds := cx 0 (cs.map nL)) (β1 := β) (cA (am (aA rfl (ht β)) rfl) rfl) (fun j δ β' => β = β' /\ ∃ s3 s4, δ = [some (.sh (mD a k xs ys p q)), some (.sh d), some (.sh (.int ((totF k (pF k xs ys p q cs) j : Nat) : Int))), s3, s4]) ⟨rfl, none, none, rfl⟩ ?_ ?_
 ·rintro j e δ _ he ⟨rfl, s3, s4, rfl⟩
  obtain ⟨d', hd', rfl⟩ := iG he
  obtain ⟨l, hl, rfl⟩ := eK hd'
  exact ⟨_, rfl, ar (aJ (dP rfl (am rfl (am (dP rfl (am rfl (am rfl rfl)) (mB (y := 0) C (.inl rfl) hl hp k)) rfl)) (tu C hl k)) (aV ⟨rfl, _, _, rfl⟩))⟩
 ·rintro δ _ ⟨rfl, s3, s4, rfl⟩
  rw [c5, List.length_map, C.lc]
  exact ar (aN rfl ⟨rfl, rfl⟩)
end
end Law
set_option maxHeartbeats 4000000
namespace Law
open PySem L2 L2.Pu
section
theorem oX : ∀ {xs : List Int} {x : Int}, (∀ y ∈ xs, 0 <= y) -> x ∈ xs -> x <= xs.sum
 | [], _, _, h => by cases h
 | y :: ys, x, hn, h => by
  rw [List.sum_cons]
  have h1 := hn y List.mem_cons_self
  have h2 := k9 fun z hz => hn z (List.mem_cons_of_mem y hz)
  rcases List.mem_cons.mp h with rfl | h
  ·omega
  ·have := oX (fun z hz => hn z (List.mem_cons_of_mem y hz)) h
   omega
theorem Tab.sm {r c : Nat} {rows : List (List Int)} (t : Tab r c rows) : Sm (rows.map List.sum) /\ Sm ((tp c rows).map List.sum) /\ j9 (rows.map List.sum) ((tp c rows).map List.sum) = true /\ (rows.map List.sum).sum = ((tp c rows).map List.sum).sum := by
 have r0 := t.r0
 have r1 := t.r1
 have c0 := t.c0
 have c1 := t.c1
 have l1 : (rows.map List.sum).length = r := by rw [List.length_map, t.shp.1]
 have l2 : ((tp c rows).map List.sum).length = c := by rw [List.length_map]; exact (j8 (d := 0) t.shp.1).1
 have e : ((tp c rows).map List.sum).sum = (rows.map List.sum).sum := tm t.shp.2
 have t40 : (rows.map List.sum).sum <= 40 := t.tot
 have nn1 : ∀ x ∈ rows.map List.sum, 0 <= x := fun x hx => by
  obtain ⟨row, hr, rfl⟩ := List.mem_map.mp hx
  exact k9 (t.nn row hr)
 have nn2 : ∀ x ∈ (tp c rows).map List.sum, 0 <= x := fun x hx => by
  obtain ⟨row, hr, rfl⟩ := List.mem_map.mp hx
  exact k9 (DZ t.nn row hr)
 have le1 : ∀ x ∈ rows.map List.sum, x <= 40 := fun x hx => Int.le_trans (oX nn1 hx) t40
 have le2 : ∀ x ∈ (tp c rows).map List.sum, x <= 40 := fun x hx => Int.le_trans (oX nn2 hx) (by rw [e]; exact t40)
 refine ⟨⟨by omega, fun x hx => ?_⟩, ⟨by omega, fun x hx => ?_⟩, ?_, e.symm⟩
 ·have := nn1 x hx
  have := le1 x hx
  omega
 ·have := nn2 x hx
  have := le2 x hx
  omega
 ·unfold j9
  have a1 : ((rows.map List.sum).any fun x => decide (x < 0)) = false := by
   rw [List.any_eq_false]
   intro x hx
   have := nn1 x hx
   simp only [decide_eq_true_eq]
   omega
  have a2 : (((tp c rows).map List.sum).any fun x => decide (x < 0)) = false := by
   rw [List.any_eq_false]
   intro x hx
   have := nn2 x hx
   simp only [decide_eq_true_eq]
   omega
  rw [a1, a2, l1, l2, e]
  simp only [Bool.and_eq_true, decide_eq_true_eq, Bool.not_eq_true', Bool.or_false, decide_eq_false_iff_not, and_true, true_and]
  refine ⟨⟨⟨by omega, by omega⟩, by omega, by omega⟩, by omega⟩
end
section
theorem vx {rows : List (List Int)} (h : ∀ row ∈ rows, ∀ x ∈ row, 0 <= x) : ∃ g : List (List Nat), rows = g.map nI := by
 refine ⟨rows.map fun row => row.map Int.toNat, ?_⟩
 rw [List.map_map]
 refine (List.map_id' rows).symm.trans (List.map_congr_left fun row hr => ?_)
 show row = (row.map Int.toNat).map _
 rw [List.map_map]
 refine (List.map_id' row).symm.trans (List.map_congr_left fun x hx => ?_)
 have := h row hr x hx
 show x = ((x.toNat : Nat) : Int)
 omega
theorem eh (g : List (List Nat)) : (g.map nI).map List.sum = nI (g.map List.sum) := by
 show _ = (g.map List.sum).map _
 rw [List.map_map, List.map_map]
 exact List.map_congr_left fun l _ => jO l
theorem j7 (c : Nat) (g : List (List Nat)) : tp c (g.map nI) = (tpA 0 c g).map nI := (za (fun (i : Nat) => (i : Int)) 0 c g).symm
theorem qK (cs : List (List Nat)) : bL (cs.map nI) = cL cs := by
 show D.lst (((cs.map nI).map _).map D.lst) = _
 rw [List.map_map, List.map_map]; rfl
theorem qT {r c : Nat} {g : List (List Nat)} (t : Tab r c (g.map nI)) : Cols r c (g.map List.sum) ((tpA 0 c g).map List.sum) (tpA 0 c g) /\ Sm (nI (g.map List.sum)) /\ Sm (nI ((tpA 0 c g).map List.sum)) /\ j9 (nI (g.map List.sum)) (nI ((tpA 0 c g).map List.sum)) = true := by
 obtain ⟨h1, h2, h3, h4⟩ := Tab.sm t
 have t40 : ((g.map nI).map List.sum).sum <= 40 := t.tot
 rw [j7, eh, eh] at h3 h4
 rw [j7, eh] at h2
 rw [eh] at h1 t40
 rw [jO] at t40 h4
 rw [jO] at h4
 have lg : g.length = r := by have := t.shp.1; rwa [List.length_map] at this
 have lc : (tpA 0 c g).length = c := (j8 (d := 0) lg).1
 have x40 : (g.map List.sum).sum <= 40 := by omega
 have y40 : ((tpA 0 c g).map List.sum).sum <= 40 := by omega
 have r1 := t.r1
 have c1 := t.c1
 exact ⟨⟨⟨by rw [List.length_map]; omega, by rw [List.length_map]; omega, fun x hx => Nat.le_trans (en hx) x40, fun y hy => Nat.le_trans (en hy) y40⟩, by rw [List.length_map, lg], by rw [List.length_map, lc], lc, (j8 (d := 0) lg).2, fun l hl => Nat.le_trans (en (List.mem_map.mpr ⟨l, hl, rfl⟩)) y40, y40, x40⟩, h1, h2, h3⟩
end
section
variable {K : PySem.W.Frag} {a : Ad} {β : Bg}
theorem zP (ok : β.ok) : ∃ (k : Kd) (β' : Bg), m_l_kind K a [.bag] β = some (.ok (.str k.nm), β') /\ β'.ok := by
 obtain ⟨v, β1, p1, v0, v1, ok1⟩ := cV ok (lot := 6) (by decide) (by decide)
 have l6 : ∀ {β : Bg}, aq dU (ae (fC (.str (Str.ofString "rare"))) (ae (fC (.str (Str.ofString "square"))) (ae (fC (.str (Str.ofString "power"))) (ae (fC (.str (Str.ofString "off"))) (ae (fC (.str (Str.ofString "most"))) (ae (fC (.str (Str.ofString "least"))) (ah))))))) [some D.bag] β = some (.ok (.lst [.str Kd.rare.nm, .str Kd.square.nm, .str Kd.power.nm, .str Kd.off.nm, .str Kd.most.nm, .str Kd.least.nm]), β) := fun {β} => bc rfl (by
  unfold dU
  rw [if_pos (dX (by decide))]; rfl)
 have go : ∀ (k : Kd), ixD (.lst [.str Kd.rare.nm, .str Kd.square.nm, .str Kd.power.nm, .str Kd.off.nm, .str Kd.most.nm, .str Kd.least.nm]) (.int v) = some (.str k.nm) -> ∃ (k : Kd) (β' : Bg), m_l_kind K a [.bag] β = some (.ok (.str k.nm), β') /\ β'.ok := fun k e => by
  suffices q : ∃ x β'', m_l_kind K a [.bag] β = some (x, β'') /\ (x = .ok (.str k.nm) /\ β''.ok) by
   obtain ⟨x, β'', e2, rfl, ok2⟩ := q
   exact ⟨k, β'', e2, ok2⟩
  refine me ?_
  unfold kN
  exact ar (aN (x_2 l6 (aA rfl p1) e) ⟨rfl, ok1⟩)
 have : v = 0 \/ v = 1 \/ v = 2 \/ v = 3 \/ v = 4 \/ v = 5 := by omega
 rcases this with rfl | rfl | rfl | rfl | rfl | rfl
 ·exact go .rare rfl
 ·exact go .square rfl
 ·exact go .power rfl
 ·exact go .off rfl
 ·exact go .most rfl
 ·exact go .least rfl
theorem vd {r c : Nat} {rows : List (List Int)} (t : Tab r c rows) (ok : β.ok) : ∃ (p q : Nat) (β' : Bg), m_l_place K a [.bag, bL rows] β = some (.ok (.tup [.int (p : Int), .int (q : Int)]), β') /\ p < r /\ q < c /\ β'.ok := by
 have r0 := t.r0
 have r1 := t.r1
 have c0 := t.c0
 have c1 := t.c1
 obtain ⟨v, β1, p1, v0, v1, ok1⟩ := cV ok (lot := (r : Int)) (by omega) (by omega)
 obtain ⟨u, β2, p2, u0, u1, ok2⟩ := cV ok1 (lot := (c : Int)) (by omega) (by omega)
 obtain ⟨row0, hrow0, lrow0⟩ := t.shp.at (i := 0) (by omega)
 have hr0 : (gI rows)[0]? = some (row0.map D.int) := by rw [List.getElem?_map, hrow0]; rfl
 obtain ⟨p, rfl⟩ : ∃ p : Nat, v = (p : Int) := ⟨v.toNat, by omega⟩
 obtain ⟨q, rfl⟩ : ∃ q : Nat, u = (q : Int) := ⟨u.toNat, by omega⟩
 suffices z : ∃ x β'', m_l_place K a [.bag, bL rows] β = some (x, β'') /\ (x = .ok (.tup [.int (p : Int), .int (q : Int)]) /\ β''.ok) by
  obtain ⟨x, β'', e2, rfl, ok2⟩ := z
  exact ⟨p, q, β'', e2, by omega, by omega, ok2⟩
 refine me ?_
 unfold jX
 refine aJ (d := .int (p : Int)) (β1 := β1) (aA (am rfl (am (bc rfl (A7 (r := r) (by rw [List.length_map, t.shp.1]))) rfl)) p1) ?_
 exact ar (aN (bc (am rfl (am (aA (am rfl (am (bc (am (x := .lst (row0.map D.int)) (x_2 rfl rfl (yO hr0)) rfl) (iz (r := c) (by rw [List.length_map, lrow0]))) rfl)) p2) rfl)) oP) ⟨rfl, ok2⟩)
end
section
variable {K : PySem.W.Frag} {a : Ad} {β : Bg}
theorem uX {r c p q : Nat} {g : List (List Nat)} (t : Tab r c (g.map nI)) (hp : p < r) (hq : q < c) (k : Kd) : m_l_scale K a [.str k.nm, bL (g.map nI), .tup [.int (p : Int), .int (q : Int)]] β = some (.ok (mD a k (g.map List.sum) ((tpA 0 c g).map List.sum) p q), β) := by
 obtain ⟨C, hx, hy, hs⟩ := qT t
 have r0 := t.r0
 have r1 := t.r1
 have c1 := t.c1
 have e1 := lw (K := K) (a := a) (β := β) (rows := g.map nI) (by rw [t.shp.1]; omega)
 have e2 := ju (K := K) (a := a) (β := β) t.shp r0 (by omega) (by omega)
 rw [eh] at e1
 rw [j7, eh] at e2
 refine aS ?_
 unfold jW
 refine ar (aN (d := mD a k (g.map List.sum) ((tpA 0 c g).map List.sum) p q) (β1 := β) ?_ ⟨rfl, rfl⟩)
 unfold pL
 rw [M.bind_ok (am rfl (am (aA rfl e1) (am (aA rfl e2) rfl))), M.bind_ok (am rfl rfl)]
 have m := zF (K := K) (a := a) (β := β) (p := p) (q := q) C.ok hx hy hs (by rw [C.lx]; exact hp) (by rw [C.ly]; exact hq) k
 exact (M.bind_ok m).trans rfl
def rW (k : Kd) (v s : Int) : Bool := if k.less = true then decide (v <= s) else decide (s <= v)
theorem nR {xs ys : List Nat} {p q : Nat} {v s : Int} (k : Kd) : cj K a [mD a k xs ys p q, .int v, .int s] β = some (.ok (.bl (rW k v s)), β) := by
 obtain ⟨i1, i2, i3, i4⟩ := kIn k
 refine aS ?_
 unfold d7 rW
 cases h : k.less with
 | true => exact ar (aN (oi (x_B (x_2 (bn rfl rfl) rfl (by rw [i2, h]))) (x_2 rfl rfl rfl)) ⟨rfl, rfl⟩)
 | false => exact ar (aN (oj (x_B (x_2 (bn rfl rfl) rfl (by rw [i2, h]))) (x_2 rfl rfl rfl)) ⟨rfl, rfl⟩)
theorem lP {v s : Int} (k : Kd) : m_l_beyond K a [.str k.nm, .int v, .int s] β = some (.ok (.bl (rW k v s)), β) := by
 obtain ⟨i1, i2, i3, i4⟩ := kIn k
 refine aS ?_
 unfold jh rW
 cases h : k.less with
 | true => exact eB (x_B (x_2 rfl (bc rfl oP) (by rw [i2, h]))) (aN (x_2 rfl rfl rfl) ⟨rfl, rfl⟩)
 | false => exact aU (x_B (x_2 rfl (bc rfl oP) (by rw [i2, h]))) (aQ (ar (aN (x_2 rfl rfl rfl) ⟨rfl, rfl⟩)))
abbrev l29 (g : List (List Nat)) (p q : Nat) (k : Kd) (xs ys : List Nat) (m : D) (s8 s9 s10 s11 s12 s13 s14 s15 : Option Sl) : Ds := [none, some (.sh .bag), some (.sh (bL (g.map nI))), some (.sh (.tup [.int (p : Int), .int (q : Int)])), some (.sh (.str k.nm)), some (.sh (nL xs)), some (.sh (nL ys)), some (.sh m), s8, s9, s10, s11, s12, s13, s14, s15]
theorem vG (β : Bg) (ok : β.ok) :
  ∃ β', l3 K a [none, some (.sh .bag), none, none, none, none, none, none, none, none, none, none, none, none, none, none] β = some (.rt (.bl true), β') := by
 suffices h : Gw (l3 K a) [none, some (.sh .bag), none, none, none, none, none, none, none, none, none, none, none, none, none, none] β (fun o _ => o = .rt (.bl true)) by
  obtain ⟨o, β', e, rfl⟩ := h
  exact ⟨β', e⟩
 unfold l3
 obtain ⟨rows, r, c, β1, e1, t, ok1⟩ := Ae (K := K) (a := a) ok
 refine aJ (d := bL rows) (β1 := β1) (aA rfl e1) ?_
 clear e1
 obtain ⟨g, rfl⟩ := vx t.nn
 obtain ⟨p, q, β2, e2, hp, hq, ok2⟩ := vd (K := K) (a := a) t ok1
 refine aJ (d := .tup [.int (p : Int), .int (q : Int)]) (β1 := β2) (aA rfl e2) ?_
 obtain ⟨k, β3, e3, ok3⟩ := zP (K := K) (a := a) ok2
 refine aJ (d := .str k.nm) (β1 := β3) (aA rfl e3) ?_
 clear e2 e3 ok1 ok2
 obtain ⟨C, hx, hy, hs⟩ := qT t
 have r0 := t.r0
 have r1 := t.r1
 have c1 := t.c1
 have e1 := fun β => lw (K := K) (a := a) (β := β) (rows := g.map nI) (by rw [t.shp.1]; omega)
 have e2 := fun β => ju (K := K) (a := a) (β := β) t.shp r0 (by omega) (by omega)
 have e4 : ∀ β, m_l_turned K a [bL (g.map nI)] β = some (.ok (cL (tpA 0 c g)), β) := fun β => by rw [lM t.shp r0 (by omega) (by omega), j7, qK]
 have e5 : ∀ β, m_rows_turned K a [bL (g.map nI)] β = some (.ok (cL (tpA 0 c g)), β) := fun β => by rw [s0 t.shp r0 (by omega) (by omega), j7, qK]
 simp only [eh] at e1
 simp only [j7, eh] at e2
 have esc := fun β => uX (K := K) (a := a) (β := β) t hp hq k
 generalize (g.map List.sum) = xs at *
 generalize (tpA 0 c g) = cs at *
 generalize (cs.map List.sum) = ys at *
 refine aJ (d := nL xs) (β1 := β3) (aA rfl (e1 β3)) ?_
 refine aJ (d := nL ys) (β1 := β3) (aA rfl (e2 β3)) ?_
 refine aJ (d := mD a k xs ys p q) (β1 := β3) (aA rfl (esc β3)) ?_
 refine aJ (d := .int ((totF k (pF k xs ys p q cs) 0 : Nat) : Int)) (β1 := β3) (dP rfl rfl (pQ k)) ?_
 obtain ⟨i1, i2, i3, i4⟩ := kIn k
 have z0 : oz [.bl k.isP] = some (.int ((totF k (pF k xs ys p q cs) 0 : Nat) : Int)) := by
  unfold totF
  cases k.isP <;> rfl
 refine aU (gc (c := true) (iN (x := .bl true) (aA (am rfl (am (bc (am (x_2 rfl (bc rfl oP) i1) rfl) z0) rfl)) (iX (iw _ _))) rfl)) (aQ ?_)
 refine bI (ds := cx 0 (cs.map nL)) (β1 := β3) (cA (am (aA rfl (e4 β3)) rfl) rfl) (fun j δ β' => β3 = β' /\ ∃ s9 s10 s11 s12 s13, δ = l29 g p q k xs ys (mD a k xs ys p q) (some (.sh (.int ((totF k (pF k xs ys p q cs) j : Nat) : Int)))) s9 s10 s11 s12 s13 none none) ⟨rfl, none, none, none, none, none, rfl⟩ ?_ ?_
 ·rintro j d δ _ hd ⟨rfl, s9, s10, s11, s12, s13, rfl⟩
  obtain ⟨d', hd', rfl⟩ := iG hd
  obtain ⟨l, hl, rfl⟩ := eK hd'
  have hj : j < c := by rw [← C.lc]; exact (List.getElem?_eq_some_iff.mp hl).1
  have ep := mB (K := K) (a := a) (β := β3) (y := 0) (q := q) C (.inl rfl) hl hp k
  have et := mB (K := K) (a := a) (β := β3) (y := 0) (q := q) C (.inr rfl) hl hp k
  refine ⟨l29 g p q k xs ys (mD a k xs ys p q) (some (.sh (.int ((totF k (pF k xs ys p q cs) j : Nat) : Int)))) (some (.sh (.int (j : Int)))) (some (.sh (nL l))) s11 s12 s13 none none, rfl, ?_⟩
  refine aJ (d := nL l) (β1 := β3) (bc rfl rfl) ?_
  refine aJ (d := .int ((partF k xs ys p q j l : Nat) : Int)) (β1 := β3) (dP rfl (am rfl (am rfl rfl)) ep) ?_
  refine aU (β1 := β3) (yn (x_B (x_2 (x := nL l) rfl rfl (zE (v4 1 (fun x hx => by
   obtain ⟨i, _, rfl⟩ := List.mem_map.mp hx
   trivial) (by decide))))) (gc (c := true) (iN (x := .bl true) (aA (am (dP rfl (am rfl (am (bc rfl rfl) rfl)) et) (am rfl rfl)) (iX (iw _ _))) rfl))) (aQ ?_)
  have tg := tu (K := K) (a := a) (β := β3) (p := p) (q := q) C hl k
  have ee : totF k (pF k xs ys p q cs) (j + 1) = comb k (totF k (pF k xs ys p q cs) j) (partF k xs ys p q j l) := by
   rw [jy]
   show comb k _ (partF k xs ys p q j (cs.getD j [])) = _
   rw [bU hl]
  have b1 := fun h => tq (p := p) (q := q) C (k := k) h (n := j) (by omega)
  have b2 := fun h => qC (p := p) (q := q) C (k := k) h hl
  rw [ee] at tg ⊢
  generalize totF k (pF k xs ys p q cs) j = T at *
  generalize partF k xs ys p q j l = n at *
  refine aJ (d := .int ((T + n : Nat) : Int)) (β1 := β3) (x_2 rfl rfl sS) ?_
  refine yo (fun δ β => β3 = β /\ δ = l29 g p q k xs ys (mD a k xs ys p q) (some (.sh (.int (T : Int)))) (some (.sh (.int (j : Int)))) (some (.sh (nL l))) (some (.sh (nL l))) (some (.sh (.int (n : Int)))) (some (.sh (.int ((comb k T n : Nat) : Int)))) none none) ?_ ?_
  ·refine ar (fc (c := k.isP) (β1 := β3) (x_B (x_2 rfl (bc rfl oP) i1)) ?_)
   unfold comb
   cases h : k.isP with
   | true =>
    rw [if_pos rfl, if_pos rfl]
    exact aJ (d := .int ((T * n : Nat) : Int)) (β1 := β3) (x_2 rfl rfl (cK (b1 h) (b2 h))) (kY ⟨rfl, rfl⟩)
   | false =>
    rw [if_neg Bool.false_ne_true, if_neg Bool.false_ne_true]
    exact aQ (kY ⟨rfl, rfl⟩)
  rintro δ _ ⟨rfl, rfl⟩
  refine aU (β1 := β3) (gc (c := true) (iN (x := .bl true) (aA (am (dP rfl (am rfl (am rfl rfl)) tg) (am rfl rfl)) (iX (iw _ _))) rfl)) (aQ (ar ?_))
  exact aJ rfl (aV ⟨rfl, _, _, _, _, _, rfl⟩)
 rintro δ _ ⟨rfl, s9, s10, s11, s12, s13, rfl⟩
 rw [c5, List.length_map, C.lc]
 have ev := fun β => uR (K := K) (a := a) (β := β) C hp hq k
 have eo := fun β => Ee (K := K) (a := a) (β := β) (q := q) C hp e5 k
 generalize totF k (pF k xs ys p q cs) c = V at *
 refine aJ (d := .int (V : Int)) (β1 := β3) (aA (am rfl (am rfl (am rfl (am rfl (am (aA rfl (e4 β3)) rfl))))) (ev β3)) ?_
 refine aU (β1 := β3) (yn (gc (c := true) (iN (x := .bl true) (aA rfl (iX (iw _ _))) rfl)) (gc (c := true) (iN (x := .bl true) (aA (am (dP rfl (am (aA rfl (uF (by rw [List.length_map, t.shp.1]; omega))) rfl) (eo β3)) (am rfl rfl)) (iX (iw _ _))) rfl))) (aQ ?_)
 obtain ⟨v, β4, p4, v0, v1, ok4⟩ := cV ok3 (lot := 5) (by decide) (by decide)
 refine aJ (d := .int ((V : Int) + v - 2)) (β1 := β4) (x_2 (x_2 rfl (aA rfl p4) rfl) rfl rfl) ?_
 obtain ⟨u, β5, p5, u0, u1, ok5⟩ := cV ok4 (lot := 4) (by decide) (by decide)
 refine yo (fun δ β => ∃ s : Int, δ = l29 g p q k xs ys (mD a k xs ys p q) (some (.sh (.int (V : Int)))) s9 s10 s11 s12 s13 (some (.sh (.int (V : Int)))) (some (.sh (.int s)))) ?_ ?_
 ·refine ar (fc (c := decide (u = 0)) (β1 := β5) (x_B (x_2 (aA rfl p5) rfl eq_int)) ?_)
  by_cases qu : u = 0
  ·rw [if_pos (by simpa using qu)]
   obtain ⟨z, β6, p6, z0, z1, ok6⟩ := cV ok5 (lot := 2) (by decide) (by decide)
   obtain ⟨n, rfl⟩ : ∃ n : Nat, z = (n : Int) := ⟨z.toNat, by omega⟩
   exact aJ (d := .int (((n * 10 ^ 12 : Nat) : Int) - 10 ^ 11)) (β1 := β6) (x_2 (x_2 (y := .int ((10 ^ 12 : Nat) : Int)) (aA rfl p6) (x_2 rfl rfl rfl) (cK (sm (by omega)) (bM (m := 60) (by decide) (by decide)))) (x_2 rfl rfl rfl) rfl) (kY ⟨_, rfl⟩)
  ·rw [if_neg (by simpa using qu)]
   exact aQ (kY ⟨_, rfl⟩)
 rintro δ β6 ⟨s, rfl⟩
 refine aU (β1 := β6) (gc (c := true) (iN (x := .bl true) (aA (am (dP rfl (am rfl (am rfl rfl)) (nR k)) (am (aA rfl (lP k)) rfl)) (iX (ue _ _))) rfl)) (aQ ?_)
 exact ar (aN (aA (am (dP rfl (am rfl (am rfl rfl)) (nR k)) (am (aA rfl (lP k)) rfl)) (iX (ue _ _))) rfl)
end
end Law
namespace Law
open PySem L2 L2.Pu
abbrev E (P : Params) (n : String) (t : Nat) (v : Value) : DictEntry := ⟨PyData.keyHash P (Str.ofString n), .str (Str.ofString n) t, v⟩
abbrev FN (x q : Str) (s : Stmt) (dV kV doc pm : Value) (an : Option Addr) (cd ct : Value) : FuncData := PySem.W.fnOf x q (gw s) (cg s) (aj s) dV kV doc pm an cd ct
abbrev fO (f : FuncData) : Obj := ⟨.type "function", none, .func f, #[]⟩
abbrev tO (l : List Value) : Obj := ⟨.type "tuple", none, .seq l.toArray 0, #[]⟩
abbrev cO (l : List Value) : Obj := ⟨.type "code", none, .fields l.toArray, #[]⟩
abbrev nO (l : List Value) : Obj := ⟨.none, none, .fields l.toArray, #[]⟩
abbrev fB (x q : Str) (s : Stmt) : Obj := ⟨.none, none, .func ⟨x, q, gw s, .stmts (cg s), aj s, 0, [], .none, .none, .none, .none, none, .none, .none, 0⟩, #[]⟩
abbrev cC (n q : Str) (t l a po ko fl r : Nat) (b : Bool) (tx r2 : Nat) (x y z w : Value) (u l2 v : Nat) : Obj := cO [.str n t, .str q (t + 1), .str "/claim/cut.py" (t + 2), .int l 0, .int a 0, .int po 0, .int ko 0, .int fl 0, .ref r, .bool b, .int tx 0, .ref r2, x, y, z, w, .int u 0, .int l2 0, .str "/claim/cut.py" v]
section
variable (P : Params)
def b0 : Obj := ⟨(.type "dict"), none, (.dict #[(E P "__name__" 1 (.str "builtins" 160)), (E P "__doc__" 2 (.builtin "builtins.__doc__:str#opaque")), (E P "__package__" 3 (.builtin "builtins.__package__:str#opaque")), (E P "__loader__" 4 (.builtin "builtins.__loader__:shared#opaque")), (E P "__spec__" 5 (.builtin "builtins.__spec__#opaque")), (E P "__build_class__" 6 (.builtin "__build_class__")), (E P "__import__" 7 (.builtin "__import__")), (E P "abs" 8 (.builtin "abs")), (E P "all" 9 (.builtin "all")), (E P "any" 10 (.builtin "any")), (E P "ascii" 11 (.builtin "ascii")), (E P "bin" 12 (.builtin "bin")), (E P "breakpoint" 13 (.builtin "breakpoint")), (E P "callable" 14 (.builtin "callable")), (E P "chr" 15 (.builtin "chr")), (E P "compile" 16 (.builtin "compile")), (E P "delattr" 17 (.builtin "delattr")), (E P "dir" 18 (.builtin "dir")), (E P "divmod" 19 (.builtin "divmod")), (E P "eval" 20 (.builtin "eval")), (E P "exec" 21 (.builtin "exec")), (E P "format" 22 (.builtin "format")), (E P "getattr" 23 (.builtin "getattr")), (E P "globals" 24 (.builtin "globals")), (E P "hasattr" 25 (.builtin "hasattr")), (E P "hash" 26 (.builtin "hash")), (E P "hex" 27 (.builtin "hex")), (E P "id" 28 (.builtin "id")), (E P "input" 29 (.builtin "input")), (E P "isinstance" 30 (.builtin "isinstance")), (E P "issubclass" 31 (.builtin "issubclass")), (E P "iter" 32 (.builtin "iter")), (E P "aiter" 33 (.builtin "aiter")), (E P "len" 34 (.builtin "len")), (E P "locals" 35 (.builtin "locals")), (E P "max" 36 (.builtin "max")), (E P "min" 37 (.builtin "min")), (E P "next" 38 (.builtin "next")), (E P "anext" 39 (.builtin "anext")), (E P "oct" 40 (.builtin "oct")), (E P "ord" 41 (.builtin "ord")), (E P "pow" 42 (.builtin "pow")), (E P "print" 43 (.builtin "print")), (E P "repr" 44 (.builtin "repr")), (E P "round" 45 (.builtin "round")), (E P "setattr" 46 (.builtin "setattr")), (E P "sorted" 47 (.builtin "sorted")), (E P "sum" 48 (.builtin "sum")), (E P "vars" 49 (.builtin "vars")), (E P "None" 50 .none), (E P "Ellipsis" 51 .ellipsis), (E P "NotImplemented" 52 .notImplemented), (E P "False" 53 (.bool false)), (E P "True" 54 (.bool true)), (E P "bool" 55 (.type "bool")), (E P "memoryview" 56 (.type "memoryview")), (E P "bytearray" 57 (.type "bytearray")), (E P "bytes" 58 (.type "bytes")), (E P "classmethod" 59 (.type "classmethod")), (E P "complex" 60 (.type "complex")), (E P "dict" 61 (.type "dict")), (E P "enumerate" 62 (.type "enumerate")), (E P "filter" 63 (.type "filter")), (E P "float" 64 (.type "float")), (E P "frozenset" 65 (.type "frozenset")), (E P "property" 66 (.type "property")), (E P "int" 67 (.type "int")), (E P "list" 68 (.type "list")), (E P "map" 69 (.type "map")), (E P "object" 70 (.type "object")), (E P "range" 71 (.type "range")), (E P "reversed" 72 (.type "reversed")), (E P "set" 73 (.type "set")), (E P "slice" 74 (.type "slice")), (E P "staticmethod" 75 (.type "staticmethod")), (E P "str" 76 (.type "str")), (E P "super" 77 (.type "super")), (E P "tuple" 78 (.type "tuple")), (E P "type" 79 (.type "type")), (E P "zip" 80 (.type "zip")), (E P "__debug__" 81 (.bool true)), (E P "BaseException" 82 (.type "BaseException")), (E P "BaseExceptionGroup" 83 (.type "BaseExceptionGroup")), (E P "Exception" 84 (.type "Exception")), (E P "GeneratorExit" 85 (.type "GeneratorExit")), (E P "KeyboardInterrupt" 86 (.type "KeyboardInterrupt")), (E P "SystemExit" 87 (.type "SystemExit")), (E P "ArithmeticError" 88 (.type "ArithmeticError")), (E P "AssertionError" 89 (.type "AssertionError")), (E P "AttributeError" 90 (.type "AttributeError")), (E P "BufferError" 91 (.type "BufferError")), (E P "EOFError" 92 (.type "EOFError")), (E P "ImportError" 93 (.type "ImportError")), (E P "LookupError" 94 (.type "LookupError")), (E P "MemoryError" 95 (.type "MemoryError")), (E P "NameError" 96 (.type "NameError")), (E P "OSError" 97 (.type "OSError")), (E P "ReferenceError" 98 (.type "ReferenceError")), (E P "RuntimeError" 99 (.type "RuntimeError")), (E P "StopAsyncIteration" 100 (.type "StopAsyncIteration")), (E P "StopIteration" 101 (.type "StopIteration")), (E P "SyntaxError" 102 (.type "SyntaxError")), (E P "SystemError" 103 (.type "SystemError")), (E P "TypeError" 104 (.type "TypeError")), (E P "ValueError" 105 (.type "ValueError")), (E P "Warning" 106 (.type "Warning")), (E P "FloatingPointError" 107 (.type "FloatingPointError")), (E P "OverflowError" 108 (.type "OverflowError")), (E P "ZeroDivisionError" 109 (.type "ZeroDivisionError")), (E P "BytesWarning" 110 (.type "BytesWarning")), (E P "DeprecationWarning" 111 (.type "DeprecationWarning")), (E P "EncodingWarning" 112 (.type "EncodingWarning")), (E P "FutureWarning" 113 (.type "FutureWarning")), (E P "ImportWarning" 114 (.type "ImportWarning")), (E P "PendingDeprecationWarning" 115 (.type "PendingDeprecationWarning")), (E P "ResourceWarning" 116 (.type "ResourceWarning")), (E P "RuntimeWarning" 117 (.type "RuntimeWarning")), (E P "SyntaxWarning" 118 (.type "SyntaxWarning")), (E P "UnicodeWarning" 119 (.type "UnicodeWarning")), (E P "UserWarning" 120 (.type "UserWarning")), (E P "BlockingIOError" 121 (.type "BlockingIOError")), (E P "ChildProcessError" 122 (.type "ChildProcessError")), (E P "ConnectionError" 123 (.type "ConnectionError")), (E P "FileExistsError" 124 (.type "FileExistsError")), (E P "FileNotFoundError" 125 (.type "FileNotFoundError")), (E P "InterruptedError" 126 (.type "InterruptedError")), (E P "IsADirectoryError" 127 (.type "IsADirectoryError")), (E P "NotADirectoryError" 128 (.type "NotADirectoryError")), (E P "PermissionError" 129 (.type "PermissionError")), (E P "ProcessLookupError" 130 (.type "ProcessLookupError")), (E P "TimeoutError" 131 (.type "TimeoutError")), (E P "IndentationError" 132 (.type "IndentationError")), (E P "_IncompleteInputError" 133 (.type "_IncompleteInputError")), (E P "IndexError" 134 (.type "IndexError")), (E P "KeyError" 135 (.type "KeyError")), (E P "ModuleNotFoundError" 136 (.type "ModuleNotFoundError")), (E P "NotImplementedError" 137 (.type "NotImplementedError")), (E P "PythonFinalizationError" 138 (.type "PythonFinalizationError")), (E P "RecursionError" 139 (.type "RecursionError")), (E P "UnboundLocalError" 140 (.type "UnboundLocalError")), (E P "UnicodeError" 141 (.type "UnicodeError")), (E P "BrokenPipeError" 142 (.type "BrokenPipeError")), (E P "ConnectionAbortedError" 143 (.type "ConnectionAbortedError")), (E P "ConnectionRefusedError" 144 (.type "ConnectionRefusedError")), (E P "ConnectionResetError" 145 (.type "ConnectionResetError")), (E P "TabError" 146 (.type "TabError")), (E P "UnicodeDecodeError" 147 (.type "UnicodeDecodeError")), (E P "UnicodeEncodeError" 148 (.type "UnicodeEncodeError")), (E P "UnicodeTranslateError" 149 (.type "UnicodeTranslateError")), (E P "ExceptionGroup" 150 (.type "ExceptionGroup")), (E P "EnvironmentError" 151 (.type "OSError")), (E P "IOError" 152 (.type "OSError")), (E P "open" 153 (.builtin "open")), (E P "quit" 154 (.builtin "builtins.quit#opaque")), (E P "exit" 155 (.builtin "builtins.exit#opaque")), (E P "copyright" 156 (.builtin "builtins.copyright#opaque")), (E P "credits" 157 (.builtin "builtins.credits#opaque")), (E P "license" 158 (.builtin "builtins.license#opaque")), (E P "help" 159 (.builtin "builtins.help#opaque"))] 159), #[]⟩
def b1 : Obj := ⟨(.type "dict"), none, (.dict #[(E P "builtins" 162 (.ref 4)), (E P "__main__" 163 (.ref 5))] 2), #[]⟩
def b2 : Obj := ⟨.none, none, (.dict #[] 0), #[]⟩
def b3 : Obj := ⟨(.type "dict"), none, (.dict #[(E P "__name__" 165 (.str "law_edgetally_k29_parts_go_together" 531)), (E P "__doc__" 166 .none), (E P "__package__" 167 .none), (E P "__loader__" 168 (.builtin "__main__.__loader__#opaque")), (E P "__spec__" 169 .none), (E P "__annotations__" 170 (.ref 6)), (E P "__builtins__" 171 (.ref 4)), (E P "__file__" 173 (.str "/claim/cut.py" 172)), (E P "__cached__" 174 .none), (E P "EdgeError" 216 (.ref 31)), (E P "BadSums" 241 (.ref 52)), (E P "BadRule" 266 (.ref 72)), (E P "BadCell" 291 (.ref 92)), (E P "BadNumber" 316 (.ref 112)), (E P "MOST" 320 (.int 40 319)), (E P "MOST_ROWS" 322 (.int 4 321)), (E P "MOST_COLUMNS" 324 (.int 6 323)), (E P "check_sums" 330 (.ref 119)), (E P "check_there" 338 (.ref 126)), (E P "check_cell" 348 (.ref 133)), (E P "rows_turned" 354 (.ref 138)), (E P "factorial" 365 (.ref 145)), (E P "power" 375 (.ref 152)), (E P "ways" 384 (.ref 159)), (E P "common_factor" 392 (.ref 166)), (E P "KINDS" 401 (.ref 167)), (E P "BY_PRODUCT" 404 (.ref 168)), (E P "BY_PLACE" 407 (.ref 169)), (E P "LESS_IS_STRANGER" 410 (.ref 170)), (E P "least_common" 419 (.ref 177)), (E P "power_part" 428 (.ref 184)), (E P "square_part" 434 (.ref 189)), (E P "off_part" 440 (.ref 194)), (E P "Measure" 530 (.ref 258)), (E P "_law_bag" 538 (.ref 267)), (E P "_law_pull" 549 (.ref 274)), (E P "_law_same" 555 (.ref 279)), (E P "_law_turned" 561 (.ref 284)), (E P "_law_rowsums" 567 (.ref 289)), (E P "_law_columnsums" 573 (.ref 294)), (E P "_law_copied" 579 (.ref 299)), (E P "_law_factorial" 588 (.ref 306)), (E P "_law_ways" 597 (.ref 313)), (E P "_law_weight" 606 (.ref 320)), (E P "_law_gcd" 615 (.ref 327)), (E P "_law_kind" 622 (.ref 334)), (E P "_law_place" 631 (.ref 341)), (E P "_law_even" 643 (.ref 348)), (E P "_law_self_power" 652 (.ref 355)), (E P "_law_square" 668 (.ref 362)), (E P "_law_off" 684 (.ref 369)), (E P "_law_value" 698 (.ref 376)), (E P "_law_beyond" 707 (.ref 383)), (E P "_law_scale" 716 (.ref 390)), (E P "_law_any" 722 (.ref 395)), (E P "law" 744 (.ref 402))] 56), #[]⟩
def b4 : Obj := ⟨(.type "module"), (some 0), .plain, #[]⟩
def b5 : Obj := ⟨(.type "module"), (some 3), .plain, #[]⟩
def b6 : Obj := ⟨(.type "dict"), none, (.dict #[] 0), #[]⟩
def b7 : Obj := tO []
def b8 : Obj := nO []
def b9 : Obj := cC "<module>" "<module>" 176 1 0 0 0 0 7 false 175 8 .none .none .none .none 179 1 180
def b10 : Obj := ⟨(.type "frame"), none, .plain, #[(some (.ref 9)), (some (.ref 3)), (some (.ref 3)), none, (some (.str "__main__" 164)), none, (some (.ref 0))]⟩
def b11 : Obj := tO []
def b12 : Obj := nO [(.int 2 0), (.int 0 0), (.ref 20), (.int 7 0), (.int 0 0), (.ref 40), (.int 11 0), (.int 0 0), (.ref 60), (.int 15 0), (.int 0 0), (.ref 80), (.int 19 0), (.int 0 0), (.ref 100), (.int 27 0), (.int 0 0), (.ref 118), (.int 38 0), (.int 0 0), (.ref 125), (.int 41 0), (.int 0 0), (.ref 132), (.int 44 0), (.int 0 0), (.ref 137), (.int 47 0), (.int 0 0), (.ref 144), (.int 52 0), (.int 0 0), (.ref 151), (.int 57 0), (.int 0 0), (.ref 158), (.int 65 0), (.int 0 0), (.ref 165), (.int 74 0), (.int 0 0), (.ref 176), (.int 79 0), (.int 0 0), (.ref 183), (.int 84 0), (.int 0 0), (.ref 188), (.int 86 0), (.int 0 0), (.ref 193), (.int 88 0), (.int 0 0), (.ref 200), (.int 135 0), (.int 0 0), (.ref 266), (.int 137 0), (.int 0 0), (.ref 273), (.int 147 0), (.int 0 0), (.ref 278), (.int 159 0), (.int 0 0), (.ref 283), (.int 161 0), (.int 0 0), (.ref 288), (.int 163 0), (.int 0 0), (.ref 293), (.int 165 0), (.int 0 0), (.ref 298), (.int 167 0), (.int 0 0), (.ref 305), (.int 172 0), (.int 0 0), (.ref 312), (.int 177 0), (.int 0 0), (.ref 319), (.int 182 0), (.int 0 0), (.ref 326), (.int 188 0), (.int 0 0), (.ref 333), (.int 190 0), (.int 0 0), (.ref 340), (.int 193 0), (.int 0 0), (.ref 347), (.int 201 0), (.int 0 0), (.ref 354), (.int 206 0), (.int 0 0), (.ref 361), (.int 215 0), (.int 0 0), (.ref 368), (.int 223 0), (.int 0 0), (.ref 375), (.int 237 0), (.int 0 0), (.ref 382), (.int 241 0), (.int 0 0), (.ref 389), (.int 243 0), (.int 0 0), (.ref 394), (.int 254 0), (.int 0 0), (.ref 401)]
def b13 : Obj := cC "<module>" "<module>" 182 1 0 0 0 0 11 false 181 12 .none .none .none .none 185 1 186
def b14 : Obj := ⟨(.type "frame"), none, .plain, #[(some (.ref 13)), (some (.ref 3)), (some (.ref 3)), none, (some (.str "__main__" 164)), none, (some (.ref 0))]⟩
def b15 : Obj := tO [(.type "ValueError")]
def b16 : Obj := ⟨(.type "builtin_function_or_method"), none, (.fields #[(.builtin "type.__prepare__"), (.type "type")]), #[]⟩
def b17 : Obj := ⟨(.type "dict"), none, (.dict #[(E P "__module__" 196 (.str "edgetally.errors" 187)), (E P "__qualname__" 198 (.str "EdgeError" 197)), (E P "__firstlineno__" 200 (.int 2 199)), (E P "__init__" 209 (.ref 28)), (E P "__static_attributes__" 211 (.ref 29))] 5), #[]⟩
def b18 : Obj := tO []
def b19 : Obj := nO [(.int 4 0), (.int 4 0), (.ref 27)]
def b20 : Obj := cC "EdgeError" "EdgeError" 191 2 0 0 0 0 18 false 181 19 .none .none .none .none 194 2 195
def b21 : Obj := ⟨(.type "frame"), none, .plain, #[(some (.ref 20)), (some (.ref 3)), (some (.ref 17)), none, (some (.str "edgetally.errors" 187)), none, (some (.ref 0))]⟩
def b22 : Obj := tO []
def b23 : Obj := nO []
def b24 : Obj := tO [(.str "self" 204), (.str "word" 205), (.str "why" 206)]
def b25 : Obj := tO []
def b26 : Obj := fB "__init__" "EdgeError.__init__" (az (top 1) 0)
def b27 : Obj := cC "__init__" "EdgeError.__init__" 201 4 3 0 0 3 22 true 181 23 .none (.ref 24) (.ref 25) (.ref 26) 207 4 208
def b28 : Obj := fO (FN "__init__" "EdgeError.__init__" (az (top 1) 0) .none .none .none (.str "edgetally.errors" 187) none (.ref 27) .none)
def b29 : Obj := tO [(.str "word" 210)]
def b30 : Obj := ⟨(.type "dict"), none, (.dict #[(E P "__module__" 196 (.str "edgetally.errors" 187)), (E P "__firstlineno__" 200 (.int 2 199)), (E P "__init__" 209 (.ref 28)), (E P "__static_attributes__" 211 (.ref 29)), (E P "__weakref__" 213 (.ref 32)), (E P "__doc__" 214 .none)] 3), #[]⟩
def b31 : Obj := ⟨(.type "type"), none, (.cls ⟨"EdgeError", [(.type "ValueError")], [(.ref 31), (.type "ValueError"), (.type "Exception"), (.type "BaseException"), (.type "object")], 30, "EdgeError", true, [], [(.ref 52), (.ref 72), (.ref 92), (.ref 112)], false, none, false⟩), #[(some (.ref 15)), none, (some (.str "EdgeError" 189)), (some (.str "EdgeError" 197)), (some (.builtin "ValueError.__new__")), (some (.bool true))]⟩
def b32 : Obj := ⟨(.type "getset_descriptor"), none, (.fields #[(.str "__weakref__" 212), (.ref 31), (.builtin "ExceptionGroup.__weakref__"), .none]), #[]⟩
def b33 : Obj := ⟨(.type "super"), none, (.fields #[(.ref 31), (.ref 31), (.ref 31)]), #[]⟩
def b34 : Obj := ⟨(.type "builtin_function_or_method"), none, (.fields #[(.builtin "object.__init_subclass__"), (.ref 31)]), #[]⟩
def b35 : Obj := tO [(.ref 31)]
def b36 : Obj := ⟨(.type "builtin_function_or_method"), none, (.fields #[(.builtin "type.__prepare__"), (.type "type")]), #[]⟩
def b37 : Obj := ⟨(.type "dict"), none, (.dict #[(E P "__module__" 224 (.str "edgetally.errors" 187)), (E P "__qualname__" 226 (.str "BadSums" 225)), (E P "__firstlineno__" 228 (.int 7 227)), (E P "__init__" 237 (.ref 49)), (E P "__static_attributes__" 238 (.ref 50))] 5), #[]⟩
def b38 : Obj := tO []
def b39 : Obj := nO [(.int 9 0), (.int 4 0), (.ref 48)]
def b40 : Obj := cC "BadSums" "BadSums" 219 7 0 0 0 0 38 false 181 39 .none .none .none .none 222 7 223
def b41 : Obj := ⟨(.type "frame"), none, .plain, #[(some (.ref 40)), (some (.ref 3)), (some (.ref 37)), none, (some (.str "edgetally.errors" 187)), none, (some (.ref 0))]⟩
def b42 : Obj := tO [(.str "these sums are no table's" 229)]
def b43 : Obj := tO []
def b44 : Obj := nO []
def b45 : Obj := tO [(.str "self" 233), (.str "why" 234)]
def b46 : Obj := tO []
def b47 : Obj := fB "__init__" "BadSums.__init__" (az (top 2) 0)
def b48 : Obj := cC "__init__" "BadSums.__init__" 230 9 2 0 0 3 43 true 181 44 .none (.ref 45) (.ref 46) (.ref 47) 235 9 236
def b49 : Obj := fO (FN "__init__" "BadSums.__init__" (az (top 2) 0) (.ref 42) .none .none (.str "edgetally.errors" 187) none (.ref 48) .none)
def b50 : Obj := tO []
def b51 : Obj := ⟨(.type "dict"), none, (.dict #[(E P "__module__" 224 (.str "edgetally.errors" 187)), (E P "__firstlineno__" 228 (.int 7 227)), (E P "__init__" 237 (.ref 49)), (E P "__static_attributes__" 238 (.ref 50)), (E P "__doc__" 239 .none)] 2), #[]⟩
def b52 : Obj := ⟨(.type "type"), none, (.cls ⟨"BadSums", [(.ref 31)], [(.ref 52), (.ref 31), (.type "ValueError"), (.type "Exception"), (.type "BaseException"), (.type "object")], 51, "BadSums", true, [], [], false, none, false⟩), #[(some (.ref 35)), none, (some (.str "BadSums" 217)), (some (.str "BadSums" 225)), (some (.builtin "ValueError.__new__")), (some (.bool true))]⟩
def b53 : Obj := ⟨(.type "super"), none, (.fields #[(.ref 52), (.ref 52), (.ref 52)]), #[]⟩
def b54 : Obj := ⟨(.type "builtin_function_or_method"), none, (.fields #[(.builtin "object.__init_subclass__"), (.ref 52)]), #[]⟩
def b55 : Obj := tO [(.ref 31)]
def b56 : Obj := ⟨(.type "builtin_function_or_method"), none, (.fields #[(.builtin "type.__prepare__"), (.type "type")]), #[]⟩
def b57 : Obj := ⟨(.type "dict"), none, (.dict #[(E P "__module__" 249 (.str "edgetally.errors" 187)), (E P "__qualname__" 251 (.str "BadRule" 250)), (E P "__firstlineno__" 253 (.int 11 252)), (E P "__init__" 262 (.ref 69)), (E P "__static_attributes__" 263 (.ref 70))] 5), #[]⟩
def b58 : Obj := tO []
def b59 : Obj := nO [(.int 13 0), (.int 4 0), (.ref 68)]
def b60 : Obj := cC "BadRule" "BadRule" 244 11 0 0 0 0 58 false 181 59 .none .none .none .none 247 11 248
def b61 : Obj := ⟨(.type "frame"), none, .plain, #[(some (.ref 60)), (some (.ref 3)), (some (.ref 57)), none, (some (.str "edgetally.errors" 187)), none, (some (.ref 0))]⟩
def b62 : Obj := tO [(.str "there is no such rule" 254)]
def b63 : Obj := tO []
def b64 : Obj := nO []
def b65 : Obj := tO [(.str "self" 258), (.str "why" 259)]
def b66 : Obj := tO []
def b67 : Obj := fB "__init__" "BadRule.__init__" (az (top 3) 0)
def b68 : Obj := cC "__init__" "BadRule.__init__" 255 13 2 0 0 3 63 true 181 64 .none (.ref 65) (.ref 66) (.ref 67) 260 13 261
def b69 : Obj := fO (FN "__init__" "BadRule.__init__" (az (top 3) 0) (.ref 62) .none .none (.str "edgetally.errors" 187) none (.ref 68) .none)
def b70 : Obj := tO []
def b71 : Obj := ⟨(.type "dict"), none, (.dict #[(E P "__module__" 249 (.str "edgetally.errors" 187)), (E P "__firstlineno__" 253 (.int 11 252)), (E P "__init__" 262 (.ref 69)), (E P "__static_attributes__" 263 (.ref 70)), (E P "__doc__" 264 .none)] 2), #[]⟩
def b72 : Obj := ⟨(.type "type"), none, (.cls ⟨"BadRule", [(.ref 31)], [(.ref 72), (.ref 31), (.type "ValueError"), (.type "Exception"), (.type "BaseException"), (.type "object")], 71, "BadRule", true, [], [], false, none, false⟩), #[(some (.ref 55)), none, (some (.str "BadRule" 242)), (some (.str "BadRule" 250)), (some (.builtin "ValueError.__new__")), (some (.bool true))]⟩
def b73 : Obj := ⟨(.type "super"), none, (.fields #[(.ref 72), (.ref 72), (.ref 72)]), #[]⟩
def b74 : Obj := ⟨(.type "builtin_function_or_method"), none, (.fields #[(.builtin "object.__init_subclass__"), (.ref 72)]), #[]⟩
def b75 : Obj := tO [(.ref 31)]
def b76 : Obj := ⟨(.type "builtin_function_or_method"), none, (.fields #[(.builtin "type.__prepare__"), (.type "type")]), #[]⟩
def b77 : Obj := ⟨(.type "dict"), none, (.dict #[(E P "__module__" 274 (.str "edgetally.errors" 187)), (E P "__qualname__" 276 (.str "BadCell" 275)), (E P "__firstlineno__" 278 (.int 15 277)), (E P "__init__" 287 (.ref 89)), (E P "__static_attributes__" 288 (.ref 90))] 5), #[]⟩
def b78 : Obj := tO []
def b79 : Obj := nO [(.int 17 0), (.int 4 0), (.ref 88)]
def b80 : Obj := cC "BadCell" "BadCell" 269 15 0 0 0 0 78 false 181 79 .none .none .none .none 272 15 273
def b81 : Obj := ⟨(.type "frame"), none, .plain, #[(some (.ref 80)), (some (.ref 3)), (some (.ref 77)), none, (some (.str "edgetally.errors" 187)), none, (some (.ref 0))]⟩
def b82 : Obj := tO [(.str "there is no such cell" 279)]
def b83 : Obj := tO []
def b84 : Obj := nO []
def b85 : Obj := tO [(.str "self" 283), (.str "why" 284)]
def b86 : Obj := tO []
def b87 : Obj := fB "__init__" "BadCell.__init__" (az (top 4) 0)
def b88 : Obj := cC "__init__" "BadCell.__init__" 280 17 2 0 0 3 83 true 181 84 .none (.ref 85) (.ref 86) (.ref 87) 285 17 286
def b89 : Obj := fO (FN "__init__" "BadCell.__init__" (az (top 4) 0) (.ref 82) .none .none (.str "edgetally.errors" 187) none (.ref 88) .none)
def b90 : Obj := tO []
def b91 : Obj := ⟨(.type "dict"), none, (.dict #[(E P "__module__" 274 (.str "edgetally.errors" 187)), (E P "__firstlineno__" 278 (.int 15 277)), (E P "__init__" 287 (.ref 89)), (E P "__static_attributes__" 288 (.ref 90)), (E P "__doc__" 289 .none)] 2), #[]⟩
def b92 : Obj := ⟨(.type "type"), none, (.cls ⟨"BadCell", [(.ref 31)], [(.ref 92), (.ref 31), (.type "ValueError"), (.type "Exception"), (.type "BaseException"), (.type "object")], 91, "BadCell", true, [], [], false, none, false⟩), #[(some (.ref 75)), none, (some (.str "BadCell" 267)), (some (.str "BadCell" 275)), (some (.builtin "ValueError.__new__")), (some (.bool true))]⟩
def b93 : Obj := ⟨(.type "super"), none, (.fields #[(.ref 92), (.ref 92), (.ref 92)]), #[]⟩
def b94 : Obj := ⟨(.type "builtin_function_or_method"), none, (.fields #[(.builtin "object.__init_subclass__"), (.ref 92)]), #[]⟩
def b95 : Obj := tO [(.ref 31)]
def b96 : Obj := ⟨(.type "builtin_function_or_method"), none, (.fields #[(.builtin "type.__prepare__"), (.type "type")]), #[]⟩
def b97 : Obj := ⟨(.type "dict"), none, (.dict #[(E P "__module__" 299 (.str "edgetally.errors" 187)), (E P "__qualname__" 301 (.str "BadNumber" 300)), (E P "__firstlineno__" 303 (.int 19 302)), (E P "__init__" 312 (.ref 109)), (E P "__static_attributes__" 313 (.ref 110))] 5), #[]⟩
def b98 : Obj := tO []
def b99 : Obj := nO [(.int 21 0), (.int 4 0), (.ref 108)]
def yd : Obj := cC "BadNumber" "BadNumber" 294 19 0 0 0 0 98 false 181 99 .none .none .none .none 297 19 298
def yc : Obj := ⟨(.type "frame"), none, .plain, #[(some (.ref 100)), (some (.ref 3)), (some (.ref 97)), none, (some (.str "edgetally.errors" 187)), none, (some (.ref 0))]⟩
def sR : Obj := tO [(.str "this number is out of its bounds" 304)]
def yb : Obj := tO []
def ya : Obj := nO []
def x9 : Obj := tO [(.str "self" 308), (.str "why" 309)]
def x8 : Obj := tO []
def x6 : Obj := fB "__init__" "BadNumber.__init__" (az (top 5) 0)
def sQ : Obj := cC "__init__" "BadNumber.__init__" 305 21 2 0 0 3 103 true 181 104 .none (.ref 105) (.ref 106) (.ref 107) 310 21 311
def sP : Obj := fO (FN "__init__" "BadNumber.__init__" (az (top 5) 0) (.ref 102) .none .none (.str "edgetally.errors" 187) none (.ref 108) .none)
def x5 : Obj := tO []
def sO : Obj := ⟨(.type "dict"), none, (.dict #[(E P "__module__" 299 (.str "edgetally.errors" 187)), (E P "__firstlineno__" 303 (.int 19 302)), (E P "__init__" 312 (.ref 109)), (E P "__static_attributes__" 313 (.ref 110)), (E P "__doc__" 314 .none)] 2), #[]⟩
def sN : Obj := ⟨(.type "type"), none, (.cls ⟨"BadNumber", [(.ref 31)], [(.ref 112), (.ref 31), (.type "ValueError"), (.type "Exception"), (.type "BaseException"), (.type "object")], 111, "BadNumber", true, [], [], false, none, false⟩), #[(some (.ref 95)), none, (some (.str "BadNumber" 292)), (some (.str "BadNumber" 300)), (some (.builtin "ValueError.__new__")), (some (.bool true))]⟩
def x4 : Obj := ⟨(.type "super"), none, (.fields #[(.ref 112), (.ref 112), (.ref 112)]), #[]⟩
def x3 : Obj := ⟨(.type "builtin_function_or_method"), none, (.fields #[(.builtin "object.__init_subclass__"), (.ref 112)]), #[]⟩
def x0 : Obj := tO []
def xZ : Obj := nO []
def xY : Obj := fB "check_sums" "check_sums" (top 10)
def sM : Obj := cC "check_sums" "check_sums" 325 27 2 0 0 3 115 true 181 116 .none .none .none (.ref 117) 328 27 329
def sL : Obj := fO (FN "check_sums" "check_sums" (top 10) .none .none .none (.str "edgetally.bounds" 317) none (.ref 118) .none)
def xX : Obj := tO []
def xW : Obj := nO []
def xV : Obj := tO [(.str "place" 334), (.str "many" 335)]
def xU : Obj := tO []
def xT : Obj := fB "check_there" "check_there" (top 11)
def sK : Obj := cC "check_there" "check_there" 331 38 2 0 0 3 120 true 181 121 .none (.ref 122) (.ref 123) (.ref 124) 336 38 337
def sJ : Obj := fO (FN "check_there" "check_there" (top 11) .none .none .none (.str "edgetally.bounds" 317) none (.ref 125) .none)
def xS : Obj := tO []
def xR : Obj := nO []
def xQ : Obj := tO [(.str "row" 342), (.str "column" 343), (.str "rows" 344), (.str "columns" 345)]
def xP : Obj := tO []
def xO : Obj := fB "check_cell" "check_cell" (top 12)
def sI : Obj := cC "check_cell" "check_cell" 339 41 4 0 0 3 127 true 181 128 .none (.ref 129) (.ref 130) (.ref 131) 346 41 347
def sH : Obj := fO (FN "check_cell" "check_cell" (top 12) .none .none .none (.str "edgetally.bounds" 317) none (.ref 132) .none)
def xN : Obj := tO []
def xM : Obj := nO []
def xL : Obj := fB "rows_turned" "rows_turned" (top 13)
def sG : Obj := cC "rows_turned" "rows_turned" 349 44 1 0 0 3 134 true 181 135 .none .none .none (.ref 136) 352 44 353
def sF : Obj := fO (FN "rows_turned" "rows_turned" (top 13) .none .none .none (.str "edgetally.bounds" 317) none (.ref 137) .none)
def xK : Obj := tO []
def xJ : Obj := nO []
def xI : Obj := tO [(.str "number" 360), (.str "product" 361), (.str "factor" 362)]
def xH : Obj := tO []
def xG : Obj := fB "factorial" "factorial" (top 15)
def sE : Obj := cC "factorial" "factorial" 357 47 1 0 0 3 139 true 181 140 .none (.ref 141) (.ref 142) (.ref 143) 363 47 364
def sD : Obj := fO (FN "factorial" "factorial" (top 15) .none .none .none (.str "edgetally.counts" 355) none (.ref 144) .none)
def xF : Obj := tO []
def xE : Obj := nO []
def xD : Obj := tO [(.str "base" 369), (.str "many" 370), (.str "product" 371), (.str "factor" 372)]
def xC : Obj := tO []
def xB : Obj := fB "power" "power" (top 16)
def sC : Obj := cC "power" "power" 366 52 2 0 0 3 146 true 181 147 .none (.ref 148) (.ref 149) (.ref 150) 373 52 374
def sB : Obj := fO (FN "power" "power" (top 16) .none .none .none (.str "edgetally.counts" 355) none (.ref 151) .none)
def xA : Obj := tO []
def xz : Obj := nO []
def xy : Obj := tO [(.str "parts" 379), (.str "part" 380), (.str "told" 381)]
def xx : Obj := tO []
def xw : Obj := fB "ways" "ways" (top 17)
def sA : Obj := cC "ways" "ways" 376 57 1 0 0 3 153 true 181 154 .none (.ref 155) (.ref 156) (.ref 157) 382 57 383
def sy : Obj := fO (FN "ways" "ways" (top 17) .none .none .none (.str "edgetally.counts" 355) none (.ref 158) .none)
def xv : Obj := tO []
def xu : Obj := nO []
def xt : Obj := tO [(.str "one" 388), (.str "other" 389)]
def xq : Obj := tO []
def xp : Obj := fB "common_factor" "common_factor" (top 18)
def sw : Obj := cC "common_factor" "common_factor" 385 65 2 0 0 3 160 true 181 161 .none (.ref 162) (.ref 163) (.ref 164) 390 65 391
def su : Obj := fO (FN "common_factor" "common_factor" (top 18) .none .none .none (.str "edgetally.counts" 355) none (.ref 165) .none)
def ss : Obj := tO [(.str "rare" 395), (.str "square" 396), (.str "power" 397), (.str "off" 398), (.str "most" 399), (.str "least" 400)]
def sr : Obj := tO [(.str "rare" 402), (.str "power" 403)]
def sk : Obj := tO [(.str "most" 405), (.str "least" 406)]
def sj : Obj := tO [(.str "rare" 408), (.str "least" 409)]
def xo : Obj := tO []
def xm : Obj := nO []
def xl : Obj := tO [(.str "numbers" 414), (.str "told" 415), (.str "number" 416)]
def xk : Obj := tO []
def xj : Obj := fB "least_common" "least_common" (top 24)
def sf : Obj := cC "least_common" "least_common" 411 74 1 0 0 3 171 true 181 172 .none (.ref 173) (.ref 174) (.ref 175) 417 74 418
def se : Obj := fO (FN "least_common" "least_common" (top 24) .none .none .none (.str "edgetally.measures" 393) none (.ref 176) .none)
def xi : Obj := tO []
def xh : Obj := nO []
def xg : Obj := tO [(.str "counts" 423), (.str "told" 424), (.str "count" 425)]
def xf : Obj := tO []
def xb : Obj := fB "power_part" "power_part" (top 25)
def sd : Obj := cC "power_part" "power_part" 420 79 1 0 0 3 178 true 181 179 .none (.ref 180) (.ref 181) (.ref 182) 426 79 427
def r9 : Obj := fO (FN "power_part" "power_part" (top 25) .none .none .none (.str "edgetally.measures" 393) none (.ref 183) .none)
def xa : Obj := tO []
def w9 : Obj := nO []
def w8 : Obj := fB "square_part" "square_part" (top 26)
def r8 : Obj := cC "square_part" "square_part" 429 84 3 0 0 3 185 true 181 186 .none .none .none (.ref 187) 432 84 433
def rZ : Obj := fO (FN "square_part" "square_part" (top 26) .none .none .none (.str "edgetally.measures" 393) none (.ref 188) .none)
def w6 : Obj := tO []
def w5 : Obj := nO []
def w4 : Obj := fB "off_part" "off_part" (top 27)
def rY : Obj := cC "off_part" "off_part" 435 86 3 0 0 3 190 true 181 191 .none .none .none (.ref 192) 438 86 439
def rX : Obj := fO (FN "off_part" "off_part" (top 27) .none .none .none (.str "edgetally.measures" 393) none (.ref 193) .none)
def DM : Obj := tO []
def DL : Obj := ⟨(.type "builtin_function_or_method"), none, (.fields #[(.builtin "type.__prepare__"), (.type "type")]), #[]⟩
def DK : Obj := ⟨(.type "dict"), none, (.dict #[(E P "__module__" 448 (.str "edgetally.measures" 393)), (E P "__qualname__" 450 (.str "Measure" 449)), (E P "__firstlineno__" 452 (.int 88 451)), (E P "__init__" 461 (.ref 208)), (E P "rowsums" 468 (.ref 215)), (E P "columnsums" 475 (.ref 222)), (E P "part" 481 (.ref 227)), (E P "together" 490 (.ref 234)), (E P "begun" 497 (.ref 241)), (E P "of" 508 (.ref 248)), (E P "beyond" 517 (.ref 255)), (E P "__static_attributes__" 523 (.ref 256))] 12), #[]⟩
def DJ : Obj := tO []
def DI : Obj := nO [(.int 90 0), (.int 4 0), (.ref 207), (.int 102 0), (.int 4 0), (.ref 214), (.int 105 0), (.int 4 0), (.ref 221), (.int 108 0), (.int 4 0), (.ref 226), (.int 120 0), (.int 4 0), (.ref 233), (.int 123 0), (.int 4 0), (.ref 240), (.int 126 0), (.int 4 0), (.ref 247), (.int 132 0), (.int 4 0), (.ref 254)]
def DH : Obj := cC "Measure" "Measure" 443 88 0 0 0 0 198 false 181 199 .none .none .none .none 446 88 447
def DG : Obj := ⟨(.type "frame"), none, .plain, #[(some (.ref 200)), (some (.ref 3)), (some (.ref 197)), none, (some (.str "edgetally.measures" 393)), none, (some (.ref 0))]⟩
def wZ : Obj := tO [(.int 0 453), (.int 0 454)]
def wY : Obj := ⟨(.type "dict"), none, (.dict #[(E P "place" 455 (.ref 202))] 1), #[]⟩
def DF : Obj := tO []
def DE : Obj := nO []
def DD : Obj := fB "__init__" "Measure.__init__" (az (top 28) 0)
def wX : Obj := cC "__init__" "Measure.__init__" 456 90 4 0 1 3 204 true 181 205 .none .none .none (.ref 206) 459 90 460
def wW : Obj := fO (FN "__init__" "Measure.__init__" (az (top 28) 0) .none (.ref 203) .none (.str "edgetally.measures" 393) none (.ref 207) .none)
def DC : Obj := tO []
def DB : Obj := nO []
def DA : Obj := tO [(.str "self" 465)]
def Dz : Obj := tO []
def Dy : Obj := fB "rowsums" "Measure.rowsums" (az (top 28) 1)
def Dx : Obj := cC "rowsums" "Measure.rowsums" 462 102 1 0 0 3 209 true 181 210 .none (.ref 211) (.ref 212) (.ref 213) 466 102 467
def Dw : Obj := fO (FN "rowsums" "Measure.rowsums" (az (top 28) 1) .none .none .none (.str "edgetally.measures" 393) none (.ref 214) .none)
def Dv : Obj := tO []
def Du : Obj := nO []
def Dt : Obj := tO [(.str "self" 472)]
def Dr : Obj := tO []
def Dq : Obj := fB "columnsums" "Measure.columnsums" (az (top 28) 2)
def Dp : Obj := cC "columnsums" "Measure.columnsums" 469 105 1 0 0 3 216 true 181 217 .none (.ref 218) (.ref 219) (.ref 220) 473 105 474
def Do : Obj := fO (FN "columnsums" "Measure.columnsums" (az (top 28) 2) .none .none .none (.str "edgetally.measures" 393) none (.ref 221) .none)
def Dm : Obj := tO []
def Dl : Obj := nO []
def Dk : Obj := fB "part" "Measure.part" (az (top 28) 3)
def wV : Obj := cC "part" "Measure.part" 476 108 3 0 0 3 223 true 181 224 .none .none .none (.ref 225) 479 108 480
def wU : Obj := fO (FN "part" "Measure.part" (az (top 28) 3) .none .none .none (.str "edgetally.measures" 393) none (.ref 226) .none)
def Dj : Obj := tO []
def Di : Obj := nO []
def Dh : Obj := tO [(.str "self" 485), (.str "one" 486), (.str "other" 487)]
def Dg : Obj := tO []
def Df : Obj := fB "together" "Measure.together" (az (top 28) 4)
def wT : Obj := cC "together" "Measure.together" 482 120 3 0 0 3 228 true 181 229 .none (.ref 230) (.ref 231) (.ref 232) 488 120 489
def wS : Obj := fO (FN "together" "Measure.together" (az (top 28) 4) .none .none .none (.str "edgetally.measures" 393) none (.ref 233) .none)
def De : Obj := tO []
def Dd : Obj := nO []
def Db : Obj := tO [(.str "self" 494)]
def Da : Obj := tO []
def C9 : Obj := fB "begun" "Measure.begun" (az (top 28) 5)
def wR : Obj := cC "begun" "Measure.begun" 491 123 1 0 0 3 235 true 181 236 .none (.ref 237) (.ref 238) (.ref 239) 495 123 496
def wQ : Obj := fO (FN "begun" "Measure.begun" (az (top 28) 5) .none .none .none (.str "edgetally.measures" 393) none (.ref 240) .none)
def C8 : Obj := tO []
def C7 : Obj := nO []
def C6 : Obj := tO [(.str "self" 501), (.str "rows" 502), (.str "gathered" 503), (.str "column" 504), (.str "counts" 505)]
def C5 : Obj := tO []
def C4 : Obj := fB "of" "Measure.of" (az (top 28) 6)
def wP : Obj := cC "of" "Measure.of" 498 126 2 0 0 3 242 true 181 243 .none (.ref 244) (.ref 245) (.ref 246) 506 126 507
def wO : Obj := fO (FN "of" "Measure.of" (az (top 28) 6) .none .none .none (.str "edgetally.measures" 393) none (.ref 247) .none)
def C3 : Obj := tO []
def C2 : Obj := nO []
def C0 : Obj := tO [(.str "self" 512), (.str "value" 513), (.str "seen" 514)]
def CZ : Obj := tO []
def CY : Obj := fB "beyond" "Measure.beyond" (az (top 28) 7)
def wN : Obj := cC "beyond" "Measure.beyond" 509 132 3 0 0 3 249 true 181 250 .none (.ref 251) (.ref 252) (.ref 253) 515 132 516
def wM : Obj := fO (FN "beyond" "Measure.beyond" (az (top 28) 7) .none .none .none (.str "edgetally.measures" 393) none (.ref 254) .none)
def CW : Obj := tO [(.str "column_list" 518), (.str "even" 519), (.str "kind" 520), (.str "place" 521), (.str "row_list" 522)]
def wL : Obj := ⟨(.type "dict"), none, (.dict #[(E P "__module__" 448 (.str "edgetally.measures" 393)), (E P "__firstlineno__" 452 (.int 88 451)), (E P "__init__" 461 (.ref 208)), (E P "rowsums" 468 (.ref 215)), (E P "columnsums" 475 (.ref 222)), (E P "part" 481 (.ref 227)), (E P "together" 490 (.ref 234)), (E P "begun" 497 (.ref 241)), (E P "of" 508 (.ref 248)), (E P "beyond" 517 (.ref 255)), (E P "__static_attributes__" 523 (.ref 256)), (E P "__dict__" 525 (.ref 259)), (E P "__weakref__" 527 (.ref 260)), (E P "__doc__" 528 .none)] 4), #[]⟩
def wK : Obj := ⟨(.type "type"), none, (.cls ⟨"Measure", [(.type "object")], [(.ref 258), (.type "object")], 257, "Measure", true, [], [], false, none, false⟩), #[none, none, (some (.str "Measure" 441)), (some (.str "Measure" 449)), (some (.builtin "object.__new__")), (some (.bool true))]⟩
def CV : Obj := ⟨(.type "getset_descriptor"), none, (.fields #[(.str "__dict__" 524), (.ref 258), (.builtin "function.__dict__"), (.builtin "function.__dict__#set")]), #[]⟩
def CU : Obj := ⟨(.type "getset_descriptor"), none, (.fields #[(.str "__weakref__" 526), (.ref 258), (.builtin "ExceptionGroup.__weakref__"), .none]), #[]⟩
def CT : Obj := ⟨(.type "super"), none, (.fields #[(.ref 258), (.ref 258), (.ref 258)]), #[]⟩
def CS : Obj := ⟨(.type "builtin_function_or_method"), none, (.fields #[(.builtin "object.__init_subclass__"), (.ref 258)]), #[]⟩
def CQ : Obj := tO []
def CP : Obj := nO []
def CO : Obj := fB "_law_bag" "_law_bag" (top 30)
def wJ : Obj := cC "_law_bag" "_law_bag" 533 135 1 0 0 3 263 true 181 264 .none .none .none (.ref 265) 536 135 537
def wI : Obj := fO (FN "_law_bag" "_law_bag" (top 30) .none .none .none (.str "law_edgetally_k29_parts_go_together" 531) none (.ref 266) .none)
def CN : Obj := tO []
def CM : Obj := nO []
def CL : Obj := tO [(.str "_law_bag_here" 542), (.str "_law_lot" 543), (.str "_law_cells" 544), (.str "_law_at" 545), (.str "_law_cell" 546)]
def CK : Obj := tO []
def CJ : Obj := fB "_law_pull" "_law_pull" (top 31)
def wH : Obj := cC "_law_pull" "_law_pull" 539 137 2 0 0 3 268 true 181 269 .none (.ref 270) (.ref 271) (.ref 272) 547 137 548
def wG : Obj := fO (FN "_law_pull" "_law_pull" (top 31) .none .none .none (.str "law_edgetally_k29_parts_go_together" 531) none (.ref 273) .none)
def CI : Obj := tO []
def CH : Obj := nO []
def CG : Obj := fB "_law_same" "_law_same" (top 32)
def wF : Obj := cC "_law_same" "_law_same" 550 147 2 0 0 3 275 true 181 276 .none .none .none (.ref 277) 553 147 554
def wE : Obj := fO (FN "_law_same" "_law_same" (top 32) .none .none .none (.str "law_edgetally_k29_parts_go_together" 531) none (.ref 278) .none)
def CF : Obj := tO []
def CD : Obj := nO []
def CC : Obj := fB "_law_turned" "_law_turned" (top 33)
def wD : Obj := cC "_law_turned" "_law_turned" 556 159 1 0 0 3 280 true 181 281 .none .none .none (.ref 282) 559 159 560
def wC : Obj := fO (FN "_law_turned" "_law_turned" (top 33) .none .none .none (.str "law_edgetally_k29_parts_go_together" 531) none (.ref 283) .none)
def CB : Obj := tO []
def CA : Obj := nO []
def Cz : Obj := fB "_law_rowsums" "_law_rowsums" (top 34)
def wB : Obj := cC "_law_rowsums" "_law_rowsums" 562 161 1 0 0 3 285 true 181 286 .none .none .none (.ref 287) 565 161 566
def wA : Obj := fO (FN "_law_rowsums" "_law_rowsums" (top 34) .none .none .none (.str "law_edgetally_k29_parts_go_together" 531) none (.ref 288) .none)
def Cy : Obj := tO []
def Cw : Obj := nO []
def Cv : Obj := fB "_law_columnsums" "_law_columnsums" (top 35)
def wz : Obj := cC "_law_columnsums" "_law_columnsums" 568 163 1 0 0 3 290 true 181 291 .none .none .none (.ref 292) 571 163 572
def wy : Obj := fO (FN "_law_columnsums" "_law_columnsums" (top 35) .none .none .none (.str "law_edgetally_k29_parts_go_together" 531) none (.ref 293) .none)
def Cu : Obj := tO []
def Ct : Obj := nO []
def Cs : Obj := fB "_law_copied" "_law_copied" (top 36)
def wx : Obj := cC "_law_copied" "_law_copied" 574 165 1 0 0 3 295 true 181 296 .none .none .none (.ref 297) 577 165 578
def ww : Obj := fO (FN "_law_copied" "_law_copied" (top 36) .none .none .none (.str "law_edgetally_k29_parts_go_together" 531) none (.ref 298) .none)
def Cr : Obj := tO []
def Cq : Obj := nO []
def Cp : Obj := tO [(.str "_law_lot" 583), (.str "_law_found" 584), (.str "_law_k" 585)]
def Co : Obj := tO []
def Cn : Obj := fB "_law_factorial" "_law_factorial" (top 37)
def wv : Obj := cC "_law_factorial" "_law_factorial" 580 167 1 0 0 3 300 true 181 301 .none (.ref 302) (.ref 303) (.ref 304) 586 167 587
def wu : Obj := fO (FN "_law_factorial" "_law_factorial" (top 37) .none .none .none (.str "law_edgetally_k29_parts_go_together" 531) none (.ref 305) .none)
def Cm : Obj := tO []
def Cl : Obj := nO []
def Ck : Obj := tO [(.str "_law_parts" 592), (.str "_law_under" 593), (.str "_law_part" 594)]
def Cj : Obj := tO []
def Ci : Obj := fB "_law_ways" "_law_ways" (top 38)
def wt : Obj := cC "_law_ways" "_law_ways" 589 172 1 0 0 3 307 true 181 308 .none (.ref 309) (.ref 310) (.ref 311) 595 172 596
def wr : Obj := fO (FN "_law_ways" "_law_ways" (top 38) .none .none .none (.str "law_edgetally_k29_parts_go_together" 531) none (.ref 312) .none)
def Ch : Obj := tO []
def Cg : Obj := nO []
def Cf : Obj := tO [(.str "_law_columns" 601), (.str "_law_found" 602), (.str "_law_column" 603)]
def Cd : Obj := tO []
def Cc : Obj := fB "_law_weight" "_law_weight" (top 39)
def wq : Obj := cC "_law_weight" "_law_weight" 598 177 1 0 0 3 314 true 181 315 .none (.ref 316) (.ref 317) (.ref 318) 604 177 605
def wo : Obj := fO (FN "_law_weight" "_law_weight" (top 39) .none .none .none (.str "law_edgetally_k29_parts_go_together" 531) none (.ref 319) .none)
def Cb : Obj := tO []
def Ca : Obj := nO []
def B8 : Obj := tO [(.str "_law_one" 610), (.str "_law_other" 611), (.str "_law_kept" 612)]
def B7 : Obj := tO []
def B5 : Obj := fB "_law_gcd" "_law_gcd" (top 40)
def wn : Obj := cC "_law_gcd" "_law_gcd" 607 182 2 0 0 3 321 true 181 322 .none (.ref 323) (.ref 324) (.ref 325) 613 182 614
def wm : Obj := fO (FN "_law_gcd" "_law_gcd" (top 40) .none .none .none (.str "law_edgetally_k29_parts_go_together" 531) none (.ref 326) .none)
def B0 : Obj := tO []
def BZ : Obj := nO []
def BY : Obj := tO [(.str "_law_bag_here" 619)]
def BX : Obj := tO []
def BW : Obj := fB "_law_kind" "_law_kind" (top 41)
def wl : Obj := cC "_law_kind" "_law_kind" 616 188 1 0 0 3 328 true 181 329 .none (.ref 330) (.ref 331) (.ref 332) 620 188 621
def wk : Obj := fO (FN "_law_kind" "_law_kind" (top 41) .none .none .none (.str "law_edgetally_k29_parts_go_together" 531) none (.ref 333) .none)
def BV : Obj := tO []
def BU : Obj := nO []
def BT : Obj := tO [(.str "_law_bag_here" 626), (.str "_law_grid" 627), (.str "_law_at" 628)]
def BS : Obj := tO []
def BR : Obj := fB "_law_place" "_law_place" (top 42)
def wj : Obj := cC "_law_place" "_law_place" 623 190 2 0 0 3 335 true 181 336 .none (.ref 337) (.ref 338) (.ref 339) 629 190 630
def wg : Obj := fO (FN "_law_place" "_law_place" (top 42) .none .none .none (.str "law_edgetally_k29_parts_go_together" 531) none (.ref 340) .none)
def BQ : Obj := tO []
def BP : Obj := nO []
def BO : Obj := tO [(.str "_law_rowsums_here" 635), (.str "_law_columnsums_here" 636), (.str "_law_found" 637), (.str "_law_one" 638), (.str "_law_other" 639), (.str "_law_both" 640)]
def BN : Obj := tO []
def BM : Obj := fB "_law_even" "_law_even" (top 43)
def wf : Obj := cC "_law_even" "_law_even" 632 193 2 0 0 3 342 true 181 343 .none (.ref 344) (.ref 345) (.ref 346) 641 193 642
def we : Obj := fO (FN "_law_even" "_law_even" (top 43) .none .none .none (.str "law_edgetally_k29_parts_go_together" 531) none (.ref 347) .none)
def BL : Obj := tO []
def BK : Obj := nO []
def BJ : Obj := tO [(.str "_law_count" 647), (.str "_law_found" 648), (.str "_law_k" 649)]
def BI : Obj := tO []
def BH : Obj := fB "_law_self_power" "_law_self_power" (top 44)
def wc : Obj := cC "_law_self_power" "_law_self_power" 644 201 1 0 0 3 349 true 181 350 .none (.ref 351) (.ref 352) (.ref 353) 650 201 651
def wb : Obj := fO (FN "_law_self_power" "_law_self_power" (top 44) .none .none .none (.str "law_edgetally_k29_parts_go_together" 531) none (.ref 354) .none)
def BG : Obj := tO []
def BF : Obj := nO []
def BE : Obj := tO [(.str "_law_rowsums_here" 656), (.str "_law_columnsums_here" 657), (.str "_law_columns" 658), (.str "_law_even_here" 659), (.str "_law_found" 660), (.str "_law_to" 661), (.str "_law_column" 662), (.str "_law_at" 663), (.str "_law_count" 664), (.str "_law_both" 665)]
def BD : Obj := tO []
def BC : Obj := fB "_law_square" "_law_square" (top 45)
def wa : Obj := cC "_law_square" "_law_square" 653 206 3 0 0 3 356 true 181 357 .none (.ref 358) (.ref 359) (.ref 360) 666 206 667
def v9 : Obj := fO (FN "_law_square" "_law_square" (top 45) .none .none .none (.str "law_edgetally_k29_parts_go_together" 531) none (.ref 361) .none)
def BB : Obj := tO []
def BA : Obj := nO []
def Bz : Obj := tO [(.str "_law_rowsums_here" 672), (.str "_law_columnsums_here" 673), (.str "_law_columns" 674), (.str "_law_found" 675), (.str "_law_whole" 676), (.str "_law_to" 677), (.str "_law_column" 678), (.str "_law_at" 679), (.str "_law_count" 680), (.str "_law_both" 681)]
def By : Obj := tO []
def Bx : Obj := fB "_law_off" "_law_off" (top 46)
def v8 : Obj := cC "_law_off" "_law_off" 669 215 3 0 0 3 363 true 181 364 .none (.ref 365) (.ref 366) (.ref 367) 682 215 683
def v7 : Obj := fO (FN "_law_off" "_law_off" (top 46) .none .none .none (.str "law_edgetally_k29_parts_go_together" 531) none (.ref 368) .none)
def b370 : Obj := tO []
def b371 : Obj := nO []
def b372 : Obj := tO [(.str "_law_kind_here" 688), (.str "_law_rowsums_here" 689), (.str "_law_columnsums_here" 690), (.str "_law_where" 691), (.str "_law_columns" 692), (.str "_law_found" 693), (.str "_law_column" 694), (.str "_law_count" 695)]
def b373 : Obj := tO []
def b374 : Obj := fB "_law_value" "_law_value" (top 47)
def Bw : Obj := cC "_law_value" "_law_value" 685 223 5 0 0 3 370 true 181 371 .none (.ref 372) (.ref 373) (.ref 374) 696 223 697
def Bv : Obj := fO (FN "_law_value" "_law_value" (top 47) .none .none .none (.str "law_edgetally_k29_parts_go_together" 531) none (.ref 375) .none)
def b377 : Obj := tO []
def b378 : Obj := nO []
def b379 : Obj := tO [(.str "_law_kind_here" 702), (.str "_law_value_here" 703), (.str "_law_seen" 704)]
def b380 : Obj := tO []
def b381 : Obj := fB "_law_beyond" "_law_beyond" (top 48)
def Bu : Obj := cC "_law_beyond" "_law_beyond" 699 237 3 0 0 3 377 true 181 378 .none (.ref 379) (.ref 380) (.ref 381) 705 237 706
def Bt : Obj := fO (FN "_law_beyond" "_law_beyond" (top 48) .none .none .none (.str "law_edgetally_k29_parts_go_together" 531) none (.ref 382) .none)
def b384 : Obj := tO []
def b385 : Obj := nO []
def b386 : Obj := tO [(.str "_law_kind_here" 711), (.str "_law_grid" 712), (.str "_law_where" 713)]
def b387 : Obj := tO []
def b388 : Obj := fB "_law_scale" "_law_scale" (top 49)
def Bs : Obj := cC "_law_scale" "_law_scale" 708 241 3 0 0 3 384 true 181 385 .none (.ref 386) (.ref 387) (.ref 388) 714 241 715
def Br : Obj := fO (FN "_law_scale" "_law_scale" (top 49) .none .none .none (.str "law_edgetally_k29_parts_go_together" 531) none (.ref 389) .none)
def b391 : Obj := tO []
def b392 : Obj := nO []
def b393 : Obj := fB "_law_any" "_law_any" (top 50)
def Bq : Obj := cC "_law_any" "_law_any" 717 243 1 0 0 3 391 true 181 392 .none .none .none (.ref 393) 720 243 721
def Bp : Obj := fO (FN "_law_any" "_law_any" (top 50) .none .none .none (.str "law_edgetally_k29_parts_go_together" 531) none (.ref 394) .none)
def b396 : Obj := tO []
def b397 : Obj := nO []
def b398 : Obj := tO [(.str "_law_script" 726), (.str "_law_bag_here" 727), (.str "_law_block" 728), (.str "_law_where" 729), (.str "_law_kind_here" 730), (.str "_law_rowsums_here" 731), (.str "_law_columnsums_here" 732), (.str "_law_scale_here" 733), (.str "_law_so_far" 734), (.str "_law_to" 735), (.str "_law_column" 736), (.str "_law_handed" 737), (.str "_law_part" 738), (.str "_law_due" 739), (.str "_law_value_here" 740), (.str "_law_seen" 741)]
def b399 : Obj := tO []
def b400 : Obj := fB "law" "law" (top 51)
def Bo : Obj := cC "law" "law" 723 254 1 0 0 3 396 true 181 397 .none (.ref 398) (.ref 399) (.ref 400) 742 254 743
def Bn : Obj := fO (FN "law" "law" (top 51) .none .none .none (.str "law_edgetally_k29_parts_go_together" 531) none (.ref 401) .none)
def h0_3 : Obj := ⟨(.type "dict"), none, (.dict #[(E P "__name__" 165 (.str "__main__" 164)), (E P "__doc__" 166 .none), (E P "__package__" 167 .none), (E P "__loader__" 168 (.builtin "__main__.__loader__#opaque")), (E P "__spec__" 169 .none), (E P "__annotations__" 170 (.ref 6)), (E P "__builtins__" 171 (.ref 4)), (E P "__file__" 173 (.str "/claim/cut.py" 172)), (E P "__cached__" 174 .none)] 9), #[]⟩
def Ev : Obj := nO []
def h1_3 : Obj := ⟨(.type "dict"), none, (.dict #[(E P "__name__" 165 (.str "__main__" 164)), (E P "__doc__" 166 .none), (E P "__package__" 167 .none), (E P "__loader__" 168 (.builtin "__main__.__loader__#opaque")), (E P "__spec__" 169 .none), (E P "__annotations__" 170 (.ref 6)), (E P "__builtins__" 171 (.ref 4)), (E P "__file__" 173 (.str "/claim/cut.py" 172)), (E P "__cached__" 174 .none)] 9), #[]⟩
def Eo : Obj := nO [(.int 2 0), (.int 0 0), (.ref 20), (.int 7 0), (.int 0 0), (.ref 40), (.int 11 0), (.int 0 0), (.ref 60), (.int 15 0), (.int 0 0), (.ref 80)]
def k1_3 : Obj := ⟨(.type "dict"), none, (.dict #[(E P "__name__" 165 (.str "edgetally.errors" 187)), (E P "__doc__" 166 .none), (E P "__package__" 167 .none), (E P "__loader__" 168 (.builtin "__main__.__loader__#opaque")), (E P "__spec__" 169 .none), (E P "__annotations__" 170 (.ref 6)), (E P "__builtins__" 171 (.ref 4)), (E P "__file__" 173 (.str "/claim/cut.py" 172)), (E P "__cached__" 174 .none), (E P "EdgeError" 216 (.ref 31)), (E P "BadSums" 241 (.ref 52)), (E P "BadRule" 266 (.ref 72)), (E P "BadCell" 291 (.ref 92))] 13), #[]⟩
def En : Obj := ⟨(.type "type"), none, (.cls ⟨"EdgeError", [(.type "ValueError")], [(.ref 31), (.type "ValueError"), (.type "Exception"), (.type "BaseException"), (.type "object")], 30, "EdgeError", true, [], [(.ref 52), (.ref 72), (.ref 92)], false, none, false⟩), #[(some (.ref 15)), none, (some (.str "EdgeError" 189)), (some (.str "EdgeError" 197)), (some (.builtin "ValueError.__new__")), (some (.bool true))]⟩
def Em : Obj := nO [(.int 2 0), (.int 0 0), (.ref 20), (.int 7 0), (.int 0 0), (.ref 40), (.int 11 0), (.int 0 0), (.ref 60), (.int 15 0), (.int 0 0), (.ref 80), (.int 19 0), (.int 0 0), (.ref 100), (.int 27 0), (.int 0 0), (.ref 118), (.int 38 0), (.int 0 0), (.ref 125), (.int 41 0), (.int 0 0), (.ref 132), (.int 44 0), (.int 0 0), (.ref 137), (.int 47 0), (.int 0 0), (.ref 144), (.int 52 0), (.int 0 0), (.ref 151), (.int 57 0), (.int 0 0), (.ref 158), (.int 65 0), (.int 0 0), (.ref 165), (.int 74 0), (.int 0 0), (.ref 176), (.int 79 0), (.int 0 0), (.ref 183), (.int 84 0), (.int 0 0), (.ref 188), (.int 86 0), (.int 0 0), (.ref 193)]
def k2_3 : Obj := ⟨(.type "dict"), none, (.dict #[(E P "__name__" 165 (.str "edgetally.measures" 393)), (E P "__doc__" 166 .none), (E P "__package__" 167 .none), (E P "__loader__" 168 (.builtin "__main__.__loader__#opaque")), (E P "__spec__" 169 .none), (E P "__annotations__" 170 (.ref 6)), (E P "__builtins__" 171 (.ref 4)), (E P "__file__" 173 (.str "/claim/cut.py" 172)), (E P "__cached__" 174 .none), (E P "EdgeError" 216 (.ref 31)), (E P "BadSums" 241 (.ref 52)), (E P "BadRule" 266 (.ref 72)), (E P "BadCell" 291 (.ref 92)), (E P "BadNumber" 316 (.ref 112)), (E P "MOST" 320 (.int 40 319)), (E P "MOST_ROWS" 322 (.int 4 321)), (E P "MOST_COLUMNS" 324 (.int 6 323)), (E P "check_sums" 330 (.ref 119)), (E P "check_there" 338 (.ref 126)), (E P "check_cell" 348 (.ref 133)), (E P "rows_turned" 354 (.ref 138)), (E P "factorial" 365 (.ref 145)), (E P "power" 375 (.ref 152)), (E P "ways" 384 (.ref 159)), (E P "common_factor" 392 (.ref 166)), (E P "KINDS" 401 (.ref 167)), (E P "BY_PRODUCT" 404 (.ref 168)), (E P "BY_PLACE" 407 (.ref 169)), (E P "LESS_IS_STRANGER" 410 (.ref 170)), (E P "least_common" 419 (.ref 177)), (E P "power_part" 428 (.ref 184)), (E P "square_part" 434 (.ref 189)), (E P "off_part" 440 (.ref 194))] 33), #[]⟩
def El : Obj := nO [(.int 2 0), (.int 0 0), (.ref 20), (.int 7 0), (.int 0 0), (.ref 40), (.int 11 0), (.int 0 0), (.ref 60), (.int 15 0), (.int 0 0), (.ref 80), (.int 19 0), (.int 0 0), (.ref 100), (.int 27 0), (.int 0 0), (.ref 118), (.int 38 0), (.int 0 0), (.ref 125), (.int 41 0), (.int 0 0), (.ref 132), (.int 44 0), (.int 0 0), (.ref 137), (.int 47 0), (.int 0 0), (.ref 144), (.int 52 0), (.int 0 0), (.ref 151), (.int 57 0), (.int 0 0), (.ref 158), (.int 65 0), (.int 0 0), (.ref 165), (.int 74 0), (.int 0 0), (.ref 176), (.int 79 0), (.int 0 0), (.ref 183), (.int 84 0), (.int 0 0), (.ref 188), (.int 86 0), (.int 0 0), (.ref 193), (.int 88 0), (.int 0 0), (.ref 200), (.int 135 0), (.int 0 0), (.ref 266), (.int 137 0), (.int 0 0), (.ref 273), (.int 147 0), (.int 0 0), (.ref 278), (.int 159 0), (.int 0 0), (.ref 283), (.int 161 0), (.int 0 0), (.ref 288), (.int 163 0), (.int 0 0), (.ref 293), (.int 165 0), (.int 0 0), (.ref 298), (.int 167 0), (.int 0 0), (.ref 305), (.int 172 0), (.int 0 0), (.ref 312), (.int 177 0), (.int 0 0), (.ref 319), (.int 182 0), (.int 0 0), (.ref 326), (.int 188 0), (.int 0 0), (.ref 333), (.int 190 0), (.int 0 0), (.ref 340), (.int 193 0), (.int 0 0), (.ref 347), (.int 201 0), (.int 0 0), (.ref 354), (.int 206 0), (.int 0 0), (.ref 361), (.int 215 0), (.int 0 0), (.ref 368)]
def k3_3 : Obj := ⟨(.type "dict"), none, (.dict #[(E P "__name__" 165 (.str "law_edgetally_k29_parts_go_together" 531)), (E P "__doc__" 166 .none), (E P "__package__" 167 .none), (E P "__loader__" 168 (.builtin "__main__.__loader__#opaque")), (E P "__spec__" 169 .none), (E P "__annotations__" 170 (.ref 6)), (E P "__builtins__" 171 (.ref 4)), (E P "__file__" 173 (.str "/claim/cut.py" 172)), (E P "__cached__" 174 .none), (E P "EdgeError" 216 (.ref 31)), (E P "BadSums" 241 (.ref 52)), (E P "BadRule" 266 (.ref 72)), (E P "BadCell" 291 (.ref 92)), (E P "BadNumber" 316 (.ref 112)), (E P "MOST" 320 (.int 40 319)), (E P "MOST_ROWS" 322 (.int 4 321)), (E P "MOST_COLUMNS" 324 (.int 6 323)), (E P "check_sums" 330 (.ref 119)), (E P "check_there" 338 (.ref 126)), (E P "check_cell" 348 (.ref 133)), (E P "rows_turned" 354 (.ref 138)), (E P "factorial" 365 (.ref 145)), (E P "power" 375 (.ref 152)), (E P "ways" 384 (.ref 159)), (E P "common_factor" 392 (.ref 166)), (E P "KINDS" 401 (.ref 167)), (E P "BY_PRODUCT" 404 (.ref 168)), (E P "BY_PLACE" 407 (.ref 169)), (E P "LESS_IS_STRANGER" 410 (.ref 170)), (E P "least_common" 419 (.ref 177)), (E P "power_part" 428 (.ref 184)), (E P "square_part" 434 (.ref 189)), (E P "off_part" 440 (.ref 194)), (E P "Measure" 530 (.ref 258)), (E P "_law_bag" 538 (.ref 267)), (E P "_law_pull" 549 (.ref 274)), (E P "_law_same" 555 (.ref 279)), (E P "_law_turned" 561 (.ref 284)), (E P "_law_rowsums" 567 (.ref 289)), (E P "_law_columnsums" 573 (.ref 294)), (E P "_law_copied" 579 (.ref 299)), (E P "_law_factorial" 588 (.ref 306)), (E P "_law_ways" 597 (.ref 313)), (E P "_law_weight" 606 (.ref 320)), (E P "_law_gcd" 615 (.ref 327)), (E P "_law_kind" 622 (.ref 334)), (E P "_law_place" 631 (.ref 341)), (E P "_law_even" 643 (.ref 348)), (E P "_law_self_power" 652 (.ref 355)), (E P "_law_square" 668 (.ref 362)), (E P "_law_off" 684 (.ref 369))] 51), #[]⟩
def h0H : Heap := ⟨⟨[b0 P, b1 P, b2, h0_3 P, b4, b5, b6, b7, b8, b9, b10]⟩, {}⟩
def h1H : Heap := ⟨⟨[b0 P, b1 P, b2, h1_3 P, b4, b5, b6, b7, b8, b9, b10, b11, Ev, b13, b14]⟩, {}⟩
def k1H : Heap := ⟨⟨[b0 P, b1 P, b2, k1_3 P, b4, b5, b6, b7, b8, b9, b10, b11, Eo, b13, b14, b15, b16, b17 P, b18, b19, b20, b21, b22, b23, b24, b25, b26, b27, b28, b29, b30 P, En, b32, b33, b34, b35, b36, b37 P, b38, b39, b40, b41, b42, b43, b44, b45, b46, b47, b48, b49, b50, b51 P, b52, b53, b54, b55, b56, b57 P, b58, b59, b60, b61, b62, b63, b64, b65, b66, b67, b68, b69, b70, b71 P, b72, b73, b74, b75, b76, b77 P, b78, b79, b80, b81, b82, b83, b84, b85, b86, b87, b88, b89, b90, b91 P, b92, b93, b94]⟩, {}⟩
def k2H : Heap := ⟨⟨[b0 P, b1 P, b2, k2_3 P, b4, b5, b6, b7, b8, b9, b10, b11, Em, b13, b14, b15, b16, b17 P, b18, b19, b20, b21, b22, b23, b24, b25, b26, b27, b28, b29, b30 P, b31, b32, b33, b34, b35, b36, b37 P, b38, b39, b40, b41, b42, b43, b44, b45, b46, b47, b48, b49, b50, b51 P, b52, b53, b54, b55, b56, b57 P, b58, b59, b60, b61, b62, b63, b64, b65, b66, b67, b68, b69, b70, b71 P, b72, b73, b74, b75, b76, b77 P, b78, b79, b80, b81, b82, b83, b84, b85, b86, b87, b88, b89, b90, b91 P, b92, b93, b94, b95, b96, b97 P, b98, b99, yd, yc, sR, yb, ya, x9, x8, x6, sQ, sP, x5, sO P, sN, x4, x3, x0, xZ, xY, sM, sL, xX, xW, xV, xU, xT, sK, sJ, xS, xR, xQ, xP, xO, sI, sH, xN, xM, xL, sG, sF, xK, xJ, xI, xH, xG, sE, sD, xF, xE, xD, xC, xB, sC, sB, xA, xz, xy, xx, xw, sA, sy, xv, xu, xt, xq, xp, sw, su, ss, sr, sk, sj, xo, xm, xl, xk, xj, sf, se, xi, xh, xg, xf, xb, sd, r9, xa, w9, w8, r8, rZ, w6, w5, w4, rY, rX]⟩, {}⟩
def k3H : Heap := ⟨⟨[b0 P, b1 P, b2, k3_3 P, b4, b5, b6, b7, b8, b9, b10, b11, El, b13, b14, b15, b16, b17 P, b18, b19, b20, b21, b22, b23, b24, b25, b26, b27, b28, b29, b30 P, b31, b32, b33, b34, b35, b36, b37 P, b38, b39, b40, b41, b42, b43, b44, b45, b46, b47, b48, b49, b50, b51 P, b52, b53, b54, b55, b56, b57 P, b58, b59, b60, b61, b62, b63, b64, b65, b66, b67, b68, b69, b70, b71 P, b72, b73, b74, b75, b76, b77 P, b78, b79, b80, b81, b82, b83, b84, b85, b86, b87, b88, b89, b90, b91 P, b92, b93, b94, b95, b96, b97 P, b98, b99, yd, yc, sR, yb, ya, x9, x8, x6, sQ, sP, x5, sO P, sN, x4, x3, x0, xZ, xY, sM, sL, xX, xW, xV, xU, xT, sK, sJ, xS, xR, xQ, xP, xO, sI, sH, xN, xM, xL, sG, sF, xK, xJ, xI, xH, xG, sE, sD, xF, xE, xD, xC, xB, sC, sB, xA, xz, xy, xx, xw, sA, sy, xv, xu, xt, xq, xp, sw, su, ss, sr, sk, sj, xo, xm, xl, xk, xj, sf, se, xi, xh, xg, xf, xb, sd, r9, xa, w9, w8, r8, rZ, w6, w5, w4, rY, rX, DM, DL, DK P, DJ, DI, DH, DG, wZ, wY P, DF, DE, DD, wX, wW, DC, DB, DA, Dz, Dy, Dx, Dw, Dv, Du, Dt, Dr, Dq, Dp, Do, Dm, Dl, Dk, wV, wU, Dj, Di, Dh, Dg, Df, wT, wS, De, Dd, Db, Da, C9, wR, wQ, C8, C7, C6, C5, C4, wP, wO, C3, C2, C0, CZ, CY, wN, wM, CW, wL P, wK, CV, CU, CT, CS, CQ, CP, CO, wJ, wI, CN, CM, CL, CK, CJ, wH, wG, CI, CH, CG, wF, wE, CF, CD, CC, wD, wC, CB, CA, Cz, wB, wA, Cy, Cw, Cv, wz, wy, Cu, Ct, Cs, wx, ww, Cr, Cq, Cp, Co, Cn, wv, wu, Cm, Cl, Ck, Cj, Ci, wt, wr, Ch, Cg, Cf, Cd, Cc, wq, wo, Cb, Ca, B8, B7, B5, wn, wm, B0, BZ, BY, BX, BW, wl, wk, BV, BU, BT, BS, BR, wj, wg, BQ, BP, BO, BN, BM, wf, we, BL, BK, BJ, BI, BH, wc, wb, BG, BF, BE, BD, BC, wa, v9, BB, BA, Bz, By, Bx, v8, v7]⟩, {}⟩
def k4H : Heap := ⟨⟨[b0 P, b1 P, b2, b3 P, b4, b5, b6, b7, b8, b9, b10, b11, b12, b13, b14, b15, b16, b17 P, b18, b19, b20, b21, b22, b23, b24, b25, b26, b27, b28, b29, b30 P, b31, b32, b33, b34, b35, b36, b37 P, b38, b39, b40, b41, b42, b43, b44, b45, b46, b47, b48, b49, b50, b51 P, b52, b53, b54, b55, b56, b57 P, b58, b59, b60, b61, b62, b63, b64, b65, b66, b67, b68, b69, b70, b71 P, b72, b73, b74, b75, b76, b77 P, b78, b79, b80, b81, b82, b83, b84, b85, b86, b87, b88, b89, b90, b91 P, b92, b93, b94, b95, b96, b97 P, b98, b99, yd, yc, sR, yb, ya, x9, x8, x6, sQ, sP, x5, sO P, sN, x4, x3, x0, xZ, xY, sM, sL, xX, xW, xV, xU, xT, sK, sJ, xS, xR, xQ, xP, xO, sI, sH, xN, xM, xL, sG, sF, xK, xJ, xI, xH, xG, sE, sD, xF, xE, xD, xC, xB, sC, sB, xA, xz, xy, xx, xw, sA, sy, xv, xu, xt, xq, xp, sw, su, ss, sr, sk, sj, xo, xm, xl, xk, xj, sf, se, xi, xh, xg, xf, xb, sd, r9, xa, w9, w8, r8, rZ, w6, w5, w4, rY, rX, DM, DL, DK P, DJ, DI, DH, DG, wZ, wY P, DF, DE, DD, wX, wW, DC, DB, DA, Dz, Dy, Dx, Dw, Dv, Du, Dt, Dr, Dq, Dp, Do, Dm, Dl, Dk, wV, wU, Dj, Di, Dh, Dg, Df, wT, wS, De, Dd, Db, Da, C9, wR, wQ, C8, C7, C6, C5, C4, wP, wO, C3, C2, C0, CZ, CY, wN, wM, CW, wL P, wK, CV, CU, CT, CS, CQ, CP, CO, wJ, wI, CN, CM, CL, CK, CJ, wH, wG, CI, CH, CG, wF, wE, CF, CD, CC, wD, wC, CB, CA, Cz, wB, wA, Cy, Cw, Cv, wz, wy, Cu, Ct, Cs, wx, ww, Cr, Cq, Cp, Co, Cn, wv, wu, Cm, Cl, Ck, Cj, Ci, wt, wr, Ch, Cg, Cf, Cd, Cc, wq, wo, Cb, Ca, B8, B7, B5, wn, wm, B0, BZ, BY, BX, BW, wl, wk, BV, BU, BT, BS, BR, wj, wg, BQ, BP, BO, BN, BM, wf, we, BL, BK, BJ, BI, BH, wc, wb, BG, BF, BE, BD, BC, wa, v9, BB, BA, Bz, By, Bx, v8, v7, b370, b371, b372, b373, b374, Bw, Bv, b377, b378, b379, b380, b381, Bu, Bt, b384, b385, b386, b387, b388, Bs, Br, b391, b392, b393, Bq, Bp, b396, b397, b398, b399, b400, Bo, Bn]⟩, {}⟩
end
noncomputable def KH : Params -> PySem.W.Frag := fun P =>
[(2, b2), (3, b3 P), (27, b27), (28, b28), (30, b30 P), (31, b31), (42, b42), (48, b48), (49, b49), (51, b51 P), (52, b52), (62, b62), (68, b68), (69, b69), (71, b71 P), (72, b72), (82, b82), (88, b88), (89, b89), (91, b91 P), (92, b92), (102, sR), (108, sQ), (109, sP), (111, sO P), (112, sN), (118, sM), (119, sL), (125, sK), (126, sJ), (132, sI), (133, sH), (137, sG), (138, sF), (144, sE), (145, sD), (151, sC), (152, sB), (158, sA), (159, sy), (165, sw), (166, su), (167, ss), (168, sr), (169, sk), (170, sj), (176, sf), (177, se), (183, sd), (184, r9), (188, r8), (189, rZ), (193, rY), (194, rX), (202, wZ), (203, wY P), (207, wX), (208, wW), (226, wV), (227, wU), (233, wT), (234, wS), (240, wR), (241, wQ), (247, wP), (248, wO), (254, wN), (255, wM), (257, wL P), (258, wK), (266, wJ), (267, wI), (273, wH), (274, wG), (278, wF), (279, wE), (283, wD), (284, wC), (288, wB), (289, wA), (293, wz), (294, wy), (298, wx), (299, ww), (305, wv), (306, wu), (312, wt), (313, wr), (319, wq), (320, wo), (326, wn), (327, wm), (333, wl), (334, wk), (340, wj), (341, wg), (347, wf), (348, we), (354, wc), (355, wb), (361, wa), (362, v9), (368, v8), (369, v7), (375, Bw), (376, Bv), (382, Bu), (383, Bt), (389, Bs), (390, Br), (394, Bq), (395, Bp), (401, Bo), (402, Bn)]
def aH : List Addr := [2, 3, 27, 28, 30, 31, 42, 48, 49, 51, 52, 62, 68, 69, 71, 72, 82, 88, 89, 91, 92, 102, 108, 109, 111, 112, 118, 119, 125, 126, 132, 133, 137, 138, 144, 145, 151, 152, 158, 159, 165, 166, 167, 168, 169, 170, 176, 177, 183, 184, 188, 189, 193, 194, 202, 203, 207, 208, 226, 227, 233, 234, 240, 241, 247, 248, 254, 255, 257, 258, 266, 267, 273, 274, 278, 279, 283, 284, 288, 289, 293, 294, 298, 299, 305, 306, 312, 313, 319, 320, 326, 327, 333, 334, 340, 341, 347, 348, 354, 355, 361, 362, 368, 369, 375, 376, 382, 383, 389, 390, 394, 395, 401, 402]
theorem eH : ∀ P, aH = (KH P).map (·.1) := fun _ => by kernel_rfl
def qH : Program := { PySem.Challenge.pw_edgetally_k29_parts_go_together with main := { PySem.Challenge.pw_edgetally_k29_parts_go_together.main with body := [top 1, top 2, top 3, top 4, top 5, top 7, top 8, top 9, top 10, top 11, top 12, top 13, top 15, top 16, top 17, top 18, top 20, top 21, top 22, top 23, top 24, top 25, top 26, top 27, top 28, top 30, top 31, top 32, top 33, top 34, top 35, top 36, top 37, top 38, top 39, top 40, top 41, top 42, top 43, top 44, top 45, top 46, top 47, top 48, top 49, top 50, top 51] } }
abbrev lvH : List (Str × PySem.W.WData) := []
abbrev loH : List Str := ["BadSums", "BadRule", "BadCell", "BadNumber", "Measure"]
noncomputable abbrev hkH := PySem.W.kHook KH aH eH
def xtH (s : Shared) : Bool := PySem.W.xlAt qH lvH s && PySem.W.recOk (PySem.W.RowW.records (PySem.W.OpenRow.toRowW (PySem.W.OpenLaw.row PySem.Challenge.rw_edgetally_k29_parts_go_together))) s
abbrev pH : Program := PySem.W.RowW.prog (PySem.W.OpenRow.toRowW (PySem.W.OpenLaw.row PySem.Challenge.rw_edgetally_k29_parts_go_together))
def bdH : List Stmt := PySem.W.behindTheImports pH
def evH : Env := { scope := pH.main.scope, locals := mainNs, globals := mainNs, cells := [], code := (.ref 13), frame := (some 14) }
def cH : Code := .body bdH evH
abbrev tpH : List Frame := [PySem.W.topFrame ⟨0, 0, 0, 0⟩]
theorem opH (w : World) : (PySem.W.fencedOpening PySem.treeTable pH w 5754).map (fun s => (s.heap, s.gens, s.drawn, s.toks)) = some (h0H w.params, #[], {}, 181) := by kernel_rfl
theorem szH (w : World) : ((h0H w.params).isNs mainGlobals && (#[] : Array GenState).size == 0, (h0H w.params).objs.size, (h0H w.params).nsMap mainGlobals "__annotations__") = (true, 11, (some (.ref 6))) := by kernel_rfl
theorem r1H (w : World) (os : OsState) : PySem.W.topGo PySem.treeTable pH w 11 (some (.ref 6)) 12 ⟨h0H w.params, #[], {}, 181, os⟩ (PySem.W.topStub pH) = some (⟨h1H w.params, #[], {}, 187, os⟩, ⟨denote PySem.treeTable (.body bdH evH), cH, ⟨0, 0, 0, 0⟩, tpH⟩) := by kernel_rfl
theorem r2H (w : World) (os : OsState) : PySem.W.segRun PySem.treeTable pH w 11 (some (.ref 6)) 1 1 ⟨h1H w.params, #[], {}, 187, os⟩ (PySem.W.blockOf bdH evH cH ⟨0, 0, 0, 0⟩ tpH) = some (.next, ⟨h1H w.params, #[], {}, 187, os⟩, cH, ⟨0, 0, 0, 0⟩) := by kernel_rfl
theorem c1H (w : World) (os : OsState) : PySem.W.segRun PySem.treeTable pH w 11 (some (.ref 6)) 1 967 ⟨h1H w.params, #[], {}, 187, os⟩ (PySem.W.piecesOf (bdH.take 5) evH cH ⟨0, 0, 0, 0⟩ tpH) = some (.next, ⟨k1H w.params, #[], {}, 292, os⟩, cH, ⟨15, 0, 18, 45⟩) := by kernel_rfl
theorem c2H (w : World) (os : OsState) : PySem.W.segRun PySem.treeTable pH w 11 (some (.ref 6)) 1 705 ⟨k1H w.params, #[], {}, 292, os⟩ (PySem.W.piecesOf ((bdH.drop 5).take 23) evH cH ⟨15, 0, 18, 45⟩ tpH) = some (.next, ⟨k2H w.params, #[], {}, 441, os⟩, cH, ⟨86, 0, 87, 91⟩) := by kernel_rfl
theorem c3H (w : World) (os : OsState) : PySem.W.segRun PySem.treeTable pH w 11 (some (.ref 6)) 1 977 ⟨k2H w.params, #[], {}, 441, os⟩ (PySem.W.piecesOf (((bdH.drop 5).drop 23).take 19) evH cH ⟨86, 0, 87, 91⟩ tpH) = some (.next, ⟨k3H w.params, #[], {}, 685, os⟩, cH, ⟨215, 0, 222, 21⟩) := by kernel_rfl
theorem c4H (w : World) (os : OsState) : PySem.W.segRun PySem.treeTable pH w 11 (some (.ref 6)) 1 169 ⟨k3H w.params, #[], {}, 685, os⟩ (PySem.W.piecesOf ((((bdH.drop 5).drop 23).drop 19).take 5) evH cH ⟨215, 0, 222, 21⟩ tpH) = some (.next, ⟨k4H w.params, #[], {}, 745, os⟩, cH, ⟨254, 0, 284, 129⟩) := by kernel_rfl
theorem e0H : ((((bdH.drop 5).drop 23).drop 19).drop 5) = [] := by kernel_rfl
theorem r9H (w : World) (os : OsState) : PySem.W.topRun PySem.treeTable pH w 11 (some (.ref 6)) 2 ⟨k4H w.params, #[], {}, 745, os⟩ ⟨PySem.W.doneF .next, cH, ⟨254, 0, 284, 129⟩, tpH⟩ = some ⟨k4H w.params, #[], {}, 745, os⟩ := by kernel_rfl
theorem rnH (w : World) (os : OsState) : PySem.W.topRun PySem.treeTable pH w 11 (some (.ref 6)) (12 + (1 + (967 + (705 + (977 + (169 + 2)))))) ⟨h0H w.params, #[], {}, 181, os⟩ (PySem.W.topStub pH) = some ⟨k4H w.params, #[], {}, 745, os⟩ := PySem.W.go_top (r1H w os) (PySem.W.piece_block (r2H w os) (jd 5 (c1H w os) (jd 23 (c2H w os) (jd 19 (c3H w os) (jd 5 (c4H w os) (vO e0H (r9H w os)))))))
theorem hlH : PySem.W.LeftO pH qH loH xtH (PySem.W.Hook.obs hkH) (PySem.W.Hook.val hkH) 5754 := PySem.W.LeftO.of_pieces (H₀ := h0H) (H₁ := k4H) opH szH rnH (by decide +kernel) fun w => by kernel_rfl
theorem wsH : PySem.W.OpenLaw.wellSaid PySem.Challenge.rw_edgetally_k29_parts_go_together = true := by decide +kernel
theorem okH : (PySem.W.chainsOk qH && PySem.W.opensWell (PySem.W.RowW.prog (PySem.W.OpenRow.toRowW (PySem.W.OpenLaw.row PySem.Challenge.rw_edgetally_k29_parts_go_together))) && (PySem.W.frees (PySem.W.OpenRow.toRowW (PySem.W.OpenLaw.row PySem.Challenge.rw_edgetally_k29_parts_go_together)) && (PySem.W.RowW.within (PySem.W.OpenRow.toRowW (PySem.W.OpenLaw.row PySem.Challenge.rw_edgetally_k29_parts_go_together))).isEmpty)) = true := by decide +kernel
abbrev adH : Ad := { C_EdgeError := 31, x_EdgeError := 28, y_EdgeError := FN "__init__" "EdgeError.__init__" (az (top 1) 0) .none .none .none (.str "edgetally.errors" 187) none (.ref 27) .none, C_BadSums := 52, x_BadSums := 49, y_BadSums := FN "__init__" "BadSums.__init__" (az (top 2) 0) (.ref 42) .none .none (.str "edgetally.errors" 187) none (.ref 48) .none, C_BadRule := 72, x_BadRule := 69, y_BadRule := FN "__init__" "BadRule.__init__" (az (top 3) 0) (.ref 62) .none .none (.str "edgetally.errors" 187) none (.ref 68) .none, C_BadCell := 92, x_BadCell := 89, y_BadCell := FN "__init__" "BadCell.__init__" (az (top 4) 0) (.ref 82) .none .none (.str "edgetally.errors" 187) none (.ref 88) .none, C_BadNumber := 112, x_BadNumber := 109, y_BadNumber := FN "__init__" "BadNumber.__init__" (az (top 5) 0) (.ref 102) .none .none (.str "edgetally.errors" 187) none (.ref 108) .none, C_Measure := 258, f_check_sums := 119, d_check_sums := FN "check_sums" "check_sums" (top 10) .none .none .none (.str "edgetally.bounds" 317) none (.ref 118) .none, f_check_there := 126, d_check_there := FN "check_there" "check_there" (top 11) .none .none .none (.str "edgetally.bounds" 317) none (.ref 125) .none, f_check_cell := 133, d_check_cell := FN "check_cell" "check_cell" (top 12) .none .none .none (.str "edgetally.bounds" 317) none (.ref 132) .none, f_rows_turned := 138, d_rows_turned := FN "rows_turned" "rows_turned" (top 13) .none .none .none (.str "edgetally.bounds" 317) none (.ref 137) .none, f_factorial := 145, d_factorial := FN "factorial" "factorial" (top 15) .none .none .none (.str "edgetally.counts" 355) none (.ref 144) .none, f_power := 152, d_power := FN "power" "power" (top 16) .none .none .none (.str "edgetally.counts" 355) none (.ref 151) .none, f_ways := 159, d_ways := FN "ways" "ways" (top 17) .none .none .none (.str "edgetally.counts" 355) none (.ref 158) .none, f_common_factor := 166, d_common_factor := FN "common_factor" "common_factor" (top 18) .none .none .none (.str "edgetally.counts" 355) none (.ref 165) .none, f_least_common := 177, d_least_common := FN "least_common" "least_common" (top 24) .none .none .none (.str "edgetally.measures" 393) none (.ref 176) .none, f_power_part := 184, d_power_part := FN "power_part" "power_part" (top 25) .none .none .none (.str "edgetally.measures" 393) none (.ref 183) .none, f_square_part := 189, d_square_part := FN "square_part" "square_part" (top 26) .none .none .none (.str "edgetally.measures" 393) none (.ref 188) .none, f_off_part := 194, d_off_part := FN "off_part" "off_part" (top 27) .none .none .none (.str "edgetally.measures" 393) none (.ref 193) .none, f_l_bag := 267, d_l_bag := FN "_law_bag" "_law_bag" (top 30) .none .none .none (.str "law_edgetally_k29_parts_go_together" 531) none (.ref 266) .none, f_l_pull := 274, d_l_pull := FN "_law_pull" "_law_pull" (top 31) .none .none .none (.str "law_edgetally_k29_parts_go_together" 531) none (.ref 273) .none, f_l_same := 279, d_l_same := FN "_law_same" "_law_same" (top 32) .none .none .none (.str "law_edgetally_k29_parts_go_together" 531) none (.ref 278) .none, f_l_turned := 284, d_l_turned := FN "_law_turned" "_law_turned" (top 33) .none .none .none (.str "law_edgetally_k29_parts_go_together" 531) none (.ref 283) .none, f_l_rowsums := 289, d_l_rowsums := FN "_law_rowsums" "_law_rowsums" (top 34) .none .none .none (.str "law_edgetally_k29_parts_go_together" 531) none (.ref 288) .none, f_l_columnsums := 294, d_l_columnsums := FN "_law_columnsums" "_law_columnsums" (top 35) .none .none .none (.str "law_edgetally_k29_parts_go_together" 531) none (.ref 293) .none, f_l_copied := 299, d_l_copied := FN "_law_copied" "_law_copied" (top 36) .none .none .none (.str "law_edgetally_k29_parts_go_together" 531) none (.ref 298) .none, f_l_factorial := 306, d_l_factorial := FN "_law_factorial" "_law_factorial" (top 37) .none .none .none (.str "law_edgetally_k29_parts_go_together" 531) none (.ref 305) .none, f_l_ways := 313, d_l_ways := FN "_law_ways" "_law_ways" (top 38) .none .none .none (.str "law_edgetally_k29_parts_go_together" 531) none (.ref 312) .none, f_l_weight := 320, d_l_weight := FN "_law_weight" "_law_weight" (top 39) .none .none .none (.str "law_edgetally_k29_parts_go_together" 531) none (.ref 319) .none, f_l_gcd := 327, d_l_gcd := FN "_law_gcd" "_law_gcd" (top 40) .none .none .none (.str "law_edgetally_k29_parts_go_together" 531) none (.ref 326) .none, f_l_kind := 334, d_l_kind := FN "_law_kind" "_law_kind" (top 41) .none .none .none (.str "law_edgetally_k29_parts_go_together" 531) none (.ref 333) .none, f_l_place := 341, d_l_place := FN "_law_place" "_law_place" (top 42) .none .none .none (.str "law_edgetally_k29_parts_go_together" 531) none (.ref 340) .none, f_l_even := 348, d_l_even := FN "_law_even" "_law_even" (top 43) .none .none .none (.str "law_edgetally_k29_parts_go_together" 531) none (.ref 347) .none, f_l_self_power := 355, d_l_self_power := FN "_law_self_power" "_law_self_power" (top 44) .none .none .none (.str "law_edgetally_k29_parts_go_together" 531) none (.ref 354) .none, f_l_square := 362, d_l_square := FN "_law_square" "_law_square" (top 45) .none .none .none (.str "law_edgetally_k29_parts_go_together" 531) none (.ref 361) .none, f_l_off := 369, d_l_off := FN "_law_off" "_law_off" (top 46) .none .none .none (.str "law_edgetally_k29_parts_go_together" 531) none (.ref 368) .none, f_l_value := 376, d_l_value := FN "_law_value" "_law_value" (top 47) .none .none .none (.str "law_edgetally_k29_parts_go_together" 531) none (.ref 375) .none, f_l_beyond := 383, d_l_beyond := FN "_law_beyond" "_law_beyond" (top 48) .none .none .none (.str "law_edgetally_k29_parts_go_together" 531) none (.ref 382) .none, f_l_scale := 390, d_l_scale := FN "_law_scale" "_law_scale" (top 49) .none .none .none (.str "law_edgetally_k29_parts_go_together" 531) none (.ref 389) .none, f_l_any := 395, d_l_any := FN "_law_any" "_law_any" (top 50) .none .none .none (.str "law_edgetally_k29_parts_go_together" 531) none (.ref 394) .none, f_Measure___init__ := 208, d_Measure___init__ := FN "__init__" "Measure.__init__" (az (top 28) 0) .none (.ref 203) .none (.str "edgetally.measures" 393) none (.ref 207) .none, f_Measure_begun := 241, d_Measure_begun := FN "begun" "Measure.begun" (az (top 28) 5) .none .none .none (.str "edgetally.measures" 393) none (.ref 240) .none, f_Measure_part := 227, d_Measure_part := FN "part" "Measure.part" (az (top 28) 3) .none .none .none (.str "edgetally.measures" 393) none (.ref 226) .none, f_Measure_beyond := 255, d_Measure_beyond := FN "beyond" "Measure.beyond" (az (top 28) 7) .none .none .none (.str "edgetally.measures" 393) none (.ref 254) .none, f_Measure_together := 234, d_Measure_together := FN "together" "Measure.together" (az (top 28) 4) .none .none .none (.str "edgetally.measures" 393) none (.ref 233) .none, f_Measure_of := 248, d_Measure_of := FN "of" "Measure.of" (az (top 28) 6) .none .none .none (.str "edgetally.measures" 393) none (.ref 247) .none, f_law := 402, d_law := FN "law" "law" (top 51) .none .none .none (.str "law_edgetally_k29_parts_go_together" 531) none (.ref 401) .none }
section
variable {P : Params} {h : Heap} {mg : Str -> Option Value}
theorem fH {x q : Str} {s : Stmt} {f : Addr} {dV kV dc pm cd ct : Value} {an : Option Addr} (l : (KH P).lookup f = some (fO (FN x q s dV kV dc pm an cd ct))) (c : PySem.W.codeIn (KH P) cd q = true) (k : PySem.W.keepIn (KH P) (.ref f) = true) : FunD (KH P) x q s f (FN x q s dV kV dc pm an cd ct) := zX l c k
theorem nH (X : (KH P).In h) (G : h.Ns mainGlobals mg) : Fns (KH P) mg adH where
 n_ValueError := PySem.W.mg_none_of X G (by kernel_rfl)
 n_abs := PySem.W.mg_none_of X G (by kernel_rfl)
 n_any := PySem.W.mg_none_of X G (by kernel_rfl)
 n_bool := PySem.W.mg_none_of X G (by kernel_rfl)
 n_enumerate := PySem.W.mg_none_of X G (by kernel_rfl)
 n_int := PySem.W.mg_none_of X G (by kernel_rfl)
 n_isinstance := PySem.W.mg_none_of X G (by kernel_rfl)
 n_len := PySem.W.mg_none_of X G (by kernel_rfl)
 n_list := PySem.W.mg_none_of X G (by kernel_rfl)
 n_min := PySem.W.mg_none_of X G (by kernel_rfl)
 n_range := PySem.W.mg_none_of X G (by kernel_rfl)
 n_str := PySem.W.mg_none_of X G (by kernel_rfl)
 n_sum := PySem.W.mg_none_of X G (by kernel_rfl)
 n_tuple := PySem.W.mg_none_of X G (by kernel_rfl)
 n_zip := PySem.W.mg_none_of X G (by kernel_rfl)
 g_BY_PLACE := gO (u := (.ref 169)) (PySem.W.mg_of X G (by kernel_rfl)) (j5 (p := 169) (q1 := (.type "tuple")) (q2 := none) (q3 := #[(.str "most" 405), (.str "least" 406)]) (q4 := 0) (q5 := #[]) (by kernel_rfl) rfl (by decide) (by repeat (first | exact trivial | refine ⟨rfl, ?_⟩)))
 g_BY_PRODUCT := gO (u := (.ref 168)) (PySem.W.mg_of X G (by kernel_rfl)) (j5 (p := 168) (q1 := (.type "tuple")) (q2 := none) (q3 := #[(.str "rare" 402), (.str "power" 403)]) (q4 := 0) (q5 := #[]) (by kernel_rfl) rfl (by decide) (by repeat (first | exact trivial | refine ⟨rfl, ?_⟩)))
 g_KINDS := gO (u := (.ref 167)) (PySem.W.mg_of X G (by kernel_rfl)) (j5 (p := 167) (q1 := (.type "tuple")) (q2 := none) (q3 := #[(.str "rare" 395), (.str "square" 396), (.str "power" 397), (.str "off" 398), (.str "most" 399), (.str "least" 400)]) (q4 := 0) (q5 := #[]) (by kernel_rfl) rfl (by decide) (by repeat (first | exact trivial | refine ⟨rfl, ?_⟩)))
 g_LESS_IS_STRANGER := gO (u := (.ref 170)) (PySem.W.mg_of X G (by kernel_rfl)) (j5 (p := 170) (q1 := (.type "tuple")) (q2 := none) (q3 := #[(.str "rare" 408), (.str "least" 409)]) (q4 := 0) (q5 := #[]) (by kernel_rfl) rfl (by decide) (by repeat (first | exact trivial | refine ⟨rfl, ?_⟩)))
 g_MOST := gO (u := (.int 40 319)) (PySem.W.mg_of X G (by kernel_rfl)) mk
 g_MOST_COLUMNS := gO (u := (.int 6 323)) (PySem.W.mg_of X G (by kernel_rfl)) mk
 g_MOST_ROWS := gO (u := (.int 4 321)) (PySem.W.mg_of X G (by kernel_rfl)) mk
 F_check_sums := fH (by kernel_rfl) (by kernel_rfl) (by kernel_rfl)
 m_check_sums := PySem.W.mg_of X G (by kernel_rfl)
 b_check_sums := .all fun us hl => by obtain ⟨_, _, rfl⟩ := lU2 hl; rfl
 F_check_there := fH (by kernel_rfl) (by kernel_rfl) (by kernel_rfl)
 m_check_there := PySem.W.mg_of X G (by kernel_rfl)
 b_check_there := .all fun us hl => by obtain ⟨_, _, rfl⟩ := lU2 hl; rfl
 F_check_cell := fH (by kernel_rfl) (by kernel_rfl) (by kernel_rfl)
 m_check_cell := PySem.W.mg_of X G (by kernel_rfl)
 b_check_cell := .all fun us hl => by obtain ⟨_, _, _, _, rfl⟩ := lU4 hl; rfl
 F_rows_turned := fH (by kernel_rfl) (by kernel_rfl) (by kernel_rfl)
 m_rows_turned := PySem.W.mg_of X G (by kernel_rfl)
 b_rows_turned := .all fun us hl => by obtain ⟨_, rfl⟩ := lU1 hl; rfl
 F_factorial := fH (by kernel_rfl) (by kernel_rfl) (by kernel_rfl)
 m_factorial := PySem.W.mg_of X G (by kernel_rfl)
 b_factorial := .all fun us hl => by obtain ⟨_, rfl⟩ := lU1 hl; rfl
 F_power := fH (by kernel_rfl) (by kernel_rfl) (by kernel_rfl)
 m_power := PySem.W.mg_of X G (by kernel_rfl)
 b_power := .all fun us hl => by obtain ⟨_, _, rfl⟩ := lU2 hl; rfl
 F_ways := fH (by kernel_rfl) (by kernel_rfl) (by kernel_rfl)
 m_ways := PySem.W.mg_of X G (by kernel_rfl)
 b_ways := .all fun us hl => by obtain ⟨_, rfl⟩ := lU1 hl; rfl
 F_common_factor := fH (by kernel_rfl) (by kernel_rfl) (by kernel_rfl)
 m_common_factor := PySem.W.mg_of X G (by kernel_rfl)
 b_common_factor := .all fun us hl => by obtain ⟨_, _, rfl⟩ := lU2 hl; rfl
 F_least_common := fH (by kernel_rfl) (by kernel_rfl) (by kernel_rfl)
 m_least_common := PySem.W.mg_of X G (by kernel_rfl)
 b_least_common := .all fun us hl => by obtain ⟨_, rfl⟩ := lU1 hl; rfl
 F_power_part := fH (by kernel_rfl) (by kernel_rfl) (by kernel_rfl)
 m_power_part := PySem.W.mg_of X G (by kernel_rfl)
 b_power_part := .all fun us hl => by obtain ⟨_, rfl⟩ := lU1 hl; rfl
 F_square_part := fH (by kernel_rfl) (by kernel_rfl) (by kernel_rfl)
 m_square_part := PySem.W.mg_of X G (by kernel_rfl)
 b_square_part := .all fun us hl => by obtain ⟨_, _, _, rfl⟩ := lU3 hl; rfl
 F_off_part := fH (by kernel_rfl) (by kernel_rfl) (by kernel_rfl)
 m_off_part := PySem.W.mg_of X G (by kernel_rfl)
 b_off_part := .all fun us hl => by obtain ⟨_, _, _, rfl⟩ := lU3 hl; rfl
 F_l_bag := fH (by kernel_rfl) (by kernel_rfl) (by kernel_rfl)
 m_l_bag := PySem.W.mg_of X G (by kernel_rfl)
 b_l_bag := .all fun us hl => by obtain ⟨_, rfl⟩ := lU1 hl; rfl
 F_l_pull := fH (by kernel_rfl) (by kernel_rfl) (by kernel_rfl)
 m_l_pull := PySem.W.mg_of X G (by kernel_rfl)
 b_l_pull := .all fun us hl => by obtain ⟨_, _, rfl⟩ := lU2 hl; rfl
 F_l_same := fH (by kernel_rfl) (by kernel_rfl) (by kernel_rfl)
 m_l_same := PySem.W.mg_of X G (by kernel_rfl)
 b_l_same := .all fun us hl => by obtain ⟨_, _, rfl⟩ := lU2 hl; rfl
 F_l_turned := fH (by kernel_rfl) (by kernel_rfl) (by kernel_rfl)
 m_l_turned := PySem.W.mg_of X G (by kernel_rfl)
 b_l_turned := .all fun us hl => by obtain ⟨_, rfl⟩ := lU1 hl; rfl
 F_l_rowsums := fH (by kernel_rfl) (by kernel_rfl) (by kernel_rfl)
 m_l_rowsums := PySem.W.mg_of X G (by kernel_rfl)
 b_l_rowsums := .all fun us hl => by obtain ⟨_, rfl⟩ := lU1 hl; rfl
 F_l_columnsums := fH (by kernel_rfl) (by kernel_rfl) (by kernel_rfl)
 m_l_columnsums := PySem.W.mg_of X G (by kernel_rfl)
 b_l_columnsums := .all fun us hl => by obtain ⟨_, rfl⟩ := lU1 hl; rfl
 F_l_copied := fH (by kernel_rfl) (by kernel_rfl) (by kernel_rfl)
 m_l_copied := PySem.W.mg_of X G (by kernel_rfl)
 b_l_copied := .all fun us hl => by obtain ⟨_, rfl⟩ := lU1 hl; rfl
 F_l_factorial := fH (by kernel_rfl) (by kernel_rfl) (by kernel_rfl)
 m_l_factorial := PySem.W.mg_of X G (by kernel_rfl)
 b_l_factorial := .all fun us hl => by obtain ⟨_, rfl⟩ := lU1 hl; rfl
 F_l_ways := fH (by kernel_rfl) (by kernel_rfl) (by kernel_rfl)
 m_l_ways := PySem.W.mg_of X G (by kernel_rfl)
 b_l_ways := .all fun us hl => by obtain ⟨_, rfl⟩ := lU1 hl; rfl
 F_l_weight := fH (by kernel_rfl) (by kernel_rfl) (by kernel_rfl)
 m_l_weight := PySem.W.mg_of X G (by kernel_rfl)
 b_l_weight := .all fun us hl => by obtain ⟨_, rfl⟩ := lU1 hl; rfl
 F_l_gcd := fH (by kernel_rfl) (by kernel_rfl) (by kernel_rfl)
 m_l_gcd := PySem.W.mg_of X G (by kernel_rfl)
 b_l_gcd := .all fun us hl => by obtain ⟨_, _, rfl⟩ := lU2 hl; rfl
 F_l_kind := fH (by kernel_rfl) (by kernel_rfl) (by kernel_rfl)
 m_l_kind := PySem.W.mg_of X G (by kernel_rfl)
 b_l_kind := .all fun us hl => by obtain ⟨_, rfl⟩ := lU1 hl; rfl
 F_l_place := fH (by kernel_rfl) (by kernel_rfl) (by kernel_rfl)
 m_l_place := PySem.W.mg_of X G (by kernel_rfl)
 b_l_place := .all fun us hl => by obtain ⟨_, _, rfl⟩ := lU2 hl; rfl
 F_l_even := fH (by kernel_rfl) (by kernel_rfl) (by kernel_rfl)
 m_l_even := PySem.W.mg_of X G (by kernel_rfl)
 b_l_even := .all fun us hl => by obtain ⟨_, _, rfl⟩ := lU2 hl; rfl
 F_l_self_power := fH (by kernel_rfl) (by kernel_rfl) (by kernel_rfl)
 m_l_self_power := PySem.W.mg_of X G (by kernel_rfl)
 b_l_self_power := .all fun us hl => by obtain ⟨_, rfl⟩ := lU1 hl; rfl
 F_l_square := fH (by kernel_rfl) (by kernel_rfl) (by kernel_rfl)
 m_l_square := PySem.W.mg_of X G (by kernel_rfl)
 b_l_square := .all fun us hl => by obtain ⟨_, _, _, rfl⟩ := lU3 hl; rfl
 F_l_off := fH (by kernel_rfl) (by kernel_rfl) (by kernel_rfl)
 m_l_off := PySem.W.mg_of X G (by kernel_rfl)
 b_l_off := .all fun us hl => by obtain ⟨_, _, _, rfl⟩ := lU3 hl; rfl
 F_l_value := fH (by kernel_rfl) (by kernel_rfl) (by kernel_rfl)
 m_l_value := PySem.W.mg_of X G (by kernel_rfl)
 b_l_value := .all fun us hl => by obtain ⟨_, _, _, _, _, rfl⟩ := lU5 hl; rfl
 F_l_beyond := fH (by kernel_rfl) (by kernel_rfl) (by kernel_rfl)
 m_l_beyond := PySem.W.mg_of X G (by kernel_rfl)
 b_l_beyond := .all fun us hl => by obtain ⟨_, _, _, rfl⟩ := lU3 hl; rfl
 F_l_scale := fH (by kernel_rfl) (by kernel_rfl) (by kernel_rfl)
 m_l_scale := PySem.W.mg_of X G (by kernel_rfl)
 b_l_scale := .all fun us hl => by obtain ⟨_, _, _, rfl⟩ := lU3 hl; rfl
 F_l_any := fH (by kernel_rfl) (by kernel_rfl) (by kernel_rfl)
 m_l_any := PySem.W.mg_of X G (by kernel_rfl)
 b_l_any := .all fun us hl => by obtain ⟨_, rfl⟩ := lU1 hl; rfl
 F_Measure___init__ := fH (by kernel_rfl) (by kernel_rfl) (by kernel_rfl)
 mk_Measure := ⟨by kernel_rfl, by kernel_rfl, by kernel_rfl, by kernel_rfl⟩
 kb_place_Measure___init__ := Ek (sv := [.kw 0]) (.kw .nil) rfl (by decide) fun s us ws KX h1 h2 => by obtain ⟨u0, u1, u2, u3, rfl⟩ := lU4 h1; obtain ⟨w0, rfl⟩ := lU1 h2; exact .of_eq rfl
 F_Measure_begun := fH (by kernel_rfl) (by kernel_rfl) (by kernel_rfl)
 mt_Measure_begun := ⟨by kernel_rfl, by kernel_rfl, by kernel_rfl⟩
 b_Measure_begun := .all fun us hl => by obtain ⟨_, rfl⟩ := lU1 hl; rfl
 F_Measure_part := fH (by kernel_rfl) (by kernel_rfl) (by kernel_rfl)
 mt_Measure_part := ⟨by kernel_rfl, by kernel_rfl, by kernel_rfl⟩
 b_Measure_part := .all fun us hl => by obtain ⟨_, _, _, rfl⟩ := lU3 hl; rfl
 F_Measure_beyond := fH (by kernel_rfl) (by kernel_rfl) (by kernel_rfl)
 mt_Measure_beyond := ⟨by kernel_rfl, by kernel_rfl, by kernel_rfl⟩
 b_Measure_beyond := .all fun us hl => by obtain ⟨_, _, _, rfl⟩ := lU3 hl; rfl
 F_Measure_together := fH (by kernel_rfl) (by kernel_rfl) (by kernel_rfl)
 mt_Measure_together := ⟨by kernel_rfl, by kernel_rfl, by kernel_rfl⟩
 b_Measure_together := .all fun us hl => by obtain ⟨_, _, _, rfl⟩ := lU3 hl; rfl
 F_Measure_of := fH (by kernel_rfl) (by kernel_rfl) (by kernel_rfl)
 mt_Measure_of := ⟨by kernel_rfl, by kernel_rfl, by kernel_rfl⟩
 b_Measure_of := .all fun us hl => by obtain ⟨_, _, rfl⟩ := lU2 hl; rfl
 cl_Measure := ⟨by kernel_rfl, by kernel_rfl, by kernel_rfl, by kernel_rfl⟩
 m_Measure := PySem.W.mg_of X G (by kernel_rfl)
 na_Measure_column_list := show PySem.W.findIn (KH P) _ _ = _ by kernel_rfl
 na_Measure_even := show PySem.W.findIn (KH P) _ _ = _ by kernel_rfl
 na_Measure_kind := show PySem.W.findIn (KH P) _ _ = _ by kernel_rfl
 na_Measure_place := show PySem.W.findIn (KH P) _ _ = _ by kernel_rfl
 na_Measure_row_list := show PySem.W.findIn (KH P) _ _ = _ by kernel_rfl
 FX_EdgeError := fH (by kernel_rfl) (by kernel_rfl) (by kernel_rfl)
 b_EdgeError := .all fun us hl => by obtain ⟨_, _, _, rfl⟩ := lU3 hl; rfl
 m_EdgeError := PySem.W.mg_of X G (by kernel_rfl)
 FX_BadSums := fH (by kernel_rfl) (by kernel_rfl) (by kernel_rfl)
 b_BadSums := fun s us KX hl => by rw [List.append_nil] at hl; obtain ⟨_, _, rfl⟩ := lU2 hl; exact BindsTo.of_defaults (T := 42) rfl (KX _ _ (show (KH P).lookup 42 = some (tO [(.str "these sums are no table's" 229)]) by kernel_rfl)) rfl rfl rfl
 m_BadSums := PySem.W.mg_of X G (by kernel_rfl)
 xm_BadSums := ⟨oh (N := 51) (nm := "BadSums") (q := "BadSums") (bs := [(.ref 31)]) (bm := [(.ref 31), (.type "ValueError"), (.type "Exception"), (.type "BaseException"), (.type "object")]) (hdct := true) (sn := []) (sub := []) (ab := false) (col := none) (dd := none) (k0 := (some (.ref 35))) (k1 := none) (k2 := (some (.str "BadSums" 217))) (k3 := (some (.str "BadSums" 225))) (k5 := (some (.bool true))) (cd := ⟨"BadSums", [(.ref 31)], [(.ref 52), (.ref 31), (.type "ValueError"), (.type "Exception"), (.type "BaseException"), (.type "object")], 51, "BadSums", true, [], [], false, none, false⟩) (by kernel_rfl) (by kernel_rfl) (by kernel_rfl) (by kernel_rfl), by kernel_rfl, by kernel_rfl, by kernel_rfl⟩
 w_BadSums := by kernel_rfl
 FX_BadRule := fH (by kernel_rfl) (by kernel_rfl) (by kernel_rfl)
 b_BadRule := fun s us KX hl => by rw [List.append_nil] at hl; obtain ⟨_, _, rfl⟩ := lU2 hl; exact BindsTo.of_defaults (T := 62) rfl (KX _ _ (show (KH P).lookup 62 = some (tO [(.str "there is no such rule" 254)]) by kernel_rfl)) rfl rfl rfl
 m_BadRule := PySem.W.mg_of X G (by kernel_rfl)
 xm_BadRule := ⟨oh (N := 71) (nm := "BadRule") (q := "BadRule") (bs := [(.ref 31)]) (bm := [(.ref 31), (.type "ValueError"), (.type "Exception"), (.type "BaseException"), (.type "object")]) (hdct := true) (sn := []) (sub := []) (ab := false) (col := none) (dd := none) (k0 := (some (.ref 55))) (k1 := none) (k2 := (some (.str "BadRule" 242))) (k3 := (some (.str "BadRule" 250))) (k5 := (some (.bool true))) (cd := ⟨"BadRule", [(.ref 31)], [(.ref 72), (.ref 31), (.type "ValueError"), (.type "Exception"), (.type "BaseException"), (.type "object")], 71, "BadRule", true, [], [], false, none, false⟩) (by kernel_rfl) (by kernel_rfl) (by kernel_rfl) (by kernel_rfl), by kernel_rfl, by kernel_rfl, by kernel_rfl⟩
 w_BadRule := by kernel_rfl
 FX_BadCell := fH (by kernel_rfl) (by kernel_rfl) (by kernel_rfl)
 b_BadCell := fun s us KX hl => by rw [List.append_nil] at hl; obtain ⟨_, _, rfl⟩ := lU2 hl; exact BindsTo.of_defaults (T := 82) rfl (KX _ _ (show (KH P).lookup 82 = some (tO [(.str "there is no such cell" 279)]) by kernel_rfl)) rfl rfl rfl
 m_BadCell := PySem.W.mg_of X G (by kernel_rfl)
 xm_BadCell := ⟨oh (N := 91) (nm := "BadCell") (q := "BadCell") (bs := [(.ref 31)]) (bm := [(.ref 31), (.type "ValueError"), (.type "Exception"), (.type "BaseException"), (.type "object")]) (hdct := true) (sn := []) (sub := []) (ab := false) (col := none) (dd := none) (k0 := (some (.ref 75))) (k1 := none) (k2 := (some (.str "BadCell" 267))) (k3 := (some (.str "BadCell" 275))) (k5 := (some (.bool true))) (cd := ⟨"BadCell", [(.ref 31)], [(.ref 92), (.ref 31), (.type "ValueError"), (.type "Exception"), (.type "BaseException"), (.type "object")], 91, "BadCell", true, [], [], false, none, false⟩) (by kernel_rfl) (by kernel_rfl) (by kernel_rfl) (by kernel_rfl), by kernel_rfl, by kernel_rfl, by kernel_rfl⟩
 w_BadCell := by kernel_rfl
 FX_BadNumber := fH (by kernel_rfl) (by kernel_rfl) (by kernel_rfl)
 b_BadNumber := fun s us KX hl => by rw [List.append_nil] at hl; obtain ⟨_, _, rfl⟩ := lU2 hl; exact BindsTo.of_defaults (T := 102) rfl (KX _ _ (show (KH P).lookup 102 = some (tO [(.str "this number is out of its bounds" 304)]) by kernel_rfl)) rfl rfl rfl
 m_BadNumber := PySem.W.mg_of X G (by kernel_rfl)
 xm_BadNumber := ⟨oh (N := 111) (nm := "BadNumber") (q := "BadNumber") (bs := [(.ref 31)]) (bm := [(.ref 31), (.type "ValueError"), (.type "Exception"), (.type "BaseException"), (.type "object")]) (hdct := true) (sn := []) (sub := []) (ab := false) (col := none) (dd := none) (k0 := (some (.ref 95))) (k1 := none) (k2 := (some (.str "BadNumber" 292))) (k3 := (some (.str "BadNumber" 300))) (k5 := (some (.bool true))) (cd := ⟨"BadNumber", [(.ref 31)], [(.ref 112), (.ref 31), (.type "ValueError"), (.type "Exception"), (.type "BaseException"), (.type "object")], 111, "BadNumber", true, [], [], false, none, false⟩) (by kernel_rfl) (by kernel_rfl) (by kernel_rfl) (by kernel_rfl), by kernel_rfl, by kernel_rfl, by kernel_rfl⟩
 w_BadNumber := by kernel_rfl
 cE := ⟨by kernel_rfl, by kernel_rfl, by kernel_rfl, by kernel_rfl⟩
end
theorem wlkH : PySem.W.WalkO qH loH (PySem.W.XL qH lvH) (PySem.W.Hook.says hkH) (PySem.W.OpenRow.toRowW (PySem.W.OpenLaw.row PySem.Challenge.rw_edgetally_k29_parts_go_together)) (Option.get (PySem.W.defOf qH "law") rfl).1 [] (fun f vs => PySem.call f vs) :=
 L2.walk_of (n := 63) (k := 9) (x := "_law_script") (CX := fun w => CXE _ w) (sp := fun w => yx (KH w.params)) rfl (by decide) rfl ⟨rfl, by decide, by decide⟩ (fun w h Y => PySem.W.kIn_of Y) (fun w mg fa h KX G hmg => by
  have e := hmg.symm.trans (PySem.W.mg_of KX G (v := .ref 402) (by kernel_rfl))
  cases e
  exact ⟨FN "law" "law" (top 51) .none .none .none (.str "law_edgetally_k29_parts_go_together" 531) none (.ref 401) .none, fun s v => .of_eq rfl, fun base _ _ => A4 (a := adH) (fH (by kernel_rfl) (by kernel_rfl) (by kernel_rfl)) (nH KX G) fun β ok => vG (K := KH w.params) (a := adH)  β ok⟩) (fun _ _ a ns hl _ hS => ⟨a, ns, rfl, hS, hl, fun _ => rfl⟩) fun _ _ _ _ _ h => by obtain ⟨x, C, H', _, fl⟩ := h; exact fl.wish
end Law
open PySem PySem.W PyProof.Rows
set_option maxHeartbeats 0 in
theorem PySem.Challenge.cw_edgetally_k29_parts_go_together_holds : PySem.Challenge.rw_edgetally_k29_parts_go_together.Holds := by
 w_on
 refine holds_law Law.wsH fun said => ?_
 refine holds_open (q := Law.qH) (loose := Law.loH) (Xt := Law.xtH) (XP := XL Law.qH Law.lvH) (Yf := Hook.obs Law.hkH) (Ya := Hook.val Law.hkH) (YP := Hook.says Law.hkH) (N := 5754) Law.hlH (Hook.of Law.hkH) (Hook.keeps Law.hkH) (fun s e => xl_of s (Bool.and_eq_true_iff.mp e).1) XL.keeps (by rfl) (by rfl) (by rfl) (fun s e => recFacts_of (Bool.and_eq_true_iff.mp e).2) (by rfl) said Law.okH ⟨rfl, rfl, rfl, rfl, rfl, by decide +kernel⟩ ?hw ?hc
 case hw => w_witness2
 exact Law.wlkH
